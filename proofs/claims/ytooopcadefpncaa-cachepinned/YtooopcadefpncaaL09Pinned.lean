/- The walk of CachePinned: it returns true; no old memory turns. Written by wip/gen09.py. -/
import Derived.Test.YtooopcadefpncaaLaw09
namespace Go.Proofs.Ytooopcadefpncaa
open Go.ChangeShapes Go.WideShapes Go.ChangeAt Go.RowKit
set_option linter.unusedSimpArgs false
set_option linter.unusedVariables false
set_option maxRecDepth 10000

attribute [local go_sem, local simp] over_const setCell_drewN alloc_drewN Over.cell Over.frozen lt_s1 lt_s2 lt_s3 le_s0 le_s1 le_s2 le_s3 eq_s0 eq_s1 eq_s2 qe_s0

set_option maxHeartbeats 2000000 in
theorem CachePinned_walk (s t : Int) (v : Value) (A : List Ac) (pn : Int) (hp : I64 pn) (w : World) (h : ActsAt w.heap.size w v A) : Calls Try.prog 5 #[.agg #[.int .i64 s, .int .i64 t], v, .int .i64 pn] w fun e w' => e = .returned (.bool true) ∧ Below w.heap.size w w' := by
  have hfld := field_n
  have hA := hide h
  obtain ⟨ao, cap, rfl, hlc, hmx, _⟩ := h
  have hmx' : A.length ≤ 9223372036854775807 := by unfold maxLen at hmx; omega
  clear hmx
  go_enter Try.func5, Try.ntmps5
  go_wp2_with fail
  go_at_call 10
  refine (awake9_any _).mono ?_
  rintro e w1 ⟨rfl, hb1⟩
  obtain ⟨X1, hB1, hs1⟩ := box1 hb1
  clear hb1
  replace X1 := hide X1
  go_wp2_with fail
  go_at_call 11
  refine (right_c _ A w1 ((unhide hA).below hB1).up).mono ?_
  rintro e w2 ⟨q, rfl, hb2, hq⟩
  replace X1 := (unhide X1).below hb2
  have hB2 := hB1.trans (hb2.mono hB1.size)
  clear hB1 hb2 hs1
  cases q
  · replace hB2 := hide hB2
    clear X1
    go_wp2_with fail
    go_at_call 10
    refine (awake9_any _).mono ?_
    rintro e w3 ⟨rfl, hb3⟩
    replace hb3 := hide hb3
    go_wp2_with fail
    go_ret
    exact ⟨rfl, (unhide hB2).trans ((unhide hb3).mono (unhide hB2).size)⟩
  have hf : Hid (Fine A) := hq rfl
  have hlen : A.length ≤ 200 := hf.out.1
  clear hq
  by_cases cp : pn < 0
  · replace hB2 := hide hB2
    clear X1
    go_wp2_with fail
    go_at_call 10
    refine (awake9_any _).mono ?_
    rintro e w3 ⟨rfl, hb3⟩
    replace hb3 := hide hb3
    go_wp2_with fail
    go_ret
    exact ⟨rfl, (unhide hB2).trans ((unhide hb3).mono (unhide hB2).size)⟩
  obtain ⟨-, q0, q1⟩ := X1
  replace hB2 := hide hB2
  obtain ⟨S, hS⟩ : ∃ S, Hid (clampZ s 1 64 = S) := ⟨_, rfl⟩
  obtain ⟨W, hW⟩ : ∃ W, Hid (clampZ t 1 16 = W) := ⟨_, rfl⟩
  go_wp2_with fail
  go_at_call 12
  refine (cNew_c s t _).mono ?_
  rw [hS.out, hW.out]
  rintro e w3 ⟨c, F, rfl, hn, hb3, hF⟩
  have hE := hide (CEnv.first (unhide hB2) hn hb3 hF)
  clear hb3 hB2 q0 q1 hn hF
  go_wp2_with fail
  go_loopw [8, 34] (fun n i wr => ∃ (j : Nat) (F : Nat → Prop) (C : Ca), j ≤ A.length ∧ i = .int .i64 j ∧ n = .int .i64 (C.T pn).n ∧ CEnv w wr c F S W (j * 1048576) C) (fun _ i _ => A.length - (intOf i).toNat)
  case atStart => exact ⟨0, F, _, Nat.zero_le _, rfl, rfl, by simpa using unhide hE⟩
  case round =>
    obtain ⟨j, G, C, hj, rfl, rfl, hE2⟩ := hrel
    clear hE
    by_cases hlt : j < A.length
    · have hlt' : (j : Int) < A.length := by omega
      obtain ⟨b, o, rfl, hbB, hbl, ⟨a1, a2⟩, r0, r1, r2, r3, r4, r5, r6, r7, r8, r9, r10, r11, r12⟩ := acts_row ((unhide hA).below hE2.bel) hlt
      obtain ⟨hok, hle⟩ := hf.out.2 _ (List.getElem_mem hlt)
      generalize A[j] = a at r0 r1 r2 r3 r4 r5 r6 r7 r8 r9 r10 r11 r12 a1 a2 hok hle
      replace hok := hide hok
      have hcl := hE2.n.lt
      have hI := hide hE2.n.inv
      replace hE2 := hide hE2
      obtain ⟨⟨r, ok⟩, hg⟩ : ∃ z, Hid (goAb S W C a.bl a.t pn = z) := ⟨_, rfl⟩
      obtain ⟨C', hC⟩ : ∃ C', Hid (nxAb S W C a.bl a.t pn = C') := ⟨_, rfl⟩
      have hpin : ok = true → ¬ r.b = pn := fun e => by subst e; exact ab_pin (unhide hI) (by omega) hg.out
      have hsum : (C'.T pn).n = (C.T pn).n + (if a.bl = pn then a.t.n else 0) := by
        have := (ab_sum (unhide hI) (unhide hok) pn hg.out).1
        rw [hC.out, if_neg (show ¬ (ok = true ∧ r.b = pn) from fun h => hpin h.1 h.2)] at this
        omega
      have hm0 := ((unhide hI).ok pn).1
      have hm1 := (unhide hI).le pn
      have hm2 := (unhide hok).1
      obtain ⟨n0, hn0⟩ : ∃ n0, Hid ((C.T pn).n = n0) := ⟨_, rfl⟩
      obtain ⟨z, hz⟩ : ∃ z, Hid (C'.T pn = z) := ⟨_, rfl⟩
      rw [hn0.out] at hsum hm0 hm1 ⊢
      rw [hz.out] at hsum
      have hwr : IntKind.i64.wrap (n0 + a.t.n) = n0 + a.t.n := wrap_in (by omega) (by omega)
      replace hsum := hide hsum
      replace hpin := hide hpin
      go_wp2_with fail
      go_at_call 14
      refine (cAbsorb_c c G S W (j * 1048576) 1048576 a.bl pn C a.t _ ((unhide hE2).n.alloc _) a1 (unhide hok) hle (by omega) r ok C' hg hC).mono ?_
      rintro e w4 ⟨rfl, G4, hn4, st4⟩
      have hE4 := (unhide hE2).step (belA wr (acO a)) hn4 st4
      have hac := (ac_new wr a).fr st4.fr (fun e => by have := hcl _ e; omega)
      obtain ⟨hal, y0, y1, y2, y3, y4, y5, y6, y7, y8, y9, y10, y11, y12⟩ := hac
      have hE5 : Hid (CEnv w (w4.alloc (.cells #[.int .i64 r.b, .int .i64 r.t.n, .bool r.t.o, .bool r.t.h, .int .i64 r.t.d] 37)) c G4 S W ((j + 1 : Nat) * 1048576) C') := (hE4.quiet (belA _ _)).mono (by omega)
      clear hn4 st4 hE2 hE4 hcl r0 r1 r2 r3 r4 r5 r6 r7 r8 r9 r10 r11 r12
      have hpin2 : ok = true → decide (r.b = pn) = false ∧ (r.b == pn) = false := fun e => by simpa using unhide hpin e
      clear hpin
      by_cases e : a.bl = pn
      · have hz1 : z.n = n0 + a.t.n := by have := unhide hsum; rw [if_pos e] at this; exact this
        cases ok
        · clear hpin2
          go_wp2_with fail
          go_at_call 20
          refine (cGet_c c G4 S W _ pn C' _ (unhide hE5).n hp z hz).mono ?_
          rintro e w6 ⟨rfl, hb6⟩
          have hE6 := hide ((unhide hE5).quiet hb6)
          clear hb6
          go_wp2_with fail
          go_roundw
          case rel => exact ⟨j + 1, G4, C', by omega, by simp, by rw [hz.out, hz1], unhide hE6⟩
          case measure => simp [intOf]; omega
        · obtain ⟨hp1, hp2⟩ := hpin2 rfl
          clear hpin2
          go_wp2_with fail
          go_at_call 20
          refine (cGet_c c G4 S W _ pn C' _ (unhide hE5).n hp z hz).mono ?_
          rintro e w6 ⟨rfl, hb6⟩
          have hE6 := hide ((unhide hE5).quiet hb6)
          clear hb6
          go_wp2_with fail
          go_roundw
          case rel => exact ⟨j + 1, G4, C', by omega, by simp, by rw [hz.out, hz1], unhide hE6⟩
          case measure => simp [intOf]; omega
      · have hz1 : z.n = n0 := by have := unhide hsum; rw [if_neg e] at this; omega
        cases ok
        · clear hpin2
          go_wp2_with fail
          go_at_call 20
          refine (cGet_c c G4 S W _ pn C' _ (unhide hE5).n hp z hz).mono ?_
          rintro e w6 ⟨rfl, hb6⟩
          have hE6 := hide ((unhide hE5).quiet hb6)
          clear hb6
          go_wp2_with fail
          go_roundw
          case rel => exact ⟨j + 1, G4, C', by omega, by simp, by rw [hz.out, hz1], unhide hE6⟩
          case measure => simp [intOf]; omega
        · obtain ⟨hp1, hp2⟩ := hpin2 rfl
          clear hpin2
          go_wp2_with fail
          go_at_call 20
          refine (cGet_c c G4 S W _ pn C' _ (unhide hE5).n hp z hz).mono ?_
          rintro e w6 ⟨rfl, hb6⟩
          have hE6 := hide ((unhide hE5).quiet hb6)
          clear hb6
          go_wp2_with fail
          go_roundw
          case rel => exact ⟨j + 1, G4, C', by omega, by simp, by rw [hz.out, hz1], unhide hE6⟩
          case measure => simp [intOf]; omega
    · obtain rfl : j = A.length := by omega
      have hb := hide hE2.bel
      clear hE2
      go_wp2_with fail
      go_ret
      exact ⟨rfl, unhide hb⟩
end Go.Proofs.Ytooopcadefpncaa
