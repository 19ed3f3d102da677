/- The walk of CacheCopies: it returns true; no old memory turns. Written by wip/gen09.py. -/
import Derived.Test.YtooopcadefpncaaLaw09
import Derived.Test.YtooopcadefpncaaCacY
import Derived.Test.YtooopcadefpncaaCacS
namespace Go.Proofs.Ytooopcadefpncaa
open Go.ChangeShapes Go.WideShapes Go.ChangeAt Go.RowKit
set_option linter.unusedSimpArgs false
set_option linter.unusedVariables false
set_option maxRecDepth 10000

attribute [local go_sem, local simp] over_const setCell_drewN alloc_drewN Over.cell Over.frozen lt_s1 lt_s2 lt_s3 le_s0 le_s1 le_s2 le_s3 eq_s0 eq_s1 eq_s2 qe_s0

set_option maxHeartbeats 2000000 in
theorem CacheCopies_walk (s t : Int) (v : Value) (A : List Ac) (x : Int) (hx : I64 x) (w : World) (h : ActsAt w.heap.size w v A) : Calls Try.prog 9 #[.agg #[.int .i64 s, .int .i64 t], v, .int .i64 x] w fun e w' => e = .returned (.bool true) ∧ Below w.heap.size w w' := by
  have hfld := field_n
  have hA := hide h
  obtain ⟨ao, cap, rfl, hlc, hmx, _⟩ := h
  have hmx' : A.length ≤ 9223372036854775807 := by unfold maxLen at hmx; omega
  clear hmx
  go_enter Try.func9, Try.ntmps9
  go_wp2_with fail
  go_at_call 10
  refine (awake9_any _).mono ?_
  rintro e w1 ⟨rfl, hb1⟩
  obtain ⟨X1, hB1, hs1⟩ := box1 hb1
  clear hb1
  replace X1 := hide X1
  go_wp2_with fail
  go_at_call 11
  refine (right_c _ A w1 ((unhide hA).below hB1).up).mono ?_
  rintro e w2 ⟨q, rfl, hb2, hq⟩
  replace X1 := (unhide X1).below hb2
  have hB2 := hB1.trans (hb2.mono hB1.size)
  clear hB1 hb2 hs1
  cases q
  · replace hB2 := hide hB2
    clear X1
    go_wp2_with fail
    go_at_call 10
    refine (awake9_any _).mono ?_
    rintro e w3 ⟨rfl, hb3⟩
    replace hb3 := hide hb3
    go_wp2_with fail
    go_ret
    exact ⟨rfl, (unhide hB2).trans ((unhide hb3).mono (unhide hB2).size)⟩
  have hf : Hid (Fine A) := hq rfl
  have hlen : A.length ≤ 200 := hf.out.1
  clear hq
  obtain ⟨-, q0, q1⟩ := X1
  replace hB2 := hide hB2
  obtain ⟨S, hS⟩ : ∃ S, Hid (clampZ s 1 64 = S) := ⟨_, rfl⟩
  obtain ⟨W, hW⟩ : ∃ W, Hid (clampZ t 1 16 = W) := ⟨_, rfl⟩
  go_wp2_with fail
  go_at_call 12
  refine (cNew_c s t _).mono ?_
  rw [hS.out, hW.out]
  rintro e w3 ⟨c, F, rfl, hn, hb3, hF⟩
  have hE := hide (CEnv.first (unhide hB2) hn hb3 hF)
  clear hb3 hB2 q0 q1 hn hF
  go_wp2_with fail
  go_loopw [32] (fun i wr => ∃ (j : Nat) (F : Nat → Prop) (C : Ca), j ≤ A.length ∧ i = .int .i64 j ∧ CEnv w wr c F S W (j * 1048576) C) (fun i _ => A.length - (intOf i).toNat)
  case atStart => exact ⟨0, F, _, Nat.zero_le _, rfl, by simpa using unhide hE⟩
  case round =>
    obtain ⟨j, G, C, hj, rfl, hE2⟩ := hrel
    clear hE
    by_cases hlt : j < A.length
    · have hlt' : (j : Int) < A.length := by omega
      obtain ⟨b, o, rfl, hbB, hbl, ⟨a1, a2⟩, r0, r1, r2, r3, r4, r5, r6, r7, r8, r9, r10, r11, r12⟩ := acts_row ((unhide hA).below hE2.bel) hlt
      obtain ⟨hok, hle⟩ := hf.out.2 _ (List.getElem_mem hlt)
      generalize A[j] = a at r0 r1 r2 r3 r4 r5 r6 r7 r8 r9 r10 r11 r12 a1 a2 hok hle
      replace hok := hide hok
      have hcl := hE2.n.lt
      have hI := hide hE2.n.inv
      replace hE2 := hide hE2
      obtain ⟨⟨r, ok⟩, hg⟩ : ∃ z, Hid (goAb S W C a.bl a.t a.pn = z) := ⟨_, rfl⟩
      go_wp2_with fail
      go_at_call 14
      refine (cAbsorb_c c G S W (j * 1048576) 1048576 a.bl a.pn C a.t _ ((unhide hE2).n.alloc _) a1 (unhide hok) hle (by omega) r ok _ hg rfl).mono ?_
      rintro e w4 ⟨rfl, G4, hn4, st4⟩
      have hE4 := hide (((unhide hE2).step (belA wr (acO a)) hn4 st4).mono (M := (j + 1 : Nat) * 1048576) (by omega))
      clear hn4 st4 hE2 hcl r0 r1 r2 r3 r4 r5 r6 r7 r8 r9 r10 r11 r12
      go_wp2_with fail
      go_roundw
      case rel => exact ⟨j + 1, G4, _, by omega, by simp, unhide hE4⟩
      case measure => simp [intOf]; omega
    · obtain rfl : j = A.length := by omega
      have hE3 := hE2.mono (M := 209715200) (by omega)
      clear hE2 hlt
      have hI := hide hE3.n.inv
      have hCl := hE3.n.inv.inv.len
      replace hE3 := hide hE3
      go_wp2_with fail
      go_at_call 23
      refine (cAll_c c G S W _ C wr (unhide hE3).n).mono ?_
      rintro e w4 ⟨v1, g1, rfl, hg1, hO1, hb4⟩
      have hE4 := (unhide hE3).quiet hb4
      have hGl : Hid (∀ b, G b → b < wr.heap.size) := (unhide hE3).n.lt
      have hw1 := (unhide hE3).bel.size
      have hO1' := hide hO1
      obtain ⟨ao1, cap1, rfl, -⟩ := hO1
      obtain ⟨n, hn⟩ : ∃ n, Hid ((allC C).length = n) := ⟨_, rfl⟩
      rw [hn.out] at hO1' ⊢
      have hn1 : n ≤ 1024 := by have := hn.out; rw [allC_len] at this; omega
      clear hb4 hE3
      replace hE4 := hide hE4
      go_wp2_with fail
      go_at_call 28
      refine (cCopy_c c G S W _ C w4 (unhide hE4).n).mono ?_
      rintro e w5 ⟨ck, Fk, rfl, hk, hFk, hb5⟩
      have hE5 := hide ((unhide hE4).quiet hb5)
      have hO5 := hide ((unhide hO1').below hb5)
      have hd5 : Hid (∀ b, Fk b → ¬ G b ∧ b ≠ g1 ∧ w.heap.size ≤ b) := fun b hb => by
        have h1 := hFk b hb
        have h2 := (unhide hO1').lt
        have h3 := (unhide hE4).bel.size
        exact ⟨fun e => by have := (unhide hE4).n.lt b e; omega, by omega, by omega⟩
      have hg5 : Hid (∀ b, G b → b ≠ g1) := fun b hb e => by have := unhide hGl b hb; omega
      replace hk := hide hk
      clear hE4 hO1' hFk hb5 hGl
      go_wp2_with fail
      go_loopw [53] (fun i wr => ∃ (j : Nat) (F : Nat → Prop) (D : Ca), j ≤ n ∧ i = .int .i64 j ∧ CEnv w wr c F S W 209715200 D ∧ CaIs wr ck Fk S W 209715200 C ∧ OwnL wr (.slice ao1 n cap1) g1 (allC C) ∧ (∀ b, F b → ¬ Fk b ∧ b ≠ g1) ∧ Hid ((∀ y, D.T y = C.T y ∨ D.T y = bun0) ∧ ∀ k (h : k < (allC C).length), k < j → D.T (allC C)[k].b = bun0)) (fun i _ => n - (intOf i).toNat)
      case atStart => exact ⟨0, G, C, Nat.zero_le _, rfl, unhide hE5, unhide hk, unhide hO5, fun b hb => ⟨fun e => (unhide hd5 b e).1 hb, unhide hg5 b hb⟩, ⟨fun y => .inl rfl, fun k _ h => by omega⟩⟩
      case round =>
        obtain ⟨j, G6, D, hj6, rfl, hE6, hk6, hO6, hd6, hM6⟩ := hrel
        clear hE5 hk hO5 hg5
        by_cases hlt : j < n
        · have hlt2 : j < (allC C).length := by rw [hn.out]; exact hlt
          have hlt' : (j : Int) < n := by omega
          obtain ⟨-, -, -, k1⟩ := view_atL hO6.view rfl
          obtain ⟨o1, rfl, gl, d0, d1, d2, d3, d4⟩ := k1 j hlt2
          have hx6 : (allC C)[j].t = C.T (allC C)[j].b ∧ (allC C)[j].b ∈ C.A := by
            simp only [allC, List.getElem_map]
            exact ⟨trivial, mem_listA.1 (List.getElem_mem _)⟩
          have hstep : Hid (∀ l, (allC C)[j] = l → (∀ y, (nxTk D l.b l.t.n true).T y = C.T y ∨ (nxTk D l.b l.t.n true).T y = bun0) ∧ ∀ k (h : k < (allC C).length), k < j + 1 → (nxTk D l.b l.t.n true).T (allC C)[k].b = bun0) := by
            rintro l rfl
            obtain ⟨h1, h2, h3⟩ := strip_step (C := C) (D := D) (unhide hI).ok hM6.out.1 (allC C)[j].b
            rw [hx6.1]
            refine ⟨h1, fun k h hk => ?_⟩
            by_cases e : k = j
            · subst e; exact h2
            · exact h3 _ (hM6.out.2 k h (by omega))
          have hl64 : I64 (allC C)[j].b := by have := (unhide hI).inv.pos _ hx6.2; unfold I64; omega
          obtain ⟨l, hl⟩ : ∃ l, Hid ((allC C)[j] = l) := ⟨_, hide rfl⟩
          rw [hl.out] at d0 d1 d2 d3 d4 hl64
          have hst2 := hide (unhide hstep l hl.out)
          clear k1 hx6 hstep hM6
          replace hE6 := hide hE6
          replace hk6 := hide hk6
          replace hO6 := hide hO6
          go_wp2_with fail
          go_at_call 16
          refine (cTake_c c G6 S W 209715200 l.b l.t.n true true D _ ((unhide hE6).n.alloc _) hl64 (by decide) _ _ rfl rfl).mono ?_
          rintro e w7 ⟨rfl, G7, hn7, st7⟩
          have hE7 := hide ((unhide hE6).step (belA _ (.cells #[.int .i64 l.b, .int .i64 l.t.n, .bool l.t.o, .bool l.t.h, .int .i64 l.t.d] 37)) hn7 st7)
          have hk7 := hide (((unhide hk6).alloc (.cells #[.int .i64 l.b, .int .i64 l.t.n, .bool l.t.o, .bool l.t.h, .int .i64 l.t.d] 37)).fr st7.fr (fun b hb _ e => (hd6 b e).1 hb))
          have hO7 := hide (((unhide hO6).alloc (.cells #[.int .i64 l.b, .int .i64 l.t.n, .bool l.t.o, .bool l.t.h, .int .i64 l.t.d] 37)).fr st7.fr (fun e => (hd6 _ e).2 rfl))
          have hd7 : Hid (∀ b, G7 b → ¬ Fk b ∧ b ≠ g1) := fun b hb => by
            rcases st7.new b hb with h1 | h1
            · exact hd6 b h1
            · simp at h1
              have h2 := (unhide hO6).lt
              exact ⟨fun e => by have := (unhide hk6).lt b e; omega, by omega⟩
          clear hn7 st7 hE6 hk6 hO6 hd6 d0 d1 d2 d3 d4
          go_wp2_with fail
          go_roundw
          case rel => exact ⟨j + 1, G7, _, by omega, by simp, unhide hE7, unhide hk7, unhide hO7, unhide hd7, unhide hst2⟩
          case measure => simp [intOf]; omega
        · obtain rfl : j = n := by omega
          have hnil : D.A = [] := by
            refine hE6.n.inv.empty (fun y => ?_)
            by_cases e : y ∈ C.A
            · obtain ⟨k, hk, e2⟩ := List.getElem_of_mem (mem_listA.2 e)
              have hk' : k < (allC C).length := by simpa [allC] using hk
              have := hM6.out.2 k hk' (by rw [← hn.out]; exact hk')
              simpa [allC, e2] using this
            · rcases hM6.out.1 y with e2 | e2
              · rw [e2, (unhide hI).out y e]
              · exact e2
          replace hE6 := hide hE6
          replace hk6 := hide hk6
          replace hO6 := hide hO6
          replace hd6 := hide hd6
          clear hlt hM6
          obtain ⟨D2, hD2⟩ : ∃ D2, Hid (nxAb S W D x ⟨1, false, false, 0⟩ (-1) = D2) := ⟨_, rfl⟩
          obtain ⟨⟨r, ok⟩, hg⟩ : ∃ z, Hid (goAb S W D x ⟨1, false, false, 0⟩ (-1) = z) := ⟨_, rfl⟩
          obtain ⟨⟨r2, ok2⟩, hg2⟩ : ∃ z, Hid (goAb S W C x ⟨1, false, false, 0⟩ (-1) = z) := ⟨_, rfl⟩
          have hD2l : D2.A.length ≤ 1 := by rw [← hD2.out]; exact ab_len hnil _ _ _
          go_wp2_with fail
          go_at_call 14
          refine (cAbsorb_c c G6 S W 209715200 1 x (-1) D ⟨1, false, false, 0⟩ _ (unhide hE6).n hx ok_one9 (by decide) (by decide) r ok D2 hg hD2).mono ?_
          rintro e w7 ⟨rfl, G7, hn7, st7⟩
          have hE7 := hide ((unhide hE6).step (Below.refl _ _) hn7 st7)
          have hk7 := hide ((unhide hk6).fr st7.fr (fun b hb _ e => (unhide hd6 b e).1 hb))
          have hO7 := hide ((unhide hO6).fr st7.fr (fun e => (unhide hd6 _ e).2 rfl))
          have hd7 : Hid (∀ b, G7 b → ¬ Fk b ∧ b ≠ g1) := fun b hb => by
            rcases st7.new b hb with h1 | h1
            · exact unhide hd6 b h1
            · have h2 := (unhide hO6).lt
              exact ⟨fun e => by have := (unhide hk6).lt b e; omega, by omega⟩
          clear hn7 st7 hE6 hk6 hO6 hd6
          go_wp2_with fail
          go_at_call 23
          refine (cAll_c ck Fk S W _ C _ (unhide hk7)).mono ?_
          rintro e w8 ⟨v2, g2, rfl, hg8, hO8, hb8⟩
          have hE8 := hide ((unhide hE7).quiet hb8)
          have hk8 := hide ((unhide hk7).below hb8)
          have hO18 := hide ((unhide hO7).below hb8)
          have hO8' := hide hO8
          obtain ⟨ao2, cap2, rfl, -⟩ := hO8
          rw [hn.out] at hO8' ⊢
          clear hE7 hk7 hO7 hb8 hg8
          go_wp2_with fail
          go_at_call 22
          refine (sameL_c _ _ _ _ (allC C) _ (unhide hO8').view (unhide hO18).view).mono ?_
          rintro e w9 ⟨rfl, nq, rfl⟩
          have hE9 := hide ((unhide hE8).quiet (belD _ nq))
          have hk9 := hide ((unhide hk8).drewN nq)
          clear hE8 hk8 hO18 hO8'
          go_wp2_with fail
          go_at_call 23
          refine (cAll_c c G7 S W _ D2 _ (unhide hE9).n).mono ?_
          rintro e w10 ⟨v3, g3, rfl, hg10, hO10, hb10⟩
          have hE10 := hide ((unhide hE9).quiet hb10)
          have hk10 := hide ((unhide hk9).below hb10)
          obtain ⟨ao3, cap3, rfl, -⟩ := hO10
          obtain ⟨m, hm⟩ : ∃ m, Hid ((allC D2).length = m) := ⟨_, rfl⟩
          rw [hm.out]
          have hm1 : m ≤ 1 := by have := hm.out; rw [allC_len] at this; omega
          clear hE9 hk9 hb10 hg10
          go_wp2_with fail
          go_at_call 14
          refine (cAbsorb_c ck Fk S W 209715200 1 x (-1) C ⟨1, false, false, 0⟩ _ (unhide hk10) hx ok_one9 (by decide) (by decide) r2 ok2 _ hg2 rfl).mono ?_
          rintro e w11 ⟨rfl, Fk2, hn11, st11⟩
          have hc11 := hide ((unhide hE10).n.fr st11.fr (fun b hb _ e => (unhide hd7 b hb).1 e))
          have hB11 := hide ((unhide hE10).bel.trans (st11.fr.below (fun i hi => (unhide hd5 i hi).2.2) (unhide hE10).bel.size))
          clear hn11 st11 hE10 hk10
          go_wp2_with fail
          go_at_call 23
          refine (cAll_c c G7 S W _ D2 _ (unhide hc11)).mono ?_
          rintro e w12 ⟨v4, g4, rfl, hg12, hO12, hb12⟩
          obtain ⟨ao4, cap4, rfl, -⟩ := hO12
          rw [hm.out]
          have hfin := hide ((unhide hB11).trans (hb12.mono (unhide hB11).size))
          clear hb12 hg12
          have hm1' : (m : Int) ≤ 1 := by omega
          go_wp2_with fail
          go_ret
          exact ⟨rfl, unhide hfin⟩
end Go.Proofs.Ytooopcadefpncaa
