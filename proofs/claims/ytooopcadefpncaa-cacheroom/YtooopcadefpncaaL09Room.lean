/- The walk of CacheRoom: it returns true; no old memory turns. Written by wip/gen09r.py. -/
import Derived.Test.YtooopcadefpncaaLaw09
import Derived.Maps.OwnOps
namespace Go.Proofs.Ytooopcadefpncaa
open Go.ChangeShapes Go.WideShapes Go.ChangeAt Go.RowKit
set_option linter.unusedSimpArgs false
set_option linter.unusedVariables false
set_option maxRecDepth 10000

attribute [local go_sem, local simp] over_const setCell_drewN alloc_drewN Over.cell Over.frozen lt_s1 lt_s2 lt_s3 le_s0 le_s1 le_s2 le_s3 eq_s0 eq_s1 eq_s2 qe_s0

theorem part_listA_len {S k : Int} (L : List Int) : (part S (listA L) k).length = (part S L k).length := ((listA_perm L).filter _).length_eq

/-- The map of how many, as it reads. -/
def cntD (D : DataW Unit) (S : Int) (M : List Int) : Prop := ∀ s : Int, D.atKey (.int .i64 s) (.lit (.int .i64 0)) = .lit (.int .i64 ((part S M s).length : Nat))

theorem cntD_new (S : Int) : cntD (.map []) S [] := fun s => by simp [DataW.atKey, part]

theorem cntD_step {D : DataW Unit} {S y s : Int} {M : List Int} (h : cntD D S M) (hD : Maps.IsMap D) (hs : modZ y S = s) : cntD (D.put (.int .i64 s) (.lit (.int .i64 (((part S M s).length : Nat) + 1)))) S (M ++ [y]) := by
  intro r
  rw [part_append]
  by_cases c : r = s
  · subst c
    rw [Maps.atKey_put_same (k := Lit.int .i64 r) hD trivial, ← hs, part_one_same]
    simp
  · rw [Maps.atKey_put_other (fun e => c (by cases e; rfl)), h r, part_one_other (by rw [hs]; exact c), List.append_nil]

theorem zeroI (w : World) : (zeroValue 3).run Try.prog w = .ok (.int .i64 0) w := by kernel_rfl

theorem cnt_look {w : World} {m n : Nat} {D : DataW Unit} {S s : Int} {M : List Int} (hown : w.ownsMap Try.prog 3 (plainElem Try.prog 3) m n D) (h : cntD D S M) (s0 : 0 ≤ s) (s1 : s < 64) : (Instr.lookup 55 (.map (some m)) (.int .i64 s) false).run Try.prog w = .ok (.int .i64 ((part S M s).length : Nat)) w := by
  obtain ⟨c, hrun, hat, _⟩ := hown.lookup_int law Try.underlying55 Try.underlying3 (zeroI w) (Maps.keyOf_int_mk Try.underlying3 (key_wfI (x := s) ⟨by omega, by omega⟩))
  rw [h s] at hat
  simp only [DataW.lit.injEq, Lit.int.injEq, true_and] at hat
  rw [hrun, hat]

/-- The block told last. -/
def lastZ (N : List Int) : Nat → Int
  | 0 => -1
  | j + 1 => N[j]?.getD (-1)

theorem listA_strict {A : List Int} (h : A.Nodup) : (listA A).Pairwise (fun x y => x < y) := by
  have h1 := listA_sorted A
  have h2 : (listA A).Nodup := (listA_perm A).nodup_iff.2 h
  exact (h1.and h2).imp (fun h => by have := h.1; have := h.2; omega)

theorem lastZ_lt {A : List Int} (h : A.Nodup) (hp : ∀ x ∈ A, 0 ≤ x) {j : Nat} (hj : j < (listA A).length) : lastZ (listA A) j < (listA A)[j] := by
  cases j with
  | zero =>
    have := hp _ (mem_listA.1 (List.getElem_mem hj))
    simp only [lastZ]
    omega
  | succ j =>
    have := List.pairwise_iff_getElem.1 (listA_strict h) j (j + 1) (by omega) hj (by omega)
    simp only [lastZ, List.getElem?_eq_getElem (show j < (listA A).length by omega), Option.getD_some]
    exact this

theorem lastZ_succ {N : List Int} {j : Nat} (hj : j < N.length) : lastZ N (j + 1) = N[j] := by simp [lastZ, hj]

theorem CEnv.fr {w wr w6 : World} {c B : Nat} {F : Nat → Prop} {S W N : Int} {C : Ca} (h : CEnv w wr c F S W N C) (hf : FrS (· = B) wr w6) (hB : ∀ b, F b → b ≠ B) (hw : w.heap.size ≤ B) : CEnv w w6 c F S W N C :=
  ⟨h.n.fr hf (fun b hb _ e => hB b hb e), h.f, h.bel.trans (hf.below (fun i hi => by rw [hi]; exact hw) h.bel.size)⟩

set_option maxHeartbeats 4000000 in
set_option maxRecDepth 100000 in
theorem CacheRoom_walk (S W : Int) (v : Value) (A : List Ac) (w : World) (h : ActsAt w.heap.size w v A) : Calls Try.prog 8 #[.int .i64 S, .int .i64 W, v] w fun e w' => e = .returned (.bool true) ∧ Below w.heap.size w w' := by
  have hA := hide h
  obtain ⟨ao, cap, rfl, hlc, hmx, _⟩ := h
  have hmx' : A.length ≤ 9223372036854775807 := by unfold maxLen at hmx; omega
  clear hmx
  go_enter Try.func8, Try.ntmps8
  go_wp2_with fail
  go_at_call 10
  refine (awake9_any _).mono ?_
  rintro e w1 ⟨rfl, hB1⟩
  go_wp2_with fail
  go_at_call 11
  refine (right_c _ A w1 ((unhide hA).below hB1).up).mono ?_
  rintro e w2 ⟨q, rfl, hb2, hq⟩
  have hB2 := hB1.trans (hb2.mono hB1.size)
  clear hB1 hb2
  cases q
  · replace hB2 := hide hB2
    go_wp2_with fail
    go_at_call 10
    refine (awake9_any _).mono ?_
    rintro e w3 ⟨rfl, hb3⟩
    replace hb3 := hide hb3
    go_wp2_with fail
    go_ret
    exact ⟨rfl, (unhide hB2).trans ((unhide hb3).mono (unhide hB2).size)⟩
  have hf : Hid (Fine A) := hq rfl
  have hlen : A.length ≤ 200 := hf.out.1
  clear hq
  by_cases s1 : S < 1
  · replace hB2 := hide hB2
    go_wp2_with fail
    go_at_call 10
    refine (awake9_any _).mono ?_
    rintro e w3 ⟨rfl, hb3⟩
    replace hb3 := hide hb3
    go_wp2_with fail
    go_ret
    exact ⟨rfl, (unhide hB2).trans ((unhide hb3).mono (unhide hB2).size)⟩
  by_cases s2 : 64 < S
  · replace hB2 := hide hB2
    go_wp2_with fail
    go_at_call 10
    refine (awake9_any _).mono ?_
    rintro e w3 ⟨rfl, hb3⟩
    replace hb3 := hide hb3
    go_wp2_with fail
    go_ret
    exact ⟨rfl, (unhide hB2).trans ((unhide hb3).mono (unhide hB2).size)⟩
  by_cases s3 : W < 1
  · replace hB2 := hide hB2
    go_wp2_with fail
    go_at_call 10
    refine (awake9_any _).mono ?_
    rintro e w3 ⟨rfl, hb3⟩
    replace hb3 := hide hb3
    go_wp2_with fail
    go_ret
    exact ⟨rfl, (unhide hB2).trans ((unhide hb3).mono (unhide hB2).size)⟩
  by_cases s4 : 16 < W
  · replace hB2 := hide hB2
    go_wp2_with fail
    go_at_call 10
    refine (awake9_any _).mono ?_
    rintro e w3 ⟨rfl, hb3⟩
    replace hb3 := hide hb3
    go_wp2_with fail
    go_ret
    exact ⟨rfl, (unhide hB2).trans ((unhide hb3).mono (unhide hB2).size)⟩
  have S0 : 1 ≤ S := by omega
  have S1 : S ≤ 64 := by omega
  have W0 : 1 ≤ W := by omega
  have W1 : W ≤ 16 := by omega
  replace hB2 := hide hB2
  go_wp2_with fail
  go_at_call 12
  refine (cNew_c S W _).mono ?_
  rw [clampZ_id S0 S1, clampZ_id W0 W1]
  rintro e w3 ⟨c, F, rfl, hn, hb3, hF⟩
  have hE := hide (CEnv.first (unhide hB2) hn hb3 hF)
  clear hb3 hB2 hn hF
  go_wp2_with fail
  go_loopw [45] (fun i wr => ∃ (j : Nat) (F : Nat → Prop) (C : Ca), j ≤ A.length ∧ i = .int .i64 j ∧ CEnv w wr c F S W (j * 1048576) C) (fun i _ => A.length - (intOf i).toNat)
  case atStart => exact ⟨0, F, _, Nat.zero_le _, rfl, by simpa using unhide hE⟩
  case round =>
    obtain ⟨j, G, C, hj, rfl, hE2⟩ := hrel
    clear hE
    by_cases hlt : j < A.length
    · have hlt' : (j : Int) < A.length := by omega
      obtain ⟨b, o, rfl, hbB, hbl, ⟨a1, a2⟩, r0, r1, r2, r3, r4, r5, r6, r7, r8, r9, r10, r11, r12⟩ := acts_row ((unhide hA).below hE2.bel) hlt
      obtain ⟨hok, hle⟩ := hf.out.2 _ (List.getElem_mem hlt)
      generalize A[j] = a at r0 r1 r2 r3 r4 r5 r6 r7 r8 r9 r10 r11 r12 a1 a2 hok hle
      replace hok := hide hok
      have hcl := hE2.n.lt
      have hI := hide hE2.n.inv
      replace hE2 := hide hE2
      by_cases k2 : a.k = 2
      · have kk1 : decide (a.k = 2) = true ∧ (a.k == 2) = true := by simp [k2]
        obtain ⟨kk1, kk2⟩ := kk1
        clear k2
        obtain ⟨C', hC⟩ : ∃ C', Hid (nxTk C a.bl a.ct a.o = C') := ⟨_, rfl⟩
        go_wp2_with fail
        go_at_call 16
        refine (cTake_c c G S W (j * 1048576) a.bl a.ct a.o a.d C _ ((unhide hE2).n.alloc _) a1 (by omega) _ C' rfl hC).mono ?_
        rintro e w4 ⟨rfl, G4, hn4, st4⟩
        have hE4 := hide (((unhide hE2).step (belA wr (acO a)) hn4 st4).mono (M := (j + 1 : Nat) * 1048576) (by omega))
        clear hn4 st4 hE2 hcl r0 r1 r2 r3 r4 r5 r6 r7 r8 r9 r10 r11 r12
        have hmm := @run_makeMap Try.prog
        have hI4 := hide (unhide hE4).n.inv
        have hln4 := (unhide hE4).n.inv.inv.len
        go_wp2_with fail
        clear hmm
        obtain ⟨m2, hm2⟩ : ∃ m2, w4.heap.size = m2 := ⟨_, rfl⟩
        have hown : (w4.alloc (.map #[] 0)).ownsMap (H := Unit) Try.prog 3 (plainElem Try.prog 3) m2 0 (.map []) := by rw [← hm2]; exact World.ownsMap_made _ _ _ _
        have hE5 := (unhide hE4).quiet (belA w4 (.map #[] 0))
        have hF2 : Hid (∀ b, G4 b → b ≠ m2) := fun b hb e => by have := (unhide hE4).n.lt b hb; omega
        have hm2w : w.heap.size ≤ m2 := by rw [← hm2]; exact (unhide hE4).bel.size
        go_at_call 23
        refine (cAll_c c G4 S W _ C' _ hE5.n).mono ?_
        rintro e w6 ⟨v6, g6, rfl, hg6, hO6, hb6⟩
        have hE6 := hide (hE5.quiet hb6)
        have hml1 := hown.lt
        have hown6 := hide (ownsMap_carry hown (hb6.block m2 hml1))
        have hg6' : g6 ≠ m2 := by simp at hg6; omega
        have hO6' := hide hO6
        obtain ⟨ao6, cap6, rfl, -⟩ := hO6
        have hal : (allC C').length = (listA C'.A).length := by rw [allC_len, listA_len]
        have hll := listA_len C'.A
        obtain ⟨n, hn⟩ : ∃ n, (listA C'.A).length = n := ⟨_, rfl⟩
        rw [hn] at hal hll
        rw [hal] at hO6' ⊢
        have hn1 : n ≤ 1024 := by omega
        replace hal := hide hal
        replace hn := hide hn
        replace hll := hide hll
        rw [hm2]
        clear hE4 hE5 hb6 hg6 hown hml1 hm2
        go_wp2_with fail
        go_loopw [11, 74] (fun lst i wq => ∃ (j2 : Nat) (D : DataW Unit), j2 ≤ n ∧ i = .int .i64 j2 ∧ lst = .int .i64 (lastZ (listA C'.A) j2) ∧ wq.ownsMap Try.prog 3 (plainElem Try.prog 3) m2 j2 D ∧ cntD D S ((listA C'.A).take j2) ∧ CEnv w wq c G4 S W ((j + 1 : Nat) * 1048576) C' ∧ OwnL wq (.slice ao6 n cap6) g6 (allC C')) (fun _ i _ => n - (intOf i).toNat)
        case atStart => exact ⟨0, .map [], Nat.zero_le _, rfl, rfl, unhide hown6, by simpa using cntD_new S, unhide hE6, unhide hO6'⟩
        case round =>
          obtain ⟨j2, D, hj2, rfl, rfl, hown, hcnt, hE7, hO7⟩ := hrel
          clear hE6 hown6 hO6'
          by_cases hlt2 : j2 < n
          · have hlt2' : (j2 : Int) < n := by omega
            have hltN : j2 < (listA C'.A).length := by rw [unhide hn]; exact hlt2
            have hltA : j2 < (allC C').length := by rw [unhide hal]; exact hlt2
            obtain ⟨-, -, -, hc⟩ := view_atL hO7.view rfl
            obtain ⟨o7, rfl, hb7, d0, d1, d2, d3, d4⟩ := hc j2 hltA
            have hA7 : (allC C')[j2] = ⟨(listA C'.A)[j2], C'.T (listA C'.A)[j2]⟩ := by simp [allC]
            rw [hA7] at d0 d1 d2 d3 d4
            have hmemA : (listA C'.A)[j2] ∈ C'.A := mem_listA.1 (List.getElem_mem hltN)
            have hlast := lastZ_lt (unhide hI4).inv.nodup (fun y hy => ((unhide hI4).inv.pos y hy).1) hltN
            have hsucc := lastZ_succ hltN
            have hone := (unhide hI4).one _ hmemA
            obtain ⟨hy0, hy1⟩ := (unhide hI4).inv.pos _ hmemA
            have htk := List.take_succ_eq_append_getElem hltN
            generalize (listA C'.A)[j2] = y at d0 d1 d2 d3 d4 hlast hsucc hone hy0 hy1 htk
            obtain ⟨z, hz⟩ : ∃ z, C'.T y = z := ⟨_, rfl⟩
            rw [hz] at d1 d2 d3 d4 hone
            obtain ⟨lz, hlz⟩ : ∃ lz, lastZ (listA C'.A) j2 = lz := ⟨_, rfl⟩
            rw [hlz] at hlast ⊢
            have hr : Hid (modZ y S = y % S) := by rw [modZ, if_neg (by omega)]; exact rfl
            have br := modZ_in S0 y
            rw [hr.out] at br
            have hwf : (Lit.int .i64 (y % S)).wf = true := key_wfI ⟨by omega, by omega⟩
            obtain ⟨cn, hcn⟩ : ∃ cn : Nat, Hid ((part S ((listA C'.A).take j2) (y % S)).length = cn) := ⟨_, rfl⟩
            have hstep : Hid (cntD (D.put (.int .i64 (y % S)) (.lit (.int .i64 ((cn : Int) + 1)))) S ((listA C'.A).take (j2 + 1))) := by
              have h1 := cntD_step hcnt hown.isMap hr.out
              rw [hcn.out] at h1
              rw [htk]
              exact h1
            have hlen2 : (part S ((listA C'.A).take (j2 + 1)) (y % S)).length = cn + 1 := by rw [htk, part_append, ← hr.out, part_one_same, hr.out, List.length_append, hcn.out]; rfl
            have hroom : (cn : Int) + 1 ≤ W := by
              have h1 : (part S ((listA C'.A).take (j2 + 1)) (y % S)).length ≤ (part S (listA C'.A) (y % S)).length := ((List.take_sublist _ _).filter _).length_le
              have h2 := (unhide hI4).inv.room (y % S)
              rw [part_listA_len] at h1
              omega
            have hownL := hown.alloc (.cells #[.int .i64 y, .int .i64 z.n, .bool z.o, .bool z.h, .int .i64 z.d] 37)
            have hrun1 : (Instr.lookup 55 (.map (some m2)) (.int .i64 (y % S)) false).run Try.prog (wr.alloc (.cells #[.int .i64 y, .int .i64 z.n, .bool z.o, .bool z.h, .int .i64 z.d] 37)) = .ok (.int .i64 (cn : Nat)) (wr.alloc (.cells #[.int .i64 y, .int .i64 z.n, .bool z.o, .bool z.h, .int .i64 z.d] 37)) := by
              have := cnt_look hownL hcnt br.1 (by omega)
              rw [hcn.out] at this
              exact this
            have hwc : (Lit.int .i64 ((cn : Int) + 1)).wf = true := WalkArith.wf_i64 (by omega)
            have hwrap : IntKind.i64.wrap ((cn : Int) + 1) = (cn : Int) + 1 := wrap_in (by omega) (by omega)
            have hml := hown.lt
            have hEL := hide (hE7.quiet (belA wr (.cells #[.int .i64 y, .int .i64 z.n, .bool z.o, .bool z.h, .int .i64 z.d] 37)))
            have hOL := hide (hO7.alloc (.cells #[.int .i64 y, .int .i64 z.n, .bool z.o, .bool z.h, .int .i64 z.d] 37))
            replace hlz := hide hlz
            replace hz := hide hz
            replace hsucc := hide hsucc
            clear hc hcnt hown hE7 hO7 hA7 hmemA htk hltN hltA
            go_upto_region 18 with (at_mapUpdate; refine wpList_mapUpdate_own _ rfl _ _ _ 55 rfl 3 3 law Try.underlying55 _ m2 j2 D rfl hownL (by unfold maxLen; omega) _ _ _ rfl rfl (Maps.keyOf_int_mk Try.underlying3 hwf) _ [] (plainElem_int Try.underlying3 hwc) ?_; intro w8 hown8 hg8; go_frame)
            have hF8 := FrS.grown hg8
            have hrun2 : (Instr.lookup 55 (.map (some m2)) (.int .i64 (y % S)) false).run Try.prog w8 = .ok (.int .i64 ((cn : Int) + 1)) w8 := by
              have := cnt_look hown8 (unhide hstep) br.1 (by omega)
              rw [hlen2] at this
              exact this
            have hE8 := hide ((unhide hEL).fr hF8 (unhide hF2) hm2w)
            have hO8 := hide ((unhide hOL).fr hF8 hg6')
            have kb := hF8.block wr.heap.size (by simp) (by omega)
            have y0 : w8.cell? ⟨wr.heap.size, 0, none⟩ = some (.int .i64 y) := keep_cell kb (by simp [go_sem])
            have y1 : w8.cell? ⟨wr.heap.size, 1, none⟩ = some (.int .i64 z.n) := keep_cell kb (by simp [go_sem])
            have y5 : wr.heap.size < w8.heap.size := block_lt (by simp) kb
            replace hown8 := hide hown8
            have f1 : ¬ y ≤ lz := by omega
            have f2 : ¬ z.n < 1 := by omega
            have f3 : ¬ W < (cn : Int) + 1 := by omega
            have f4 : ¬ S = 0 := by omega
            clear hrun1 hownL hEL hOL hg8 hF8 kb br hlast hone hroom hwf hwc hwrap hlen2 d0 d1 d2 d3 d4 hml
            go_wp2_with fail
            go_roundw
            case rel => exact ⟨j2 + 1, _, by omega, by simp, by rw [unhide hsucc], unhide hown8, unhide hstep, unhide hE8, unhide hO8⟩
            case measure => simp [intOf]; omega
          · obtain rfl : j2 = n := by omega
            have hE9 := hide hE7
            clear hE7 hown hcnt hO7
            go_wp2_with fail
            go_roundw
            case rel => exact ⟨j + 1, G4, C', by omega, by simp, unhide hE9⟩
            case measure => simp [intOf]; omega
      · have kk1 : decide (a.k = 2) = false ∧ (a.k == 2) = false := by simp [k2]
        obtain ⟨kk1, kk2⟩ := kk1
        clear k2
        obtain ⟨⟨r, ok⟩, hg⟩ : ∃ z, Hid (goAb S W C a.bl a.t a.pn = z) := ⟨_, rfl⟩
        obtain ⟨C', hC⟩ : ∃ C', Hid (nxAb S W C a.bl a.t a.pn = C') := ⟨_, rfl⟩
        go_wp2_with fail
        go_at_call 14
        refine (cAbsorb_c c G S W (j * 1048576) 1048576 a.bl a.pn C a.t _ ((unhide hE2).n.alloc _) a1 (unhide hok) hle (by omega) r ok C' hg hC).mono ?_
        rintro e w4 ⟨rfl, G4, hn4, st4⟩
        have hE4 := hide (((unhide hE2).step (belA wr (acO a)) hn4 st4).mono (M := (j + 1 : Nat) * 1048576) (by omega))
        clear hn4 st4 hE2 hcl r0 r1 r2 r3 r4 r5 r6 r7 r8 r9 r10 r11 r12
        have hmm := @run_makeMap Try.prog
        have hI4 := hide (unhide hE4).n.inv
        have hln4 := (unhide hE4).n.inv.inv.len
        go_wp2_with fail
        clear hmm
        obtain ⟨m2, hm2⟩ : ∃ m2, w4.heap.size = m2 := ⟨_, rfl⟩
        have hown : (w4.alloc (.map #[] 0)).ownsMap (H := Unit) Try.prog 3 (plainElem Try.prog 3) m2 0 (.map []) := by rw [← hm2]; exact World.ownsMap_made _ _ _ _
        have hE5 := (unhide hE4).quiet (belA w4 (.map #[] 0))
        have hF2 : Hid (∀ b, G4 b → b ≠ m2) := fun b hb e => by have := (unhide hE4).n.lt b hb; omega
        have hm2w : w.heap.size ≤ m2 := by rw [← hm2]; exact (unhide hE4).bel.size
        go_at_call 23
        refine (cAll_c c G4 S W _ C' _ hE5.n).mono ?_
        rintro e w6 ⟨v6, g6, rfl, hg6, hO6, hb6⟩
        have hE6 := hide (hE5.quiet hb6)
        have hml1 := hown.lt
        have hown6 := hide (ownsMap_carry hown (hb6.block m2 hml1))
        have hg6' : g6 ≠ m2 := by simp at hg6; omega
        have hO6' := hide hO6
        obtain ⟨ao6, cap6, rfl, -⟩ := hO6
        have hal : (allC C').length = (listA C'.A).length := by rw [allC_len, listA_len]
        have hll := listA_len C'.A
        obtain ⟨n, hn⟩ : ∃ n, (listA C'.A).length = n := ⟨_, rfl⟩
        rw [hn] at hal hll
        rw [hal] at hO6' ⊢
        have hn1 : n ≤ 1024 := by omega
        replace hal := hide hal
        replace hn := hide hn
        replace hll := hide hll
        rw [hm2]
        clear hE4 hE5 hb6 hg6 hown hml1 hm2
        go_wp2_with fail
        go_loopw [11, 74] (fun lst i wq => ∃ (j2 : Nat) (D : DataW Unit), j2 ≤ n ∧ i = .int .i64 j2 ∧ lst = .int .i64 (lastZ (listA C'.A) j2) ∧ wq.ownsMap Try.prog 3 (plainElem Try.prog 3) m2 j2 D ∧ cntD D S ((listA C'.A).take j2) ∧ CEnv w wq c G4 S W ((j + 1 : Nat) * 1048576) C' ∧ OwnL wq (.slice ao6 n cap6) g6 (allC C')) (fun _ i _ => n - (intOf i).toNat)
        case atStart => exact ⟨0, .map [], Nat.zero_le _, rfl, rfl, unhide hown6, by simpa using cntD_new S, unhide hE6, unhide hO6'⟩
        case round =>
          obtain ⟨j2, D, hj2, rfl, rfl, hown, hcnt, hE7, hO7⟩ := hrel
          clear hE6 hown6 hO6'
          by_cases hlt2 : j2 < n
          · have hlt2' : (j2 : Int) < n := by omega
            have hltN : j2 < (listA C'.A).length := by rw [unhide hn]; exact hlt2
            have hltA : j2 < (allC C').length := by rw [unhide hal]; exact hlt2
            obtain ⟨-, -, -, hc⟩ := view_atL hO7.view rfl
            obtain ⟨o7, rfl, hb7, d0, d1, d2, d3, d4⟩ := hc j2 hltA
            have hA7 : (allC C')[j2] = ⟨(listA C'.A)[j2], C'.T (listA C'.A)[j2]⟩ := by simp [allC]
            rw [hA7] at d0 d1 d2 d3 d4
            have hmemA : (listA C'.A)[j2] ∈ C'.A := mem_listA.1 (List.getElem_mem hltN)
            have hlast := lastZ_lt (unhide hI4).inv.nodup (fun y hy => ((unhide hI4).inv.pos y hy).1) hltN
            have hsucc := lastZ_succ hltN
            have hone := (unhide hI4).one _ hmemA
            obtain ⟨hy0, hy1⟩ := (unhide hI4).inv.pos _ hmemA
            have htk := List.take_succ_eq_append_getElem hltN
            generalize (listA C'.A)[j2] = y at d0 d1 d2 d3 d4 hlast hsucc hone hy0 hy1 htk
            obtain ⟨z, hz⟩ : ∃ z, C'.T y = z := ⟨_, rfl⟩
            rw [hz] at d1 d2 d3 d4 hone
            obtain ⟨lz, hlz⟩ : ∃ lz, lastZ (listA C'.A) j2 = lz := ⟨_, rfl⟩
            rw [hlz] at hlast ⊢
            have hr : Hid (modZ y S = y % S) := by rw [modZ, if_neg (by omega)]; exact rfl
            have br := modZ_in S0 y
            rw [hr.out] at br
            have hwf : (Lit.int .i64 (y % S)).wf = true := key_wfI ⟨by omega, by omega⟩
            obtain ⟨cn, hcn⟩ : ∃ cn : Nat, Hid ((part S ((listA C'.A).take j2) (y % S)).length = cn) := ⟨_, rfl⟩
            have hstep : Hid (cntD (D.put (.int .i64 (y % S)) (.lit (.int .i64 ((cn : Int) + 1)))) S ((listA C'.A).take (j2 + 1))) := by
              have h1 := cntD_step hcnt hown.isMap hr.out
              rw [hcn.out] at h1
              rw [htk]
              exact h1
            have hlen2 : (part S ((listA C'.A).take (j2 + 1)) (y % S)).length = cn + 1 := by rw [htk, part_append, ← hr.out, part_one_same, hr.out, List.length_append, hcn.out]; rfl
            have hroom : (cn : Int) + 1 ≤ W := by
              have h1 : (part S ((listA C'.A).take (j2 + 1)) (y % S)).length ≤ (part S (listA C'.A) (y % S)).length := ((List.take_sublist _ _).filter _).length_le
              have h2 := (unhide hI4).inv.room (y % S)
              rw [part_listA_len] at h1
              omega
            have hownL := hown.alloc (.cells #[.int .i64 y, .int .i64 z.n, .bool z.o, .bool z.h, .int .i64 z.d] 37)
            have hrun1 : (Instr.lookup 55 (.map (some m2)) (.int .i64 (y % S)) false).run Try.prog (wr.alloc (.cells #[.int .i64 y, .int .i64 z.n, .bool z.o, .bool z.h, .int .i64 z.d] 37)) = .ok (.int .i64 (cn : Nat)) (wr.alloc (.cells #[.int .i64 y, .int .i64 z.n, .bool z.o, .bool z.h, .int .i64 z.d] 37)) := by
              have := cnt_look hownL hcnt br.1 (by omega)
              rw [hcn.out] at this
              exact this
            have hwc : (Lit.int .i64 ((cn : Int) + 1)).wf = true := WalkArith.wf_i64 (by omega)
            have hwrap : IntKind.i64.wrap ((cn : Int) + 1) = (cn : Int) + 1 := wrap_in (by omega) (by omega)
            have hml := hown.lt
            have hEL := hide (hE7.quiet (belA wr (.cells #[.int .i64 y, .int .i64 z.n, .bool z.o, .bool z.h, .int .i64 z.d] 37)))
            have hOL := hide (hO7.alloc (.cells #[.int .i64 y, .int .i64 z.n, .bool z.o, .bool z.h, .int .i64 z.d] 37))
            replace hlz := hide hlz
            replace hz := hide hz
            replace hsucc := hide hsucc
            clear hc hcnt hown hE7 hO7 hA7 hmemA htk hltN hltA
            go_upto_region 18 with (at_mapUpdate; refine wpList_mapUpdate_own _ rfl _ _ _ 55 rfl 3 3 law Try.underlying55 _ m2 j2 D rfl hownL (by unfold maxLen; omega) _ _ _ rfl rfl (Maps.keyOf_int_mk Try.underlying3 hwf) _ [] (plainElem_int Try.underlying3 hwc) ?_; intro w8 hown8 hg8; go_frame)
            have hF8 := FrS.grown hg8
            have hrun2 : (Instr.lookup 55 (.map (some m2)) (.int .i64 (y % S)) false).run Try.prog w8 = .ok (.int .i64 ((cn : Int) + 1)) w8 := by
              have := cnt_look hown8 (unhide hstep) br.1 (by omega)
              rw [hlen2] at this
              exact this
            have hE8 := hide ((unhide hEL).fr hF8 (unhide hF2) hm2w)
            have hO8 := hide ((unhide hOL).fr hF8 hg6')
            have kb := hF8.block wr.heap.size (by simp) (by omega)
            have y0 : w8.cell? ⟨wr.heap.size, 0, none⟩ = some (.int .i64 y) := keep_cell kb (by simp [go_sem])
            have y1 : w8.cell? ⟨wr.heap.size, 1, none⟩ = some (.int .i64 z.n) := keep_cell kb (by simp [go_sem])
            have y5 : wr.heap.size < w8.heap.size := block_lt (by simp) kb
            replace hown8 := hide hown8
            have f1 : ¬ y ≤ lz := by omega
            have f2 : ¬ z.n < 1 := by omega
            have f3 : ¬ W < (cn : Int) + 1 := by omega
            have f4 : ¬ S = 0 := by omega
            clear hrun1 hownL hEL hOL hg8 hF8 kb br hlast hone hroom hwf hwc hwrap hlen2 d0 d1 d2 d3 d4 hml
            go_wp2_with fail
            go_roundw
            case rel => exact ⟨j2 + 1, _, by omega, by simp, by rw [unhide hsucc], unhide hown8, unhide hstep, unhide hE8, unhide hO8⟩
            case measure => simp [intOf]; omega
          · obtain rfl : j2 = n := by omega
            have hE9 := hide hE7
            clear hE7 hown hcnt hO7
            go_wp2_with fail
            go_roundw
            case rel => exact ⟨j + 1, G4, C', by omega, by simp, unhide hE9⟩
            case measure => simp [intOf]; omega
    · obtain rfl : j = A.length := by omega
      have hb := hide hE2.bel
      clear hE2
      go_wp2_with fail
      go_ret
      exact ⟨rfl, unhide hb⟩
end Go.Proofs.Ytooopcadefpncaa
