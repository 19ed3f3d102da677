/- The walk of MemoryPlays: it returns true; no old memory turns. Written by wip/gen10l.py. -/
import Derived.Test.YtafccninjjhibaaLaw10
import Derived.Test.YtafccninjjhibaaRmB
import Derived.Test.YtafccninjjhibaaRmC
namespace Go.Proofs.Ytafccninjjhibaa
open Go.ChangeShapes Go.WideShapes Go.ChangeAt Go.RowKit
set_option linter.unusedSimpArgs false
set_option linter.unusedVariables false
set_option maxRecDepth 10000

attribute [local go_sem, local simp] over_const setCell_drewN alloc_drewN Over.cell Over.frozen lt_s1 lt_s2 lt_s3 le_s0 le_s1 le_s2 le_s3 eq_s0 eq_s1 eq_s2 qe_s0

theorem ViewB.lt_of {w : World} {v : Value} {b : Nat} {L : List Bun} (h : ViewB w v b L) (hn : L ≠ []) : b < w.heap.size := by
  obtain ⟨_, _, _, _, _, h⟩ := h
  rcases h with h | ⟨_, _, h, _⟩
  · exact absurd h hn
  · exact h

set_option maxHeartbeats 2000000 in
theorem MemoryPlays_walk (s t : Int) (v : Value) (A : List Ac) (w : World) (h : ActsAt w.heap.size w v A) : Calls Try.prog 3 #[.agg #[.int .i64 s, .int .i64 t], v] w fun e w' => e = .returned (.bool true) ∧ Below w.heap.size w w' := by
  have hfld := field_n
  have hA := hide h
  obtain ⟨ao, cap, rfl, hlc, hmx, _⟩ := h
  have hmx' : A.length ≤ 9223372036854775807 := by unfold maxLen at hmx; omega
  clear hmx
  go_enter Try.func3, Try.ntmps3
  go_wp2_with fail
  go_at_call 8
  refine (awake10_any _).mono ?_
  rintro e w1 ⟨rfl, hb1⟩
  obtain ⟨X1, hB1, hs1⟩ := box1 hb1
  clear hb1
  replace X1 := hide X1
  go_wp2_with fail
  go_at_call 9
  refine (right_c _ A w1 ((unhide hA).below hB1).up).mono ?_
  rintro e w2 ⟨q, rfl, hb2, hq⟩
  have X2 := (unhide X1).below hb2
  have hB2 := hide (hB1.trans (hb2.mono hB1.size))
  clear hB1 hb2 hs1 X1
  cases q
  · clear X2
    go_wp2_with fail
    go_at_call 8
    refine (awake10_any _).mono ?_
    rintro e w9 ⟨rfl, hb9⟩
    replace hb9 := hide hb9
    go_wp2_with fail
    go_ret
    exact ⟨rfl, (unhide hB2).trans ((unhide hb9).mono (unhide hB2).size)⟩
  have hf : Hid (Fine A) := hq rfl
  have hlen : A.length ≤ 200 := hf.out.1
  clear hq
  obtain ⟨q4, q0, q1⟩ := id X2
  replace X2 := hide X2
  by_cases c0 : 1048576 < t
  · clear hf
    go_wp2_with fail
    go_at_call 8
    refine (awake10_any _).mono ?_
    rintro e w9 ⟨rfl, hb9⟩
    replace hb9 := hide hb9
    go_wp2_with fail
    go_ret
    exact ⟨rfl, (unhide hB2).trans ((unhide hb9).mono (unhide hB2).size)⟩
  obtain ⟨L0, hL0⟩ : ∃ L0, Hid (newM s t = L0) := ⟨_, rfl⟩
  obtain ⟨n, hn⟩ : ∃ n, Hid (L0.length = n) := ⟨_, rfl⟩
  go_wp2_with fail
  refine wp_region_noPanic ?_
  refine wp_region_held_drew (S := (fun w' => w'.cell? ⟨w.heap.size, 0, none⟩ = some (.int .i64 s) ∧ w'.cell? ⟨w.heap.size, 1, none⟩ = some (.int .i64 t))) (by kernel_rfl) ?_ (fun hHeld => ?_)
  · exact ⟨q0, q1⟩
  refine hand_take (i := 0) (d := some 24) (v := ?_) rfl (by kernel_rfl) (by kernel_rfl) (by kernel_rfl) (fun _ _ _ h => h) ?_ hHeld ?_
  rotate_left
  · intro o ho
    simp at ho
    subst ho
    intro wz hSw
    try dsimp only at hSw
    go_simp
    try with_reducible rfl
  try simp only [Act.put, List.setIfInBounds_toArray, List.set_cons_zero, List.set_cons_succ]
  refine hand_take (i := 1) (d := some 25) (v := ?_) rfl (by kernel_rfl) (by kernel_rfl) (by kernel_rfl) (fun _ _ _ h => h) ?_ hHeld ?_
  rotate_left
  · intro o ho
    simp at ho
    subst ho
    intro wz hSw
    try dsimp only at hSw
    go_simp
    try with_reducible rfl
  try simp only [Act.put, List.setIfInBounds_toArray, List.set_cons_zero, List.set_cons_succ]
  refine hand_take (i := 2) (d := some 26) (v := ?_) rfl (by kernel_rfl) (by kernel_rfl) (by kernel_rfl) (fun _ _ _ h => h) ?_ hHeld ?_
  rotate_left
  · intro o ho
    simp at ho
    subst ho
    intro wz hSw
    try dsimp only at hSw
    go_simp
    try with_reducible rfl
  try simp only [Act.put, List.setIfInBounds_toArray, List.set_cons_zero, List.set_cons_succ]
  refine hand_take (i := 3) (d := some 27) (v := ?_) rfl (by kernel_rfl) (by kernel_rfl) (by kernel_rfl) (fun _ _ _ h => h) ?_ hHeld ?_
  rotate_left
  · intro o ho
    simp at ho
    subst ho
    intro wz hSw
    try dsimp only at hSw
    go_simp
    try with_reducible rfl
  try simp only [Act.put, List.setIfInBounds_toArray, List.set_cons_zero, List.set_cons_succ]
  refine hand_take (i := 5) (d := some 29) (v := ?_) rfl (by kernel_rfl) (by kernel_rfl) (by kernel_rfl) (fun _ _ _ h => h) ?_ hHeld ?_
  rotate_left
  · intro o ho
    simp at ho
    subst ho
    intro wz hSw
    try dsimp only at hSw
    go_simp
    try with_reducible rfl
  try simp only [Act.put, List.setIfInBounds_toArray, List.set_cons_zero, List.set_cons_succ]
  refine hand_take (i := 6) (d := some 30) (v := ?_) rfl (by kernel_rfl) (by kernel_rfl) (by kernel_rfl) (fun _ _ _ h => h) ?_ hHeld ?_
  rotate_left
  · intro o ho
    simp at ho
    subst ho
    intro wz hSw
    try dsimp only at hSw
    go_simp
    try with_reducible rfl
  try simp only [Act.put, List.setIfInBounds_toArray, List.set_cons_zero, List.set_cons_succ]
  refine hand_take (i := 7) (d := some 31) (v := ?_) rfl (by kernel_rfl) (by kernel_rfl) (by kernel_rfl) (fun _ _ _ h => h) ?_ hHeld ?_
  rotate_left
  · intro o ho
    simp at ho
    subst ho
    intro wz hSw
    try dsimp only at hSw
    go_simp
    try with_reducible rfl
  try simp only [Act.put, List.setIfInBounds_toArray, List.set_cons_zero, List.set_cons_succ]
  refine hand_take (i := 8) (d := some 32) (v := ?_) rfl (by kernel_rfl) (by kernel_rfl) (by kernel_rfl) (fun _ _ _ h => h) ?_ hHeld ?_
  rotate_left
  · intro o ho
    simp at ho
    subst ho
    intro wz hSw
    try dsimp only at hSw
    go_simp
    try with_reducible rfl
  try simp only [Act.put, List.setIfInBounds_toArray, List.set_cons_zero, List.set_cons_succ]
  refine hand_call (i := 4) rfl (by kernel_rfl) ?_
  intro o ho
  simp at ho
  subst ho
  intro K hK
  go_simp; go_at_call 10; refine (mNew_c s t 1048576 _ (by omega) (by decide)).mono ?_; rw [hL0.out]; rintro e w3 ⟨p, g, rfl, h3, hp3, hg3, hb3⟩; have E3 := MEnv.first (unhide hB2).drew h3 hp3 hg3 hb3; have q02 := keep_cell (hb3.block w.heap.size q4) q0; have q12 := keep_cell (hb3.block w.heap.size q4) q1; have q42 := Nat.lt_of_lt_of_le q4 hb3.size
  refine hK.out _ _ ?_ (fun hHeld => ?_)
  · exact ⟨q02, q12⟩
  clear hK K
  try simp only [Act.put, List.setIfInBounds_toArray, List.set_cons_zero, List.set_cons_succ]
  refine hand_call (i := 9) rfl (by kernel_rfl) ?_
  intro o ho
  simp at ho
  subst ho
  intro K hK
  go_simp; go_at_call 11; refine (refNew_c s t _).mono ?_; rw [hL0.out]; rintro e w4 ⟨v4, g4, rfl, hO4, hg4, hb4⟩; have E4 := hide (E3.quiet hb4)
  refine hK.out _ _ ?_ (fun hHeld => ?_)
  · exact ⟨keep_cell (hb4.block w.heap.size q42) q02, keep_cell (hb4.block w.heap.size q42) q12⟩
  clear hK K
  try simp only [Act.put, List.setIfInBounds_toArray, List.set_cons_zero, List.set_cons_succ]
  have V4 := hide hO4.view
  have hgg : Hid (g4 ≠ g) := by have := h3.gl; unfold Hid; omega
  clear hO4 h3 hp3 hg3 hb3 hb4 hg4 E3 q02 q12 q42 q0 q1 q4 X2 hB2
  obtain ⟨ao4, cap4, hv4, -⟩ := id (unhide V4)
  rw [hn.out] at hv4
  subst hv4
  refine hand_take (i := 10) (d := some 5) (v := ?_) rfl (by kernel_rfl) (by kernel_rfl) (by kernel_rfl) (fun _ _ _ h => h) ?_ hHeld ?_
  rotate_left
  · intro o ho
    simp at ho
    subst ho
    intro wz hSw
    try dsimp only at hSw
    go_simp
    try with_reducible rfl
  try simp only [Act.put, List.setIfInBounds_toArray, List.set_cons_zero, List.set_cons_succ]
  refine hand_take (i := 11) (d := some 6) (v := ?_) rfl (by kernel_rfl) (by kernel_rfl) (by kernel_rfl) (fun _ _ _ h => h) ?_ hHeld ?_
  rotate_left
  · intro o ho
    simp at ho
    subst ho
    intro wz hSw
    try dsimp only at hSw
    go_simp
    try with_reducible rfl
  try simp only [Act.put, List.setIfInBounds_toArray, List.set_cons_zero, List.set_cons_succ]
  refine wpAnyH_done (by kernel_rfl) (NoPanic.normal ?_) _
  clear hHeld
  go_wp2_with fail
  go_loopw [6, 38] (fun lv iv wr => ∃ (j : Nat) (L : List Bun) (g6 : Nat), j ≤ A.length ∧ iv = .int .i64 j ∧ MEnv w wr p g (((j : Int) + 1) * 1048576) L ∧ ViewB wr lv g6 L ∧ g6 ≠ g ∧ Hid (L.length = n)) (fun _ iv _ => A.length - (intOf iv).toNat)
  case atStart => exact ⟨0, L0, g4, Nat.zero_le _, rfl, by simpa using unhide E4, unhide V4, unhide hgg, hn⟩
  case round =>
    obtain ⟨j, L, g6, hj, rfl, E6, V6, hg6, hn6⟩ := hrel
    clear E4 V4 hgg hn
    have V6' := hide V6
    obtain ⟨ao6, cap6, rfl, -⟩ := V6
    rw [hn6.out] at V6' ⊢
    by_cases hlt : j < A.length
    · have hlt' : (j : Int) < A.length := by omega
      obtain ⟨b, o, rfl, hbB, hbl, r0, r1, r2, r3, r4, r5, r6, r7, r8⟩ := acts_row ((unhide hA).below E6.bel) hlt
      obtain ⟨hok, hle⟩ := hf.out.2 _ (List.getElem_mem hlt)
      generalize A[j] = a at r0 r1 r2 r3 r4 r5 r6 r7 r8 hok hle
      replace hok := hide hok
      have hgl6 := E6.n.gl
      have hI6 := hide E6.n.inv
      replace E6 := hide E6
      by_cases k1 : a.k = 1
      · obtain ⟨kk1, kk2⟩ : decide (a.k = 1) = true ∧ (a.k == 1) = true := by simp [k1]
        clear k1
        obtain ⟨q, hq⟩ : ∃ q, Hid (hasM L a.bl = q) := ⟨_, rfl⟩
        obtain ⟨L1, hL1⟩ : ∃ L1, Hid (putM L a.bl a.t = L1) := ⟨_, rfl⟩
        have hn9 : Hid (L1.length = n) := by unfold Hid; rw [← hL1.out, putM_len]; exact hn6.out
        go_wp2_with fail
        go_at_call 12
        refine (refPut_c _ g6 (((j : Int) + 1) * 1048576) 1048576 a.bl a.t L _ ((unhide V6').alloc (acO a)) (unhide hI6) (unhide hok) hle (by omega) q hq L1 hL1).mono ?_
        rintro e w7 ⟨v7, rfl, g7, V7, hg7, hb7⟩
        have E7 := hide (((unhide E6).quiet (belA wr (acO a))).quiet hb7)
        have y7 := (ac_new wr a).below hb7
        have hg8 : Hid (g7 ≠ g) := by unfold Hid; simp at hg7; omega
        have V7' := hide V7
        obtain ⟨ao7, cap7, rfl, -⟩ := V7
        rw [hn9.out] at V7' ⊢
        have hyl := y7.lt
        clear hb7 E6 V6' r0 r1 r2 r3 r4 r5 r6 r7 r8 hg7
        obtain ⟨r0, r1, r2, r3, r4, r5, r6, r7, r8⟩ := id y7.cs
        replace y7 := hide y7
        go_wp2_with fail
        go_at_call 13
        refine (mPut_c p g _ 1048576 a.bl a.t L _ (unhide E7).n (unhide hok) hle (by omega) q hq L1 hL1).mono ?_
        rintro e w8 ⟨rfl, h8, f8⟩
        have E9 := hide ((unhide E7).step (Below.refl _ _) h8 f8)
        have V9 := hide ((unhide V7').fr f8 (fun _ => unhide hg8))
        have hg9 := hg8
        clear h8 f8 E7 V7' y7 r0 r1 r2 r3 r4 r5 r6 r7 r8
        cases q
        · go_wp2_with fail
          go_at_call 17
          refine (mAll_c p g _ L1 _ (unhide E9).n n hn9).mono ?_
          rintro e w10 ⟨rfl, hO10, hb10⟩
          have E10 := hide ((unhide E9).quiet hb10)
          have V10 := hide ((unhide V9).below hb10)
          obtain ⟨ga, hga⟩ : ∃ ga, ga = w8.heap.size := ⟨_, rfl⟩
          rw [← hga] at hO10 ⊢
          replace hga := hide hga
          replace hO10 := hide hO10
          clear hb10 E9 V9
          go_wp2_with fail
          go_at_call 16
          refine (sameB_c _ _ _ _ L1 _ (unhide hO10).view (unhide V10)).mono ?_
          rintro e w11 ⟨rfl, nq, rfl⟩
          have E11 := hide ((unhide E10).quiet (belD w10 nq))
          have V11 := hide ((unhide V10).below (belD w10 nq))
          clear E10 V10 hO10
          go_wp2_with fail
          go_roundw
          case rel => exact ⟨j + 1, L1, g7, by omega, by simp, (unhide E11).mono (by omega), unhide V11, unhide hg9, hn9⟩
          case measure => simp [intOf]; omega
        · go_wp2_with fail
          go_at_call 17
          refine (mAll_c p g _ L1 _ (unhide E9).n n hn9).mono ?_
          rintro e w10 ⟨rfl, hO10, hb10⟩
          have E10 := hide ((unhide E9).quiet hb10)
          have V10 := hide ((unhide V9).below hb10)
          obtain ⟨ga, hga⟩ : ∃ ga, ga = w8.heap.size := ⟨_, rfl⟩
          rw [← hga] at hO10 ⊢
          replace hga := hide hga
          replace hO10 := hide hO10
          clear hb10 E9 V9
          go_wp2_with fail
          go_at_call 16
          refine (sameB_c _ _ _ _ L1 _ (unhide hO10).view (unhide V10)).mono ?_
          rintro e w11 ⟨rfl, nq, rfl⟩
          have E11 := hide ((unhide E10).quiet (belD w10 nq))
          have V11 := hide ((unhide V10).below (belD w10 nq))
          clear E10 V10 hO10
          go_wp2_with fail
          go_roundw
          case rel => exact ⟨j + 1, L1, g7, by omega, by simp, (unhide E11).mono (by omega), unhide V11, unhide hg9, hn9⟩
          case measure => simp [intOf]; omega
      · obtain ⟨kk1, kk2⟩ : decide (a.k = 1) = false ∧ (a.k == 1) = false := by simp [k1]
        clear k1
        by_cases k2 : a.k = 2
        · obtain ⟨kk3, kk4⟩ : decide (a.k = 2) = true ∧ (a.k == 2) = true := by simp [k2]
          clear k2
          obtain ⟨r, hr⟩ : ∃ r, Hid (givenB (getM L a.bl) a.ct a.o a.d = r) := ⟨_, rfl⟩
          obtain ⟨L1, hL1⟩ : ∃ L1, Hid (takM L a.bl a.ct a.o = L1) := ⟨_, rfl⟩
          have hn9 : Hid (L1.length = n) := by unfold Hid; rw [← hL1.out, takM_len]; exact hn6.out
          go_wp2_with fail
          go_at_call 14
          have yA := ac_new wr a
          have yB := bun_new (wr.alloc (acO a)) 31
          simp only [World.size_alloc] at yB
          have hBA : Below wr.heap.size wr ((wr.alloc (acO a)).alloc (.cells #[.int .i64 0, .bool false, .bool false, .int .i64 0] 31)) := (belA wr (acO a)).trans ((belA _ _).mono (by simp))
          have yA2 := yA.below (belA (wr.alloc (acO a)) (.cells #[.int .i64 0, .bool false, .bool false, .int .i64 0] 31))
          have E7 := (unhide E6).quiet hBA
          have V7 := (unhide V6').below hBA
          obtain ⟨wa, hwa⟩ : ∃ wa, (wr.alloc (acO a)).alloc (.cells #[.int .i64 0, .bool false, .bool false, .int .i64 0] 31) = wa := ⟨_, rfl⟩
          rw [hwa] at yB hBA yA2 E7 V7 ⊢
          clear yA hwa
          obtain ⟨yal, yac⟩ := yA2
          have hsz := hBA.size
          obtain ⟨r0, r1, r2, r3, r4, r5, r6, r7, r8⟩ := id yac
          replace yac := hide yac
          replace yB := hide yB
          replace hBA := hide hBA
          replace E7 := hide E7
          replace V7 := hide V7
          refine (refTake_c _ g6 (((j : Int) + 1) * 1048576) a.bl a.ct a.o a.d L wa (unhide V7) (unhide hI6) (by omega) r hr L1 hL1).mono ?_
          rintro e w7 ⟨v7, rfl, g7, V8, hg7, hb7⟩
          have E8 := (unhide E7).quiet hb7
          have yB8 := (unhide yB).below hb7
          have yA8 : AcAt w7 wr.heap.size a := AcAt.below ⟨yal, unhide yac⟩ hb7
          have e1 := set_bun yB8 r
          obtain ⟨w8, hw8⟩ : ∃ w8, setB w7 (wr.heap.size + 1) r = w8 := ⟨_, rfl⟩
          rw [hw8] at e1
          have hg8 : Hid (g7 ≠ g) := by unfold Hid; omega
          have E9 := E8.n.fr e1.2 (by have := (unhide E7).n.pl; have := (unhide E6).n.pl; omega) (by omega)
          have hB9 := E8.bel.trans (e1.2.below (fun i hi => by have := (unhide E6).bel.size; omega) E8.bel.size)
          have E10 : MEnv w w8 p g (((j : Int) + 1) * 1048576) L := ⟨E9, (unhide E7).p0, (unhide E7).g0, hB9⟩
          have V9 := V8.fr e1.2 (fun hne => by have k1 := (unhide V6').lt_of (fun e => hne (List.eq_nil_of_length_eq_zero (by rw [← hL1.out, takM_len, e]; rfl))); have k2 := (unhide yB).lt; rcases hg7 with h | h <;> omega)
          have yA9 := yA8.fr e1.2 (by omega)
          obtain ⟨-, u0, u1, u2, u3, g0, g1, g2, g4'⟩ := yB8
          have hfin : Hid (MEnv w w8 p g (((j : Int) + 1) * 1048576) L ∧ AcAt w8 wr.heap.size a ∧ BunAt w8 (wr.heap.size + 1) r) := ⟨E10, yA9, e1.1⟩
          have V9' := hide V9
          obtain ⟨ao7, cap7, rfl, -⟩ := V9
          rw [hn9.out] at V9' ⊢
          clear E8 yA8 e1 E9 hB9 E10 yA9 V8 hb7 E7 V7 hBA yB yac r0 r1 r2 r3 r4 r5 r6 r7 r8 E6 V6' hg7 yal
          dsimp only [setB] at hw8
          obtain ⟨-, yA9, -⟩ := id hfin.out
          have hal9 := yA9.lt
          obtain ⟨r0, r1, r2, r3, r4, r5, r6, r7, r8⟩ := id yA9.cs
          replace yA9 := hide yA9
          go_wp2_with fail
          clear hw8 u0 u1 u2 u3 g0 g1 g2 g4'
          obtain ⟨E10, yA10, yB10⟩ := hfin.out
          obtain ⟨z4, z0, z1, z2, z3, -, -, -, -⟩ := id yB10
          clear hfin
          replace E10 := hide E10
          have hgl8 := (unhide E10).n.gl
          go_wp2_with fail
          refine wp_region_noPanic ?_
          refine wp_region_held_drew (S := (fun w' => w'.cell? ⟨wr.heap.size, 1, none⟩ = some (.int .i64 a.bl) ∧ w'.cell? ⟨wr.heap.size, 2, none⟩ = some (.int .i64 a.ct) ∧ w'.cell? ⟨wr.heap.size, 3, none⟩ = some (.bool a.o) ∧ w'.cell? ⟨wr.heap.size, 4, none⟩ = some (.bool a.d) ∧ w'.cell? ⟨wr.heap.size + 1, 0, none⟩ = some (.int .i64 r.n) ∧ w'.cell? ⟨wr.heap.size + 1, 1, none⟩ = some (.bool r.o) ∧ w'.cell? ⟨wr.heap.size + 1, 2, none⟩ = some (.bool r.h) ∧ w'.cell? ⟨wr.heap.size + 1, 3, none⟩ = some (.int .i64 r.d))) (by kernel_rfl) ?_ (fun hHeld => ?_)
          · exact ⟨r1, r2, r3, r4, z0, z1, z2, z3⟩
          refine hand_take (i := 0) (d := some 79) (v := ?_) rfl (by kernel_rfl) (by kernel_rfl) (by kernel_rfl) (fun _ _ _ h => h) ?_ hHeld ?_
          rotate_left
          · intro o ho
            simp at ho
            subst ho
            intro wz hSw
            try dsimp only at hSw
            go_simp
            try with_reducible rfl
          try simp only [Act.put, List.setIfInBounds_toArray, List.set_cons_zero, List.set_cons_succ]
          refine hand_take (i := 1) (d := some 80) (v := ?_) rfl (by kernel_rfl) (by kernel_rfl) (by kernel_rfl) (fun _ _ _ h => h) ?_ hHeld ?_
          rotate_left
          · intro o ho
            simp at ho
            subst ho
            intro wz hSw
            try dsimp only at hSw
            go_simp
            try with_reducible rfl
          try simp only [Act.put, List.setIfInBounds_toArray, List.set_cons_zero, List.set_cons_succ]
          refine hand_take (i := 2) (d := some 81) (v := ?_) rfl (by kernel_rfl) (by kernel_rfl) (by kernel_rfl) (fun _ _ _ h => h) ?_ hHeld ?_
          rotate_left
          · intro o ho
            simp at ho
            subst ho
            intro wz hSw
            try dsimp only at hSw
            go_simp
            try with_reducible rfl
          try simp only [Act.put, List.setIfInBounds_toArray, List.set_cons_zero, List.set_cons_succ]
          refine hand_take (i := 3) (d := some 82) (v := ?_) rfl (by kernel_rfl) (by kernel_rfl) (by kernel_rfl) (fun _ _ _ h => h) ?_ hHeld ?_
          rotate_left
          · intro o ho
            simp at ho
            subst ho
            intro wz hSw
            try dsimp only at hSw
            go_simp
            try with_reducible rfl
          try simp only [Act.put, List.setIfInBounds_toArray, List.set_cons_zero, List.set_cons_succ]
          refine hand_take (i := 4) (d := some 83) (v := ?_) rfl (by kernel_rfl) (by kernel_rfl) (by kernel_rfl) (fun _ _ _ h => h) ?_ hHeld ?_
          rotate_left
          · intro o ho
            simp at ho
            subst ho
            intro wz hSw
            try dsimp only at hSw
            go_simp
            try with_reducible rfl
          try simp only [Act.put, List.setIfInBounds_toArray, List.set_cons_zero, List.set_cons_succ]
          refine hand_take (i := 5) (d := some 84) (v := ?_) rfl (by kernel_rfl) (by kernel_rfl) (by kernel_rfl) (fun _ _ _ h => h) ?_ hHeld ?_
          rotate_left
          · intro o ho
            simp at ho
            subst ho
            intro wz hSw
            try dsimp only at hSw
            go_simp
            try with_reducible rfl
          try simp only [Act.put, List.setIfInBounds_toArray, List.set_cons_zero, List.set_cons_succ]
          refine hand_take (i := 6) (d := some 85) (v := ?_) rfl (by kernel_rfl) (by kernel_rfl) (by kernel_rfl) (fun _ _ _ h => h) ?_ hHeld ?_
          rotate_left
          · intro o ho
            simp at ho
            subst ho
            intro wz hSw
            try dsimp only at hSw
            go_simp
            try with_reducible rfl
          try simp only [Act.put, List.setIfInBounds_toArray, List.set_cons_zero, List.set_cons_succ]
          refine hand_take (i := 7) (d := some 86) (v := ?_) rfl (by kernel_rfl) (by kernel_rfl) (by kernel_rfl) (fun _ _ _ h => h) ?_ hHeld ?_
          rotate_left
          · intro o ho
            simp at ho
            subst ho
            intro wz hSw
            try dsimp only at hSw
            go_simp
            try with_reducible rfl
          try simp only [Act.put, List.setIfInBounds_toArray, List.set_cons_zero, List.set_cons_succ]
          refine hand_take (i := 8) (d := some 87) (v := ?_) rfl (by kernel_rfl) (by kernel_rfl) (by kernel_rfl) (fun _ _ _ h => h) ?_ hHeld ?_
          rotate_left
          · intro o ho
            simp at ho
            subst ho
            intro wz hSw
            try dsimp only at hSw
            go_simp
            try with_reducible rfl
          try simp only [Act.put, List.setIfInBounds_toArray, List.set_cons_zero, List.set_cons_succ]
          refine hand_take (i := 10) (d := some 89) (v := ?_) rfl (by kernel_rfl) (by kernel_rfl) (by kernel_rfl) (fun _ _ _ h => h) ?_ hHeld ?_
          rotate_left
          · intro o ho
            simp at ho
            subst ho
            intro wz hSw
            try dsimp only at hSw
            go_simp
            try with_reducible rfl
          try simp only [Act.put, List.setIfInBounds_toArray, List.set_cons_zero, List.set_cons_succ]
          refine hand_call (i := 9) rfl (by kernel_rfl) ?_
          intro o ho
          simp at ho
          subst ho
          intro K hK
          go_simp; go_at_call 15; refine (mTake_c p g _ a.bl a.ct a.o a.d L _ (unhide E10).n.drew (by omega) r hr L1 hL1).mono ?_; rintro e w12 ⟨rfl, h12, f12⟩; have f13 : FrS (· = g) w8 w12 := (FrS.of_below (Below.refl _ _).drew).trans f12 (fun i hi => .inl hi); have kA := f13.block wr.heap.size hal9 (by omega); have kB := f13.block (wr.heap.size + 1) z4 (by omega)
          refine hK.out _ _ ?_ (fun hHeld => ?_)
          · exact ⟨keep_cell kA r1, keep_cell kA r2, keep_cell kA r3, keep_cell kA r4, keep_cell kB z0, keep_cell kB z1, keep_cell kB z2, keep_cell kB z3⟩
          clear hK K
          try simp only [Act.put, List.setIfInBounds_toArray, List.set_cons_zero, List.set_cons_succ]
          have E9 := hide (((unhide E10).step (Below.refl _ _) h12 f13).mono (N' := ((j : Int) + 1) * 1048576 + 1048576) (by omega))
          have V9 := hide ((unhide V9').fr f13 (fun _ => unhide hg8))
          have hg9 := hg8
          clear h12 f12 f13 kA kB E10 V9' r0 r1 r2 r3 r4 r5 r6 r7 r8 z0 z1 z2 z3
          refine hand_take (i := 11) (d := some 90) (v := ?_) rfl (by kernel_rfl) (by kernel_rfl) (by kernel_rfl) (fun _ _ _ h => h) ?_ hHeld ?_
          rotate_left
          · intro o ho
            simp at ho
            subst ho
            intro wz hSw
            try dsimp only at hSw
            go_simp
            try with_reducible rfl
          try simp only [Act.put, List.setIfInBounds_toArray, List.set_cons_zero, List.set_cons_succ]
          refine wpAnyH_done (by kernel_rfl) (NoPanic.normal ?_) _
          clear hHeld
          go_wp2_with fail
          go_at_call 17
          refine (mAll_c p g _ L1 _ (unhide E9).n n hn9).mono ?_
          rintro e w10 ⟨rfl, hO10, hb10⟩
          have E10 := hide ((unhide E9).quiet hb10)
          have V10 := hide ((unhide V9).below hb10)
          obtain ⟨ga, hga⟩ : ∃ ga, ga = w12.heap.size := ⟨_, rfl⟩
          rw [← hga] at hO10 ⊢
          replace hga := hide hga
          replace hO10 := hide hO10
          clear hb10 E9 V9
          go_wp2_with fail
          go_at_call 16
          refine (sameB_c _ _ _ _ L1 _ (unhide hO10).view (unhide V10)).mono ?_
          rintro e w11 ⟨rfl, nq, rfl⟩
          have E11 := hide ((unhide E10).quiet (belD w10 nq))
          have V11 := hide ((unhide V10).below (belD w10 nq))
          clear E10 V10 hO10
          go_wp2_with fail
          go_roundw
          case rel => exact ⟨j + 1, L1, g7, by omega, by simp, (unhide E11).mono (by omega), unhide V11, unhide hg9, hn9⟩
          case measure => simp [intOf]; omega
        · obtain ⟨kk3, kk4⟩ : decide (a.k = 2) = false ∧ (a.k == 2) = false := by simp [k2]
          clear k2
          have hn9 := hn6
          have hg9 := hide hg6
          have E9 := hide ((unhide E6).quiet (belA wr (acO a)))
          have V9 := hide ((unhide V6').below (belA wr (acO a)))
          clear E6 V6'
          go_wp2_with fail
          go_at_call 17
          refine (mAll_c p g _ L _ (unhide E9).n n hn9).mono ?_
          rintro e w10 ⟨rfl, hO10, hb10⟩
          have E10 := hide ((unhide E9).quiet hb10)
          have V10 := hide ((unhide V9).below hb10)
          obtain ⟨ga, hga⟩ : ∃ ga, ga = (wr.alloc (acO a)).heap.size := ⟨_, rfl⟩
          rw [← hga] at hO10 ⊢
          replace hga := hide hga
          replace hO10 := hide hO10
          clear hb10 E9 V9
          go_wp2_with fail
          go_at_call 16
          refine (sameB_c _ _ _ _ L _ (unhide hO10).view (unhide V10)).mono ?_
          rintro e w11 ⟨rfl, nq, rfl⟩
          have E11 := hide ((unhide E10).quiet (belD w10 nq))
          have V11 := hide ((unhide V10).below (belD w10 nq))
          clear E10 V10 hO10
          go_wp2_with fail
          go_roundw
          case rel => exact ⟨j + 1, L, g6, by omega, by simp, (unhide E11).mono (by omega), unhide V11, unhide hg9, hn9⟩
          case measure => simp [intOf]; omega
    · obtain rfl : j = A.length := by omega
      have hfin := hide E6.bel
      clear hlt E6 V6'
      go_wp2_with fail
      go_ret
      exact ⟨rfl, unhide hfin⟩
end Go.Proofs.Ytafccninjjhibaa
