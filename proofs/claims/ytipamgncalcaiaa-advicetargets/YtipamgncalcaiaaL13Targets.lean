/- The walk of AdviceTargets (layer 13). -/
import Derived.Test.YtipamgncalcaiaaLaw13
import Derived.Test.YtipamgncalcaiaaHand
namespace Go.Proofs.Ytipamgncalcaiaa
open Go.ChangeShapes Go.WideShapes Go.ChangeAt Go.RowKit
set_option linter.unusedSimpArgs false
set_option linter.unusedVariables false
set_option maxRecDepth 10000

attribute [local go_sem, local simp] over_const setCell_drewN alloc_drewN Over.cell Over.frozen lt_s1 lt_s2 lt_s3 le_s0 le_s1 le_s2 le_s3 eq_s0 eq_s1 eq_s2 qe_s0

/-- What a region holds: a configuration and some draws in blocks of their own. -/
abbrev CD (W : World) (s : Nat) (n bl tt cs cy cc cu ct cp : Int) (d0 d1 d2 : Int) (w' : World) : Prop := Hid (Below W.heap.size W w') ∧ w'.cell? ⟨s, 0, none⟩ = some (.int .i64 n) ∧ w'.cell? ⟨s, 1, none⟩ = some (.int .i64 bl) ∧ w'.cell? ⟨s, 2, none⟩ = some (.int .i64 tt) ∧ w'.cell? ⟨s, 3, none⟩ = some (.int .i64 cs) ∧ w'.cell? ⟨s, 4, none⟩ = some (.int .i64 cy) ∧ w'.cell? ⟨s, 5, none⟩ = some (.int .i64 cc) ∧ w'.cell? ⟨s, 6, none⟩ = some (.int .i64 cu) ∧ w'.cell? ⟨s, 7, none⟩ = some (.int .i64 ct) ∧ w'.cell? ⟨s, 8, none⟩ = some (.int .i64 cp) ∧ w'.cell? ⟨s + 1, 0, none⟩ = some (.int .i64 d0) ∧ w'.cell? ⟨s + 1, 1, none⟩ = some (.int .i64 d1) ∧ w'.cell? ⟨s + 1, 2, none⟩ = some (.int .i64 d2)

theorem CD.keep {W : World} {s : Nat} {n bl tt cs cy cc cu ct cp d0 d1 d2 : Int} {w1 w2 : World} (hs : s + 1 < W.heap.size) (h : CD W s n bl tt cs cy cc cu ct cp d0 d1 d2 w1) (hb : Below w1.heap.size w1 w2) : CD W s n bl tt cs cy cc cu ct cp d0 d1 d2 w2 := by
  have hz := h.1.out.size
  have k0 := hb.block s (by omega)
  have k1 := hb.block (s + 1) (by omega)
  obtain ⟨h, c0, c1, c2, c3, c4, c5, c6, c7, c8, e0, e1, e2⟩ := h
  exact ⟨hide (h.out.trans (hb.mono hz)), keep_cell k0 c0, keep_cell k0 c1, keep_cell k0 c2, keep_cell k0 c3, keep_cell k0 c4, keep_cell k0 c5, keep_cell k0 c6, keep_cell k0 c7, keep_cell k0 c8, keep_cell k1 e0, keep_cell k1 e1, keep_cell k1 e2⟩

set_option maxHeartbeats 2000000 in
theorem AdviceTargets_walk (n bl tt cs cy cc cu ct cp : Int) (self d0 d1 d2 : Int) (w : World) : Calls Try.prog 3 #[.agg #[.int .i64 n, .int .i64 bl, .int .i64 tt, .int .i64 cs, .int .i64 cy, .int .i64 cc, .int .i64 cu, .int .i64 ct, .int .i64 cp], .int .i64 self, .agg #[.int .i64 d0, .int .i64 d1, .int .i64 d2]] w fun e w' => e = .returned (.bool true) ∧ Below w.heap.size w w' := by
  obtain ⟨L, hL⟩ : ∃ L, Hid (tgt n self cp d0 d1 = L) := ⟨_, rfl⟩
  obtain ⟨N, hN⟩ : ∃ N, Hid (L.length = N) := ⟨_, rfl⟩
  go_enter Try.func3, Try.ntmps3
  go_wp2_with fail
  refine name_world ?_
  intro W hW
  obtain ⟨s, hs⟩ : ∃ s, w.heap.size = s := ⟨_, rfl⟩
  have hB : Below s w W := by
    rw [← hW, ← hs]
    repeat' first | with_reducible exact Below.refl _ _ | with_reducible refine Below.setCell ?_ ?_ _ | with_reducible refine Below.alloc ?_ ?_ _ | with_reducible refine Below.drew ?_ | with_reducible refine belowN ?_ _ | with_reducible refine Over.go _ ?_ ?_ | with_reducible exact Nat.le_refl _ | with_reducible refine Over.sz _ _ ?_ | with_reducible refine le_alloc ?_ | with_reducible refine le_setCell ?_ | with_reducible refine le_drewN ?_ | with_reducible refine le_drew ?_ | omega | (dsimp only; omega)
  replace hB := hide hB
  have hz : s + 1 < W.heap.size := by rw [← hW, ← hs]; simp
  have hC : CD W s n bl tt cs cy cc cu ct cp d0 d1 d2 W.drew := by
    rw [← hW, ← hs]
    refine ⟨hide (Below.refl _ _).drew, ?_⟩
    simp [go_sem]
  rw [hs]
  clear hW
  replace hs := hide hs
  go_wp2_with fail
  refine wp_region_noPanic ?_
  refine wp_region_held_drew (S := (CD W s n bl tt cs cy cc cu ct cp d0 d1 d2)) (by kernel_rfl) ?_ (fun hHeld => ?_)
  · exact hC
  obtain ⟨w0, hw0⟩ : ∃ w0, W.drew = w0 := ⟨_, rfl⟩
  rw [hw0] at hHeld hC ⊢
  clear hw0
  refine hand_call (i := 0) rfl (by kernel_rfl) ?_
  intro o ho
  simp at ho
  subst ho
  intro K hK
  (go_simp; go_at_call 8; refine (awake13_any _).mono ?_; rintro e w1 ⟨rfl, hb1⟩; have hC1 := CD.keep hz hC hb1)
  refine hK.out _ _ ?_ (fun hHeld => ?_)
  · exact hC1
  clear hK K
  try simp only [Act.put, List.setIfInBounds_toArray, List.set_cons_zero, List.set_cons_succ]
  clear hC hb1
  refine hand_take (i := 1) (d := some 8) (v := ?_) rfl (by kernel_rfl) (by kernel_rfl) (by kernel_rfl) (fun _ _ _ h => h) ?_ hHeld ?_
  rotate_left
  · intro o ho
    simp at ho
    subst ho
    intro wz hSw
    try dsimp only at hSw
    go_simp
    try with_reducible rfl
  try simp only [Act.put, List.setIfInBounds_toArray, List.set_cons_zero, List.set_cons_succ]
  refine hand_take (i := 2) (d := some 9) (v := ?_) rfl (by kernel_rfl) (by kernel_rfl) (by kernel_rfl) (fun _ _ _ h => h) ?_ hHeld ?_
  rotate_left
  · intro o ho
    simp at ho
    subst ho
    intro wz hSw
    try dsimp only at hSw
    go_simp
    try with_reducible rfl
  try simp only [Act.put, List.setIfInBounds_toArray, List.set_cons_zero, List.set_cons_succ]
  refine hand_take (i := 3) (d := some 10) (v := ?_) rfl (by kernel_rfl) (by kernel_rfl) (by kernel_rfl) (fun _ _ _ h => h) ?_ hHeld ?_
  rotate_left
  · intro o ho
    simp at ho
    subst ho
    intro wz hSw
    try dsimp only at hSw
    go_simp
    try with_reducible rfl
  try simp only [Act.put, List.setIfInBounds_toArray, List.set_cons_zero, List.set_cons_succ]
  refine hand_take (i := 4) (d := some 11) (v := ?_) rfl (by kernel_rfl) (by kernel_rfl) (by kernel_rfl) (fun _ _ _ h => h) ?_ hHeld ?_
  rotate_left
  · intro o ho
    simp at ho
    subst ho
    intro wz hSw
    try dsimp only at hSw
    go_simp
    try with_reducible rfl
  try simp only [Act.put, List.setIfInBounds_toArray, List.set_cons_zero, List.set_cons_succ]
  refine hand_take (i := 6) (d := some 13) (v := ?_) rfl (by kernel_rfl) (by kernel_rfl) (by kernel_rfl) (fun _ _ _ h => h) ?_ hHeld ?_
  rotate_left
  · intro o ho
    simp at ho
    subst ho
    intro wz hSw
    try dsimp only at hSw
    go_simp
    try with_reducible rfl
  try simp only [Act.put, List.setIfInBounds_toArray, List.set_cons_zero, List.set_cons_succ]
  refine hand_take (i := 7) (d := some 14) (v := ?_) rfl (by kernel_rfl) (by kernel_rfl) (by kernel_rfl) (fun _ _ _ h => h) ?_ hHeld ?_
  rotate_left
  · intro o ho
    simp at ho
    subst ho
    intro wz hSw
    try dsimp only at hSw
    go_simp
    try with_reducible rfl
  try simp only [Act.put, List.setIfInBounds_toArray, List.set_cons_zero, List.set_cons_succ]
  refine hand_take (i := 8) (d := some 15) (v := ?_) rfl (by kernel_rfl) (by kernel_rfl) (by kernel_rfl) (fun _ _ _ h => h) ?_ hHeld ?_
  rotate_left
  · intro o ho
    simp at ho
    subst ho
    intro wz hSw
    try dsimp only at hSw
    go_simp
    try with_reducible rfl
  try simp only [Act.put, List.setIfInBounds_toArray, List.set_cons_zero, List.set_cons_succ]
  refine hand_call (i := 5) rfl (by kernel_rfl) ?_
  intro o ho
  simp at ho
  subst ho
  intro K hK
  (go_simp; go_at_call 10; refine (targets_c n bl tt cs cy cc cu ct cp self d0 d1 d2 _ L hL N hN).mono ?_; rintro e w2 ⟨ao, cap, rfl, ⟨g, hV⟩, hb2⟩; have hC2 := CD.keep hz hC1 hb2)
  refine hK.out _ _ ?_ (fun hHeld => ?_)
  · exact hC2
  clear hK K
  try simp only [Act.put, List.setIfInBounds_toArray, List.set_cons_zero, List.set_cons_succ]
  clear hC1 hb2
  refine hand_call (i := 9) rfl (by kernel_rfl) ?_
  intro o ho
  simp at ho
  subst ho
  intro K hK
  (go_simp; go_at_call 11; refine (refTargets_c n bl tt cs cy cc cu ct cp self d0 d1 d2 _ L hL N hN).mono ?_; rintro e w3 ⟨ao', cap', rfl, ⟨g', hV'⟩, hb3⟩; have hC3 := CD.keep hz hC2 hb3; have hV2 := hV.below hb3)
  refine hK.out _ _ ?_ (fun hHeld => ?_)
  · exact hC3
  clear hK K
  try simp only [Act.put, List.setIfInBounds_toArray, List.set_cons_zero, List.set_cons_succ]
  clear hC2 hb3 hV
  refine hand_call (i := 10) rfl (by kernel_rfl) ?_
  intro o ho
  simp at ho
  subst ho
  intro K hK
  (go_simp; go_at_call 9; refine (ints_c _ _ _ _ L L _ hV2 hV').mono ?_; simp only [decide_true]; rintro e w4 ⟨rfl, m, rfl⟩; have hC4 := CD.keep hz hC3 (belowN (Below.refl _ _) m))
  refine hK.out _ _ ?_ (fun hHeld => ?_)
  · exact hC4
  clear hK K
  try simp only [Act.put, List.setIfInBounds_toArray, List.set_cons_zero, List.set_cons_succ]
  have hF := hC4.1
  clear hC3 hC4 hV' hV2
  refine hand_take (i := 11) (d := some 18) (v := ?_) rfl (by kernel_rfl) (by kernel_rfl) (by kernel_rfl) (fun _ _ _ h => h) ?_ hHeld ?_
  rotate_left
  · intro o ho
    simp at ho
    subst ho
    intro wz hSw
    try dsimp only at hSw
    go_simp
    try with_reducible rfl
  try simp only [Act.put, List.setIfInBounds_toArray, List.set_cons_zero, List.set_cons_succ]
  refine hand_take (i := 12) (d := some 6) (v := ?_) rfl (by kernel_rfl) (by kernel_rfl) (by kernel_rfl) (fun _ _ _ h => h) ?_ hHeld ?_
  rotate_left
  · intro o ho
    simp at ho
    subst ho
    intro wz hSw
    try dsimp only at hSw
    go_simp
    try with_reducible rfl
  try simp only [Act.put, List.setIfInBounds_toArray, List.set_cons_zero, List.set_cons_succ]
  refine wpAnyH_done (by kernel_rfl) (NoPanic.normal ?_) _
  clear hHeld
  go_wp2_with fail
  go_ret
  refine ⟨rfl, ?_⟩
  rw [hs.out]
  exact hB.out.trans (hF.out.mono (by omega))
end Go.Proofs.Ytipamgncalcaiaa
