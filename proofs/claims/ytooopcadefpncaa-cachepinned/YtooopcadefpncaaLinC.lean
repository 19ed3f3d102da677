/- The contracts of package lines: set, Has, full, New (layer 8). -/
import Derived.Test.YtooopcadefpncaaLinS
import Derived.Test.YtooopcadefpncaaNum
import Derived.Test.YtooopcadefpncaaHand
namespace Go.Proofs.Ytooopcadefpncaa
open Go.ChangeShapes Go.WideShapes Go.ChangeAt Go.RowKit
set_option linter.unusedSimpArgs false
set_option linter.unusedVariables false
set_option maxRecDepth 10000

attribute [local go_sem, local simp] over_const setCell_drewN alloc_drewN Over.cell Over.frozen lt_s1 lt_s2 lt_s3 le_s0 le_s1 le_s2 le_s3 eq_s0 eq_s1 eq_s2 qe_s0

set_option maxHeartbeats 400000 in
theorem set_c (p : Nat) (S x : Int) (w : World) (c0 : w.cell? ⟨p, 0, none⟩ = some (.int .i64 S)) (hS : S ≤ 64) : Calls Try.prog 67 #[ptr p, .int .i64 x] w fun e w' => e = .returned (.int .i64 (modZ x S)) ∧ w' = w := by
  obtain ⟨k, hk⟩ : ∃ k, Hid (modZ x S = k) := ⟨_, rfl⟩
  rw [hk.out]
  go_enter Try.func67, Try.ntmps67
  go_wp2_with (go_at_call 77; refine (numMod_any x S _ (by omega)).mono ?_; rw [hk.out]; rintro e w' ⟨rfl, rfl⟩)
  go_ret
  exact ⟨rfl, rfl⟩

/-- What a look-up at a block's set finds. -/
theorem LnIs.find {w : World} {p : Nat} {Ft : Nat → Prop} {S W : Int} {A : List Int} (h : LnIs w p Ft S W A) (x : Int) :
    ∃ m rows D k v, Hid (modZ x S = k) ∧ w.cell? ⟨p, 2, none⟩ = some (.map (some m)) ∧ Hid (∀ w', w'.heap[m]? = w.heap[m]? → (Instr.lookup 84 (.map (some m)) (.int .i64 k) false).run Try.prog w' = .ok v w') ∧
      Hid (Own w v (rows k) (part S A k) ∧ (rows k = m → v = nilV) ∧ 0 ≤ k ∧ k < S ∧ SetsIs w m rows S A D ∧ Ft m ∧ m ≠ p ∧ ∀ k, 0 ≤ k → k < S → Ft (rows k) ∧ rows k ≠ p) := by
  obtain ⟨m, rows, D, h1, h2, h3, h4, h5⟩ := h.sets
  obtain ⟨k0, k1⟩ := modZ_in h.inv.s0 x
  obtain ⟨v, a, b, c⟩ := h2.look h.inv.s1 k0 k1
  exact ⟨m, rows, D, modZ x S, v, rfl, h1, a, b, c, k0, k1, h2, h3, h4, h5⟩

set_option maxHeartbeats 1000000 in
theorem has_c (p : Nat) (Ft : Nat → Prop) (S W x : Int) (A : List Int) (w : World) (h : LnIs w p Ft S W A) : Calls Try.prog 70 #[ptr p, .int .i64 x] w fun e w' => e = .returned (.bool (decide (x ∈ A))) ∧ ∃ n, w' = w.drewN n := by
  obtain ⟨m, rows, D, k, v, hk, c2, hl, hv⟩ := h.find x
  have c0 := hide h.c0
  have s1 := h.inv.s1
  have hO := hide (unhide hv).1
  have hl0 : (Instr.lookup 84 (.map (some m)) (.int .i64 k) false).run Try.prog w.drew = .ok v w.drew := unhide hl _ rfl
  have hr : ∀ q, decide (x ∈ part S A k) = q → decide (x ∈ A) = q := by
    intro q hq
    rw [← hq, ← hk.out]
    simp [mem_part]
  obtain ⟨q, hq⟩ : ∃ q, Hid (decide (x ∈ part S A k) = q) := ⟨_, rfl⟩
  rw [hr q hq.out]
  clear hr h hv
  go_enter Try.func70, Try.ntmps70
  go_wp2_with fail
  refine wp_region_noPanic ?_
  refine wp_region_held_drew (S := (fun w' => w' = w.drew ∧ w'.cell? ⟨p, 2, none⟩ = some (.map (some m)) ∧ (Instr.lookup 84 (.map (some m)) (.int .i64 k) false).run Try.prog w' = .ok v w')) (by kernel_rfl) ?_ (fun hHeld => ?_)
  · exact ⟨rfl, c2, hl0⟩
  refine hand_take (i := 0) (d := some 5) (v := ?_) rfl (by kernel_rfl) (by kernel_rfl) (by kernel_rfl) (fun _ _ _ h => h) ?_ hHeld ?_
  rotate_left
  · intro o ho
    simp at ho
    subst ho
    intro wz hSw
    try dsimp only at hSw
    go_simp
    try with_reducible rfl
  try simp only [Act.put, List.setIfInBounds_toArray, List.set_cons_zero, List.set_cons_succ]
  refine hand_take (i := 1) (d := some 6) (v := ?_) rfl (by kernel_rfl) (by kernel_rfl) (by kernel_rfl) (fun _ _ _ h => h) ?_ hHeld ?_
  rotate_left
  · intro o ho
    simp at ho
    subst ho
    intro wz hSw
    try dsimp only at hSw
    go_simp
    try with_reducible rfl
  try simp only [Act.put, List.setIfInBounds_toArray, List.set_cons_zero, List.set_cons_succ]
  refine hand_take (i := 2) (d := some 7) (v := ?_) rfl (by kernel_rfl) (by kernel_rfl) (by kernel_rfl) (fun _ _ _ h => h) ?_ hHeld ?_
  rotate_left
  · intro o ho
    simp at ho
    subst ho
    intro wz hSw
    try dsimp only at hSw
    go_simp
    try with_reducible rfl
  try simp only [Act.put, List.setIfInBounds_toArray, List.set_cons_zero, List.set_cons_succ]
  refine hand_take (i := 3) (d := some 8) (v := ?_) rfl (by kernel_rfl) (by kernel_rfl) (by kernel_rfl) (fun _ _ _ h => h) ?_ hHeld ?_
  rotate_left
  · intro o ho
    simp at ho
    subst ho
    intro wz hSw
    try dsimp only at hSw
    go_simp
    try with_reducible rfl
  try simp only [Act.put, List.setIfInBounds_toArray, List.set_cons_zero, List.set_cons_succ]
  refine hand_take (i := 4) (d := some 9) (v := ?_) rfl (by kernel_rfl) (by kernel_rfl) (by kernel_rfl) (fun _ _ _ h => h) ?_ hHeld ?_
  rotate_left
  · intro o ho
    simp at ho
    subst ho
    intro wz hSw
    try dsimp only at hSw
    go_simp
    try with_reducible rfl
  try simp only [Act.put, List.setIfInBounds_toArray, List.set_cons_zero, List.set_cons_succ]
  refine hand_take (i := 5) (d := some 10) (v := ?_) rfl (by kernel_rfl) (by kernel_rfl) (by kernel_rfl) (fun _ _ _ h => h) ?_ hHeld ?_
  rotate_left
  · intro o ho
    simp at ho
    subst ho
    intro wz hSw
    try dsimp only at hSw
    go_simp
    try with_reducible rfl
  try simp only [Act.put, List.setIfInBounds_toArray, List.set_cons_zero, List.set_cons_succ]
  refine hand_take (i := 8) (d := some 13) (v := ?_) rfl (by kernel_rfl) (by kernel_rfl) (by kernel_rfl) (fun _ _ _ h => h) ?_ hHeld ?_
  rotate_left
  · intro o ho
    simp at ho
    subst ho
    intro wz hSw
    try dsimp only at hSw
    go_simp
    try with_reducible rfl
  try simp only [Act.put, List.setIfInBounds_toArray, List.set_cons_zero, List.set_cons_succ]
  refine hand_call (i := 6) rfl (by kernel_rfl) ?_
  intro o ho
  simp at ho
  subst ho
  intro K hK
  go_simp; go_at_call 67; refine (set_c p S x w.drew (unhide c0) s1).mono ?_; rw [hk.out]; rintro e w' ⟨rfl, rfl⟩
  refine hK.out _ _ ?_ (fun hHeld => ?_)
  · exact ⟨rfl, c2, hl0⟩
  clear hK K
  try simp only [Act.put, List.setIfInBounds_toArray, List.set_cons_zero, List.set_cons_succ]
  refine hand_take (i := 7) (d := some 12) (v := ?_) rfl (by kernel_rfl) (by kernel_rfl) (by kernel_rfl) (fun _ _ _ h => h) ?_ hHeld ?_
  rotate_left
  · intro o ho
    simp at ho
    subst ho
    intro wz hSw
    try dsimp only at hSw
    go_simp
    try with_reducible rfl
  try simp only [Act.put, List.setIfInBounds_toArray, List.set_cons_zero, List.set_cons_succ]
  refine hand_call (i := 9) rfl (by kernel_rfl) ?_
  intro o ho
  simp at ho
  subst ho
  intro K hK
  go_simp; go_at_call 78; refine (contains_c v (rows k) (part S A k) x w.drew ((unhide hO).view.carry fun _ _ => rfl)).mono ?_; rw [hq.out]; rintro e w' ⟨rfl, rfl⟩
  refine hK.out _ _ ?_ (fun hHeld => ?_)
  · exact ⟨rfl, c2, hl0⟩
  clear hK K
  try simp only [Act.put, List.setIfInBounds_toArray, List.set_cons_zero, List.set_cons_succ]
  refine hand_take (i := 10) (d := some 4) (v := ?_) rfl (by kernel_rfl) (by kernel_rfl) (by kernel_rfl) (fun _ _ _ h => h) ?_ hHeld ?_
  rotate_left
  · intro o ho
    simp at ho
    subst ho
    intro wz hSw
    try dsimp only at hSw
    go_simp
    try with_reducible rfl
  try simp only [Act.put, List.setIfInBounds_toArray, List.set_cons_zero, List.set_cons_succ]
  refine wpAnyH_done (by kernel_rfl) (NoPanic.normal ?_) _
  clear hHeld
  go_wp2_with fail
  go_ret
  exact ⟨rfl, 1, rfl⟩
set_option maxHeartbeats 1000000 in
theorem full_c (p : Nat) (Ft : Nat → Prop) (S W x : Int) (A : List Int) (w : World) (h : LnIs w p Ft S W A) : Calls Try.prog 71 #[ptr p, .int .i64 x] w fun e w' => e = .returned (.bool (fullA S W A x)) ∧ ∃ n, w' = w.drewN n := by
  obtain ⟨m, rows, D, k, v, hk, c2, hl, hv⟩ := h.find x
  have c0 := hide h.c0
  have c1 := h.c1
  have s1 := h.inv.s1
  obtain ⟨⟨ao, cap, rfl, _⟩, _⟩ := unhide hv
  have hl0 : (Instr.lookup 84 (.map (some m)) (.int .i64 k) false).run Try.prog w.drew = .ok _ w.drew := unhide hl _ rfl
  obtain ⟨n, hn⟩ : ∃ n, Hid ((part S A k).length = n) := ⟨_, rfl⟩
  rw [hn.out] at hl0
  have hq : fullA S W A x = decide (W ≤ n) := by rw [fullA, hk.out, hn.out]
  rw [hq]
  clear hq h hv hl
  · go_enter Try.func71, Try.ntmps71
    go_wp2_with fail
    refine wp_region_noPanic ?_
    refine wp_region_held_drew (S := (fun w' => w' = w.drew ∧ w'.cell? ⟨p, 2, none⟩ = some (.map (some m)) ∧ w'.cell? ⟨p, 1, none⟩ = some (.int .i64 W) ∧ (Instr.lookup 84 (.map (some m)) (.int .i64 k) false).run Try.prog w' = .ok (.slice ao n cap) w')) (by kernel_rfl) ?_ (fun hHeld => ?_)
    · exact ⟨rfl, c2, c1, hl0⟩
    refine hand_take (i := 0) (d := some 5) (v := ?_) rfl (by kernel_rfl) (by kernel_rfl) (by kernel_rfl) (fun _ _ _ h => h) ?_ hHeld ?_
    rotate_left
    · intro o ho
      simp at ho
      subst ho
      intro wz hSw
      try dsimp only at hSw
      go_simp
      try with_reducible rfl
    try simp only [Act.put, List.setIfInBounds_toArray, List.set_cons_zero, List.set_cons_succ]
    refine hand_take (i := 1) (d := some 6) (v := ?_) rfl (by kernel_rfl) (by kernel_rfl) (by kernel_rfl) (fun _ _ _ h => h) ?_ hHeld ?_
    rotate_left
    · intro o ho
      simp at ho
      subst ho
      intro wz hSw
      try dsimp only at hSw
      go_simp
      try with_reducible rfl
    try simp only [Act.put, List.setIfInBounds_toArray, List.set_cons_zero, List.set_cons_succ]
    refine hand_take (i := 2) (d := some 7) (v := ?_) rfl (by kernel_rfl) (by kernel_rfl) (by kernel_rfl) (fun _ _ _ h => h) ?_ hHeld ?_
    rotate_left
    · intro o ho
      simp at ho
      subst ho
      intro wz hSw
      try dsimp only at hSw
      go_simp
      try with_reducible rfl
    try simp only [Act.put, List.setIfInBounds_toArray, List.set_cons_zero, List.set_cons_succ]
    refine hand_take (i := 3) (d := some 8) (v := ?_) rfl (by kernel_rfl) (by kernel_rfl) (by kernel_rfl) (fun _ _ _ h => h) ?_ hHeld ?_
    rotate_left
    · intro o ho
      simp at ho
      subst ho
      intro wz hSw
      try dsimp only at hSw
      go_simp
      try with_reducible rfl
    try simp only [Act.put, List.setIfInBounds_toArray, List.set_cons_zero, List.set_cons_succ]
    refine hand_take (i := 4) (d := some 9) (v := ?_) rfl (by kernel_rfl) (by kernel_rfl) (by kernel_rfl) (fun _ _ _ h => h) ?_ hHeld ?_
    rotate_left
    · intro o ho
      simp at ho
      subst ho
      intro wz hSw
      try dsimp only at hSw
      go_simp
      try with_reducible rfl
    try simp only [Act.put, List.setIfInBounds_toArray, List.set_cons_zero, List.set_cons_succ]
    refine hand_take (i := 5) (d := some 10) (v := ?_) rfl (by kernel_rfl) (by kernel_rfl) (by kernel_rfl) (fun _ _ _ h => h) ?_ hHeld ?_
    rotate_left
    · intro o ho
      simp at ho
      subst ho
      intro wz hSw
      try dsimp only at hSw
      go_simp
      try with_reducible rfl
    try simp only [Act.put, List.setIfInBounds_toArray, List.set_cons_zero, List.set_cons_succ]
    refine hand_take (i := 9) (d := some 14) (v := ?_) rfl (by kernel_rfl) (by kernel_rfl) (by kernel_rfl) (fun _ _ _ h => h) ?_ hHeld ?_
    rotate_left
    · intro o ho
      simp at ho
      subst ho
      intro wz hSw
      try dsimp only at hSw
      go_simp
      try with_reducible rfl
    try simp only [Act.put, List.setIfInBounds_toArray, List.set_cons_zero, List.set_cons_succ]
    refine hand_take (i := 10) (d := some 15) (v := ?_) rfl (by kernel_rfl) (by kernel_rfl) (by kernel_rfl) (fun _ _ _ h => h) ?_ hHeld ?_
    rotate_left
    · intro o ho
      simp at ho
      subst ho
      intro wz hSw
      try dsimp only at hSw
      go_simp
      try with_reducible rfl
    try simp only [Act.put, List.setIfInBounds_toArray, List.set_cons_zero, List.set_cons_succ]
    refine hand_take (i := 11) (d := some 16) (v := ?_) rfl (by kernel_rfl) (by kernel_rfl) (by kernel_rfl) (fun _ _ _ h => h) ?_ hHeld ?_
    rotate_left
    · intro o ho
      simp at ho
      subst ho
      intro wz hSw
      try dsimp only at hSw
      go_simp
      try with_reducible rfl
    try simp only [Act.put, List.setIfInBounds_toArray, List.set_cons_zero, List.set_cons_succ]
    refine hand_take (i := 12) (d := some 17) (v := ?_) rfl (by kernel_rfl) (by kernel_rfl) (by kernel_rfl) (fun _ _ _ h => h) ?_ hHeld ?_
    rotate_left
    · intro o ho
      simp at ho
      subst ho
      intro wz hSw
      try dsimp only at hSw
      go_simp
      try with_reducible rfl
    try simp only [Act.put, List.setIfInBounds_toArray, List.set_cons_zero, List.set_cons_succ]
    refine hand_call (i := 6) rfl (by kernel_rfl) ?_
    intro o ho
    simp at ho
    subst ho
    intro K hK
    go_simp; go_at_call 67; refine (set_c p S x w.drew (unhide c0) s1).mono ?_; rw [hk.out]; rintro e w' ⟨rfl, rfl⟩
    refine hK.out _ _ ?_ (fun hHeld => ?_)
    · exact ⟨rfl, c2, c1, hl0⟩
    clear hK K
    try simp only [Act.put, List.setIfInBounds_toArray, List.set_cons_zero, List.set_cons_succ]
    refine hand_take (i := 7) (d := some 12) (v := ?_) rfl (by kernel_rfl) (by kernel_rfl) (by kernel_rfl) (fun _ _ _ h => h) ?_ hHeld ?_
    rotate_left
    · intro o ho
      simp at ho
      subst ho
      intro wz hSw
      try dsimp only at hSw
      go_simp
      try with_reducible rfl
    try simp only [Act.put, List.setIfInBounds_toArray, List.set_cons_zero, List.set_cons_succ]
    refine hand_take (i := 8) (d := some 13) (v := ?_) rfl (by kernel_rfl) (by kernel_rfl) (by kernel_rfl) (fun _ _ _ h => h) ?_ hHeld ?_
    rotate_left
    · intro o ho
      simp at ho
      subst ho
      intro wz hSw
      try dsimp only at hSw
      go_simp
      try with_reducible rfl
    try simp only [Act.put, List.setIfInBounds_toArray, List.set_cons_zero, List.set_cons_succ]
    refine hand_take (i := 13) (d := some 18) (v := ?_) rfl (by kernel_rfl) (by kernel_rfl) (by kernel_rfl) (fun _ _ _ h => h) ?_ hHeld ?_
    rotate_left
    · intro o ho
      simp at ho
      subst ho
      intro wz hSw
      try dsimp only at hSw
      go_simp
      try with_reducible rfl
    try simp only [Act.put, List.setIfInBounds_toArray, List.set_cons_zero, List.set_cons_succ]
    refine hand_take (i := 14) (d := some 4) (v := ?_) rfl (by kernel_rfl) (by kernel_rfl) (by kernel_rfl) (fun _ _ _ h => h) ?_ hHeld ?_
    rotate_left
    · intro o ho
      simp at ho
      subst ho
      intro wz hSw
      try dsimp only at hSw
      go_simp
      try with_reducible rfl
    try simp only [Act.put, List.setIfInBounds_toArray, List.set_cons_zero, List.set_cons_succ]
    refine wpAnyH_done (by kernel_rfl) (NoPanic.normal ?_) _
    clear hHeld
    go_wp2_with fail
    go_ret
    exact ⟨rfl, 1, rfl⟩

set_option maxHeartbeats 1000000 in
theorem new_c (s t : Int) (w : World) : Calls Try.prog 29 #[.int .i64 s, .int .i64 t] w fun e w' => ∃ p Ft, e = .returned (ptr p) ∧ LnIs w' p Ft (clampZ s 1 64) (clampZ t 1 16) [] ∧ Below w.heap.size w w' ∧ ∀ b, Ft b → w.heap.size ≤ b := by
  obtain ⟨S, hS⟩ : ∃ S, Hid (clampZ s 1 64 = S) := ⟨_, rfl⟩
  obtain ⟨W, hW⟩ : ∃ W, Hid (clampZ t 1 16 = W) := ⟨_, rfl⟩
  rw [hS.out, hW.out]
  have bS := (clampZ_bd s 1 64).2 (by decide)
  have bW := (clampZ_bd t 1 16).2 (by decide)
  rw [hS.out] at bS
  rw [hW.out] at bW
  have hmm := @run_makeMap Try.prog
  go_enter Try.func29, Try.ntmps29
  go_wp2_with (first | (go_at_call 50; with_reducible refine (numClamp_any s 1 64 _).mono ?_; rw [hS.out]; rintro e w' ⟨rfl, hw'⟩; rw [hw']; clear hw' w') | (go_at_call 50; with_reducible refine (numClamp_any t 1 16 _).mono ?_; rw [hW.out]; rintro e w' ⟨rfl, hw'⟩; rw [hw']; clear hw' w'))
  go_ret
  have hm : (w.alloc (.map #[] 0)).ownsMap (H := Value) Try.prog 3 heldR w.heap.size 0 (.map []) := World.ownsMap_made _ _ _ _
  refine ⟨w.heap.size + 1, fun b => b = w.heap.size ∨ b = w.heap.size + 1, rfl, ⟨Inv.new bS.1 bS.2 bW.1 bW.2, by simp, .inr rfl, fun b hb => by simp; omega, by simp, by simp, ⟨w.heap.size, fun _ => w.heap.size, .map [], by simp, sets_new _ _ (by simp) S ((hm.alloc _).mono (by omega)), .inl rfl, by omega, fun _ _ _ => ⟨.inl rfl, by dsimp only; omega⟩⟩⟩, ?_, fun b hb => by omega⟩
  exact ((Below.refl _ _).alloc (Nat.le_refl _) _).alloc (by simp) _
end Go.Proofs.Ytooopcadefpncaa
