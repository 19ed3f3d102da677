/- Package letter's Check (layer 4) at the kinds 3, 4: what it returns; no old memory turns. -/
import Derived.Test.YtipklaehhiffdaaDoorLetterB
namespace Go.Proofs.YtipklaehhiffdaaDoor
open Go.ChangeShapes Go.WideShapes Go.ChangeAt Go.RowKit
set_option linter.unusedSimpArgs false
set_option linter.unusedVariables false

attribute [local go_sem, local simp] over_const setCell_drewN alloc_drewN Over.cell Over.frozen lt_s1 lt_s2 lt_s3 le_s0 le_s1 le_s2 le_s3 eq_s0 eq_s1 eq_s2 qe_s0

set_option maxHeartbeats 2000000 in
theorem check3 (n bl tt cs cy cc cu ct cp : Int) (la lb lq ls lw : Int) (lr : Bool) (xn : Int) (xo xh : Bool) (xd : Int) (w : World) (hT : Hid (Tab w)) (z : Int) (hz : Hid (letterZ n bl tt ⟨3, la, lb, lq, ls, lw, lr, ⟨xn, xo, xh, xd⟩⟩ = z)) :
    Calls Tryd.prog 12 #[.agg #[.int .i64 n, .int .i64 bl, .int .i64 tt, .int .i64 cs, .int .i64 cy, .int .i64 cc, .int .i64 cu, .int .i64 ct, .int .i64 cp], .agg #[.int .i64 3, .int .i64 la, .int .i64 lb, .int .i64 lq, .int .i64 ls, .int .i64 lw, .bool lr, .int .i64 xn, .bool xo, .bool xh, .int .i64 xd]] w fun e w' => e = .returned (.int .i64 z) ∧ Below w.heap.size w w' := by
  have hz' := unhide hz
  have h0 := hide (show inB 3 1 7 = true from rfl)
  unfold letterZ at hz'
  dsimp only at hz'
  rw [unhide h0] at hz'
  have z0 := (unhide hT).1
  have t0 := (unhide hT).2 18 _ rfl
  have t1 := (unhide hT).2 19 _ rfl
  have t2 := (unhide hT).2 20 _ rfl
  have t3 := (unhide hT).2 21 _ rfl
  have t4 := (unhide hT).2 22 _ rfl
  have t5 := (unhide hT).2 23 _ rfl
  obtain ⟨q1, h1⟩ : ∃ q, Hid (wayB (rowL 3) la lb n = q) := ⟨_, rfl⟩
  obtain ⟨q2, h2⟩ : ∃ q, Hid (marksB (rowL 3) ls lw lr n = q) := ⟨_, rfl⟩
  rw [unhide h1, unhide h2] at hz'
  clear hz hT
  rcases (show lq < 0 ∨ (0 ≤ lq ∧ bl ≤ lq) ∨ (0 ≤ lq ∧ lq < bl) by omega) with c | c | c
  · obtain rfl : 3 = z := by simpa [c] using hz'
    go_enter Tryd.func12, Tryd.ntmps12
    go_wp2_with (first | (go_at_call 20; refine (within_c _ _ _ _ _ h0).mono ?_; rintro e w' ⟨rfl, rfl⟩) | (go_at_call 21; refine (way_c (rowL 3) _ _ _ _ _ _ _ _ _ _ _ _ _ 1 2 rfl rfl _ h1).mono ?_; rintro e w' ⟨rfl, hb⟩; obtain ⟨x, rfl⟩ := over hb; clear hb; have f0 := x.up (b := w.heap.size) (by first | omega | (simp only [World.size_alloc]; omega)); have f1 := x.up (b := w.heap.size + 1) (by first | omega | (simp only [World.size_alloc]; omega)); have f2 := x.up (b := w.heap.size + 1 + 1) (by first | omega | (simp only [World.size_alloc]; omega))) | (go_at_call 22; refine (marks_c (rowL 3) _ _ _ _ _ _ _ _ _ _ _ _ _ 1 2 _ h2).mono ?_; rintro e w' ⟨rfl, hb⟩; obtain ⟨y, rfl⟩ := over hb; clear hb; have g0 := y.up (b := w.heap.size) (by first | omega | (simp only [World.size_alloc]; omega)); have g1 := y.up (b := w.heap.size + 1) (by first | omega | (simp only [World.size_alloc]; omega)); have g2 := y.up (b := w.heap.size + 1 + 1) (by first | omega | (simp only [World.size_alloc]; omega))))
    go_ret
    refine ⟨by first | rfl | simp, ?_⟩
    repeat' first | with_reducible exact Below.refl _ _ | with_reducible refine Below.setCell ?_ ?_ _ | with_reducible refine Below.alloc ?_ ?_ _ | with_reducible refine Below.drew ?_ | with_reducible refine belowN ?_ _ | with_reducible refine Over.go _ ?_ ?_ | with_reducible exact Nat.le_refl _ | with_reducible refine Over.sz _ _ ?_ | with_reducible refine le_alloc ?_ | with_reducible refine le_setCell ?_ | with_reducible refine le_drewN ?_ | with_reducible refine le_drew ?_ | omega | (dsimp only; omega)
  · obtain rfl : 3 = z := by simpa [c] using hz'
    go_enter Tryd.func12, Tryd.ntmps12
    go_wp2_with (first | (go_at_call 20; refine (within_c _ _ _ _ _ h0).mono ?_; rintro e w' ⟨rfl, rfl⟩) | (go_at_call 21; refine (way_c (rowL 3) _ _ _ _ _ _ _ _ _ _ _ _ _ 1 2 rfl rfl _ h1).mono ?_; rintro e w' ⟨rfl, hb⟩; obtain ⟨x, rfl⟩ := over hb; clear hb; have f0 := x.up (b := w.heap.size) (by first | omega | (simp only [World.size_alloc]; omega)); have f1 := x.up (b := w.heap.size + 1) (by first | omega | (simp only [World.size_alloc]; omega)); have f2 := x.up (b := w.heap.size + 1 + 1) (by first | omega | (simp only [World.size_alloc]; omega))) | (go_at_call 22; refine (marks_c (rowL 3) _ _ _ _ _ _ _ _ _ _ _ _ _ 1 2 _ h2).mono ?_; rintro e w' ⟨rfl, hb⟩; obtain ⟨y, rfl⟩ := over hb; clear hb; have g0 := y.up (b := w.heap.size) (by first | omega | (simp only [World.size_alloc]; omega)); have g1 := y.up (b := w.heap.size + 1) (by first | omega | (simp only [World.size_alloc]; omega)); have g2 := y.up (b := w.heap.size + 1 + 1) (by first | omega | (simp only [World.size_alloc]; omega))))
    go_ret
    refine ⟨by first | rfl | simp, ?_⟩
    repeat' first | with_reducible exact Below.refl _ _ | with_reducible refine Below.setCell ?_ ?_ _ | with_reducible refine Below.alloc ?_ ?_ _ | with_reducible refine Below.drew ?_ | with_reducible refine belowN ?_ _ | with_reducible refine Over.go _ ?_ ?_ | with_reducible exact Nat.le_refl _ | with_reducible refine Over.sz _ _ ?_ | with_reducible refine le_alloc ?_ | with_reducible refine le_setCell ?_ | with_reducible refine le_drewN ?_ | with_reducible refine le_drew ?_ | omega | (dsimp only; omega)
  rw [if_neg (show ¬ (true = false) by simp), if_neg (show ¬ (lq < 0 ∨ bl ≤ lq) by omega)] at hz'
  cases q1
  · obtain rfl : 8 = z := by simpa using hz'
    go_enter Tryd.func12, Tryd.ntmps12
    go_wp2_with (first | (go_at_call 20; refine (within_c _ _ _ _ _ h0).mono ?_; rintro e w' ⟨rfl, rfl⟩) | (go_at_call 21; refine (way_c (rowL 3) _ _ _ _ _ _ _ _ _ _ _ _ _ 1 2 rfl rfl _ h1).mono ?_; rintro e w' ⟨rfl, hb⟩; obtain ⟨x, rfl⟩ := over hb; clear hb; have f0 := x.up (b := w.heap.size) (by first | omega | (simp only [World.size_alloc]; omega)); have f1 := x.up (b := w.heap.size + 1) (by first | omega | (simp only [World.size_alloc]; omega)); have f2 := x.up (b := w.heap.size + 1 + 1) (by first | omega | (simp only [World.size_alloc]; omega))) | (go_at_call 22; refine (marks_c (rowL 3) _ _ _ _ _ _ _ _ _ _ _ _ _ 1 2 _ h2).mono ?_; rintro e w' ⟨rfl, hb⟩; obtain ⟨y, rfl⟩ := over hb; clear hb; have g0 := y.up (b := w.heap.size) (by first | omega | (simp only [World.size_alloc]; omega)); have g1 := y.up (b := w.heap.size + 1) (by first | omega | (simp only [World.size_alloc]; omega)); have g2 := y.up (b := w.heap.size + 1 + 1) (by first | omega | (simp only [World.size_alloc]; omega))))
    go_ret
    refine ⟨by first | rfl | simp, ?_⟩
    repeat' first | with_reducible exact Below.refl _ _ | with_reducible refine Below.setCell ?_ ?_ _ | with_reducible refine Below.alloc ?_ ?_ _ | with_reducible refine Below.drew ?_ | with_reducible refine belowN ?_ _ | with_reducible refine Over.go _ ?_ ?_ | with_reducible exact Nat.le_refl _ | with_reducible refine Over.sz _ _ ?_ | with_reducible refine le_alloc ?_ | with_reducible refine le_setCell ?_ | with_reducible refine le_drewN ?_ | with_reducible refine le_drew ?_ | omega | (dsimp only; omega)
  cases q2
  · obtain rfl : 10 = z := by simpa using hz'
    go_enter Tryd.func12, Tryd.ntmps12
    go_wp2_with (first | (go_at_call 20; refine (within_c _ _ _ _ _ h0).mono ?_; rintro e w' ⟨rfl, rfl⟩) | (go_at_call 21; refine (way_c (rowL 3) _ _ _ _ _ _ _ _ _ _ _ _ _ 1 2 rfl rfl _ h1).mono ?_; rintro e w' ⟨rfl, hb⟩; obtain ⟨x, rfl⟩ := over hb; clear hb; have f0 := x.up (b := w.heap.size) (by first | omega | (simp only [World.size_alloc]; omega)); have f1 := x.up (b := w.heap.size + 1) (by first | omega | (simp only [World.size_alloc]; omega)); have f2 := x.up (b := w.heap.size + 1 + 1) (by first | omega | (simp only [World.size_alloc]; omega))) | (go_at_call 22; refine (marks_c (rowL 3) _ _ _ _ _ _ _ _ _ _ _ _ _ 1 2 _ h2).mono ?_; rintro e w' ⟨rfl, hb⟩; obtain ⟨y, rfl⟩ := over hb; clear hb; have g0 := y.up (b := w.heap.size) (by first | omega | (simp only [World.size_alloc]; omega)); have g1 := y.up (b := w.heap.size + 1) (by first | omega | (simp only [World.size_alloc]; omega)); have g2 := y.up (b := w.heap.size + 1 + 1) (by first | omega | (simp only [World.size_alloc]; omega))))
    go_ret
    refine ⟨by first | rfl | simp, ?_⟩
    repeat' first | with_reducible exact Below.refl _ _ | with_reducible refine Below.setCell ?_ ?_ _ | with_reducible refine Below.alloc ?_ ?_ _ | with_reducible refine Below.drew ?_ | with_reducible refine belowN ?_ _ | with_reducible refine Over.go _ ?_ ?_ | with_reducible exact Nat.le_refl _ | with_reducible refine Over.sz _ _ ?_ | with_reducible refine le_alloc ?_ | with_reducible refine le_setCell ?_ | with_reducible refine le_drewN ?_ | with_reducible refine le_drew ?_ | omega | (dsimp only; omega)
  cases h3 : noneB ⟨xn, xo, xh, xd⟩
  · obtain rfl : 6 = z := by simpa [h3] using hz'
    have h4 := none_ne h3
    clear h3 hz'
    go_enter Tryd.func12, Tryd.ntmps12
    go_wp2_with (first | (go_at_call 20; refine (within_c _ _ _ _ _ h0).mono ?_; rintro e w' ⟨rfl, rfl⟩) | (go_at_call 21; refine (way_c (rowL 3) _ _ _ _ _ _ _ _ _ _ _ _ _ 1 2 rfl rfl _ h1).mono ?_; rintro e w' ⟨rfl, hb⟩; obtain ⟨x, rfl⟩ := over hb; clear hb; have f0 := x.up (b := w.heap.size) (by first | omega | (simp only [World.size_alloc]; omega)); have f1 := x.up (b := w.heap.size + 1) (by first | omega | (simp only [World.size_alloc]; omega)); have f2 := x.up (b := w.heap.size + 1 + 1) (by first | omega | (simp only [World.size_alloc]; omega))) | (go_at_call 22; refine (marks_c (rowL 3) _ _ _ _ _ _ _ _ _ _ _ _ _ 1 2 _ h2).mono ?_; rintro e w' ⟨rfl, hb⟩; obtain ⟨y, rfl⟩ := over hb; clear hb; have g0 := y.up (b := w.heap.size) (by first | omega | (simp only [World.size_alloc]; omega)); have g1 := y.up (b := w.heap.size + 1) (by first | omega | (simp only [World.size_alloc]; omega)); have g2 := y.up (b := w.heap.size + 1 + 1) (by first | omega | (simp only [World.size_alloc]; omega))))
    all_goals go_ret
    all_goals refine ⟨by first | rfl | (simp; done) | (exfalso; refine h4 ⟨by assumption, ?_, ?_, by assumption⟩ <;> (rw [Bool.eq_false_iff]; assumption)), ?_⟩
    all_goals repeat' first | with_reducible exact Below.refl _ _ | with_reducible refine Below.setCell ?_ ?_ _ | with_reducible refine Below.alloc ?_ ?_ _ | with_reducible refine Below.drew ?_ | with_reducible refine belowN ?_ _ | with_reducible refine Over.go _ ?_ ?_ | with_reducible exact Nat.le_refl _ | with_reducible refine Over.sz _ _ ?_ | with_reducible refine le_alloc ?_ | with_reducible refine le_setCell ?_ | with_reducible refine le_drewN ?_ | with_reducible refine le_drew ?_ | omega | (dsimp only; omega)
  · obtain rfl : 0 = z := by simpa [h3] using hz'
    obtain ⟨rfl, rfl, rfl, rfl⟩ := none_eq h3
    clear h3 hz'
    go_enter Tryd.func12, Tryd.ntmps12
    go_wp2_with (first | (go_at_call 20; refine (within_c _ _ _ _ _ h0).mono ?_; rintro e w' ⟨rfl, rfl⟩) | (go_at_call 21; refine (way_c (rowL 3) _ _ _ _ _ _ _ _ _ _ _ _ _ 1 2 rfl rfl _ h1).mono ?_; rintro e w' ⟨rfl, hb⟩; obtain ⟨x, rfl⟩ := over hb; clear hb; have f0 := x.up (b := w.heap.size) (by first | omega | (simp only [World.size_alloc]; omega)); have f1 := x.up (b := w.heap.size + 1) (by first | omega | (simp only [World.size_alloc]; omega)); have f2 := x.up (b := w.heap.size + 1 + 1) (by first | omega | (simp only [World.size_alloc]; omega))) | (go_at_call 22; refine (marks_c (rowL 3) _ _ _ _ _ _ _ _ _ _ _ _ _ 1 2 _ h2).mono ?_; rintro e w' ⟨rfl, hb⟩; obtain ⟨y, rfl⟩ := over hb; clear hb; have g0 := y.up (b := w.heap.size) (by first | omega | (simp only [World.size_alloc]; omega)); have g1 := y.up (b := w.heap.size + 1) (by first | omega | (simp only [World.size_alloc]; omega)); have g2 := y.up (b := w.heap.size + 1 + 1) (by first | omega | (simp only [World.size_alloc]; omega))))
    go_ret
    refine ⟨by first | rfl | simp, ?_⟩
    repeat' first | with_reducible exact Below.refl _ _ | with_reducible refine Below.setCell ?_ ?_ _ | with_reducible refine Below.alloc ?_ ?_ _ | with_reducible refine Below.drew ?_ | with_reducible refine belowN ?_ _ | with_reducible refine Over.go _ ?_ ?_ | with_reducible exact Nat.le_refl _ | with_reducible refine Over.sz _ _ ?_ | with_reducible refine le_alloc ?_ | with_reducible refine le_setCell ?_ | with_reducible refine le_drewN ?_ | with_reducible refine le_drew ?_ | omega | (dsimp only; omega)

set_option maxHeartbeats 2000000 in
theorem check4 (n bl tt cs cy cc cu ct cp : Int) (la lb lq ls lw : Int) (lr : Bool) (xn : Int) (xo xh : Bool) (xd : Int) (w : World) (hT : Hid (Tab w)) (z : Int) (hz : Hid (letterZ n bl tt ⟨4, la, lb, lq, ls, lw, lr, ⟨xn, xo, xh, xd⟩⟩ = z)) :
    Calls Tryd.prog 12 #[.agg #[.int .i64 n, .int .i64 bl, .int .i64 tt, .int .i64 cs, .int .i64 cy, .int .i64 cc, .int .i64 cu, .int .i64 ct, .int .i64 cp], .agg #[.int .i64 4, .int .i64 la, .int .i64 lb, .int .i64 lq, .int .i64 ls, .int .i64 lw, .bool lr, .int .i64 xn, .bool xo, .bool xh, .int .i64 xd]] w fun e w' => e = .returned (.int .i64 z) ∧ Below w.heap.size w w' := by
  have hz' := unhide hz
  have h0 := hide (show inB 4 1 7 = true from rfl)
  unfold letterZ at hz'
  dsimp only at hz'
  rw [unhide h0] at hz'
  have z0 := (unhide hT).1
  have t0 := (unhide hT).2 24 _ rfl
  have t1 := (unhide hT).2 25 _ rfl
  have t2 := (unhide hT).2 26 _ rfl
  have t3 := (unhide hT).2 27 _ rfl
  have t4 := (unhide hT).2 28 _ rfl
  have t5 := (unhide hT).2 29 _ rfl
  obtain ⟨q1, h1⟩ : ∃ q, Hid (wayB (rowL 4) la lb n = q) := ⟨_, rfl⟩
  obtain ⟨q2, h2⟩ : ∃ q, Hid (marksB (rowL 4) ls lw lr n = q) := ⟨_, rfl⟩
  rw [unhide h1, unhide h2] at hz'
  clear hz hT
  rcases (show lq < 0 ∨ (0 ≤ lq ∧ bl ≤ lq) ∨ (0 ≤ lq ∧ lq < bl) by omega) with c | c | c
  · obtain rfl : 3 = z := by simpa [c] using hz'
    go_enter Tryd.func12, Tryd.ntmps12
    go_wp2_with (first | (go_at_call 20; refine (within_c _ _ _ _ _ h0).mono ?_; rintro e w' ⟨rfl, rfl⟩) | (go_at_call 21; refine (way_c (rowL 4) _ _ _ _ _ _ _ _ _ _ _ _ _ 2 1 rfl rfl _ h1).mono ?_; rintro e w' ⟨rfl, hb⟩; obtain ⟨x, rfl⟩ := over hb; clear hb; have f0 := x.up (b := w.heap.size) (by first | omega | (simp only [World.size_alloc]; omega)); have f1 := x.up (b := w.heap.size + 1) (by first | omega | (simp only [World.size_alloc]; omega)); have f2 := x.up (b := w.heap.size + 1 + 1) (by first | omega | (simp only [World.size_alloc]; omega))) | (go_at_call 22; refine (marks_c (rowL 4) _ _ _ _ _ _ _ _ _ _ _ _ _ 2 1 _ h2).mono ?_; rintro e w' ⟨rfl, hb⟩; obtain ⟨y, rfl⟩ := over hb; clear hb; have g0 := y.up (b := w.heap.size) (by first | omega | (simp only [World.size_alloc]; omega)); have g1 := y.up (b := w.heap.size + 1) (by first | omega | (simp only [World.size_alloc]; omega)); have g2 := y.up (b := w.heap.size + 1 + 1) (by first | omega | (simp only [World.size_alloc]; omega))))
    go_ret
    refine ⟨by first | rfl | simp, ?_⟩
    repeat' first | with_reducible exact Below.refl _ _ | with_reducible refine Below.setCell ?_ ?_ _ | with_reducible refine Below.alloc ?_ ?_ _ | with_reducible refine Below.drew ?_ | with_reducible refine belowN ?_ _ | with_reducible refine Over.go _ ?_ ?_ | with_reducible exact Nat.le_refl _ | with_reducible refine Over.sz _ _ ?_ | with_reducible refine le_alloc ?_ | with_reducible refine le_setCell ?_ | with_reducible refine le_drewN ?_ | with_reducible refine le_drew ?_ | omega | (dsimp only; omega)
  · obtain rfl : 3 = z := by simpa [c] using hz'
    go_enter Tryd.func12, Tryd.ntmps12
    go_wp2_with (first | (go_at_call 20; refine (within_c _ _ _ _ _ h0).mono ?_; rintro e w' ⟨rfl, rfl⟩) | (go_at_call 21; refine (way_c (rowL 4) _ _ _ _ _ _ _ _ _ _ _ _ _ 2 1 rfl rfl _ h1).mono ?_; rintro e w' ⟨rfl, hb⟩; obtain ⟨x, rfl⟩ := over hb; clear hb; have f0 := x.up (b := w.heap.size) (by first | omega | (simp only [World.size_alloc]; omega)); have f1 := x.up (b := w.heap.size + 1) (by first | omega | (simp only [World.size_alloc]; omega)); have f2 := x.up (b := w.heap.size + 1 + 1) (by first | omega | (simp only [World.size_alloc]; omega))) | (go_at_call 22; refine (marks_c (rowL 4) _ _ _ _ _ _ _ _ _ _ _ _ _ 2 1 _ h2).mono ?_; rintro e w' ⟨rfl, hb⟩; obtain ⟨y, rfl⟩ := over hb; clear hb; have g0 := y.up (b := w.heap.size) (by first | omega | (simp only [World.size_alloc]; omega)); have g1 := y.up (b := w.heap.size + 1) (by first | omega | (simp only [World.size_alloc]; omega)); have g2 := y.up (b := w.heap.size + 1 + 1) (by first | omega | (simp only [World.size_alloc]; omega))))
    go_ret
    refine ⟨by first | rfl | simp, ?_⟩
    repeat' first | with_reducible exact Below.refl _ _ | with_reducible refine Below.setCell ?_ ?_ _ | with_reducible refine Below.alloc ?_ ?_ _ | with_reducible refine Below.drew ?_ | with_reducible refine belowN ?_ _ | with_reducible refine Over.go _ ?_ ?_ | with_reducible exact Nat.le_refl _ | with_reducible refine Over.sz _ _ ?_ | with_reducible refine le_alloc ?_ | with_reducible refine le_setCell ?_ | with_reducible refine le_drewN ?_ | with_reducible refine le_drew ?_ | omega | (dsimp only; omega)
  rw [if_neg (show ¬ (true = false) by simp), if_neg (show ¬ (lq < 0 ∨ bl ≤ lq) by omega)] at hz'
  cases q1
  · obtain rfl : 8 = z := by simpa using hz'
    go_enter Tryd.func12, Tryd.ntmps12
    go_wp2_with (first | (go_at_call 20; refine (within_c _ _ _ _ _ h0).mono ?_; rintro e w' ⟨rfl, rfl⟩) | (go_at_call 21; refine (way_c (rowL 4) _ _ _ _ _ _ _ _ _ _ _ _ _ 2 1 rfl rfl _ h1).mono ?_; rintro e w' ⟨rfl, hb⟩; obtain ⟨x, rfl⟩ := over hb; clear hb; have f0 := x.up (b := w.heap.size) (by first | omega | (simp only [World.size_alloc]; omega)); have f1 := x.up (b := w.heap.size + 1) (by first | omega | (simp only [World.size_alloc]; omega)); have f2 := x.up (b := w.heap.size + 1 + 1) (by first | omega | (simp only [World.size_alloc]; omega))) | (go_at_call 22; refine (marks_c (rowL 4) _ _ _ _ _ _ _ _ _ _ _ _ _ 2 1 _ h2).mono ?_; rintro e w' ⟨rfl, hb⟩; obtain ⟨y, rfl⟩ := over hb; clear hb; have g0 := y.up (b := w.heap.size) (by first | omega | (simp only [World.size_alloc]; omega)); have g1 := y.up (b := w.heap.size + 1) (by first | omega | (simp only [World.size_alloc]; omega)); have g2 := y.up (b := w.heap.size + 1 + 1) (by first | omega | (simp only [World.size_alloc]; omega))))
    go_ret
    refine ⟨by first | rfl | simp, ?_⟩
    repeat' first | with_reducible exact Below.refl _ _ | with_reducible refine Below.setCell ?_ ?_ _ | with_reducible refine Below.alloc ?_ ?_ _ | with_reducible refine Below.drew ?_ | with_reducible refine belowN ?_ _ | with_reducible refine Over.go _ ?_ ?_ | with_reducible exact Nat.le_refl _ | with_reducible refine Over.sz _ _ ?_ | with_reducible refine le_alloc ?_ | with_reducible refine le_setCell ?_ | with_reducible refine le_drewN ?_ | with_reducible refine le_drew ?_ | omega | (dsimp only; omega)
  cases q2
  · obtain rfl : 10 = z := by simpa using hz'
    go_enter Tryd.func12, Tryd.ntmps12
    go_wp2_with (first | (go_at_call 20; refine (within_c _ _ _ _ _ h0).mono ?_; rintro e w' ⟨rfl, rfl⟩) | (go_at_call 21; refine (way_c (rowL 4) _ _ _ _ _ _ _ _ _ _ _ _ _ 2 1 rfl rfl _ h1).mono ?_; rintro e w' ⟨rfl, hb⟩; obtain ⟨x, rfl⟩ := over hb; clear hb; have f0 := x.up (b := w.heap.size) (by first | omega | (simp only [World.size_alloc]; omega)); have f1 := x.up (b := w.heap.size + 1) (by first | omega | (simp only [World.size_alloc]; omega)); have f2 := x.up (b := w.heap.size + 1 + 1) (by first | omega | (simp only [World.size_alloc]; omega))) | (go_at_call 22; refine (marks_c (rowL 4) _ _ _ _ _ _ _ _ _ _ _ _ _ 2 1 _ h2).mono ?_; rintro e w' ⟨rfl, hb⟩; obtain ⟨y, rfl⟩ := over hb; clear hb; have g0 := y.up (b := w.heap.size) (by first | omega | (simp only [World.size_alloc]; omega)); have g1 := y.up (b := w.heap.size + 1) (by first | omega | (simp only [World.size_alloc]; omega)); have g2 := y.up (b := w.heap.size + 1 + 1) (by first | omega | (simp only [World.size_alloc]; omega))))
    go_ret
    refine ⟨by first | rfl | simp, ?_⟩
    repeat' first | with_reducible exact Below.refl _ _ | with_reducible refine Below.setCell ?_ ?_ _ | with_reducible refine Below.alloc ?_ ?_ _ | with_reducible refine Below.drew ?_ | with_reducible refine belowN ?_ _ | with_reducible refine Over.go _ ?_ ?_ | with_reducible exact Nat.le_refl _ | with_reducible refine Over.sz _ _ ?_ | with_reducible refine le_alloc ?_ | with_reducible refine le_setCell ?_ | with_reducible refine le_drewN ?_ | with_reducible refine le_drew ?_ | omega | (dsimp only; omega)
  cases h3 : noneB ⟨xn, xo, xh, xd⟩
  · obtain rfl : 6 = z := by simpa [h3] using hz'
    have h4 := none_ne h3
    clear h3 hz'
    go_enter Tryd.func12, Tryd.ntmps12
    go_wp2_with (first | (go_at_call 20; refine (within_c _ _ _ _ _ h0).mono ?_; rintro e w' ⟨rfl, rfl⟩) | (go_at_call 21; refine (way_c (rowL 4) _ _ _ _ _ _ _ _ _ _ _ _ _ 2 1 rfl rfl _ h1).mono ?_; rintro e w' ⟨rfl, hb⟩; obtain ⟨x, rfl⟩ := over hb; clear hb; have f0 := x.up (b := w.heap.size) (by first | omega | (simp only [World.size_alloc]; omega)); have f1 := x.up (b := w.heap.size + 1) (by first | omega | (simp only [World.size_alloc]; omega)); have f2 := x.up (b := w.heap.size + 1 + 1) (by first | omega | (simp only [World.size_alloc]; omega))) | (go_at_call 22; refine (marks_c (rowL 4) _ _ _ _ _ _ _ _ _ _ _ _ _ 2 1 _ h2).mono ?_; rintro e w' ⟨rfl, hb⟩; obtain ⟨y, rfl⟩ := over hb; clear hb; have g0 := y.up (b := w.heap.size) (by first | omega | (simp only [World.size_alloc]; omega)); have g1 := y.up (b := w.heap.size + 1) (by first | omega | (simp only [World.size_alloc]; omega)); have g2 := y.up (b := w.heap.size + 1 + 1) (by first | omega | (simp only [World.size_alloc]; omega))))
    all_goals go_ret
    all_goals refine ⟨by first | rfl | (simp; done) | (exfalso; refine h4 ⟨by assumption, ?_, ?_, by assumption⟩ <;> (rw [Bool.eq_false_iff]; assumption)), ?_⟩
    all_goals repeat' first | with_reducible exact Below.refl _ _ | with_reducible refine Below.setCell ?_ ?_ _ | with_reducible refine Below.alloc ?_ ?_ _ | with_reducible refine Below.drew ?_ | with_reducible refine belowN ?_ _ | with_reducible refine Over.go _ ?_ ?_ | with_reducible exact Nat.le_refl _ | with_reducible refine Over.sz _ _ ?_ | with_reducible refine le_alloc ?_ | with_reducible refine le_setCell ?_ | with_reducible refine le_drewN ?_ | with_reducible refine le_drew ?_ | omega | (dsimp only; omega)
  · obtain rfl : 0 = z := by simpa [h3] using hz'
    obtain ⟨rfl, rfl, rfl, rfl⟩ := none_eq h3
    clear h3 hz'
    go_enter Tryd.func12, Tryd.ntmps12
    go_wp2_with (first | (go_at_call 20; refine (within_c _ _ _ _ _ h0).mono ?_; rintro e w' ⟨rfl, rfl⟩) | (go_at_call 21; refine (way_c (rowL 4) _ _ _ _ _ _ _ _ _ _ _ _ _ 2 1 rfl rfl _ h1).mono ?_; rintro e w' ⟨rfl, hb⟩; obtain ⟨x, rfl⟩ := over hb; clear hb; have f0 := x.up (b := w.heap.size) (by first | omega | (simp only [World.size_alloc]; omega)); have f1 := x.up (b := w.heap.size + 1) (by first | omega | (simp only [World.size_alloc]; omega)); have f2 := x.up (b := w.heap.size + 1 + 1) (by first | omega | (simp only [World.size_alloc]; omega))) | (go_at_call 22; refine (marks_c (rowL 4) _ _ _ _ _ _ _ _ _ _ _ _ _ 2 1 _ h2).mono ?_; rintro e w' ⟨rfl, hb⟩; obtain ⟨y, rfl⟩ := over hb; clear hb; have g0 := y.up (b := w.heap.size) (by first | omega | (simp only [World.size_alloc]; omega)); have g1 := y.up (b := w.heap.size + 1) (by first | omega | (simp only [World.size_alloc]; omega)); have g2 := y.up (b := w.heap.size + 1 + 1) (by first | omega | (simp only [World.size_alloc]; omega))))
    go_ret
    refine ⟨by first | rfl | simp, ?_⟩
    repeat' first | with_reducible exact Below.refl _ _ | with_reducible refine Below.setCell ?_ ?_ _ | with_reducible refine Below.alloc ?_ ?_ _ | with_reducible refine Below.drew ?_ | with_reducible refine belowN ?_ _ | with_reducible refine Over.go _ ?_ ?_ | with_reducible exact Nat.le_refl _ | with_reducible refine Over.sz _ _ ?_ | with_reducible refine le_alloc ?_ | with_reducible refine le_setCell ?_ | with_reducible refine le_drewN ?_ | with_reducible refine le_drew ?_ | omega | (dsimp only; omega)

end Go.Proofs.YtipklaehhiffdaaDoor
