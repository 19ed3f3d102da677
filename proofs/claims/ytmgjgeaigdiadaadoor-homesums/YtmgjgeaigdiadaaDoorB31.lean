/- layer 16: RefC3 RefC4 Ref04k, put together. -/
import Derived.Test.YtmgjgeaigdiadaaDoorB13
import Derived.Test.YtmgjgeaigdiadaaDoorB05
namespace Go.Proofs.YtmgjgeaigdiadaaDoor
open Go.ChangeShapes Go.WideShapes Go.ChangeAt Go.RowKit
set_option linter.unusedSimpArgs false
set_option linter.unusedVariables false
set_option maxRecDepth 10000
attribute [local go_sem, local simp] over_const setCell_drewN alloc_drewN Over.cell Over.frozen lt_s1 lt_s2 lt_s3 le_s0 le_s1 le_s2 le_s3 eq_s0 eq_s1 eq_s2 qe_s0
set_option maxHeartbeats 4000000 in
theorem refCheck4 (n bl tt cs cy cc cu ct cp : Int) (la lb lq ls lw : Int) (lr : Bool) (xn : Int) (xo xh : Bool) (xd : Int) (w : World) (z : Int) (hz : Hid (letterZ n bl tt ⟨4, la, lb, lq, ls, lw, lr, ⟨xn, xo, xh, xd⟩⟩ = z)) :
    Calls Tryd.prog 23 #[.agg #[.int .i64 n, .int .i64 bl, .int .i64 tt, .int .i64 cs, .int .i64 cy, .int .i64 cc, .int .i64 cu, .int .i64 ct, .int .i64 cp], .agg #[.int .i64 4, .int .i64 la, .int .i64 lb, .int .i64 lq, .int .i64 ls, .int .i64 lw, .bool lr, .int .i64 xn, .bool xo, .bool xh, .int .i64 xd]] w fun e w' => e = .returned (.int .i64 z) ∧ Below w.heap.size w w' := by
  have hz' := unhide hz
  unfold letterZ at hz'
  dsimp only at hz'
  rw [show inB 4 1 7 = true from rfl, if_neg (show ¬ (true = false) by simp)] at hz'
  obtain ⟨q1, h1⟩ : ∃ q, Hid (wayB (rowL 4) la lb n = q) := ⟨_, rfl⟩
  rw [unhide h1] at hz'
  clear hz
  rcases (show lq < 0 ∨ (0 ≤ lq ∧ bl ≤ lq) ∨ (0 ≤ lq ∧ lq < bl) by omega) with c | c | c
  · obtain rfl : 3 = z := by simpa [c] using hz'
    clear hz'
    go_enter Tryd.func23, Tryd.ntmps23
    go_wp2_with (first | (go_at_call 46; refine (refEnds4 _ _ _ _ _ _ _ _ _ _ _ _ _ _ _ _ _ _ _ _ _ h1).mono ?_; rintro e w' ⟨rfl, hb⟩; obtain ⟨x, rfl⟩ := over hb; clear hb; have f0 := x.upB (w.heap.size); have f1 := x.upB (w.heap.size + 1)) | (go_at_call 24; refine (refNode_c _ _ _ _ _ _ _ _ _ _ _ _ h4).mono ?_; rintro e w' ⟨rfl, hb⟩; obtain ⟨y, rfl⟩ := over hb; clear hb; have g0 := y.upB (w.heap.size); have g1 := y.upB (w.heap.size + 1)))
    all_goals go_ret
    all_goals refine ⟨by first | rfl | (simp; done) | (exfalso; refine hn ⟨by assumption, ?_, ?_, by assumption⟩ <;> (rw [Bool.eq_false_iff]; assumption)), ?_⟩
    all_goals all_goals exact belEnd
  · obtain rfl : 3 = z := by simpa [c] using hz'
    clear hz'
    go_enter Tryd.func23, Tryd.ntmps23
    go_wp2_with (first | (go_at_call 46; refine (refEnds4 _ _ _ _ _ _ _ _ _ _ _ _ _ _ _ _ _ _ _ _ _ h1).mono ?_; rintro e w' ⟨rfl, hb⟩; obtain ⟨x, rfl⟩ := over hb; clear hb; have f0 := x.upB (w.heap.size); have f1 := x.upB (w.heap.size + 1)) | (go_at_call 24; refine (refNode_c _ _ _ _ _ _ _ _ _ _ _ _ h4).mono ?_; rintro e w' ⟨rfl, hb⟩; obtain ⟨y, rfl⟩ := over hb; clear hb; have g0 := y.upB (w.heap.size); have g1 := y.upB (w.heap.size + 1)))
    all_goals go_ret
    all_goals refine ⟨by first | rfl | (simp; done) | (exfalso; refine hn ⟨by assumption, ?_, ?_, by assumption⟩ <;> (rw [Bool.eq_false_iff]; assumption)), ?_⟩
    all_goals all_goals exact belEnd
  rw [if_neg (show ¬ (lq < 0 ∨ bl ≤ lq) by omega)] at hz'
  cases q1
  · obtain rfl : 8 = z := by simpa using hz'
    clear hz'
    go_enter Tryd.func23, Tryd.ntmps23
    go_wp2_with (first | (go_at_call 46; refine (refEnds4 _ _ _ _ _ _ _ _ _ _ _ _ _ _ _ _ _ _ _ _ _ h1).mono ?_; rintro e w' ⟨rfl, hb⟩; obtain ⟨x, rfl⟩ := over hb; clear hb; have f0 := x.upB (w.heap.size); have f1 := x.upB (w.heap.size + 1)) | (go_at_call 24; refine (refNode_c _ _ _ _ _ _ _ _ _ _ _ _ h4).mono ?_; rintro e w' ⟨rfl, hb⟩; obtain ⟨y, rfl⟩ := over hb; clear hb; have g0 := y.upB (w.heap.size); have g1 := y.upB (w.heap.size + 1)))
    all_goals go_ret
    all_goals refine ⟨by first | rfl | (simp; done) | (exfalso; refine hn ⟨by assumption, ?_, ?_, by assumption⟩ <;> (rw [Bool.eq_false_iff]; assumption)), ?_⟩
    all_goals all_goals exact belEnd
  rw [if_neg (show ¬ (true = false) by simp)] at hz'
  have e2 : marksB (rowL 4) ls lw lr n = (decide (1 ≤ ls) && nodeB lw n && !lr) := rfl
  rw [e2] at hz'
  clear e2
  rcases (show ls < 1 ∨ 1 ≤ ls by omega) with d | d
  · obtain rfl : 10 = z := by simpa [show ¬ (1 ≤ ls) by omega] using hz'
    clear hz'
    go_enter Tryd.func23, Tryd.ntmps23
    go_wp2_with (first | (go_at_call 46; refine (refEnds4 _ _ _ _ _ _ _ _ _ _ _ _ _ _ _ _ _ _ _ _ _ h1).mono ?_; rintro e w' ⟨rfl, hb⟩; obtain ⟨x, rfl⟩ := over hb; clear hb; have f0 := x.upB (w.heap.size); have f1 := x.upB (w.heap.size + 1)) | (go_at_call 24; refine (refNode_c _ _ _ _ _ _ _ _ _ _ _ _ h4).mono ?_; rintro e w' ⟨rfl, hb⟩; obtain ⟨y, rfl⟩ := over hb; clear hb; have g0 := y.upB (w.heap.size); have g1 := y.upB (w.heap.size + 1)))
    all_goals go_ret
    all_goals refine ⟨by first | rfl | (simp; done) | (exfalso; refine hn ⟨by assumption, ?_, ?_, by assumption⟩ <;> (rw [Bool.eq_false_iff]; assumption)), ?_⟩
    all_goals all_goals exact belEnd
  rw [show decide (1 ≤ ls) = true by simpa using d] at hz'
  obtain ⟨q4, h4⟩ : ∃ q, Hid (nodeB lw n = q) := ⟨_, rfl⟩
  rw [unhide h4] at hz'
  cases q4
  · obtain rfl : 10 = z := by simpa using hz'
    clear hz'
    go_enter Tryd.func23, Tryd.ntmps23
    go_wp2_with (first | (go_at_call 46; refine (refEnds4 _ _ _ _ _ _ _ _ _ _ _ _ _ _ _ _ _ _ _ _ _ h1).mono ?_; rintro e w' ⟨rfl, hb⟩; obtain ⟨x, rfl⟩ := over hb; clear hb; have f0 := x.upB (w.heap.size); have f1 := x.upB (w.heap.size + 1)) | (go_at_call 24; refine (refNode_c _ _ _ _ _ _ _ _ _ _ _ _ h4).mono ?_; rintro e w' ⟨rfl, hb⟩; obtain ⟨y, rfl⟩ := over hb; clear hb; have g0 := y.upB (w.heap.size); have g1 := y.upB (w.heap.size + 1)))
    all_goals go_ret
    all_goals refine ⟨by first | rfl | (simp; done) | (exfalso; refine hn ⟨by assumption, ?_, ?_, by assumption⟩ <;> (rw [Bool.eq_false_iff]; assumption)), ?_⟩
    all_goals all_goals exact belEnd
  cases lr
  case true =>
    obtain rfl : 10 = z := by simpa using hz'
    clear hz'
    go_enter Tryd.func23, Tryd.ntmps23
    go_wp2_with (first | (go_at_call 46; refine (refEnds4 _ _ _ _ _ _ _ _ _ _ _ _ _ _ _ _ _ _ _ _ _ h1).mono ?_; rintro e w' ⟨rfl, hb⟩; obtain ⟨x, rfl⟩ := over hb; clear hb; have f0 := x.upB (w.heap.size); have f1 := x.upB (w.heap.size + 1)) | (go_at_call 24; refine (refNode_c _ _ _ _ _ _ _ _ _ _ _ _ h4).mono ?_; rintro e w' ⟨rfl, hb⟩; obtain ⟨y, rfl⟩ := over hb; clear hb; have g0 := y.upB (w.heap.size); have g1 := y.upB (w.heap.size + 1)))
    all_goals go_ret
    all_goals refine ⟨by first | rfl | (simp; done) | (exfalso; refine hn ⟨by assumption, ?_, ?_, by assumption⟩ <;> (rw [Bool.eq_false_iff]; assumption)), ?_⟩
    all_goals all_goals exact belEnd
  cases h3 : noneB ⟨xn, xo, xh, xd⟩
  · obtain rfl : 6 = z := by simpa [h3] using hz'
    have hn := none_ne h3
    clear h3 hz'
    go_enter Tryd.func23, Tryd.ntmps23
    go_wp2_with (first | (go_at_call 46; refine (refEnds4 _ _ _ _ _ _ _ _ _ _ _ _ _ _ _ _ _ _ _ _ _ h1).mono ?_; rintro e w' ⟨rfl, hb⟩; obtain ⟨x, rfl⟩ := over hb; clear hb; have f0 := x.upB (w.heap.size); have f1 := x.upB (w.heap.size + 1)) | (go_at_call 24; refine (refNode_c _ _ _ _ _ _ _ _ _ _ _ _ h4).mono ?_; rintro e w' ⟨rfl, hb⟩; obtain ⟨y, rfl⟩ := over hb; clear hb; have g0 := y.upB (w.heap.size); have g1 := y.upB (w.heap.size + 1)))
    all_goals go_ret
    all_goals refine ⟨by first | rfl | (simp; done) | (exfalso; refine hn ⟨by assumption, ?_, ?_, by assumption⟩ <;> (rw [Bool.eq_false_iff]; assumption)), ?_⟩
    all_goals all_goals exact belEnd
  · obtain rfl : 0 = z := by simpa [h3] using hz'
    obtain ⟨rfl, rfl, rfl, rfl⟩ := none_eq h3
    clear h3 hz'
    go_enter Tryd.func23, Tryd.ntmps23
    go_wp2_with (first | (go_at_call 46; refine (refEnds4 _ _ _ _ _ _ _ _ _ _ _ _ _ _ _ _ _ _ _ _ _ h1).mono ?_; rintro e w' ⟨rfl, hb⟩; obtain ⟨x, rfl⟩ := over hb; clear hb; have f0 := x.upB (w.heap.size); have f1 := x.upB (w.heap.size + 1)) | (go_at_call 24; refine (refNode_c _ _ _ _ _ _ _ _ _ _ _ _ h4).mono ?_; rintro e w' ⟨rfl, hb⟩; obtain ⟨y, rfl⟩ := over hb; clear hb; have g0 := y.upB (w.heap.size); have g1 := y.upB (w.heap.size + 1)))
    all_goals go_ret
    all_goals refine ⟨by first | rfl | (simp; done) | (exfalso; refine hn ⟨by assumption, ?_, ?_, by assumption⟩ <;> (rw [Bool.eq_false_iff]; assumption)), ?_⟩
    all_goals all_goals exact belEnd
set_option maxHeartbeats 4000000 in
theorem refCheck5 (n bl tt cs cy cc cu ct cp : Int) (la lb lq ls lw : Int) (lr : Bool) (xn : Int) (xo xh : Bool) (xd : Int) (w : World) (z : Int) (hz : Hid (letterZ n bl tt ⟨5, la, lb, lq, ls, lw, lr, ⟨xn, xo, xh, xd⟩⟩ = z)) :
    Calls Tryd.prog 23 #[.agg #[.int .i64 n, .int .i64 bl, .int .i64 tt, .int .i64 cs, .int .i64 cy, .int .i64 cc, .int .i64 cu, .int .i64 ct, .int .i64 cp], .agg #[.int .i64 5, .int .i64 la, .int .i64 lb, .int .i64 lq, .int .i64 ls, .int .i64 lw, .bool lr, .int .i64 xn, .bool xo, .bool xh, .int .i64 xd]] w fun e w' => e = .returned (.int .i64 z) ∧ Below w.heap.size w w' := by
  have hz' := unhide hz
  unfold letterZ at hz'
  dsimp only at hz'
  rw [show inB 5 1 7 = true from rfl, if_neg (show ¬ (true = false) by simp)] at hz'
  obtain ⟨q1, h1⟩ : ∃ q, Hid (wayB (rowL 5) la lb n = q) := ⟨_, rfl⟩
  rw [unhide h1] at hz'
  clear hz
  rcases (show lq < 0 ∨ (0 ≤ lq ∧ bl ≤ lq) ∨ (0 ≤ lq ∧ lq < bl) by omega) with c | c | c
  · obtain rfl : 3 = z := by simpa [c] using hz'
    clear hz'
    go_enter Tryd.func23, Tryd.ntmps23
    go_wp2_with (first | (go_at_call 46; refine (refEnds5 _ _ _ _ _ _ _ _ _ _ _ _ _ _ _ _ _ _ _ _ _ h1).mono ?_; rintro e w' ⟨rfl, hb⟩; obtain ⟨x, rfl⟩ := over hb; clear hb; have f0 := x.upB (w.heap.size); have f1 := x.upB (w.heap.size + 1)))
    all_goals go_ret
    all_goals refine ⟨by first | rfl | (simp; done) | (exfalso; refine hn ⟨by assumption, ?_, ?_, by assumption⟩ <;> (rw [Bool.eq_false_iff]; assumption)), ?_⟩
    all_goals all_goals exact belEnd
  · obtain rfl : 3 = z := by simpa [c] using hz'
    clear hz'
    go_enter Tryd.func23, Tryd.ntmps23
    go_wp2_with (first | (go_at_call 46; refine (refEnds5 _ _ _ _ _ _ _ _ _ _ _ _ _ _ _ _ _ _ _ _ _ h1).mono ?_; rintro e w' ⟨rfl, hb⟩; obtain ⟨x, rfl⟩ := over hb; clear hb; have f0 := x.upB (w.heap.size); have f1 := x.upB (w.heap.size + 1)))
    all_goals go_ret
    all_goals refine ⟨by first | rfl | (simp; done) | (exfalso; refine hn ⟨by assumption, ?_, ?_, by assumption⟩ <;> (rw [Bool.eq_false_iff]; assumption)), ?_⟩
    all_goals all_goals exact belEnd
  rw [if_neg (show ¬ (lq < 0 ∨ bl ≤ lq) by omega)] at hz'
  cases q1
  · obtain rfl : 8 = z := by simpa using hz'
    clear hz'
    go_enter Tryd.func23, Tryd.ntmps23
    go_wp2_with (first | (go_at_call 46; refine (refEnds5 _ _ _ _ _ _ _ _ _ _ _ _ _ _ _ _ _ _ _ _ _ h1).mono ?_; rintro e w' ⟨rfl, hb⟩; obtain ⟨x, rfl⟩ := over hb; clear hb; have f0 := x.upB (w.heap.size); have f1 := x.upB (w.heap.size + 1)))
    all_goals go_ret
    all_goals refine ⟨by first | rfl | (simp; done) | (exfalso; refine hn ⟨by assumption, ?_, ?_, by assumption⟩ <;> (rw [Bool.eq_false_iff]; assumption)), ?_⟩
    all_goals all_goals exact belEnd
  rw [if_neg (show ¬ (true = false) by simp)] at hz'
  have e2 : marksB (rowL 5) ls lw lr n = (decide (1 ≤ ls) && decide (lw = 0) && !lr) := rfl
  rw [e2] at hz'
  clear e2
  rcases (show ls < 1 ∨ 1 ≤ ls by omega) with d | d
  · obtain rfl : 10 = z := by simpa [show ¬ (1 ≤ ls) by omega] using hz'
    clear hz'
    go_enter Tryd.func23, Tryd.ntmps23
    go_wp2_with (first | (go_at_call 46; refine (refEnds5 _ _ _ _ _ _ _ _ _ _ _ _ _ _ _ _ _ _ _ _ _ h1).mono ?_; rintro e w' ⟨rfl, hb⟩; obtain ⟨x, rfl⟩ := over hb; clear hb; have f0 := x.upB (w.heap.size); have f1 := x.upB (w.heap.size + 1)))
    all_goals go_ret
    all_goals refine ⟨by first | rfl | (simp; done) | (exfalso; refine hn ⟨by assumption, ?_, ?_, by assumption⟩ <;> (rw [Bool.eq_false_iff]; assumption)), ?_⟩
    all_goals all_goals exact belEnd
  rw [show decide (1 ≤ ls) = true by simpa using d] at hz'
  by_cases d3 : lw = 0
  case neg =>
    obtain rfl : 10 = z := by simpa [d3] using hz'
    have d4 := not_eq_b d3
    clear hz'
    go_enter Tryd.func23, Tryd.ntmps23
    go_wp2_with (first | (go_at_call 46; refine (refEnds5 _ _ _ _ _ _ _ _ _ _ _ _ _ _ _ _ _ _ _ _ _ h1).mono ?_; rintro e w' ⟨rfl, hb⟩; obtain ⟨x, rfl⟩ := over hb; clear hb; have f0 := x.upB (w.heap.size); have f1 := x.upB (w.heap.size + 1)))
    all_goals go_ret
    all_goals refine ⟨by first | rfl | (simp; done) | (exfalso; refine hn ⟨by assumption, ?_, ?_, by assumption⟩ <;> (rw [Bool.eq_false_iff]; assumption)), ?_⟩
    all_goals all_goals exact belEnd
  subst d3
  cases lr
  case true =>
    obtain rfl : 10 = z := by simpa using hz'
    clear hz'
    go_enter Tryd.func23, Tryd.ntmps23
    go_wp2_with (first | (go_at_call 46; refine (refEnds5 _ _ _ _ _ _ _ _ _ _ _ _ _ _ _ _ _ _ _ _ _ h1).mono ?_; rintro e w' ⟨rfl, hb⟩; obtain ⟨x, rfl⟩ := over hb; clear hb; have f0 := x.upB (w.heap.size); have f1 := x.upB (w.heap.size + 1)))
    all_goals go_ret
    all_goals refine ⟨by first | rfl | (simp; done) | (exfalso; refine hn ⟨by assumption, ?_, ?_, by assumption⟩ <;> (rw [Bool.eq_false_iff]; assumption)), ?_⟩
    all_goals all_goals exact belEnd
  cases h3 : noneB ⟨xn, xo, xh, xd⟩
  · obtain rfl : 6 = z := by simpa [h3] using hz'
    have hn := none_ne h3
    clear h3 hz'
    go_enter Tryd.func23, Tryd.ntmps23
    go_wp2_with (first | (go_at_call 46; refine (refEnds5 _ _ _ _ _ _ _ _ _ _ _ _ _ _ _ _ _ _ _ _ _ h1).mono ?_; rintro e w' ⟨rfl, hb⟩; obtain ⟨x, rfl⟩ := over hb; clear hb; have f0 := x.upB (w.heap.size); have f1 := x.upB (w.heap.size + 1)))
    all_goals go_ret
    all_goals refine ⟨by first | rfl | (simp; done) | (exfalso; refine hn ⟨by assumption, ?_, ?_, by assumption⟩ <;> (rw [Bool.eq_false_iff]; assumption)), ?_⟩
    all_goals all_goals exact belEnd
  · obtain rfl : 0 = z := by simpa [h3] using hz'
    obtain ⟨rfl, rfl, rfl, rfl⟩ := none_eq h3
    clear h3 hz'
    go_enter Tryd.func23, Tryd.ntmps23
    go_wp2_with (first | (go_at_call 46; refine (refEnds5 _ _ _ _ _ _ _ _ _ _ _ _ _ _ _ _ _ _ _ _ _ h1).mono ?_; rintro e w' ⟨rfl, hb⟩; obtain ⟨x, rfl⟩ := over hb; clear hb; have f0 := x.upB (w.heap.size); have f1 := x.upB (w.heap.size + 1)))
    all_goals go_ret
    all_goals refine ⟨by first | rfl | (simp; done) | (exfalso; refine hn ⟨by assumption, ?_, ?_, by assumption⟩ <;> (rw [Bool.eq_false_iff]; assumption)), ?_⟩
    all_goals all_goals exact belEnd
set_option maxHeartbeats 4000000 in
theorem refCheck6 (n bl tt cs cy cc cu ct cp : Int) (la lb lq ls lw : Int) (lr : Bool) (xn : Int) (xo xh : Bool) (xd : Int) (w : World) (z : Int) (hz : Hid (letterZ n bl tt ⟨6, la, lb, lq, ls, lw, lr, ⟨xn, xo, xh, xd⟩⟩ = z)) :
    Calls Tryd.prog 23 #[.agg #[.int .i64 n, .int .i64 bl, .int .i64 tt, .int .i64 cs, .int .i64 cy, .int .i64 cc, .int .i64 cu, .int .i64 ct, .int .i64 cp], .agg #[.int .i64 6, .int .i64 la, .int .i64 lb, .int .i64 lq, .int .i64 ls, .int .i64 lw, .bool lr, .int .i64 xn, .bool xo, .bool xh, .int .i64 xd]] w fun e w' => e = .returned (.int .i64 z) ∧ Below w.heap.size w w' := by
  have hz' := unhide hz
  unfold letterZ at hz'
  dsimp only at hz'
  rw [show inB 6 1 7 = true from rfl, if_neg (show ¬ (true = false) by simp)] at hz'
  obtain ⟨q1, h1⟩ : ∃ q, Hid (wayB (rowL 6) la lb n = q) := ⟨_, rfl⟩
  rw [unhide h1] at hz'
  clear hz
  rcases (show lq < 0 ∨ (0 ≤ lq ∧ bl ≤ lq) ∨ (0 ≤ lq ∧ lq < bl) by omega) with c | c | c
  · obtain rfl : 3 = z := by simpa [c] using hz'
    clear hz'
    go_enter Tryd.func23, Tryd.ntmps23
    go_wp2_with (first | (go_at_call 46; refine (refEnds6 _ _ _ _ _ _ _ _ _ _ _ _ _ _ _ _ _ _ _ _ _ h1).mono ?_; rintro e w' ⟨rfl, hb⟩; obtain ⟨x, rfl⟩ := over hb; clear hb; have f0 := x.upB (w.heap.size); have f1 := x.upB (w.heap.size + 1)))
    all_goals go_ret
    all_goals refine ⟨by first | rfl | (simp; done) | (exfalso; refine hn ⟨by assumption, ?_, ?_, by assumption⟩ <;> (rw [Bool.eq_false_iff]; assumption)), ?_⟩
    all_goals all_goals exact belEnd
  · obtain rfl : 3 = z := by simpa [c] using hz'
    clear hz'
    go_enter Tryd.func23, Tryd.ntmps23
    go_wp2_with (first | (go_at_call 46; refine (refEnds6 _ _ _ _ _ _ _ _ _ _ _ _ _ _ _ _ _ _ _ _ _ h1).mono ?_; rintro e w' ⟨rfl, hb⟩; obtain ⟨x, rfl⟩ := over hb; clear hb; have f0 := x.upB (w.heap.size); have f1 := x.upB (w.heap.size + 1)))
    all_goals go_ret
    all_goals refine ⟨by first | rfl | (simp; done) | (exfalso; refine hn ⟨by assumption, ?_, ?_, by assumption⟩ <;> (rw [Bool.eq_false_iff]; assumption)), ?_⟩
    all_goals all_goals exact belEnd
  rw [if_neg (show ¬ (lq < 0 ∨ bl ≤ lq) by omega)] at hz'
  cases q1
  · obtain rfl : 8 = z := by simpa using hz'
    clear hz'
    go_enter Tryd.func23, Tryd.ntmps23
    go_wp2_with (first | (go_at_call 46; refine (refEnds6 _ _ _ _ _ _ _ _ _ _ _ _ _ _ _ _ _ _ _ _ _ h1).mono ?_; rintro e w' ⟨rfl, hb⟩; obtain ⟨x, rfl⟩ := over hb; clear hb; have f0 := x.upB (w.heap.size); have f1 := x.upB (w.heap.size + 1)))
    all_goals go_ret
    all_goals refine ⟨by first | rfl | (simp; done) | (exfalso; refine hn ⟨by assumption, ?_, ?_, by assumption⟩ <;> (rw [Bool.eq_false_iff]; assumption)), ?_⟩
    all_goals all_goals exact belEnd
  rw [if_neg (show ¬ (true = false) by simp)] at hz'
  have e2 : marksB (rowL 6) ls lw lr n = (decide (1 ≤ ls) && decide (lw = 0) && !lr) := rfl
  rw [e2] at hz'
  clear e2
  rcases (show ls < 1 ∨ 1 ≤ ls by omega) with d | d
  · obtain rfl : 10 = z := by simpa [show ¬ (1 ≤ ls) by omega] using hz'
    clear hz'
    go_enter Tryd.func23, Tryd.ntmps23
    go_wp2_with (first | (go_at_call 46; refine (refEnds6 _ _ _ _ _ _ _ _ _ _ _ _ _ _ _ _ _ _ _ _ _ h1).mono ?_; rintro e w' ⟨rfl, hb⟩; obtain ⟨x, rfl⟩ := over hb; clear hb; have f0 := x.upB (w.heap.size); have f1 := x.upB (w.heap.size + 1)))
    all_goals go_ret
    all_goals refine ⟨by first | rfl | (simp; done) | (exfalso; refine hn ⟨by assumption, ?_, ?_, by assumption⟩ <;> (rw [Bool.eq_false_iff]; assumption)), ?_⟩
    all_goals all_goals exact belEnd
  rw [show decide (1 ≤ ls) = true by simpa using d] at hz'
  by_cases d3 : lw = 0
  case neg =>
    obtain rfl : 10 = z := by simpa [d3] using hz'
    have d4 := not_eq_b d3
    clear hz'
    go_enter Tryd.func23, Tryd.ntmps23
    go_wp2_with (first | (go_at_call 46; refine (refEnds6 _ _ _ _ _ _ _ _ _ _ _ _ _ _ _ _ _ _ _ _ _ h1).mono ?_; rintro e w' ⟨rfl, hb⟩; obtain ⟨x, rfl⟩ := over hb; clear hb; have f0 := x.upB (w.heap.size); have f1 := x.upB (w.heap.size + 1)))
    all_goals go_ret
    all_goals refine ⟨by first | rfl | (simp; done) | (exfalso; refine hn ⟨by assumption, ?_, ?_, by assumption⟩ <;> (rw [Bool.eq_false_iff]; assumption)), ?_⟩
    all_goals all_goals exact belEnd
  subst d3
  cases lr
  case true =>
    obtain rfl : 10 = z := by simpa using hz'
    clear hz'
    go_enter Tryd.func23, Tryd.ntmps23
    go_wp2_with (first | (go_at_call 46; refine (refEnds6 _ _ _ _ _ _ _ _ _ _ _ _ _ _ _ _ _ _ _ _ _ h1).mono ?_; rintro e w' ⟨rfl, hb⟩; obtain ⟨x, rfl⟩ := over hb; clear hb; have f0 := x.upB (w.heap.size); have f1 := x.upB (w.heap.size + 1)))
    all_goals go_ret
    all_goals refine ⟨by first | rfl | (simp; done) | (exfalso; refine hn ⟨by assumption, ?_, ?_, by assumption⟩ <;> (rw [Bool.eq_false_iff]; assumption)), ?_⟩
    all_goals all_goals exact belEnd
  cases h3 : noneB ⟨xn, xo, xh, xd⟩
  · obtain rfl : 6 = z := by simpa [h3] using hz'
    have hn := none_ne h3
    clear h3 hz'
    go_enter Tryd.func23, Tryd.ntmps23
    go_wp2_with (first | (go_at_call 46; refine (refEnds6 _ _ _ _ _ _ _ _ _ _ _ _ _ _ _ _ _ _ _ _ _ h1).mono ?_; rintro e w' ⟨rfl, hb⟩; obtain ⟨x, rfl⟩ := over hb; clear hb; have f0 := x.upB (w.heap.size); have f1 := x.upB (w.heap.size + 1)))
    all_goals go_ret
    all_goals refine ⟨by first | rfl | (simp; done) | (exfalso; refine hn ⟨by assumption, ?_, ?_, by assumption⟩ <;> (rw [Bool.eq_false_iff]; assumption)), ?_⟩
    all_goals all_goals exact belEnd
  · obtain rfl : 0 = z := by simpa [h3] using hz'
    obtain ⟨rfl, rfl, rfl, rfl⟩ := none_eq h3
    clear h3 hz'
    go_enter Tryd.func23, Tryd.ntmps23
    go_wp2_with (first | (go_at_call 46; refine (refEnds6 _ _ _ _ _ _ _ _ _ _ _ _ _ _ _ _ _ _ _ _ _ h1).mono ?_; rintro e w' ⟨rfl, hb⟩; obtain ⟨x, rfl⟩ := over hb; clear hb; have f0 := x.upB (w.heap.size); have f1 := x.upB (w.heap.size + 1)))
    all_goals go_ret
    all_goals refine ⟨by first | rfl | (simp; done) | (exfalso; refine hn ⟨by assumption, ?_, ?_, by assumption⟩ <;> (rw [Bool.eq_false_iff]; assumption)), ?_⟩
    all_goals all_goals exact belEnd
set_option maxHeartbeats 4000000 in
theorem refCheck7 (n bl tt cs cy cc cu ct cp : Int) (la lb lq ls lw : Int) (lr : Bool) (xn : Int) (xo xh : Bool) (xd : Int) (w : World) (z : Int) (hz : Hid (letterZ n bl tt ⟨7, la, lb, lq, ls, lw, lr, ⟨xn, xo, xh, xd⟩⟩ = z)) :
    Calls Tryd.prog 23 #[.agg #[.int .i64 n, .int .i64 bl, .int .i64 tt, .int .i64 cs, .int .i64 cy, .int .i64 cc, .int .i64 cu, .int .i64 ct, .int .i64 cp], .agg #[.int .i64 7, .int .i64 la, .int .i64 lb, .int .i64 lq, .int .i64 ls, .int .i64 lw, .bool lr, .int .i64 xn, .bool xo, .bool xh, .int .i64 xd]] w fun e w' => e = .returned (.int .i64 z) ∧ Below w.heap.size w w' := by
  have hz' := unhide hz
  unfold letterZ at hz'
  dsimp only at hz'
  rw [show inB 7 1 7 = true from rfl, if_neg (show ¬ (true = false) by simp)] at hz'
  obtain ⟨q1, h1⟩ : ∃ q, Hid (wayB (rowL 7) la lb n = q) := ⟨_, rfl⟩
  rw [unhide h1] at hz'
  clear hz
  rcases (show lq < 0 ∨ (0 ≤ lq ∧ bl ≤ lq) ∨ (0 ≤ lq ∧ lq < bl) by omega) with c | c | c
  · obtain rfl : 3 = z := by simpa [c] using hz'
    clear hz'
    go_enter Tryd.func23, Tryd.ntmps23
    go_wp2_with (first | (go_at_call 46; refine (refEnds7 _ _ _ _ _ _ _ _ _ _ _ _ _ _ _ _ _ _ _ _ _ h1).mono ?_; rintro e w' ⟨rfl, hb⟩; obtain ⟨x, rfl⟩ := over hb; clear hb; have f0 := x.upB (w.heap.size); have f1 := x.upB (w.heap.size + 1)))
    all_goals go_ret
    all_goals refine ⟨by first | rfl | (simp; done) | (exfalso; refine hn ⟨by assumption, ?_, ?_, by assumption⟩ <;> (rw [Bool.eq_false_iff]; assumption)), ?_⟩
    all_goals all_goals exact belEnd
  · obtain rfl : 3 = z := by simpa [c] using hz'
    clear hz'
    go_enter Tryd.func23, Tryd.ntmps23
    go_wp2_with (first | (go_at_call 46; refine (refEnds7 _ _ _ _ _ _ _ _ _ _ _ _ _ _ _ _ _ _ _ _ _ h1).mono ?_; rintro e w' ⟨rfl, hb⟩; obtain ⟨x, rfl⟩ := over hb; clear hb; have f0 := x.upB (w.heap.size); have f1 := x.upB (w.heap.size + 1)))
    all_goals go_ret
    all_goals refine ⟨by first | rfl | (simp; done) | (exfalso; refine hn ⟨by assumption, ?_, ?_, by assumption⟩ <;> (rw [Bool.eq_false_iff]; assumption)), ?_⟩
    all_goals all_goals exact belEnd
  rw [if_neg (show ¬ (lq < 0 ∨ bl ≤ lq) by omega)] at hz'
  cases q1
  · obtain rfl : 8 = z := by simpa using hz'
    clear hz'
    go_enter Tryd.func23, Tryd.ntmps23
    go_wp2_with (first | (go_at_call 46; refine (refEnds7 _ _ _ _ _ _ _ _ _ _ _ _ _ _ _ _ _ _ _ _ _ h1).mono ?_; rintro e w' ⟨rfl, hb⟩; obtain ⟨x, rfl⟩ := over hb; clear hb; have f0 := x.upB (w.heap.size); have f1 := x.upB (w.heap.size + 1)))
    all_goals go_ret
    all_goals refine ⟨by first | rfl | (simp; done) | (exfalso; refine hn ⟨by assumption, ?_, ?_, by assumption⟩ <;> (rw [Bool.eq_false_iff]; assumption)), ?_⟩
    all_goals all_goals exact belEnd
  rw [if_neg (show ¬ (true = false) by simp)] at hz'
  have e2 : marksB (rowL 7) ls lw lr n = (decide (1 ≤ ls) && decide (lw = 0) && !lr) := rfl
  rw [e2] at hz'
  clear e2
  rcases (show ls < 1 ∨ 1 ≤ ls by omega) with d | d
  · obtain rfl : 10 = z := by simpa [show ¬ (1 ≤ ls) by omega] using hz'
    clear hz'
    go_enter Tryd.func23, Tryd.ntmps23
    go_wp2_with (first | (go_at_call 46; refine (refEnds7 _ _ _ _ _ _ _ _ _ _ _ _ _ _ _ _ _ _ _ _ _ h1).mono ?_; rintro e w' ⟨rfl, hb⟩; obtain ⟨x, rfl⟩ := over hb; clear hb; have f0 := x.upB (w.heap.size); have f1 := x.upB (w.heap.size + 1)))
    all_goals go_ret
    all_goals refine ⟨by first | rfl | (simp; done) | (exfalso; refine hn ⟨by assumption, ?_, ?_, by assumption⟩ <;> (rw [Bool.eq_false_iff]; assumption)), ?_⟩
    all_goals all_goals exact belEnd
  rw [show decide (1 ≤ ls) = true by simpa using d] at hz'
  by_cases d3 : lw = 0
  case neg =>
    obtain rfl : 10 = z := by simpa [d3] using hz'
    have d4 := not_eq_b d3
    clear hz'
    go_enter Tryd.func23, Tryd.ntmps23
    go_wp2_with (first | (go_at_call 46; refine (refEnds7 _ _ _ _ _ _ _ _ _ _ _ _ _ _ _ _ _ _ _ _ _ h1).mono ?_; rintro e w' ⟨rfl, hb⟩; obtain ⟨x, rfl⟩ := over hb; clear hb; have f0 := x.upB (w.heap.size); have f1 := x.upB (w.heap.size + 1)))
    all_goals go_ret
    all_goals refine ⟨by first | rfl | (simp; done) | (exfalso; refine hn ⟨by assumption, ?_, ?_, by assumption⟩ <;> (rw [Bool.eq_false_iff]; assumption)), ?_⟩
    all_goals all_goals exact belEnd
  subst d3
  cases lr
  case true =>
    obtain rfl : 10 = z := by simpa using hz'
    clear hz'
    go_enter Tryd.func23, Tryd.ntmps23
    go_wp2_with (first | (go_at_call 46; refine (refEnds7 _ _ _ _ _ _ _ _ _ _ _ _ _ _ _ _ _ _ _ _ _ h1).mono ?_; rintro e w' ⟨rfl, hb⟩; obtain ⟨x, rfl⟩ := over hb; clear hb; have f0 := x.upB (w.heap.size); have f1 := x.upB (w.heap.size + 1)))
    all_goals go_ret
    all_goals refine ⟨by first | rfl | (simp; done) | (exfalso; refine hn ⟨by assumption, ?_, ?_, by assumption⟩ <;> (rw [Bool.eq_false_iff]; assumption)), ?_⟩
    all_goals all_goals exact belEnd
  cases h3 : noneB ⟨xn, xo, xh, xd⟩
  · obtain rfl : 6 = z := by simpa [h3] using hz'
    have hn := none_ne h3
    clear h3 hz'
    go_enter Tryd.func23, Tryd.ntmps23
    go_wp2_with (first | (go_at_call 46; refine (refEnds7 _ _ _ _ _ _ _ _ _ _ _ _ _ _ _ _ _ _ _ _ _ h1).mono ?_; rintro e w' ⟨rfl, hb⟩; obtain ⟨x, rfl⟩ := over hb; clear hb; have f0 := x.upB (w.heap.size); have f1 := x.upB (w.heap.size + 1)))
    all_goals go_ret
    all_goals refine ⟨by first | rfl | (simp; done) | (exfalso; refine hn ⟨by assumption, ?_, ?_, by assumption⟩ <;> (rw [Bool.eq_false_iff]; assumption)), ?_⟩
    all_goals all_goals exact belEnd
  · obtain rfl : 0 = z := by simpa [h3] using hz'
    obtain ⟨rfl, rfl, rfl, rfl⟩ := none_eq h3
    clear h3 hz'
    go_enter Tryd.func23, Tryd.ntmps23
    go_wp2_with (first | (go_at_call 46; refine (refEnds7 _ _ _ _ _ _ _ _ _ _ _ _ _ _ _ _ _ _ _ _ _ h1).mono ?_; rintro e w' ⟨rfl, hb⟩; obtain ⟨x, rfl⟩ := over hb; clear hb; have f0 := x.upB (w.heap.size); have f1 := x.upB (w.heap.size + 1)))
    all_goals go_ret
    all_goals refine ⟨by first | rfl | (simp; done) | (exfalso; refine hn ⟨by assumption, ?_, ?_, by assumption⟩ <;> (rw [Bool.eq_false_iff]; assumption)), ?_⟩
    all_goals all_goals exact belEnd
theorem refCheck_c (n bl tt cs cy cc cu ct cp : Int) (lk la lb lq ls lw : Int) (lr : Bool) (xn : Int) (xo xh : Bool) (xd : Int) (w : World) (z : Int) (hz : Hid (letterZ n bl tt ⟨lk, la, lb, lq, ls, lw, lr, ⟨xn, xo, xh, xd⟩⟩ = z)) :
    Calls Tryd.prog 23 #[.agg #[.int .i64 n, .int .i64 bl, .int .i64 tt, .int .i64 cs, .int .i64 cy, .int .i64 cc, .int .i64 cu, .int .i64 ct, .int .i64 cp], .agg #[.int .i64 lk, .int .i64 la, .int .i64 lb, .int .i64 lq, .int .i64 ls, .int .i64 lw, .bool lr, .int .i64 xn, .bool xo, .bool xh, .int .i64 xd]] w fun e w' => e = .returned (.int .i64 z) ∧ Below w.heap.size w w' := by
  obtain ⟨q0, h0⟩ : ∃ q, Hid (inB lk 1 7 = q) := ⟨_, rfl⟩
  cases q0
  · have hz' := unhide hz
    unfold letterZ at hz'
    dsimp only at hz'
    rw [unhide h0] at hz'
    obtain rfl : 7 = z := by simpa using hz'
    clear hz hz'
    have h1 := inB_false.1 (unhide h0)
    clear h0
    rcases h1 with h1 | h1
    all_goals
      go_enter Tryd.func23, Tryd.ntmps23
      go_wp2
      go_ret
      exact ⟨rfl, by go_grown⟩
  · rcases kinds7 (unhide h0) with rfl | rfl | rfl | rfl | rfl | rfl | rfl
    · exact refCheck1 _ _ _ _ _ _ _ _ _ _ _ _ _ _ _ _ _ _ _ w z hz
    · exact refCheck2 _ _ _ _ _ _ _ _ _ _ _ _ _ _ _ _ _ _ _ w z hz
    · exact refCheck3 _ _ _ _ _ _ _ _ _ _ _ _ _ _ _ _ _ _ _ w z hz
    · exact refCheck4 _ _ _ _ _ _ _ _ _ _ _ _ _ _ _ _ _ _ _ w z hz
    · exact refCheck5 _ _ _ _ _ _ _ _ _ _ _ _ _ _ _ _ _ _ _ w z hz
    · exact refCheck6 _ _ _ _ _ _ _ _ _ _ _ _ _ _ _ _ _ _ _ w z hz
    · exact refCheck7 _ _ _ _ _ _ _ _ _ _ _ _ _ _ _ _ _ _ _ w z hz
end Go.Proofs.YtmgjgeaigdiadaaDoor
