/- layer 16: LetC4 LetterC, put together. -/
import Derived.Test.YtmgjgeaigdiadaaDoorB05
namespace Go.Proofs.YtmgjgeaigdiadaaDoor
open Go.ChangeShapes Go.WideShapes Go.ChangeAt Go.RowKit
set_option linter.unusedSimpArgs false
set_option linter.unusedVariables false
set_option maxRecDepth 10000
attribute [local go_sem, local simp] over_const setCell_drewN alloc_drewN Over.cell Over.frozen lt_s1 lt_s2 lt_s3 le_s0 le_s1 le_s2 le_s3 eq_s0 eq_s1 eq_s2 qe_s0
set_option maxHeartbeats 2000000 in
theorem check6 (n bl tt cs cy cc cu ct cp : Int) (la lb lq ls lw : Int) (lr : Bool) (xn : Int) (xo xh : Bool) (xd : Int) (w : World) (hT : Hid (Tab w)) (z : Int) (hz : Hid (letterZ n bl tt ⟨6, la, lb, lq, ls, lw, lr, ⟨xn, xo, xh, xd⟩⟩ = z)) :
    Calls Tryd.prog 29 #[.agg #[.int .i64 n, .int .i64 bl, .int .i64 tt, .int .i64 cs, .int .i64 cy, .int .i64 cc, .int .i64 cu, .int .i64 ct, .int .i64 cp], .agg #[.int .i64 6, .int .i64 la, .int .i64 lb, .int .i64 lq, .int .i64 ls, .int .i64 lw, .bool lr, .int .i64 xn, .bool xo, .bool xh, .int .i64 xd]] w fun e w' => e = .returned (.int .i64 z) ∧ Below w.heap.size w w' := by
  have hz' := unhide hz
  have h0 := hide (show inB 6 1 7 = true from rfl)
  unfold letterZ at hz'
  dsimp only at hz'
  rw [unhide h0] at hz'
  have z0 := (unhide hT).1
  have t0 := (unhide hT).2 36 _ rfl
  have t1 := (unhide hT).2 37 _ rfl
  have t2 := (unhide hT).2 38 _ rfl
  have t3 := (unhide hT).2 39 _ rfl
  have t4 := (unhide hT).2 40 _ rfl
  have t5 := (unhide hT).2 41 _ rfl
  obtain ⟨q1, h1⟩ : ∃ q, Hid (wayB (rowL 6) la lb n = q) := ⟨_, rfl⟩
  obtain ⟨q2, h2⟩ : ∃ q, Hid (marksB (rowL 6) ls lw lr n = q) := ⟨_, rfl⟩
  rw [unhide h1, unhide h2] at hz'
  clear hz hT
  rcases (show lq < 0 ∨ (0 ≤ lq ∧ bl ≤ lq) ∨ (0 ≤ lq ∧ lq < bl) by omega) with c | c | c
  · obtain rfl : 3 = z := by simpa [c] using hz'
    go_enter Tryd.func29, Tryd.ntmps29
    go_wp2_with (first | (go_at_call 58; refine (within_c _ _ _ _ _ h0).mono ?_; rintro e w' ⟨rfl, rfl⟩) | (go_at_call 59; refine (way_c (rowL 6) _ _ _ _ _ _ _ _ _ _ _ _ _ 2 1 rfl rfl _ h1).mono ?_; rintro e w' ⟨rfl, hb⟩; obtain ⟨x, rfl⟩ := over hb; clear hb; have f0 := x.upB (w.heap.size); have f1 := x.upB (w.heap.size + 1); have f2 := x.upB (w.heap.size + 1 + 1)) | (go_at_call 60; refine (marks_c (rowL 6) _ _ _ _ _ _ _ _ _ _ _ _ _ 2 1 _ h2).mono ?_; rintro e w' ⟨rfl, hb⟩; obtain ⟨y, rfl⟩ := over hb; clear hb; have g0 := y.upB (w.heap.size); have g1 := y.upB (w.heap.size + 1); have g2 := y.upB (w.heap.size + 1 + 1)))
    go_ret
    refine ⟨by first | rfl | simp, ?_⟩
    all_goals exact belEnd
  · obtain rfl : 3 = z := by simpa [c] using hz'
    go_enter Tryd.func29, Tryd.ntmps29
    go_wp2_with (first | (go_at_call 58; refine (within_c _ _ _ _ _ h0).mono ?_; rintro e w' ⟨rfl, rfl⟩) | (go_at_call 59; refine (way_c (rowL 6) _ _ _ _ _ _ _ _ _ _ _ _ _ 2 1 rfl rfl _ h1).mono ?_; rintro e w' ⟨rfl, hb⟩; obtain ⟨x, rfl⟩ := over hb; clear hb; have f0 := x.upB (w.heap.size); have f1 := x.upB (w.heap.size + 1); have f2 := x.upB (w.heap.size + 1 + 1)) | (go_at_call 60; refine (marks_c (rowL 6) _ _ _ _ _ _ _ _ _ _ _ _ _ 2 1 _ h2).mono ?_; rintro e w' ⟨rfl, hb⟩; obtain ⟨y, rfl⟩ := over hb; clear hb; have g0 := y.upB (w.heap.size); have g1 := y.upB (w.heap.size + 1); have g2 := y.upB (w.heap.size + 1 + 1)))
    go_ret
    refine ⟨by first | rfl | simp, ?_⟩
    all_goals exact belEnd
  rw [if_neg (show ¬ (true = false) by simp), if_neg (show ¬ (lq < 0 ∨ bl ≤ lq) by omega)] at hz'
  cases q1
  · obtain rfl : 8 = z := by simpa using hz'
    go_enter Tryd.func29, Tryd.ntmps29
    go_wp2_with (first | (go_at_call 58; refine (within_c _ _ _ _ _ h0).mono ?_; rintro e w' ⟨rfl, rfl⟩) | (go_at_call 59; refine (way_c (rowL 6) _ _ _ _ _ _ _ _ _ _ _ _ _ 2 1 rfl rfl _ h1).mono ?_; rintro e w' ⟨rfl, hb⟩; obtain ⟨x, rfl⟩ := over hb; clear hb; have f0 := x.upB (w.heap.size); have f1 := x.upB (w.heap.size + 1); have f2 := x.upB (w.heap.size + 1 + 1)) | (go_at_call 60; refine (marks_c (rowL 6) _ _ _ _ _ _ _ _ _ _ _ _ _ 2 1 _ h2).mono ?_; rintro e w' ⟨rfl, hb⟩; obtain ⟨y, rfl⟩ := over hb; clear hb; have g0 := y.upB (w.heap.size); have g1 := y.upB (w.heap.size + 1); have g2 := y.upB (w.heap.size + 1 + 1)))
    go_ret
    refine ⟨by first | rfl | simp, ?_⟩
    all_goals exact belEnd
  cases q2
  · obtain rfl : 10 = z := by simpa using hz'
    go_enter Tryd.func29, Tryd.ntmps29
    go_wp2_with (first | (go_at_call 58; refine (within_c _ _ _ _ _ h0).mono ?_; rintro e w' ⟨rfl, rfl⟩) | (go_at_call 59; refine (way_c (rowL 6) _ _ _ _ _ _ _ _ _ _ _ _ _ 2 1 rfl rfl _ h1).mono ?_; rintro e w' ⟨rfl, hb⟩; obtain ⟨x, rfl⟩ := over hb; clear hb; have f0 := x.upB (w.heap.size); have f1 := x.upB (w.heap.size + 1); have f2 := x.upB (w.heap.size + 1 + 1)) | (go_at_call 60; refine (marks_c (rowL 6) _ _ _ _ _ _ _ _ _ _ _ _ _ 2 1 _ h2).mono ?_; rintro e w' ⟨rfl, hb⟩; obtain ⟨y, rfl⟩ := over hb; clear hb; have g0 := y.upB (w.heap.size); have g1 := y.upB (w.heap.size + 1); have g2 := y.upB (w.heap.size + 1 + 1)))
    go_ret
    refine ⟨by first | rfl | simp, ?_⟩
    all_goals exact belEnd
  cases h3 : noneB ⟨xn, xo, xh, xd⟩
  · obtain rfl : 6 = z := by simpa [h3] using hz'
    have h4 := none_ne h3
    clear h3 hz'
    go_enter Tryd.func29, Tryd.ntmps29
    go_wp2_with (first | (go_at_call 58; refine (within_c _ _ _ _ _ h0).mono ?_; rintro e w' ⟨rfl, rfl⟩) | (go_at_call 59; refine (way_c (rowL 6) _ _ _ _ _ _ _ _ _ _ _ _ _ 2 1 rfl rfl _ h1).mono ?_; rintro e w' ⟨rfl, hb⟩; obtain ⟨x, rfl⟩ := over hb; clear hb; have f0 := x.upB (w.heap.size); have f1 := x.upB (w.heap.size + 1); have f2 := x.upB (w.heap.size + 1 + 1)) | (go_at_call 60; refine (marks_c (rowL 6) _ _ _ _ _ _ _ _ _ _ _ _ _ 2 1 _ h2).mono ?_; rintro e w' ⟨rfl, hb⟩; obtain ⟨y, rfl⟩ := over hb; clear hb; have g0 := y.upB (w.heap.size); have g1 := y.upB (w.heap.size + 1); have g2 := y.upB (w.heap.size + 1 + 1)))
    all_goals go_ret
    all_goals refine ⟨by first | rfl | (simp; done) | (exfalso; refine h4 ⟨by assumption, ?_, ?_, by assumption⟩ <;> (rw [Bool.eq_false_iff]; assumption)), ?_⟩
    all_goals all_goals exact belEnd
  · obtain rfl : 0 = z := by simpa [h3] using hz'
    obtain ⟨rfl, rfl, rfl, rfl⟩ := none_eq h3
    clear h3 hz'
    go_enter Tryd.func29, Tryd.ntmps29
    go_wp2_with (first | (go_at_call 58; refine (within_c _ _ _ _ _ h0).mono ?_; rintro e w' ⟨rfl, rfl⟩) | (go_at_call 59; refine (way_c (rowL 6) _ _ _ _ _ _ _ _ _ _ _ _ _ 2 1 rfl rfl _ h1).mono ?_; rintro e w' ⟨rfl, hb⟩; obtain ⟨x, rfl⟩ := over hb; clear hb; have f0 := x.upB (w.heap.size); have f1 := x.upB (w.heap.size + 1); have f2 := x.upB (w.heap.size + 1 + 1)) | (go_at_call 60; refine (marks_c (rowL 6) _ _ _ _ _ _ _ _ _ _ _ _ _ 2 1 _ h2).mono ?_; rintro e w' ⟨rfl, hb⟩; obtain ⟨y, rfl⟩ := over hb; clear hb; have g0 := y.upB (w.heap.size); have g1 := y.upB (w.heap.size + 1); have g2 := y.upB (w.heap.size + 1 + 1)))
    go_ret
    refine ⟨by first | rfl | simp, ?_⟩
    all_goals exact belEnd
set_option maxHeartbeats 2000000 in
theorem check7 (n bl tt cs cy cc cu ct cp : Int) (la lb lq ls lw : Int) (lr : Bool) (xn : Int) (xo xh : Bool) (xd : Int) (w : World) (hT : Hid (Tab w)) (z : Int) (hz : Hid (letterZ n bl tt ⟨7, la, lb, lq, ls, lw, lr, ⟨xn, xo, xh, xd⟩⟩ = z)) :
    Calls Tryd.prog 29 #[.agg #[.int .i64 n, .int .i64 bl, .int .i64 tt, .int .i64 cs, .int .i64 cy, .int .i64 cc, .int .i64 cu, .int .i64 ct, .int .i64 cp], .agg #[.int .i64 7, .int .i64 la, .int .i64 lb, .int .i64 lq, .int .i64 ls, .int .i64 lw, .bool lr, .int .i64 xn, .bool xo, .bool xh, .int .i64 xd]] w fun e w' => e = .returned (.int .i64 z) ∧ Below w.heap.size w w' := by
  have hz' := unhide hz
  have h0 := hide (show inB 7 1 7 = true from rfl)
  unfold letterZ at hz'
  dsimp only at hz'
  rw [unhide h0] at hz'
  have z0 := (unhide hT).1
  have t0 := (unhide hT).2 42 _ rfl
  have t1 := (unhide hT).2 43 _ rfl
  have t2 := (unhide hT).2 44 _ rfl
  have t3 := (unhide hT).2 45 _ rfl
  have t4 := (unhide hT).2 46 _ rfl
  have t5 := (unhide hT).2 47 _ rfl
  obtain ⟨q1, h1⟩ : ∃ q, Hid (wayB (rowL 7) la lb n = q) := ⟨_, rfl⟩
  obtain ⟨q2, h2⟩ : ∃ q, Hid (marksB (rowL 7) ls lw lr n = q) := ⟨_, rfl⟩
  rw [unhide h1, unhide h2] at hz'
  clear hz hT
  rcases (show lq < 0 ∨ (0 ≤ lq ∧ bl ≤ lq) ∨ (0 ≤ lq ∧ lq < bl) by omega) with c | c | c
  · obtain rfl : 3 = z := by simpa [c] using hz'
    go_enter Tryd.func29, Tryd.ntmps29
    go_wp2_with (first | (go_at_call 58; refine (within_c _ _ _ _ _ h0).mono ?_; rintro e w' ⟨rfl, rfl⟩) | (go_at_call 59; refine (way_c (rowL 7) _ _ _ _ _ _ _ _ _ _ _ _ _ 1 2 rfl rfl _ h1).mono ?_; rintro e w' ⟨rfl, hb⟩; obtain ⟨x, rfl⟩ := over hb; clear hb; have f0 := x.upB (w.heap.size); have f1 := x.upB (w.heap.size + 1); have f2 := x.upB (w.heap.size + 1 + 1)) | (go_at_call 60; refine (marks_c (rowL 7) _ _ _ _ _ _ _ _ _ _ _ _ _ 1 2 _ h2).mono ?_; rintro e w' ⟨rfl, hb⟩; obtain ⟨y, rfl⟩ := over hb; clear hb; have g0 := y.upB (w.heap.size); have g1 := y.upB (w.heap.size + 1); have g2 := y.upB (w.heap.size + 1 + 1)))
    go_ret
    refine ⟨by first | rfl | simp, ?_⟩
    all_goals exact belEnd
  · obtain rfl : 3 = z := by simpa [c] using hz'
    go_enter Tryd.func29, Tryd.ntmps29
    go_wp2_with (first | (go_at_call 58; refine (within_c _ _ _ _ _ h0).mono ?_; rintro e w' ⟨rfl, rfl⟩) | (go_at_call 59; refine (way_c (rowL 7) _ _ _ _ _ _ _ _ _ _ _ _ _ 1 2 rfl rfl _ h1).mono ?_; rintro e w' ⟨rfl, hb⟩; obtain ⟨x, rfl⟩ := over hb; clear hb; have f0 := x.upB (w.heap.size); have f1 := x.upB (w.heap.size + 1); have f2 := x.upB (w.heap.size + 1 + 1)) | (go_at_call 60; refine (marks_c (rowL 7) _ _ _ _ _ _ _ _ _ _ _ _ _ 1 2 _ h2).mono ?_; rintro e w' ⟨rfl, hb⟩; obtain ⟨y, rfl⟩ := over hb; clear hb; have g0 := y.upB (w.heap.size); have g1 := y.upB (w.heap.size + 1); have g2 := y.upB (w.heap.size + 1 + 1)))
    go_ret
    refine ⟨by first | rfl | simp, ?_⟩
    all_goals exact belEnd
  rw [if_neg (show ¬ (true = false) by simp), if_neg (show ¬ (lq < 0 ∨ bl ≤ lq) by omega)] at hz'
  cases q1
  · obtain rfl : 8 = z := by simpa using hz'
    go_enter Tryd.func29, Tryd.ntmps29
    go_wp2_with (first | (go_at_call 58; refine (within_c _ _ _ _ _ h0).mono ?_; rintro e w' ⟨rfl, rfl⟩) | (go_at_call 59; refine (way_c (rowL 7) _ _ _ _ _ _ _ _ _ _ _ _ _ 1 2 rfl rfl _ h1).mono ?_; rintro e w' ⟨rfl, hb⟩; obtain ⟨x, rfl⟩ := over hb; clear hb; have f0 := x.upB (w.heap.size); have f1 := x.upB (w.heap.size + 1); have f2 := x.upB (w.heap.size + 1 + 1)) | (go_at_call 60; refine (marks_c (rowL 7) _ _ _ _ _ _ _ _ _ _ _ _ _ 1 2 _ h2).mono ?_; rintro e w' ⟨rfl, hb⟩; obtain ⟨y, rfl⟩ := over hb; clear hb; have g0 := y.upB (w.heap.size); have g1 := y.upB (w.heap.size + 1); have g2 := y.upB (w.heap.size + 1 + 1)))
    go_ret
    refine ⟨by first | rfl | simp, ?_⟩
    all_goals exact belEnd
  cases q2
  · obtain rfl : 10 = z := by simpa using hz'
    go_enter Tryd.func29, Tryd.ntmps29
    go_wp2_with (first | (go_at_call 58; refine (within_c _ _ _ _ _ h0).mono ?_; rintro e w' ⟨rfl, rfl⟩) | (go_at_call 59; refine (way_c (rowL 7) _ _ _ _ _ _ _ _ _ _ _ _ _ 1 2 rfl rfl _ h1).mono ?_; rintro e w' ⟨rfl, hb⟩; obtain ⟨x, rfl⟩ := over hb; clear hb; have f0 := x.upB (w.heap.size); have f1 := x.upB (w.heap.size + 1); have f2 := x.upB (w.heap.size + 1 + 1)) | (go_at_call 60; refine (marks_c (rowL 7) _ _ _ _ _ _ _ _ _ _ _ _ _ 1 2 _ h2).mono ?_; rintro e w' ⟨rfl, hb⟩; obtain ⟨y, rfl⟩ := over hb; clear hb; have g0 := y.upB (w.heap.size); have g1 := y.upB (w.heap.size + 1); have g2 := y.upB (w.heap.size + 1 + 1)))
    go_ret
    refine ⟨by first | rfl | simp, ?_⟩
    all_goals exact belEnd
  cases h3 : noneB ⟨xn, xo, xh, xd⟩
  · obtain rfl : 6 = z := by simpa [h3] using hz'
    have h4 := none_ne h3
    clear h3 hz'
    go_enter Tryd.func29, Tryd.ntmps29
    go_wp2_with (first | (go_at_call 58; refine (within_c _ _ _ _ _ h0).mono ?_; rintro e w' ⟨rfl, rfl⟩) | (go_at_call 59; refine (way_c (rowL 7) _ _ _ _ _ _ _ _ _ _ _ _ _ 1 2 rfl rfl _ h1).mono ?_; rintro e w' ⟨rfl, hb⟩; obtain ⟨x, rfl⟩ := over hb; clear hb; have f0 := x.upB (w.heap.size); have f1 := x.upB (w.heap.size + 1); have f2 := x.upB (w.heap.size + 1 + 1)) | (go_at_call 60; refine (marks_c (rowL 7) _ _ _ _ _ _ _ _ _ _ _ _ _ 1 2 _ h2).mono ?_; rintro e w' ⟨rfl, hb⟩; obtain ⟨y, rfl⟩ := over hb; clear hb; have g0 := y.upB (w.heap.size); have g1 := y.upB (w.heap.size + 1); have g2 := y.upB (w.heap.size + 1 + 1)))
    all_goals go_ret
    all_goals refine ⟨by first | rfl | (simp; done) | (exfalso; refine h4 ⟨by assumption, ?_, ?_, by assumption⟩ <;> (rw [Bool.eq_false_iff]; assumption)), ?_⟩
    all_goals all_goals exact belEnd
  · obtain rfl : 0 = z := by simpa [h3] using hz'
    obtain ⟨rfl, rfl, rfl, rfl⟩ := none_eq h3
    clear h3 hz'
    go_enter Tryd.func29, Tryd.ntmps29
    go_wp2_with (first | (go_at_call 58; refine (within_c _ _ _ _ _ h0).mono ?_; rintro e w' ⟨rfl, rfl⟩) | (go_at_call 59; refine (way_c (rowL 7) _ _ _ _ _ _ _ _ _ _ _ _ _ 1 2 rfl rfl _ h1).mono ?_; rintro e w' ⟨rfl, hb⟩; obtain ⟨x, rfl⟩ := over hb; clear hb; have f0 := x.upB (w.heap.size); have f1 := x.upB (w.heap.size + 1); have f2 := x.upB (w.heap.size + 1 + 1)) | (go_at_call 60; refine (marks_c (rowL 7) _ _ _ _ _ _ _ _ _ _ _ _ _ 1 2 _ h2).mono ?_; rintro e w' ⟨rfl, hb⟩; obtain ⟨y, rfl⟩ := over hb; clear hb; have g0 := y.upB (w.heap.size); have g1 := y.upB (w.heap.size + 1); have g2 := y.upB (w.heap.size + 1 + 1)))
    go_ret
    refine ⟨by first | rfl | simp, ?_⟩
    all_goals exact belEnd
theorem check_c (n bl tt cs cy cc cu ct cp : Int) (lk la lb lq ls lw : Int) (lr : Bool) (xn : Int) (xo xh : Bool) (xd : Int) (w : World) (hT : Hid (Tab w)) (z : Int) (hz : Hid (letterZ n bl tt ⟨lk, la, lb, lq, ls, lw, lr, ⟨xn, xo, xh, xd⟩⟩ = z)) :
    Calls Tryd.prog 29 #[.agg #[.int .i64 n, .int .i64 bl, .int .i64 tt, .int .i64 cs, .int .i64 cy, .int .i64 cc, .int .i64 cu, .int .i64 ct, .int .i64 cp], .agg #[.int .i64 lk, .int .i64 la, .int .i64 lb, .int .i64 lq, .int .i64 ls, .int .i64 lw, .bool lr, .int .i64 xn, .bool xo, .bool xh, .int .i64 xd]] w fun e w' => e = .returned (.int .i64 z) ∧ Below w.heap.size w w' := by
  obtain ⟨q0, h0⟩ : ∃ q, Hid (inB lk 1 7 = q) := ⟨_, rfl⟩
  cases q0
  · have hz' := unhide hz
    unfold letterZ at hz'
    dsimp only at hz'
    rw [unhide h0] at hz'
    obtain rfl : 7 = z := by simpa using hz'
    clear hz hz' hT
    go_enter Tryd.func29, Tryd.ntmps29
    go_wp2_with (go_at_call 58; refine (within_c _ _ _ _ _ h0).mono ?_; rintro e w' ⟨rfl, rfl⟩)
    go_ret
    exact ⟨rfl, by go_grown⟩
  · rcases kinds7 (unhide h0) with rfl | rfl | rfl | rfl | rfl | rfl | rfl
    · exact check1 _ _ _ _ _ _ _ _ _ _ _ _ _ _ _ _ _ _ _ w hT z hz
    · exact check2 _ _ _ _ _ _ _ _ _ _ _ _ _ _ _ _ _ _ _ w hT z hz
    · exact check3 _ _ _ _ _ _ _ _ _ _ _ _ _ _ _ _ _ _ _ w hT z hz
    · exact check4 _ _ _ _ _ _ _ _ _ _ _ _ _ _ _ _ _ _ _ w hT z hz
    · exact check5 _ _ _ _ _ _ _ _ _ _ _ _ _ _ _ _ _ _ _ w hT z hz
    · exact check6 _ _ _ _ _ _ _ _ _ _ _ _ _ _ _ _ _ _ _ w hT z hz
    · exact check7 _ _ _ _ _ _ _ _ _ _ _ _ _ _ _ _ _ _ _ w hT z hz
end Go.Proofs.YtmgjgeaigdiadaaDoor
