/- The contracts of package letter's calls (layer 4): what each returns; no old memory turns. -/
import Derived.Test.YtipklaehhiffdaaDoorRows
import Derived.Test.YtipklaehhiffdaaDoorLetMath
import Derived.Test.YtipklaehhiffdaaDoorBundle
import Derived.Test.YtipklaehhiffdaaDoorOver
namespace Go.Proofs.YtipklaehhiffdaaDoor
open Go.ChangeShapes Go.WideShapes Go.ChangeAt Go.RowKit
set_option linter.unusedSimpArgs false
set_option linter.unusedVariables false

attribute [local go_sem, local simp] over_const setCell_drewN alloc_drewN Over.cell Over.frozen lt_s1 lt_s2 lt_s3 le_s0 le_s1 le_s2 le_s3 eq_s0 eq_s1 eq_s2 qe_s0

theorem within_c (x lo hi : Int) (w : World) (q : Bool) (hq : Hid (inB x lo hi = q)) :
    Calls Tryd.prog 20 #[.int .i64 x, .int .i64 lo, .int .i64 hi] w fun e w' => e = .returned (.bool q) ∧ w' = w := by
  have hq' := unhide hq
  by_cases c : lo ≤ x <;> by_cases c2 : x ≤ hi <;> simp [inB, c, c2] at hq' <;> subst hq'
  all_goals
    go_enter Tryd.func20, Tryd.ntmps20
    go_wp2
    go_ret
    exact ⟨rfl, rfl⟩

theorem isNode_c (x n : Int) (w : World) (q : Bool) (hq : Hid (nodeB x n = q)) :
    Calls Tryd.prog 28 #[.int .i64 x, .int .i64 n] w fun e w' => e = .returned (.bool q) ∧ w' = w := by
  have hq' := unhide hq
  by_cases c : 0 ≤ x <;> by_cases c2 : x < n <;> simp [nodeB, c, c2] at hq' <;> subst hq'
  all_goals
    go_enter Tryd.func28, Tryd.ntmps28
    go_wp2
    go_ret
    exact ⟨rfl, rfl⟩

theorem settings_c (n bl tt cs cy cc cu ct cp : Int) (w : World) (q : Bool) (hq : Hid (setB cs cy cc cu ct cp = q)) :
    Calls Tryd.prog 19 #[.agg #[.int .i64 n, .int .i64 bl, .int .i64 tt, .int .i64 cs, .int .i64 cy, .int .i64 cc, .int .i64 cu, .int .i64 ct, .int .i64 cp]] w fun e w' => e = .returned (.bool q) ∧ Below w.heap.size w w' := by
  have hq' := unhide hq
  unfold setB at hq'
  obtain ⟨q1, h1⟩ : ∃ q, Hid (inB cs 1 64 = q) := ⟨_, rfl⟩
  obtain ⟨q2, h2⟩ : ∃ q, Hid (inB cy 1 16 = q) := ⟨_, rfl⟩
  obtain ⟨q3, h3⟩ : ∃ q, Hid (inB cc 1 65536 = q) := ⟨_, rfl⟩
  obtain ⟨q4, h4⟩ : ∃ q, Hid (inB cu 1 64 = q) := ⟨_, rfl⟩
  obtain ⟨q5, h5⟩ : ∃ q, Hid (inB ct 0 8 = q) := ⟨_, rfl⟩
  obtain ⟨q6, h6⟩ : ∃ q, Hid (inB cp 0 2 = q) := ⟨_, rfl⟩
  rw [unhide h1, unhide h2, unhide h3, unhide h4, unhide h5, unhide h6] at hq'
  subst hq'
  clear hq
  go_enter Tryd.func19, Tryd.ntmps19
  go_wp2_with (go_at_call 20; refine (within_c _ _ _ _ _ (by first | exact h1 | exact h2 | exact h3 | exact h4 | exact h5 | exact h6)).mono ?_; rintro e w' ⟨rfl, rfl⟩)
  all_goals go_ret
  all_goals exact ⟨by simp_all, by go_grown⟩

theorem cfgErr_c (n bl tt cs cy cc cu ct cp : Int) (w : World) (z : Int) (hz : Hid (cfgZ n bl tt cs cy cc cu ct cp = z)) :
    Calls Tryd.prog 10 #[.agg #[.int .i64 n, .int .i64 bl, .int .i64 tt, .int .i64 cs, .int .i64 cy, .int .i64 cc, .int .i64 cu, .int .i64 ct, .int .i64 cp]] w fun e w' => e = .returned (.int .i64 z) ∧ Below w.heap.size w w' := by
  have hz' := unhide hz
  unfold cfgZ at hz'
  obtain ⟨q0, h0⟩ : ∃ q, Hid (setB cs cy cc cu ct cp = q) := ⟨_, rfl⟩
  obtain ⟨q1, h1⟩ : ∃ q, Hid (inB n 1 64 = q) := ⟨_, rfl⟩
  obtain ⟨q2, h2⟩ : ∃ q, Hid (inB bl 1 64 = q) := ⟨_, rfl⟩
  obtain ⟨q3, h3⟩ : ∃ q, Hid (inB tt n 65536 = q) := ⟨_, rfl⟩
  rw [unhide h0, unhide h1, unhide h2, unhide h3] at hz'
  subst hz'
  clear hz
  go_enter Tryd.func10, Tryd.ntmps10
  go_wp2_with (first | (go_at_call 20; refine (within_c _ _ _ _ _ (by first | exact h1 | exact h2 | exact h3)).mono ?_; rintro e w' ⟨rfl, rfl⟩) | (go_at_call 19; refine (settings_c _ _ _ _ _ _ _ _ _ _ _ h0).mono ?_; rintro e w' ⟨rfl, hb⟩; obtain ⟨x, rfl⟩ := over hb; clear hb; have f0 := x.up (b := w.heap.size) (by first | omega | (simp only [World.size_alloc]; omega))))
  all_goals go_ret
  all_goals refine ⟨by simp_all, ?_⟩
  all_goals repeat' first | with_reducible exact Below.refl _ _ | with_reducible refine Below.setCell ?_ ?_ _ | with_reducible refine Below.alloc ?_ ?_ _ | with_reducible refine Below.drew ?_ | with_reducible refine belowN ?_ _ | with_reducible refine Over.go _ ?_ ?_ | with_reducible exact Nat.le_refl _ | with_reducible refine Over.sz _ _ ?_ | with_reducible refine le_alloc ?_ | with_reducible refine le_setCell ?_ | with_reducible refine le_drewN ?_ | with_reducible refine le_drew ?_ | omega | (dsimp only; omega)

set_option maxHeartbeats 1000000 in
theorem isOneOf_c (nd hm : Bool) (x n : Int) (w : World) (v : Int) (he : Hid (endZ nd hm = v)) (q : Bool) (hq : Hid (oneB nd hm x n = q)) :
    Calls Tryd.prog 27 #[.int .i64 v, .int .i64 x, .int .i64 n] w fun e w' => e = .returned (.bool q) ∧ w' = w := by
  have hq' := unhide hq
  obtain ⟨q1, h1⟩ : ∃ q, Hid (nodeB x n = q) := ⟨_, rfl⟩
  unfold oneB at hq'
  rw [unhide h1] at hq'
  clear hq
  cases q1 <;> by_cases c : x = n <;> cases nd <;> cases hm <;> simp [c] at hq' <;> subst hq'
  all_goals
    have he' := unhide he
    simp [endZ] at he'
    subst he'
    clear he
    have b01 : bits .and .i64 0 1 = 0 := rfl
    have b02 : bits .and .i64 0 2 = 0 := rfl
    have b11 : bits .and .i64 1 1 = 1 := rfl
    have b12 : bits .and .i64 1 2 = 0 := rfl
    have b21 : bits .and .i64 2 1 = 0 := rfl
    have b22 : bits .and .i64 2 2 = 2 := rfl
    have b31 : bits .and .i64 3 1 = 1 := rfl
    have b32 : bits .and .i64 3 2 = 2 := rfl
    try subst c
    go_enter Tryd.func27, Tryd.ntmps27
    go_wp2_with (go_at_call 28; refine (isNode_c _ _ _ _ h1).mono ?_; rintro e w' ⟨rfl, rfl⟩)
    go_ret
    exact ⟨rfl, rfl⟩

set_option maxHeartbeats 1000000 in
theorem marks_c (r : LRow) (lk la lb lq ls lw : Int) (lr : Bool) (xn : Int) (xo xh : Bool) (xd : Int) (n : Int) (w : World) (e1 e2 : Int) (q : Bool) (hq : Hid (marksB r ls lw lr n = q)) :
    Calls Tryd.prog 22 #[.agg #[.int .i64 e1, .int .i64 e2, .bool r.s, .bool r.h, .bool r.wr, .bool r.tk], .agg #[.int .i64 lk, .int .i64 la, .int .i64 lb, .int .i64 lq, .int .i64 ls, .int .i64 lw, .bool lr, .int .i64 xn, .bool xo, .bool xh, .int .i64 xd], .int .i64 n] w fun e w' => e = .returned (.bool q) ∧ Below w.heap.size w w' := by
  have hq' := unhide hq
  obtain ⟨q1, h1⟩ : ∃ q, Hid (nodeB lw n = q) := ⟨_, rfl⟩
  unfold marksB seqB whoB at hq'
  rw [unhide h1] at hq'
  subst hq'
  clear hq
  obtain ⟨fn, fh, tn, th, s, h, wr, tk⟩ := r
  cases s <;> cases h
  all_goals
    dsimp only
    go_enter Tryd.func22, Tryd.ntmps22
    go_wp2_with (go_at_call 28; refine (isNode_c _ _ _ _ h1).mono ?_; rintro e w' ⟨rfl, rfl⟩)
    all_goals go_ret
    all_goals exact ⟨by simp_all <;> omega, by go_grown⟩

theorem bcheck_c (xn : Int) (xo xh : Bool) (xd t : Int) (w : World) (z : Int) (hz : Hid (checkZ ⟨xn, xo, xh, xd⟩ t = z)) :
    Calls Tryd.prog 29 #[.agg #[.int .i64 xn, .bool xo, .bool xh, .int .i64 xd], .int .i64 t] w fun e w' => e = .returned (.int .i64 z) ∧ Below w.heap.size w w' := by
  rw [← unhide hz]
  exact check_any xn xo xh xd t w

theorem sent_c (xn : Int) (xo xh : Bool) (xd t : Int) (w : World) (z : Int) (hz : Hid (sentZ ⟨xn, xo, xh, xd⟩ t = z)) :
    Calls Tryd.prog 23 #[.agg #[.int .i64 xn, .bool xo, .bool xh, .int .i64 xd], .int .i64 t] w fun e w' => e = .returned (.int .i64 z) ∧ Below w.heap.size w w' := by
  have hz' := unhide hz
  obtain ⟨c, hc⟩ : ∃ c, Hid (checkZ ⟨xn, xo, xh, xd⟩ t = c) := ⟨_, rfl⟩
  unfold sentZ at hz'
  rw [unhide hc] at hz'
  clear hz
  by_cases c0 : c = 0 <;> by_cases c1 : xn = 0 <;> simp [c0, c1] at hz' <;> subst hz' <;> (try subst c0) <;> (try subst c1)
  all_goals
    go_enter Tryd.func23, Tryd.ntmps23
    go_wp2_with (go_at_call 29; refine (bcheck_c _ _ _ _ _ _ _ hc).mono ?_; rintro e w' ⟨rfl, hb⟩; obtain ⟨x, rfl⟩ := over hb; clear hb; have f0 := x.up (b := w.heap.size) (by first | omega | (simp only [World.size_alloc]; omega)))
    go_ret
    refine ⟨rfl, ?_⟩
    repeat' first | with_reducible exact Below.refl _ _ | with_reducible refine Below.setCell ?_ ?_ _ | with_reducible refine Below.alloc ?_ ?_ _ | with_reducible refine Below.drew ?_ | with_reducible refine belowN ?_ _ | with_reducible refine Over.go _ ?_ ?_ | with_reducible exact Nat.le_refl _ | with_reducible refine Over.sz _ _ ?_ | with_reducible refine le_alloc ?_ | with_reducible refine le_setCell ?_ | with_reducible refine le_drewN ?_ | with_reducible refine le_drew ?_ | omega | (dsimp only; omega)

theorem drops_c (lk la lb lq ls lw : Int) (lr : Bool) (xn : Int) (xo xh : Bool) (xd : Int) (w : World) (q : Bool) (hq : Hid (decide (lk = 2) = q)) :
    Calls Tryd.prog 14 #[.agg #[.int .i64 lk, .int .i64 la, .int .i64 lb, .int .i64 lq, .int .i64 ls, .int .i64 lw, .bool lr, .int .i64 xn, .bool xo, .bool xh, .int .i64 xd]] w fun e w' => e = .returned (.bool q) ∧ Below w.heap.size w w' := by
  have hq' := unhide hq
  subst hq'
  clear hq
  go_enter Tryd.func14, Tryd.ntmps14
  go_wp2
  all_goals go_ret
  all_goals exact ⟨by by_cases c : lk = 2 <;> simp [c], by go_grown⟩

theorem tokens_c (a b q xn : Int) (xo xh : Bool) (xd : Int) (w : World) :
    Calls Tryd.prog 15 #[.int .i64 a, .int .i64 b, .int .i64 q, .agg #[.int .i64 xn, .bool xo, .bool xh, .int .i64 xd]] w fun e w' =>
      e = .returned (.agg #[.int .i64 1, .int .i64 a, .int .i64 b, .int .i64 q, .int .i64 0, .int .i64 0, .bool false, .int .i64 xn, .bool xo, .bool xh, .int .i64 xd]) ∧ Below w.heap.size w w' := by
  go_enter Tryd.func15, Tryd.ntmps15
  go_wp2
  go_returns
  exact ⟨rfl, by go_grown⟩

end Go.Proofs.YtipklaehhiffdaaDoor
