/- The contract of the document's own answer on a letter's ends (jetonref04.ends). -/
import Derived.Test.YtipklaehhiffdaaDoorRef04
namespace Go.Proofs.YtipklaehhiffdaaDoor
open Go.ChangeShapes Go.WideShapes Go.ChangeAt Go.RowKit
set_option linter.unusedSimpArgs false
set_option linter.unusedVariables false

attribute [local go_sem, local simp] over_const setCell_drewN alloc_drewN Over.cell Over.frozen lt_s1 lt_s2 lt_s3 le_s0 le_s1 le_s2 le_s3 eq_s0 eq_s1 eq_s2 qe_s0

theorem one_tt (x n : Int) : oneB true true x n = anyB x n := by unfold oneB anyB; cases nodeB x n <;> simp
theorem one_tf (x n : Int) : oneB true false x n = nodeB x n := by unfold oneB; cases nodeB x n <;> simp
theorem one_ft (x n : Int) : oneB false true x n = decide (x = n) := by
  unfold oneB
  cases h : nodeB x n
  · simp
  · have := nodeB_true.1 h; simp; omega

theorem not_eq_b {a b : Int} (h : ¬ a = b) : (a == b) = false := by simpa using h

set_option maxHeartbeats 1000000 in
theorem refEnds1 (n bl tt cs cy cc cu ct cp : Int) (la lb lq ls lw : Int) (lr : Bool) (xn : Int) (xo xh : Bool) (xd : Int) (w : World) (q : Bool) (hq : Hid (wayB (rowL 1) la lb n = q)) :
    Calls Tryd.prog 24 #[.agg #[.int .i64 n, .int .i64 bl, .int .i64 tt, .int .i64 cs, .int .i64 cy, .int .i64 cc, .int .i64 cu, .int .i64 ct, .int .i64 cp], .agg #[.int .i64 1, .int .i64 la, .int .i64 lb, .int .i64 lq, .int .i64 ls, .int .i64 lw, .bool lr, .int .i64 xn, .bool xo, .bool xh, .int .i64 xd]] w fun e w' => e = .returned (.bool q) ∧ Below w.heap.size w w' := by
  have hq' := unhide hq
  clear hq
  have e1 : wayB (rowL 1) la lb n = (anyB la n && anyB lb n && !decide (la = lb)) := by
    rw [← one_tt la n, ← one_tt lb n]; rfl
  rw [e1] at hq'
  clear e1
  obtain ⟨qa, ha⟩ : ∃ q, Hid ((anyB la n) = q) := ⟨_, rfl⟩
  obtain ⟨qb, hb'⟩ : ∃ q, Hid ((anyB lb n) = q) := ⟨_, rfl⟩
  rw [unhide ha, unhide hb'] at hq'
  cases qa <;> cases qb <;> by_cases c : la = lb <;> simp [c] at hq' <;> subst hq'
  all_goals
    try subst c
    go_enter Tryd.func24, Tryd.ntmps24
    go_wp2_with (first | (go_at_call 17; with_reducible refine (refAny_c _ _ _ _ _ _ _ _ _ _ _ _ ha).mono ?_; rintro e w' ⟨rfl, hb⟩; obtain ⟨x, rfl⟩ := over hb; clear hb; have fx := x.up (b := w.heap.size) (by first | omega | (simp only [World.size_alloc]; omega)); have gx := x.up (b := w.heap.size + 1) (by first | omega | (simp only [World.size_alloc]; omega))) | (go_at_call 17; with_reducible refine (refAny_c _ _ _ _ _ _ _ _ _ _ _ _ hb').mono ?_; rintro e w' ⟨rfl, hb⟩; obtain ⟨y, rfl⟩ := over hb; clear hb; have fy := y.up (b := w.heap.size) (by first | omega | (simp only [World.size_alloc]; omega)); have gy := y.up (b := w.heap.size + 1) (by first | omega | (simp only [World.size_alloc]; omega))))
    go_ret
    refine ⟨by first | rfl | (simp [*]; done), ?_⟩
    repeat' first | with_reducible exact Below.refl _ _ | with_reducible refine Below.setCell ?_ ?_ _ | with_reducible refine Below.alloc ?_ ?_ _ | with_reducible refine Below.drew ?_ | with_reducible refine belowN ?_ _ | with_reducible refine Over.go _ ?_ ?_ | with_reducible exact Nat.le_refl _ | with_reducible refine Over.sz _ _ ?_ | with_reducible refine le_alloc ?_ | with_reducible refine le_setCell ?_ | with_reducible refine le_drewN ?_ | with_reducible refine le_drew ?_ | omega | (dsimp only; omega)

set_option maxHeartbeats 1000000 in
theorem refEnds2 (n bl tt cs cy cc cu ct cp : Int) (la lb lq ls lw : Int) (lr : Bool) (xn : Int) (xo xh : Bool) (xd : Int) (w : World) (q : Bool) (hq : Hid (wayB (rowL 2) la lb n = q)) :
    Calls Tryd.prog 24 #[.agg #[.int .i64 n, .int .i64 bl, .int .i64 tt, .int .i64 cs, .int .i64 cy, .int .i64 cc, .int .i64 cu, .int .i64 ct, .int .i64 cp], .agg #[.int .i64 2, .int .i64 la, .int .i64 lb, .int .i64 lq, .int .i64 ls, .int .i64 lw, .bool lr, .int .i64 xn, .bool xo, .bool xh, .int .i64 xd]] w fun e w' => e = .returned (.bool q) ∧ Below w.heap.size w w' := by
  have hq' := unhide hq
  clear hq
  have e1 : wayB (rowL 2) la lb n = (nodeB la n && anyB lb n && !decide (la = lb)) := by
    rw [← one_tf la n, ← one_tt lb n]; rfl
  rw [e1] at hq'
  clear e1
  obtain ⟨qa, ha⟩ : ∃ q, Hid ((nodeB la n) = q) := ⟨_, rfl⟩
  obtain ⟨qb, hb'⟩ : ∃ q, Hid ((anyB lb n) = q) := ⟨_, rfl⟩
  rw [unhide ha, unhide hb'] at hq'
  cases qa <;> cases qb <;> by_cases c : la = lb <;> simp [c] at hq' <;> subst hq'
  all_goals
    try subst c
    go_enter Tryd.func24, Tryd.ntmps24
    go_wp2_with (first | (go_at_call 25; with_reducible refine (refNode_c _ _ _ _ _ _ _ _ _ _ _ _ ha).mono ?_; rintro e w' ⟨rfl, hb⟩; obtain ⟨x, rfl⟩ := over hb; clear hb; have fx := x.up (b := w.heap.size) (by first | omega | (simp only [World.size_alloc]; omega)); have gx := x.up (b := w.heap.size + 1) (by first | omega | (simp only [World.size_alloc]; omega))) | (go_at_call 17; with_reducible refine (refAny_c _ _ _ _ _ _ _ _ _ _ _ _ hb').mono ?_; rintro e w' ⟨rfl, hb⟩; obtain ⟨y, rfl⟩ := over hb; clear hb; have fy := y.up (b := w.heap.size) (by first | omega | (simp only [World.size_alloc]; omega)); have gy := y.up (b := w.heap.size + 1) (by first | omega | (simp only [World.size_alloc]; omega))))
    go_ret
    refine ⟨by first | rfl | (simp [*]; done), ?_⟩
    repeat' first | with_reducible exact Below.refl _ _ | with_reducible refine Below.setCell ?_ ?_ _ | with_reducible refine Below.alloc ?_ ?_ _ | with_reducible refine Below.drew ?_ | with_reducible refine belowN ?_ _ | with_reducible refine Over.go _ ?_ ?_ | with_reducible exact Nat.le_refl _ | with_reducible refine Over.sz _ _ ?_ | with_reducible refine le_alloc ?_ | with_reducible refine le_setCell ?_ | with_reducible refine le_drewN ?_ | with_reducible refine le_drew ?_ | omega | (dsimp only; omega)

set_option maxHeartbeats 1000000 in
theorem refEnds3 (n bl tt cs cy cc cu ct cp : Int) (la lb lq ls lw : Int) (lr : Bool) (xn : Int) (xo xh : Bool) (xd : Int) (w : World) (q : Bool) (hq : Hid (wayB (rowL 3) la lb n = q)) :
    Calls Tryd.prog 24 #[.agg #[.int .i64 n, .int .i64 bl, .int .i64 tt, .int .i64 cs, .int .i64 cy, .int .i64 cc, .int .i64 cu, .int .i64 ct, .int .i64 cp], .agg #[.int .i64 3, .int .i64 la, .int .i64 lb, .int .i64 lq, .int .i64 ls, .int .i64 lw, .bool lr, .int .i64 xn, .bool xo, .bool xh, .int .i64 xd]] w fun e w' => e = .returned (.bool q) ∧ Below w.heap.size w w' := by
  have hq' := unhide hq
  clear hq
  have e1 : wayB (rowL 3) la lb n = (nodeB la n && decide (lb = n) && !decide (la = lb)) := by
    rw [← one_tf la n, ← one_ft lb n]; rfl
  rw [e1] at hq'
  clear e1
  obtain ⟨qa, ha⟩ : ∃ q, Hid ((nodeB la n) = q) := ⟨_, rfl⟩
  obtain ⟨qb, hb'⟩ : ∃ q, Hid ((decide (lb = n)) = q) := ⟨_, rfl⟩
  rw [unhide ha, unhide hb'] at hq'
  cases qa <;> cases qb <;> by_cases c : la = lb <;> simp [c] at hq' <;> subst hq'
  all_goals
    try subst c
    have ilb := unhide hb'
    simp only [decide_eq_true_eq, decide_eq_false_iff_not] at ilb
    try have jlb := not_eq_b ilb
    go_enter Tryd.func24, Tryd.ntmps24
    go_wp2_with (first | (go_at_call 25; with_reducible refine (refNode_c _ _ _ _ _ _ _ _ _ _ _ _ ha).mono ?_; rintro e w' ⟨rfl, hb⟩; obtain ⟨x, rfl⟩ := over hb; clear hb; have fx := x.up (b := w.heap.size) (by first | omega | (simp only [World.size_alloc]; omega)); have gx := x.up (b := w.heap.size + 1) (by first | omega | (simp only [World.size_alloc]; omega))))
    go_ret
    refine ⟨by first | rfl | (simp [*]; done), ?_⟩
    repeat' first | with_reducible exact Below.refl _ _ | with_reducible refine Below.setCell ?_ ?_ _ | with_reducible refine Below.alloc ?_ ?_ _ | with_reducible refine Below.drew ?_ | with_reducible refine belowN ?_ _ | with_reducible refine Over.go _ ?_ ?_ | with_reducible exact Nat.le_refl _ | with_reducible refine Over.sz _ _ ?_ | with_reducible refine le_alloc ?_ | with_reducible refine le_setCell ?_ | with_reducible refine le_drewN ?_ | with_reducible refine le_drew ?_ | omega | (dsimp only; omega)

set_option maxHeartbeats 1000000 in
theorem refEnds4 (n bl tt cs cy cc cu ct cp : Int) (la lb lq ls lw : Int) (lr : Bool) (xn : Int) (xo xh : Bool) (xd : Int) (w : World) (q : Bool) (hq : Hid (wayB (rowL 4) la lb n = q)) :
    Calls Tryd.prog 24 #[.agg #[.int .i64 n, .int .i64 bl, .int .i64 tt, .int .i64 cs, .int .i64 cy, .int .i64 cc, .int .i64 cu, .int .i64 ct, .int .i64 cp], .agg #[.int .i64 4, .int .i64 la, .int .i64 lb, .int .i64 lq, .int .i64 ls, .int .i64 lw, .bool lr, .int .i64 xn, .bool xo, .bool xh, .int .i64 xd]] w fun e w' => e = .returned (.bool q) ∧ Below w.heap.size w w' := by
  have hq' := unhide hq
  clear hq
  have e1 : wayB (rowL 4) la lb n = (decide (la = n) && nodeB lb n && !decide (la = lb)) := by
    rw [← one_ft la n, ← one_tf lb n]; rfl
  rw [e1] at hq'
  clear e1
  obtain ⟨qa, ha⟩ : ∃ q, Hid ((decide (la = n)) = q) := ⟨_, rfl⟩
  obtain ⟨qb, hb'⟩ : ∃ q, Hid ((nodeB lb n) = q) := ⟨_, rfl⟩
  rw [unhide ha, unhide hb'] at hq'
  cases qa <;> cases qb <;> by_cases c : la = lb <;> simp [c] at hq' <;> subst hq'
  all_goals
    try subst c
    have ila := unhide ha
    simp only [decide_eq_true_eq, decide_eq_false_iff_not] at ila
    try have jla := not_eq_b ila
    go_enter Tryd.func24, Tryd.ntmps24
    go_wp2_with (first | (go_at_call 25; with_reducible refine (refNode_c _ _ _ _ _ _ _ _ _ _ _ _ hb').mono ?_; rintro e w' ⟨rfl, hb⟩; obtain ⟨y, rfl⟩ := over hb; clear hb; have fy := y.up (b := w.heap.size) (by first | omega | (simp only [World.size_alloc]; omega)); have gy := y.up (b := w.heap.size + 1) (by first | omega | (simp only [World.size_alloc]; omega))))
    go_ret
    refine ⟨by first | rfl | (simp [*]; done), ?_⟩
    repeat' first | with_reducible exact Below.refl _ _ | with_reducible refine Below.setCell ?_ ?_ _ | with_reducible refine Below.alloc ?_ ?_ _ | with_reducible refine Below.drew ?_ | with_reducible refine belowN ?_ _ | with_reducible refine Over.go _ ?_ ?_ | with_reducible exact Nat.le_refl _ | with_reducible refine Over.sz _ _ ?_ | with_reducible refine le_alloc ?_ | with_reducible refine le_setCell ?_ | with_reducible refine le_drewN ?_ | with_reducible refine le_drew ?_ | omega | (dsimp only; omega)

set_option maxHeartbeats 1000000 in
theorem refEnds5 (n bl tt cs cy cc cu ct cp : Int) (la lb lq ls lw : Int) (lr : Bool) (xn : Int) (xo xh : Bool) (xd : Int) (w : World) (q : Bool) (hq : Hid (wayB (rowL 5) la lb n = q)) :
    Calls Tryd.prog 24 #[.agg #[.int .i64 n, .int .i64 bl, .int .i64 tt, .int .i64 cs, .int .i64 cy, .int .i64 cc, .int .i64 cu, .int .i64 ct, .int .i64 cp], .agg #[.int .i64 5, .int .i64 la, .int .i64 lb, .int .i64 lq, .int .i64 ls, .int .i64 lw, .bool lr, .int .i64 xn, .bool xo, .bool xh, .int .i64 xd]] w fun e w' => e = .returned (.bool q) ∧ Below w.heap.size w w' := by
  have hq' := unhide hq
  clear hq
  have e1 : wayB (rowL 5) la lb n = (nodeB la n && decide (lb = n) && !decide (la = lb)) := by
    rw [← one_tf la n, ← one_ft lb n]; rfl
  rw [e1] at hq'
  clear e1
  obtain ⟨qa, ha⟩ : ∃ q, Hid ((nodeB la n) = q) := ⟨_, rfl⟩
  obtain ⟨qb, hb'⟩ : ∃ q, Hid ((decide (lb = n)) = q) := ⟨_, rfl⟩
  rw [unhide ha, unhide hb'] at hq'
  cases qa <;> cases qb <;> by_cases c : la = lb <;> simp [c] at hq' <;> subst hq'
  all_goals
    try subst c
    have ilb := unhide hb'
    simp only [decide_eq_true_eq, decide_eq_false_iff_not] at ilb
    try have jlb := not_eq_b ilb
    go_enter Tryd.func24, Tryd.ntmps24
    go_wp2_with (first | (go_at_call 25; with_reducible refine (refNode_c _ _ _ _ _ _ _ _ _ _ _ _ ha).mono ?_; rintro e w' ⟨rfl, hb⟩; obtain ⟨x, rfl⟩ := over hb; clear hb; have fx := x.up (b := w.heap.size) (by first | omega | (simp only [World.size_alloc]; omega)); have gx := x.up (b := w.heap.size + 1) (by first | omega | (simp only [World.size_alloc]; omega))))
    go_ret
    refine ⟨by first | rfl | (simp [*]; done), ?_⟩
    repeat' first | with_reducible exact Below.refl _ _ | with_reducible refine Below.setCell ?_ ?_ _ | with_reducible refine Below.alloc ?_ ?_ _ | with_reducible refine Below.drew ?_ | with_reducible refine belowN ?_ _ | with_reducible refine Over.go _ ?_ ?_ | with_reducible exact Nat.le_refl _ | with_reducible refine Over.sz _ _ ?_ | with_reducible refine le_alloc ?_ | with_reducible refine le_setCell ?_ | with_reducible refine le_drewN ?_ | with_reducible refine le_drew ?_ | omega | (dsimp only; omega)

set_option maxHeartbeats 1000000 in
theorem refEnds6 (n bl tt cs cy cc cu ct cp : Int) (la lb lq ls lw : Int) (lr : Bool) (xn : Int) (xo xh : Bool) (xd : Int) (w : World) (q : Bool) (hq : Hid (wayB (rowL 6) la lb n = q)) :
    Calls Tryd.prog 24 #[.agg #[.int .i64 n, .int .i64 bl, .int .i64 tt, .int .i64 cs, .int .i64 cy, .int .i64 cc, .int .i64 cu, .int .i64 ct, .int .i64 cp], .agg #[.int .i64 6, .int .i64 la, .int .i64 lb, .int .i64 lq, .int .i64 ls, .int .i64 lw, .bool lr, .int .i64 xn, .bool xo, .bool xh, .int .i64 xd]] w fun e w' => e = .returned (.bool q) ∧ Below w.heap.size w w' := by
  have hq' := unhide hq
  clear hq
  have e1 : wayB (rowL 6) la lb n = (decide (la = n) && nodeB lb n && !decide (la = lb)) := by
    rw [← one_ft la n, ← one_tf lb n]; rfl
  rw [e1] at hq'
  clear e1
  obtain ⟨qa, ha⟩ : ∃ q, Hid ((decide (la = n)) = q) := ⟨_, rfl⟩
  obtain ⟨qb, hb'⟩ : ∃ q, Hid ((nodeB lb n) = q) := ⟨_, rfl⟩
  rw [unhide ha, unhide hb'] at hq'
  cases qa <;> cases qb <;> by_cases c : la = lb <;> simp [c] at hq' <;> subst hq'
  all_goals
    try subst c
    have ila := unhide ha
    simp only [decide_eq_true_eq, decide_eq_false_iff_not] at ila
    try have jla := not_eq_b ila
    go_enter Tryd.func24, Tryd.ntmps24
    go_wp2_with (first | (go_at_call 25; with_reducible refine (refNode_c _ _ _ _ _ _ _ _ _ _ _ _ hb').mono ?_; rintro e w' ⟨rfl, hb⟩; obtain ⟨y, rfl⟩ := over hb; clear hb; have fy := y.up (b := w.heap.size) (by first | omega | (simp only [World.size_alloc]; omega)); have gy := y.up (b := w.heap.size + 1) (by first | omega | (simp only [World.size_alloc]; omega))))
    go_ret
    refine ⟨by first | rfl | (simp [*]; done), ?_⟩
    repeat' first | with_reducible exact Below.refl _ _ | with_reducible refine Below.setCell ?_ ?_ _ | with_reducible refine Below.alloc ?_ ?_ _ | with_reducible refine Below.drew ?_ | with_reducible refine belowN ?_ _ | with_reducible refine Over.go _ ?_ ?_ | with_reducible exact Nat.le_refl _ | with_reducible refine Over.sz _ _ ?_ | with_reducible refine le_alloc ?_ | with_reducible refine le_setCell ?_ | with_reducible refine le_drewN ?_ | with_reducible refine le_drew ?_ | omega | (dsimp only; omega)

set_option maxHeartbeats 1000000 in
theorem refEnds7 (n bl tt cs cy cc cu ct cp : Int) (la lb lq ls lw : Int) (lr : Bool) (xn : Int) (xo xh : Bool) (xd : Int) (w : World) (q : Bool) (hq : Hid (wayB (rowL 7) la lb n = q)) :
    Calls Tryd.prog 24 #[.agg #[.int .i64 n, .int .i64 bl, .int .i64 tt, .int .i64 cs, .int .i64 cy, .int .i64 cc, .int .i64 cu, .int .i64 ct, .int .i64 cp], .agg #[.int .i64 7, .int .i64 la, .int .i64 lb, .int .i64 lq, .int .i64 ls, .int .i64 lw, .bool lr, .int .i64 xn, .bool xo, .bool xh, .int .i64 xd]] w fun e w' => e = .returned (.bool q) ∧ Below w.heap.size w w' := by
  have hq' := unhide hq
  clear hq
  have e1 : wayB (rowL 7) la lb n = (nodeB la n && decide (lb = n) && !decide (la = lb)) := by
    rw [← one_tf la n, ← one_ft lb n]; rfl
  rw [e1] at hq'
  clear e1
  obtain ⟨qa, ha⟩ : ∃ q, Hid ((nodeB la n) = q) := ⟨_, rfl⟩
  obtain ⟨qb, hb'⟩ : ∃ q, Hid ((decide (lb = n)) = q) := ⟨_, rfl⟩
  rw [unhide ha, unhide hb'] at hq'
  cases qa <;> cases qb <;> by_cases c : la = lb <;> simp [c] at hq' <;> subst hq'
  all_goals
    try subst c
    have ilb := unhide hb'
    simp only [decide_eq_true_eq, decide_eq_false_iff_not] at ilb
    try have jlb := not_eq_b ilb
    go_enter Tryd.func24, Tryd.ntmps24
    go_wp2_with (first | (go_at_call 25; with_reducible refine (refNode_c _ _ _ _ _ _ _ _ _ _ _ _ ha).mono ?_; rintro e w' ⟨rfl, hb⟩; obtain ⟨x, rfl⟩ := over hb; clear hb; have fx := x.up (b := w.heap.size) (by first | omega | (simp only [World.size_alloc]; omega)); have gx := x.up (b := w.heap.size + 1) (by first | omega | (simp only [World.size_alloc]; omega))))
    go_ret
    refine ⟨by first | rfl | (simp [*]; done), ?_⟩
    repeat' first | with_reducible exact Below.refl _ _ | with_reducible refine Below.setCell ?_ ?_ _ | with_reducible refine Below.alloc ?_ ?_ _ | with_reducible refine Below.drew ?_ | with_reducible refine belowN ?_ _ | with_reducible refine Over.go _ ?_ ?_ | with_reducible exact Nat.le_refl _ | with_reducible refine Over.sz _ _ ?_ | with_reducible refine le_alloc ?_ | with_reducible refine le_setCell ?_ | with_reducible refine le_drewN ?_ | with_reducible refine le_drew ?_ | omega | (dsimp only; omega)

end Go.Proofs.YtipklaehhiffdaaDoor
