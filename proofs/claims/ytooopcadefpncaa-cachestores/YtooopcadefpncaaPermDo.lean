/- The contracts of package perm's calls (layer 3), and of the document's own answers for it (jetonref03): what each returns; no old memory turns. -/
import Derived.Test.YtooopcadefpncaaPerm
import Derived.Test.YtooopcadefpncaaOver
namespace Go.Proofs.Ytooopcadefpncaa
open Go.ChangeShapes Go.WideShapes Go.ChangeAt Go.RowKit
set_option linter.unusedSimpArgs false
set_option linter.unusedVariables false

attribute [local go_sem, local simp] over_const setCell_drewN alloc_drewN Over.cell Over.frozen lt_s1 lt_s2 lt_s3 le_s0 le_s1 le_s2 le_s3 eq_s0 eq_s1 eq_s2 qe_s0

set_option maxHeartbeats 1000000 in
theorem load_c (n : Int) (o h : Bool) (d t : Int) (w : World) (q : Bool) (hq : Hid (canB false n h t = q)) (x : Int) (hx : Hid ((if q = true then d else 0) = x)) :
    Calls Try.prog 62 #[.agg #[.int .i64 n, .bool o, .bool h, .int .i64 d]] w fun e w' =>
      e = .returned (.tuple #[.agg #[.int .i64 n, .bool o, .bool h, .int .i64 d], .int .i64 x, .bool q]) ∧ Below w.heap.size w w' := by
  cases q
  all_goals
    obtain rfl := unhide hx
    go_enter Try.func62, Try.ntmps62
    go_wp2_with (go_at_call 74; refine (reads_c _ _ _ _ t _ _ hq).mono ?_; rintro e w' ⟨rfl, hb⟩; obtain ⟨x, rfl⟩ := over hb; clear hb; have f0 := x.up (b := w.heap.size) (by simp only [World.size_alloc]; omega); have f1 := x.up (b := w.heap.size + 1) (by simp only [World.size_alloc]; omega); have c10 : x.w.cell? ⟨w.heap.size + 1, 0, none⟩ = some (.int .i64 0) := (x.cell _ _ (by simp only [World.size_alloc]; omega)).trans (by simp [go_sem]); have c11 : x.w.cell? ⟨w.heap.size + 1, 1, none⟩ = some (.bool false) := (x.cell _ _ (by simp only [World.size_alloc]; omega)).trans (by simp [go_sem]); have c12 : x.w.cell? ⟨w.heap.size + 1, 2, none⟩ = some (.bool false) := (x.cell _ _ (by simp only [World.size_alloc]; omega)).trans (by simp [go_sem]); have c13 : x.w.cell? ⟨w.heap.size + 1, 3, none⟩ = some (.int .i64 0) := (x.cell _ _ (by simp only [World.size_alloc]; omega)).trans (by simp [go_sem]))
    try go_region
    all_goals go_wp2
    all_goals go_returns
    all_goals refine ⟨rfl, ?_⟩
    all_goals repeat' first | with_reducible exact Below.refl _ _ | with_reducible refine Below.setCell ?_ ?_ _ | with_reducible refine Below.alloc ?_ ?_ _ | with_reducible refine Below.drew ?_ | with_reducible refine belowN ?_ _ | with_reducible refine Over.go _ ?_ ?_ | with_reducible exact Nat.le_refl _ | with_reducible refine Over.sz _ _ ?_ | with_reducible refine le_alloc ?_ | with_reducible refine le_setCell ?_ | with_reducible refine le_drewN ?_ | with_reducible refine le_drew ?_ | omega | (dsimp only; omega)

set_option maxHeartbeats 1000000 in
theorem store_c (v n : Int) (o h : Bool) (d t : Int) (w : World) (q : Bool) (hq : Hid (canB true n h t = q)) (d' x : Int) (hd : Hid ((if q = true then v else d) = d')) (hx : Hid ((if q = true then v else 0) = x)) :
    Calls Try.prog 61 #[.int .i64 v, .agg #[.int .i64 n, .bool o, .bool h, .int .i64 d], .int .i64 t] w fun e w' =>
      e = .returned (.tuple #[.agg #[.int .i64 n, .bool o, .bool h, .int .i64 d'], .int .i64 x, .bool q]) ∧ Below w.heap.size w w' := by
  cases q
  all_goals
    obtain rfl := unhide hx
    obtain rfl := unhide hd
    go_enter Try.func61, Try.ntmps61
    go_wp2_with (go_at_call 73; refine (writes_c _ _ _ _ _ _ _ hq).mono ?_; rintro e w' ⟨rfl, hb⟩; obtain ⟨x, rfl⟩ := over hb; clear hb; have f0 := x.up (b := w.heap.size) (by simp only [World.size_alloc]; omega); have f1 := x.up (b := w.heap.size + 1) (by simp only [World.size_alloc]; omega); have c10 : x.w.cell? ⟨w.heap.size + 1, 0, none⟩ = some (.int .i64 0) := (x.cell _ _ (by simp only [World.size_alloc]; omega)).trans (by simp [go_sem]); have c11 : x.w.cell? ⟨w.heap.size + 1, 1, none⟩ = some (.bool false) := (x.cell _ _ (by simp only [World.size_alloc]; omega)).trans (by simp [go_sem]); have c12 : x.w.cell? ⟨w.heap.size + 1, 2, none⟩ = some (.bool false) := (x.cell _ _ (by simp only [World.size_alloc]; omega)).trans (by simp [go_sem]); have c13 : x.w.cell? ⟨w.heap.size + 1, 3, none⟩ = some (.int .i64 0) := (x.cell _ _ (by simp only [World.size_alloc]; omega)).trans (by simp [go_sem]); have c03 : x.w.cell? ⟨w.heap.size, 3, none⟩ = some (.int .i64 d) := (x.cell _ _ (by simp only [World.size_alloc]; omega)).trans (by simp [go_sem]))
    refine bodyPost_ret (by simp [results, Try.results61, go_sem, *]; done) rfl ⟨rfl, ?_⟩
    repeat' first | with_reducible exact Below.refl _ _ | with_reducible refine Below.setCell ?_ ?_ _ | with_reducible refine Below.alloc ?_ ?_ _ | with_reducible refine Below.drew ?_ | with_reducible refine belowN ?_ _ | with_reducible refine Over.go _ ?_ ?_ | with_reducible exact Nat.le_refl _ | with_reducible refine Over.sz _ _ ?_ | with_reducible refine le_alloc ?_ | with_reducible refine le_setCell ?_ | with_reducible refine le_drewN ?_ | with_reducible refine le_drew ?_ | omega | (dsimp only; omega)

set_option maxHeartbeats 1000000 in
theorem do_c (b : Int) (wr : Bool) (v n : Int) (o h : Bool) (d t : Int) (w : World) (q : Bool) (hq : Hid (canB wr n h t = q)) (d' x : Int) (hd : Hid ((if (q && wr) = true then v else d) = d')) (hx : Hid ((if q = true then d' else 0) = x)) :
    Calls Try.prog 42 #[.agg #[.int .i64 b, .bool wr, .int .i64 v], .agg #[.int .i64 n, .bool o, .bool h, .int .i64 d], .int .i64 t] w fun e w' =>
      e = .returned (.tuple #[.agg #[.int .i64 n, .bool o, .bool h, .int .i64 d'], .int .i64 x, .bool q]) ∧ Below w.heap.size w w' := by
  cases wr
  · have hd' : d = d' := by have := unhide hd; simpa using this
    subst hd'
    go_enter Try.func42, Try.ntmps42
    go_wp2_with (go_at_call 62; refine (load_c _ _ _ _ t _ _ hq _ hx).mono ?_; rintro e w' ⟨rfl, hb⟩; obtain ⟨x, rfl⟩ := over hb; clear hb; have f1 := x.up (b := w.heap.size + 1 + 1) (by simp only [World.size_alloc]; omega); have c20 : x.w.cell? ⟨w.heap.size + 1 + 1, 0, none⟩ = some (.int .i64 0) := (x.cell _ _ (by simp only [World.size_alloc]; omega)).trans (by simp [go_sem]); have c21 : x.w.cell? ⟨w.heap.size + 1 + 1, 1, none⟩ = some (.bool false) := (x.cell _ _ (by simp only [World.size_alloc]; omega)).trans (by simp [go_sem]); have c22 : x.w.cell? ⟨w.heap.size + 1 + 1, 2, none⟩ = some (.bool false) := (x.cell _ _ (by simp only [World.size_alloc]; omega)).trans (by simp [go_sem]); have c23 : x.w.cell? ⟨w.heap.size + 1 + 1, 3, none⟩ = some (.int .i64 0) := (x.cell _ _ (by simp only [World.size_alloc]; omega)).trans (by simp [go_sem]))
    go_returns
    refine ⟨rfl, ?_⟩
    repeat' first | with_reducible exact Below.refl _ _ | with_reducible refine Below.setCell ?_ ?_ _ | with_reducible refine Below.alloc ?_ ?_ _ | with_reducible refine Below.drew ?_ | with_reducible refine belowN ?_ _ | with_reducible refine Over.go _ ?_ ?_ | with_reducible exact Nat.le_refl _ | with_reducible refine Over.sz _ _ ?_ | with_reducible refine le_alloc ?_ | with_reducible refine le_setCell ?_ | with_reducible refine le_drewN ?_ | with_reducible refine le_drew ?_ | omega | (dsimp only; omega)
  · have hd' : Hid ((if q = true then v else d) = d') := by have := unhide hd; unfold Hid; simpa using this
    have hx' : Hid ((if q = true then v else 0) = x) := by have h1 := unhide hx; have h2 := unhide hd'; unfold Hid; cases q <;> simp_all
    clear hd hx
    go_enter Try.func42, Try.ntmps42
    go_wp2_with (go_at_call 61; refine (store_c _ _ _ _ _ _ _ _ hq _ _ hd' hx').mono ?_; rintro e w' ⟨rfl, hb⟩; obtain ⟨x, rfl⟩ := over hb; clear hb; have f1 := x.up (b := w.heap.size + 1 + 1) (by simp only [World.size_alloc]; omega); have c20 : x.w.cell? ⟨w.heap.size + 1 + 1, 0, none⟩ = some (.int .i64 0) := (x.cell _ _ (by simp only [World.size_alloc]; omega)).trans (by simp [go_sem]); have c21 : x.w.cell? ⟨w.heap.size + 1 + 1, 1, none⟩ = some (.bool false) := (x.cell _ _ (by simp only [World.size_alloc]; omega)).trans (by simp [go_sem]); have c22 : x.w.cell? ⟨w.heap.size + 1 + 1, 2, none⟩ = some (.bool false) := (x.cell _ _ (by simp only [World.size_alloc]; omega)).trans (by simp [go_sem]); have c23 : x.w.cell? ⟨w.heap.size + 1 + 1, 3, none⟩ = some (.int .i64 0) := (x.cell _ _ (by simp only [World.size_alloc]; omega)).trans (by simp [go_sem]))
    go_returns
    refine ⟨rfl, ?_⟩
    repeat' first | with_reducible exact Below.refl _ _ | with_reducible refine Below.setCell ?_ ?_ _ | with_reducible refine Below.alloc ?_ ?_ _ | with_reducible refine Below.drew ?_ | with_reducible refine belowN ?_ _ | with_reducible refine Over.go _ ?_ ?_ | with_reducible exact Nat.le_refl _ | with_reducible refine Over.sz _ _ ?_ | with_reducible refine le_alloc ?_ | with_reducible refine le_setCell ?_ | with_reducible refine le_drewN ?_ | with_reducible refine le_drew ?_ | omega | (dsimp only; omega)

set_option maxHeartbeats 1000000 in
theorem refDo_c (b : Int) (wr : Bool) (v n : Int) (o h : Bool) (d t : Int) (w : World) (q : Bool) (hq : Hid (canB wr n h t = q)) (d' x : Int) (hd : Hid ((if (q && wr) = true then v else d) = d')) (hx : Hid ((if q = true then d' else 0) = x)) :
    Calls Try.prog 43 #[.agg #[.int .i64 b, .bool wr, .int .i64 v], .agg #[.int .i64 n, .bool o, .bool h, .int .i64 d], .int .i64 t] w fun e w' =>
      e = .returned (.tuple #[.agg #[.int .i64 n, .bool o, .bool h, .int .i64 d'], .int .i64 x, .bool q]) ∧ Below w.heap.size w w' := by
  cases q <;> cases wr
  all_goals
    obtain rfl := unhide hx
    obtain rfl := unhide hd
    go_enter Try.func43, Try.ntmps43
    go_wp2_with (go_at_call 63; refine (refMay_c _ _ _ _ _ _ _ _ hq).mono ?_; rintro e w' ⟨rfl, hb⟩; obtain ⟨x, rfl⟩ := over hb; clear hb; have f0 := x.up (b := w.heap.size) (by simp only [World.size_alloc]; omega); have f1 := x.up (b := w.heap.size + 1) (by simp only [World.size_alloc]; omega); have f2 := x.up (b := w.heap.size + 1 + 1) (by simp only [World.size_alloc]; omega); have c20 : x.w.cell? ⟨w.heap.size + 1 + 1, 0, none⟩ = some (.int .i64 0) := (x.cell _ _ (by simp only [World.size_alloc]; omega)).trans (by simp [go_sem]); have c21 : x.w.cell? ⟨w.heap.size + 1 + 1, 1, none⟩ = some (.bool false) := (x.cell _ _ (by simp only [World.size_alloc]; omega)).trans (by simp [go_sem]); have c22 : x.w.cell? ⟨w.heap.size + 1 + 1, 2, none⟩ = some (.bool false) := (x.cell _ _ (by simp only [World.size_alloc]; omega)).trans (by simp [go_sem]); have c23 : x.w.cell? ⟨w.heap.size + 1 + 1, 3, none⟩ = some (.int .i64 0) := (x.cell _ _ (by simp only [World.size_alloc]; omega)).trans (by simp [go_sem]); have c13 : x.w.cell? ⟨w.heap.size + 1, 3, none⟩ = some (.int .i64 d) := (x.cell _ _ (by simp only [World.size_alloc]; omega)).trans (by simp [go_sem]))
    try go_region
    all_goals go_wp2
    all_goals refine bodyPost_ret (by simp [results, Try.results43, go_sem, *]; done) rfl ⟨rfl, ?_⟩
    all_goals repeat' first | with_reducible exact Below.refl _ _ | with_reducible refine Below.setCell ?_ ?_ _ | with_reducible refine Below.alloc ?_ ?_ _ | with_reducible refine Below.drew ?_ | with_reducible refine belowN ?_ _ | with_reducible refine Over.go _ ?_ ?_ | with_reducible exact Nat.le_refl _ | with_reducible refine Over.sz _ _ ?_ | with_reducible refine le_alloc ?_ | with_reducible refine le_setCell ?_ | with_reducible refine le_drewN ?_ | with_reducible refine le_drew ?_ | omega | (dsimp only; omega)
end Go.Proofs.Ytooopcadefpncaa
