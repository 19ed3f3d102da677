/- The contracts of the document's own answers for layer 2 (jetonref02): each returns what the plain mathematics says; no old memory turns. -/
import Derived.Test.YtipamgncalcaiaaBundle
import Derived.Deep.RegionHeld3
namespace Go.Proofs.Ytipamgncalcaiaa
open Go.ChangeShapes Go.WideShapes Go.ChangeAt Go.RowKit
set_option linter.unusedSimpArgs false
set_option linter.unusedVariables false

attribute [local go_sem, local simp] setCell_drewN alloc_drewN

theorem refCheck_any (n : Int) (o h : Bool) (d t : Int) (w : World) :
    Calls Try.prog 22 #[.agg #[.int .i64 n, .bool o, .bool h, .int .i64 d], .int .i64 t] w fun e w' =>
      e = .returned (.int .i64 (checkZ ⟨n, o, h, d⟩ t)) ∧ w' = w.alloc (.cells #[.int .i64 n, .bool o, .bool h, .int .i64 d] 32) := by
  go_enter Try.func22, Try.ntmps22
  go_wp2
  all_goals go_ret
  all_goals refine ⟨ret_int ?_, ?_⟩
  all_goals first | (unfold checkZ; simp_all <;> omega) | simp_all

theorem refRight_any (n : Int) (o h : Bool) (d t : Int) (w : World) :
    Calls Try.prog 14 #[.agg #[.int .i64 n, .bool o, .bool h, .int .i64 d], .int .i64 t] w fun e w' =>
      e = .returned (.bool (checkZ ⟨n, o, h, d⟩ t == 0)) ∧ Below w.heap.size w w' := by
  go_enter Try.func14, Try.ntmps14
  go_wp2_with (go_at_call 22; refine (refCheck_any _ _ _ _ _ _).mono ?_; rintro e w' ⟨rfl, rfl⟩)
  go_ret
  exact ⟨rfl, by go_grown⟩

theorem ret_ib {a b : Int} {x y : Bool} (h : a = b) (h2 : x = y) : Ending.returned (.tuple #[.int .i64 a, .bool x]) = .returned (.tuple #[.int .i64 b, .bool y]) := by rw [h, h2]

end Go.Proofs.Ytipamgncalcaiaa
