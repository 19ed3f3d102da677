/- The contracts of the document's own answers for layer 2 (jetonref02): each returns what the plain mathematics says; no old memory turns. -/
import Derived.Test.YtafccninjjhibaaBundle
import Derived.Deep.RegionHeld3
namespace Go.Proofs.Ytafccninjjhibaa
open Go.ChangeShapes Go.WideShapes Go.ChangeAt Go.RowKit
set_option linter.unusedSimpArgs false
set_option linter.unusedVariables false

attribute [local go_sem, local simp] setCell_drewN alloc_drewN

theorem refCheck_any (n : Int) (o h : Bool) (d t : Int) (w : World) :
    Calls Try.prog 30 #[.agg #[.int .i64 n, .bool o, .bool h, .int .i64 d], .int .i64 t] w fun e w' =>
      e = .returned (.int .i64 (checkZ ⟨n, o, h, d⟩ t)) ∧ w' = w.alloc (.cells #[.int .i64 n, .bool o, .bool h, .int .i64 d] 31) := by
  go_enter Try.func30, Try.ntmps30
  go_wp2
  all_goals go_ret
  all_goals refine ⟨ret_int ?_, ?_⟩
  all_goals first | (unfold checkZ; simp_all <;> omega) | simp_all

theorem refRight_any (n : Int) (o h : Bool) (d t : Int) (w : World) :
    Calls Try.prog 21 #[.agg #[.int .i64 n, .bool o, .bool h, .int .i64 d], .int .i64 t] w fun e w' =>
      e = .returned (.bool (checkZ ⟨n, o, h, d⟩ t == 0)) ∧ Below w.heap.size w w' := by
  go_enter Try.func21, Try.ntmps21
  go_wp2_with (go_at_call 30; refine (refCheck_any _ _ _ _ _ _).mono ?_; rintro e w' ⟨rfl, rfl⟩)
  go_ret
  exact ⟨rfl, by go_grown⟩

theorem ret_ib {a b : Int} {x y : Bool} (h : a = b) (h2 : x = y) : Ending.returned (.tuple #[.int .i64 a, .bool x]) = .returned (.tuple #[.int .i64 b, .bool y]) := by rw [h, h2]

theorem refGiven_any (n : Int) (o h : Bool) (d c : Int) (a : Bool) (w : World) (h0 : 0 ≤ n) (h1 : n ≤ 9223372036854775807) (hz : n = 0 → o = false)
    (g : Int) (hg : Hid (howManyZ ⟨n, o, h, d⟩ c a = g)) (own : Bool) (ho : Hid ((o && a && decide (g ≠ 0)) = own)) :
    Calls Try.prog 29 #[.agg #[.int .i64 n, .bool o, .bool h, .int .i64 d], .int .i64 c, .bool a] w fun e w' =>
      e = .returned (.tuple #[.int .i64 g, .bool own]) ∧ w' = w.alloc (.cells #[.int .i64 n, .bool o, .bool h, .int .i64 d] 31) := by
  cases o <;> cases a
  all_goals
    try (have hp : 0 < n := by have : n ≠ 0 := fun e => by have := hz e; contradiction
                               omega)
    clear hz
    go_enter Try.func29, Try.ntmps29
    go_wp2
    all_goals go_ret2
    all_goals refine ⟨ret_ib ?_ ?_, rfl⟩
    all_goals have hg' := unhide hg
    all_goals have ho' := unhide ho
    all_goals clear hg ho
    all_goals simp [howManyZ, clampZ] at hg' ho' ⊢
    all_goals (repeat' split at hg') <;> simp_all <;> first | omega | (cases own <;> simp at ho' ⊢ <;> omega)

end Go.Proofs.Ytafccninjjhibaa
