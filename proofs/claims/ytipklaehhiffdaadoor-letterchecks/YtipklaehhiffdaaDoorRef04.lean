/- The contracts of the document's own answers for layer 4 (jetonref04): what each returns; no old memory turns. -/
import Derived.Test.YtipklaehhiffdaaDoorLetMath
import Derived.Test.YtipklaehhiffdaaDoorRef02
import Derived.Test.YtipklaehhiffdaaDoorOver
namespace Go.Proofs.YtipklaehhiffdaaDoor
open Go.ChangeShapes Go.WideShapes Go.ChangeAt Go.RowKit
set_option linter.unusedSimpArgs false
set_option linter.unusedVariables false

attribute [local go_sem, local simp] over_const setCell_drewN alloc_drewN Over.cell Over.frozen lt_s1 lt_s2 lt_s3 le_s0 le_s1 le_s2 le_s3 eq_s0 eq_s1 eq_s2 qe_s0

theorem refNode_c (n bl tt cs cy cc cu ct cp : Int) (x : Int) (w : World) (q : Bool) (hq : Hid (nodeB x n = q)) :
    Calls Tryd.prog 25 #[.agg #[.int .i64 n, .int .i64 bl, .int .i64 tt, .int .i64 cs, .int .i64 cy, .int .i64 cc, .int .i64 cu, .int .i64 ct, .int .i64 cp], .int .i64 x] w fun e w' => e = .returned (.bool q) ∧ Below w.heap.size w w' := by
  have hq' := unhide hq
  clear hq
  by_cases c : 0 ≤ x <;> by_cases c2 : x < n <;> simp [nodeB, c, c2] at hq' <;> subst hq'
  all_goals
    go_enter Tryd.func25, Tryd.ntmps25
    go_wp2
    go_ret
    exact ⟨rfl, by go_grown⟩

theorem refAny_c (n bl tt cs cy cc cu ct cp : Int) (p : Int) (w : World) (q : Bool) (hq : Hid (anyB p n = q)) :
    Calls Tryd.prog 17 #[.agg #[.int .i64 n, .int .i64 bl, .int .i64 tt, .int .i64 cs, .int .i64 cy, .int .i64 cc, .int .i64 cu, .int .i64 ct, .int .i64 cp], .int .i64 p] w fun e w' => e = .returned (.bool q) ∧ Below w.heap.size w w' := by
  have hq' := unhide hq
  clear hq
  obtain ⟨q1, h1⟩ : ∃ q, Hid (nodeB p n = q) := ⟨_, rfl⟩
  unfold anyB at hq'
  rw [unhide h1] at hq'
  by_cases c : p = n <;> simp [c] at hq' <;> subst hq' <;> (try subst c)
  all_goals
    go_enter Tryd.func17, Tryd.ntmps17
    go_wp2_with (go_at_call 25; refine (refNode_c _ _ _ _ _ _ _ _ _ _ _ _ h1).mono ?_; rintro e w' ⟨rfl, hb⟩; obtain ⟨x, rfl⟩ := over hb; clear hb; have f0 := x.up (b := w.heap.size) (by first | omega | (simp only [World.size_alloc]; omega)))
    go_ret
    refine ⟨by first | rfl | (simp [c]; done), ?_⟩
    repeat' first | with_reducible exact Below.refl _ _ | with_reducible refine Below.setCell ?_ ?_ _ | with_reducible refine Below.alloc ?_ ?_ _ | with_reducible refine Below.drew ?_ | with_reducible refine belowN ?_ _ | with_reducible refine Over.go _ ?_ ?_ | with_reducible exact Nat.le_refl _ | with_reducible refine Over.sz _ _ ?_ | with_reducible refine le_alloc ?_ | with_reducible refine le_setCell ?_ | with_reducible refine le_drewN ?_ | with_reducible refine le_drew ?_ | omega | (dsimp only; omega)

end Go.Proofs.YtipklaehhiffdaaDoor
