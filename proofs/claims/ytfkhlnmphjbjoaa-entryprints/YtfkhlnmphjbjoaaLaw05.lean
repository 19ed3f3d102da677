/- Layer 5: the document's fixed answers (awake). -/
import Derived.Test.YtfkhlnmphjbjoaaEntry
namespace Go.Proofs.Ytfkhlnmphjbjoaa
open Go.ChangeShapes Go.WideShapes Go.ChangeAt Go.RowKit
set_option linter.unusedSimpArgs false
set_option linter.unusedVariables false

attribute [local go_sem, local simp] over_const setCell_drewN alloc_drewN Over.cell Over.frozen lt_s1 lt_s2 lt_s3 le_s0 le_s1 le_s2 le_s3 eq_s0 eq_s1 eq_s2 qe_s0

set_option maxHeartbeats 2000000 in
theorem awake5_any (w : World) : Calls Try.prog 8 #[] w fun e w' => e = .returned (.bool true) ∧ Below w.heap.size w w' := by
  have E1 := hide (show legalB 1 0 1 1 2 2 = true by rfl)
  have E2 := hide (show legalB 1 0 1 2 2 2 = false by rfl)
  have E3 := hide (show legalB 4 (-1) 0 0 2 2 = true by rfl)
  have E4 := hide (show legalB 0 0 0 0 2 2 = false by rfl)
  go_enter Try.func8, Try.ntmps8
  go_wp2_with fail
  refine wp_region_over (by kernel_rfl) (by kernel_rfl) ?_
  repeat (go_big_quiet_step (first | (go_at_call 9; first | with_reducible exact Over.quiet (legal_c _ _ _ _ _ _ _ _ _ _ _ _ _ _ _ _ E1) | with_reducible exact Over.quiet (legal_c _ _ _ _ _ _ _ _ _ _ _ _ _ _ _ _ E2) | with_reducible exact Over.quiet (legal_c _ _ _ _ _ _ _ _ _ _ _ _ _ _ _ _ E3) | with_reducible exact Over.quiet (legal_c _ _ _ _ _ _ _ _ _ _ _ _ _ _ _ _ E4)) | (go_at_call 11; exact Over.quiet (op_c _ _ _ _ _ _ true 7 rfl rfl)) | (go_at_call 13; exact Over.quiet (make_c _ _ _ _ _ 1 7 rfl rfl))))
  refine wpQuiet_nil ?_
  intro _ hw'
  obtain ⟨u, rfl⟩ := hw'
  go_wp2
  go_ret
  refine ⟨rfl, ?_⟩
  repeat' first | with_reducible exact Below.refl _ _ | with_reducible refine Below.setCell ?_ ?_ _ | with_reducible refine Below.alloc ?_ ?_ _ | with_reducible refine Below.drew ?_ | with_reducible refine belowN ?_ _ | with_reducible refine Over.go _ ?_ ?_ | with_reducible exact Nat.le_refl _ | with_reducible refine Over.sz _ _ ?_ | with_reducible refine le_alloc ?_ | with_reducible refine le_setCell ?_ | with_reducible refine le_drewN ?_ | with_reducible refine le_drew ?_ | omega | (dsimp only; omega)
end Go.Proofs.Ytfkhlnmphjbjoaa
