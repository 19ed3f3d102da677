/- The walks of EntryLegal and EntryOps: each returns true; no old memory turns. -/
import Derived.Test.YtfkhlnmphjbjoaaLaw05
namespace Go.Proofs.Ytfkhlnmphjbjoaa
open Go.ChangeShapes Go.WideShapes Go.ChangeAt Go.RowKit
set_option linter.unusedSimpArgs false
set_option linter.unusedVariables false

attribute [local go_sem, local simp] over_const setCell_drewN alloc_drewN Over.cell Over.frozen lt_s1 lt_s2 lt_s3 le_s0 le_s1 le_s2 le_s3 eq_s0 eq_s1 eq_s2 qe_s0

set_option maxHeartbeats 2000000 in
theorem EntryLegal_walk (n bl tt cs cy cc cu ct cp : Int) (ek ea eb ec ed : Int) (w : World) : Calls Try.prog 3 #[.agg #[.int .i64 n, .int .i64 bl, .int .i64 tt, .int .i64 cs, .int .i64 cy, .int .i64 cc, .int .i64 cu, .int .i64 ct, .int .i64 cp], .agg #[.int .i64 ek, .int .i64 ea, .int .i64 eb, .int .i64 ec, .int .i64 ed]] w fun e w' => e = .returned (.bool true) ∧ Below w.heap.size w w' := by
  obtain ⟨q, hq⟩ : ∃ q, Hid (legalB ek ea eb ec n bl = q) := ⟨_, rfl⟩
  go_enter Try.func3, Try.ntmps3
  go_wp2_with fail
  refine wp_region_over (by kernel_rfl) (by kernel_rfl) ?_
  repeat (go_big_quiet_step (first | (go_at_call 8; exact Over.quiet (awake5_any _)) | (go_at_call 9; exact Over.quiet (legal_c _ _ _ _ _ _ _ _ _ _ _ _ _ _ _ _ hq)) | (go_at_call 10; exact Over.quiet (refLegal_c _ _ _ _ _ _ _ _ _ _ _ _ _ _ _ _ hq))))
  refine wpQuiet_nil ?_
  intro _ hw'
  obtain ⟨u, rfl⟩ := hw'
  go_wp2
  go_ret
  refine ⟨by first | rfl | simp, ?_⟩
  repeat' first | with_reducible exact Below.refl _ _ | with_reducible refine Below.setCell ?_ ?_ _ | with_reducible refine Below.alloc ?_ ?_ _ | with_reducible refine Below.drew ?_ | with_reducible refine belowN ?_ _ | with_reducible refine Over.go _ ?_ ?_ | with_reducible exact Nat.le_refl _ | with_reducible refine Over.sz _ _ ?_ | with_reducible refine le_alloc ?_ | with_reducible refine le_setCell ?_ | with_reducible refine le_drewN ?_ | with_reducible refine le_drew ?_ | omega | (dsimp only; omega)

set_option maxHeartbeats 2000000 in
theorem EntryOps_walk (ek ea eb ec ed : Int) (w : World) : Calls Try.prog 4 #[.agg #[.int .i64 ek, .int .i64 ea, .int .i64 eb, .int .i64 ec, .int .i64 ed]] w fun e w' => e = .returned (.bool true) ∧ Below w.heap.size w w' := by
  obtain ⟨ow, hw⟩ : ∃ q, Hid (decide (ec = 1) = q) := ⟨_, rfl⟩
  obtain ⟨ov, hv⟩ : ∃ q, Hid (opV ec ed = q) := ⟨_, rfl⟩
  go_enter Try.func4, Try.ntmps4
  go_wp2_with fail
  refine wp_region_over (by kernel_rfl) (by kernel_rfl) ?_
  repeat (go_big_quiet_step (first | (go_at_call 8; exact Over.quiet (awake5_any _)) | (go_at_call 11; exact Over.quiet (op_c _ _ _ _ _ _ _ _ hw hv)) | (go_at_call 12; exact Over.quiet (refOp_c _ _ _ _ _ _ _ _ hw hv))))
  refine wpQuiet_nil ?_
  intro _ hw'
  obtain ⟨u, rfl⟩ := hw'
  go_wp2
  go_ret
  refine ⟨by first | rfl | simp, ?_⟩
  repeat' first | with_reducible exact Below.refl _ _ | with_reducible refine Below.setCell ?_ ?_ _ | with_reducible refine Below.alloc ?_ ?_ _ | with_reducible refine Below.drew ?_ | with_reducible refine belowN ?_ _ | with_reducible refine Over.go _ ?_ ?_ | with_reducible exact Nat.le_refl _ | with_reducible refine Over.sz _ _ ?_ | with_reducible refine le_alloc ?_ | with_reducible refine le_setCell ?_ | with_reducible refine le_drewN ?_ | with_reducible refine le_drew ?_ | omega | (dsimp only; omega)
end Go.Proofs.Ytfkhlnmphjbjoaa
