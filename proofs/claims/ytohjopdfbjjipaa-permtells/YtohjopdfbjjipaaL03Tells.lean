/- The walk of PermTells: it returns true; no old memory turns. -/
import Derived.Test.YtohjopdfbjjipaaLaw03
namespace Go.Proofs.Ytohjopdfbjjipaa
open Go.ChangeShapes Go.WideShapes Go.ChangeAt Go.RowKit
set_option linter.unusedSimpArgs false
set_option linter.unusedVariables false

attribute [local go_sem, local simp] over_const setCell_drewN alloc_drewN Over.cell Over.frozen lt_s1 lt_s2 lt_s3 le_s0 le_s1 le_s2 le_s3 eq_s0 eq_s1 eq_s2 qe_s0

set_option maxHeartbeats 1000000 in
theorem PermTells_walk (n : Int) (o h : Bool) (d t : Int) (w : World) :
    Calls Try.prog 3 #[.agg #[.int .i64 n, .bool o, .bool h, .int .i64 d], .int .i64 t] w fun e w' => e = .returned (.bool true) ∧ Below w.heap.size w w' := by
  obtain ⟨q, hq⟩ : ∃ q, Hid (canB false n h t = q) := ⟨_, rfl⟩
  obtain ⟨r, hr⟩ : ∃ q, Hid (canB true n h t = q) := ⟨_, rfl⟩
  go_enter Try.func3, Try.ntmps3
  go_wp2
  refine wp_region_over (by kernel_rfl) (by kernel_rfl) ?_
  repeat (go_big_quiet_step (first | (go_at_call 9; exact Over.quiet (awake3_any _)) | (go_at_call 10; exact Over.quiet (reads_c _ _ _ _ t _ _ hq)) | (go_at_call 12; exact Over.quiet (writes_c _ _ _ _ _ _ _ hr)) | (go_at_call 11; exact Over.quiet (refMay_c _ _ _ _ _ _ _ _ hq)) | (go_at_call 11; exact Over.quiet (refMay_c _ _ _ _ _ _ _ _ hr))))
  refine wpQuiet_nil ?_
  intro _ hw'
  obtain ⟨y, rfl⟩ := hw'
  go_wp2
  go_ret
  refine ⟨by simp, ?_⟩
  repeat' first | with_reducible exact Below.refl _ _ | with_reducible refine Below.setCell ?_ ?_ _ | with_reducible refine Below.alloc ?_ ?_ _ | with_reducible refine Below.drew ?_ | with_reducible refine belowN ?_ _ | with_reducible refine Over.go _ ?_ ?_ | with_reducible exact Nat.le_refl _ | with_reducible refine Over.sz _ _ ?_ | with_reducible refine le_alloc ?_ | with_reducible refine le_setCell ?_ | with_reducible refine le_drewN ?_ | with_reducible refine le_drew ?_ | omega | (dsimp only; omega)
end Go.Proofs.Ytohjopdfbjjipaa
