/- Layer 2: the document's fixed answers (awake). -/
import Derived.Test.YtoldnkffhcaeoaaBunC
import Derived.Test.YtoldnkffhcaeoaaOver
namespace Go.Proofs.Ytoldnkffhcaeoaa
open Go.ChangeShapes Go.WideShapes Go.ChangeAt Go.RowKit
set_option linter.unusedSimpArgs false
set_option linter.unusedVariables false

attribute [local go_sem, local simp] over_const setCell_drewN alloc_drewN Over.cell Over.frozen lt_s1 lt_s2 lt_s3 le_s0 le_s1 le_s2 le_s3 eq_s0 eq_s1 eq_s2 qe_s0

theorem ok337 : okB ⟨3, true, true, 7⟩ := by unfold okB; simp

set_option maxHeartbeats 1000000 in
theorem awake2_any (w : World) : Calls Try.prog 11 #[] w fun e w' => e = .returned (.bool true) ∧ Below w.heap.size w w' := by
  have E0 := hide (show fullB 3 7 = ⟨3, true, true, 7⟩ by rfl)
  have e1 : givenB ⟨3, true, true, 7⟩ 1 false true = ⟨1, false, true, 7⟩ := by rfl
  have e2 : restB ⟨3, true, true, 7⟩ 1 false = ⟨2, true, true, 7⟩ := by rfl
  have e3 : givenB ⟨3, true, true, 7⟩ 3 false false = ⟨2, false, false, 0⟩ := by rfl
  have e4 : restB ⟨3, true, true, 7⟩ 3 false = ⟨1, true, true, 7⟩ := by rfl
  have e5 : joinB ⟨2, false, false, 0⟩ ⟨1, true, true, 7⟩ = ⟨3, true, true, 7⟩ := by rfl
  have e6 : checkZ ⟨3, true, true, 7⟩ 2 = 4 := by rfl
  have e7 : checkZ ⟨1, true, false, 0⟩ 2 = 6 := by rfl
  have E1 := hide e1
  have E2 := hide e2
  have E3 := hide e3
  have E4 := hide e4
  have E5 := hide e5
  clear e1 e2 e3 e4 e5
  go_enter Try.func11, Try.ntmps11
  go_wp2_with (go_at_call 10; refine (full_any _ _ _ _ E0).mono ?_; rintro e w' ⟨rfl, hb⟩; obtain ⟨x, rfl⟩ := over hb; clear hb)
  go_at_call 15
  refine (split_c 3 true true 7 1 false true _ (by omega) ok337 _ _ E1 E2).mono ?_
  rintro e w' ⟨rfl, hb⟩
  obtain ⟨x2, rfl⟩ := over hb
  clear hb
  have f1 := x2.up (b := x.w.heap.size) (by simp)
  go_wp2_with fail
  go_at_call 15
  refine (split_c 3 true true 7 3 false false _ (by omega) ok337 _ _ E3 E4).mono ?_
  rintro e w' ⟨rfl, hb⟩
  obtain ⟨x3, rfl⟩ := over hb
  clear hb
  have g1 := x3.up (b := x.w.heap.size) (by simp; omega)
  have g2 := x3.up (b := x2.w.heap.size) (by simp <;> omega)
  have g3 := x3.up (b := x2.w.heap.size + 1) (by simp)
  go_wp2_with fail
  refine wp_region_over (by kernel_rfl) (by kernel_rfl) ?_
  repeat (go_big_quiet_step (first | (go_at_call 17; exact Over.quiet (join_c _ _ _ _ _ _ _ _ _ (by omega) (by omega) _ E5)) | (go_at_call 12; exact Over.quiet (check_any _ _ _ _ _ _))))
  refine wpQuiet_nil ?_
  intro _ hw'
  obtain ⟨x4, rfl⟩ := hw'
  go_wp2
  go_ret
  have s1 := x.below.size
  have s2 := x2.below.size
  have s3 := x3.below.size
  simp only [World.size_alloc] at s2 s3
  refine ⟨rfl, ?_⟩
  repeat' first | exact Below.refl _ _ | refine Over.go _ ?_ ?_ | refine Below.alloc ?_ ?_ _ | refine Below.drew ?_ | refine belowN ?_ _ | refine Below.setCell ?_ ?_ _ | omega | (simp only [World.size_alloc, World.size_setCell]; omega)
end Go.Proofs.Ytoldnkffhcaeoaa
