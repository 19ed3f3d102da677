/- Layer 4: the document's fixed answers (small, awake). -/
import Derived.Test.YtipklaehhiffdaaDoorLetterC
import Derived.Test.YtipklaehhiffdaaDoorSpreadR
namespace Go.Proofs.YtipklaehhiffdaaDoor
open Go.ChangeShapes Go.WideShapes Go.ChangeAt Go.RowKit
set_option linter.unusedSimpArgs false
set_option linter.unusedVariables false

attribute [local go_sem, local simp] over_const setCell_drewN alloc_drewN Over.cell Over.frozen lt_s1 lt_s2 lt_s3 le_s0 le_s1 le_s2 le_s3 eq_s0 eq_s1 eq_s2 qe_s0

theorem small_c (w : World) : Calls Tryd.prog 18 #[] w fun e w' => e = .returned (.agg #[.int .i64 2, .int .i64 2, .int .i64 4, .int .i64 1, .int .i64 1, .int .i64 9, .int .i64 1, .int .i64 0, .int .i64 1]) ∧ Below w.heap.size w w' := by
  go_enter Tryd.func18, Tryd.ntmps18
  go_wp2
  go_returns
  exact ⟨rfl, by go_grown⟩

set_option maxHeartbeats 2000000 in
theorem awake4_any (w : World) (hT : Hid (Tab w)) : Calls Tryd.prog 9 #[] w fun e w' => e = .returned (.bool true) ∧ Below w.heap.size w w' := by
  have E1 := hide (show cfgZ 2 2 4 1 1 9 1 0 1 = 0 by rfl)
  have E2 := hide (show letterZ 2 2 4 ⟨1, 0, 2, 1, 0, 0, false, ⟨1, false, false, 0⟩⟩ = 0 by rfl)
  have E3 := hide (show letterZ 2 2 4 ⟨2, 0, 0, 0, 0, 0, false, ⟨0, false, false, 0⟩⟩ = 8 by rfl)
  have E4 := hide (show letterZ 2 2 4 ⟨4, 2, 1, 1, 5, 1, false, ⟨0, false, false, 0⟩⟩ = 0 by rfl)
  go_enter Tryd.func9, Tryd.ntmps9
  go_wp2_with fail
  go_at_call 15
  refine (tokens_c 0 2 1 1 false false 0 _).mono ?_
  rintro e w' ⟨rfl, hb⟩
  obtain ⟨x, rfl⟩ := over hb
  clear hb
  have hT1 := hide ((unhide hT).over x)
  go_wp2_with fail
  go_at_call 16
  refine (spread_r 4 2 1 5 1 2 _ 2 rfl).mono ?_
  rintro e w' ⟨v, rfl, ⟨ao, cap, rfl, hcap, hmax, hr⟩, hb⟩
  rcases hr with hr | ⟨g, rfl, hg, hgs, hc⟩
  · cases hr
  obtain ⟨y, rfl⟩ := over hb
  clear hb
  have f0 := y.up (b := x.w.heap.size) (by first | omega | (simp only [World.size_alloc]; omega))
  have hT2 := hide (((unhide hT1).alloc _).over y)
  have c0 : y.w.cell? ⟨g, 11, none⟩ = some (.int .i64 4) := hc 1 0 (by omega) (by omega)
  have c1 : y.w.cell? ⟨g, 12, none⟩ = some (.int .i64 2) := hc 1 1 (by omega) (by omega)
  have c2 : y.w.cell? ⟨g, 13, none⟩ = some (.int .i64 1) := hc 1 2 (by omega) (by omega)
  have c3 : y.w.cell? ⟨g, 14, none⟩ = some (.int .i64 1) := hc 1 3 (by omega) (by omega)
  have c4 : y.w.cell? ⟨g, 15, none⟩ = some (.int .i64 5) := hc 1 4 (by omega) (by omega)
  have c5 : y.w.cell? ⟨g, 16, none⟩ = some (.int .i64 1) := hc 1 5 (by omega) (by omega)
  have c6 : y.w.cell? ⟨g, 17, none⟩ = some (.bool false) := hc 1 6 (by omega) (by omega)
  have c7 : y.w.cell? ⟨g, 18, none⟩ = some (.int .i64 0) := hc 1 7 (by omega) (by omega)
  have c8 : y.w.cell? ⟨g, 19, none⟩ = some (.bool false) := hc 1 8 (by omega) (by omega)
  have c9 : y.w.cell? ⟨g, 20, none⟩ = some (.bool false) := hc 1 9 (by omega) (by omega)
  have c10 : y.w.cell? ⟨g, 21, none⟩ = some (.int .i64 0) := hc 1 10 (by omega) (by omega)
  clear hc hg hT hT1
  go_wp2_with fail
  refine wp_region_over (by kernel_rfl) (by kernel_rfl) ?_
  repeat (go_big_quiet_step (first | (go_at_call 18; exact Over.quiet (small_c _)) | (go_at_call 10; exact Over.quiet (cfgErr_c _ _ _ _ _ _ _ _ _ _ _ E1)) | (go_at_call 12; exact Over.quiet (check_c _ _ _ _ _ _ _ _ _ _ _ _ _ _ _ _ _ _ _ _ _ (hide ((unhide hT2).over _)) _ E2)) | (go_at_call 12; exact Over.quiet (check_c _ _ _ _ _ _ _ _ _ _ _ _ _ _ _ _ _ _ _ _ _ (hide ((unhide hT2).over _)) _ E3)) | (go_at_call 12; exact Over.quiet (check_c _ _ _ _ _ _ _ _ _ _ _ _ _ _ _ _ _ _ _ _ _ (hide ((unhide hT2).over _)) _ E4)) | (go_at_call 14; exact Over.quiet (drops_c _ _ _ _ _ _ _ _ _ _ _ _ true rfl)) | (go_at_call 14; exact Over.quiet (drops_c _ _ _ _ _ _ _ _ _ _ _ _ false rfl))))
  refine wpQuiet_nil ?_
  intro _ hw'
  obtain ⟨u, rfl⟩ := hw'
  go_wp2
  go_ret
  refine ⟨rfl, ?_⟩
  have s1 := x.below.size
  have s2 := y.below.size
  simp only [World.size_alloc] at s1 s2
  repeat' first | with_reducible exact Below.refl _ _ | with_reducible refine Below.setCell ?_ ?_ _ | with_reducible refine Below.alloc ?_ ?_ _ | with_reducible refine Below.drew ?_ | with_reducible refine belowN ?_ _ | with_reducible refine Over.go _ ?_ ?_ | with_reducible exact Nat.le_refl _ | with_reducible refine Over.sz _ _ ?_ | with_reducible refine le_alloc ?_ | with_reducible refine le_setCell ?_ | with_reducible refine le_drewN ?_ | with_reducible refine le_drew ?_ | omega | (dsimp only; omega)
end Go.Proofs.YtipklaehhiffdaaDoor
