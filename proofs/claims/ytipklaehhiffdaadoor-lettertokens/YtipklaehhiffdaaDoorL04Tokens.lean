/- The walk of LetterTokens: it returns true; no old memory turns. -/
import Derived.Test.YtipklaehhiffdaaDoorLaw04
import Derived.Test.YtipklaehhiffdaaDoorRef04k
namespace Go.Proofs.YtipklaehhiffdaaDoor
open Go.ChangeShapes Go.WideShapes Go.ChangeAt Go.RowKit
set_option linter.unusedSimpArgs false
set_option linter.unusedVariables false

attribute [local go_sem, local simp] over_const setCell_drewN alloc_drewN Over.cell Over.frozen lt_s1 lt_s2 lt_s3 le_s0 le_s1 le_s2 le_s3 eq_s0 eq_s1 eq_s2 qe_s0

set_option maxHeartbeats 2000000 in
theorem LetterTokens_walk (n bl tt cs cy cc cu ct cp : Int) (la lb lq xn : Int) (xo xh : Bool) (xd : Int) (w : World) (hT : Hid (Tab w)) : Calls Tryd.prog 6 #[.agg #[.int .i64 n, .int .i64 bl, .int .i64 tt, .int .i64 cs, .int .i64 cy, .int .i64 cc, .int .i64 cu, .int .i64 ct, .int .i64 cp], .agg #[.int .i64 la, .int .i64 lb, .int .i64 lq], .agg #[.int .i64 xn, .bool xo, .bool xh, .int .i64 xd]] w fun e w' => e = .returned (.bool true) ∧ Below w.heap.size w w' := by
  obtain ⟨z, hz⟩ : ∃ z, Hid (letterZ n bl tt ⟨1, la, lb, lq, 0, 0, false, ⟨xn, xo, xh, xd⟩⟩ = z) := ⟨_, rfl⟩
  go_enter Tryd.func6, Tryd.ntmps6
  go_wp2_with fail
  go_at_call 15
  refine (tokens_c _ _ _ _ _ _ _ _).mono ?_
  rintro e w' ⟨rfl, hb⟩
  obtain ⟨x, rfl⟩ := over hb
  clear hb
  have f0 := x.up (b := w.heap.size) (by first | omega | (simp only [World.size_alloc]; omega))
  have f1 := x.up (b := w.heap.size + 1) (by first | omega | (simp only [World.size_alloc]; omega))
  have f2 := x.up (b := w.heap.size + 1 + 1) (by first | omega | (simp only [World.size_alloc]; omega))
  have hT1 := hide (((((unhide hT).alloc _).alloc _).alloc _).over x)
  go_wp2_with fail
  refine wp_region_over (by kernel_rfl) (by kernel_rfl) ?_
  repeat (go_big_quiet_step (first | (go_at_call 9; exact Over.quiet (awake4_any _ (hide ((((unhide hT1).alloc _).alloc _).over _)))) | (go_at_call 12; exact Over.quiet (check_c _ _ _ _ _ _ _ _ _ _ _ _ _ _ _ _ _ _ _ _ _ (hide ((((unhide hT1).alloc _).alloc _).over _)) _ hz)) | (go_at_call 13; exact Over.quiet (refCheck_c _ _ _ _ _ _ _ _ _ _ _ _ _ _ _ _ _ _ _ _ _ _ hz))))
  refine wpQuiet_nil ?_
  intro _ hw'
  obtain ⟨u, rfl⟩ := hw'
  go_wp2
  go_ret
  refine ⟨by first | rfl | simp, ?_⟩
  have s1 := x.below.size
  simp only [World.size_alloc] at s1
  repeat' first | with_reducible exact Below.refl _ _ | with_reducible refine Below.setCell ?_ ?_ _ | with_reducible refine Below.alloc ?_ ?_ _ | with_reducible refine Below.drew ?_ | with_reducible refine belowN ?_ _ | with_reducible refine Over.go _ ?_ ?_ | with_reducible exact Nat.le_refl _ | with_reducible refine Over.sz _ _ ?_ | with_reducible refine le_alloc ?_ | with_reducible refine le_setCell ?_ | with_reducible refine le_drewN ?_ | with_reducible refine le_drew ?_ | omega | (dsimp only; omega)
end Go.Proofs.YtipklaehhiffdaaDoor
