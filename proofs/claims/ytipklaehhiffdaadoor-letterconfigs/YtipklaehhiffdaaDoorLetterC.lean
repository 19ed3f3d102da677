/- Package letter's Check (layer 4): what it returns; no old memory turns. -/
import Derived.Test.YtipklaehhiffdaaDoorLetC1
import Derived.Test.YtipklaehhiffdaaDoorLetC2
import Derived.Test.YtipklaehhiffdaaDoorLetC3
import Derived.Test.YtipklaehhiffdaaDoorLetC4
namespace Go.Proofs.YtipklaehhiffdaaDoor
open Go.ChangeShapes Go.WideShapes Go.ChangeAt Go.RowKit
set_option linter.unusedSimpArgs false
set_option linter.unusedVariables false

attribute [local go_sem, local simp] over_const setCell_drewN alloc_drewN Over.cell Over.frozen lt_s1 lt_s2 lt_s3 le_s0 le_s1 le_s2 le_s3 eq_s0 eq_s1 eq_s2 qe_s0

theorem check_c (n bl tt cs cy cc cu ct cp : Int) (lk la lb lq ls lw : Int) (lr : Bool) (xn : Int) (xo xh : Bool) (xd : Int) (w : World) (hT : Hid (Tab w)) (z : Int) (hz : Hid (letterZ n bl tt ⟨lk, la, lb, lq, ls, lw, lr, ⟨xn, xo, xh, xd⟩⟩ = z)) :
    Calls Tryd.prog 12 #[.agg #[.int .i64 n, .int .i64 bl, .int .i64 tt, .int .i64 cs, .int .i64 cy, .int .i64 cc, .int .i64 cu, .int .i64 ct, .int .i64 cp], .agg #[.int .i64 lk, .int .i64 la, .int .i64 lb, .int .i64 lq, .int .i64 ls, .int .i64 lw, .bool lr, .int .i64 xn, .bool xo, .bool xh, .int .i64 xd]] w fun e w' => e = .returned (.int .i64 z) ∧ Below w.heap.size w w' := by
  obtain ⟨q0, h0⟩ : ∃ q, Hid (inB lk 1 7 = q) := ⟨_, rfl⟩
  cases q0
  · have hz' := unhide hz
    unfold letterZ at hz'
    dsimp only at hz'
    rw [unhide h0] at hz'
    obtain rfl : 7 = z := by simpa using hz'
    clear hz hz' hT
    go_enter Tryd.func12, Tryd.ntmps12
    go_wp2_with (go_at_call 20; refine (within_c _ _ _ _ _ h0).mono ?_; rintro e w' ⟨rfl, rfl⟩)
    go_ret
    exact ⟨rfl, by go_grown⟩
  · rcases kinds7 (unhide h0) with rfl | rfl | rfl | rfl | rfl | rfl | rfl
    · exact check1 _ _ _ _ _ _ _ _ _ _ _ _ _ _ _ _ _ _ _ w hT z hz
    · exact check2 _ _ _ _ _ _ _ _ _ _ _ _ _ _ _ _ _ _ _ w hT z hz
    · exact check3 _ _ _ _ _ _ _ _ _ _ _ _ _ _ _ _ _ _ _ w hT z hz
    · exact check4 _ _ _ _ _ _ _ _ _ _ _ _ _ _ _ _ _ _ _ w hT z hz
    · exact check5 _ _ _ _ _ _ _ _ _ _ _ _ _ _ _ _ _ _ _ w hT z hz
    · exact check6 _ _ _ _ _ _ _ _ _ _ _ _ _ _ _ _ _ _ _ w hT z hz
    · exact check7 _ _ _ _ _ _ _ _ _ _ _ _ _ _ _ _ _ _ _ w hT z hz
end Go.Proofs.YtipklaehhiffdaaDoor
