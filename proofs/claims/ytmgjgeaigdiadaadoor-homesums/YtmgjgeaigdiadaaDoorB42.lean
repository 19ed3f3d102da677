/- layer 16: Ref04c, put together. -/
import Derived.Test.YtmgjgeaigdiadaaDoorB13
import Derived.Deep.Light
namespace Go.Proofs.YtmgjgeaigdiadaaDoor
open Go.ChangeShapes Go.WideShapes Go.ChangeAt Go.RowKit
set_option linter.unusedSimpArgs false
set_option linter.unusedVariables false
set_option maxRecDepth 10000
attribute [local go_sem, local simp] over_const setCell_drewN alloc_drewN Over.cell Over.frozen lt_s1 lt_s2 lt_s3 le_s0 le_s1 le_s2 le_s3 eq_s0 eq_s1 eq_s2 qe_s0
theorem cfg_1 {n bl tt cs cy cc cu ct cp : Int} (h : ¬ (1 ≤ cs ∧ cs ≤ 64 ∧ 1 ≤ cy ∧ cy ≤ 16 ∧ 1 ≤ cc ∧ cc ≤ 65536 ∧ 1 ≤ cu ∧ cu ≤ 64 ∧ 0 ≤ ct ∧ ct ≤ 8 ∧ 0 ≤ cp ∧ cp ≤ 2)) : 1 = cfgZ n bl tt cs cy cc cu ct cp := by
  unfold cfgZ
  rw [if_pos]
  cases hs : stgB cs cy cc cu ct cp
  · rfl
  · simp only [stgB, Bool.and_eq_true, inB_true] at hs; omega
theorem set_yes {cs cy cc cu ct cp : Int} (h : 1 ≤ cs ∧ cs ≤ 64 ∧ 1 ≤ cy ∧ cy ≤ 16 ∧ 1 ≤ cc ∧ cc ≤ 65536 ∧ 1 ≤ cu ∧ cu ≤ 64 ∧ 0 ≤ ct ∧ ct ≤ 8 ∧ 0 ≤ cp ∧ cp ≤ 2) : stgB cs cy cc cu ct cp = true := by
  simp only [stgB, Bool.and_eq_true, inB_true]; omega
theorem cfg_k {n bl tt cs cy cc cu ct cp z : Int} (h : 1 ≤ cs ∧ cs ≤ 64 ∧ 1 ≤ cy ∧ cy ≤ 16 ∧ 1 ≤ cc ∧ cc ≤ 65536 ∧ 1 ≤ cu ∧ cu ≤ 64 ∧ 0 ≤ ct ∧ ct ≤ 8 ∧ 0 ≤ cp ∧ cp ≤ 2)
    (hz : (z = 2 ∧ ¬ (1 ≤ n ∧ n ≤ 64)) ∨ (z = 3 ∧ (1 ≤ n ∧ n ≤ 64) ∧ ¬ (1 ≤ bl ∧ bl ≤ 64)) ∨ (z = 4 ∧ (1 ≤ n ∧ n ≤ 64) ∧ (1 ≤ bl ∧ bl ≤ 64) ∧ ¬ (n ≤ tt ∧ tt ≤ 65536)) ∨ (z = 0 ∧ (1 ≤ n ∧ n ≤ 64) ∧ (1 ≤ bl ∧ bl ≤ 64) ∧ n ≤ tt ∧ tt ≤ 65536)) :
    z = cfgZ n bl tt cs cy cc cu ct cp := by
  unfold cfgZ
  rw [set_yes h]
  simp only [inB_false]
  (repeat' split) <;> simp_all <;> omega
set_option maxHeartbeats 2000000 in
theorem refConfig_c (n bl tt cs cy cc cu ct cp : Int) (w : World) (z : Int) (hz : Hid (cfgZ n bl tt cs cy cc cu ct cp = z)) :
    Calls Tryd.prog 11 #[.agg #[.int .i64 n, .int .i64 bl, .int .i64 tt, .int .i64 cs, .int .i64 cy, .int .i64 cc, .int .i64 cu, .int .i64 ct, .int .i64 cp]] w fun e w' => e = .returned (.int .i64 z) ∧ Below w.heap.size w w' := by
  go_enter Tryd.func11, Tryd.ntmps11
  go_wp2
  all_goals go_ret
  all_goals refine ⟨ret_int ?_, by go_grown⟩
  all_goals go_light
  all_goals rw [← unhide hz]
  all_goals clear hz
  all_goals first | exact cfg_1 (by omega) | exact cfg_k (by omega) (by omega)
end Go.Proofs.YtmgjgeaigdiadaaDoor
