/- awake of layer 13: it returns true; no old memory turns. -/
import Derived.Test.YtipamgncalcaiaaAdvT
import Derived.Test.YtipamgncalcaiaaLinJ
import Derived.Test.YtipamgncalcaiaaBundle
namespace Go.Proofs.Ytipamgncalcaiaa
open Go.ChangeShapes Go.WideShapes Go.ChangeAt Go.RowKit
set_option linter.unusedSimpArgs false
set_option linter.unusedVariables false
set_option maxRecDepth 10000

attribute [local go_sem, local simp] over_const setCell_drewN alloc_drewN Over.cell Over.frozen lt_s1 lt_s2 lt_s3 le_s0 le_s1 le_s2 le_s3 eq_s0 eq_s1 eq_s2 qe_s0

theorem view_two (w : World) (x y : Int) : View (w.alloc (.cells #[.int .i64 x, .int .i64 y] 3)) (.slice (some ⟨w.heap.size, 0, none⟩) 2 2) w.heap.size [x, y] :=
  ⟨_, 2, rfl, Nat.le_refl _, by decide, .inr ⟨0, rfl, by simp, fun j hj => by
    have : j = 0 ∨ j = 1 := by simp at hj; omega
    rcases this with rfl | rfl
    · exact cell_of_row _ _ _ _ _ _ (heap_alloc_new w _)
    · exact cell_of_row _ _ _ _ _ _ (heap_alloc_new w _)⟩⟩

theorem full37 : Hid (fullB 3 7 = ⟨3, true, true, 7⟩) := hide (by rfl)
theorem rep_l : Hid (repZ 1 3 true false 0 0 = ⟨1, false, true⟩) := hide (by rfl)
theorem rep_s : Hid (repZ 1 3 true true 0 0 = ⟨3, true, true⟩) := hide (by rfl)
theorem tgt_a : Hid (tgt 2 0 1 0 0 = [1, 2]) := hide (by decide +kernel)
theorem tgt_b : Hid (tgt 64 0 2 3 1 = [1, 64]) := hide (by decide +kernel)


set_option maxHeartbeats 2000000 in
theorem awake13_any (w : World) : Calls Try.prog 8 #[] w fun e w' => e = .returned (.bool true) ∧ Below w.heap.size w w' := by
  go_enter Try.func8, Try.ntmps8
  go_wp2_with fail
  go_at_call 17
  refine (full_any 3 7 _ _ full37).mono ?_
  rintro e w' ⟨rfl, hb⟩
  obtain ⟨x, rfl⟩ := over hb
  clear hb
  go_wp2_with fail
  go_at_call 12
  refine (reply_c 1 3 true true 7 false 0 0 0 _ _ rep_l).mono ?_
  rintro e w' ⟨rfl, hb⟩
  obtain ⟨x2, rfl⟩ := over2 hb
  clear hb
  go_wp2_with fail
  go_at_call 17
  refine (full_any 3 7 _ _ full37).mono ?_
  rintro e w' ⟨rfl, hb⟩
  obtain ⟨x3, rfl⟩ := over2 hb
  clear hb
  go_wp2_with fail
  go_at_call 12
  refine (reply_c 1 3 true true 7 true 0 0 0 _ _ rep_s).mono ?_
  rintro e w' ⟨rfl, hb⟩
  obtain ⟨x4, rfl⟩ := over2 hb
  clear hb
  go_wp2_with fail
  go_at_call 10
  refine (targets_c 2 0 0 0 0 0 0 0 1 0 0 0 0 _ _ tgt_a 2 rfl).mono ?_
  rintro e w' ⟨ao, cap, rfl, ⟨g, hV⟩, hb⟩
  obtain ⟨x5, rfl⟩ := over2 hb
  have f5 := x5.up (b := w.heap.size) (by first | omega | (simp only [World.size_alloc]; omega) | (simp; done) | (simp; omega))
  have g5 := x5.up (b := w.heap.size + 1) (by first | omega | (simp only [World.size_alloc]; omega) | (simp; done) | (simp; omega))
  replace hV := hide hV
  clear hb
  go_wp2_with fail
  go_at_call 9
  refine (ints_c _ _ _ _ [1, 2] [1, 2] _ (hV.out.alloc _) (view_two _ 1 2)).mono ?_
  simp only [decide_true]
  rintro e w' ⟨rfl, n1, rfl⟩
  clear hV
  go_wp2_with fail
  go_at_call 10
  refine (targets_c 64 0 0 0 0 0 0 0 2 0 3 1 0 _ _ tgt_b 2 rfl).mono ?_
  rintro e w' ⟨ao2, cap2, rfl, ⟨g2, hV⟩, hb⟩
  obtain ⟨x6, rfl⟩ := over hb
  replace hV := hide hV
  clear hb
  go_wp2_with fail
  go_at_call 9
  refine (ints_c _ _ _ _ [1, 64] [1, 64] _ (hV.out.alloc _) (view_two _ 1 64)).mono ?_
  simp only [decide_true]
  rintro e w' ⟨rfl, n2, rfl⟩
  clear hV
  go_wp2_with fail
  go_ret
  refine ⟨rfl, ?_⟩
  repeat' first | with_reducible exact Below.refl _ _ | with_reducible refine Below.setCell ?_ ?_ _ | with_reducible refine Below.alloc ?_ ?_ _ | with_reducible refine Below.drew ?_ | with_reducible refine belowN ?_ _ | with_reducible refine Over.go _ ?_ ?_ | with_reducible exact Nat.le_refl _ | with_reducible refine Over.sz _ _ ?_ | with_reducible refine le_alloc ?_ | with_reducible refine le_setCell ?_ | with_reducible refine le_drewN ?_ | with_reducible refine le_drew ?_ | omega | (dsimp only; omega)
end Go.Proofs.Ytipamgncalcaiaa
