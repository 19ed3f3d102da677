/- Layer 3: the document's fixed answers (awake). -/
import Derived.Test.YtohjopdfbjjipaaPermDo
namespace Go.Proofs.Ytohjopdfbjjipaa
open Go.ChangeShapes Go.WideShapes Go.ChangeAt Go.RowKit
set_option linter.unusedSimpArgs false
set_option linter.unusedVariables false

attribute [local go_sem, local simp] over_const setCell_drewN alloc_drewN Over.cell Over.frozen lt_s1 lt_s2 lt_s3 le_s0 le_s1 le_s2 le_s3 eq_s0 eq_s1 eq_s2 qe_s0

set_option maxHeartbeats 1000000 in
theorem awake3_any (w : World) : Calls Try.prog 9 #[] w fun e w' => e = .returned (.bool true) ∧ Below w.heap.size w w' := by
  have q1 := hide (show canB true 3 true 3 = true by rfl)
  have q2 := hide (show canB false 1 true 3 = true by rfl)
  have q3 := hide (show canB true 1 true 3 = false by rfl)
  have q4 := hide (show canB false 1 false 3 = false by rfl)
  go_enter Try.func9, Try.ntmps9
  go_wp2_with fail
  go_at_call 13
  refine (do_c 0 true 9 3 false true 7 3 _ _ q1 9 9 rfl rfl).mono ?_
  rintro e w' ⟨rfl, hb⟩
  obtain ⟨x, rfl⟩ := over hb
  clear hb
  go_wp2_with fail
  go_at_call 13
  refine (do_c 0 false 0 1 false true 7 3 _ _ q2 7 7 rfl rfl).mono ?_
  rintro e w' ⟨rfl, hb⟩
  obtain ⟨x2, rfl⟩ := over hb
  clear hb
  have f1 := x2.up (b := x.w.heap.size) (by simp)
  go_wp2_with fail
  go_at_call 13
  refine (do_c 0 true 0 1 false true 7 3 _ _ q3 7 0 rfl rfl).mono ?_
  rintro e w' ⟨rfl, hb⟩
  obtain ⟨x3, rfl⟩ := over hb
  clear hb
  have g1 := x3.up (b := x.w.heap.size) (by simp; omega)
  have g2 := x3.up (b := x2.w.heap.size) (by simp <;> omega)
  go_wp2_with (first | (go_at_call 10; refine (reads_c _ _ _ _ 3 _ _ q4).mono ?_; rintro e w' ⟨rfl, hb⟩; obtain ⟨x4, rfl⟩ := over hb; clear hb; have k1 := x4.up (b := x.w.heap.size) (by simp; omega)) | (go_at_call 12; refine (writes_c _ _ _ _ _ _ _ q1).mono ?_; rintro e w' ⟨rfl, hb⟩; obtain ⟨x5, rfl⟩ := over hb; clear hb))
  go_ret
  have s1 := x.below.size
  have s2 := x2.below.size
  have s3 := x3.below.size
  have s4 := x4.below.size
  simp only [World.size_alloc] at s2 s3 s4
  refine ⟨rfl, ?_⟩
  repeat' first | with_reducible exact Below.refl _ _ | with_reducible refine Below.setCell ?_ ?_ _ | with_reducible refine Below.alloc ?_ ?_ _ | with_reducible refine Below.drew ?_ | with_reducible refine belowN ?_ _ | with_reducible refine Over.go _ ?_ ?_ | with_reducible exact Nat.le_refl _ | with_reducible refine Over.sz _ _ ?_ | with_reducible refine le_alloc ?_ | with_reducible refine le_setCell ?_ | with_reducible refine le_drewN ?_ | with_reducible refine le_drew ?_ | omega | (dsimp only; omega)
end Go.Proofs.Ytohjopdfbjjipaa
