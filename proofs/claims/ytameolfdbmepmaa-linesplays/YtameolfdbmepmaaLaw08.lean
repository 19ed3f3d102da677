/- awake of layer 8: it returns true; no old memory turns. -/
import Derived.Test.YtameolfdbmepmaaLinJ
namespace Go.Proofs.Ytameolfdbmepmaa
open Go.ChangeShapes Go.WideShapes Go.ChangeAt Go.RowKit
set_option linter.unusedSimpArgs false
set_option linter.unusedVariables false

attribute [local go_sem, local simp] over_const setCell_drewN alloc_drewN Over.cell Over.frozen lt_s1 lt_s2 lt_s3 le_s0 le_s1 le_s2 le_s3 eq_s0 eq_s1 eq_s2 qe_s0

theorem listA_74 : listA [7, 4] = [4, 7] :=
  (((listA_perm [7, 4]).trans (List.Perm.swap 4 7 [])).eq_of_pairwise (le := fun x y : Int => x ≤ y) (fun a b _ _ h1 h2 => by omega) (listA_sorted _) (by simp))

theorem view_47 (w : World) : View (w.alloc (.cells #[.int .i64 4, .int .i64 7] 3)) (.slice (some ⟨w.heap.size, 0, none⟩) 2 2) w.heap.size [4, 7] :=
  ⟨_, 2, rfl, Nat.le_refl _, by decide, .inr ⟨0, rfl, by simp, fun j hj => by
    have : j = 0 ∨ j = 1 := by simp at hj; omega
    rcases this with rfl | rfl
    · exact cell_of_row _ _ _ _ _ _ (heap_alloc_new w _)
    · exact cell_of_row _ _ _ _ _ _ (heap_alloc_new w _)⟩⟩

set_option maxHeartbeats 2000000 in
theorem awake8_any (w : World) : Calls Try.prog 9 #[] w fun e w' => e = .returned (.bool true) ∧ Below w.heap.size w w' := by
  have b1 : clampZ 1 1 64 = 1 := by decide
  have b2 : clampZ 2 1 16 = 2 := by decide
  have k1 : okAdd 1 2 [] 4 = true := by decide
  have n1 : nxAdd 1 2 [] 4 = [4] := by decide
  have k2 : okAdd 1 2 [4] 7 = true := by decide
  have n2 : nxAdd 1 2 [4] 7 = [4, 7] := by decide
  have k3 : okRem [4, 7] 4 = true := by decide
  have n3 : nxUse [4, 7] 4 = [7, 4] := by decide
  have k4 : okAdd 1 2 [7, 4] 9 = false := by decide
  have n4 : nxAdd 1 2 [7, 4] 9 = [7, 4] := by decide
  have v1 : vicA 1 2 [7, 4] 9 (-1) = (7, true) := by decide
  have v2 : vicA 1 2 [7, 4] 9 7 = (4, true) := by decide
  have v3 : vicA 1 2 [7, 4] 4 4 = (-1, true) := by decide
  go_enter Try.func9, Try.ntmps9
  go_wp2_with fail
  go_at_call 10
  refine (new_c 1 2 w).mono ?_
  rw [b1, b2]
  rintro e w1 ⟨p, F1, rfl, h1, hb1, hF1⟩
  replace h1 := hide h1
  replace hb1 := hide hb1
  go_wp2_with fail
  go_at_call 12
  refine (add_c p F1 1 2 4 [] w1 (unhide h1) (by decide)).mono ?_
  rw [k1, n1]
  rintro e w2 ⟨rfl, F2, h2, s2⟩
  replace h2 := hide h2
  replace s2 := hide s2
  clear h1
  go_wp2_with fail
  go_at_call 12
  refine (add_c p F2 1 2 7 [4] w2 (unhide h2) (by decide)).mono ?_
  rw [k2, n2]
  rintro e w3 ⟨rfl, F3, h3, s3⟩
  replace h3 := hide h3
  replace s3 := hide ((unhide s2).trans s3)
  clear h2 s2
  go_wp2_with fail
  go_at_call 14
  refine (use_c p F3 1 2 4 [4, 7] w3 (unhide h3) (by decide)).mono ?_
  rw [k3, n3]
  rintro e w4 ⟨rfl, F4, h4, s4⟩
  replace h4 := hide h4
  replace s4 := hide ((unhide s3).trans s4)
  clear h3 s3
  go_wp2_with fail
  go_at_call 12
  refine (add_c p F4 1 2 9 [7, 4] w4 (unhide h4) (by decide)).mono ?_
  rw [k4, n4]
  rintro e w5 ⟨rfl, F5, h5, s5⟩
  replace h5 := hide h5
  replace s5 := hide ((unhide s4).trans s5)
  clear h4 s4
  go_wp2_with fail
  go_at_call 18
  refine (victim_c p F5 1 2 9 (-1) [7, 4] w5 (unhide h5)).mono ?_
  rw [v1]
  rintro e w6 ⟨rfl, q1, rfl⟩
  go_wp2_with fail
  go_at_call 18
  refine (victim_c p F5 1 2 9 7 [7, 4] (w5.drewN q1) ((unhide h5).drewN _)).mono ?_
  rw [v2]
  rintro e w7 ⟨rfl, q2, rfl⟩
  go_wp2_with fail
  go_at_call 18
  refine (victim_c p F5 1 2 4 4 [7, 4] _ ((unhide h5).drewN _)).mono ?_
  rw [v3]
  rintro e w8 ⟨rfl, q3, rfl⟩
  go_wp2_with fail
  go_at_call 23
  refine (list_c p F5 1 2 [7, 4] _ ((unhide h5).drewN _)).mono ?_
  rw [listA_74]
  rintro e w9 ⟨v, g, rfl, hg, hO, hb9⟩
  have hO' := hide hO
  obtain ⟨ao, cap, rfl, _⟩ := hO
  replace hb9 : Hid (Below w5.heap.size w5 w9) := (belowN (Below.refl _ _) _).trans hb9
  have h9 : Hid (LnIs w9 p F5 1 2 [7, 4]) := (unhide h5).below (unhide hb9)
  clear h5 hg
  go_wp2_with fail
  go_at_call 22
  refine (ints_c _ _ _ _ [4, 7] [4, 7] _ ((unhide hO').view.alloc _) (view_47 w9)).mono ?_
  simp only [decide_true]
  rintro e w10 ⟨rfl, q4, rfl⟩
  go_wp2_with fail
  go_at_call 20
  refine (has_c p F5 1 2 7 [7, 4] _ (((unhide h9).alloc _).drewN _)).mono ?_
  rw [show decide ((7 : Int) ∈ [(7 : Int), 4]) = true by decide]
  rintro e w11 ⟨rfl, q5, rfl⟩
  go_wp2_with fail
  go_at_call 20
  refine (has_c p F5 1 2 9 [7, 4] _ (((unhide h9).alloc _).drewN _)).mono ?_
  rw [show decide ((9 : Int) ∈ [(7 : Int), 4]) = false by decide]
  rintro e w12 ⟨rfl, q6, rfl⟩
  go_wp2_with fail
  go_ret
  refine ⟨rfl, ?_⟩
  have hb := unhide hb1
  have s := hb.size
  have hB5 : Below w.heap.size w w5 := hb.trans ((unhide s5).fr.below hF1 s)
  have hB9 : Below w.heap.size w w9 := hB5.trans ((unhide hb9).mono hB5.size)
  exact belowN (hB9.alloc hB9.size _) _
end Go.Proofs.Ytameolfdbmepmaa
