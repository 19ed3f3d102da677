/- awake of layer 9: it returns true; no old memory turns. -/
import Derived.Test.YtooopcadefpncaaCacA
import Derived.Test.YtooopcadefpncaaCacF
import Derived.Test.YtooopcadefpncaaCacE
import Derived.Test.YtooopcadefpncaaCacMath2
import Derived.Test.YtooopcadefpncaaCacK
namespace Go.Proofs.Ytooopcadefpncaa
open Go.ChangeShapes Go.WideShapes Go.ChangeAt Go.RowKit
set_option linter.unusedSimpArgs false
set_option linter.unusedVariables false
set_option maxRecDepth 10000

attribute [local go_sem, local simp] over_const setCell_drewN alloc_drewN Over.cell Over.frozen lt_s1 lt_s2 lt_s3 le_s0 le_s1 le_s2 le_s3 eq_s0 eq_s1 eq_s2 qe_s0

abbrev two9 : Bun := ⟨2, true, true, 7⟩
abbrev nine9 : Bun := ⟨2, true, true, 9⟩
abbrev one9 : Bun := ⟨1, false, false, 0⟩
theorem ok_two9 : okB two9 := by simp [okB]
theorem ok_one9 : okB one9 := by simp [okB]

theorem awk_v1 : vicA 1 1 [] 3 (-1) = (-1, true) := by decide
theorem awk_v2 : vicA 1 1 [3] 5 3 = (-1, false) := by decide
theorem awk_v3 : vicA 1 1 [3] 5 (-1) = (3, true) := by decide

def awkT1 : Int → Bun := updT (fun _ => bun0) 3 two9
def awkT2 : Int → Bun := updT awkT1 3 nine9
def awkT3 : Int → Bun := updT (updT awkT2 3 bun0) 5 one9

theorem awk_g1 : goAb 1 1 ⟨[], fun _ => bun0⟩ 3 two9 (-1) = (ln0, false) := by simp [goAb, awk_v1]
theorem awk_n1 : nxAb 1 1 ⟨[], fun _ => bun0⟩ 3 two9 (-1) = ⟨[3], awkT1⟩ := by simp [nxAb, awk_v1, awkT1]
theorem awk_g2 : goAb 1 1 ⟨[3], awkT1⟩ 5 one9 3 = (⟨5, one9⟩, true) := by simp [goAb, awk_v2]
theorem awk_n2 : nxAb 1 1 ⟨[3], awkT1⟩ 5 one9 3 = ⟨[3], awkT1⟩ := by simp [nxAb, awk_v2]
theorem awk_q : okDo ⟨[3], awkT1⟩ 3 true 2 = true := by simp [okDo, awkT1, updT, canB]
theorem awk_r : valDo ⟨[3], awkT1⟩ 3 true 9 2 = 9 := by simp [valDo, datDo, awk_q]
theorem awk_n3 : nxDo ⟨[3], awkT1⟩ 3 true 9 2 = ⟨[3], awkT2⟩ := by
  simp [nxDo, awk_q, datDo, awkT2, nxUse]
  simp [awkT1, updT]
theorem awk_g4 : goAb 1 1 ⟨[3], awkT2⟩ 5 one9 (-1) = (⟨3, nine9⟩, true) := by simp [goAb, awk_v3, awkT2, updT]
theorem awk_n4 : nxAb 1 1 ⟨[3], awkT2⟩ 5 one9 (-1) = ⟨[5], awkT3⟩ := by simp [nxAb, awk_v3, awkT3]
theorem awk_t : awkT3 5 = one9 := by simp [awkT3, updT]

theorem step_bel {F F' : Nat → Prop} {w w1 w2 : World} (hF : ∀ b, F b → w.heap.size ≤ b) (hb : Below w.heap.size w w1) (hs : Step F F' w1 w2) : (∀ b, F' b → w.heap.size ≤ b) ∧ Below w.heap.size w w2 := by
  have s := hb.size
  refine ⟨fun b h => ?_, hb.trans (hs.fr.below hF s)⟩
  rcases hs.new b h with e | e
  · exact hF b e
  · omega

set_option maxHeartbeats 2000000 in
theorem awake9_any (w : World) : Calls Try.prog 10 #[] w fun e w' => e = .returned (.bool true) ∧ Below w.heap.size w w' := by
  have hfld := field_n
  have b1 : clampZ 1 1 64 = 1 := by decide
  have b2 : clampZ 1 1 16 = 1 := by decide
  go_enter Try.func10, Try.ntmps10
  go_wp2_with fail
  go_at_call 12
  refine (cNew_c 1 1 w).mono ?_
  rw [b1, b2]
  clear b1 b2
  rintro e w1 ⟨c, F1, rfl, h1, hb1, hF1⟩
  replace h1 := hide h1
  replace hF1 := hide hF1
  replace hb1 := hide hb1
  go_wp2_with fail
  go_at_call 14
  refine (cAbsorb_c c F1 1 1 0 2 3 (-1) _ two9 _ ((unhide h1).alloc _) ⟨by decide, by decide⟩ ok_two9 (by decide) (by decide) ln0 false _ awk_g1 awk_n1).mono ?_
  rintro e w2 ⟨rfl, F2, h2, s2⟩
  obtain ⟨hF2, hb2⟩ := step_bel (unhide hF1) ((unhide hb1).alloc (unhide hb1).size _) s2
  replace h2 := hide h2
  replace hF2 := hide hF2
  replace hb2 := hide hb2
  clear h1 hF1 hb1 s2
  go_wp2_with fail
  go_at_call 14
  refine (cAbsorb_c c F2 1 1 (0 + 2) 1 5 3 _ one9 _ ((unhide h2).alloc _) ⟨by decide, by decide⟩ ok_one9 (by decide) (by decide) ⟨5, one9⟩ true _ awk_g2 awk_n2).mono ?_
  rintro e w3 ⟨rfl, F3, h3, s3⟩
  obtain ⟨hF3, hb3⟩ := step_bel (unhide hF2) ((unhide hb2).alloc (unhide hb2).size _) s3
  replace h3 := hide h3
  replace hF3 := hide hF3
  replace hb3 := hide hb3
  clear h2 hF2 hb2 s3
  go_wp2_with fail
  go_at_call 18
  refine (cDo_c c F3 1 1 (0 + 2 + 1) 3 true 9 2 _ _ ((unhide h3).alloc _) ⟨by decide, by decide⟩ true 9 _ awk_q awk_r awk_n3).mono ?_
  rintro e w4 ⟨rfl, F4, h4, s4⟩
  have hl3 := (unhide h3).lt
  obtain ⟨k1, k2, k3⟩ := s4.keep (b := w3.heap.size) (fun e => by have := hl3 _ e; omega) (by simp)
  obtain ⟨hF4, hb4⟩ := step_bel (unhide hF3) ((unhide hb3).alloc (unhide hb3).size _) s4
  have y : Hid (LnAt w4 w3.heap.size ⟨5, one9⟩) := ⟨k3, keep_cell k1 (by simp [go_sem]), keep_cell k1 (by simp [go_sem]), keep_cell k1 (by simp [go_sem]), keep_cell k1 (by simp [go_sem]), keep_cell k1 (by simp [go_sem]), keep_frozen k1 (by simp [go_sem]), keep_frozen k1 (by simp [go_sem]), keep_frozen k1 (by simp [go_sem]), keep_frozen k1 (by simp [go_sem]), keep_frozen k1 (by simp [go_sem])⟩
  replace h4 := hide h4
  replace hF4 := hide hF4
  replace hb4 := hide hb4
  clear h3 hF3 hb3 s4 hl3 k1 k3
  go_wp2_with fail
  go_at_call 14
  refine (cAbsorb_c c F4 1 1 (0 + 2 + 1) 1 5 (-1) _ one9 _ (unhide h4) ⟨by decide, by decide⟩ ok_one9 (by decide) (by decide) ⟨3, nine9⟩ true _ awk_g4 awk_n4).mono ?_
  rintro e w5 ⟨rfl, F5, h5, s5⟩
  obtain ⟨k1, -, k3⟩ := s5.keep (b := w3.heap.size) k2 (unhide y).lt
  obtain ⟨hF5, hb5⟩ := step_bel (unhide hF4) (unhide hb4) s5
  replace y := (unhide y).carry k1
  replace h5 := hide h5
  replace hF5 := hide hF5
  replace hb5 := hide hb5
  obtain ⟨y5, y0, y1, y2, y3, y4, -, -, -, -, -⟩ := y
  clear h4 hF4 hb4 s5 k1
  go_wp2_with fail
  go_at_call 20
  refine (cGet_c c F5 1 1 _ 5 _ _ ((unhide h5).alloc _) ⟨by decide, by decide⟩ one9 awk_t).mono ?_
  rintro e w6 ⟨rfl, hb6⟩
  have h6 := hide (((unhide h5).alloc (.cells #[.int .i64 3, .int .i64 2, .bool true, .bool true, .int .i64 9] 37)).below hb6)
  have hB6 : Hid (Below w.heap.size w w6) := ((unhide hb5).alloc (unhide hb5).size _).trans (hb6.mono (by have := (unhide hb5).size; simp; omega))
  clear hb6
  go_wp2_with fail
  go_at_call 23
  refine (cAll_c c F5 1 1 _ _ _ (unhide h6)).mono ?_
  rintro e w7 ⟨v, g, rfl, hg, hO, hb7⟩
  have hl : (allC ⟨[5], awkT3⟩).length = 1 := by rw [allC_len]; rfl
  obtain ⟨ao, cap, rfl, -⟩ := hO
  rw [hl]
  have hB7 : Hid (Below w.heap.size w w7) := (unhide hB6).trans (hb7.mono (unhide hB6).size)
  clear hb7 hg hl
  go_wp2_with fail
  go_ret
  exact ⟨rfl, unhide hB7⟩
end Go.Proofs.Ytooopcadefpncaa
