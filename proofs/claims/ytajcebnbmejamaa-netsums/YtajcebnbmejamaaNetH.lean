/- The contracts of the document's answer on nets (jetonref06): Send (layer 6). -/
import Derived.Test.YtajcebnbmejamaaNetG
namespace Go.Proofs.Ytajcebnbmejamaa
open Go.ChangeShapes Go.WideShapes Go.ChangeAt Go.RowKit
set_option linter.unusedSimpArgs false
set_option linter.unusedVariables false

attribute [local go_sem, local simp] over_const setCell_drewN alloc_drewN Over.cell Over.frozen lt_s1 lt_s2 lt_s3 le_s0 le_s1 le_s2 le_s3 eq_s0 eq_s1 eq_s2 qe_s0

set_option maxHeartbeats 1000000 in
theorem rsend_c (p g b : Nat) (R : Int) (L M : List Lt) (x : Value) (w : World) (h : NetIs w p g R L) (hx : View w x b M) (hM : M.length ≤ 100000) : Calls Try.prog 14 #[ptr p, x] w fun e w' => e = .returned (.bool (okS R L M)) ∧ ∃ g', NetIs w' p g' R (nxS R L M) ∧ Fr p g w w' ∧ (g' = g ∨ w.heap.size ≤ g') := by
  have hl := h.len
  have hh := hide h
  have hX := hide hx
  have hXl := hide (fun hn => hx.lt hn)
  obtain ⟨v, h1, h2, h3⟩ := h.c1
  have hv := hide h2.view
  have hc0 := h.c0
  have r0 := h.r0
  have r1 := h.r1
  have hf := h.f1
  have hpl := h.pl
  have hgl := hide h.gl
  obtain ⟨ao, cap, rfl, _⟩ := h2
  obtain ⟨aox, capx, rfl, hx1, hx2, _⟩ := hx
  clear h3 h
  unfold maxLen at hx2
  by_cases c : R < (L.length : Int) + (M.length : Int)
  · have e : okS R L M = false := by simp [okS]; omega
    have e2 : nxS R L M = L := by simp [nxS, e]
    rw [e, e2]
    go_enter Try.func14, Try.ntmps14
    go_wp2_with fail
    go_quiet (fail)
    go_wp2_with fail
    all_goals
      go_ret
      exact ⟨rfl, g, (unhide hh).drewN _, Fr.of_below (belowN (Below.refl _ _) _), .inl rfl⟩
  · have e : okS R L M = true := by simp [okS]; omega
    have e2 : nxS R L M = L ++ M := by simp [nxS, e]
    rw [e, e2]
    have hlm : (L.length : Int) + M.length ≤ R := by omega
    go_enter Try.func14, Try.ntmps14
    go_wp2_with fail
    go_quiet (fail)
    go_wp2_with (first | (at_builtin; refine wpList_app rfl _ _ rfl rfl rfl (own_empty _ _) (((unhide hv).carry (w' := w.drewN nq) fun _ _ => rfl).alloc _) (by simp; omega) L.length (by simp) ?_; intro ao1 cap1 w1 g1 hown1 hap1; have hV1 : View w1 (.slice aox M.length capx) b M := View.fr (((unhide hX).carry (w' := w.drewN nq) fun _ _ => rfl).alloc _) hap1.fr (fun hn => (by have h5 : b < w.heap.size := unhide hXl hn; exact ⟨Nat.ne_of_lt h5, Nat.ne_of_lt h5⟩)); have hB1 : Below w.heap.size w w1 := (belowN (Below.refl w.heap.size w) nq |>.alloc (Nat.le_refl _) _).trans (hap1.fr.below (Nat.le_refl _) (Nat.le_refl _) (by simp)); have hg1 : w.heap.size ≤ g1 := (by have := hap1.lies; simp at this; omega); clear hap1; replace hown1 := hide hown1; replace hV1 := hide hV1; replace hB1 := hide hB1) | (at_builtin; refine wpList_app rfl _ _ rfl rfl rfl (unhide hown1) (unhide hV1) (by simp; omega) (L.length + M.length) (by simp) ?_; intro ao2 cap2 w2 g2 hown2 hap2; obtain ⟨⟨v1, q1, _⟩, q2, hn⟩ := net_put2 (unhide hh) ((unhide hB1).trans (hap2.fr.below hg1 hg1 (unhide hB1).size)) hown2 (by have := hap2.lies; have := (unhide hB1).size; omega) (by simp; omega); replace hn := hide hn; clear hown2 hap2))
    go_ret
    obtain ⟨k1, k2, k3⟩ := unhide hn
    exact ⟨rfl, g2, k1, k2, k3⟩
end Go.Proofs.Ytajcebnbmejamaa
