/- The contracts of the document's answer on nets (jetonref06): Drop (layer 6). -/
import Derived.Test.YtajcebnbmejamaaNetI
namespace Go.Proofs.Ytajcebnbmejamaa
open Go.ChangeShapes Go.WideShapes Go.ChangeAt Go.RowKit
set_option linter.unusedSimpArgs false
set_option linter.unusedVariables false

attribute [local go_sem, local simp] over_const setCell_drewN alloc_drewN Over.cell Over.frozen lt_s1 lt_s2 lt_s3 le_s0 le_s1 le_s2 le_s3 eq_s0 eq_s1 eq_s2 qe_s0

set_option maxHeartbeats 1000000 in
theorem rdrop_c (p g : Nat) (R i : Int) (L : List Lt) (w : World) (h : NetIs w p g R L) : Calls Try.prog 18 #[ptr p, .int .i64 i] w fun e w' => e = .returned (.bool (okD L i)) ∧ ∃ g', NetIs w' p g' R (nxD L i) ∧ Fr p g w w' ∧ (g' = g ∨ w.heap.size ≤ g') := by
  have hl := h.len
  have hh := hide h
  have hpl := h.pl
  have hgl := h.gl
  by_cases c : okT L i = true
  · obtain ⟨c1, c2⟩ : 0 ≤ i ∧ i < L.length := by simpa [okT] using c
    obtain ⟨k, rfl⟩ : ∃ k : Nat, i = k := ⟨i.toNat, by omega⟩
    have hk : k < L.length := by omega
    obtain ⟨l, hlk⟩ : ∃ l, L[k] = l := ⟨_, rfl⟩
    have e1 : leT L k = l := by simp [leT, c, hk, hlk]
    obtain ⟨v, h1, h2, h3⟩ := h.c1
    obtain ⟨ao, cap, rfl, hlc, hmx, hg, hw⟩ := h2
    rcases hw with ⟨rfl, rfl⟩ | ⟨o, rfl, hc, hsp⟩
    · omega
    obtain ⟨d0, d1, d2, d3, d4, d5, d6, d7, d8, d9, d10⟩ := own_let rfl hc hk l hlk
    have hmx' : cap ≤ 9223372036854775807 := by unfold maxLen at hmx; omega
    clear h hc hsp h3
    by_cases q : l.k = 2
    · have e3 : okD L k = true := by simp [okD, c, e1, q]
      have e2 : nxD L k = nxT L k := by simp [nxD, nxT, e3, c]
      rw [e2, e3]
      rw [q] at d0
      clear e1 e2 e3 hlk
      go_enter Try.func18, Try.ntmps18
      go_wp2_with (go_at_call 16; refine (rtake_c p g R k L _ (unhide hh)).mono ?_; rintro e w2 ⟨rfl, g2, hn⟩; replace hn := hide hn)
      go_ret
      exact ⟨rfl, g2, unhide hn⟩
    · have e3 : okD L k = false := by simp [okD, c, e1, q]
      have e2 : nxD L k = L := by simp [nxD, e3]
      rw [e2, e3]
      have q1 : decide (l.k = 2) = false := by simp [q]
      have q2 : (l.k == 2) = false := by simp [q]
      have q3 : (l.k != 2) = true := by simp [q]
      clear e1 e2 e3 hlk
      go_enter Try.func18, Try.ntmps18
      go_wp2_with fail
      all_goals
        go_ret
        exact ⟨rfl, g, unhide hh, Fr.refl _ _ _, .inl rfl⟩
  · replace c : okT L i = false := by simpa using c
    have e1 : okD L i = false := by simp [okD, c]
    have e2 : nxD L i = L := by simp [nxD, e1]
    rw [e1, e2]
    have c' : i < 0 ∨ (0 ≤ i ∧ (L.length : Int) ≤ i) := by simp [okT] at c; omega
    obtain ⟨v, h1, h2, h3⟩ := h.c1
    obtain ⟨ao, cap, rfl, hlc, hmx, hg, hw⟩ := h2
    clear h h3 hw e1 e2
    rcases c' with c' | ⟨c', c''⟩
    all_goals
      go_enter Try.func18, Try.ntmps18
      go_wp2_with fail
      go_ret
      exact ⟨rfl, g, unhide hh, Fr.refl _ _ _, .inl rfl⟩
end Go.Proofs.Ytajcebnbmejamaa
