/- The contract of package net's Drop (layer 6). -/
import Derived.Test.YtajcebnbmejamaaNetE
namespace Go.Proofs.Ytajcebnbmejamaa
open Go.ChangeShapes Go.WideShapes Go.ChangeAt Go.RowKit
set_option linter.unusedSimpArgs false
set_option linter.unusedVariables false

attribute [local go_sem, local simp] over_const setCell_drewN alloc_drewN Over.cell Over.frozen lt_s1 lt_s2 lt_s3 le_s0 le_s1 le_s2 le_s3 eq_s0 eq_s1 eq_s2 qe_s0

set_option maxHeartbeats 1000000 in
theorem drop_c (p g : Nat) (R i : Int) (L : List Lt) (w : World) (h : NetIs w p g R L) : Calls Try.prog 17 #[ptr p, .int .i64 i] w fun e w' => e = .returned (.bool (okD L i)) ∧ NetIs w' p g R (nxD L i) ∧ Fr p g w w' := by
  have hl := h.len
  have hh := hide h
  have hpl := h.pl
  have hgl := h.gl
  by_cases c : okT L i = true
  · obtain ⟨c1, c2⟩ : 0 ≤ i ∧ i < L.length := by simpa [okT] using c
    obtain ⟨k, rfl⟩ : ∃ k : Nat, i = k := ⟨i.toNat, by omega⟩
    have hk : k < L.length := by omega
    obtain ⟨l, hlk⟩ : ∃ l, L[k] = l := ⟨_, rfl⟩
    have e1 : leT L k = l := by simp [leT, c, hk, hlk]
    obtain ⟨q, hq⟩ : ∃ q, decide (l.k = 2) = q := ⟨_, rfl⟩
    have e3 : okD L k = q := by simp [okD, c, e1, hq]
    have e2 : nxD L k = if q = true then L.eraseIdx k else L := by simp [nxD, e3]
    rw [e2, e3]
    obtain ⟨v, h1, h2, h3⟩ := h.c1
    obtain ⟨ao, cap, rfl, hlc, hmx, hg, hw⟩ := h2
    rcases hw with ⟨rfl, rfl⟩ | ⟨o, rfl, hc, hsp⟩
    · omega
    obtain ⟨d0, d1, d2, d3, d4, d5, d6, d7, d8, d9, d10⟩ := own_let rfl hc hk l hlk
    have hmx' : cap ≤ 9223372036854775807 := by unfold maxLen at hmx; omega
    have hq' := hide hq
    clear h hc hsp h3 e1 e2 e3 hlk hq
    cases q
    all_goals
      go_enter Try.func17, Try.ntmps17
      go_wp2_with (first | (go_at_call 23; refine (has_c p g R k L _ (unhide hh)).mono ?_; rw [c]; rintro e w' ⟨rfl, rfl⟩) | (go_at_call 25; refine (drops_c l _).mono ?_; rw [hq'.out]; rintro e w1 ⟨rfl, hb⟩; replace hb := hide hb) | (go_at_call 24; refine (remove_c p g k R L _ ((unhide hh).below (unhide hb)) hk).mono ?_; rintro e w2 ⟨rfl, hn, hfr⟩; replace hn := hide hn; replace hfr := hide hfr))
      go_ret
      first
      | exact ⟨rfl, (unhide hh).below (unhide hb), Fr.of_below (unhide hb)⟩
      | exact ⟨rfl, unhide hn, (Fr.of_below (unhide hb)).trans (unhide hfr) (.inl rfl) (.inr (.inl rfl))⟩
  · replace c : okT L i = false := by simpa using c
    have e1 : okD L i = false := by simp [okD, c]
    have e2 : nxD L i = L := by simp [nxD, e1]
    rw [e1, e2]
    clear h
    go_enter Try.func17, Try.ntmps17
    go_wp2_with (go_at_call 23; refine (has_c p g R i L _ (unhide hh)).mono ?_; rw [c]; rintro e w' ⟨rfl, rfl⟩)
    go_ret
    exact ⟨rfl, unhide hh, Fr.refl _ _ _⟩
end Go.Proofs.Ytajcebnbmejamaa
