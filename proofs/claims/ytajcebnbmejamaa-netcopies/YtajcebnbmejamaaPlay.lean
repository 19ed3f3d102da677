/- The contract of play (layer 6): some calls on a net. -/
import Derived.Test.YtajcebnbmejamaaL06Sums
namespace Go.Proofs.Ytajcebnbmejamaa
open Go.ChangeShapes Go.WideShapes Go.ChangeAt Go.RowKit
set_option linter.unusedSimpArgs false
set_option linter.unusedVariables false

attribute [local go_sem, local simp] over_const setCell_drewN alloc_drewN Over.cell Over.frozen lt_s1 lt_s2 lt_s3 le_s0 le_s1 le_s2 le_s3 eq_s0 eq_s1 eq_s2 qe_s0

/-- What a call makes of a net's letters. -/
def actL (R : Int) (L : List Lt) (a : ActD) : List Lt := if a.k = 1 then nxS R L a.M else if a.k = 2 then nxT L a.i else if a.k = 3 then nxD L a.i else L
def playL (R : Int) (L : List Lt) (A : List ActD) : List Lt := A.foldl (actL R) L

theorem playL_succ (R : Int) (L : List Lt) (A : List ActD) (j : Nat) (hj : j < A.length) : playL R L (A.take (j + 1)) = actL R (playL R L (A.take j)) A[j] := by
  unfold playL
  rw [List.take_succ_eq_append_getElem hj, List.foldl_append]
  rfl

set_option maxHeartbeats 1000000 in
theorem play_c (B p g : Nat) (R : Int) (L : List Lt) (v : Value) (A : List ActD) (w : World) (h : NetIs w p g R L) (hA0 : ActsAt B w v A) (hBp : B ≤ p) (hBg : B ≤ g) : Calls Try.prog 22 #[ptr p, v] w fun e w' => e = .returned (.tuple #[]) ∧ ∃ g', NetIs w' p g' R (playL R L A) ∧ Fr p g w w' ∧ (g' = g ∨ w.heap.size ≤ g') := by
  have hA := hide hA0
  have hn0 := hide h
  have lp0 := h.pl
  have lg0 := h.gl
  obtain ⟨ao, cap, rfl, hlc, hmx, _⟩ := hA0
  have hmx' : cap ≤ 9223372036854775807 := by unfold maxLen at hmx; omega
  clear h
  go_enter Try.func22, Try.ntmps22
  go_wp2_with fail
  go_loopw [8] (fun i wr => ∃ (j g' : Nat), j ≤ A.length ∧ i = .int .i64 j ∧ NetIs wr p g' R (playL R L (A.take j)) ∧ Fr p g w wr ∧ (g' = g ∨ w.heap.size ≤ g')) (fun i _ => A.length - (intOf i).toNat)
  case atStart => exact ⟨0, g, Nat.zero_le _, rfl, unhide hn0, Fr.refl _ _ _, .inl rfl⟩
  case round =>
    obtain ⟨j, g', hj, rfl, hn, hf, hg⟩ := hrel
    have lp := hn.pl
    have lg := hn.gl
    have sz := hf.size
    by_cases hlt : j < A.length
    · obtain ⟨ba, o, aoj, capj, rfl, hl, c0, c1, c2, hv, h7, h8, h9⟩ := acts_row (unhide hA) (hf.below hBp hBg (by omega)) hlt
      have hsu := playL_succ R L A j hlt
      generalize A[j] = a at c0 c1 c2 hv h7 h9 hsu
      obtain ⟨k, i, va, bm, M⟩ := a
      dsimp only at c0 c1 c2 hv h7 h9
      generalize playL R L (A.take j) = L1 at hn hsu
      have hlt' : (j : Int) < A.length := by omega
      replace hf := hide hf
      replace hn := hide hn
      replace hv := hide hv
      replace h9 := hide h9
      by_cases k1 : k = 1
      · subst k1
        have hsu : Hid (playL R L (A.take (j + 1)) = nxS R L1 M) := hide (by rw [hsu]; simp [actL])
        replace hlt' := hlt'
        go_wp2_with (go_at_call 13; refine (send_c p g' bm R L1 M _ _ ((unhide hn).alloc _) ((unhide hv).alloc _)).mono ?_; rintro e w4 ⟨rfl, g4, hn4, hf4, hg4⟩; simp only [World.size_alloc] at hg4; replace hn4 := hide hn4; replace hf4 := hide hf4)
        go_roundw
        case rel =>
          have hfx := unhide hf4
          have s4 := hfx.size
          simp only [World.size_alloc] at s4
          refine ⟨j + 1, g4, by omega, by simp, ?_, ((unhide hf).alloc _).trans hfx (.inl rfl) (by first | omega | exact hg.elim (fun e => .inr (.inl e)) (fun e => .inr (.inr e))), by omega⟩
          rw [hsu.out]
          exact unhide hn4
        case measure => simp [intOf]; omega
      · by_cases k2 : k = 2
        · subst k2
          have hsu : Hid (playL R L (A.take (j + 1)) = nxT L1 i) := hide (by rw [hsu]; simp [actL])
          replace hlt' := hlt'
          go_wp2_with (go_at_call 15; refine (take_c p g' R i L1 _ ((unhide hn).alloc _)).mono ?_; rintro e w4 ⟨rfl, hn4, hf4⟩; obtain ⟨g4, rfl⟩ : ∃ g4, g4 = g' := ⟨_, rfl⟩; replace hn4 := hide hn4; replace hf4 := hide hf4)
          go_roundw
          case rel =>
            have hfx := unhide hf4
            have s4 := hfx.size
            simp only [World.size_alloc] at s4
            refine ⟨j + 1, g4, by omega, by simp, ?_, ((unhide hf).alloc _).trans hfx (.inl rfl) (by first | omega | exact hg.elim (fun e => .inr (.inl e)) (fun e => .inr (.inr e))), by omega⟩
            rw [hsu.out]
            exact unhide hn4
          case measure => simp [intOf]; omega
        · by_cases k3 : k = 3
          · subst k3
            have hsu : Hid (playL R L (A.take (j + 1)) = nxD L1 i) := hide (by rw [hsu]; simp [actL])
            replace hlt' := hlt'
            go_wp2_with (go_at_call 17; refine (drop_c p g' R i L1 _ ((unhide hn).alloc _)).mono ?_; rintro e w4 ⟨rfl, hn4, hf4⟩; obtain ⟨g4, rfl⟩ : ∃ g4, g4 = g' := ⟨_, rfl⟩; replace hn4 := hide hn4; replace hf4 := hide hf4)
            go_roundw
            case rel =>
              have hfx := unhide hf4
              have s4 := hfx.size
              simp only [World.size_alloc] at s4
              refine ⟨j + 1, g4, by omega, by simp, ?_, ((unhide hf).alloc _).trans hfx (.inl rfl) (by first | omega | exact hg.elim (fun e => .inr (.inl e)) (fun e => .inr (.inr e))), by omega⟩
              rw [hsu.out]
              exact unhide hn4
            case measure => simp [intOf]; omega
          · have q1 : (k == 1) = false := by simp [k1]
            have q2 : (k == 2) = false := by simp [k2]
            have q3 : (k == 3) = false := by simp [k3]
            have r1 : decide (k = 1) = false := by simp [k1]
            have r2 : decide (k = 2) = false := by simp [k2]
            have r3 : decide (k = 3) = false := by simp [k3]
            have hsu : Hid (playL R L (A.take (j + 1)) = L1) := hide (by rw [hsu]; simp [actL, k1, k2, k3])
            go_wp2_with fail
            go_roundw
            case rel =>
              refine ⟨j + 1, g', by omega, by simp, ?_, (unhide hf).alloc _, hg⟩
              rw [hsu.out]
              exact (unhide hn).alloc _
            case measure => simp [intOf]; omega
    · obtain rfl : j = A.length := by omega
      rw [List.take_length] at hn
      replace hf := hide hf
      replace hn := hide hn
      go_wp2_with fail
      go_returns
      exact ⟨rfl, g', unhide hn, unhide hf, hg⟩
end Go.Proofs.Ytajcebnbmejamaa
