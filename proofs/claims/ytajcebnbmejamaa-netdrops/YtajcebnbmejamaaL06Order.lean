/- The walk of NetOrder: it returns true; no old memory turns. -/
import Derived.Test.YtajcebnbmejamaaLaw06
namespace Go.Proofs.Ytajcebnbmejamaa
open Go.ChangeShapes Go.WideShapes Go.ChangeAt Go.RowKit
set_option linter.unusedSimpArgs false
set_option linter.unusedVariables false

attribute [local go_sem, local simp] over_const setCell_drewN alloc_drewN Over.cell Over.frozen lt_s1 lt_s2 lt_s3 le_s0 le_s1 le_s2 le_s3 eq_s0 eq_s1 eq_s2 qe_s0

theorem view_let {w : World} {ao : Option Addr} {n cap b : Nat} {L : List Lt} (h : View w (.slice ao n cap) b L) (hn : n = L.length) {k : Nat} (hk : k < L.length) : ∃ o, ao = some ⟨b, o, none⟩ ∧ b < w.heap.size ∧ ∀ j, j < L.length * 11 → w.cell? ⟨b, o + j, none⟩ = (flat L)[j]? := by
  obtain ⟨ao', cap', e, _, _, h3⟩ := h
  obtain ⟨rfl, _, rfl⟩ : ao' = ao ∧ L.length = n ∧ cap' = cap := by simpa [eq_comm] using e
  rcases h3 with rfl | ⟨o, rfl, h4, h5⟩
  · simp at hk
  · exact ⟨o, rfl, h4, h5⟩

theorem front_t (l : Lt) (M : List Lt) : okT (l :: M) 0 = true ∧ leT (l :: M) 0 = l ∧ nxT (l :: M) 0 = M := by
  have h : okT (l :: M) 0 = true := by simp [okT]
  exact ⟨h, by unfold leT; rw [if_pos h]; rfl, by unfold nxT; rw [if_pos h]; rfl⟩

set_option maxHeartbeats 2000000 in
theorem NetOrder_walk (v : Value) (b : Nat) (L : List Lt) (w : World) (hv : View w v b L) : Calls Try.prog 6 #[v] w fun e w' => e = .returned (.bool true) ∧ Below w.heap.size w w' := by
  have hV := hide hv
  obtain ⟨ao, cap, rfl, hlc, hmx, _⟩ := hv
  have hmx' : cap ≤ 9223372036854775807 := by unfold maxLen at hmx; omega
  by_cases c : (100 : Int) < L.length
  · go_enter Try.func6, Try.ntmps6
    go_wp2_with fail
    go_at_call 9
    refine (awake6_any _).mono ?_
    rintro e w1 ⟨rfl, hb1⟩
    replace hb1 := hide hb1
    go_wp2_with fail
    go_at_call 9
    refine (awake6_any _).mono ?_
    rintro e w2 ⟨rfl, hb2⟩
    replace hb2 := hide hb2
    go_wp2_with fail
    go_ret
    exact ⟨rfl, (unhide hb1).trans ((unhide hb2).mono (unhide hb1).size)⟩
  · obtain ⟨R, hR⟩ : ∃ R : Int, roomZ L.length = R := ⟨_, rfl⟩
    have hR' : R = L.length := by rw [← hR]; unfold roomZ; split <;> (try split) <;> omega
    go_enter Try.func6, Try.ntmps6
    go_wp2_with fail
    go_at_call 9
    refine (awake6_any _).mono ?_
    rintro e w1 ⟨rfl, hb1⟩
    have s1 := hb1.size
    replace hb1 := hide hb1
    go_wp2_with fail
    go_at_call 11
    refine (new_c _ _).mono ?_
    rw [hR]
    rintro e w2 ⟨rfl, hn2, hb2⟩
    have l2 := hn2.pl
    have hB : Below w.heap.size w w2 := (unhide hb1).trans (hb2.mono s1)
    clear hb1 hb2
    replace hn2 := hide hn2
    replace hB := hide hB
    replace hR' := hide hR'
    clear hR
    go_wp2_with fail
    go_loopw [27] (fun i wr => ∃ (j g : Nat), j ≤ L.length ∧ i = .int .i64 j ∧ NetIs wr w1.heap.size g R (L.take j) ∧ w.heap.size ≤ g ∧ Below w.heap.size w wr) (fun i _ => L.length - (intOf i).toNat)
    case atStart => exact ⟨0, w1.heap.size, Nat.zero_le _, rfl, unhide hn2, s1, unhide hB⟩
    case round =>
      obtain ⟨j, g, hj, rfl, hn, hg, hb⟩ := hrel
      have lp := hn.pl
      have lg := hn.gl
      have sz := hb.size
      by_cases hlt : j < L.length
      · obtain ⟨l, hl⟩ : ∃ l, L[j] = l := ⟨_, rfl⟩
        obtain ⟨o, rfl, hbl, hc⟩ := view_let (unhide hV) rfl hlt
        obtain ⟨d0, d1, d2, d3, d4, d5, d6, d7, d8, d9, d10⟩ := own_let (w := wr) rfl (fun j hj => (hb.cell (p := ⟨b, o + j, none⟩) hbl).trans (hc j hj)) hlt l hl
        have hlt' : (j : Int) < L.length := by omega
        have eS : okS R (L.take j) [l] = true := by have := unhide hR'; simp [okS]; omega
        have eN : nxS R (L.take j) [l] = L.take (j + 1) := by simp only [nxS, eS, if_true]; rw [List.take_succ_eq_append_getElem hlt, hl]
        replace hb := hide hb
        replace hn := hide hn
        replace eS := hide eS
        replace eN := hide eN
        clear hc hl
        go_wp2_with (go_at_call 13; refine (send_c w1.heap.size g (wr.heap.size + 1) R (L.take j) [l] _ _ (((unhide hn).alloc _).alloc _) (view_row [l] rfl (alloc_at1 wr _ _) (by simp [maxLen]) 1 rfl)).mono ?_; rw [eS.out, eN.out]; rintro e w3 ⟨rfl, g3, hn3, hf3, hg3⟩; replace hn3 := hide hn3; replace hf3 := hide hf3)
        go_roundw
        case rel =>
          have hf := unhide hf3
          simp only [World.size_alloc] at hg3
          exact ⟨j + 1, g3, by omega, by simp, unhide hn3, by omega, (((unhide hb).alloc (by omega) _).alloc (by simp; omega) _).trans (hf.below (by omega) hg (by simp; omega))⟩
        case measure => simp [intOf]; omega
      · obtain rfl : j = L.length := by omega
        rw [List.take_length] at hn
        replace hb := hide hb
        replace hn := hide hn
        go_wp2_with fail
        go_loopw [39] (fun i wq => ∃ j : Nat, j ≤ L.length ∧ i = .int .i64 j ∧ NetIs wq w1.heap.size g R (L.drop j) ∧ Below w.heap.size w wq) (fun i _ => L.length - (intOf i).toNat)
        case atStart => exact ⟨0, Nat.zero_le _, rfl, unhide hn, unhide hb⟩
        case round =>
          clear hn hb hn2 hB
          obtain ⟨j, hj, rfl, hn, hb⟩ := hrel
          clear lp lg sz
          have lp := hn.pl
          have lg := hn.gl
          have sz := hb.size
          by_cases hlt : j < L.length
          · obtain ⟨l, hl⟩ : ∃ l, L[j] = l := ⟨_, rfl⟩
            obtain ⟨o, rfl, hbl, hc⟩ := view_let (unhide hV) rfl hlt
            obtain ⟨d0, d1, d2, d3, d4, d5, d6, d7, d8, d9, d10⟩ := own_let (w := wr) rfl (fun j hj => (hb.cell (p := ⟨b, o + j, none⟩) hbl).trans (hc j hj)) hlt l hl
            have hlt' : (j : Int) < L.length := by omega
            have eD : L.drop j = l :: L.drop (j + 1) := by rw [← hl]; exact List.drop_eq_getElem_cons hlt
            have e1 : okT (L.drop j) 0 = true := by rw [eD]; exact (front_t l _).1
            have e2 : leT (L.drop j) 0 = l := by rw [eD]; exact (front_t l _).2.1
            have e3 : nxT (L.drop j) 0 = L.drop (j + 1) := by rw [eD]; exact (front_t l _).2.2
            replace hb := hide hb
            replace hn := hide hn
            replace e1 := hide e1
            replace e2 := hide e2
            replace e3 := hide e3
            clear hc hl eD
            go_wp2_with (go_at_call 15; refine (take_c w1.heap.size g R 0 (L.drop j) _ ((unhide hn).alloc _)).mono ?_; rw [e1.out, e2.out, e3.out]; simp only [letV]; rintro e w3 ⟨rfl, hn3, hf3⟩; have s3 := hf3.size; simp only [World.size_alloc] at s3; obtain ⟨a0, a1, a2, a3, a4, a5, a6, a7, a8, a9, a10, _⟩ := box_let (w := w3) (b := wr.heap.size) l ((hf3.block wr.heap.size (by simp) (by omega) (by omega)).trans (alloc_at0 wr _)); have u1 : wr.heap.size < w3.heap.size := (by omega); replace hn3 := hide hn3; replace hf3 := hide hf3)
            go_roundw
            case rel =>
              have hf := unhide hf3
              exact ⟨j + 1, by omega, by simp, (unhide hn3).alloc _, (((unhide hb).alloc (by omega) _).trans (hf.below (by omega) hg (by simp; omega))).alloc (by omega) _⟩
            case measure => simp [intOf]; omega
          · obtain rfl : j = L.length := by omega
            rw [List.drop_length] at hn
            replace hb := hide hb
            replace hn := hide hn
            go_wp2_with (go_at_call 15; refine (take_c w1.heap.size g R 0 [] _ (unhide hn)).mono ?_; rw [show okT [] 0 = false from rfl, show nxT [] 0 = [] from rfl, show letV (leT [] 0) = letV zeroL from rfl]; simp only [letV, zeroL]; rintro e w3 ⟨rfl, hn3, hf3⟩; replace hf3 := hide hf3)
            go_ret
            have hf := unhide hf3
            exact ⟨rfl, ((unhide hb).trans (hf.below (by omega) hg (by omega))).alloc (by have := hf.size; omega) _⟩
end Go.Proofs.Ytajcebnbmejamaa
