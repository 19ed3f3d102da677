/- The walk of NetSums: it returns true; no old memory turns. -/
import Derived.Test.YtajcebnbmejamaaActs
namespace Go.Proofs.Ytajcebnbmejamaa
open Go.ChangeShapes Go.WideShapes Go.ChangeAt Go.RowKit
set_option linter.unusedSimpArgs false
set_option linter.unusedVariables false

attribute [local go_sem, local simp] over_const setCell_drewN alloc_drewN Over.cell Over.frozen lt_s1 lt_s2 lt_s3 le_s0 le_s1 le_s2 le_s3 eq_s0 eq_s1 eq_s2 qe_s0

theorem box_act {w : World} {b : Nat} {t : TypeId} {k i : Int} {s : Value} (h : w.heap[b]? = some (.cells #[.int .i64 k, .int .i64 i, s] t (0, 0))) : w.cell? ⟨b, 0, none⟩ = some (.int .i64 k) ∧ w.cell? ⟨b, 1, none⟩ = some (.int .i64 i) ∧ w.cell? ⟨b, 2, none⟩ = some s := by
  have hc := fun j => cell_of_row w b j _ _ _ h
  exact ⟨hc 0, hc 1, hc 2⟩

theorem len_okT {L : List Lt} {i : Int} (h : okT L i = true) : i.toNat < L.length := by
  have : 0 ≤ i ∧ i < L.length := by simpa [okT] using h
  omega
theorem len_okD {L : List Lt} {i : Int} (h : okD L i = true) : i.toNat < L.length := by
  refine len_okT (i := i) ?_
  simp [okD] at h
  exact h.1

set_option maxHeartbeats 1000000 in
theorem NetSums_walk (r : Int) (v : Value) (A : List ActD) (w : World) (h : ActsAt w.heap.size w v A) : Calls Try.prog 8 #[.int .i64 r, v] w fun e w' => e = .returned (.bool true) ∧ Below w.heap.size w w' := by
  have hA := hide h
  obtain ⟨ao, cap, rfl, hlc, hmx, _⟩ := h
  have hmx' : cap ≤ 9223372036854775807 := by unfold maxLen at hmx; omega
  go_enter Try.func8, Try.ntmps8
  go_wp2_with fail
  go_at_call 9
  refine (awake6_any _).mono ?_
  rintro e w1 ⟨rfl, hb1⟩
  have s1 := hb1.size
  have hA1 : Hid (ActsAt w.heap.size w1 (.slice ao A.length cap) A) := (unhide hA).below hb1
  replace hb1 := hide hb1
  go_wp2_with fail
  go_at_call 10
  refine (great_c w.heap.size _ A _ (unhide hA1) s1).mono ?_
  rintro e w2 ⟨q, rfl, hb2, hq⟩
  have s2 := hb2.size
  have hB2 : Below w.heap.size w w2 := (unhide hb1).trans (hb2.mono s1)
  clear hb1 hb2 hA1
  cases q
  case true =>
    clear hq
    replace hB2 := hide hB2
    go_wp2_with fail
    go_at_call 9
    refine (awake6_any _).mono ?_
    rintro e w3 ⟨rfl, hb3⟩
    replace hb3 := hide hb3
    go_wp2_with fail
    go_ret
    exact ⟨rfl, (unhide hB2).trans ((unhide hb3).mono (by omega))⟩
  case false =>
    obtain ⟨h200, h50⟩ := hq rfl
    replace hB2 := hide hB2
    replace h50 := hide h50
    clear hq
    go_wp2_with fail
    go_at_call 11
    refine (new_c r _).mono ?_
    obtain ⟨R, hR⟩ : ∃ R, roomZ r = R := ⟨_, rfl⟩
    rw [hR]
    rintro e w3 ⟨rfl, hn3, hb3⟩
    have l3 := hn3.pl
    have hB3 : Below w.heap.size w w3 := (unhide hB2).trans (hb3.mono (by omega))
    clear hB2 hb3 hR
    replace hn3 := hide hn3
    replace hB3 := hide hB3
    go_wp2_with fail
    go_loopw [6, 24] (fun kk i wr => ∃ (j g : Nat) (L : List Lt), j ≤ A.length ∧ i = .int .i64 j ∧ kk = .int .i64 L.length ∧ NetIs wr w2.heap.size g R L ∧ w.heap.size ≤ g ∧ Below w.heap.size w wr) (fun _ i _ => A.length - (intOf i).toNat)
    case atStart => exact ⟨0, w2.heap.size, [], Nat.zero_le _, rfl, rfl, unhide hn3, by omega, unhide hB3⟩
    case round =>
      obtain ⟨j, g, L, hj, rfl, rfl, hn, hg, hb⟩ := hrel
      have lp := hn.pl
      have lg := hn.gl
      have ll := hn.len
      have sz := hb.size
      by_cases hlt : j < A.length
      · obtain ⟨ba, o, aoj, capj, rfl, hl, c0, c1, c2, hv, h7, h8, h9⟩ := acts_row (unhide hA) hb hlt
        have hm50 := unhide h50 j hlt
        generalize A[j] = a at c0 c1 c2 hv h7 h9 hm50
        obtain ⟨k, i, va, bm, M⟩ := a
        dsimp only at c0 c1 c2 hv h7 h9 hm50
        have hlt' : (j : Int) < A.length := by omega
        replace hb := hide hb
        replace hn := hide hn
        replace hv := hide hv
        replace h9 := hide h9
        by_cases k1 : k = 1
        · subst k1
          obtain ⟨N, hN⟩ : ∃ N, Hid (nxS R L M = N) := ⟨_, rfl⟩
          by_cases hq : okS R L M = true
          · have hNl : N.length = L.length + M.length := by rw [← hN.out]; simp [nxS, hq]
            replace hNl := hide hNl
            replace hq := hide hq
            go_wp2_with (first | (go_at_call 13; refine (send_c w2.heap.size g bm R L M _ _ ((unhide hn).alloc _) ((unhide hv).alloc _)).mono ?_; rw [hq.out, hN.out]; rintro e w4 ⟨rfl, g4, hn4, hf4, hg4⟩; simp only [World.size_alloc] at hg4; have s4 := hf4.size; simp only [World.size_alloc] at s4; obtain ⟨b0, b1, b2⟩ := box_act (w := w4) (b := wr.heap.size) ((hf4.block wr.heap.size (by simp) (by omega) (by omega)).trans (alloc_at0 wr _)); have hB4 : Below w.heap.size w w4 := ((unhide hb).alloc sz _).trans (hf4.below (by omega) hg (by simp; omega)); have lp4 := hn4.pl; replace hn4 := hide hn4; replace hB4 := hide hB4; clear hf4) | (go_at_call 21; refine (list_v w2.heap.size g4 R N _ (by first | exact unhide hn4 | exact (unhide hn4).alloc _) (L.length + M.length) (unhide hNl)).mono ?_; rintro e w5 ⟨ao5, cap5, b5, rfl, _, _, hB5⟩; replace hB5 := hide hB5))
            go_roundw
            case rel =>
              have l5 := (unhide hB5).size
              try simp only [World.size_alloc] at l5
              have s6 := (unhide hB4).size
              exact ⟨j + 1, g4, N, by omega, by simp, by first | rfl | (rw [unhide hNl]; try simp) , by first | exact (unhide hn4).below (unhide hB5) | exact ((unhide hn4).alloc _).below (unhide hB5), by omega, by first | exact (unhide hB4).trans ((unhide hB5).mono (by omega)) | exact ((unhide hB4).alloc (by omega) _).trans ((unhide hB5).mono (by simp; omega))⟩
            case measure => simp [intOf]; omega
          · replace hq : okS R L M = false := by simpa using hq
            have hNl : N.length = L.length := by rw [← hN.out]; simp [nxS, hq]
            replace hNl := hide hNl
            replace hq := hide hq
            go_wp2_with (first | (go_at_call 13; refine (send_c w2.heap.size g bm R L M _ _ ((unhide hn).alloc _) ((unhide hv).alloc _)).mono ?_; rw [hq.out, hN.out]; rintro e w4 ⟨rfl, g4, hn4, hf4, hg4⟩; simp only [World.size_alloc] at hg4; have s4 := hf4.size; simp only [World.size_alloc] at s4; obtain ⟨b0, b1, b2⟩ := box_act (w := w4) (b := wr.heap.size) ((hf4.block wr.heap.size (by simp) (by omega) (by omega)).trans (alloc_at0 wr _)); have hB4 : Below w.heap.size w w4 := ((unhide hb).alloc sz _).trans (hf4.below (by omega) hg (by simp; omega)); have lp4 := hn4.pl; replace hn4 := hide hn4; replace hB4 := hide hB4; clear hf4) | (go_at_call 21; refine (list_v w2.heap.size g4 R N _ (by first | exact unhide hn4 | exact (unhide hn4).alloc _) L.length (unhide hNl)).mono ?_; rintro e w5 ⟨ao5, cap5, b5, rfl, _, _, hB5⟩; replace hB5 := hide hB5))
            go_roundw
            case rel =>
              have l5 := (unhide hB5).size
              try simp only [World.size_alloc] at l5
              have s6 := (unhide hB4).size
              exact ⟨j + 1, g4, N, by omega, by simp, by first | rfl | (rw [unhide hNl]; try simp) , by first | exact (unhide hn4).below (unhide hB5) | exact ((unhide hn4).alloc _).below (unhide hB5), by omega, by first | exact (unhide hB4).trans ((unhide hB5).mono (by omega)) | exact ((unhide hB4).alloc (by omega) _).trans ((unhide hB5).mono (by simp; omega))⟩
            case measure => simp [intOf]; omega
        · by_cases k2 : k = 2
          · subst k2
            obtain ⟨N, hN⟩ : ∃ N, Hid (nxT L i = N) := ⟨_, rfl⟩
            by_cases hq : okT L i = true
            · obtain ⟨m, hm⟩ : ∃ m, L.length = m + 1 := ⟨L.length - 1, by have := len_okT hq; omega⟩
              have hNl : N.length = m := by rw [← hN.out]; simp only [nxT, hq, if_true]; rw [len_erase (len_okT hq)]; omega
              replace hNl := hide hNl
              replace hq := hide hq
              go_wp2_with (first | (go_at_call 15; refine (take_c w2.heap.size g R i L _ ((unhide hn).alloc _)).mono ?_; rw [hq.out, hN.out]; simp only [letV]; rintro e w4 ⟨rfl, hn4, hf4⟩; obtain ⟨g4, rfl⟩ : ∃ g4, g4 = g := ⟨_, rfl⟩; have s4 := hf4.size; simp only [World.size_alloc] at s4; obtain ⟨b0, b1, b2⟩ := box_act (w := w4) (b := wr.heap.size) ((hf4.block wr.heap.size (by simp) (by omega) (by omega)).trans (alloc_at0 wr _)); have hB4 : Below w.heap.size w w4 := ((unhide hb).alloc sz _).trans (hf4.below (by omega) hg (by simp; omega)); have lp4 := hn4.pl; replace hn4 := hide hn4; replace hB4 := hide hB4; clear hf4) | (go_at_call 21; refine (list_v w2.heap.size g4 R N _ (by first | exact unhide hn4 | exact (unhide hn4).alloc _) m (unhide hNl)).mono ?_; rintro e w5 ⟨ao5, cap5, b5, rfl, _, _, hB5⟩; replace hB5 := hide hB5))
              go_roundw
              case rel =>
                have l5 := (unhide hB5).size
                try simp only [World.size_alloc] at l5
                have s6 := (unhide hB4).size
                exact ⟨j + 1, g4, N, by omega, by simp, by first | rfl | (rw [unhide hNl]; try simp) , by first | exact (unhide hn4).below (unhide hB5) | exact ((unhide hn4).alloc _).below (unhide hB5), by omega, by first | exact (unhide hB4).trans ((unhide hB5).mono (by omega)) | exact ((unhide hB4).alloc (by omega) _).trans ((unhide hB5).mono (by simp; omega))⟩
              case measure => simp [intOf]; omega
            · replace hq : okT L i = false := by simpa using hq
              have hNl : N.length = L.length := by rw [← hN.out]; simp [nxT, hq]
              replace hNl := hide hNl
              replace hq := hide hq
              go_wp2_with (first | (go_at_call 15; refine (take_c w2.heap.size g R i L _ ((unhide hn).alloc _)).mono ?_; rw [hq.out, hN.out]; simp only [letV]; rintro e w4 ⟨rfl, hn4, hf4⟩; obtain ⟨g4, rfl⟩ : ∃ g4, g4 = g := ⟨_, rfl⟩; have s4 := hf4.size; simp only [World.size_alloc] at s4; obtain ⟨b0, b1, b2⟩ := box_act (w := w4) (b := wr.heap.size) ((hf4.block wr.heap.size (by simp) (by omega) (by omega)).trans (alloc_at0 wr _)); have hB4 : Below w.heap.size w w4 := ((unhide hb).alloc sz _).trans (hf4.below (by omega) hg (by simp; omega)); have lp4 := hn4.pl; replace hn4 := hide hn4; replace hB4 := hide hB4; clear hf4) | (go_at_call 21; refine (list_v w2.heap.size g4 R N _ (by first | exact unhide hn4 | exact (unhide hn4).alloc _) L.length (unhide hNl)).mono ?_; rintro e w5 ⟨ao5, cap5, b5, rfl, _, _, hB5⟩; replace hB5 := hide hB5))
              go_roundw
              case rel =>
                have l5 := (unhide hB5).size
                try simp only [World.size_alloc] at l5
                have s6 := (unhide hB4).size
                exact ⟨j + 1, g4, N, by omega, by simp, by first | rfl | (rw [unhide hNl]; try simp) , by first | exact (unhide hn4).below (unhide hB5) | exact ((unhide hn4).alloc _).below (unhide hB5), by omega, by first | exact (unhide hB4).trans ((unhide hB5).mono (by omega)) | exact ((unhide hB4).alloc (by omega) _).trans ((unhide hB5).mono (by simp; omega))⟩
              case measure => simp [intOf]; omega
          · by_cases k3 : k = 3
            · subst k3
              obtain ⟨N, hN⟩ : ∃ N, Hid (nxD L i = N) := ⟨_, rfl⟩
              by_cases hq : okD L i = true
              · obtain ⟨m, hm⟩ : ∃ m, L.length = m + 1 := ⟨L.length - 1, by have := len_okD hq; omega⟩
                have hNl : N.length = m := by rw [← hN.out]; simp only [nxD, hq, if_true]; rw [len_erase (len_okD hq)]; omega
                replace hNl := hide hNl
                replace hq := hide hq
                go_wp2_with (first | (go_at_call 17; refine (drop_c w2.heap.size g R i L _ ((unhide hn).alloc _)).mono ?_; rw [hq.out, hN.out]; rintro e w4 ⟨rfl, hn4, hf4⟩; obtain ⟨g4, rfl⟩ : ∃ g4, g4 = g := ⟨_, rfl⟩; have s4 := hf4.size; simp only [World.size_alloc] at s4; obtain ⟨b0, b1, b2⟩ := box_act (w := w4) (b := wr.heap.size) ((hf4.block wr.heap.size (by simp) (by omega) (by omega)).trans (alloc_at0 wr _)); have hB4 : Below w.heap.size w w4 := ((unhide hb).alloc sz _).trans (hf4.below (by omega) hg (by simp; omega)); have lp4 := hn4.pl; replace hn4 := hide hn4; replace hB4 := hide hB4; clear hf4) | (go_at_call 21; refine (list_v w2.heap.size g4 R N _ (by first | exact unhide hn4 | exact (unhide hn4).alloc _) m (unhide hNl)).mono ?_; rintro e w5 ⟨ao5, cap5, b5, rfl, _, _, hB5⟩; replace hB5 := hide hB5))
                go_roundw
                case rel =>
                  have l5 := (unhide hB5).size
                  try simp only [World.size_alloc] at l5
                  have s6 := (unhide hB4).size
                  exact ⟨j + 1, g4, N, by omega, by simp, by first | rfl | (rw [unhide hNl]; try simp) , by first | exact (unhide hn4).below (unhide hB5) | exact ((unhide hn4).alloc _).below (unhide hB5), by omega, by first | exact (unhide hB4).trans ((unhide hB5).mono (by omega)) | exact ((unhide hB4).alloc (by omega) _).trans ((unhide hB5).mono (by simp; omega))⟩
                case measure => simp [intOf]; omega
              · replace hq : okD L i = false := by simpa using hq
                have hNl : N.length = L.length := by rw [← hN.out]; simp [nxD, hq]
                replace hNl := hide hNl
                replace hq := hide hq
                go_wp2_with (first | (go_at_call 17; refine (drop_c w2.heap.size g R i L _ ((unhide hn).alloc _)).mono ?_; rw [hq.out, hN.out]; rintro e w4 ⟨rfl, hn4, hf4⟩; obtain ⟨g4, rfl⟩ : ∃ g4, g4 = g := ⟨_, rfl⟩; have s4 := hf4.size; simp only [World.size_alloc] at s4; obtain ⟨b0, b1, b2⟩ := box_act (w := w4) (b := wr.heap.size) ((hf4.block wr.heap.size (by simp) (by omega) (by omega)).trans (alloc_at0 wr _)); have hB4 : Below w.heap.size w w4 := ((unhide hb).alloc sz _).trans (hf4.below (by omega) hg (by simp; omega)); have lp4 := hn4.pl; replace hn4 := hide hn4; replace hB4 := hide hB4; clear hf4) | (go_at_call 21; refine (list_v w2.heap.size g4 R N _ (by first | exact unhide hn4 | exact (unhide hn4).alloc _) L.length (unhide hNl)).mono ?_; rintro e w5 ⟨ao5, cap5, b5, rfl, _, _, hB5⟩; replace hB5 := hide hB5))
                go_roundw
                case rel =>
                  have l5 := (unhide hB5).size
                  try simp only [World.size_alloc] at l5
                  have s6 := (unhide hB4).size
                  exact ⟨j + 1, g4, N, by omega, by simp, by first | rfl | (rw [unhide hNl]; try simp) , by first | exact (unhide hn4).below (unhide hB5) | exact ((unhide hn4).alloc _).below (unhide hB5), by omega, by first | exact (unhide hB4).trans ((unhide hB5).mono (by omega)) | exact ((unhide hB4).alloc (by omega) _).trans ((unhide hB5).mono (by simp; omega))⟩
                case measure => simp [intOf]; omega
            · have q1 : (k == 1) = false := by simp [k1]
              have q2 : (k == 2) = false := by simp [k2]
              have q3 : (k == 3) = false := by simp [k3]
              have r1 : decide (k = 1) = false := by simp [k1]
              have r2 : decide (k = 2) = false := by simp [k2]
              have r3 : decide (k = 3) = false := by simp [k3]
              obtain ⟨N, rfl⟩ : ∃ N, N = L := ⟨_, rfl⟩
              obtain ⟨g4, rfl⟩ : ∃ g4, g4 = g := ⟨_, rfl⟩
              have hNl : Hid (N.length = N.length) := rfl
              obtain ⟨w4, hw4⟩ : ∃ w4, Hid (wr.alloc (.cells #[.int .i64 k, .int .i64 i, .slice aoj M.length capj] 31) = w4) := ⟨_, rfl⟩
              have hn4 : Hid (NetIs w4 w2.heap.size g4 R N) := by rw [← hw4.out]; exact (unhide hn).alloc _
              have hB4 : Hid (Below w.heap.size w w4) := by rw [← hw4.out]; exact (unhide hb).alloc sz _
              go_wp2_with (go_at_call 21; rw [hw4.out]; refine (list_v w2.heap.size g4 R N _ (unhide hn4) N.length rfl).mono ?_; rintro e w5 ⟨ao5, cap5, b5, rfl, _, _, hB5⟩; replace hB5 := hide hB5)
              go_roundw
              case rel =>
                have l5 := (unhide hB5).size
                try simp only [World.size_alloc] at l5
                have s6 := (unhide hB4).size
                exact ⟨j + 1, g4, N, by omega, by simp, by first | rfl | (rw [unhide hNl]; try simp) , by first | exact (unhide hn4).below (unhide hB5) | exact ((unhide hn4).alloc _).below (unhide hB5), by omega, by first | exact (unhide hB4).trans ((unhide hB5).mono (by omega)) | exact ((unhide hB4).alloc (by omega) _).trans ((unhide hB5).mono (by simp; omega))⟩
              case measure => simp [intOf]; omega
      · replace hb := hide hb
        replace hn := hide hn
        go_wp2_with fail
        go_ret
        exact ⟨rfl, unhide hb⟩
end Go.Proofs.Ytajcebnbmejamaa
