/- The contracts of the document's answer on nets (jetonref06), and of jetonref04's Same (layer 6). -/
import Derived.Test.YtajcebnbmejamaaNetE
namespace Go.Proofs.Ytajcebnbmejamaa
open Go.ChangeShapes Go.WideShapes Go.ChangeAt Go.RowKit
set_option linter.unusedSimpArgs false
set_option linter.unusedVariables false

attribute [local go_sem, local simp] over_const setCell_drewN alloc_drewN Over.cell Over.frozen lt_s1 lt_s2 lt_s3 le_s0 le_s1 le_s2 le_s3 eq_s0 eq_s1 eq_s2 qe_s0

set_option maxHeartbeats 1000000 in
theorem rnew_c (r : Int) (w : World) : Calls Try.prog 12 #[.int .i64 r] w fun e w' => e = .returned (ptr w.heap.size) ∧ NetIs w' w.heap.size w.heap.size (roomZ r) [] ∧ Below w.heap.size w w' := by
  obtain ⟨R, hR, h0, h1⟩ : ∃ R, roomZ r = R ∧ 0 ≤ R ∧ R ≤ 65536 := ⟨_, rfl, by unfold roomZ; split <;> (try split) <;> omega, by unfold roomZ; split <;> (try split) <;> omega⟩
  rw [hR]
  have e : (r < 0 ∧ R = 0) ∨ (0 ≤ r ∧ r ≤ 65536 ∧ R = r) ∨ (65536 < r ∧ R = 65536) := by unfold roomZ at hR; split at hR <;> (try split at hR) <;> omega
  clear hR
  rcases e with ⟨e1, rfl⟩ | ⟨e1, e2, rfl⟩ | ⟨e1, rfl⟩
  all_goals
    go_enter Try.func12, Try.ntmps12
    go_wp2
    all_goals
      go_ret
      refine ⟨rfl, ⟨by simp, by omega, by omega, by simp; try omega, ?_, ⟨.slice none 0 0, by simp, ⟨none, 0, rfl, Nat.le_refl _, Nat.zero_le _, by simp, .inl ⟨rfl, rfl⟩⟩, fun _ => rfl⟩, by simp⟩, (Below.refl _ _).alloc (Nat.le_refl _) _⟩
      simp
      try omega

set_option maxHeartbeats 2000000 in
theorem same_c (v1 v2 : Value) (b1 b2 : Nat) (L : List Lt) (w : World) (h1 : View w v1 b1 L) (h2 : View w v2 b2 L) : Calls Try.prog 20 #[v1, v2] w fun e w' => e = .returned (.bool true) ∧ ∃ n, w' = w.drewN n := by
  obtain ⟨ao1, cap1, rfl, hl1, hm1, hc1⟩ := h1
  obtain ⟨ao2, cap2, rfl, hl2, hm2, hc2⟩ := h2
  have hC1 := hide hc1
  have hC2 := hide hc2
  have hmx : L.length ≤ 9223372036854775807 := by unfold maxLen at hm1; omega
  clear hc1 hc2
  go_enter Try.func20, Try.ntmps20
  go_wp2_with fail
  go_loopw [5] (fun i wr => ∃ j : Nat, j ≤ L.length ∧ i = .int .i64 j ∧ ∃ n, wr = w.drewN n) (fun i _ => L.length - (intOf i).toNat)
  case atStart => exact ⟨0, Nat.zero_le _, rfl, 0, rfl⟩
  case round =>
    obtain ⟨j, hj, rfl, n, rfl⟩ := hrel
    by_cases hlt : j < L.length
    · obtain ⟨l, hl⟩ : ∃ l, L[j] = l := ⟨_, rfl⟩
      rcases unhide hC1 with rfl | ⟨o1, rfl, g1, k1⟩
      · simp at hlt
      rcases unhide hC2 with rfl | ⟨o2, rfl, g2, k2⟩
      · simp at hlt
      obtain ⟨d0, d1, d2, d3, d4, d5, d6, d7, d8, d9, d10⟩ := own_let rfl k1 hlt l hl
      obtain ⟨f0, f1, f2, f3, f4, f5, f6, f7, f8, f9, f10⟩ := own_let rfl k2 hlt l hl
      have hlt' : (j : Int) < L.length := by omega
      clear k1 k2 hC1 hC2 hl
      go_wp2_with fail
      go_quiet (fail)
      go_wp2_with fail
      all_goals
        go_roundw
        case rel => exact ⟨j + 1, by omega, by simp, _, rfl⟩
        case measure => simp [intOf]; omega
    · obtain rfl : j = L.length := by omega
      clear hC1 hC2
      go_wp2_with fail
      go_ret
      exact ⟨rfl, n, rfl⟩
end Go.Proofs.Ytajcebnbmejamaa
