/- The document's Same at two lists alike (layer 11). -/
import Derived.Test.YtgaabbnfjapcjaaAtRow
import Derived.BigQuiet
namespace Go.Proofs.Ytgaabbnfjapcjaa
open Go.ChangeShapes Go.WideShapes Go.ChangeAt Go.RowKit
set_option linter.unusedSimpArgs false
set_option linter.unusedVariables false
set_option maxRecDepth 10000

attribute [local go_sem, local simp] over_const setCell_drewN alloc_drewN Over.cell Over.frozen lt_s1 lt_s2 lt_s3 le_s0 le_s1 le_s2 le_s3 eq_s0 eq_s1 eq_s2 qe_s0

set_option maxHeartbeats 1000000 in
theorem sameA_c (v1 v2 : Value) (b1 b2 : Nat) (L : List At) (w : World) (h1 : ViewA w v1 b1 L) (h2 : ViewA w v2 b2 L) : Calls Try.prog 17 #[v1, v2] w fun e w' => e = .returned (.bool true) ∧ ∃ n, w' = w.drewN n := by
  have hV := hide h1
  have hU := hide h2
  obtain ⟨ao1, cap1, rfl, hl1, hm1, hc1⟩ := h1
  obtain ⟨ao2, cap2, rfl, hl2, hm2, hc2⟩ := h2
  have hmx : L.length ≤ 9223372036854775807 := by unfold maxLen at hm1; omega
  clear hc1 hc2 hm1 hm2
  go_enter Try.func17, Try.ntmps17
  go_wp2_with fail
  go_loopw [5] (fun i wr => ∃ j : Nat, j ≤ L.length ∧ i = .int .i64 j ∧ ∃ n, wr = w.drewN n) (fun i _ => L.length - (intOf i).toNat)
  case atStart => exact ⟨0, Nat.zero_le _, rfl, 0, rfl⟩
  case round =>
    obtain ⟨j, hj, rfl, n, rfl⟩ := hrel
    by_cases hlt : j < L.length
    · obtain ⟨-, -, -, k1⟩ := view_atA (unhide hV) rfl
      obtain ⟨-, -, -, k2⟩ := view_atA (unhide hU) rfl
      obtain ⟨o1, rfl, g1, d0, d1, d2⟩ := k1 j hlt
      obtain ⟨o2, rfl, g2, f0, f1, f2⟩ := k2 j hlt
      generalize L[j] = l at d0 d1 d2 f0 f1 f2
      have hlt' : (j : Int) < L.length := by omega
      clear k1 k2 hV hU
      go_wp2_with fail
      go_quiet (fail)
      go_wp2_with fail
      all_goals
        go_roundw
        case rel => exact ⟨j + 1, by omega, by simp, _, rfl⟩
        case measure => simp [intOf]; omega
    · obtain rfl : j = L.length := by omega
      clear hV hU
      go_wp2_with fail
      go_ret
      exact ⟨rfl, n, rfl⟩
end Go.Proofs.Ytgaabbnfjapcjaa
