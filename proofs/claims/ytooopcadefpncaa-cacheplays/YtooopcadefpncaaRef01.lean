/- The contracts of the document's own answers for layer 1 (jetonref01): each returns what the plain mathematics says, the world as it was. Double: within int64. -/
import Derived.Test.YtooopcadefpncaaNum
namespace Go.Proofs.Ytooopcadefpncaa
open Go.ChangeShapes Go.WideShapes Go.ChangeAt Go.RowKit

theorem refClamp_any (n lo hi : Int) (w : World) :
    Calls Try.prog 51 #[.int .i64 n, .int .i64 lo, .int .i64 hi] w fun e w' => e = .returned (.int .i64 (clampZ n lo hi)) ∧ w' = w := by
  by_cases h1 : hi < lo
  · go_enter Try.func51, Try.ntmps51
    go_wp2
    go_ret
    exact ⟨by simp [clampZ, h1], rfl⟩
  · by_cases h2 : n < lo
    · go_enter Try.func51, Try.ntmps51
      go_wp2
      go_ret
      exact ⟨by simp [clampZ, h2], rfl⟩
    · by_cases h3 : hi < n
      all_goals
        go_enter Try.func51, Try.ntmps51
        go_wp2
        go_ret
        exact ⟨by simp [clampZ]; omega, rfl⟩

theorem refMod_any (n m : Int) (w : World) (h2 : m ≤ 9223372036854775807) :
    Calls Try.prog 72 #[.int .i64 n, .int .i64 m] w fun e w' => e = .returned (.int .i64 (modZ n m)) ∧ w' = w := by
  by_cases hm : m < 1
  · go_enter Try.func72, Try.ntmps72
    go_wp2
    go_ret
    exact ⟨by simp [modZ, hm], rfl⟩
  · have hz : modZ n m = n % m := by rw [modZ, if_neg hm]
    have H := hide hz
    clear hz
    have hb := Int.emod_lt_of_pos n (show 0 < m by omega)
    have hb0 := Int.emod_nonneg n (show m ≠ 0 by omega)
    by_cases hn : 0 ≤ n
    · go_enter Try.func72, Try.ntmps72
      go_wp2
      go_ret
      exact ⟨ret_int (unhide H).symm, rfl⟩
    · by_cases hr : n.tmod m < 0
      · have ht := tmod_neg n m (by omega) hr
        have H2 := hide ht
        have hlo : 0 ≤ n.tmod m + m := by omega
        have hhi : n.tmod m + m ≤ 9223372036854775807 := by omega
        clear ht
        go_enter Try.func72, Try.ntmps72
        go_wp2
        go_ret
        exact ⟨ret_int (by rw [unhide H2, unhide H]), rfl⟩
      · have H2 := hide (tmod_pos n m (by omega) (by omega))
        go_enter Try.func72, Try.ntmps72
        go_wp2
        go_ret
        exact ⟨ret_int (by rw [unhide H2, unhide H]), rfl⟩

end Go.Proofs.Ytooopcadefpncaa
