/- The contracts of package num's calls and of the document's own answers for them (layer 1): what each returns, for every int64 (Mod, Double, Bit, Ones: within the bounds of int64), the world as it was. -/
import Derived.Test.YtooopcadefpncaaRows
import Derived.Test.YtooopcadefpncaaMath
import Derived.Test.YtooopcadefpncaaPop
import Derived.WalkKit
import Derived.ProofKit
import Derived.OpenShut
import Derived.Laws.BitsAllLaws
import Derived.Laws.Bits128
namespace Go.Proofs.Ytooopcadefpncaa
open Go.ChangeShapes Go.WideShapes Go.ChangeAt Go.RowKit

theorem bd64 {n : Int} (w : (Lit.int .i64 n).wf = true) : -9223372036854775808 ≤ n ∧ n ≤ 9223372036854775807 := by
  have := bounds_i64 w
  omega

theorem ret_int {k : IntKind} {a b : Int} (h : a = b) : Ending.returned (.int k a) = .returned (.int k b) := by rw [h]

theorem numClamp_any (n lo hi : Int) (w : World) :
    Calls Try.prog 50 #[.int .i64 n, .int .i64 lo, .int .i64 hi] w fun e w' => e = .returned (.int .i64 (clampZ n lo hi)) ∧ w' = w := by
  by_cases h1 : hi < lo
  · go_enter Try.func50, Try.ntmps50
    go_wp2
    go_ret
    exact ⟨by simp [clampZ, h1], rfl⟩
  · by_cases h2 : n < lo
    · go_enter Try.func50, Try.ntmps50
      go_wp2
      go_ret
      exact ⟨by simp [clampZ, h2], rfl⟩
    · by_cases h3 : hi < n
      all_goals
        go_enter Try.func50, Try.ntmps50
        go_wp2
        go_ret
        exact ⟨by simp [clampZ]; omega, rfl⟩

theorem numMod_any (n m : Int) (w : World) (h2 : m ≤ 9223372036854775807) :
    Calls Try.prog 77 #[.int .i64 n, .int .i64 m] w fun e w' => e = .returned (.int .i64 (modZ n m)) ∧ w' = w := by
  by_cases hm : m < 1
  · go_enter Try.func77, Try.ntmps77
    go_wp2
    go_ret
    exact ⟨by simp [modZ, hm], rfl⟩
  · have hz : modZ n m = n % m := by rw [modZ, if_neg hm]
    have H := hide hz
    clear hz
    have hb := Int.emod_lt_of_pos n (show 0 < m by omega)
    have hb0 := Int.emod_nonneg n (show m ≠ 0 by omega)
    by_cases hn : 0 ≤ n
    · go_enter Try.func77, Try.ntmps77
      go_wp2
      go_ret
      exact ⟨ret_int (unhide H).symm, rfl⟩
    · by_cases hr : n.tmod m < 0
      · have ht := tmod_neg n m (by omega) hr
        have H2 := hide ht
        have hlo : 0 ≤ n.tmod m + m := by omega
        have hhi : n.tmod m + m ≤ 9223372036854775807 := by omega
        clear ht
        go_enter Try.func77, Try.ntmps77
        go_wp2
        go_ret
        exact ⟨ret_int (by rw [unhide H2, unhide H]), rfl⟩
      · have H2 := hide (tmod_pos n m (by omega) (by omega))
        go_enter Try.func77, Try.ntmps77
        go_wp2
        go_ret
        exact ⟨ret_int (by rw [unhide H2, unhide H]), rfl⟩

/-! ### Bits -/
/-- The bits of a number, modulo 2^64. -/
def u64 (n : Int) : Nat := (n % 18446744073709551616).toNat
theorem u64_lt (n : Int) : u64 n < 18446744073709551616 := by unfold u64; omega
theorem u64_eq (n : Int) : (u64 n : Int) = n % 18446744073709551616 := by unfold u64; omega
theorem wrap_u64 (n : Int) : IntKind.u64.wrap n = (u64 n : Int) := by rw [u64_eq]; rfl
def bitB (n k : Int) : Bool := decide (0 ≤ k ∧ k ≤ 63 ∧ u64 n / 2 ^ k.toNat % 2 = 1)

def onesZ (n : Int) : Int := (popA 64 (u64 n) : Nat)
theorem onesZ_eq (n : Int) : ((popA 64 (u64 n) : Nat) : Int) = onesZ n := rfl
theorem onesZ_bd (n : Int) : 0 ≤ onesZ n ∧ onesZ n ≤ 64 := by have := popA_le 64 (u64 n); unfold onesZ; omega

end Go.Proofs.Ytooopcadefpncaa
