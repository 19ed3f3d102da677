/- The contracts of package num's calls and of the document's own answers for them (layer 1): what each returns, for every int64 (Mod, Double, Bit, Ones: within the bounds of int64), the world as it was. -/
import Derived.Test.YtafccninjjhibaaRows
import Derived.Test.YtafccninjjhibaaMath
import Derived.Test.YtafccninjjhibaaPop
import Derived.WalkKit
import Derived.ProofKit
import Derived.OpenShut
import Derived.Laws.BitsAllLaws
import Derived.Laws.Bits128
namespace Go.Proofs.Ytafccninjjhibaa
open Go.ChangeShapes Go.WideShapes Go.ChangeAt Go.RowKit

theorem bd64 {n : Int} (w : (Lit.int .i64 n).wf = true) : -9223372036854775808 ≤ n ∧ n ≤ 9223372036854775807 := by
  have := bounds_i64 w
  omega

theorem ret_int {k : IntKind} {a b : Int} (h : a = b) : Ending.returned (.int k a) = .returned (.int k b) := by rw [h]

theorem numClamp_any (n lo hi : Int) (w : World) :
    Calls Try.prog 33 #[.int .i64 n, .int .i64 lo, .int .i64 hi] w fun e w' => e = .returned (.int .i64 (clampZ n lo hi)) ∧ w' = w := by
  by_cases h1 : hi < lo
  · go_enter Try.func33, Try.ntmps33
    go_wp2
    go_ret
    exact ⟨by simp [clampZ, h1], rfl⟩
  · by_cases h2 : n < lo
    · go_enter Try.func33, Try.ntmps33
      go_wp2
      go_ret
      exact ⟨by simp [clampZ, h2], rfl⟩
    · by_cases h3 : hi < n
      all_goals
        go_enter Try.func33, Try.ntmps33
        go_wp2
        go_ret
        exact ⟨by simp [clampZ]; omega, rfl⟩

/-! ### Bits -/
/-- The bits of a number, modulo 2^64. -/
def u64 (n : Int) : Nat := (n % 18446744073709551616).toNat
theorem u64_lt (n : Int) : u64 n < 18446744073709551616 := by unfold u64; omega
theorem u64_eq (n : Int) : (u64 n : Int) = n % 18446744073709551616 := by unfold u64; omega
theorem wrap_u64 (n : Int) : IntKind.u64.wrap n = (u64 n : Int) := by rw [u64_eq]; rfl
def bitB (n k : Int) : Bool := decide (0 ≤ k ∧ k ≤ 63 ∧ u64 n / 2 ^ k.toNat % 2 = 1)

def onesZ (n : Int) : Int := (popA 64 (u64 n) : Nat)
theorem onesZ_eq (n : Int) : ((popA 64 (u64 n) : Nat) : Int) = onesZ n := rfl
theorem onesZ_bd (n : Int) : 0 ≤ onesZ n ∧ onesZ n ≤ 64 := by have := popA_le 64 (u64 n); unfold onesZ; omega

end Go.Proofs.Ytafccninjjhibaa
