/- The contracts of package num's calls and of the document's own answers for them (layer 1): what each returns, for every int64 (Mod, Double, Bit, Ones: within the bounds of int64), the world as it was. -/
import Derived.Test.YtipamgncalcaiaaRows
import Derived.Test.YtipamgncalcaiaaMath
import Derived.Test.YtipamgncalcaiaaPop
import Derived.WalkKit
import Derived.ProofKit
import Derived.OpenShut
import Derived.Laws.BitsAllLaws
import Derived.Laws.Bits128
namespace Go.Proofs.Ytipamgncalcaiaa
open Go.ChangeShapes Go.WideShapes Go.ChangeAt Go.RowKit

theorem bd64 {n : Int} (w : (Lit.int .i64 n).wf = true) : -9223372036854775808 ≤ n ∧ n ≤ 9223372036854775807 := by
  have := bounds_i64 w
  omega

theorem ret_int {k : IntKind} {a b : Int} (h : a = b) : Ending.returned (.int k a) = .returned (.int k b) := by rw [h]

theorem numClamp_any (n lo hi : Int) (w : World) :
    Calls Try.prog 25 #[.int .i64 n, .int .i64 lo, .int .i64 hi] w fun e w' => e = .returned (.int .i64 (clampZ n lo hi)) ∧ w' = w := by
  by_cases h1 : hi < lo
  · go_enter Try.func25, Try.ntmps25
    go_wp2
    go_ret
    exact ⟨by simp [clampZ, h1], rfl⟩
  · by_cases h2 : n < lo
    · go_enter Try.func25, Try.ntmps25
      go_wp2
      go_ret
      exact ⟨by simp [clampZ, h2], rfl⟩
    · by_cases h3 : hi < n
      all_goals
        go_enter Try.func25, Try.ntmps25
        go_wp2
        go_ret
        exact ⟨by simp [clampZ]; omega, rfl⟩

/-! ### Bits -/
/-- The bits of a number, modulo 2^64. -/
def u64 (n : Int) : Nat := (n % 18446744073709551616).toNat
theorem u64_lt (n : Int) : u64 n < 18446744073709551616 := by unfold u64; omega
theorem u64_eq (n : Int) : (u64 n : Int) = n % 18446744073709551616 := by unfold u64; omega
theorem wrap_u64 (n : Int) : IntKind.u64.wrap n = (u64 n : Int) := by rw [u64_eq]; rfl
def bitB (n k : Int) : Bool := decide (0 ≤ k ∧ k ≤ 63 ∧ u64 n / 2 ^ k.toNat % 2 = 1)

set_option maxHeartbeats 400000 in
theorem numBit_any (n k : Int) (w : World) :
    Calls Try.prog 21 #[.int .i64 n, .int .i64 k] w fun e w' => e = .returned (.bool (bitB n k)) ∧ w' = w := by
  by_cases hk0 : k < 0
  · go_enter Try.func21, Try.ntmps21
    go_wp2
    go_ret
    exact ⟨by simp [bitB]; omega, rfl⟩
  · by_cases hk : 63 < k
    · go_enter Try.func21, Try.ntmps21
      go_wp2
      go_ret
      exact ⟨by simp [bitB]; omega, rfl⟩
    · have hw := wrap_u64 n
      have hu := u64_lt n
      have hb : ∀ j : Nat, bits BinOp.and IntKind.u64 ((u64 n : Int) / 2 ^ j) 1 = ((u64 n / 2 ^ j % 2 : Nat) : Int) := by
        intro j
        have h1 : u64 n / 2 ^ j < 18446744073709551616 := Nat.lt_of_le_of_lt (Nat.div_le_self _ _) hu
        have := u64_and_nat (u64 n / 2 ^ j) 1 h1 (by omega)
        rw [Nat.and_one_is_mod] at this
        rw [← this]
        simp
      have HB : bitB n k = (((u64 n / 2 ^ k.toNat % 2 : Nat) : Int) == 1) := by
        unfold bitB
        generalize u64 n / 2 ^ k.toNat % 2 = z
        rw [Bool.eq_iff_iff, decide_eq_true_iff, beq_iff_eq]
        omega
      rw [HB]
      clear HB
      go_enter Try.func21, Try.ntmps21
      go_wp2
      go_ret
      exact ⟨rfl, rfl⟩

def onesZ (n : Int) : Int := (popA 64 (u64 n) : Nat)
theorem onesZ_eq (n : Int) : ((popA 64 (u64 n) : Nat) : Int) = onesZ n := rfl
theorem onesZ_bd (n : Int) : 0 ≤ onesZ n ∧ onesZ n ≤ 64 := by have := popA_le 64 (u64 n); unfold onesZ; omega

end Go.Proofs.Ytipamgncalcaiaa
