/- layer 16: Num Ref01, put together. -/
import Derived.Test.YtmgjgeaigdiadaaDoorRows
import Derived.Test.YtmgjgeaigdiadaaDoorB02
import Derived.WalkKit
import Derived.ProofKit
import Derived.OpenShut
import Derived.Laws.BitsAllLaws
import Derived.Laws.Bits128
namespace Go.Proofs.YtmgjgeaigdiadaaDoor
open Go.ChangeShapes Go.WideShapes Go.ChangeAt Go.RowKit
theorem bd64 {n : Int} (w : (Lit.int .i64 n).wf = true) : -9223372036854775808 ≤ n ∧ n ≤ 9223372036854775807 := by
  have := bounds_i64 w
  omega
theorem ret_int {k : IntKind} {a b : Int} (h : a = b) : Ending.returned (.int k a) = .returned (.int k b) := by rw [h]
theorem numClamp_any (n lo hi : Int) (w : World) :
    Calls Tryd.prog 100 #[.int .i64 n, .int .i64 lo, .int .i64 hi] w fun e w' => e = .returned (.int .i64 (clampZ n lo hi)) ∧ w' = w := by
  by_cases h1 : hi < lo
  · go_enter Tryd.func100, Tryd.ntmps100
    go_wp2
    go_ret
    exact ⟨by simp [clampZ, h1], rfl⟩
  · by_cases h2 : n < lo
    · go_enter Tryd.func100, Tryd.ntmps100
      go_wp2
      go_ret
      exact ⟨by simp [clampZ, h2], rfl⟩
    · by_cases h3 : hi < n
      all_goals
        go_enter Tryd.func100, Tryd.ntmps100
        go_wp2
        go_ret
        exact ⟨by simp [clampZ]; omega, rfl⟩
def u64 (n : Int) : Nat := (n % 18446744073709551616).toNat
theorem u64_lt (n : Int) : u64 n < 18446744073709551616 := by unfold u64; omega
theorem u64_eq (n : Int) : (u64 n : Int) = n % 18446744073709551616 := by unfold u64; omega
theorem wrap_u64 (n : Int) : IntKind.u64.wrap n = (u64 n : Int) := by rw [u64_eq]; rfl
def bitB (n k : Int) : Bool := decide (0 ≤ k ∧ k ≤ 63 ∧ u64 n / 2 ^ k.toNat % 2 = 1)
set_option maxHeartbeats 400000 in
theorem numBit_any (n k : Int) (w : World) :
    Calls Tryd.prog 92 #[.int .i64 n, .int .i64 k] w fun e w' => e = .returned (.bool (bitB n k)) ∧ w' = w := by
  by_cases hk0 : k < 0
  · go_enter Tryd.func92, Tryd.ntmps92
    go_wp2
    go_ret
    exact ⟨by simp [bitB]; omega, rfl⟩
  · by_cases hk : 63 < k
    · go_enter Tryd.func92, Tryd.ntmps92
      go_wp2
      go_ret
      exact ⟨by simp [bitB]; omega, rfl⟩
    · have hw := wrap_u64 n
      have hu := u64_lt n
      have hb : ∀ j : Nat, bits BinOp.and IntKind.u64 ((u64 n : Int) / 2 ^ j) 1 = ((u64 n / 2 ^ j % 2 : Nat) : Int) := by
        intro j
        have h1 : u64 n / 2 ^ j < 18446744073709551616 := Nat.lt_of_le_of_lt (Nat.div_le_self _ _) hu
        have := u64_and_nat (u64 n / 2 ^ j) 1 h1 (by omega)
        rw [Nat.and_one_is_mod] at this
        rw [← this]
        simp
      have HB : bitB n k = (((u64 n / 2 ^ k.toNat % 2 : Nat) : Int) == 1) := by
        unfold bitB
        generalize u64 n / 2 ^ k.toNat % 2 = z
        rw [Bool.eq_iff_iff, decide_eq_true_iff, beq_iff_eq]
        omega
      rw [HB]
      clear HB
      go_enter Tryd.func92, Tryd.ntmps92
      go_wp2
      go_ret
      exact ⟨rfl, rfl⟩
def onesZ (n : Int) : Int := (popA 64 (u64 n) : Nat)
theorem onesZ_eq (n : Int) : ((popA 64 (u64 n) : Nat) : Int) = onesZ n := rfl
theorem onesZ_bd (n : Int) : 0 ≤ onesZ n ∧ onesZ n ≤ 64 := by have := popA_le 64 (u64 n); unfold onesZ; omega
theorem refClamp_any (n lo hi : Int) (w : World) :
    Calls Tryd.prog 73 #[.int .i64 n, .int .i64 lo, .int .i64 hi] w fun e w' => e = .returned (.int .i64 (clampZ n lo hi)) ∧ w' = w := by
  by_cases h1 : hi < lo
  · go_enter Tryd.func73, Tryd.ntmps73
    go_wp2
    go_ret
    exact ⟨by simp [clampZ, h1], rfl⟩
  · by_cases h2 : n < lo
    · go_enter Tryd.func73, Tryd.ntmps73
      go_wp2
      go_ret
      exact ⟨by simp [clampZ, h2], rfl⟩
    · by_cases h3 : hi < n
      all_goals
        go_enter Tryd.func73, Tryd.ntmps73
        go_wp2
        go_ret
        exact ⟨by simp [clampZ]; omega, rfl⟩
theorem refBit_any (n k : Int) (w : World) :
    Calls Tryd.prog 64 #[.int .i64 n, .int .i64 k] w fun e w' => e = .returned (.bool (bitB n k)) ∧ w' = w := by
  by_cases hk0 : k < 0
  · go_enter Tryd.func64, Tryd.ntmps64
    go_wp2
    go_ret
    exact ⟨by simp [bitB]; omega, rfl⟩
  · by_cases hk : 63 < k
    · go_enter Tryd.func64, Tryd.ntmps64
      go_wp2
      go_ret
      exact ⟨by simp [bitB]; omega, rfl⟩
    · have hw := wrap_u64 n
      have hu := u64_lt n
      obtain ⟨K, rfl⟩ := Int.eq_ofNat_of_zero_le (show 0 ≤ k by omega)
      have HB : bitB n K = (((u64 n / 2 ^ K % 2 : Nat) : Int) == 1) := by
        unfold bitB
        rw [Int.toNat_natCast]
        generalize u64 n / 2 ^ K % 2 = z
        rw [Bool.eq_iff_iff, decide_eq_true_iff, beq_iff_eq]
        omega
      rw [HB]
      clear HB
      generalize u64 n = u at *
      go_enter Tryd.func64, Tryd.ntmps64
      go_wp2
      go_loop [5, 6] (fun x i => ∃ (j : Nat) (y : Nat), j ≤ K ∧ i = .int .i64 j ∧ x = .int .u64 y ∧ y ≤ u ∧ Hid (y = u / 2 ^ j)) (fun _ i => K - (intOf i).toNat)
      case atStart => exact ⟨0, u, Nat.zero_le _, rfl, rfl, Nat.le_refl _, hide (by simp)⟩
      case round =>
        obtain ⟨j, y, hj, rfl, rfl, hy1, hy⟩ := hrel
        by_cases hlt : j < K
        · go_wp2
          go_round
          case rel => exact ⟨j + 1, y / 2, by omega, by go_num, by go_num, by omega, hide (by rw [unhide hy, Nat.div_div_eq_div_mul, Nat.pow_succ])⟩
          case measure => simp [intOf]; omega
        · have he : j = K := by omega
          subst he
          go_wp2
          go_ret
          have hz : (u : Int) / 2 ^ j = (y : Int) := by rw [unhide hy]; simp
          exact ⟨by rw [hz]; rfl, rfl⟩
end Go.Proofs.YtmgjgeaigdiadaaDoor
