/- The contracts of package num's calls and of the document's own answers for them (layer 1): what each returns, for every int64 (Mod, Double, Bit, Ones: within the bounds of int64), the world as it was. -/
import Derived.Test.YtmdioofpghbjbaaRows
import Derived.Test.YtmdioofpghbjbaaMath
import Derived.Test.YtmdioofpghbjbaaPop
import Derived.WalkKit
import Derived.ProofKit
import Derived.OpenShut
import Derived.Laws.BitsAllLaws
import Derived.Laws.Bits128
namespace Go.Proofs.Ytmdioofpghbjbaa
open Go.ChangeShapes Go.WideShapes Go.ChangeAt Go.RowKit

theorem bd64 {n : Int} (w : (Lit.int .i64 n).wf = true) : -9223372036854775808 ≤ n ∧ n ≤ 9223372036854775807 := by
  have := bounds_i64 w
  omega

theorem ret_int {k : IntKind} {a b : Int} (h : a = b) : Ending.returned (.int k a) = .returned (.int k b) := by rw [h]

/-! ### Double -/
theorem numDouble_any (n t m : Int) (w : World) (h0 : n ≤ 9223372036854775807) (h1 : t ≤ 9223372036854775807) (h2 : m ≤ 9223372036854775807) :
    Calls Try.prog 27 #[.int .i64 n, .int .i64 t, .int .i64 m] w fun e w' => e = .returned (.int .i64 (doubleZ n t m)) ∧ w' = w := by
  have hd : doubleZ n t m = if max m 0 < max n 0 then max m 0 else dblN t.toNat (max n 0) (max m 0) := rfl
  obtain ⟨T, hT⟩ : ∃ T : Nat, (if t < 0 then 0 else t) = (T : Int) := ⟨t.toNat, by split <;> omega⟩
  obtain ⟨X, hX⟩ : ∃ X : Int, (if n < 0 then 0 else n) = X := ⟨_, rfl⟩
  obtain ⟨M, hM⟩ : ∃ M : Int, (if m < 0 then 0 else m) = M := ⟨_, rfl⟩
  have a0 : 0 ≤ X ∧ X ≤ 9223372036854775807 := by rw [← hX]; split <;> omega
  have b0 : 0 ≤ M ∧ M ≤ 9223372036854775807 := by rw [← hM]; split <;> omega
  have c1 : (T : Int) ≤ 9223372036854775807 := by rw [← hT]; split <;> omega
  rw [show t.toNat = T by split at hT <;> omega, show max m 0 = M by split at hM <;> omega, show max n 0 = X by split at hX <;> omega] at hd
  generalize doubleZ n t m = res at hd ⊢
  obtain ⟨a0, a1⟩ := a0
  obtain ⟨b0, b1⟩ := b0
  by_cases c : M < X
  · rw [if_pos c] at hd
    subst hd
    go_enter Try.func27, Try.ntmps27
    go_wp2
    go_ret
    exact ⟨rfl, rfl⟩
  · rw [if_neg c] at hd
    by_cases z : X = 0
    · rw [z, dblN_zero _ _ b0] at hd
      subst hd
      have z' : (X == 0) = true := by simp [z]
      clear z
      go_enter Try.func27, Try.ntmps27
      go_wp2
      go_ret
      exact ⟨rfl, rfl⟩
    · have z' : (X == 0) = false := by simp [z]
      have H := hide hd
      clear hd
      go_enter Try.func27, Try.ntmps27
      go_wp2
      go_loop [0, 20] (fun x i => ∃ (k : Nat) (y : Int), k ≤ T ∧ i = .int .i64 k ∧ x = .int .i64 y ∧ 1 ≤ y ∧ y ≤ M ∧ Hid (dblN (T - k) y M = res)) (fun _ i => T - (intOf i).toNat)
      case atStart => exact ⟨0, X, Nat.zero_le _, rfl, rfl, by omega, by omega, (unhide H).symm⟩
      case round =>
        obtain ⟨k, y, hk, rfl, rfl, hy1, hy2, hy⟩ := hrel
        clear hX hM hT
        by_cases hlt : k < T
        · have hy' := unhide hy
          rw [show T - k = (T - (k + 1)) + 1 by omega, dblN] at hy'
          by_cases hov : M < y + y
          · rw [if_pos hov] at hy'
            have hov' : M - y < y := by omega
            go_wp2
            go_ret
            exact ⟨rfl, rfl⟩
          · rw [if_neg hov] at hy'
            have hov' : ¬ M - y < y := by omega
            have H' := hide hy'
            clear hy' hy
            go_wp2
            go_round
            case rel => exact ⟨k + 1, y + y, by omega, by go_num, rfl, by omega, by omega, H'⟩
            case measure => simp [intOf]; omega
        · have hy' := unhide hy
          rw [show T - k = 0 by omega, dblN] at hy'
          go_wp2
          go_ret
          exact ⟨rfl, rfl⟩

/-! ### Bits -/
/-- The bits of a number, modulo 2^64. -/
def u64 (n : Int) : Nat := (n % 18446744073709551616).toNat
theorem u64_lt (n : Int) : u64 n < 18446744073709551616 := by unfold u64; omega
theorem u64_eq (n : Int) : (u64 n : Int) = n % 18446744073709551616 := by unfold u64; omega
theorem wrap_u64 (n : Int) : IntKind.u64.wrap n = (u64 n : Int) := by rw [u64_eq]; rfl
def bitB (n k : Int) : Bool := decide (0 ≤ k ∧ k ≤ 63 ∧ u64 n / 2 ^ k.toNat % 2 = 1)

def onesZ (n : Int) : Int := (popA 64 (u64 n) : Nat)
theorem onesZ_eq (n : Int) : ((popA 64 (u64 n) : Nat) : Int) = onesZ n := rfl
theorem onesZ_bd (n : Int) : 0 ≤ onesZ n ∧ onesZ n ≤ 64 := by have := popA_le 64 (u64 n); unfold onesZ; omega

end Go.Proofs.Ytmdioofpghbjbaa
