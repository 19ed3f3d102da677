/- Plain mathematics of layer 7 (timer): a tick of a timer, all ticks. No program is named here; no condition. -/
import Derived.Test.YtmdioofpghbjbaaMath
namespace Go.Proofs.Ytmdioofpghbjbaa
open Go.RowKit

/-- What a tick leaves, and what is to be done. -/
structure Tk where
  l : Int
  t : Int
  o : Bool
  n : Int

def tickT (l t : Int) (o : Bool) (wa tr : Int) : Tk :=
  if o = true then ⟨l, t, true, 0⟩ else if 1 < l then ⟨l - 1, t, false, 0⟩ else if t < tr then ⟨max (doubleZ wa (t + 1) 1048576) 1, t + 1, false, 1⟩ else ⟨0, t, true, 2⟩

def totZ (wa tr : Int) : Int := clampZ wa 1 64 * (2 ^ ((clampZ tr 0 8).toNat + 1) - 1)

theorem dblN_pow (k : Nat) : ∀ n m : Int, 0 ≤ n → n * 2 ^ k ≤ m → dblN k n m = n * 2 ^ k := by
  induction k with
  | zero => intro n m _ _; simp [dblN]
  | succ k ih =>
    intro n m h0 h
    have e : (n + n) * 2 ^ k = n * 2 ^ (k + 1) := by rw [Int.pow_succ, ← Int.two_mul, Int.mul_comm 2 n, Int.mul_assoc, Int.mul_comm 2]
    have p : (1 : Int) ≤ 2 ^ k := by exact_mod_cast Nat.one_le_two_pow
    have q : (n + n) * 1 ≤ (n + n) * 2 ^ k := Int.mul_le_mul_of_nonneg_left p (by omega)
    rw [dblN, if_neg (by omega), ih _ _ (by omega) (by omega), e]

theorem pow8 (k : Nat) (h : k ≤ 8) : (1 : Int) ≤ 2 ^ k ∧ (2 : Int) ^ k ≤ 256 := by
  obtain rfl | rfl | rfl | rfl | rfl | rfl | rfl | rfl | rfl : k = 0 ∨ k = 1 ∨ k = 2 ∨ k = 3 ∨ k = 4 ∨ k = 5 ∨ k = 6 ∨ k = 7 ∨ k = 8 := by omega
  all_goals decide

/-- How long a wait, doubled k times, is. -/
def longZ (c : Int) (k : Nat) : Int := c * 2 ^ k

theorem longZ_zero (c : Int) : longZ c 0 = c := by simp [longZ]
theorem longZ_succ (c : Int) (k : Nat) : longZ c (k + 1) = 2 * longZ c k := by
  unfold longZ; rw [Int.pow_succ, Int.mul_comm (2 ^ k), ← Int.mul_assoc, Int.mul_comm c 2, Int.mul_assoc]
theorem longZ_bd (c : Int) (k : Nat) (h1 : 1 ≤ c) (h2 : c ≤ 64) (hk : k ≤ 8) : 1 ≤ longZ c k ∧ longZ c k ≤ 16384 := by
  obtain ⟨p1, p2⟩ := pow8 k hk
  have a : c * 1 ≤ c * 2 ^ k := Int.mul_le_mul_of_nonneg_left p1 (by omega)
  have b : c * 2 ^ k ≤ 64 * 2 ^ k := Int.mul_le_mul_of_nonneg_right h2 (by omega)
  unfold longZ; omega

theorem longZ_double (c : Int) (k : Nat) (h1 : 1 ≤ c) (h2 : c ≤ 64) (hk : k ≤ 8) : doubleZ c k 1048576 = longZ c k := by
  have := longZ_bd c k h1 h2 hk
  unfold doubleZ
  rw [if_neg (by omega), show max c 0 = c by omega, Int.toNat_natCast]
  exact dblN_pow k c _ (by omega) (by unfold longZ at this; omega)

theorem longZ_mono (c : Int) (h : 0 ≤ c) {j k : Nat} (hjk : j ≤ k) : longZ c j ≤ longZ c k := by
  induction k with
  | zero => rw [show j = 0 by omega]; exact Int.le_refl _
  | succ k ih =>
    by_cases e : j = k + 1
    · rw [e]; exact Int.le_refl _
    · have := ih (by omega)
      have p : (0 : Int) ≤ 2 ^ k := by exact_mod_cast Nat.zero_le _
      have q : 0 ≤ longZ c k := Int.mul_nonneg h p
      rw [longZ_succ]; omega

theorem clampZ_in {n lo hi : Int} (h1 : lo ≤ n) (h2 : n ≤ hi) : clampZ n lo hi = n := by
  unfold clampZ; rw [if_neg (by omega), if_neg (by omega)]

theorem totZ_long (c : Int) (T : Nat) (h1 : 1 ≤ c) (h2 : c ≤ 64) (hT : T ≤ 8) : totZ c T = 2 * longZ c T - c := by
  unfold totZ
  rw [clampZ_in h1 h2, clampZ_in (by omega) (by omega), Int.toNat_natCast, Int.mul_sub, Int.mul_one]
  have := longZ_succ c T
  unfold longZ at *
  omega

theorem totZ_clamp (wa tr : Int) : totZ wa tr = totZ (clampZ wa 1 64) ((clampZ tr 0 8).toNat : Nat) := by
  have h := (clampZ_bd tr 0 8).2 (by omega)
  unfold totZ
  rw [clampZ_again, show (((clampZ tr 0 8).toNat : Nat) : Int) = clampZ tr 0 8 by omega, clampZ_again]
end Go.Proofs.Ytmdioofpghbjbaa
