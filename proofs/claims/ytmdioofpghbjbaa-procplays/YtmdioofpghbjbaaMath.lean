/- Plain mathematics of layer 1 (num): clamped numbers, remainders, doubling, counting bits. No program is named here; no condition. -/
import Derived.WalkKit
namespace Go.Proofs.Ytmdioofpghbjbaa
open Go.RowKit

theorem hide {p : Prop} (h : p) : Hid p := h
theorem unhide {p : Prop} (h : Hid p) : p := h

def clampZ (n lo hi : Int) : Int := if hi < lo ∨ n < lo then lo else if hi < n then hi else n
def modZ (n m : Int) : Int := if m < 1 then 0 else n % m

theorem tmod_neg (n m : Int) (hm : 1 ≤ m) (hr : n.tmod m < 0) : n.tmod m + m = n % m := by
  rw [Int.tmod_eq_emod] at hr ⊢
  have h1 := Int.emod_nonneg n (show m ≠ 0 by omega)
  have h2 := Int.emod_lt_of_pos n (show 0 < m by omega)
  split at hr
  · omega
  · rename_i h; rw [if_neg h]; omega

theorem tmod_pos (n m : Int) (hm : 1 ≤ m) (hr : 0 ≤ n.tmod m) : n.tmod m = n % m := by
  rw [Int.tmod_eq_emod] at hr ⊢
  have h2 := Int.emod_lt_of_pos n (show 0 < m by omega)
  split at hr
  · rename_i h; rw [if_pos h]; omega
  · omega

theorem modZ_bd (n m : Int) : 0 ≤ modZ n m ∧ (m < 1 → modZ n m = 0) ∧ (1 ≤ m → modZ n m < m) := by
  unfold modZ
  by_cases h : m < 1
  · rw [if_pos h]; omega
  · rw [if_neg h]
    have h1 := Int.emod_nonneg n (show m ≠ 0 by omega)
    have h2 := Int.emod_lt_of_pos n (show 0 < m by omega)
    omega

theorem modZ_again (n m : Int) : modZ (modZ n m) m = modZ n m := by
  have h := modZ_bd n m
  by_cases hm : m < 1
  · rw [h.2.1 hm]; simp [modZ, hm]
  · conv => lhs; rw [modZ]
    rw [if_neg hm]
    exact Int.emod_eq_of_lt h.1 (h.2.2 (by omega))

theorem clampZ_again (n lo hi : Int) : clampZ (clampZ n lo hi) lo hi = clampZ n lo hi := by
  unfold clampZ; split <;> (try split) <;> simp <;> omega

theorem clampZ_bd (n lo hi : Int) : (clampZ n lo hi = n ∨ clampZ n lo hi = lo ∨ clampZ n lo hi = hi) ∧ (lo ≤ hi → lo ≤ clampZ n lo hi ∧ clampZ n lo hi ≤ hi) := by
  unfold clampZ; split <;> (try split) <;> omega

/-! ### Doubling -/
/-- n doubled k times, m as soon as it gets above m. -/
def dblN : Nat → Int → Int → Int
  | 0, n, _ => n
  | k + 1, n, m => if m < n + n then m else dblN k (n + n) m

def doubleZ (n t m : Int) : Int := if max m 0 < max n 0 then max m 0 else dblN t.toNat (max n 0) (max m 0)

theorem dblN_zero (k : Nat) (m : Int) (hm : 0 ≤ m) : dblN k 0 m = 0 := by
  induction k with
  | zero => rfl
  | succ k ih => rw [dblN, if_neg (by omega)]; exact ih

theorem dblN_bd (k : Nat) : ∀ n m : Int, 0 ≤ n → n ≤ m → 0 ≤ dblN k n m ∧ dblN k n m ≤ m := by
  induction k with
  | zero => intro n m h0 h1; exact ⟨h0, h1⟩
  | succ k ih =>
    intro n m h0 h1
    rw [dblN]
    split
    · omega
    · exact ih _ _ (by omega) (by omega)

theorem dblN_top (k : Nat) (m : Int) (hm : 1 ≤ m) : dblN k m m = m := by
  cases k with
  | zero => rfl
  | succ k => rw [dblN, if_pos (by omega)]

/-- Doubled often enough it is the most. -/
theorem dblN_sat (k : Nat) : ∀ (n m : Int) (j : Nat), 1 ≤ n → n ≤ m → m < n * 2 ^ k → dblN (k + j) n m = m := by
  induction k with
  | zero => intro n m j h0 h1 h2; simp at h2; omega
  | succ k ih =>
    intro n m j h0 h1 h2
    rw [show k + 1 + j = (k + j) + 1 by omega, dblN]
    split
    · rfl
    · exact ih _ _ j (by omega) (by omega) (by rw [show (n + n) * 2 ^ k = n * 2 ^ (k + 1) by rw [Int.pow_succ, ← Int.two_mul, Int.mul_comm 2 n, Int.mul_assoc, Int.mul_comm 2]]; exact h2)

theorem two_pow_le (k : Nat) (h : 63 ≤ k) : (9223372036854775808 : Int) ≤ 2 ^ k := by
  obtain ⟨j, rfl⟩ : ∃ j, k = 63 + j := ⟨k - 63, by omega⟩
  rw [Int.pow_add]
  have h1 : (1 : Int) ≤ 2 ^ j := by exact_mod_cast Nat.one_le_two_pow
  calc (9223372036854775808 : Int) = 2 ^ 63 * 1 := by decide
    _ ≤ 2 ^ 63 * 2 ^ j := Int.mul_le_mul_of_nonneg_left h1 (by decide)

/-- More than 63 times is as good as 63 times, below 2^63. -/
theorem dblN_cap (k k' : Nat) (n m : Int) (h : 63 ≤ k) (h' : 63 ≤ k') (h0 : 0 ≤ n) (h1 : n ≤ m) (h2 : m ≤ 9223372036854775807) : dblN k n m = dblN k' n m := by
  by_cases hz : n = 0
  · subst hz; rw [dblN_zero k m h1, dblN_zero k' m h1]
  · have key : ∀ j : Nat, 63 ≤ j → dblN j n m = m := by
      intro j hj
      have hp := two_pow_le 63 (by omega)
      have : m < n * 2 ^ 63 := by
        have : (1 : Int) * 2 ^ 63 ≤ n * 2 ^ 63 := Int.mul_le_mul_of_nonneg_right (by omega) (by decide)
        omega
      obtain ⟨i, rfl⟩ : ∃ i, j = 63 + i := ⟨j - 63, by omega⟩
      exact dblN_sat 63 n m i (by omega) h1 this
    rw [key k h, key k' h']

theorem dblN_add (a : Nat) : ∀ (b : Nat) (n m : Int), 0 ≤ n → n ≤ m → dblN b (dblN a n m) m = dblN (a + b) n m := by
  induction a with
  | zero => intro b n m _ _; simp [dblN]
  | succ a ih =>
    intro b n m h0 h1
    rw [show a + 1 + b = (a + b) + 1 by omega, dblN, dblN]
    split
    · exact dblN_top b m (by omega)
    · exact ih b _ _ (by omega) (by omega)

theorem doubleZ_bd (n t m : Int) : 0 ≤ doubleZ n t m ∧ doubleZ n t m ≤ max m 0 := by
  unfold doubleZ
  split
  · omega
  · exact dblN_bd _ _ _ (by omega) (by omega)

theorem doubleZ_add (n a b m : Int) (ha : 0 ≤ a) (hb : 0 ≤ b) : doubleZ (doubleZ n a m) b m = doubleZ n (a + b) m := by
  have h := doubleZ_bd n a m
  have e : doubleZ (doubleZ n a m) b m = dblN b.toNat (doubleZ n a m) (max m 0) := by
    generalize doubleZ n a m = x at h
    unfold doubleZ
    rw [if_neg (by omega), show max x 0 = x by omega]
  rw [e]
  unfold doubleZ
  by_cases hc : max m 0 < max n 0
  · rw [if_pos hc, if_pos hc]
    by_cases hm : 1 ≤ max m 0
    · exact dblN_top _ _ hm
    · rw [show max m 0 = 0 by omega]; exact dblN_zero _ _ (by omega)
  · rw [if_neg hc, if_neg hc, dblN_add _ _ _ _ (by omega) (by omega), show (a + b).toNat = a.toNat + b.toNat by omega]
end Go.Proofs.Ytmdioofpghbjbaa
