/- Plain mathematics of layer 1 (num): how many bits of a number are 1, as math/bits reckons it: pairs, nibbles, bytes. No program is named here; no condition. -/
import Derived.WalkKit
namespace Go.Proofs.Ytmdioofpghbjbaa
open Go.RowKit

/-- How many of the k lowest bits of x are 1. -/
def popA : Nat → Nat → Nat
  | 0, _ => 0
  | k + 1, x => x % 2 + popA k (x / 2)

theorem popA_le (k : Nat) : ∀ x, popA k x ≤ k := by
  induction k with
  | zero => intro x; exact Nat.le_refl _
  | succ k ih => intro x; have := ih (x / 2); rw [popA]; omega

theorem popA_snoc (k : Nat) : ∀ x, popA (k + 1) x = popA k x + x / 2 ^ k % 2 := by
  induction k with
  | zero => intro x; simp [popA]
  | succ k ih =>
    intro x
    rw [popA, ih (x / 2), popA, Nat.div_div_eq_div_mul, show 2 * 2 ^ k = 2 ^ (k + 1) by rw [Nat.pow_succ]; omega]
    omega

theorem popA_compl (k : Nat) : ∀ x, x < 2 ^ k → popA k x + popA k (2 ^ k - 1 - x) = k := by
  induction k with
  | zero => intro x _; simp [popA]
  | succ k ih =>
    intro x hx
    rw [Nat.pow_succ] at hx
    have h2 : 1 ≤ 2 ^ k := Nat.one_le_two_pow
    have h := ih (x / 2) (by omega)
    rw [popA, popA, show (2 ^ (k + 1) - 1 - x) / 2 = 2 ^ k - 1 - x / 2 by rw [Nat.pow_succ]; omega]
    have : (2 ^ (k + 1) - 1 - x) % 2 = 1 - x % 2 := by rw [Nat.pow_succ]; omega
    omega

theorem bit_compl (k : Nat) : ∀ (i x : Nat), x < 2 ^ k → i < k → (2 ^ k - 1 - x) / 2 ^ i % 2 = 1 - x / 2 ^ i % 2 := by
  induction k with
  | zero => intro i x _ hi; omega
  | succ k ih =>
    intro i x hx hi
    rw [Nat.pow_succ] at hx
    have h2 : 1 ≤ 2 ^ k := Nat.one_le_two_pow
    cases i with
    | zero => simp only [Nat.pow_zero, Nat.div_one]; rw [Nat.pow_succ]; omega
    | succ i =>
      have h := ih i (x / 2) (by omega) (by omega)
      rw [Nat.pow_succ 2 i, Nat.mul_comm (2 ^ i) 2, ← Nat.div_div_eq_div_mul, ← Nat.div_div_eq_div_mul, show (2 ^ (k + 1) - 1 - x) / 2 = 2 ^ k - 1 - x / 2 by rw [Nat.pow_succ]; omega]
      exact h

theorem popA_byte (k x : Nat) : popA (k + 8) x = popA 8 (x % 256) + popA k (x / 256) := by
  simp only [popA, Nat.div_div_eq_div_mul]
  simp only [Nat.reduceMul]
  omega

/-! ### Bytes side by side -/
def rep (b : Nat) : Nat → Nat
  | 0 => 0
  | k + 1 => b + 256 * rep b k

theorem and_byte (B b y r : Nat) (hB : B < 256) (hb : b < 256) : (B + 256 * y) &&& (b + 256 * r) = (B &&& b) + 256 * (y &&& r) := by
  have hs : (B &&& b) < 2 ^ 8 := Nat.lt_of_le_of_lt Nat.and_le_left hB
  apply Nat.eq_of_testBit_eq
  intro i
  rw [Nat.testBit_and, Nat.add_comm B, Nat.add_comm b, Nat.add_comm (B &&& b)]
  rw [show (256 : Nat) = 2 ^ 8 from rfl, Nat.testBit_two_pow_mul_add _ hB, Nat.testBit_two_pow_mul_add _ hb, Nat.testBit_two_pow_mul_add _ hs]
  by_cases h : i < 8
  · simp [h, Nat.testBit_and]
  · simp [h, Nat.testBit_and]

def st1 (k x : Nat) : Nat := (x / 2 &&& rep 85 k) + (x &&& rep 85 k)
def st2 (k x : Nat) : Nat := (x / 4 &&& rep 51 k) + (x &&& rep 51 k)
def st3 (k x : Nat) : Nat := x / 16 + x &&& rep 15 k

theorem low1 : ∀ (B : Fin 256) (y : Fin 2), (B.val / 2 + 128 * y.val &&& 85) = (B.val / 2 &&& 85) := by decide +kernel
theorem low2 : ∀ (B : Fin 256) (y : Fin 4), (B.val / 4 + 64 * y.val &&& 51) = (B.val / 4 &&& 51) := by decide +kernel
def s1 (B : Nat) : Nat := (B / 2 &&& 85) + (B &&& 85)
def s2 (B : Nat) : Nat := (B / 4 &&& 51) + (B &&& 51)
theorem s1_lt : ∀ B : Fin 256, s1 B.val < 256 := by decide +kernel
theorem s2_lt : ∀ B : Fin 256, s2 (s1 B.val) ≤ 68 ∧ s2 (s1 B.val) % 16 ≤ 4 ∧ s2 (s1 B.val) / 16 ≤ 4 := by decide +kernel
theorem s3_pop : ∀ B : Fin 256, (s2 (s1 B.val) / 16 + s2 (s1 B.val)) % 16 = popA 8 B.val := by decide +kernel

theorem st1_cons (k B y : Nat) (hB : B < 256) : st1 (k + 1) (B + 256 * y) = s1 B + 256 * st1 k y := by
  have e : (B + 256 * y) / 2 = (B / 2 + 128 * (y % 2)) + 256 * (y / 2) := by omega
  have l := low1 ⟨B, hB⟩ ⟨y % 2, by omega⟩
  simp only at l
  unfold st1 s1
  rw [rep, e, and_byte _ _ _ _ (by omega) (by omega), and_byte _ _ _ _ hB (by omega), l]
  omega

theorem st2_cons (k B y : Nat) (hB : B < 256) : st2 (k + 1) (B + 256 * y) = s2 B + 256 * st2 k y := by
  have e : (B + 256 * y) / 4 = (B / 4 + 64 * (y % 4)) + 256 * (y / 4) := by omega
  have l := low2 ⟨B, hB⟩ ⟨y % 4, by omega⟩
  simp only at l
  unfold st2 s2
  rw [rep, e, and_byte _ _ _ _ (by omega) (by omega), and_byte _ _ _ _ hB (by omega), l]
  omega

theorem st2_low (k : Nat) : ∀ x, x < 256 ^ k → st2 k (st1 k x) % 16 ≤ 4 := by
  cases k with
  | zero => intro x _; simp [st2, rep]
  | succ k =>
    intro x _
    have a := s1_lt ⟨x % 256, by omega⟩
    have b := s2_lt ⟨x % 256, by omega⟩
    simp only at a b
    rw [show x = x % 256 + 256 * (x / 256) by omega, st1_cons k _ _ (by omega), st2_cons k _ _ a]
    omega

theorem and15 (z : Nat) : z &&& 15 = z % 16 := Nat.and_two_pow_sub_one_eq_mod z 4

theorem st3_cons (k B y : Nat) (h1 : B ≤ 68) (h2 : y % 16 ≤ 4) : st3 (k + 1) (B + 256 * y) = (B / 16 + B) % 16 + 256 * st3 k y := by
  have e : (B + 256 * y) / 16 + (B + 256 * y) = (B / 16 + 16 * (y % 16) + B) + 256 * (y / 16 + y) := by omega
  unfold st3
  rw [rep, e, and_byte _ _ _ _ (by omega) (by omega), and15]
  omega

theorem st_cons (k x : Nat) (hx : x < 256 ^ (k + 1)) : st3 (k + 1) (st2 (k + 1) (st1 (k + 1) x)) = popA 8 (x % 256) + 256 * st3 k (st2 k (st1 k (x / 256))) := by
  have a := s1_lt ⟨x % 256, by omega⟩
  have b := s2_lt ⟨x % 256, by omega⟩
  have c := s3_pop ⟨x % 256, by omega⟩
  simp only at a b c
  have hy : x / 256 < 256 ^ k := by rw [Nat.pow_succ] at hx; omega
  have l := st2_low k _ hy
  conv => lhs; rw [show x = x % 256 + 256 * (x / 256) by omega]
  rw [st1_cons k _ _ (by omega), st2_cons k _ _ a, st3_cons k _ _ b.1 l, c]

theorem st_zero (x : Nat) : st3 0 (st2 0 (st1 0 x)) = 0 := by simp [st3, rep]

/-- What math/bits makes of 64 bits, up to its third step: eight bytes, each with the number of its own 1 bits. -/
theorem st_eight (x : Nat) (hx : x < 18446744073709551616) : ∃ p0 p1 p2 p3 p4 p5 p6 p7 : Nat,
    st3 8 (st2 8 (st1 8 x)) = p0 + 256 * (p1 + 256 * (p2 + 256 * (p3 + 256 * (p4 + 256 * (p5 + 256 * (p6 + 256 * p7)))))) ∧
    popA 64 x = p0 + p1 + p2 + p3 + p4 + p5 + p6 + p7 ∧ p0 ≤ 8 ∧ p1 ≤ 8 ∧ p2 ≤ 8 ∧ p3 ≤ 8 ∧ p4 ≤ 8 ∧ p5 ≤ 8 ∧ p6 ≤ 8 ∧ p7 ≤ 8 := by
  refine ⟨popA 8 (x % 256), popA 8 (x / 256 % 256), popA 8 (x / 256 / 256 % 256), popA 8 (x / 256 / 256 / 256 % 256), popA 8 (x / 256 / 256 / 256 / 256 % 256), popA 8 (x / 256 / 256 / 256 / 256 / 256 % 256), popA 8 (x / 256 / 256 / 256 / 256 / 256 / 256 % 256), popA 8 (x / 256 / 256 / 256 / 256 / 256 / 256 / 256 % 256), ?_, ?_, popA_le _ _, popA_le _ _, popA_le _ _, popA_le _ _, popA_le _ _, popA_le _ _, popA_le _ _, popA_le _ _⟩
  · rw [st_cons 7 x (by omega), st_cons 6 _ (by omega), st_cons 5 _ (by omega), st_cons 4 _ (by omega), st_cons 3 _ (by omega), st_cons 2 _ (by omega), st_cons 1 _ (by omega), st_cons 0 _ (by omega), st_zero, Nat.mul_zero, Nat.add_zero]
  · have z : ∀ y, popA 8 y = popA 8 (y % 256) := fun y => popA_byte 0 y
    rw [popA_byte 56 x, popA_byte 48, popA_byte 40, popA_byte 32, popA_byte 24, popA_byte 16, popA_byte 8, z (x / 256 / 256 / 256 / 256 / 256 / 256 / 256)]
    simp only [Nat.add_assoc]

/-- The last three steps: the eight bytes, added up. -/
theorem fold8 (p0 p1 p2 p3 p4 p5 p6 p7 z0 z1 z2 z3 z4 z5 z6 z7 : Nat) (e0 : z0 = p0 + 256 * z1) (e1 : z1 = p1 + 256 * z2) (e2 : z2 = p2 + 256 * z3) (e3 : z3 = p3 + 256 * z4)
    (e4 : z4 = p4 + 256 * z5) (e5 : z5 = p5 + 256 * z6) (e6 : z6 = p6 + 256 * z7) (e7 : z7 = p7)
    (g0 : p0 ≤ 8) (g1 : p1 ≤ 8) (g2 : p2 ≤ 8) (g3 : p3 ≤ 8) (g4 : p4 ≤ 8) (g5 : p5 ≤ 8) (g6 : p6 ≤ 8) (g7 : p7 ≤ 8) :
    (((z0 + z0 / 256) + (z0 + z0 / 256) / 65536) + ((z0 + z0 / 256) + (z0 + z0 / 256) / 65536) / 4294967296) % 128 = p0 + p1 + p2 + p3 + p4 + p5 + p6 + p7 := by
  have a : z0 / 256 = z1 := by clear e1 e2 e3 e4 e5 e6 e7; omega
  rw [a]
  have b : (z0 + z1) / 65536 = z2 + z3 := by clear a e3 e4 e5 e6 e7; omega
  rw [b]
  have c0 : z0 = p0 + 256 * p1 + 65536 * p2 + 16777216 * p3 + 4294967296 * z4 := by omega
  have c1 : z1 = p1 + 256 * p2 + 65536 * p3 + 16777216 * p4 + 4294967296 * z5 := by omega
  have c2 : z2 = p2 + 256 * p3 + 65536 * p4 + 16777216 * p5 + 4294967296 * z6 := by omega
  have c3 : z3 = p3 + 256 * p4 + 65536 * p5 + 16777216 * p6 + 4294967296 * z7 := by omega
  have c : (z0 + z1 + (z2 + z3)) / 4294967296 = z4 + z5 + z6 + z7 := by
    clear a b e0 e1 e2 e3 e4 e5 e6 e7
    omega
  rw [c]
  have m : z0 + z1 + (z2 + z3) + (z4 + z5 + z6 + z7) = (p0 + p1 + p2 + p3 + p4 + p5 + p6 + p7) + 256 * (z1 + z2 + z3 + z4 + z5 + z6 + z7) := by
    clear a b c c0 c1 c2 c3
    omega
  rw [m]
  clear a b c c0 c1 c2 c3 m e0 e1 e2 e3 e4 e5 e6 e7
  omega
end Go.Proofs.Ytmdioofpghbjbaa
