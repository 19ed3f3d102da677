/- layer 16: Math BunMath LetMath Pop BunMath2 BunMath3, put together. -/
import Derived.WalkKit
namespace Go.Proofs.YtmgjgeaigdiadaaDoor
open Go.RowKit
theorem hide {p : Prop} (h : p) : Hid p := h
theorem unhide {p : Prop} (h : Hid p) : p := h
def clampZ (n lo hi : Int) : Int := if hi < lo ∨ n < lo then lo else if hi < n then hi else n
def modZ (n m : Int) : Int := if m < 1 then 0 else n % m
theorem tmod_neg (n m : Int) (hm : 1 ≤ m) (hr : n.tmod m < 0) : n.tmod m + m = n % m := by
  rw [Int.tmod_eq_emod] at hr ⊢
  have h1 := Int.emod_nonneg n (show m ≠ 0 by omega)
  have h2 := Int.emod_lt_of_pos n (show 0 < m by omega)
  split at hr
  · omega
  · rename_i h; rw [if_neg h]; omega
theorem tmod_pos (n m : Int) (hm : 1 ≤ m) (hr : 0 ≤ n.tmod m) : n.tmod m = n % m := by
  rw [Int.tmod_eq_emod] at hr ⊢
  have h2 := Int.emod_lt_of_pos n (show 0 < m by omega)
  split at hr
  · rename_i h; rw [if_pos h]; omega
  · omega
theorem modZ_bd (n m : Int) : 0 ≤ modZ n m ∧ (m < 1 → modZ n m = 0) ∧ (1 ≤ m → modZ n m < m) := by
  unfold modZ
  by_cases h : m < 1
  · rw [if_pos h]; omega
  · rw [if_neg h]
    have h1 := Int.emod_nonneg n (show m ≠ 0 by omega)
    have h2 := Int.emod_lt_of_pos n (show 0 < m by omega)
    omega
theorem modZ_again (n m : Int) : modZ (modZ n m) m = modZ n m := by
  have h := modZ_bd n m
  by_cases hm : m < 1
  · rw [h.2.1 hm]; simp [modZ, hm]
  · conv => lhs; rw [modZ]
    rw [if_neg hm]
    exact Int.emod_eq_of_lt h.1 (h.2.2 (by omega))
theorem clampZ_again (n lo hi : Int) : clampZ (clampZ n lo hi) lo hi = clampZ n lo hi := by
  unfold clampZ; split <;> (try split) <;> simp <;> omega
theorem clampZ_bd (n lo hi : Int) : (clampZ n lo hi = n ∨ clampZ n lo hi = lo ∨ clampZ n lo hi = hi) ∧ (lo ≤ hi → lo ≤ clampZ n lo hi ∧ clampZ n lo hi ≤ hi) := by
  unfold clampZ; split <;> (try split) <;> omega
def dblN : Nat → Int → Int → Int
  | 0, n, _ => n
  | k + 1, n, m => if m < n + n then m else dblN k (n + n) m
def doubleZ (n t m : Int) : Int := if max m 0 < max n 0 then max m 0 else dblN t.toNat (max n 0) (max m 0)
theorem dblN_zero (k : Nat) (m : Int) (hm : 0 ≤ m) : dblN k 0 m = 0 := by
  induction k with
  | zero => rfl
  | succ k ih => rw [dblN, if_neg (by omega)]; exact ih
theorem dblN_bd (k : Nat) : ∀ n m : Int, 0 ≤ n → n ≤ m → 0 ≤ dblN k n m ∧ dblN k n m ≤ m := by
  induction k with
  | zero => intro n m h0 h1; exact ⟨h0, h1⟩
  | succ k ih =>
    intro n m h0 h1
    rw [dblN]
    split
    · omega
    · exact ih _ _ (by omega) (by omega)
theorem dblN_top (k : Nat) (m : Int) (hm : 1 ≤ m) : dblN k m m = m := by
  cases k with
  | zero => rfl
  | succ k => rw [dblN, if_pos (by omega)]
theorem dblN_sat (k : Nat) : ∀ (n m : Int) (j : Nat), 1 ≤ n → n ≤ m → m < n * 2 ^ k → dblN (k + j) n m = m := by
  induction k with
  | zero => intro n m j h0 h1 h2; simp at h2; omega
  | succ k ih =>
    intro n m j h0 h1 h2
    rw [show k + 1 + j = (k + j) + 1 by omega, dblN]
    split
    · rfl
    · exact ih _ _ j (by omega) (by omega) (by rw [show (n + n) * 2 ^ k = n * 2 ^ (k + 1) by rw [Int.pow_succ, ← Int.two_mul, Int.mul_comm 2 n, Int.mul_assoc, Int.mul_comm 2]]; exact h2)
theorem two_pow_le (k : Nat) (h : 63 ≤ k) : (9223372036854775808 : Int) ≤ 2 ^ k := by
  obtain ⟨j, rfl⟩ : ∃ j, k = 63 + j := ⟨k - 63, by omega⟩
  rw [Int.pow_add]
  have h1 : (1 : Int) ≤ 2 ^ j := by exact_mod_cast Nat.one_le_two_pow
  calc (9223372036854775808 : Int) = 2 ^ 63 * 1 := by decide
    _ ≤ 2 ^ 63 * 2 ^ j := Int.mul_le_mul_of_nonneg_left h1 (by decide)
theorem dblN_cap (k k' : Nat) (n m : Int) (h : 63 ≤ k) (h' : 63 ≤ k') (h0 : 0 ≤ n) (h1 : n ≤ m) (h2 : m ≤ 9223372036854775807) : dblN k n m = dblN k' n m := by
  by_cases hz : n = 0
  · subst hz; rw [dblN_zero k m h1, dblN_zero k' m h1]
  · have key : ∀ j : Nat, 63 ≤ j → dblN j n m = m := by
      intro j hj
      have hp := two_pow_le 63 (by omega)
      have : m < n * 2 ^ 63 := by
        have : (1 : Int) * 2 ^ 63 ≤ n * 2 ^ 63 := Int.mul_le_mul_of_nonneg_right (by omega) (by decide)
        omega
      obtain ⟨i, rfl⟩ : ∃ i, j = 63 + i := ⟨j - 63, by omega⟩
      exact dblN_sat 63 n m i (by omega) h1 this
    rw [key k h, key k' h']
theorem dblN_add (a : Nat) : ∀ (b : Nat) (n m : Int), 0 ≤ n → n ≤ m → dblN b (dblN a n m) m = dblN (a + b) n m := by
  induction a with
  | zero => intro b n m _ _; simp [dblN]
  | succ a ih =>
    intro b n m h0 h1
    rw [show a + 1 + b = (a + b) + 1 by omega, dblN, dblN]
    split
    · exact dblN_top b m (by omega)
    · exact ih b _ _ (by omega) (by omega)
theorem doubleZ_bd (n t m : Int) : 0 ≤ doubleZ n t m ∧ doubleZ n t m ≤ max m 0 := by
  unfold doubleZ
  split
  · omega
  · exact dblN_bd _ _ _ (by omega) (by omega)
theorem doubleZ_add (n a b m : Int) (ha : 0 ≤ a) (hb : 0 ≤ b) : doubleZ (doubleZ n a m) b m = doubleZ n (a + b) m := by
  have h := doubleZ_bd n a m
  have e : doubleZ (doubleZ n a m) b m = dblN b.toNat (doubleZ n a m) (max m 0) := by
    generalize doubleZ n a m = x at h
    unfold doubleZ
    rw [if_neg (by omega), show max x 0 = x by omega]
  rw [e]
  unfold doubleZ
  by_cases hc : max m 0 < max n 0
  · rw [if_pos hc, if_pos hc]
    by_cases hm : 1 ≤ max m 0
    · exact dblN_top _ _ hm
    · rw [show max m 0 = 0 by omega]; exact dblN_zero _ _ (by omega)
  · rw [if_neg hc, if_neg hc, dblN_add _ _ _ _ (by omega) (by omega), show (a + b).toNat = a.toNat + b.toNat by omega]
end Go.Proofs.YtmgjgeaigdiadaaDoor
namespace Go.Proofs.YtmgjgeaigdiadaaDoor
structure Bun where
  n : Int
  o : Bool
  h : Bool
  d : Int
def withV (b f : Bun) (a : Bool) : Bun := if (a && f.h) = true then ⟨b.n, b.o, true, f.d⟩ else b
def checkZ (b : Bun) (t : Int) : Int :=
  if b.n < 0 ∨ t < b.n then 4 else if b.n = 0 ∧ (b.o = true ∨ b.h = true) then 5 else if b.o = true ∧ b.h = false then 6 else if b.h = false ∧ b.d ≠ 0 then 6 else 0
def howManyZ (h : Bun) (c : Int) (o : Bool) : Int :=
  if h.o = true ∧ o = false then clampZ (clampZ c 0 h.n) 0 (h.n - 1) else clampZ c 0 h.n
def givenB (h : Bun) (c : Int) (o d : Bool) : Bun :=
  if howManyZ h c o = 0 then ⟨0, false, false, 0⟩ else withV ⟨howManyZ h c o, h.o && o, false, 0⟩ h (d || (h.o && o))
def restB (h : Bun) (c : Int) (o : Bool) : Bun :=
  if howManyZ h c o = 0 then h else if howManyZ h c o = h.n then ⟨0, false, false, 0⟩ else withV ⟨h.n - howManyZ h c o, h.o && !(h.o && o), false, 0⟩ h true
def joinB (h b : Bun) : Bun := withV (withV ⟨h.n + b.n, h.o || b.o, false, 0⟩ h true) b true
def fullB (t d : Int) : Bun := if t < 1 then ⟨0, false, false, 0⟩ else ⟨t, true, true, d⟩
def okB (b : Bun) : Prop := 0 ≤ b.n ∧ (b.n = 0 → b.o = false ∧ b.h = false) ∧ (b.o = true → b.h = true) ∧ (b.h = false → b.d = 0)
theorem okB_of (b : Bun) (t : Int) (hc : checkZ b t = 0) : okB b := by
  obtain ⟨n, o, h, d⟩ := b
  unfold checkZ at hc
  unfold okB
  split at hc
  · omega
  · split at hc
    · omega
    · split at hc
      · omega
      · split at hc
        · omega
        · cases o <;> cases h <;> simp_all <;> omega
theorem howMany_bd (n : Int) (o h : Bool) (d c : Int) (a : Bool) (h0 : 0 ≤ n) (hz : n = 0 → o = false) : 0 ≤ howManyZ ⟨n, o, h, d⟩ c a ∧ howManyZ ⟨n, o, h, d⟩ c a ≤ n := by
  unfold howManyZ clampZ
  cases o <;> cases a <;> simp_all <;> (repeat' split) <;> omega
def nodeB (x n : Int) : Bool := decide (0 ≤ x) && decide (x < n)
def anyB (x n : Int) : Bool := decide (x = n) || nodeB x n
def inB (x lo hi : Int) : Bool := decide (lo ≤ x) && decide (x ≤ hi)
def stgB (s y c w t p : Int) : Bool := inB s 1 64 && inB y 1 16 && inB c 1 65536 && inB w 1 64 && inB t 0 8 && inB p 0 2
def cfgZ (n b k s y c w t p : Int) : Int :=
  if stgB s y c w t p = false then 1 else if inB n 1 64 = false then 2 else if inB b 1 64 = false then 3 else if inB k n 65536 = false then 4 else 0
def endZ (nd hm : Bool) : Int := (if nd = true then 1 else 0) + (if hm = true then 2 else 0)
def oneB (nd hm : Bool) (x n : Int) : Bool := if nodeB x n = true then nd else decide (x = n) && hm
structure LRow where
  fn : Bool
  fh : Bool
  tn : Bool
  th : Bool
  s : Bool
  h : Bool
  wr : Bool
  tk : Bool
def rowL (k : Int) : LRow :=
  if k = 1 then ⟨true, true, true, true, false, false, false, true⟩
  else if k = 2 then ⟨true, false, true, true, false, false, true, false⟩
  else if k = 3 then ⟨true, false, false, true, false, false, false, false⟩
  else if k = 4 then ⟨false, true, true, false, true, true, false, false⟩
  else if k = 6 then ⟨false, true, true, false, true, false, false, false⟩
  else ⟨true, false, false, true, true, false, false, false⟩
def wayB (r : LRow) (a b n : Int) : Bool := oneB r.fn r.fh a n && oneB r.tn r.th b n && !decide (a = b)
def seqB (s : Bool) (q : Int) : Bool := if s = true then decide (1 ≤ q) else decide (q = 0)
def whoB (h : Bool) (x n : Int) : Bool := if h = true then nodeB x n else decide (x = 0)
def marksB (r : LRow) (q x : Int) (wr : Bool) (n : Int) : Bool := seqB r.s q && whoB r.h x n && (r.wr || !wr)
def sentZ (b : Bun) (t : Int) : Int := if checkZ b t = 0 then (if b.n = 0 then 4 else 0) else checkZ b t
def noneB (b : Bun) : Bool := decide (b.n = 0) && !b.o && !b.h && decide (b.d = 0)
structure Let where
  k : Int
  a : Int
  b : Int
  blk : Int
  seq : Int
  who : Int
  wr : Bool
  x : Bun
def letterZ (n b t : Int) (l : Let) : Int :=
  if inB l.k 1 7 = false then 7
  else if l.blk < 0 ∨ b ≤ l.blk then 3
  else if wayB (rowL l.k) l.a l.b n = false then 8
  else if marksB (rowL l.k) l.seq l.who l.wr n = false then 10
  else if l.k = 1 then sentZ l.x t
  else if noneB l.x = false then 6 else 0
theorem inB_true {x lo hi : Int} : inB x lo hi = true ↔ lo ≤ x ∧ x ≤ hi := by simp [inB]
theorem inB_false {x lo hi : Int} : inB x lo hi = false ↔ x < lo ∨ hi < x := by simp [inB]; omega
theorem nodeB_true {x n : Int} : nodeB x n = true ↔ 0 ≤ x ∧ x < n := by simp [nodeB]
theorem nodeB_false {x n : Int} : nodeB x n = false ↔ x < 0 ∨ n ≤ x := by simp [nodeB]; omega
theorem kinds7 {k : Int} (h : inB k 1 7 = true) : k = 1 ∨ k = 2 ∨ k = 3 ∨ k = 4 ∨ k = 5 ∨ k = 6 ∨ k = 7 := by
  have := inB_true.1 h; omega
theorem drops_math {n b t : Int} {l : Let} (h : letterZ n b t l = 0) (hk : l.k = 2) : noneB l.x = true := by
  unfold letterZ at h
  rw [hk] at h
  cases hx : noneB l.x
  · rw [hx] at h
    simp at h
    (repeat' split at h) <;> omega
  · rfl
theorem oneB_any {nd hm : Bool} {x n : Int} (h : oneB nd hm x n = true) : anyB x n = true := by
  unfold oneB at h; unfold anyB
  split at h
  · rename_i h1; rw [h1]; simp
  · simp at h; simp [h.1]
theorem self_math {n b t : Int} {l : Let} (h : letterZ n b t l = 0) : l.a ≠ l.b ∧ anyB l.a n = true ∧ anyB l.b n = true ∧ (l.k = 1 ↔ 0 < l.x.n) := by
  unfold letterZ at h
  split at h <;> (try omega)
  split at h <;> (try omega)
  split at h <;> (try omega)
  rename_i h1
  split at h <;> (try omega)
  have h1' : wayB (rowL l.k) l.a l.b n = true := by simpa using h1
  unfold wayB at h1'
  simp only [Bool.and_eq_true, Bool.not_eq_true', decide_eq_false_iff_not] at h1'
  refine ⟨h1'.2, oneB_any h1'.1.1, oneB_any h1'.1.2, ?_⟩
  split at h
  · rename_i hk
    simp only [hk, true_iff]
    unfold sentZ at h
    split at h
    · rename_i hc
      have ho := (okB_of _ _ hc).1
      split at h <;> omega
    · omega
  · rename_i hk
    simp only [hk, false_iff]
    split at h
    · omega
    · rename_i hx
      have hx' : noneB l.x = true := by simpa using hx
      simp only [noneB, Bool.and_eq_true, decide_eq_true_eq] at hx'
      have := hx'.1.1.1
      omega
end Go.Proofs.YtmgjgeaigdiadaaDoor
namespace Go.Proofs.YtmgjgeaigdiadaaDoor
open Go.RowKit
def popA : Nat → Nat → Nat
  | 0, _ => 0
  | k + 1, x => x % 2 + popA k (x / 2)
theorem popA_le (k : Nat) : ∀ x, popA k x ≤ k := by
  induction k with
  | zero => intro x; exact Nat.le_refl _
  | succ k ih => intro x; have := ih (x / 2); rw [popA]; omega
theorem popA_snoc (k : Nat) : ∀ x, popA (k + 1) x = popA k x + x / 2 ^ k % 2 := by
  induction k with
  | zero => intro x; simp [popA]
  | succ k ih =>
    intro x
    rw [popA, ih (x / 2), popA, Nat.div_div_eq_div_mul, show 2 * 2 ^ k = 2 ^ (k + 1) by rw [Nat.pow_succ]; omega]
    omega
theorem popA_compl (k : Nat) : ∀ x, x < 2 ^ k → popA k x + popA k (2 ^ k - 1 - x) = k := by
  induction k with
  | zero => intro x _; simp [popA]
  | succ k ih =>
    intro x hx
    rw [Nat.pow_succ] at hx
    have h2 : 1 ≤ 2 ^ k := Nat.one_le_two_pow
    have h := ih (x / 2) (by omega)
    rw [popA, popA, show (2 ^ (k + 1) - 1 - x) / 2 = 2 ^ k - 1 - x / 2 by rw [Nat.pow_succ]; omega]
    have : (2 ^ (k + 1) - 1 - x) % 2 = 1 - x % 2 := by rw [Nat.pow_succ]; omega
    omega
theorem bit_compl (k : Nat) : ∀ (i x : Nat), x < 2 ^ k → i < k → (2 ^ k - 1 - x) / 2 ^ i % 2 = 1 - x / 2 ^ i % 2 := by
  induction k with
  | zero => intro i x _ hi; omega
  | succ k ih =>
    intro i x hx hi
    rw [Nat.pow_succ] at hx
    have h2 : 1 ≤ 2 ^ k := Nat.one_le_two_pow
    cases i with
    | zero => simp only [Nat.pow_zero, Nat.div_one]; rw [Nat.pow_succ]; omega
    | succ i =>
      have h := ih i (x / 2) (by omega) (by omega)
      rw [Nat.pow_succ 2 i, Nat.mul_comm (2 ^ i) 2, ← Nat.div_div_eq_div_mul, ← Nat.div_div_eq_div_mul, show (2 ^ (k + 1) - 1 - x) / 2 = 2 ^ k - 1 - x / 2 by rw [Nat.pow_succ]; omega]
      exact h
theorem popA_byte (k x : Nat) : popA (k + 8) x = popA 8 (x % 256) + popA k (x / 256) := by
  simp only [popA, Nat.div_div_eq_div_mul]
  simp only [Nat.reduceMul]
  omega
def rep (b : Nat) : Nat → Nat
  | 0 => 0
  | k + 1 => b + 256 * rep b k
theorem and_byte (B b y r : Nat) (hB : B < 256) (hb : b < 256) : (B + 256 * y) &&& (b + 256 * r) = (B &&& b) + 256 * (y &&& r) := by
  have hs : (B &&& b) < 2 ^ 8 := Nat.lt_of_le_of_lt Nat.and_le_left hB
  apply Nat.eq_of_testBit_eq
  intro i
  rw [Nat.testBit_and, Nat.add_comm B, Nat.add_comm b, Nat.add_comm (B &&& b)]
  rw [show (256 : Nat) = 2 ^ 8 from rfl, Nat.testBit_two_pow_mul_add _ hB, Nat.testBit_two_pow_mul_add _ hb, Nat.testBit_two_pow_mul_add _ hs]
  by_cases h : i < 8
  · simp [h, Nat.testBit_and]
  · simp [h, Nat.testBit_and]
def st1 (k x : Nat) : Nat := (x / 2 &&& rep 85 k) + (x &&& rep 85 k)
def st2 (k x : Nat) : Nat := (x / 4 &&& rep 51 k) + (x &&& rep 51 k)
def st3 (k x : Nat) : Nat := x / 16 + x &&& rep 15 k
theorem low1 : ∀ (B : Fin 256) (y : Fin 2), (B.val / 2 + 128 * y.val &&& 85) = (B.val / 2 &&& 85) := by decide +kernel
theorem low2 : ∀ (B : Fin 256) (y : Fin 4), (B.val / 4 + 64 * y.val &&& 51) = (B.val / 4 &&& 51) := by decide +kernel
def s1 (B : Nat) : Nat := (B / 2 &&& 85) + (B &&& 85)
def s2 (B : Nat) : Nat := (B / 4 &&& 51) + (B &&& 51)
theorem s1_lt : ∀ B : Fin 256, s1 B.val < 256 := by decide +kernel
theorem s2_lt : ∀ B : Fin 256, s2 (s1 B.val) ≤ 68 ∧ s2 (s1 B.val) % 16 ≤ 4 ∧ s2 (s1 B.val) / 16 ≤ 4 := by decide +kernel
theorem s3_pop : ∀ B : Fin 256, (s2 (s1 B.val) / 16 + s2 (s1 B.val)) % 16 = popA 8 B.val := by decide +kernel
theorem st1_cons (k B y : Nat) (hB : B < 256) : st1 (k + 1) (B + 256 * y) = s1 B + 256 * st1 k y := by
  have e : (B + 256 * y) / 2 = (B / 2 + 128 * (y % 2)) + 256 * (y / 2) := by omega
  have l := low1 ⟨B, hB⟩ ⟨y % 2, by omega⟩
  simp only at l
  unfold st1 s1
  rw [rep, e, and_byte _ _ _ _ (by omega) (by omega), and_byte _ _ _ _ hB (by omega), l]
  omega
theorem st2_cons (k B y : Nat) (hB : B < 256) : st2 (k + 1) (B + 256 * y) = s2 B + 256 * st2 k y := by
  have e : (B + 256 * y) / 4 = (B / 4 + 64 * (y % 4)) + 256 * (y / 4) := by omega
  have l := low2 ⟨B, hB⟩ ⟨y % 4, by omega⟩
  simp only at l
  unfold st2 s2
  rw [rep, e, and_byte _ _ _ _ (by omega) (by omega), and_byte _ _ _ _ hB (by omega), l]
  omega
theorem st2_low (k : Nat) : ∀ x, x < 256 ^ k → st2 k (st1 k x) % 16 ≤ 4 := by
  cases k with
  | zero => intro x _; simp [st2, rep]
  | succ k =>
    intro x _
    have a := s1_lt ⟨x % 256, by omega⟩
    have b := s2_lt ⟨x % 256, by omega⟩
    simp only at a b
    rw [show x = x % 256 + 256 * (x / 256) by omega, st1_cons k _ _ (by omega), st2_cons k _ _ a]
    omega
theorem and15 (z : Nat) : z &&& 15 = z % 16 := Nat.and_two_pow_sub_one_eq_mod z 4
theorem st3_cons (k B y : Nat) (h1 : B ≤ 68) (h2 : y % 16 ≤ 4) : st3 (k + 1) (B + 256 * y) = (B / 16 + B) % 16 + 256 * st3 k y := by
  have e : (B + 256 * y) / 16 + (B + 256 * y) = (B / 16 + 16 * (y % 16) + B) + 256 * (y / 16 + y) := by omega
  unfold st3
  rw [rep, e, and_byte _ _ _ _ (by omega) (by omega), and15]
  omega
theorem st_cons (k x : Nat) (hx : x < 256 ^ (k + 1)) : st3 (k + 1) (st2 (k + 1) (st1 (k + 1) x)) = popA 8 (x % 256) + 256 * st3 k (st2 k (st1 k (x / 256))) := by
  have a := s1_lt ⟨x % 256, by omega⟩
  have b := s2_lt ⟨x % 256, by omega⟩
  have c := s3_pop ⟨x % 256, by omega⟩
  simp only at a b c
  have hy : x / 256 < 256 ^ k := by rw [Nat.pow_succ] at hx; omega
  have l := st2_low k _ hy
  conv => lhs; rw [show x = x % 256 + 256 * (x / 256) by omega]
  rw [st1_cons k _ _ (by omega), st2_cons k _ _ a, st3_cons k _ _ b.1 l, c]
theorem st_zero (x : Nat) : st3 0 (st2 0 (st1 0 x)) = 0 := by simp [st3, rep]
theorem st_eight (x : Nat) (hx : x < 18446744073709551616) : ∃ p0 p1 p2 p3 p4 p5 p6 p7 : Nat,
    st3 8 (st2 8 (st1 8 x)) = p0 + 256 * (p1 + 256 * (p2 + 256 * (p3 + 256 * (p4 + 256 * (p5 + 256 * (p6 + 256 * p7)))))) ∧
    popA 64 x = p0 + p1 + p2 + p3 + p4 + p5 + p6 + p7 ∧ p0 ≤ 8 ∧ p1 ≤ 8 ∧ p2 ≤ 8 ∧ p3 ≤ 8 ∧ p4 ≤ 8 ∧ p5 ≤ 8 ∧ p6 ≤ 8 ∧ p7 ≤ 8 := by
  refine ⟨popA 8 (x % 256), popA 8 (x / 256 % 256), popA 8 (x / 256 / 256 % 256), popA 8 (x / 256 / 256 / 256 % 256), popA 8 (x / 256 / 256 / 256 / 256 % 256), popA 8 (x / 256 / 256 / 256 / 256 / 256 % 256), popA 8 (x / 256 / 256 / 256 / 256 / 256 / 256 % 256), popA 8 (x / 256 / 256 / 256 / 256 / 256 / 256 / 256 % 256), ?_, ?_, popA_le _ _, popA_le _ _, popA_le _ _, popA_le _ _, popA_le _ _, popA_le _ _, popA_le _ _, popA_le _ _⟩
  · rw [st_cons 7 x (by omega), st_cons 6 _ (by omega), st_cons 5 _ (by omega), st_cons 4 _ (by omega), st_cons 3 _ (by omega), st_cons 2 _ (by omega), st_cons 1 _ (by omega), st_cons 0 _ (by omega), st_zero, Nat.mul_zero, Nat.add_zero]
  · have z : ∀ y, popA 8 y = popA 8 (y % 256) := fun y => popA_byte 0 y
    rw [popA_byte 56 x, popA_byte 48, popA_byte 40, popA_byte 32, popA_byte 24, popA_byte 16, popA_byte 8, z (x / 256 / 256 / 256 / 256 / 256 / 256 / 256)]
    simp only [Nat.add_assoc]
theorem fold8 (p0 p1 p2 p3 p4 p5 p6 p7 z0 z1 z2 z3 z4 z5 z6 z7 : Nat) (e0 : z0 = p0 + 256 * z1) (e1 : z1 = p1 + 256 * z2) (e2 : z2 = p2 + 256 * z3) (e3 : z3 = p3 + 256 * z4)
    (e4 : z4 = p4 + 256 * z5) (e5 : z5 = p5 + 256 * z6) (e6 : z6 = p6 + 256 * z7) (e7 : z7 = p7)
    (g0 : p0 ≤ 8) (g1 : p1 ≤ 8) (g2 : p2 ≤ 8) (g3 : p3 ≤ 8) (g4 : p4 ≤ 8) (g5 : p5 ≤ 8) (g6 : p6 ≤ 8) (g7 : p7 ≤ 8) :
    (((z0 + z0 / 256) + (z0 + z0 / 256) / 65536) + ((z0 + z0 / 256) + (z0 + z0 / 256) / 65536) / 4294967296) % 128 = p0 + p1 + p2 + p3 + p4 + p5 + p6 + p7 := by
  have a : z0 / 256 = z1 := by clear e1 e2 e3 e4 e5 e6 e7; omega
  rw [a]
  have b : (z0 + z1) / 65536 = z2 + z3 := by clear a e3 e4 e5 e6 e7; omega
  rw [b]
  have c0 : z0 = p0 + 256 * p1 + 65536 * p2 + 16777216 * p3 + 4294967296 * z4 := by omega
  have c1 : z1 = p1 + 256 * p2 + 65536 * p3 + 16777216 * p4 + 4294967296 * z5 := by omega
  have c2 : z2 = p2 + 256 * p3 + 65536 * p4 + 16777216 * p5 + 4294967296 * z6 := by omega
  have c3 : z3 = p3 + 256 * p4 + 65536 * p5 + 16777216 * p6 + 4294967296 * z7 := by omega
  have c : (z0 + z1 + (z2 + z3)) / 4294967296 = z4 + z5 + z6 + z7 := by
    clear a b e0 e1 e2 e3 e4 e5 e6 e7
    omega
  rw [c]
  have m : z0 + z1 + (z2 + z3) + (z4 + z5 + z6 + z7) = (p0 + p1 + p2 + p3 + p4 + p5 + p6 + p7) + 256 * (z1 + z2 + z3 + z4 + z5 + z6 + z7) := by
    clear a b c c0 c1 c2 c3
    omega
  rw [m]
  clear a b c c0 c1 c2 c3 m e0 e1 e2 e3 e4 e5 e6 e7
  omega
end Go.Proofs.YtmgjgeaigdiadaaDoor
namespace Go.Proofs.YtmgjgeaigdiadaaDoor
theorem clampZ_in (n lo hi : Int) (h : lo ≤ hi) : lo ≤ clampZ n lo hi ∧ clampZ n lo hi ≤ hi := by unfold clampZ; (repeat' split) <;> omega
theorem parts_math (n : Int) (o h : Bool) (d c : Int) (a v : Bool) (ok : okB ⟨n, o, h, d⟩) (r s : Bun) (hr : givenB ⟨n, o, h, d⟩ c a v = r) (hs : restB ⟨n, o, h, d⟩ c a = s) :
    0 ≤ r.n ∧ 0 ≤ s.n ∧ r.n + s.n = n ∧ okB r ∧ okB s ∧ (r.o = true → s.o = false ∧ o = true ∧ r.h = true ∧ r.d = d) ∧ (s.o = true → r.o = false ∧ o = true ∧ s.h = true ∧ s.d = d) ∧ (r.o = false → s.o = false → o = false)
      ∧ (joinB s r = ⟨n, o, h, d⟩ ∨ r.h = false ∧ s.h = false ∧ o = false ∧ joinB s r = ⟨n, false, false, 0⟩) ∧ (c < 1 → r = ⟨0, false, false, 0⟩) ∧ r.n ≤ max c 0 := by
  have hb := howMany_bd n o h d c a ok.1 (fun e => (ok.2.1 e).1)
  have hc : howManyZ ⟨n, o, h, d⟩ c a ≤ max c 0 := by
    unfold howManyZ clampZ
    have := ok.1
    (repeat' split) <;> simp_all <;> omega
  have hc0 : c < 1 → howManyZ ⟨n, o, h, d⟩ c a = 0 := by omega
  have hall : howManyZ ⟨n, o, h, d⟩ c a = n → o = true → a = false → n = 0 := by
    intro e e1 e2
    have hp := ok.1
    subst e1; subst e2
    unfold howManyZ at e
    simp at e
    have h0 := ok.2.1
    by_cases z : n = 0
    · exact z
    · have := clampZ_in (clampZ c 0 n) 0 (n - 1) (by simp at hp; omega)
      omega
  unfold givenB at hr
  unfold restB at hs
  obtain ⟨k0, k1, k2, k3⟩ := ok
  simp only at k0 k1 k2 k3
  generalize howManyZ ⟨n, o, h, d⟩ c a = g at *
  by_cases z : g = 0
  · subst z
    simp at hr hs
    subst hr hs
    refine ⟨by simp, k0, by simp, by simp [okB], ⟨k0, k1, k2, k3⟩, by simp, fun e => ⟨rfl, e, k2 e, rfl⟩, fun _ e => e, Or.inl ?_, fun _ => rfl, by simp; omega⟩
    cases h
    · have := k3 rfl
      cases o <;> simp [joinB, withV, this]
    · cases o <;> simp [joinB, withV]
  · have hn0 : n ≠ 0 := by omega
    simp only [if_neg z] at hr hs
    have hcc : ¬ c < 1 := fun e => z (hc0 e)
    clear hc0
    by_cases y : g = n
    · have hall' := hall y
      clear hall
      subst y
      simp only [if_true] at hs
      subst hr hs
      clear k1
      have k3' : h = false → d = 0 := k3
      cases o <;> cases h <;> cases a <;> cases v
      all_goals first | (exfalso; have := k2 rfl; contradiction) | (exfalso; exact hn0 (hall' rfl rfl)) | skip
      all_goals (try have k4 := k3' rfl); (try subst k4); clear k3 k3' k2 hall'
      all_goals simp [okB, joinB, withV, hcc, hn0]
      all_goals omega
    · simp only [if_neg y] at hs
      subst hr hs
      clear k1 hall
      have k3' : h = false → d = 0 := k3
      have y' : n - g ≠ 0 := by omega
      cases o <;> cases h <;> cases a <;> cases v
      all_goals first | (exfalso; have := k2 rfl; contradiction) | skip
      all_goals (try have k4 := k3' rfl); (try subst k4); clear k3 k3' k2
      all_goals simp [okB, joinB, withV, hcc, z, y']
      all_goals omega
theorem check_of_ok (b : Bun) (t : Int) (ok : okB b) (h : b.n ≤ t) : checkZ b t = 0 := by
  obtain ⟨k0, k1, k2, k3⟩ := ok
  unfold checkZ
  rw [if_neg (by omega), if_neg (by rintro ⟨e, f⟩; have := k1 e; simp_all), if_neg (by rintro ⟨e, f⟩; have := k2 e; simp_all), if_neg (by rintro ⟨e, f⟩; exact f (k3 e))]
abbrev bun0 : Bun := ⟨0, false, false, 0⟩
theorem okB_zero : okB bun0 := by simp [okB]
theorem ok_zero {b : Bun} (h : okB b) (hn : b.n = 0) : b = bun0 := by
  obtain ⟨n, o, e, d⟩ := b
  obtain ⟨h0, h1, h2, h3⟩ := h
  simp only at hn h0 h1 h2 h3
  obtain ⟨rfl, rfl⟩ := h1 hn
  rw [h3 rfl, hn]
theorem joinB_n (h b : Bun) : (joinB h b).n = h.n + b.n := by
  unfold joinB withV
  (repeat' split) <;> rfl
theorem joinB_o (h b : Bun) : (joinB h b).o = (h.o || b.o) := by
  unfold joinB withV
  (repeat' split) <;> rfl
theorem joinB_h (h b : Bun) : (joinB h b).h = (h.h || b.h) := by
  unfold joinB withV
  cases h.h <;> cases b.h <;> simp
theorem joinB_ok {h b : Bun} (h1 : okB h) (h2 : okB b) : okB (joinB h b) := by
  obtain ⟨n, o, e, d⟩ := h
  obtain ⟨n', o', e', d'⟩ := b
  obtain ⟨a0, a1, a2, a3⟩ := h1
  obtain ⟨b0, b1, b2, b3⟩ := h2
  simp only at a0 a1 a2 a3 b0 b1 b2 b3
  have z1 : n + n' = 0 → n = 0 := by omega
  have z2 : n + n' = 0 → n' = 0 := by omega
  refine ⟨by rw [joinB_n]; simp only; omega, ?_, ?_, ?_⟩
  · rw [joinB_n, joinB_o, joinB_h]
    intro e0
    simp only at e0 ⊢
    rw [(a1 (z1 e0)).1, (a1 (z1 e0)).2, (b1 (z2 e0)).1, (b1 (z2 e0)).2]
    simp
  · rw [joinB_o, joinB_h]
    intro e0
    simp only at e0 ⊢
    rcases Bool.or_eq_true_iff.1 e0 with e1 | e1
    · rw [a2 e1]; rfl
    · rw [b2 e1]; simp
  · rw [joinB_h]
    intro e0
    simp only at e0
    obtain ⟨e1, e2⟩ := Bool.or_eq_false_iff.1 e0
    subst e1 e2
    simp [joinB, withV]
theorem restB_ok {h : Bun} (k : okB h) (c : Int) (o : Bool) : okB (restB h c o) ∧ (restB h c o).n ≤ h.n := by
  obtain ⟨n, b, e, d⟩ := h
  have := parts_math n b e d c o false k _ _ rfl rfl
  exact ⟨this.2.2.2.2.1, by have := this.1; simp only; omega⟩
theorem restB_zero (c : Int) (o : Bool) : restB bun0 c o = bun0 :=
  ok_zero (restB_ok okB_zero c o).1 (by have h1 := (restB_ok okB_zero c o).1.1; have h2 := (restB_ok okB_zero c o).2; simp only at h2; omega)
end Go.Proofs.YtmgjgeaigdiadaaDoor
