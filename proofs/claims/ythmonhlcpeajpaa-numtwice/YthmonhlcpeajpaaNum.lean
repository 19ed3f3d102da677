/- The contracts of package num's calls and of the document's own answers for them (layer 1): what each returns, for every int64 (Mod, Double, Bit, Ones: within the bounds of int64), the world as it was. -/
import Derived.Test.YthmonhlcpeajpaaRows
import Derived.Test.YthmonhlcpeajpaaMath
import Derived.Test.YthmonhlcpeajpaaPop
import Derived.WalkKit
import Derived.ProofKit
import Derived.OpenShut
import Derived.Laws.BitsAllLaws
import Derived.Laws.Bits128
namespace Go.Proofs.Ythmonhlcpeajpaa
open Go.ChangeShapes Go.WideShapes Go.ChangeAt Go.RowKit

theorem bd64 {n : Int} (w : (Lit.int .i64 n).wf = true) : -9223372036854775808 ≤ n ∧ n ≤ 9223372036854775807 := by
  have := bounds_i64 w
  omega

theorem ret_int {k : IntKind} {a b : Int} (h : a = b) : Ending.returned (.int k a) = .returned (.int k b) := by rw [h]

theorem numClamp_any (n lo hi : Int) (w : World) :
    Calls Try.prog 10 #[.int .i64 n, .int .i64 lo, .int .i64 hi] w fun e w' => e = .returned (.int .i64 (clampZ n lo hi)) ∧ w' = w := by
  by_cases h1 : hi < lo
  · go_enter Try.func10, Try.ntmps10
    go_wp2
    go_ret
    exact ⟨by simp [clampZ, h1], rfl⟩
  · by_cases h2 : n < lo
    · go_enter Try.func10, Try.ntmps10
      go_wp2
      go_ret
      exact ⟨by simp [clampZ, h2], rfl⟩
    · by_cases h3 : hi < n
      all_goals
        go_enter Try.func10, Try.ntmps10
        go_wp2
        go_ret
        exact ⟨by simp [clampZ]; omega, rfl⟩

theorem numMod_any (n m : Int) (w : World) (h2 : m ≤ 9223372036854775807) :
    Calls Try.prog 12 #[.int .i64 n, .int .i64 m] w fun e w' => e = .returned (.int .i64 (modZ n m)) ∧ w' = w := by
  by_cases hm : m < 1
  · go_enter Try.func12, Try.ntmps12
    go_wp2
    go_ret
    exact ⟨by simp [modZ, hm], rfl⟩
  · have hz : modZ n m = n % m := by rw [modZ, if_neg hm]
    have H := hide hz
    clear hz
    have hb := Int.emod_lt_of_pos n (show 0 < m by omega)
    have hb0 := Int.emod_nonneg n (show m ≠ 0 by omega)
    by_cases hn : 0 ≤ n
    · go_enter Try.func12, Try.ntmps12
      go_wp2
      go_ret
      exact ⟨ret_int (unhide H).symm, rfl⟩
    · by_cases hr : n.tmod m < 0
      · have ht := tmod_neg n m (by omega) hr
        have H2 := hide ht
        have hlo : 0 ≤ n.tmod m + m := by omega
        have hhi : n.tmod m + m ≤ 9223372036854775807 := by omega
        clear ht
        go_enter Try.func12, Try.ntmps12
        go_wp2
        go_ret
        exact ⟨ret_int (by rw [unhide H2, unhide H]), rfl⟩
      · have H2 := hide (tmod_pos n m (by omega) (by omega))
        go_enter Try.func12, Try.ntmps12
        go_wp2
        go_ret
        exact ⟨ret_int (by rw [unhide H2, unhide H]), rfl⟩

/-! ### Double -/
theorem numDouble_any (n t m : Int) (w : World) (h0 : n ≤ 9223372036854775807) (h1 : t ≤ 9223372036854775807) (h2 : m ≤ 9223372036854775807) :
    Calls Try.prog 17 #[.int .i64 n, .int .i64 t, .int .i64 m] w fun e w' => e = .returned (.int .i64 (doubleZ n t m)) ∧ w' = w := by
  have hd : doubleZ n t m = if max m 0 < max n 0 then max m 0 else dblN t.toNat (max n 0) (max m 0) := rfl
  obtain ⟨T, hT⟩ : ∃ T : Nat, (if t < 0 then 0 else t) = (T : Int) := ⟨t.toNat, by split <;> omega⟩
  obtain ⟨X, hX⟩ : ∃ X : Int, (if n < 0 then 0 else n) = X := ⟨_, rfl⟩
  obtain ⟨M, hM⟩ : ∃ M : Int, (if m < 0 then 0 else m) = M := ⟨_, rfl⟩
  have a0 : 0 ≤ X ∧ X ≤ 9223372036854775807 := by rw [← hX]; split <;> omega
  have b0 : 0 ≤ M ∧ M ≤ 9223372036854775807 := by rw [← hM]; split <;> omega
  have c1 : (T : Int) ≤ 9223372036854775807 := by rw [← hT]; split <;> omega
  rw [show t.toNat = T by split at hT <;> omega, show max m 0 = M by split at hM <;> omega, show max n 0 = X by split at hX <;> omega] at hd
  generalize doubleZ n t m = res at hd ⊢
  obtain ⟨a0, a1⟩ := a0
  obtain ⟨b0, b1⟩ := b0
  by_cases c : M < X
  · rw [if_pos c] at hd
    subst hd
    go_enter Try.func17, Try.ntmps17
    go_wp2
    go_ret
    exact ⟨rfl, rfl⟩
  · rw [if_neg c] at hd
    by_cases z : X = 0
    · rw [z, dblN_zero _ _ b0] at hd
      subst hd
      have z' : (X == 0) = true := by simp [z]
      clear z
      go_enter Try.func17, Try.ntmps17
      go_wp2
      go_ret
      exact ⟨rfl, rfl⟩
    · have z' : (X == 0) = false := by simp [z]
      have H := hide hd
      clear hd
      go_enter Try.func17, Try.ntmps17
      go_wp2
      go_loop [0, 20] (fun x i => ∃ (k : Nat) (y : Int), k ≤ T ∧ i = .int .i64 k ∧ x = .int .i64 y ∧ 1 ≤ y ∧ y ≤ M ∧ Hid (dblN (T - k) y M = res)) (fun _ i => T - (intOf i).toNat)
      case atStart => exact ⟨0, X, Nat.zero_le _, rfl, rfl, by omega, by omega, (unhide H).symm⟩
      case round =>
        obtain ⟨k, y, hk, rfl, rfl, hy1, hy2, hy⟩ := hrel
        clear hX hM hT
        by_cases hlt : k < T
        · have hy' := unhide hy
          rw [show T - k = (T - (k + 1)) + 1 by omega, dblN] at hy'
          by_cases hov : M < y + y
          · rw [if_pos hov] at hy'
            have hov' : M - y < y := by omega
            go_wp2
            go_ret
            exact ⟨rfl, rfl⟩
          · rw [if_neg hov] at hy'
            have hov' : ¬ M - y < y := by omega
            have H' := hide hy'
            clear hy' hy
            go_wp2
            go_round
            case rel => exact ⟨k + 1, y + y, by omega, by go_num, rfl, by omega, by omega, H'⟩
            case measure => simp [intOf]; omega
        · have hy' := unhide hy
          rw [show T - k = 0 by omega, dblN] at hy'
          go_wp2
          go_ret
          exact ⟨rfl, rfl⟩

/-! ### Bits -/
/-- The bits of a number, modulo 2^64. -/
def u64 (n : Int) : Nat := (n % 18446744073709551616).toNat
theorem u64_lt (n : Int) : u64 n < 18446744073709551616 := by unfold u64; omega
theorem u64_eq (n : Int) : (u64 n : Int) = n % 18446744073709551616 := by unfold u64; omega
theorem wrap_u64 (n : Int) : IntKind.u64.wrap n = (u64 n : Int) := by rw [u64_eq]; rfl
def bitB (n k : Int) : Bool := decide (0 ≤ k ∧ k ≤ 63 ∧ u64 n / 2 ^ k.toNat % 2 = 1)

set_option maxHeartbeats 400000 in
theorem numBit_any (n k : Int) (w : World) :
    Calls Try.prog 15 #[.int .i64 n, .int .i64 k] w fun e w' => e = .returned (.bool (bitB n k)) ∧ w' = w := by
  by_cases hk0 : k < 0
  · go_enter Try.func15, Try.ntmps15
    go_wp2
    go_ret
    exact ⟨by simp [bitB]; omega, rfl⟩
  · by_cases hk : 63 < k
    · go_enter Try.func15, Try.ntmps15
      go_wp2
      go_ret
      exact ⟨by simp [bitB]; omega, rfl⟩
    · have hw := wrap_u64 n
      have hu := u64_lt n
      have hb : ∀ j : Nat, bits BinOp.and IntKind.u64 ((u64 n : Int) / 2 ^ j) 1 = ((u64 n / 2 ^ j % 2 : Nat) : Int) := by
        intro j
        have h1 : u64 n / 2 ^ j < 18446744073709551616 := Nat.lt_of_le_of_lt (Nat.div_le_self _ _) hu
        have := u64_and_nat (u64 n / 2 ^ j) 1 h1 (by omega)
        rw [Nat.and_one_is_mod] at this
        rw [← this]
        simp
      have HB : bitB n k = (((u64 n / 2 ^ k.toNat % 2 : Nat) : Int) == 1) := by
        unfold bitB
        generalize u64 n / 2 ^ k.toNat % 2 = z
        rw [Bool.eq_iff_iff, decide_eq_true_iff, beq_iff_eq]
        omega
      rw [HB]
      clear HB
      go_enter Try.func15, Try.ntmps15
      go_wp2
      go_ret
      exact ⟨rfl, rfl⟩

set_option maxHeartbeats 400000 in
theorem ones64_any (x : Nat) (w : World) (hx : x < 18446744073709551616) :
    Calls Try.prog 19 #[.int .u64 x] w fun e w' => e = .returned (.int .i64 (popA 64 x)) ∧ w' = w := by
  obtain ⟨p0, p1, p2, p3, p4, p5, p6, p7, hs, hp, g0, g1, g2, g3, g4, g5, g6, g7⟩ := st_eight x hx
  have M1 : rep 85 8 = 6148914691236517205 := by decide
  have M2 : rep 51 8 = 3689348814741910323 := by decide
  have M3 : rep 15 8 = 1085102592571150095 := by decide
  have e1 := u64_and_nat (x / 2) (rep 85 8) (by omega) (by rw [M1]; omega)
  have e2 := u64_and_nat x (rep 85 8) hx (by rw [M1]; omega)
  have l1 : x / 2 &&& rep 85 8 ≤ rep 85 8 := Nat.and_le_right
  have l2 : x &&& rep 85 8 ≤ rep 85 8 := Nat.and_le_right
  unfold st1 at hs
  generalize x / 2 &&& rep 85 8 = a1 at *
  generalize x &&& rep 85 8 = a2 at *
  rw [M1] at e1 e2 l1 l2
  have e3 := u64_and_nat ((a1 + a2) / 4) (rep 51 8) (by omega) (by rw [M2]; omega)
  have e4 := u64_and_nat (a1 + a2) (rep 51 8) (by omega) (by rw [M2]; omega)
  have l3 : (a1 + a2) / 4 &&& rep 51 8 ≤ rep 51 8 := Nat.and_le_right
  have l4 : (a1 + a2) &&& rep 51 8 ≤ rep 51 8 := Nat.and_le_right
  unfold st2 at hs
  generalize (a1 + a2) / 4 &&& rep 51 8 = b1 at *
  generalize (a1 + a2) &&& rep 51 8 = b2 at *
  rw [M2] at e3 e4 l3 l4
  have e5 := u64_and_nat ((b1 + b2) / 16 + (b1 + b2)) (rep 15 8) (by omega) (by rw [M3]; omega)
  have l5 : (b1 + b2) / 16 + (b1 + b2) &&& rep 15 8 ≤ rep 15 8 := Nat.and_le_right
  unfold st3 at hs
  generalize (b1 + b2) / 16 + (b1 + b2) &&& rep 15 8 = c at *
  rw [M3] at e5 l5
  have fin : (((c + c / 256) + (c + c / 256) / 65536) + ((c + c / 256) + (c + c / 256) / 65536) / 4294967296) % 128 = popA 64 x := by
    rw [hp]; exact fold8 p0 p1 p2 p3 p4 p5 p6 p7 c _ _ _ _ _ _ _ hs rfl rfl rfl rfl rfl rfl rfl g0 g1 g2 g3 g4 g5 g6 g7
  have HF := hide fin
  have e127 := i64_and127
  simp only [Int.natCast_add, Int.natCast_ediv, Int.cast_ofNat_Int] at e1 e2 e3 e4 e5
  clear hs hp g0 g1 g2 g3 g4 g5 g6 g7 M1 M2 M3 fin
  generalize popA 64 x = res at *
  go_enter Try.func19, Try.ntmps19
  go_wp2
  go_ret
  exact ⟨ret_int (by have := unhide HF; omega), rfl⟩

def onesZ (n : Int) : Int := (popA 64 (u64 n) : Nat)
theorem onesZ_eq (n : Int) : ((popA 64 (u64 n) : Nat) : Int) = onesZ n := rfl
theorem onesZ_bd (n : Int) : 0 ≤ onesZ n ∧ onesZ n ≤ 64 := by have := popA_le 64 (u64 n); unfold onesZ; omega

theorem numOnes_any (n : Int) (w : World) :
    Calls Try.prog 16 #[.int .i64 n] w fun e w' => e = .returned (.int .i64 (onesZ n)) ∧ w' = w := by
  have hw := wrap_u64 n
  go_enter Try.func16, Try.ntmps16
  go_wp2_with (go_at_call 19; refine (ones64_any _ _ (u64_lt n)).mono ?_; rintro e w' ⟨rfl, rfl⟩)
  go_ret
  exact ⟨rfl, rfl⟩
end Go.Proofs.Ythmonhlcpeajpaa
