/- layer 15: Num Ref01, put together. -/
import Derived.Test.YtoenjdnccgmhoaaGreatDoorRows
import Derived.Test.YtoenjdnccgmhoaaGreatDoorB02
import Derived.WalkKit
import Derived.ProofKit
import Derived.OpenShut
import Derived.Laws.BitsAllLaws
import Derived.Laws.Bits128
namespace Go.Proofs.YtoenjdnccgmhoaaGreatDoor
open Go.ChangeShapes Go.WideShapes Go.ChangeAt Go.RowKit
theorem bd64 {n : Int} (w : (Lit.int .i64 n).wf = true) : -9223372036854775808 ≤ n ∧ n ≤ 9223372036854775807 := by
  have := bounds_i64 w
  omega
theorem ret_int {k : IntKind} {a b : Int} (h : a = b) : Ending.returned (.int k a) = .returned (.int k b) := by rw [h]
theorem numClamp_any (n lo hi : Int) (w : World) :
    Calls Tryz.prog 143 #[.int .i64 n, .int .i64 lo, .int .i64 hi] w fun e w' => e = .returned (.int .i64 (clampZ n lo hi)) ∧ w' = w := by
  by_cases h1 : hi < lo
  · go_enter Tryz.func143, Tryz.ntmps143
    go_wp2
    go_ret
    exact ⟨by simp [clampZ, h1], rfl⟩
  · by_cases h2 : n < lo
    · go_enter Tryz.func143, Tryz.ntmps143
      go_wp2
      go_ret
      exact ⟨by simp [clampZ, h2], rfl⟩
    · by_cases h3 : hi < n
      all_goals
        go_enter Tryz.func143, Tryz.ntmps143
        go_wp2
        go_ret
        exact ⟨by simp [clampZ]; omega, rfl⟩
theorem numMod_any (n m : Int) (w : World) (h2 : m ≤ 9223372036854775807) :
    Calls Tryz.prog 183 #[.int .i64 n, .int .i64 m] w fun e w' => e = .returned (.int .i64 (modZ n m)) ∧ w' = w := by
  by_cases hm : m < 1
  · go_enter Tryz.func183, Tryz.ntmps183
    go_wp2
    go_ret
    exact ⟨by simp [modZ, hm], rfl⟩
  · have hz : modZ n m = n % m := by rw [modZ, if_neg hm]
    have H := hide hz
    clear hz
    have hb := Int.emod_lt_of_pos n (show 0 < m by omega)
    have hb0 := Int.emod_nonneg n (show m ≠ 0 by omega)
    by_cases hn : 0 ≤ n
    · go_enter Tryz.func183, Tryz.ntmps183
      go_wp2
      go_ret
      exact ⟨ret_int (unhide H).symm, rfl⟩
    · by_cases hr : n.tmod m < 0
      · have ht := tmod_neg n m (by omega) hr
        have H2 := hide ht
        have hlo : 0 ≤ n.tmod m + m := by omega
        have hhi : n.tmod m + m ≤ 9223372036854775807 := by omega
        clear ht
        go_enter Tryz.func183, Tryz.ntmps183
        go_wp2
        go_ret
        exact ⟨ret_int (by rw [unhide H2, unhide H]), rfl⟩
      · have H2 := hide (tmod_pos n m (by omega) (by omega))
        go_enter Tryz.func183, Tryz.ntmps183
        go_wp2
        go_ret
        exact ⟨ret_int (by rw [unhide H2, unhide H]), rfl⟩
theorem numDouble_any (n t m : Int) (w : World) (h0 : n ≤ 9223372036854775807) (h1 : t ≤ 9223372036854775807) (h2 : m ≤ 9223372036854775807) :
    Calls Tryz.prog 137 #[.int .i64 n, .int .i64 t, .int .i64 m] w fun e w' => e = .returned (.int .i64 (doubleZ n t m)) ∧ w' = w := by
  have hd : doubleZ n t m = if max m 0 < max n 0 then max m 0 else dblN t.toNat (max n 0) (max m 0) := rfl
  obtain ⟨T, hT⟩ : ∃ T : Nat, (if t < 0 then 0 else t) = (T : Int) := ⟨t.toNat, by split <;> omega⟩
  obtain ⟨X, hX⟩ : ∃ X : Int, (if n < 0 then 0 else n) = X := ⟨_, rfl⟩
  obtain ⟨M, hM⟩ : ∃ M : Int, (if m < 0 then 0 else m) = M := ⟨_, rfl⟩
  have a0 : 0 ≤ X ∧ X ≤ 9223372036854775807 := by rw [← hX]; split <;> omega
  have b0 : 0 ≤ M ∧ M ≤ 9223372036854775807 := by rw [← hM]; split <;> omega
  have c1 : (T : Int) ≤ 9223372036854775807 := by rw [← hT]; split <;> omega
  rw [show t.toNat = T by split at hT <;> omega, show max m 0 = M by split at hM <;> omega, show max n 0 = X by split at hX <;> omega] at hd
  generalize doubleZ n t m = res at hd ⊢
  obtain ⟨a0, a1⟩ := a0
  obtain ⟨b0, b1⟩ := b0
  by_cases c : M < X
  · rw [if_pos c] at hd
    subst hd
    go_enter Tryz.func137, Tryz.ntmps137
    go_wp2
    go_ret
    exact ⟨rfl, rfl⟩
  · rw [if_neg c] at hd
    by_cases z : X = 0
    · rw [z, dblN_zero _ _ b0] at hd
      subst hd
      have z' : (X == 0) = true := by simp [z]
      clear z
      go_enter Tryz.func137, Tryz.ntmps137
      go_wp2
      go_ret
      exact ⟨rfl, rfl⟩
    · have z' : (X == 0) = false := by simp [z]
      have H := hide hd
      clear hd
      go_enter Tryz.func137, Tryz.ntmps137
      go_wp2
      go_loop [0, 20] (fun x i => ∃ (k : Nat) (y : Int), k ≤ T ∧ i = .int .i64 k ∧ x = .int .i64 y ∧ 1 ≤ y ∧ y ≤ M ∧ Hid (dblN (T - k) y M = res)) (fun _ i => T - (intOf i).toNat)
      case atStart => exact ⟨0, X, Nat.zero_le _, rfl, rfl, by omega, by omega, (unhide H).symm⟩
      case round =>
        obtain ⟨k, y, hk, rfl, rfl, hy1, hy2, hy⟩ := hrel
        clear hX hM hT
        by_cases hlt : k < T
        · have hy' := unhide hy
          rw [show T - k = (T - (k + 1)) + 1 by omega, dblN] at hy'
          by_cases hov : M < y + y
          · rw [if_pos hov] at hy'
            have hov' : M - y < y := by omega
            go_wp2
            go_ret
            exact ⟨rfl, rfl⟩
          · rw [if_neg hov] at hy'
            have hov' : ¬ M - y < y := by omega
            have H' := hide hy'
            clear hy' hy
            go_wp2
            go_round
            case rel => exact ⟨k + 1, y + y, by omega, by go_num, rfl, by omega, by omega, H'⟩
            case measure => simp [intOf]; omega
        · have hy' := unhide hy
          rw [show T - k = 0 by omega, dblN] at hy'
          go_wp2
          go_ret
          exact ⟨rfl, rfl⟩
def u64 (n : Int) : Nat := (n % 18446744073709551616).toNat
theorem u64_lt (n : Int) : u64 n < 18446744073709551616 := by unfold u64; omega
theorem u64_eq (n : Int) : (u64 n : Int) = n % 18446744073709551616 := by unfold u64; omega
theorem wrap_u64 (n : Int) : IntKind.u64.wrap n = (u64 n : Int) := by rw [u64_eq]; rfl
def bitB (n k : Int) : Bool := decide (0 ≤ k ∧ k ≤ 63 ∧ u64 n / 2 ^ k.toNat % 2 = 1)
set_option maxHeartbeats 400000 in
theorem numBit_any (n k : Int) (w : World) :
    Calls Tryz.prog 149 #[.int .i64 n, .int .i64 k] w fun e w' => e = .returned (.bool (bitB n k)) ∧ w' = w := by
  by_cases hk0 : k < 0
  · go_enter Tryz.func149, Tryz.ntmps149
    go_wp2
    go_ret
    exact ⟨by simp [bitB]; omega, rfl⟩
  · by_cases hk : 63 < k
    · go_enter Tryz.func149, Tryz.ntmps149
      go_wp2
      go_ret
      exact ⟨by simp [bitB]; omega, rfl⟩
    · have hw := wrap_u64 n
      have hu := u64_lt n
      have hb : ∀ j : Nat, bits BinOp.and IntKind.u64 ((u64 n : Int) / 2 ^ j) 1 = ((u64 n / 2 ^ j % 2 : Nat) : Int) := by
        intro j
        have h1 : u64 n / 2 ^ j < 18446744073709551616 := Nat.lt_of_le_of_lt (Nat.div_le_self _ _) hu
        have := u64_and_nat (u64 n / 2 ^ j) 1 h1 (by omega)
        rw [Nat.and_one_is_mod] at this
        rw [← this]
        simp
      have HB : bitB n k = (((u64 n / 2 ^ k.toNat % 2 : Nat) : Int) == 1) := by
        unfold bitB
        generalize u64 n / 2 ^ k.toNat % 2 = z
        rw [Bool.eq_iff_iff, decide_eq_true_iff, beq_iff_eq]
        omega
      rw [HB]
      clear HB
      go_enter Tryz.func149, Tryz.ntmps149
      go_wp2
      go_ret
      exact ⟨rfl, rfl⟩
def onesZ (n : Int) : Int := (popA 64 (u64 n) : Nat)
theorem onesZ_eq (n : Int) : ((popA 64 (u64 n) : Nat) : Int) = onesZ n := rfl
theorem onesZ_bd (n : Int) : 0 ≤ onesZ n ∧ onesZ n ≤ 64 := by have := popA_le 64 (u64 n); unfold onesZ; omega
theorem refClamp_any (n lo hi : Int) (w : World) :
    Calls Tryz.prog 144 #[.int .i64 n, .int .i64 lo, .int .i64 hi] w fun e w' => e = .returned (.int .i64 (clampZ n lo hi)) ∧ w' = w := by
  by_cases h1 : hi < lo
  · go_enter Tryz.func144, Tryz.ntmps144
    go_wp2
    go_ret
    exact ⟨by simp [clampZ, h1], rfl⟩
  · by_cases h2 : n < lo
    · go_enter Tryz.func144, Tryz.ntmps144
      go_wp2
      go_ret
      exact ⟨by simp [clampZ, h2], rfl⟩
    · by_cases h3 : hi < n
      all_goals
        go_enter Tryz.func144, Tryz.ntmps144
        go_wp2
        go_ret
        exact ⟨by simp [clampZ]; omega, rfl⟩
theorem refMod_any (n m : Int) (w : World) (h2 : m ≤ 9223372036854775807) :
    Calls Tryz.prog 157 #[.int .i64 n, .int .i64 m] w fun e w' => e = .returned (.int .i64 (modZ n m)) ∧ w' = w := by
  by_cases hm : m < 1
  · go_enter Tryz.func157, Tryz.ntmps157
    go_wp2
    go_ret
    exact ⟨by simp [modZ, hm], rfl⟩
  · have hz : modZ n m = n % m := by rw [modZ, if_neg hm]
    have H := hide hz
    clear hz
    have hb := Int.emod_lt_of_pos n (show 0 < m by omega)
    have hb0 := Int.emod_nonneg n (show m ≠ 0 by omega)
    by_cases hn : 0 ≤ n
    · go_enter Tryz.func157, Tryz.ntmps157
      go_wp2
      go_ret
      exact ⟨ret_int (unhide H).symm, rfl⟩
    · by_cases hr : n.tmod m < 0
      · have ht := tmod_neg n m (by omega) hr
        have H2 := hide ht
        have hlo : 0 ≤ n.tmod m + m := by omega
        have hhi : n.tmod m + m ≤ 9223372036854775807 := by omega
        clear ht
        go_enter Tryz.func157, Tryz.ntmps157
        go_wp2
        go_ret
        exact ⟨ret_int (by rw [unhide H2, unhide H]), rfl⟩
      · have H2 := hide (tmod_pos n m (by omega) (by omega))
        go_enter Tryz.func157, Tryz.ntmps157
        go_wp2
        go_ret
        exact ⟨ret_int (by rw [unhide H2, unhide H]), rfl⟩
theorem refBit_any (n k : Int) (w : World) :
    Calls Tryz.prog 97 #[.int .i64 n, .int .i64 k] w fun e w' => e = .returned (.bool (bitB n k)) ∧ w' = w := by
  by_cases hk0 : k < 0
  · go_enter Tryz.func97, Tryz.ntmps97
    go_wp2
    go_ret
    exact ⟨by simp [bitB]; omega, rfl⟩
  · by_cases hk : 63 < k
    · go_enter Tryz.func97, Tryz.ntmps97
      go_wp2
      go_ret
      exact ⟨by simp [bitB]; omega, rfl⟩
    · have hw := wrap_u64 n
      have hu := u64_lt n
      obtain ⟨K, rfl⟩ := Int.eq_ofNat_of_zero_le (show 0 ≤ k by omega)
      have HB : bitB n K = (((u64 n / 2 ^ K % 2 : Nat) : Int) == 1) := by
        unfold bitB
        rw [Int.toNat_natCast]
        generalize u64 n / 2 ^ K % 2 = z
        rw [Bool.eq_iff_iff, decide_eq_true_iff, beq_iff_eq]
        omega
      rw [HB]
      clear HB
      generalize u64 n = u at *
      go_enter Tryz.func97, Tryz.ntmps97
      go_wp2
      go_loop [5, 6] (fun x i => ∃ (j : Nat) (y : Nat), j ≤ K ∧ i = .int .i64 j ∧ x = .int .u64 y ∧ y ≤ u ∧ Hid (y = u / 2 ^ j)) (fun _ i => K - (intOf i).toNat)
      case atStart => exact ⟨0, u, Nat.zero_le _, rfl, rfl, Nat.le_refl _, hide (by simp)⟩
      case round =>
        obtain ⟨j, y, hj, rfl, rfl, hy1, hy⟩ := hrel
        by_cases hlt : j < K
        · go_wp2
          go_round
          case rel => exact ⟨j + 1, y / 2, by omega, by go_num, by go_num, by omega, hide (by rw [unhide hy, Nat.div_div_eq_div_mul, Nat.pow_succ])⟩
          case measure => simp [intOf]; omega
        · have he : j = K := by omega
          subst he
          go_wp2
          go_ret
          have hz : (u : Int) / 2 ^ j = (y : Int) := by rw [unhide hy]; simp
          exact ⟨by rw [hz]; rfl, rfl⟩
theorem refDouble_any (n t m : Int) (w : World) (h0 : n ≤ 9223372036854775807) (h1 : t ≤ 9223372036854775807) (h2 : m ≤ 9223372036854775807) :
    Calls Tryz.prog 138 #[.int .i64 n, .int .i64 t, .int .i64 m] w fun e w' => e = .returned (.int .i64 (doubleZ n t m)) ∧ w' = w := by
  have hd : doubleZ n t m = if max m 0 < max n 0 then max m 0 else dblN t.toNat (max n 0) (max m 0) := rfl
  have loop : ∀ (X M : Int), 0 ≤ X → X ≤ M → M ≤ 9223372036854775807 → ∀ T : Nat, T = min t.toNat 70 → dblN T X M = dblN t.toNat X M := by
    intro X M a b c T hT
    by_cases h : t.toNat ≤ 70
    · rw [hT, Nat.min_eq_left h]
    · rw [hT, Nat.min_eq_right (by omega)]
      exact dblN_cap _ _ _ _ (by omega) (by omega) a b c
  by_cases hn : n < 0
  · by_cases hm : m < 0
    · have e1 : max n 0 = 0 := by omega
      have e2 : max m 0 = 0 := by omega
      rw [e1, e2] at hd
      clear e1 e2
      by_cases c : (0 : Int) < 0
      · exact absurd c (by omega)
      · rw [if_neg c, ← loop 0 0 (by omega) (by omega) (by omega) _ rfl] at hd
        generalize doubleZ n t m = res at hd ⊢
        have hT : min t.toNat 70 ≤ 70 := by omega
        have hT2 : ((min t.toNat 70 : Nat) : Int) ≤ max t 0 := by omega
        have hT3 : t ≤ ((min t.toNat 70 : Nat) : Int) ∨ min t.toNat 70 = 70 := by omega
        generalize min t.toNat 70 = T at *
        have H := hide hd
        have HT3 := hide hT3
        clear hd loop hT3
        go_enter Tryz.func138, Tryz.ntmps138
        go_wp2
        go_loop [0, 7] (fun x i => ∃ (k : Nat) (y : Int), k ≤ T ∧ i = .int .i64 k ∧ x = .int .i64 y ∧ 0 ≤ y ∧ y ≤ 0 ∧ Hid (dblN (T - k) y 0 = res)) (fun _ i => T - (intOf i).toNat)
        case atStart => exact ⟨0, 0, Nat.zero_le _, rfl, rfl, by omega, by omega, (unhide H).symm⟩
        case round =>
          obtain ⟨k, y, hk, rfl, rfl, hy1, hy2, hy⟩ := hrel
          by_cases hlt : k < T
          · have hy' := unhide hy
            have k1 : (k : Int) < t := by omega
            have k2 : (k : Int) < 70 := by omega
            rw [show T - k = (T - (k + 1)) + 1 by omega, dblN] at hy'
            by_cases hov : 0 < y + y
            · exact absurd hov (by omega)
            · rw [if_neg hov] at hy'
              have hov' : ¬ (0 : Int) / 2 < y := by omega
              have H' := hide hy'
              clear hy' hy
              go_wp2
              go_round
              case rel => exact ⟨k + 1, y + y, by omega, by go_num, by go_num, by omega, by omega, H'⟩
              case measure => simp [intOf]; omega
          · have hy' := unhide hy
            rw [show T - k = 0 by omega, dblN] at hy'
            have H' := hide hy'
            clear hy'
            by_cases k1 : (k : Int) < t
            · have k2 : ¬ (k : Int) < 70 := by have := unhide HT3; omega
              go_wp2
              go_ret
              exact ⟨ret_int (unhide H'), rfl⟩
            · go_wp2
              go_ret
              exact ⟨ret_int (unhide H'), rfl⟩
    · have e1 : max n 0 = 0 := by omega
      have e2 : max m 0 = m := by omega
      rw [e1, e2] at hd
      clear e1 e2
      by_cases c : (m : Int) < 0
      · exact absurd c (by omega)
      · rw [if_neg c, ← loop 0 m (by omega) (by omega) (by omega) _ rfl] at hd
        generalize doubleZ n t m = res at hd ⊢
        have hT : min t.toNat 70 ≤ 70 := by omega
        have hT2 : ((min t.toNat 70 : Nat) : Int) ≤ max t 0 := by omega
        have hT3 : t ≤ ((min t.toNat 70 : Nat) : Int) ∨ min t.toNat 70 = 70 := by omega
        generalize min t.toNat 70 = T at *
        have H := hide hd
        have HT3 := hide hT3
        clear hd loop hT3
        go_enter Tryz.func138, Tryz.ntmps138
        go_wp2
        go_loop [0, 7] (fun x i => ∃ (k : Nat) (y : Int), k ≤ T ∧ i = .int .i64 k ∧ x = .int .i64 y ∧ 0 ≤ y ∧ y ≤ m ∧ Hid (dblN (T - k) y m = res)) (fun _ i => T - (intOf i).toNat)
        case atStart => exact ⟨0, 0, Nat.zero_le _, rfl, rfl, by omega, by omega, (unhide H).symm⟩
        case round =>
          obtain ⟨k, y, hk, rfl, rfl, hy1, hy2, hy⟩ := hrel
          by_cases hlt : k < T
          · have hy' := unhide hy
            have k1 : (k : Int) < t := by omega
            have k2 : (k : Int) < 70 := by omega
            rw [show T - k = (T - (k + 1)) + 1 by omega, dblN] at hy'
            by_cases hov : m < y + y
            · rw [if_pos hov] at hy'
              have hov' : (m : Int) / 2 < y := by omega
              have H' := hide hy'
              clear hy' hy
              go_wp2
              go_ret
              exact ⟨ret_int (unhide H'), rfl⟩
            · rw [if_neg hov] at hy'
              have hov' : ¬ (m : Int) / 2 < y := by omega
              have H' := hide hy'
              clear hy' hy
              go_wp2
              go_round
              case rel => exact ⟨k + 1, y + y, by omega, by go_num, by go_num, by omega, by omega, H'⟩
              case measure => simp [intOf]; omega
          · have hy' := unhide hy
            rw [show T - k = 0 by omega, dblN] at hy'
            have H' := hide hy'
            clear hy'
            by_cases k1 : (k : Int) < t
            · have k2 : ¬ (k : Int) < 70 := by have := unhide HT3; omega
              go_wp2
              go_ret
              exact ⟨ret_int (unhide H'), rfl⟩
            · go_wp2
              go_ret
              exact ⟨ret_int (unhide H'), rfl⟩
  · by_cases hm : m < 0
    · have e1 : max n 0 = n := by omega
      have e2 : max m 0 = 0 := by omega
      rw [e1, e2] at hd
      clear e1 e2
      by_cases c : (0 : Int) < n
      · rw [if_pos c] at hd
        rw [hd]
        go_enter Tryz.func138, Tryz.ntmps138
        go_wp2
        go_ret
        exact ⟨rfl, rfl⟩
      · rw [if_neg c, ← loop n 0 (by omega) (by omega) (by omega) _ rfl] at hd
        generalize doubleZ n t m = res at hd ⊢
        have hT : min t.toNat 70 ≤ 70 := by omega
        have hT2 : ((min t.toNat 70 : Nat) : Int) ≤ max t 0 := by omega
        have hT3 : t ≤ ((min t.toNat 70 : Nat) : Int) ∨ min t.toNat 70 = 70 := by omega
        generalize min t.toNat 70 = T at *
        have H := hide hd
        have HT3 := hide hT3
        clear hd loop hT3
        go_enter Tryz.func138, Tryz.ntmps138
        go_wp2
        go_loop [0, 7] (fun x i => ∃ (k : Nat) (y : Int), k ≤ T ∧ i = .int .i64 k ∧ x = .int .i64 y ∧ 0 ≤ y ∧ y ≤ 0 ∧ Hid (dblN (T - k) y 0 = res)) (fun _ i => T - (intOf i).toNat)
        case atStart => exact ⟨0, n, Nat.zero_le _, rfl, rfl, by omega, by omega, (unhide H).symm⟩
        case round =>
          obtain ⟨k, y, hk, rfl, rfl, hy1, hy2, hy⟩ := hrel
          by_cases hlt : k < T
          · have hy' := unhide hy
            have k1 : (k : Int) < t := by omega
            have k2 : (k : Int) < 70 := by omega
            rw [show T - k = (T - (k + 1)) + 1 by omega, dblN] at hy'
            by_cases hov : 0 < y + y
            · exact absurd hov (by omega)
            · rw [if_neg hov] at hy'
              have hov' : ¬ (0 : Int) / 2 < y := by omega
              have H' := hide hy'
              clear hy' hy
              go_wp2
              go_round
              case rel => exact ⟨k + 1, y + y, by omega, by go_num, by go_num, by omega, by omega, H'⟩
              case measure => simp [intOf]; omega
          · have hy' := unhide hy
            rw [show T - k = 0 by omega, dblN] at hy'
            have H' := hide hy'
            clear hy'
            by_cases k1 : (k : Int) < t
            · have k2 : ¬ (k : Int) < 70 := by have := unhide HT3; omega
              go_wp2
              go_ret
              exact ⟨ret_int (unhide H'), rfl⟩
            · go_wp2
              go_ret
              exact ⟨ret_int (unhide H'), rfl⟩
    · have e1 : max n 0 = n := by omega
      have e2 : max m 0 = m := by omega
      rw [e1, e2] at hd
      clear e1 e2
      by_cases c : (m : Int) < n
      · rw [if_pos c] at hd
        rw [hd]
        go_enter Tryz.func138, Tryz.ntmps138
        go_wp2
        go_ret
        exact ⟨rfl, rfl⟩
      · rw [if_neg c, ← loop n m (by omega) (by omega) (by omega) _ rfl] at hd
        generalize doubleZ n t m = res at hd ⊢
        have hT : min t.toNat 70 ≤ 70 := by omega
        have hT2 : ((min t.toNat 70 : Nat) : Int) ≤ max t 0 := by omega
        have hT3 : t ≤ ((min t.toNat 70 : Nat) : Int) ∨ min t.toNat 70 = 70 := by omega
        generalize min t.toNat 70 = T at *
        have H := hide hd
        have HT3 := hide hT3
        clear hd loop hT3
        go_enter Tryz.func138, Tryz.ntmps138
        go_wp2
        go_loop [0, 7] (fun x i => ∃ (k : Nat) (y : Int), k ≤ T ∧ i = .int .i64 k ∧ x = .int .i64 y ∧ 0 ≤ y ∧ y ≤ m ∧ Hid (dblN (T - k) y m = res)) (fun _ i => T - (intOf i).toNat)
        case atStart => exact ⟨0, n, Nat.zero_le _, rfl, rfl, by omega, by omega, (unhide H).symm⟩
        case round =>
          obtain ⟨k, y, hk, rfl, rfl, hy1, hy2, hy⟩ := hrel
          by_cases hlt : k < T
          · have hy' := unhide hy
            have k1 : (k : Int) < t := by omega
            have k2 : (k : Int) < 70 := by omega
            rw [show T - k = (T - (k + 1)) + 1 by omega, dblN] at hy'
            by_cases hov : m < y + y
            · rw [if_pos hov] at hy'
              have hov' : (m : Int) / 2 < y := by omega
              have H' := hide hy'
              clear hy' hy
              go_wp2
              go_ret
              exact ⟨ret_int (unhide H'), rfl⟩
            · rw [if_neg hov] at hy'
              have hov' : ¬ (m : Int) / 2 < y := by omega
              have H' := hide hy'
              clear hy' hy
              go_wp2
              go_round
              case rel => exact ⟨k + 1, y + y, by omega, by go_num, by go_num, by omega, by omega, H'⟩
              case measure => simp [intOf]; omega
          · have hy' := unhide hy
            rw [show T - k = 0 by omega, dblN] at hy'
            have H' := hide hy'
            clear hy'
            by_cases k1 : (k : Int) < t
            · have k2 : ¬ (k : Int) < 70 := by have := unhide HT3; omega
              go_wp2
              go_ret
              exact ⟨ret_int (unhide H'), rfl⟩
            · go_wp2
              go_ret
              exact ⟨ret_int (unhide H'), rfl⟩
end Go.Proofs.YtoenjdnccgmhoaaGreatDoor
