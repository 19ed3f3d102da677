/- The contracts of the document's own answers for layer 1 (jetonref01): each returns what the plain mathematics says, the world as it was. Double: within int64. -/
import Derived.Test.YthmonhlcpeajpaaNum
namespace Go.Proofs.Ythmonhlcpeajpaa
open Go.ChangeShapes Go.WideShapes Go.ChangeAt Go.RowKit

theorem refClamp_any (n lo hi : Int) (w : World) :
    Calls Try.prog 11 #[.int .i64 n, .int .i64 lo, .int .i64 hi] w fun e w' => e = .returned (.int .i64 (clampZ n lo hi)) ∧ w' = w := by
  by_cases h1 : hi < lo
  · go_enter Try.func11, Try.ntmps11
    go_wp2
    go_ret
    exact ⟨by simp [clampZ, h1], rfl⟩
  · by_cases h2 : n < lo
    · go_enter Try.func11, Try.ntmps11
      go_wp2
      go_ret
      exact ⟨by simp [clampZ, h2], rfl⟩
    · by_cases h3 : hi < n
      all_goals
        go_enter Try.func11, Try.ntmps11
        go_wp2
        go_ret
        exact ⟨by simp [clampZ]; omega, rfl⟩

theorem refMod_any (n m : Int) (w : World) (h2 : m ≤ 9223372036854775807) :
    Calls Try.prog 13 #[.int .i64 n, .int .i64 m] w fun e w' => e = .returned (.int .i64 (modZ n m)) ∧ w' = w := by
  by_cases hm : m < 1
  · go_enter Try.func13, Try.ntmps13
    go_wp2
    go_ret
    exact ⟨by simp [modZ, hm], rfl⟩
  · have hz : modZ n m = n % m := by rw [modZ, if_neg hm]
    have H := hide hz
    clear hz
    have hb := Int.emod_lt_of_pos n (show 0 < m by omega)
    have hb0 := Int.emod_nonneg n (show m ≠ 0 by omega)
    by_cases hn : 0 ≤ n
    · go_enter Try.func13, Try.ntmps13
      go_wp2
      go_ret
      exact ⟨ret_int (unhide H).symm, rfl⟩
    · by_cases hr : n.tmod m < 0
      · have ht := tmod_neg n m (by omega) hr
        have H2 := hide ht
        have hlo : 0 ≤ n.tmod m + m := by omega
        have hhi : n.tmod m + m ≤ 9223372036854775807 := by omega
        clear ht
        go_enter Try.func13, Try.ntmps13
        go_wp2
        go_ret
        exact ⟨ret_int (by rw [unhide H2, unhide H]), rfl⟩
      · have H2 := hide (tmod_pos n m (by omega) (by omega))
        go_enter Try.func13, Try.ntmps13
        go_wp2
        go_ret
        exact ⟨ret_int (by rw [unhide H2, unhide H]), rfl⟩

theorem refBit_any (n k : Int) (w : World) :
    Calls Try.prog 14 #[.int .i64 n, .int .i64 k] w fun e w' => e = .returned (.bool (bitB n k)) ∧ w' = w := by
  by_cases hk0 : k < 0
  · go_enter Try.func14, Try.ntmps14
    go_wp2
    go_ret
    exact ⟨by simp [bitB]; omega, rfl⟩
  · by_cases hk : 63 < k
    · go_enter Try.func14, Try.ntmps14
      go_wp2
      go_ret
      exact ⟨by simp [bitB]; omega, rfl⟩
    · have hw := wrap_u64 n
      have hu := u64_lt n
      obtain ⟨K, rfl⟩ := Int.eq_ofNat_of_zero_le (show 0 ≤ k by omega)
      have HB : bitB n K = (((u64 n / 2 ^ K % 2 : Nat) : Int) == 1) := by
        unfold bitB
        rw [Int.toNat_natCast]
        generalize u64 n / 2 ^ K % 2 = z
        rw [Bool.eq_iff_iff, decide_eq_true_iff, beq_iff_eq]
        omega
      rw [HB]
      clear HB
      generalize u64 n = u at *
      go_enter Try.func14, Try.ntmps14
      go_wp2
      go_loop [5, 6] (fun x i => ∃ (j : Nat) (y : Nat), j ≤ K ∧ i = .int .i64 j ∧ x = .int .u64 y ∧ y ≤ u ∧ Hid (y = u / 2 ^ j)) (fun _ i => K - (intOf i).toNat)
      case atStart => exact ⟨0, u, Nat.zero_le _, rfl, rfl, Nat.le_refl _, hide (by simp)⟩
      case round =>
        obtain ⟨j, y, hj, rfl, rfl, hy1, hy⟩ := hrel
        by_cases hlt : j < K
        · go_wp2
          go_round
          case rel => exact ⟨j + 1, y / 2, by omega, by go_num, by go_num, by omega, hide (by rw [unhide hy, Nat.div_div_eq_div_mul, Nat.pow_succ])⟩
          case measure => simp [intOf]; omega
        · have he : j = K := by omega
          subst he
          go_wp2
          go_ret
          have hz : (u : Int) / 2 ^ j = (y : Int) := by rw [unhide hy]; simp
          exact ⟨by rw [hz]; rfl, rfl⟩

theorem refDouble_any (n t m : Int) (w : World) (h0 : n ≤ 9223372036854775807) (h1 : t ≤ 9223372036854775807) (h2 : m ≤ 9223372036854775807) :
    Calls Try.prog 18 #[.int .i64 n, .int .i64 t, .int .i64 m] w fun e w' => e = .returned (.int .i64 (doubleZ n t m)) ∧ w' = w := by
  have hd : doubleZ n t m = if max m 0 < max n 0 then max m 0 else dblN t.toNat (max n 0) (max m 0) := rfl
  have loop : ∀ (X M : Int), 0 ≤ X → X ≤ M → M ≤ 9223372036854775807 → ∀ T : Nat, T = min t.toNat 70 → dblN T X M = dblN t.toNat X M := by
    intro X M a b c T hT
    by_cases h : t.toNat ≤ 70
    · rw [hT, Nat.min_eq_left h]
    · rw [hT, Nat.min_eq_right (by omega)]
      exact dblN_cap _ _ _ _ (by omega) (by omega) a b c
  by_cases hn : n < 0
  · by_cases hm : m < 0
    · have e1 : max n 0 = 0 := by omega
      have e2 : max m 0 = 0 := by omega
      rw [e1, e2] at hd
      clear e1 e2
      by_cases c : (0 : Int) < 0
      · exact absurd c (by omega)
      · rw [if_neg c, ← loop 0 0 (by omega) (by omega) (by omega) _ rfl] at hd
        generalize doubleZ n t m = res at hd ⊢
        have hT : min t.toNat 70 ≤ 70 := by omega
        have hT2 : ((min t.toNat 70 : Nat) : Int) ≤ max t 0 := by omega
        have hT3 : t ≤ ((min t.toNat 70 : Nat) : Int) ∨ min t.toNat 70 = 70 := by omega
        generalize min t.toNat 70 = T at *
        have H := hide hd
        have HT3 := hide hT3
        clear hd loop hT3
        go_enter Try.func18, Try.ntmps18
        go_wp2
        go_loop [0, 7] (fun x i => ∃ (k : Nat) (y : Int), k ≤ T ∧ i = .int .i64 k ∧ x = .int .i64 y ∧ 0 ≤ y ∧ y ≤ 0 ∧ Hid (dblN (T - k) y 0 = res)) (fun _ i => T - (intOf i).toNat)
        case atStart => exact ⟨0, 0, Nat.zero_le _, rfl, rfl, by omega, by omega, (unhide H).symm⟩
        case round =>
          obtain ⟨k, y, hk, rfl, rfl, hy1, hy2, hy⟩ := hrel
          by_cases hlt : k < T
          · have hy' := unhide hy
            have k1 : (k : Int) < t := by omega
            have k2 : (k : Int) < 70 := by omega
            rw [show T - k = (T - (k + 1)) + 1 by omega, dblN] at hy'
            by_cases hov : 0 < y + y
            · exact absurd hov (by omega)
            · rw [if_neg hov] at hy'
              have hov' : ¬ (0 : Int) / 2 < y := by omega
              have H' := hide hy'
              clear hy' hy
              go_wp2
              go_round
              case rel => exact ⟨k + 1, y + y, by omega, by go_num, by go_num, by omega, by omega, H'⟩
              case measure => simp [intOf]; omega
          · have hy' := unhide hy
            rw [show T - k = 0 by omega, dblN] at hy'
            have H' := hide hy'
            clear hy'
            by_cases k1 : (k : Int) < t
            · have k2 : ¬ (k : Int) < 70 := by have := unhide HT3; omega
              go_wp2
              go_ret
              exact ⟨ret_int (unhide H'), rfl⟩
            · go_wp2
              go_ret
              exact ⟨ret_int (unhide H'), rfl⟩
    · have e1 : max n 0 = 0 := by omega
      have e2 : max m 0 = m := by omega
      rw [e1, e2] at hd
      clear e1 e2
      by_cases c : (m : Int) < 0
      · exact absurd c (by omega)
      · rw [if_neg c, ← loop 0 m (by omega) (by omega) (by omega) _ rfl] at hd
        generalize doubleZ n t m = res at hd ⊢
        have hT : min t.toNat 70 ≤ 70 := by omega
        have hT2 : ((min t.toNat 70 : Nat) : Int) ≤ max t 0 := by omega
        have hT3 : t ≤ ((min t.toNat 70 : Nat) : Int) ∨ min t.toNat 70 = 70 := by omega
        generalize min t.toNat 70 = T at *
        have H := hide hd
        have HT3 := hide hT3
        clear hd loop hT3
        go_enter Try.func18, Try.ntmps18
        go_wp2
        go_loop [0, 7] (fun x i => ∃ (k : Nat) (y : Int), k ≤ T ∧ i = .int .i64 k ∧ x = .int .i64 y ∧ 0 ≤ y ∧ y ≤ m ∧ Hid (dblN (T - k) y m = res)) (fun _ i => T - (intOf i).toNat)
        case atStart => exact ⟨0, 0, Nat.zero_le _, rfl, rfl, by omega, by omega, (unhide H).symm⟩
        case round =>
          obtain ⟨k, y, hk, rfl, rfl, hy1, hy2, hy⟩ := hrel
          by_cases hlt : k < T
          · have hy' := unhide hy
            have k1 : (k : Int) < t := by omega
            have k2 : (k : Int) < 70 := by omega
            rw [show T - k = (T - (k + 1)) + 1 by omega, dblN] at hy'
            by_cases hov : m < y + y
            · rw [if_pos hov] at hy'
              have hov' : (m : Int) / 2 < y := by omega
              have H' := hide hy'
              clear hy' hy
              go_wp2
              go_ret
              exact ⟨ret_int (unhide H'), rfl⟩
            · rw [if_neg hov] at hy'
              have hov' : ¬ (m : Int) / 2 < y := by omega
              have H' := hide hy'
              clear hy' hy
              go_wp2
              go_round
              case rel => exact ⟨k + 1, y + y, by omega, by go_num, by go_num, by omega, by omega, H'⟩
              case measure => simp [intOf]; omega
          · have hy' := unhide hy
            rw [show T - k = 0 by omega, dblN] at hy'
            have H' := hide hy'
            clear hy'
            by_cases k1 : (k : Int) < t
            · have k2 : ¬ (k : Int) < 70 := by have := unhide HT3; omega
              go_wp2
              go_ret
              exact ⟨ret_int (unhide H'), rfl⟩
            · go_wp2
              go_ret
              exact ⟨ret_int (unhide H'), rfl⟩
  · by_cases hm : m < 0
    · have e1 : max n 0 = n := by omega
      have e2 : max m 0 = 0 := by omega
      rw [e1, e2] at hd
      clear e1 e2
      by_cases c : (0 : Int) < n
      · rw [if_pos c] at hd
        rw [hd]
        go_enter Try.func18, Try.ntmps18
        go_wp2
        go_ret
        exact ⟨rfl, rfl⟩
      · rw [if_neg c, ← loop n 0 (by omega) (by omega) (by omega) _ rfl] at hd
        generalize doubleZ n t m = res at hd ⊢
        have hT : min t.toNat 70 ≤ 70 := by omega
        have hT2 : ((min t.toNat 70 : Nat) : Int) ≤ max t 0 := by omega
        have hT3 : t ≤ ((min t.toNat 70 : Nat) : Int) ∨ min t.toNat 70 = 70 := by omega
        generalize min t.toNat 70 = T at *
        have H := hide hd
        have HT3 := hide hT3
        clear hd loop hT3
        go_enter Try.func18, Try.ntmps18
        go_wp2
        go_loop [0, 7] (fun x i => ∃ (k : Nat) (y : Int), k ≤ T ∧ i = .int .i64 k ∧ x = .int .i64 y ∧ 0 ≤ y ∧ y ≤ 0 ∧ Hid (dblN (T - k) y 0 = res)) (fun _ i => T - (intOf i).toNat)
        case atStart => exact ⟨0, n, Nat.zero_le _, rfl, rfl, by omega, by omega, (unhide H).symm⟩
        case round =>
          obtain ⟨k, y, hk, rfl, rfl, hy1, hy2, hy⟩ := hrel
          by_cases hlt : k < T
          · have hy' := unhide hy
            have k1 : (k : Int) < t := by omega
            have k2 : (k : Int) < 70 := by omega
            rw [show T - k = (T - (k + 1)) + 1 by omega, dblN] at hy'
            by_cases hov : 0 < y + y
            · exact absurd hov (by omega)
            · rw [if_neg hov] at hy'
              have hov' : ¬ (0 : Int) / 2 < y := by omega
              have H' := hide hy'
              clear hy' hy
              go_wp2
              go_round
              case rel => exact ⟨k + 1, y + y, by omega, by go_num, by go_num, by omega, by omega, H'⟩
              case measure => simp [intOf]; omega
          · have hy' := unhide hy
            rw [show T - k = 0 by omega, dblN] at hy'
            have H' := hide hy'
            clear hy'
            by_cases k1 : (k : Int) < t
            · have k2 : ¬ (k : Int) < 70 := by have := unhide HT3; omega
              go_wp2
              go_ret
              exact ⟨ret_int (unhide H'), rfl⟩
            · go_wp2
              go_ret
              exact ⟨ret_int (unhide H'), rfl⟩
    · have e1 : max n 0 = n := by omega
      have e2 : max m 0 = m := by omega
      rw [e1, e2] at hd
      clear e1 e2
      by_cases c : (m : Int) < n
      · rw [if_pos c] at hd
        rw [hd]
        go_enter Try.func18, Try.ntmps18
        go_wp2
        go_ret
        exact ⟨rfl, rfl⟩
      · rw [if_neg c, ← loop n m (by omega) (by omega) (by omega) _ rfl] at hd
        generalize doubleZ n t m = res at hd ⊢
        have hT : min t.toNat 70 ≤ 70 := by omega
        have hT2 : ((min t.toNat 70 : Nat) : Int) ≤ max t 0 := by omega
        have hT3 : t ≤ ((min t.toNat 70 : Nat) : Int) ∨ min t.toNat 70 = 70 := by omega
        generalize min t.toNat 70 = T at *
        have H := hide hd
        have HT3 := hide hT3
        clear hd loop hT3
        go_enter Try.func18, Try.ntmps18
        go_wp2
        go_loop [0, 7] (fun x i => ∃ (k : Nat) (y : Int), k ≤ T ∧ i = .int .i64 k ∧ x = .int .i64 y ∧ 0 ≤ y ∧ y ≤ m ∧ Hid (dblN (T - k) y m = res)) (fun _ i => T - (intOf i).toNat)
        case atStart => exact ⟨0, n, Nat.zero_le _, rfl, rfl, by omega, by omega, (unhide H).symm⟩
        case round =>
          obtain ⟨k, y, hk, rfl, rfl, hy1, hy2, hy⟩ := hrel
          by_cases hlt : k < T
          · have hy' := unhide hy
            have k1 : (k : Int) < t := by omega
            have k2 : (k : Int) < 70 := by omega
            rw [show T - k = (T - (k + 1)) + 1 by omega, dblN] at hy'
            by_cases hov : m < y + y
            · rw [if_pos hov] at hy'
              have hov' : (m : Int) / 2 < y := by omega
              have H' := hide hy'
              clear hy' hy
              go_wp2
              go_ret
              exact ⟨ret_int (unhide H'), rfl⟩
            · rw [if_neg hov] at hy'
              have hov' : ¬ (m : Int) / 2 < y := by omega
              have H' := hide hy'
              clear hy' hy
              go_wp2
              go_round
              case rel => exact ⟨k + 1, y + y, by omega, by go_num, by go_num, by omega, by omega, H'⟩
              case measure => simp [intOf]; omega
          · have hy' := unhide hy
            rw [show T - k = 0 by omega, dblN] at hy'
            have H' := hide hy'
            clear hy'
            by_cases k1 : (k : Int) < t
            · have k2 : ¬ (k : Int) < 70 := by have := unhide HT3; omega
              go_wp2
              go_ret
              exact ⟨ret_int (unhide H'), rfl⟩
            · go_wp2
              go_ret
              exact ⟨ret_int (unhide H'), rfl⟩
end Go.Proofs.Ythmonhlcpeajpaa
