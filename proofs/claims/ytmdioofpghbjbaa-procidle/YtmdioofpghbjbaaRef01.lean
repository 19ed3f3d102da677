/- The contracts of the document's own answers for layer 1 (jetonref01): each returns what the plain mathematics says, the world as it was. Double: within int64. -/
import Derived.Test.YtmdioofpghbjbaaNum
namespace Go.Proofs.Ytmdioofpghbjbaa
open Go.ChangeShapes Go.WideShapes Go.ChangeAt Go.RowKit

theorem refClamp_any (n lo hi : Int) (w : World) :
    Calls Try.prog 26 #[.int .i64 n, .int .i64 lo, .int .i64 hi] w fun e w' => e = .returned (.int .i64 (clampZ n lo hi)) ∧ w' = w := by
  by_cases h1 : hi < lo
  · go_enter Try.func26, Try.ntmps26
    go_wp2
    go_ret
    exact ⟨by simp [clampZ, h1], rfl⟩
  · by_cases h2 : n < lo
    · go_enter Try.func26, Try.ntmps26
      go_wp2
      go_ret
      exact ⟨by simp [clampZ, h2], rfl⟩
    · by_cases h3 : hi < n
      all_goals
        go_enter Try.func26, Try.ntmps26
        go_wp2
        go_ret
        exact ⟨by simp [clampZ]; omega, rfl⟩

theorem refDouble_any (n t m : Int) (w : World) (h0 : n ≤ 9223372036854775807) (h1 : t ≤ 9223372036854775807) (h2 : m ≤ 9223372036854775807) :
    Calls Try.prog 28 #[.int .i64 n, .int .i64 t, .int .i64 m] w fun e w' => e = .returned (.int .i64 (doubleZ n t m)) ∧ w' = w := by
  have hd : doubleZ n t m = if max m 0 < max n 0 then max m 0 else dblN t.toNat (max n 0) (max m 0) := rfl
  have loop : ∀ (X M : Int), 0 ≤ X → X ≤ M → M ≤ 9223372036854775807 → ∀ T : Nat, T = min t.toNat 70 → dblN T X M = dblN t.toNat X M := by
    intro X M a b c T hT
    by_cases h : t.toNat ≤ 70
    · rw [hT, Nat.min_eq_left h]
    · rw [hT, Nat.min_eq_right (by omega)]
      exact dblN_cap _ _ _ _ (by omega) (by omega) a b c
  by_cases hn : n < 0
  · by_cases hm : m < 0
    · have e1 : max n 0 = 0 := by omega
      have e2 : max m 0 = 0 := by omega
      rw [e1, e2] at hd
      clear e1 e2
      by_cases c : (0 : Int) < 0
      · exact absurd c (by omega)
      · rw [if_neg c, ← loop 0 0 (by omega) (by omega) (by omega) _ rfl] at hd
        generalize doubleZ n t m = res at hd ⊢
        have hT : min t.toNat 70 ≤ 70 := by omega
        have hT2 : ((min t.toNat 70 : Nat) : Int) ≤ max t 0 := by omega
        have hT3 : t ≤ ((min t.toNat 70 : Nat) : Int) ∨ min t.toNat 70 = 70 := by omega
        generalize min t.toNat 70 = T at *
        have H := hide hd
        have HT3 := hide hT3
        clear hd loop hT3
        go_enter Try.func28, Try.ntmps28
        go_wp2
        go_loop [0, 7] (fun x i => ∃ (k : Nat) (y : Int), k ≤ T ∧ i = .int .i64 k ∧ x = .int .i64 y ∧ 0 ≤ y ∧ y ≤ 0 ∧ Hid (dblN (T - k) y 0 = res)) (fun _ i => T - (intOf i).toNat)
        case atStart => exact ⟨0, 0, Nat.zero_le _, rfl, rfl, by omega, by omega, (unhide H).symm⟩
        case round =>
          obtain ⟨k, y, hk, rfl, rfl, hy1, hy2, hy⟩ := hrel
          by_cases hlt : k < T
          · have hy' := unhide hy
            have k1 : (k : Int) < t := by omega
            have k2 : (k : Int) < 70 := by omega
            rw [show T - k = (T - (k + 1)) + 1 by omega, dblN] at hy'
            by_cases hov : 0 < y + y
            · exact absurd hov (by omega)
            · rw [if_neg hov] at hy'
              have hov' : ¬ (0 : Int) / 2 < y := by omega
              have H' := hide hy'
              clear hy' hy
              go_wp2
              go_round
              case rel => exact ⟨k + 1, y + y, by omega, by go_num, by go_num, by omega, by omega, H'⟩
              case measure => simp [intOf]; omega
          · have hy' := unhide hy
            rw [show T - k = 0 by omega, dblN] at hy'
            have H' := hide hy'
            clear hy'
            by_cases k1 : (k : Int) < t
            · have k2 : ¬ (k : Int) < 70 := by have := unhide HT3; omega
              go_wp2
              go_ret
              exact ⟨ret_int (unhide H'), rfl⟩
            · go_wp2
              go_ret
              exact ⟨ret_int (unhide H'), rfl⟩
    · have e1 : max n 0 = 0 := by omega
      have e2 : max m 0 = m := by omega
      rw [e1, e2] at hd
      clear e1 e2
      by_cases c : (m : Int) < 0
      · exact absurd c (by omega)
      · rw [if_neg c, ← loop 0 m (by omega) (by omega) (by omega) _ rfl] at hd
        generalize doubleZ n t m = res at hd ⊢
        have hT : min t.toNat 70 ≤ 70 := by omega
        have hT2 : ((min t.toNat 70 : Nat) : Int) ≤ max t 0 := by omega
        have hT3 : t ≤ ((min t.toNat 70 : Nat) : Int) ∨ min t.toNat 70 = 70 := by omega
        generalize min t.toNat 70 = T at *
        have H := hide hd
        have HT3 := hide hT3
        clear hd loop hT3
        go_enter Try.func28, Try.ntmps28
        go_wp2
        go_loop [0, 7] (fun x i => ∃ (k : Nat) (y : Int), k ≤ T ∧ i = .int .i64 k ∧ x = .int .i64 y ∧ 0 ≤ y ∧ y ≤ m ∧ Hid (dblN (T - k) y m = res)) (fun _ i => T - (intOf i).toNat)
        case atStart => exact ⟨0, 0, Nat.zero_le _, rfl, rfl, by omega, by omega, (unhide H).symm⟩
        case round =>
          obtain ⟨k, y, hk, rfl, rfl, hy1, hy2, hy⟩ := hrel
          by_cases hlt : k < T
          · have hy' := unhide hy
            have k1 : (k : Int) < t := by omega
            have k2 : (k : Int) < 70 := by omega
            rw [show T - k = (T - (k + 1)) + 1 by omega, dblN] at hy'
            by_cases hov : m < y + y
            · rw [if_pos hov] at hy'
              have hov' : (m : Int) / 2 < y := by omega
              have H' := hide hy'
              clear hy' hy
              go_wp2
              go_ret
              exact ⟨ret_int (unhide H'), rfl⟩
            · rw [if_neg hov] at hy'
              have hov' : ¬ (m : Int) / 2 < y := by omega
              have H' := hide hy'
              clear hy' hy
              go_wp2
              go_round
              case rel => exact ⟨k + 1, y + y, by omega, by go_num, by go_num, by omega, by omega, H'⟩
              case measure => simp [intOf]; omega
          · have hy' := unhide hy
            rw [show T - k = 0 by omega, dblN] at hy'
            have H' := hide hy'
            clear hy'
            by_cases k1 : (k : Int) < t
            · have k2 : ¬ (k : Int) < 70 := by have := unhide HT3; omega
              go_wp2
              go_ret
              exact ⟨ret_int (unhide H'), rfl⟩
            · go_wp2
              go_ret
              exact ⟨ret_int (unhide H'), rfl⟩
  · by_cases hm : m < 0
    · have e1 : max n 0 = n := by omega
      have e2 : max m 0 = 0 := by omega
      rw [e1, e2] at hd
      clear e1 e2
      by_cases c : (0 : Int) < n
      · rw [if_pos c] at hd
        rw [hd]
        go_enter Try.func28, Try.ntmps28
        go_wp2
        go_ret
        exact ⟨rfl, rfl⟩
      · rw [if_neg c, ← loop n 0 (by omega) (by omega) (by omega) _ rfl] at hd
        generalize doubleZ n t m = res at hd ⊢
        have hT : min t.toNat 70 ≤ 70 := by omega
        have hT2 : ((min t.toNat 70 : Nat) : Int) ≤ max t 0 := by omega
        have hT3 : t ≤ ((min t.toNat 70 : Nat) : Int) ∨ min t.toNat 70 = 70 := by omega
        generalize min t.toNat 70 = T at *
        have H := hide hd
        have HT3 := hide hT3
        clear hd loop hT3
        go_enter Try.func28, Try.ntmps28
        go_wp2
        go_loop [0, 7] (fun x i => ∃ (k : Nat) (y : Int), k ≤ T ∧ i = .int .i64 k ∧ x = .int .i64 y ∧ 0 ≤ y ∧ y ≤ 0 ∧ Hid (dblN (T - k) y 0 = res)) (fun _ i => T - (intOf i).toNat)
        case atStart => exact ⟨0, n, Nat.zero_le _, rfl, rfl, by omega, by omega, (unhide H).symm⟩
        case round =>
          obtain ⟨k, y, hk, rfl, rfl, hy1, hy2, hy⟩ := hrel
          by_cases hlt : k < T
          · have hy' := unhide hy
            have k1 : (k : Int) < t := by omega
            have k2 : (k : Int) < 70 := by omega
            rw [show T - k = (T - (k + 1)) + 1 by omega, dblN] at hy'
            by_cases hov : 0 < y + y
            · exact absurd hov (by omega)
            · rw [if_neg hov] at hy'
              have hov' : ¬ (0 : Int) / 2 < y := by omega
              have H' := hide hy'
              clear hy' hy
              go_wp2
              go_round
              case rel => exact ⟨k + 1, y + y, by omega, by go_num, by go_num, by omega, by omega, H'⟩
              case measure => simp [intOf]; omega
          · have hy' := unhide hy
            rw [show T - k = 0 by omega, dblN] at hy'
            have H' := hide hy'
            clear hy'
            by_cases k1 : (k : Int) < t
            · have k2 : ¬ (k : Int) < 70 := by have := unhide HT3; omega
              go_wp2
              go_ret
              exact ⟨ret_int (unhide H'), rfl⟩
            · go_wp2
              go_ret
              exact ⟨ret_int (unhide H'), rfl⟩
    · have e1 : max n 0 = n := by omega
      have e2 : max m 0 = m := by omega
      rw [e1, e2] at hd
      clear e1 e2
      by_cases c : (m : Int) < n
      · rw [if_pos c] at hd
        rw [hd]
        go_enter Try.func28, Try.ntmps28
        go_wp2
        go_ret
        exact ⟨rfl, rfl⟩
      · rw [if_neg c, ← loop n m (by omega) (by omega) (by omega) _ rfl] at hd
        generalize doubleZ n t m = res at hd ⊢
        have hT : min t.toNat 70 ≤ 70 := by omega
        have hT2 : ((min t.toNat 70 : Nat) : Int) ≤ max t 0 := by omega
        have hT3 : t ≤ ((min t.toNat 70 : Nat) : Int) ∨ min t.toNat 70 = 70 := by omega
        generalize min t.toNat 70 = T at *
        have H := hide hd
        have HT3 := hide hT3
        clear hd loop hT3
        go_enter Try.func28, Try.ntmps28
        go_wp2
        go_loop [0, 7] (fun x i => ∃ (k : Nat) (y : Int), k ≤ T ∧ i = .int .i64 k ∧ x = .int .i64 y ∧ 0 ≤ y ∧ y ≤ m ∧ Hid (dblN (T - k) y m = res)) (fun _ i => T - (intOf i).toNat)
        case atStart => exact ⟨0, n, Nat.zero_le _, rfl, rfl, by omega, by omega, (unhide H).symm⟩
        case round =>
          obtain ⟨k, y, hk, rfl, rfl, hy1, hy2, hy⟩ := hrel
          by_cases hlt : k < T
          · have hy' := unhide hy
            have k1 : (k : Int) < t := by omega
            have k2 : (k : Int) < 70 := by omega
            rw [show T - k = (T - (k + 1)) + 1 by omega, dblN] at hy'
            by_cases hov : m < y + y
            · rw [if_pos hov] at hy'
              have hov' : (m : Int) / 2 < y := by omega
              have H' := hide hy'
              clear hy' hy
              go_wp2
              go_ret
              exact ⟨ret_int (unhide H'), rfl⟩
            · rw [if_neg hov] at hy'
              have hov' : ¬ (m : Int) / 2 < y := by omega
              have H' := hide hy'
              clear hy' hy
              go_wp2
              go_round
              case rel => exact ⟨k + 1, y + y, by omega, by go_num, by go_num, by omega, by omega, H'⟩
              case measure => simp [intOf]; omega
          · have hy' := unhide hy
            rw [show T - k = 0 by omega, dblN] at hy'
            have H' := hide hy'
            clear hy'
            by_cases k1 : (k : Int) < t
            · have k2 : ¬ (k : Int) < 70 := by have := unhide HT3; omega
              go_wp2
              go_ret
              exact ⟨ret_int (unhide H'), rfl⟩
            · go_wp2
              go_ret
              exact ⟨ret_int (unhide H'), rfl⟩
end Go.Proofs.Ytmdioofpghbjbaa
