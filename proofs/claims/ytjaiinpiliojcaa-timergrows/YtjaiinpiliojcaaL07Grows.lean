/- The walk of TimerGrows: it returns true; no old memory turns. -/
import Derived.Test.YtjaiinpiliojcaaLaw07
namespace Go.Proofs.Ytjaiinpiliojcaa
open Go.ChangeShapes Go.WideShapes Go.ChangeAt Go.RowKit
set_option linter.unusedSimpArgs false
set_option linter.unusedVariables false

attribute [local go_sem, local simp] over_const setCell_drewN alloc_drewN Over.cell Over.frozen lt_s1 lt_s2 lt_s3 le_s0 le_s1 le_s2 le_s3 eq_s0 eq_s1 eq_s2 qe_s0

set_option maxHeartbeats 2000000 in
theorem TimerGrows_walk (wa tr : Int) (w : World) :
    Calls Try.prog 6 #[.int .i64 wa, .int .i64 tr] w fun e w' => e = .returned (.bool true) ∧ Below w.heap.size w w' := by
  by_cases hin : (1 ≤ wa ∧ wa ≤ 63) ∧ 0 ≤ tr ∧ tr ≤ 7
  · obtain ⟨⟨i1, i2⟩, i3, i4⟩ := hin
    obtain ⟨T, rfl⟩ : ∃ T : Nat, tr = T := ⟨tr.toNat, by omega⟩
    obtain ⟨n, hn⟩ : ∃ n, Hid (totZ wa T = n) := ⟨_, rfl⟩
    obtain ⟨n1, hn1⟩ : ∃ n, Hid (totZ (wa + 1) T = n) := ⟨_, rfl⟩
    obtain ⟨n2, hn2⟩ : ∃ n, Hid (totZ wa (T + 1) = n) := ⟨_, rfl⟩
    have e0 := unhide hn
    have e1 := unhide hn1
    have e2 := unhide hn2
    rw [totZ_long _ _ (by omega) (by omega) (by omega)] at e0 e1
    rw [show ((T : Int) + 1) = ((T + 1 : Nat) : Int) by omega, totZ_long _ _ (by omega) (by omega) (by omega), longZ_succ] at e2
    have p1 : longZ (wa + 1) T = longZ wa T + 2 ^ T := by unfold longZ; rw [Int.add_mul]; omega
    have p2 := pow8 T (by omega)
    have p3 := longZ_bd wa T (by omega) (by omega) (by omega)
    have p4 := longZ_mono wa (by omega) (Nat.zero_le T)
    rw [longZ_zero] at p4
    have g1 : n < n1 := by omega
    have g0 : 0 ≤ n := by omega
    have g3 : n ≤ 32768 := by omega
    have g4 : n2 = 2 * n + wa := by omega
    subst g4
    clear e0 e1 e2 p1 p2 p3 p4
    go_enter Try.func6, Try.ntmps6
    go_wp2_with (first | (go_at_call 10; refine (awake7_any _).mono ?_; rintro e w' ⟨rfl, hb⟩; obtain ⟨x, rfl⟩ := over hb; clear hb) | (go_at_call 13; (first | with_reducible refine (totT_c wa T _ _ hn).mono ?_ | with_reducible refine (totT_c (wa + 1) T _ _ hn1).mono ?_ | with_reducible refine (totT_c wa (T + 1) _ _ hn2).mono ?_); rintro e w' ⟨rfl, rfl⟩))
    go_ret
    refine ⟨rfl, ?_⟩
    repeat' first | with_reducible exact Below.refl _ _ | with_reducible refine Below.setCell ?_ ?_ _ | with_reducible refine Below.alloc ?_ ?_ _ | with_reducible refine Below.drew ?_ | with_reducible refine belowN ?_ _ | with_reducible refine Over.go _ ?_ ?_ | with_reducible exact Nat.le_refl _ | with_reducible refine Over.sz _ _ ?_ | with_reducible refine le_alloc ?_ | with_reducible refine le_setCell ?_ | with_reducible refine le_drewN ?_ | with_reducible refine le_drew ?_ | omega | (dsimp only; omega)
  · by_cases c1 : wa < 1 <;> by_cases c2 : 63 < wa <;> by_cases c3 : tr < 0 <;> by_cases c4 : 7 < tr
    all_goals first | omega | skip
    all_goals
      clear hin
      go_enter Try.func6, Try.ntmps6
      go_wp2_with (first | (go_at_call 10; refine (awake7_any _).mono ?_; rintro e w' ⟨rfl, hb⟩; obtain ⟨x, rfl⟩ := over hb; clear hb))
      go_ret
      refine ⟨rfl, ?_⟩
      repeat' first | with_reducible exact Below.refl _ _ | with_reducible refine Below.setCell ?_ ?_ _ | with_reducible refine Below.alloc ?_ ?_ _ | with_reducible refine Below.drew ?_ | with_reducible refine belowN ?_ _ | with_reducible refine Over.go _ ?_ ?_ | with_reducible exact Nat.le_refl _ | with_reducible refine Over.sz _ _ ?_ | with_reducible refine le_alloc ?_ | with_reducible refine le_setCell ?_ | with_reducible refine le_drewN ?_ | with_reducible refine le_drew ?_ | omega | (dsimp only; omega)
end Go.Proofs.Ytjaiinpiliojcaa
