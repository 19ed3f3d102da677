/- The contract of the document's Total (jetonref07.Total): it is the same number. -/
import Derived.Test.YtmdioofpghbjbaaTimer
namespace Go.Proofs.Ytmdioofpghbjbaa
open Go.ChangeShapes Go.WideShapes Go.ChangeAt Go.RowKit
set_option linter.unusedSimpArgs false
set_option linter.unusedVariables false
set_option maxRecDepth 10000

attribute [local go_sem, local simp] over_const setCell_drewN alloc_drewN Over.cell Over.frozen lt_s1 lt_s2 lt_s3 le_s0 le_s1 le_s2 le_s3 eq_s0 eq_s1 eq_s2 qe_s0

set_option maxHeartbeats 1000000 in
theorem refTotT_c (wa tr : Int) (w : World) (r : Int) (hr : Hid (totZ wa tr = r)) :
    Calls Try.prog 20 #[.int .i64 wa, .int .i64 tr] w fun e w' => e = .returned (.int .i64 r) ∧ w' = w := by
  have hr' := unhide hr
  clear hr
  rw [totZ_clamp] at hr'
  have hcb := (clampZ_bd wa 1 64).2 (by omega)
  have hkb := (clampZ_bd tr 0 8).2 (by omega)
  obtain ⟨c, hc⟩ : ∃ c, clampZ wa 1 64 = c := ⟨_, rfl⟩
  obtain ⟨T, hT⟩ : ∃ T : Nat, clampZ tr 0 8 = T := ⟨(clampZ tr 0 8).toNat, by omega⟩
  rw [hc, hT, Int.toNat_natCast] at hr'
  rw [hc] at hcb
  rw [hT] at hkb
  obtain ⟨c1, c2⟩ := hcb
  have hT8 : T ≤ 8 := by omega
  rw [totZ_long c T c1 c2 hT8] at hr'
  have H := hide hr'
  clear hr' hkb
  go_enter Try.func20, Try.ntmps20
  go_wp2_with (go_at_call 26; refine (refClamp_any _ _ _ _).mono ?_; rintro e w' ⟨rfl, rfl⟩)
  go_loop [0, 5, 6] (fun x n i => ∃ (k : Nat) (y m : Int), k ≤ T + 1 ∧ i = .int .i64 k ∧ x = .int .i64 y ∧ n = .int .i64 m ∧ 1 ≤ y ∧ y ≤ 32768 ∧ 0 ≤ m ∧ m ≤ 32768 ∧ Hid (y = longZ c k ∧ m = y - c)) (fun _ _ i => T + 1 - (intOf i).toNat)
  case atStart => exact ⟨0, c, 0, by omega, rfl, rfl, rfl, by omega, by omega, by omega, by omega, by unfold Hid; exact ⟨(longZ_zero c).symm, by omega⟩⟩
  case round =>
    obtain ⟨k, y, m, hk, rfl, rfl, rfl, y1, y2, m1, m2, hy⟩ := hrel
    by_cases hlt : k ≤ T
    · have hlt' : (k : Int) ≤ T := by omega
      have y3 : y ≤ 16384 := by have := (unhide hy).1; have := longZ_bd c k c1 c2 (by omega); omega
      have m3 : m ≤ 16383 := by have := (unhide hy).2; omega
      go_wp2
      go_round
      case rel => exact ⟨k + 1, 2 * y, m + y, by omega, by go_num, by go_num, by go_num, by omega, by omega, by omega, by omega, by have h := unhide hy; unfold Hid; rw [longZ_succ]; omega⟩
      case measure => simp [intOf]; omega
    · obtain rfl : k = T + 1 := by omega
      have hm : m = r := by have h := unhide hy; have h2 := unhide H; rw [longZ_succ] at h; omega
      subst hm
      clear H hy
      go_wp2
      go_ret
      exact ⟨rfl, rfl⟩
end Go.Proofs.Ytmdioofpghbjbaa
