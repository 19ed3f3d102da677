/- The walk of EntryPrints: it returns true; no old memory turns. -/
import Derived.Test.YtfkhlnmphjbjoaaLaw05
namespace Go.Proofs.Ytfkhlnmphjbjoaa
open Go.ChangeShapes Go.WideShapes Go.ChangeAt Go.RowKit
set_option linter.unusedSimpArgs false
set_option linter.unusedVariables false

attribute [local go_sem, local simp] over_const setCell_drewN alloc_drewN Over.cell Over.frozen lt_s1 lt_s2 lt_s3 le_s0 le_s1 le_s2 le_s3 eq_s0 eq_s1 eq_s2 qe_s0

theorem legal_made (nd ob n bl : Int) (ow : Bool) (c : Int) (hc : mkC ow = c) : legalB 1 nd ob c n bl = decide (((0 ≤ nd ∧ nd < n) ∧ 0 ≤ ob) ∧ ob < bl) := by
  subst hc
  cases ow <;> simp [legalB, mkC, and_assoc]

set_option maxHeartbeats 2000000 in
theorem EntryPrints_walk (n bl tt cs cy cc cu ct cp : Int) (nd : Int) (ob : Int) (ow : Bool) (ov : Int) (w : World) : Calls Try.prog 5 #[.agg #[.int .i64 n, .int .i64 bl, .int .i64 tt, .int .i64 cs, .int .i64 cy, .int .i64 cc, .int .i64 cu, .int .i64 ct, .int .i64 cp], .int .i64 nd, .agg #[.int .i64 ob, .bool ow, .int .i64 ov]] w fun e w' => e = .returned (.bool true) ∧ Below w.heap.size w w' := by
  obtain ⟨c, hc⟩ : ∃ q, Hid (mkC ow = q) := ⟨_, rfl⟩
  obtain ⟨d, hd⟩ : ∃ q, Hid (mkD ow ov = q) := ⟨_, rfl⟩
  obtain ⟨q, hq⟩ : ∃ q, Hid (legalB 1 nd ob c n bl = q) := ⟨_, rfl⟩
  have hq' := unhide hq
  rw [legal_made nd ob n bl ow c (unhide hc)] at hq'
  by_cases c1 : 0 ≤ nd <;> by_cases c2 : nd < n <;> by_cases c3 : 0 ≤ ob <;> by_cases c4 : ob < bl <;> simp [c1, c2, c3, c4] at hq' <;> subst hq'
  all_goals
    have k4 := hide c4
    go_enter Try.func5, Try.ntmps5
    go_wp2_with (go_at_call 13; refine (make_c _ _ _ _ _ _ _ hc hd).mono ?_; rintro e w' ⟨rfl, hb⟩; obtain ⟨x, rfl⟩ := over hb; clear hb; have f0 := x.up (b := w.heap.size) (by first | omega | (simp only [World.size_alloc]; omega) | (simp; done) | (simp; omega)); have f1 := x.up (b := w.heap.size + 1) (by first | omega | (simp only [World.size_alloc]; omega) | (simp; done) | (simp; omega)))
    refine wp_region_over (by kernel_rfl) (by kernel_rfl) ?_
    repeat (go_big_quiet_step (first | (go_at_call 8; exact Over.quiet (awake5_any _)) | (go_at_call 9; exact Over.quiet (legal_c _ _ _ _ _ _ _ _ _ _ _ _ _ _ _ _ hq)) | (go_at_call 14; exact Over.quiet (refMake_c _ _ _ _ _ _ _ hc hd))))
    refine wpQuiet_nil ?_
    intro _ hw'
    obtain ⟨u, rfl⟩ := hw'
    go_wp2
    go_ret
    refine ⟨by first | rfl | (simp; done) | (have := unhide k4; simp; omega), ?_⟩
    have s1 := x.below.size
    simp only [World.size_alloc] at s1
    repeat' first | with_reducible exact Below.refl _ _ | with_reducible refine Below.setCell ?_ ?_ _ | with_reducible refine Below.alloc ?_ ?_ _ | with_reducible refine Below.drew ?_ | with_reducible refine belowN ?_ _ | with_reducible refine Over.go _ ?_ ?_ | with_reducible exact Nat.le_refl _ | with_reducible refine Over.sz _ _ ?_ | with_reducible refine le_alloc ?_ | with_reducible refine le_setCell ?_ | with_reducible refine le_drewN ?_ | with_reducible refine le_drew ?_ | omega | (dsimp only; omega)
end Go.Proofs.Ytfkhlnmphjbjoaa
