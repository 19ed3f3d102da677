/- The walk of BundleChecks: it returns true; no old memory turns. -/
import Derived.Test.YtoldnkffhcaeoaaLaw02
import Derived.Test.YtoldnkffhcaeoaaRef02
import Derived.Test.YtoldnkffhcaeoaaBunMath2
namespace Go.Proofs.Ytoldnkffhcaeoaa
open Go.ChangeShapes Go.WideShapes Go.ChangeAt Go.RowKit
set_option linter.unusedSimpArgs false
set_option linter.unusedVariables false

attribute [local go_sem, local simp] over_const setCell_drewN alloc_drewN Over.cell Over.frozen lt_s1 lt_s2 lt_s3 le_s0 le_s1 le_s2 le_s3 eq_s0 eq_s1 eq_s2 qe_s0

theorem refCheck_b (n : Int) (o h : Bool) (d t : Int) (w : World) :
    Calls Try.prog 13 #[.agg #[.int .i64 n, .bool o, .bool h, .int .i64 d], .int .i64 t] w fun e w' =>
      e = .returned (.int .i64 (checkZ ⟨n, o, h, d⟩ t)) ∧ Below w.heap.size w w' :=
  (refCheck_any n o h d t w).mono fun _ _ ⟨he, hw⟩ => ⟨he, by rw [hw]; go_grown⟩

set_option maxHeartbeats 1000000 in
theorem BundleChecks_walk (n : Int) (o h : Bool) (d t d' : Int) (w : World) :
    Calls Try.prog 3 #[.agg #[.int .i64 n, .bool o, .bool h, .int .i64 d], .int .i64 t, .int .i64 d'] w fun e w' => e = .returned (.bool true) ∧ Below w.heap.size w w' := by
  obtain ⟨k, hk⟩ : ∃ k, checkZ ⟨n, o, h, d⟩ t = k := ⟨_, rfl⟩
  by_cases c : t < 1
  · have hf : Hid (fullB t d' = ⟨0, false, false, 0⟩) := by unfold Hid fullB; rw [if_pos c]
    go_enter Try.func3, Try.ntmps3
    go_wp2_with (go_at_call 10; refine (full_any _ _ _ _ hf).mono ?_; rintro e w' ⟨rfl, hb⟩; obtain ⟨x, rfl⟩ := over hb; clear hb; have f0 := x.up (b := w.heap.size) (by first | omega | (simp only [World.size_alloc]; omega)))
    refine wp_region_over (by kernel_rfl) (by kernel_rfl) ?_
    repeat (go_big_quiet_step (first | (go_at_call 11; exact Over.quiet (awake2_any _)) | (go_at_call 12; exact Over.quiet (check_any _ _ _ _ _ _)) | (go_at_call 13; exact Over.quiet (refCheck_b _ _ _ _ _ _))))
    refine wpQuiet_nil ?_
    intro _ hw'
    obtain ⟨y, rfl⟩ := hw'
    have g0 := y.up (b := w.heap.size) (by first | omega | (simp only [World.size_alloc]; omega))
    have g1 := y.up (b := x.w.heap.size) (by first | omega | (simp only [World.size_alloc]; omega))
    go_wp2
    go_ret
    refine ⟨rfl, ?_⟩
    repeat' first | exact Below.refl _ _ | refine Over.go _ ?_ ?_ | refine Below.alloc ?_ ?_ _ | refine Below.drew ?_ | refine belowN ?_ _ | refine Below.setCell ?_ ?_ _ | exact Nat.le_refl _ | refine Over.sz _ _ ?_ | refine le_alloc ?_ | refine le_setCell ?_ | refine le_drewN ?_ | refine le_drew ?_ | omega
  · have hf : Hid (fullB t d' = ⟨t, true, true, d'⟩) := by unfold Hid fullB; rw [if_neg c]
    have hk2 : checkZ ⟨t, true, true, d'⟩ t = 0 := by unfold checkZ; simp; omega
    go_enter Try.func3, Try.ntmps3
    go_wp2_with (go_at_call 10; refine (full_any _ _ _ _ hf).mono ?_; rintro e w' ⟨rfl, hb⟩; obtain ⟨x, rfl⟩ := over hb; clear hb; have f0 := x.up (b := w.heap.size) (by first | omega | (simp only [World.size_alloc]; omega)))
    refine wp_region_over (by kernel_rfl) (by kernel_rfl) ?_
    repeat (go_big_quiet_step (first | (go_at_call 11; exact Over.quiet (awake2_any _)) | (go_at_call 12; exact Over.quiet (check_any _ _ _ _ _ _)) | (go_at_call 13; exact Over.quiet (refCheck_b _ _ _ _ _ _))))
    refine wpQuiet_nil ?_
    intro _ hw'
    obtain ⟨y, rfl⟩ := hw'
    have g0 := y.up (b := w.heap.size) (by first | omega | (simp only [World.size_alloc]; omega))
    have g1 := y.up (b := x.w.heap.size) (by first | omega | (simp only [World.size_alloc]; omega))
    go_wp2_with (go_at_call 12; refine (check_any _ _ _ _ _ _).mono ?_; rintro e w' ⟨rfl, hb⟩; obtain ⟨z, rfl⟩ := over2 hb; clear hb)
    go_ret
    refine ⟨rfl, ?_⟩
    repeat' first | exact Below.refl _ _ | refine Over.go _ ?_ ?_ | refine Below.alloc ?_ ?_ _ | refine Below.drew ?_ | refine belowN ?_ _ | refine Below.setCell ?_ ?_ _ | exact Nat.le_refl _ | refine Over.sz _ _ ?_ | refine le_alloc ?_ | refine le_setCell ?_ | refine le_drewN ?_ | refine le_drew ?_ | omega
end Go.Proofs.Ytoldnkffhcaeoaa
