/- The walk of TimerTicks: it returns true; no old memory turns. -/
import Derived.Test.YtjaiinpiliojcaaLaw07
namespace Go.Proofs.Ytjaiinpiliojcaa
open Go.ChangeShapes Go.WideShapes Go.ChangeAt Go.RowKit
set_option linter.unusedSimpArgs false
set_option linter.unusedVariables false

attribute [local go_sem, local simp] over_const setCell_drewN alloc_drewN Over.cell Over.frozen lt_s1 lt_s2 lt_s3 le_s0 le_s1 le_s2 le_s3 eq_s0 eq_s1 eq_s2 qe_s0

set_option maxHeartbeats 2000000 in
theorem TimerTicks_walk (l t : Int) (o : Bool) (wa tr : Int) (w : World) (b1 : l ≤ 9223372036854775807) (b2 : -9223372036854775808 ≤ t) (b3 : wa ≤ 9223372036854775807) (b4 : tr ≤ 9223372036854775807) :
    Calls Try.prog 3 #[.agg #[.int .i64 l, .int .i64 t, .bool o], .int .i64 wa, .int .i64 tr] w fun e w' => e = .returned (.bool true) ∧ Below w.heap.size w w' := by
  obtain ⟨⟨rl, rt, ro, rn⟩, hr⟩ : ∃ r, Hid (tickT l t o wa tr = r) := ⟨_, rfl⟩
  obtain ⟨m, hm⟩ : ∃ m, Hid (max wa 1 = m) := ⟨_, rfl⟩
  go_enter Try.func3, Try.ntmps3
  go_wp2_with fail
  go_at_call 8; refine (tick_c _ _ _ _ _ _ b1 b2 b3 b4 _ hr).mono ?_; rintro e w' ⟨rfl, hb⟩; obtain ⟨x, rfl⟩ := over hb; clear hb
  have f0 := x.up (b := w.heap.size) (by first | omega | (simp only [World.size_alloc]; omega) | (simp; done) | (simp; omega))
  dsimp only
  go_wp2_with fail
  go_at_call 9; refine (refTick_c _ _ _ _ _ _ b1 b2 b3 b4 _ hr).mono ?_; rintro e w' ⟨rfl, hb⟩; obtain ⟨y, rfl⟩ := over hb; clear hb
  dsimp only
  have f1 := y.up (b := x.w.heap.size) (by first | omega | (simp only [World.size_alloc]; omega) | (simp; done) | (simp; omega))
  go_wp2_with (first | (go_at_call 10; refine (awake7_any _).mono ?_; rintro e w' ⟨rfl, hb⟩; obtain ⟨z, rfl⟩ := over hb; clear hb; have g1 := z.up (b := x.w.heap.size) (by first | omega | (simp only [World.size_alloc]; omega) | (simp; done) | (simp; omega)); have g2 := z.up (b := y.w.heap.size) (by first | omega | (simp only [World.size_alloc]; omega) | (simp; done) | (simp; omega))) | (go_at_call 11; refine (startT_c _ _ _ hm).mono ?_; rintro e w' ⟨rfl, hb⟩; obtain ⟨z2, rfl⟩ := over hb; clear hb) | (go_at_call 12; refine (refStartT_c _ _ _ hm).mono ?_; rintro e w' ⟨rfl, hb⟩; obtain ⟨z3, rfl⟩ := over hb; clear hb))
  go_ret
  have s1 := x.below.size
  have s2 := y.below.size
  have s3 := z.below.size
  have s4 := z2.below.size
  simp only [World.size_alloc] at s1 s2 s3
  refine ⟨rfl, ?_⟩
  repeat' first | with_reducible exact Below.refl _ _ | with_reducible refine Below.setCell ?_ ?_ _ | with_reducible refine Below.alloc ?_ ?_ _ | with_reducible refine Below.drew ?_ | with_reducible refine belowN ?_ _ | with_reducible refine Over.go _ ?_ ?_ | with_reducible exact Nat.le_refl _ | with_reducible refine Over.sz _ _ ?_ | with_reducible refine le_alloc ?_ | with_reducible refine le_setCell ?_ | with_reducible refine le_drewN ?_ | with_reducible refine le_drew ?_ | omega | (dsimp only; omega)
end Go.Proofs.Ytjaiinpiliojcaa
