/- The walk of BundleOrder: it returns true; no old memory turns. -/
import Derived.Test.YtoldnkffhcaeoaaLaw02
import Derived.Test.YtoldnkffhcaeoaaRef02
import Derived.Test.YtoldnkffhcaeoaaOrdA
import Derived.Test.YtoldnkffhcaeoaaOrdB
import Derived.Test.YtoldnkffhcaeoaaBunMath2
namespace Go.Proofs.Ytoldnkffhcaeoaa
open Go.ChangeShapes Go.WideShapes Go.ChangeAt Go.RowKit
set_option linter.unusedSimpArgs false
set_option linter.unusedVariables false

attribute [local go_sem, local simp] over_const setCell_drewN alloc_drewN Over.cell Over.frozen lt_s1 lt_s2 lt_s3 lt_s4 le_s0 le_s1 le_s2 le_s3 eq_s0 eq_s1 eq_s2 qe_s0

set_option maxHeartbeats 4000000 in
theorem BundleOrder_walk (n0 : Int) (o0 h0 : Bool) (d0 : Int) (n1 : Int) (o1 h1 : Bool) (d1 : Int) (n2 : Int) (o2 h2 : Bool) (d2 : Int) (w : World) :
    Calls Try.prog 8 #[.agg #[.int .i64 n0, .bool o0, .bool h0, .int .i64 d0], .agg #[.int .i64 n1, .bool o1, .bool h1, .int .i64 d1], .agg #[.int .i64 n2, .bool o2, .bool h2, .int .i64 d2]] w fun e w' => e = .returned (.bool true) ∧ Below w.heap.size w w' := by
  obtain ⟨M0, hM0⟩ : ∃ M : Int, (if n0 < 0 then 0 else n0) = M := ⟨_, rfl⟩
  obtain ⟨q0, hq0⟩ : ∃ q : Bool, (checkZ ⟨n0, o0, h0, d0⟩ M0 == 0) = q := ⟨_, rfl⟩
  obtain ⟨M1, hM1⟩ : ∃ M : Int, (if n1 < 0 then 0 else n1) = M := ⟨_, rfl⟩
  obtain ⟨q1, hq1⟩ : ∃ q : Bool, (checkZ ⟨n1, o1, h1, d1⟩ M1 == 0) = q := ⟨_, rfl⟩
  obtain ⟨M2, hM2⟩ : ∃ M : Int, (if n2 < 0 then 0 else n2) = M := ⟨_, rfl⟩
  obtain ⟨q2, hq2⟩ : ∃ q : Bool, (checkZ ⟨n2, o2, h2, d2⟩ M2 == 0) = q := ⟨_, rfl⟩
  by_cases c0 : 1099511627776 < n0
  · go_enter Try.func8, Try.ntmps8
    go_wp2_with (first | (go_at_call 11; refine (awake2_any _).mono ?_; rintro e w' ⟨rfl, hb⟩; obtain ⟨x, rfl⟩ := over hb; clear hb) | (go_at_call 14; refine (refRight_any _ _ _ _ _ _).mono ?_; rintro e w' ⟨rfl, hb⟩; obtain ⟨y, rfl⟩ := over hb; clear hb; have fx := Over.top y; have f0 := y.up (b := w.heap.size) (by first | omega | (simp only [World.size_alloc]; omega)); have f1 := y.up (b := w.heap.size + 1) (by first | omega | (simp only [World.size_alloc]; omega)); have f2 := y.up (b := w.heap.size + 1 + 1) (by first | omega | (simp only [World.size_alloc]; omega)); have f3 := y.up (b := w.heap.size + 1 + 1 + 1) (by first | omega | (simp only [World.size_alloc]; omega))))
    refine wp_loop_rounds 4 ?_
    repeat any_goals (rw [rounds_succ]; go_wp2_with (first | (go_at_call 11; refine (awake2_any _).mono ?_; rintro e w' ⟨rfl, hb⟩; obtain ⟨x, rfl⟩ := over hb; clear hb) | (go_at_call 14; refine (refRight_any _ _ _ _ _ _).mono ?_; rintro e w' ⟨rfl, hb⟩; obtain ⟨y, rfl⟩ := over hb; clear hb; have fx := Over.top y; have f0 := y.up (b := w.heap.size) (by first | omega | (simp only [World.size_alloc]; omega)); have f1 := y.up (b := w.heap.size + 1) (by first | omega | (simp only [World.size_alloc]; omega)); have f2 := y.up (b := w.heap.size + 1 + 1) (by first | omega | (simp only [World.size_alloc]; omega)); have f3 := y.up (b := w.heap.size + 1 + 1 + 1) (by first | omega | (simp only [World.size_alloc]; omega)))))
    all_goals go_ret
    all_goals refine ⟨?_, ?_⟩
    all_goals first | rfl | (repeat' first | exact Below.refl _ _ | refine Over.go _ ?_ ?_ | refine Below.alloc ?_ ?_ _ | refine Below.drew ?_ | refine belowN ?_ _ | refine Below.setCell ?_ ?_ _ | exact Nat.le_refl _ | refine Over.sz _ _ ?_ | refine le_alloc ?_ | refine le_setCell ?_ | refine le_drewN ?_ | refine le_drew ?_ | omega)
  cases q0
  · go_enter Try.func8, Try.ntmps8
    go_wp2_with (first | (go_at_call 11; refine (awake2_any _).mono ?_; rintro e w' ⟨rfl, hb⟩; obtain ⟨x, rfl⟩ := over hb; clear hb) | (go_at_call 14; refine (refRight_any _ _ _ _ _ _).mono ?_; rintro e w' ⟨rfl, hb⟩; obtain ⟨y, rfl⟩ := over hb; clear hb; have fx := Over.top y; have f0 := y.up (b := w.heap.size) (by first | omega | (simp only [World.size_alloc]; omega)); have f1 := y.up (b := w.heap.size + 1) (by first | omega | (simp only [World.size_alloc]; omega)); have f2 := y.up (b := w.heap.size + 1 + 1) (by first | omega | (simp only [World.size_alloc]; omega)); have f3 := y.up (b := w.heap.size + 1 + 1 + 1) (by first | omega | (simp only [World.size_alloc]; omega))))
    refine wp_loop_rounds 4 ?_
    repeat any_goals (rw [rounds_succ]; go_wp2_with (first | (go_at_call 11; refine (awake2_any _).mono ?_; rintro e w' ⟨rfl, hb⟩; obtain ⟨x, rfl⟩ := over hb; clear hb) | (go_at_call 14; refine (refRight_any _ _ _ _ _ _).mono ?_; rintro e w' ⟨rfl, hb⟩; obtain ⟨y, rfl⟩ := over hb; clear hb; have fx := Over.top y; have f0 := y.up (b := w.heap.size) (by first | omega | (simp only [World.size_alloc]; omega)); have f1 := y.up (b := w.heap.size + 1) (by first | omega | (simp only [World.size_alloc]; omega)); have f2 := y.up (b := w.heap.size + 1 + 1) (by first | omega | (simp only [World.size_alloc]; omega)); have f3 := y.up (b := w.heap.size + 1 + 1 + 1) (by first | omega | (simp only [World.size_alloc]; omega)))))
    all_goals go_ret
    all_goals refine ⟨?_, ?_⟩
    all_goals first | rfl | (repeat' first | exact Below.refl _ _ | refine Over.go _ ?_ ?_ | refine Below.alloc ?_ ?_ _ | refine Below.drew ?_ | refine belowN ?_ _ | refine Below.setCell ?_ ?_ _ | exact Nat.le_refl _ | refine Over.sz _ _ ?_ | refine le_alloc ?_ | refine le_setCell ?_ | refine le_drewN ?_ | refine le_drew ?_ | omega)
  have ok0 : Hid (okB ⟨n0, o0, h0, d0⟩) := okB_of _ M0 (by simpa using hq0)
  by_cases c1 : 1099511627776 < n1
  · go_enter Try.func8, Try.ntmps8
    go_wp2_with (first | (go_at_call 11; refine (awake2_any _).mono ?_; rintro e w' ⟨rfl, hb⟩; obtain ⟨x, rfl⟩ := over hb; clear hb) | (go_at_call 14; refine (refRight_any _ _ _ _ _ _).mono ?_; rintro e w' ⟨rfl, hb⟩; obtain ⟨y, rfl⟩ := over hb; clear hb; have fx := Over.top y; have f0 := y.up (b := w.heap.size) (by first | omega | (simp only [World.size_alloc]; omega)); have f1 := y.up (b := w.heap.size + 1) (by first | omega | (simp only [World.size_alloc]; omega)); have f2 := y.up (b := w.heap.size + 1 + 1) (by first | omega | (simp only [World.size_alloc]; omega)); have f3 := y.up (b := w.heap.size + 1 + 1 + 1) (by first | omega | (simp only [World.size_alloc]; omega))))
    refine wp_loop_rounds 4 ?_
    repeat any_goals (rw [rounds_succ]; go_wp2_with (first | (go_at_call 11; refine (awake2_any _).mono ?_; rintro e w' ⟨rfl, hb⟩; obtain ⟨x, rfl⟩ := over hb; clear hb) | (go_at_call 14; refine (refRight_any _ _ _ _ _ _).mono ?_; rintro e w' ⟨rfl, hb⟩; obtain ⟨y, rfl⟩ := over hb; clear hb; have fx := Over.top y; have f0 := y.up (b := w.heap.size) (by first | omega | (simp only [World.size_alloc]; omega)); have f1 := y.up (b := w.heap.size + 1) (by first | omega | (simp only [World.size_alloc]; omega)); have f2 := y.up (b := w.heap.size + 1 + 1) (by first | omega | (simp only [World.size_alloc]; omega)); have f3 := y.up (b := w.heap.size + 1 + 1 + 1) (by first | omega | (simp only [World.size_alloc]; omega)))))
    all_goals go_ret
    all_goals refine ⟨?_, ?_⟩
    all_goals first | rfl | (repeat' first | exact Below.refl _ _ | refine Over.go _ ?_ ?_ | refine Below.alloc ?_ ?_ _ | refine Below.drew ?_ | refine belowN ?_ _ | refine Below.setCell ?_ ?_ _ | exact Nat.le_refl _ | refine Over.sz _ _ ?_ | refine le_alloc ?_ | refine le_setCell ?_ | refine le_drewN ?_ | refine le_drew ?_ | omega)
  cases q1
  · go_enter Try.func8, Try.ntmps8
    go_wp2_with (first | (go_at_call 11; refine (awake2_any _).mono ?_; rintro e w' ⟨rfl, hb⟩; obtain ⟨x, rfl⟩ := over hb; clear hb) | (go_at_call 14; refine (refRight_any _ _ _ _ _ _).mono ?_; rintro e w' ⟨rfl, hb⟩; obtain ⟨y, rfl⟩ := over hb; clear hb; have fx := Over.top y; have f0 := y.up (b := w.heap.size) (by first | omega | (simp only [World.size_alloc]; omega)); have f1 := y.up (b := w.heap.size + 1) (by first | omega | (simp only [World.size_alloc]; omega)); have f2 := y.up (b := w.heap.size + 1 + 1) (by first | omega | (simp only [World.size_alloc]; omega)); have f3 := y.up (b := w.heap.size + 1 + 1 + 1) (by first | omega | (simp only [World.size_alloc]; omega))))
    refine wp_loop_rounds 4 ?_
    repeat any_goals (rw [rounds_succ]; go_wp2_with (first | (go_at_call 11; refine (awake2_any _).mono ?_; rintro e w' ⟨rfl, hb⟩; obtain ⟨x, rfl⟩ := over hb; clear hb) | (go_at_call 14; refine (refRight_any _ _ _ _ _ _).mono ?_; rintro e w' ⟨rfl, hb⟩; obtain ⟨y, rfl⟩ := over hb; clear hb; have fx := Over.top y; have f0 := y.up (b := w.heap.size) (by first | omega | (simp only [World.size_alloc]; omega)); have f1 := y.up (b := w.heap.size + 1) (by first | omega | (simp only [World.size_alloc]; omega)); have f2 := y.up (b := w.heap.size + 1 + 1) (by first | omega | (simp only [World.size_alloc]; omega)); have f3 := y.up (b := w.heap.size + 1 + 1 + 1) (by first | omega | (simp only [World.size_alloc]; omega)))))
    all_goals go_ret
    all_goals refine ⟨?_, ?_⟩
    all_goals first | rfl | (repeat' first | exact Below.refl _ _ | refine Over.go _ ?_ ?_ | refine Below.alloc ?_ ?_ _ | refine Below.drew ?_ | refine belowN ?_ _ | refine Below.setCell ?_ ?_ _ | exact Nat.le_refl _ | refine Over.sz _ _ ?_ | refine le_alloc ?_ | refine le_setCell ?_ | refine le_drewN ?_ | refine le_drew ?_ | omega)
  have ok1 : Hid (okB ⟨n1, o1, h1, d1⟩) := okB_of _ M1 (by simpa using hq1)
  by_cases e1 : h1 = true ∧ (d1 == d0) = false
  · obtain ⟨rfl, e1⟩ := e1
    have e1' : (d1 != d0) = true := by simp [bne, e1]
    go_enter Try.func8, Try.ntmps8
    go_wp2_with (first | (go_at_call 11; refine (awake2_any _).mono ?_; rintro e w' ⟨rfl, hb⟩; obtain ⟨x, rfl⟩ := over hb; clear hb) | (go_at_call 14; refine (refRight_any _ _ _ _ _ _).mono ?_; rintro e w' ⟨rfl, hb⟩; obtain ⟨y, rfl⟩ := over hb; clear hb; have fx := Over.top y; have f0 := y.up (b := w.heap.size) (by first | omega | (simp only [World.size_alloc]; omega)); have f1 := y.up (b := w.heap.size + 1) (by first | omega | (simp only [World.size_alloc]; omega)); have f2 := y.up (b := w.heap.size + 1 + 1) (by first | omega | (simp only [World.size_alloc]; omega)); have f3 := y.up (b := w.heap.size + 1 + 1 + 1) (by first | omega | (simp only [World.size_alloc]; omega))))
    refine wp_loop_rounds 4 ?_
    repeat any_goals (rw [rounds_succ]; go_wp2_with (first | (go_at_call 11; refine (awake2_any _).mono ?_; rintro e w' ⟨rfl, hb⟩; obtain ⟨x, rfl⟩ := over hb; clear hb) | (go_at_call 14; refine (refRight_any _ _ _ _ _ _).mono ?_; rintro e w' ⟨rfl, hb⟩; obtain ⟨y, rfl⟩ := over hb; clear hb; have fx := Over.top y; have f0 := y.up (b := w.heap.size) (by first | omega | (simp only [World.size_alloc]; omega)); have f1 := y.up (b := w.heap.size + 1) (by first | omega | (simp only [World.size_alloc]; omega)); have f2 := y.up (b := w.heap.size + 1 + 1) (by first | omega | (simp only [World.size_alloc]; omega)); have f3 := y.up (b := w.heap.size + 1 + 1 + 1) (by first | omega | (simp only [World.size_alloc]; omega)))))
    all_goals go_ret
    all_goals refine ⟨?_, ?_⟩
    all_goals first | rfl | (repeat' first | exact Below.refl _ _ | refine Over.go _ ?_ ?_ | refine Below.alloc ?_ ?_ _ | refine Below.drew ?_ | refine belowN ?_ _ | refine Below.setCell ?_ ?_ _ | exact Nat.le_refl _ | refine Over.sz _ _ ?_ | refine le_alloc ?_ | refine le_setCell ?_ | refine le_drewN ?_ | refine le_drew ?_ | omega)
  have E1 : Hid (h1 = true → d1 = d0) := by
    intro a
    by_cases b : d1 = d0
    · exact b
    · exact absurd ⟨a, by simpa using b⟩ e1
  clear e1
  by_cases c2 : 1099511627776 < n2
  · go_enter Try.func8, Try.ntmps8
    go_wp2_with (first | (go_at_call 11; refine (awake2_any _).mono ?_; rintro e w' ⟨rfl, hb⟩; obtain ⟨x, rfl⟩ := over hb; clear hb) | (go_at_call 14; refine (refRight_any _ _ _ _ _ _).mono ?_; rintro e w' ⟨rfl, hb⟩; obtain ⟨y, rfl⟩ := over hb; clear hb; have fx := Over.top y; have f0 := y.up (b := w.heap.size) (by first | omega | (simp only [World.size_alloc]; omega)); have f1 := y.up (b := w.heap.size + 1) (by first | omega | (simp only [World.size_alloc]; omega)); have f2 := y.up (b := w.heap.size + 1 + 1) (by first | omega | (simp only [World.size_alloc]; omega)); have f3 := y.up (b := w.heap.size + 1 + 1 + 1) (by first | omega | (simp only [World.size_alloc]; omega))))
    refine wp_loop_rounds 4 ?_
    repeat any_goals (rw [rounds_succ]; go_wp2_with (first | (go_at_call 11; refine (awake2_any _).mono ?_; rintro e w' ⟨rfl, hb⟩; obtain ⟨x, rfl⟩ := over hb; clear hb) | (go_at_call 14; refine (refRight_any _ _ _ _ _ _).mono ?_; rintro e w' ⟨rfl, hb⟩; obtain ⟨y, rfl⟩ := over hb; clear hb; have fx := Over.top y; have f0 := y.up (b := w.heap.size) (by first | omega | (simp only [World.size_alloc]; omega)); have f1 := y.up (b := w.heap.size + 1) (by first | omega | (simp only [World.size_alloc]; omega)); have f2 := y.up (b := w.heap.size + 1 + 1) (by first | omega | (simp only [World.size_alloc]; omega)); have f3 := y.up (b := w.heap.size + 1 + 1 + 1) (by first | omega | (simp only [World.size_alloc]; omega)))))
    all_goals go_ret
    all_goals refine ⟨?_, ?_⟩
    all_goals first | rfl | (repeat' first | exact Below.refl _ _ | refine Over.go _ ?_ ?_ | refine Below.alloc ?_ ?_ _ | refine Below.drew ?_ | refine belowN ?_ _ | refine Below.setCell ?_ ?_ _ | exact Nat.le_refl _ | refine Over.sz _ _ ?_ | refine le_alloc ?_ | refine le_setCell ?_ | refine le_drewN ?_ | refine le_drew ?_ | omega)
  cases q2
  · go_enter Try.func8, Try.ntmps8
    go_wp2_with (first | (go_at_call 11; refine (awake2_any _).mono ?_; rintro e w' ⟨rfl, hb⟩; obtain ⟨x, rfl⟩ := over hb; clear hb) | (go_at_call 14; refine (refRight_any _ _ _ _ _ _).mono ?_; rintro e w' ⟨rfl, hb⟩; obtain ⟨y, rfl⟩ := over hb; clear hb; have fx := Over.top y; have f0 := y.up (b := w.heap.size) (by first | omega | (simp only [World.size_alloc]; omega)); have f1 := y.up (b := w.heap.size + 1) (by first | omega | (simp only [World.size_alloc]; omega)); have f2 := y.up (b := w.heap.size + 1 + 1) (by first | omega | (simp only [World.size_alloc]; omega)); have f3 := y.up (b := w.heap.size + 1 + 1 + 1) (by first | omega | (simp only [World.size_alloc]; omega))))
    refine wp_loop_rounds 4 ?_
    repeat any_goals (rw [rounds_succ]; go_wp2_with (first | (go_at_call 11; refine (awake2_any _).mono ?_; rintro e w' ⟨rfl, hb⟩; obtain ⟨x, rfl⟩ := over hb; clear hb) | (go_at_call 14; refine (refRight_any _ _ _ _ _ _).mono ?_; rintro e w' ⟨rfl, hb⟩; obtain ⟨y, rfl⟩ := over hb; clear hb; have fx := Over.top y; have f0 := y.up (b := w.heap.size) (by first | omega | (simp only [World.size_alloc]; omega)); have f1 := y.up (b := w.heap.size + 1) (by first | omega | (simp only [World.size_alloc]; omega)); have f2 := y.up (b := w.heap.size + 1 + 1) (by first | omega | (simp only [World.size_alloc]; omega)); have f3 := y.up (b := w.heap.size + 1 + 1 + 1) (by first | omega | (simp only [World.size_alloc]; omega)))))
    all_goals go_ret
    all_goals refine ⟨?_, ?_⟩
    all_goals first | rfl | (repeat' first | exact Below.refl _ _ | refine Over.go _ ?_ ?_ | refine Below.alloc ?_ ?_ _ | refine Below.drew ?_ | refine belowN ?_ _ | refine Below.setCell ?_ ?_ _ | exact Nat.le_refl _ | refine Over.sz _ _ ?_ | refine le_alloc ?_ | refine le_setCell ?_ | refine le_drewN ?_ | refine le_drew ?_ | omega)
  have ok2 : Hid (okB ⟨n2, o2, h2, d2⟩) := okB_of _ M2 (by simpa using hq2)
  by_cases e2 : h2 = true ∧ (d2 == d0) = false
  · obtain ⟨rfl, e2⟩ := e2
    have e2' : (d2 != d0) = true := by simp [bne, e2]
    go_enter Try.func8, Try.ntmps8
    go_wp2_with (first | (go_at_call 11; refine (awake2_any _).mono ?_; rintro e w' ⟨rfl, hb⟩; obtain ⟨x, rfl⟩ := over hb; clear hb) | (go_at_call 14; refine (refRight_any _ _ _ _ _ _).mono ?_; rintro e w' ⟨rfl, hb⟩; obtain ⟨y, rfl⟩ := over hb; clear hb; have fx := Over.top y; have f0 := y.up (b := w.heap.size) (by first | omega | (simp only [World.size_alloc]; omega)); have f1 := y.up (b := w.heap.size + 1) (by first | omega | (simp only [World.size_alloc]; omega)); have f2 := y.up (b := w.heap.size + 1 + 1) (by first | omega | (simp only [World.size_alloc]; omega)); have f3 := y.up (b := w.heap.size + 1 + 1 + 1) (by first | omega | (simp only [World.size_alloc]; omega))))
    refine wp_loop_rounds 4 ?_
    repeat any_goals (rw [rounds_succ]; go_wp2_with (first | (go_at_call 11; refine (awake2_any _).mono ?_; rintro e w' ⟨rfl, hb⟩; obtain ⟨x, rfl⟩ := over hb; clear hb) | (go_at_call 14; refine (refRight_any _ _ _ _ _ _).mono ?_; rintro e w' ⟨rfl, hb⟩; obtain ⟨y, rfl⟩ := over hb; clear hb; have fx := Over.top y; have f0 := y.up (b := w.heap.size) (by first | omega | (simp only [World.size_alloc]; omega)); have f1 := y.up (b := w.heap.size + 1) (by first | omega | (simp only [World.size_alloc]; omega)); have f2 := y.up (b := w.heap.size + 1 + 1) (by first | omega | (simp only [World.size_alloc]; omega)); have f3 := y.up (b := w.heap.size + 1 + 1 + 1) (by first | omega | (simp only [World.size_alloc]; omega)))))
    all_goals go_ret
    all_goals refine ⟨?_, ?_⟩
    all_goals first | rfl | (repeat' first | exact Below.refl _ _ | refine Over.go _ ?_ ?_ | refine Below.alloc ?_ ?_ _ | refine Below.drew ?_ | refine belowN ?_ _ | refine Below.setCell ?_ ?_ _ | exact Nat.le_refl _ | refine Over.sz _ _ ?_ | refine le_alloc ?_ | refine le_setCell ?_ | refine le_drewN ?_ | refine le_drew ?_ | omega)
  have E2 : Hid (h2 = true → d2 = d0) := by
    intro a
    by_cases b : d2 = d0
    · exact b
    · exact absurd ⟨a, by simpa using b⟩ e2
  clear e2
  have b0 : 0 ≤ n0 := ok0.1
  have b1 : 0 ≤ n1 := ok1.1
  have b2 : 0 ≤ n2 := ok2.1
  have m0 : M0 = n0 := by rw [← hM0, if_neg (by omega)]
  have m1 : M1 = n1 := by rw [← hM1, if_neg (by omega)]
  have m2 : M2 = n2 := by rw [← hM2, if_neg (by omega)]
  subst m0 m1 m2
  cases h1 <;> cases h2
  · exact order_ff _ _ _ _ _ _ _ _ _ _ w c0 c1 c2 ok0 hq0 ok1 hq1 ok2 hq2 E1 E2
  · exact order_ft _ _ _ _ _ _ _ _ _ _ w c0 c1 c2 ok0 hq0 ok1 hq1 ok2 hq2 E1 E2
  · exact order_tf _ _ _ _ _ _ _ _ _ _ w c0 c1 c2 ok0 hq0 ok1 hq1 ok2 hq2 E1 E2
  · exact order_tt _ _ _ _ _ _ _ _ _ _ w c0 c1 c2 ok0 hq0 ok1 hq1 ok2 hq2 E1 E2
end Go.Proofs.Ytoldnkffhcaeoaa
