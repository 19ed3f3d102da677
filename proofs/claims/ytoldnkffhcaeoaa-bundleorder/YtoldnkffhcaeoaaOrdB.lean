/- The walk of BundleOrder, of tokens of one value: it returns true; no old memory turns. -/
import Derived.Test.YtoldnkffhcaeoaaLaw02
import Derived.Test.YtoldnkffhcaeoaaRef02
import Derived.Test.YtoldnkffhcaeoaaOrdMath
import Derived.Test.YtoldnkffhcaeoaaBunMath2
namespace Go.Proofs.Ytoldnkffhcaeoaa
open Go.ChangeShapes Go.WideShapes Go.ChangeAt Go.RowKit
set_option linter.unusedSimpArgs false
set_option linter.unusedVariables false

attribute [local go_sem, local simp] over_const setCell_drewN alloc_drewN Over.cell Over.frozen lt_s1 lt_s2 lt_s3 lt_s4 le_s0 le_s1 le_s2 le_s3 eq_s0 eq_s1 eq_s2 qe_s0

set_option maxHeartbeats 4000000 in
theorem order_ft (n0 : Int) (o0 h0 : Bool) (d0 : Int) (n1 : Int) (o1 : Bool) (d1 : Int) (n2 : Int) (o2 : Bool) (d2 : Int) (w : World) (c0 : ¬ 1099511627776 < n0) (c1 : ¬ 1099511627776 < n1) (c2 : ¬ 1099511627776 < n2)
    (ok0 : Hid (okB ⟨n0, o0, h0, d0⟩)) (hq0 : (checkZ ⟨n0, o0, h0, d0⟩ n0 == 0) = true) (ok1 : Hid (okB ⟨n1, o1, false, d1⟩)) (hq1 : (checkZ ⟨n1, o1, false, d1⟩ n1 == 0) = true) (ok2 : Hid (okB ⟨n2, o2, true, d2⟩)) (hq2 : (checkZ ⟨n2, o2, true, d2⟩ n2 == 0) = true) (E1 : Hid (false = true → d1 = d0)) (E2 : Hid (true = true → d2 = d0)) :
    Calls Try.prog 8 #[.agg #[.int .i64 n0, .bool o0, .bool h0, .int .i64 d0], .agg #[.int .i64 n1, .bool o1, .bool false, .int .i64 d1], .agg #[.int .i64 n2, .bool o2, .bool true, .int .i64 d2]] w fun e w' => e = .returned (.bool true) ∧ Below w.heap.size w w' := by
  have b0 : 0 ≤ n0 := ok0.1
  have b1 : 0 ≤ n1 := ok1.1
  have b2 : 0 ≤ n2 := ok2.1
  have hM0 : (if n0 < 0 then 0 else n0) = n0 := by rw [if_neg (by omega)]
  have hM1 : (if n1 < 0 then 0 else n1) = n1 := by rw [if_neg (by omega)]
  have hM2 : (if n2 < 0 then 0 else n2) = n2 := by rw [if_neg (by omega)]
  clear hM0 hM1 hM2
  obtain ⟨p1, p2, p3, s1, s2, s3, t1, t2, t3, j1, j2, j3, j4, j5, j6⟩ := order_math n0 o0 h0 d0 n1 o1 false d1 n2 o2 true d2 ok0.2.2.2 ok1.2.2.2 ok2.2.2.2 E1 E2
  cases h0
  all_goals
    (try (have := E1 rfl; subst this)); (try (have := E2 rfl; subst this))
    clear E1 E2 ok0 ok1 ok2
    go_enter Try.func8, Try.ntmps8
    go_wp2_with (first | (go_at_call 11; refine (awake2_any _).mono ?_; rintro e w' ⟨rfl, hb⟩; obtain ⟨x, rfl⟩ := over hb; clear hb) | (go_at_call 14; refine (refRight_any _ _ _ _ _ _).mono ?_; rintro e w' ⟨rfl, hb⟩; obtain ⟨y, rfl⟩ := over hb; clear hb; have fx := Over.top y; have f0 := y.up (b := w.heap.size) (by first | omega | (simp only [World.size_alloc]; omega)); have f1 := y.up (b := w.heap.size + 1) (by first | omega | (simp only [World.size_alloc]; omega)); have f2 := y.up (b := w.heap.size + 1 + 1) (by first | omega | (simp only [World.size_alloc]; omega)); have f3 := y.up (b := w.heap.size + 1 + 1 + 1) (by first | omega | (simp only [World.size_alloc]; omega))))
    refine wp_loop_rounds 4 ?_
    repeat any_goals (rw [rounds_succ]; go_wp2_with (first | (go_at_call 11; refine (awake2_any _).mono ?_; rintro e w' ⟨rfl, hb⟩; obtain ⟨x, rfl⟩ := over hb; clear hb) | (go_at_call 14; refine (refRight_any _ _ _ _ _ _).mono ?_; rintro e w' ⟨rfl, hb⟩; obtain ⟨y, rfl⟩ := over hb; clear hb; have fx := Over.top y; have f0 := y.up (b := w.heap.size) (by first | omega | (simp only [World.size_alloc]; omega)); have f1 := y.up (b := w.heap.size + 1) (by first | omega | (simp only [World.size_alloc]; omega)); have f2 := y.up (b := w.heap.size + 1 + 1) (by first | omega | (simp only [World.size_alloc]; omega)); have f3 := y.up (b := w.heap.size + 1 + 1 + 1) (by first | omega | (simp only [World.size_alloc]; omega)))))
    all_goals
      refine wp_region_over (by kernel_rfl) (by kernel_rfl) ?_
      repeat (go_big_quiet_step (first | (go_at_call 11; exact Over.quiet (awake2_any _)) | (go_at_call 17; exact Over.quiet (join_c _ _ _ _ _ _ _ _ _ (by first | omega | (simp only [joinB_n]; omega)) (by first | omega | (simp only [joinB_n]; omega)) _ rfl))))
      refine wpQuiet_nil ?_
      intro _ hw'
      obtain ⟨v, rfl⟩ := hw'
      go_wp2
      go_ret
      refine ⟨by simp, ?_⟩
      repeat' first | exact Below.refl _ _ | refine Over.go _ ?_ ?_ | refine Below.alloc ?_ ?_ _ | refine Below.drew ?_ | refine belowN ?_ _ | refine Below.setCell ?_ ?_ _ | exact Nat.le_refl _ | refine Over.sz _ _ ?_ | refine le_alloc ?_ | refine le_setCell ?_ | refine le_drewN ?_ | refine le_drew ?_ | omega

set_option maxHeartbeats 4000000 in
theorem order_ff (n0 : Int) (o0 h0 : Bool) (d0 : Int) (n1 : Int) (o1 : Bool) (d1 : Int) (n2 : Int) (o2 : Bool) (d2 : Int) (w : World) (c0 : ¬ 1099511627776 < n0) (c1 : ¬ 1099511627776 < n1) (c2 : ¬ 1099511627776 < n2)
    (ok0 : Hid (okB ⟨n0, o0, h0, d0⟩)) (hq0 : (checkZ ⟨n0, o0, h0, d0⟩ n0 == 0) = true) (ok1 : Hid (okB ⟨n1, o1, false, d1⟩)) (hq1 : (checkZ ⟨n1, o1, false, d1⟩ n1 == 0) = true) (ok2 : Hid (okB ⟨n2, o2, false, d2⟩)) (hq2 : (checkZ ⟨n2, o2, false, d2⟩ n2 == 0) = true) (E1 : Hid (false = true → d1 = d0)) (E2 : Hid (false = true → d2 = d0)) :
    Calls Try.prog 8 #[.agg #[.int .i64 n0, .bool o0, .bool h0, .int .i64 d0], .agg #[.int .i64 n1, .bool o1, .bool false, .int .i64 d1], .agg #[.int .i64 n2, .bool o2, .bool false, .int .i64 d2]] w fun e w' => e = .returned (.bool true) ∧ Below w.heap.size w w' := by
  have b0 : 0 ≤ n0 := ok0.1
  have b1 : 0 ≤ n1 := ok1.1
  have b2 : 0 ≤ n2 := ok2.1
  have hM0 : (if n0 < 0 then 0 else n0) = n0 := by rw [if_neg (by omega)]
  have hM1 : (if n1 < 0 then 0 else n1) = n1 := by rw [if_neg (by omega)]
  have hM2 : (if n2 < 0 then 0 else n2) = n2 := by rw [if_neg (by omega)]
  clear hM0 hM1 hM2
  obtain ⟨p1, p2, p3, s1, s2, s3, t1, t2, t3, j1, j2, j3, j4, j5, j6⟩ := order_math n0 o0 h0 d0 n1 o1 false d1 n2 o2 false d2 ok0.2.2.2 ok1.2.2.2 ok2.2.2.2 E1 E2
  cases h0
  all_goals
    (try (have := E1 rfl; subst this)); (try (have := E2 rfl; subst this))
    clear E1 E2 ok0 ok1 ok2
    go_enter Try.func8, Try.ntmps8
    go_wp2_with (first | (go_at_call 11; refine (awake2_any _).mono ?_; rintro e w' ⟨rfl, hb⟩; obtain ⟨x, rfl⟩ := over hb; clear hb) | (go_at_call 14; refine (refRight_any _ _ _ _ _ _).mono ?_; rintro e w' ⟨rfl, hb⟩; obtain ⟨y, rfl⟩ := over hb; clear hb; have fx := Over.top y; have f0 := y.up (b := w.heap.size) (by first | omega | (simp only [World.size_alloc]; omega)); have f1 := y.up (b := w.heap.size + 1) (by first | omega | (simp only [World.size_alloc]; omega)); have f2 := y.up (b := w.heap.size + 1 + 1) (by first | omega | (simp only [World.size_alloc]; omega)); have f3 := y.up (b := w.heap.size + 1 + 1 + 1) (by first | omega | (simp only [World.size_alloc]; omega))))
    refine wp_loop_rounds 4 ?_
    repeat any_goals (rw [rounds_succ]; go_wp2_with (first | (go_at_call 11; refine (awake2_any _).mono ?_; rintro e w' ⟨rfl, hb⟩; obtain ⟨x, rfl⟩ := over hb; clear hb) | (go_at_call 14; refine (refRight_any _ _ _ _ _ _).mono ?_; rintro e w' ⟨rfl, hb⟩; obtain ⟨y, rfl⟩ := over hb; clear hb; have fx := Over.top y; have f0 := y.up (b := w.heap.size) (by first | omega | (simp only [World.size_alloc]; omega)); have f1 := y.up (b := w.heap.size + 1) (by first | omega | (simp only [World.size_alloc]; omega)); have f2 := y.up (b := w.heap.size + 1 + 1) (by first | omega | (simp only [World.size_alloc]; omega)); have f3 := y.up (b := w.heap.size + 1 + 1 + 1) (by first | omega | (simp only [World.size_alloc]; omega)))))
    all_goals
      refine wp_region_over (by kernel_rfl) (by kernel_rfl) ?_
      repeat (go_big_quiet_step (first | (go_at_call 11; exact Over.quiet (awake2_any _)) | (go_at_call 17; exact Over.quiet (join_c _ _ _ _ _ _ _ _ _ (by first | omega | (simp only [joinB_n]; omega)) (by first | omega | (simp only [joinB_n]; omega)) _ rfl))))
      refine wpQuiet_nil ?_
      intro _ hw'
      obtain ⟨v, rfl⟩ := hw'
      go_wp2
      go_ret
      refine ⟨by simp, ?_⟩
      repeat' first | exact Below.refl _ _ | refine Over.go _ ?_ ?_ | refine Below.alloc ?_ ?_ _ | refine Below.drew ?_ | refine belowN ?_ _ | refine Below.setCell ?_ ?_ _ | exact Nat.le_refl _ | refine Over.sz _ _ ?_ | refine le_alloc ?_ | refine le_setCell ?_ | refine le_drewN ?_ | refine le_drew ?_ | omega

end Go.Proofs.Ytoldnkffhcaeoaa
