/- The walk of EntryBack: it returns true; no old memory turns. -/
import Derived.Test.YtfkhlnmphjbjoaaLaw05
import Derived.Deep.RegionHeld3
namespace Go.Proofs.Ytfkhlnmphjbjoaa
open Go.ChangeShapes Go.WideShapes Go.ChangeAt Go.RowKit
set_option linter.unusedSimpArgs false
set_option linter.unusedVariables false

attribute [local go_sem, local simp] over_const setCell_drewN alloc_drewN Over.cell Over.frozen lt_s1 lt_s2 lt_s3 le_s0 le_s1 le_s2 le_s3 eq_s0 eq_s1 eq_s2 qe_s0

set_option maxHeartbeats 2000000 in
theorem back_load (n bl tt cs cy cc cu ct cp : Int) (ob ov : Int) (ek ea eb ec ed : Int) (w : World) (k : ek ≠ 1) : Calls Try.prog 6 #[.agg #[.int .i64 n, .int .i64 bl, .int .i64 tt, .int .i64 cs, .int .i64 cy, .int .i64 cc, .int .i64 cu, .int .i64 ct, .int .i64 cp], .agg #[.int .i64 ob, .bool false, .int .i64 ov], .agg #[.int .i64 ek, .int .i64 ea, .int .i64 eb, .int .i64 ec, .int .i64 ed]] w fun e w' => e = .returned (.bool true) ∧ Below w.heap.size w w' := by
  go_enter Try.func6, Try.ntmps6
  go_wp2_with fail
  go_at_call 13
  refine (make_c ea ob false ov _ 0 0 rfl rfl).mono ?_
  rintro e w' ⟨rfl, hb⟩
  obtain ⟨x, rfl⟩ := over hb
  clear hb
  have f0 := x.up (b := w.heap.size) (by first | omega | (simp only [World.size_alloc]; omega) | (simp; done) | (simp; omega))
  have f1 := x.up (b := w.heap.size + 1) (by first | omega | (simp only [World.size_alloc]; omega) | (simp; done) | (simp; omega))
  have f2 := x.up (b := w.heap.size + 1 + 1) (by first | omega | (simp only [World.size_alloc]; omega) | (simp; done) | (simp; omega))
  go_wp2_with fail
  go_at_call 11
  refine (op_c 1 ea ob 0 0 _ false 0 rfl rfl).mono ?_
  rintro e w' ⟨rfl, hb⟩
  obtain ⟨y, rfl⟩ := over2 hb
  clear hb
  have g0 := y.up (b := w.heap.size) (by first | omega | (simp only [World.size_alloc]; omega) | (simp; done) | (simp; omega))
  have g1 := y.up (b := w.heap.size + 1) (by first | omega | (simp only [World.size_alloc]; omega) | (simp; done) | (simp; omega))
  have g2 := y.up (b := w.heap.size + 1 + 1) (by first | omega | (simp only [World.size_alloc]; omega) | (simp; done) | (simp; omega))
  go_wp2_with fail
  go_at_call 8
  refine (awake5_any _).mono ?_
  rintro e w' ⟨rfl, hb⟩
  obtain ⟨z, rfl⟩ := over hb
  clear hb
  have k0 := z.up (b := w.heap.size) (by first | omega | (simp only [World.size_alloc]; omega) | (simp; done) | (simp; omega))
  have k1 := z.up (b := w.heap.size + 1) (by first | omega | (simp only [World.size_alloc]; omega) | (simp; done) | (simp; omega))
  have k2 := z.up (b := w.heap.size + 1 + 1) (by first | omega | (simp only [World.size_alloc]; omega) | (simp; done) | (simp; omega))
  have k3 := z.up (b := y.w.heap.size) (by first | omega | (simp only [World.size_alloc]; omega) | (simp; done) | (simp; omega))
  go_wp2_with fail
  go_ret
  refine ⟨by first | rfl | simp, ?_⟩
  have s1 := x.below.size
  have s2 := y.below.size
  have s3 := z.below.size
  repeat' first | with_reducible exact Below.refl _ _ | with_reducible refine Below.setCell ?_ ?_ _ | with_reducible refine Below.alloc ?_ ?_ _ | with_reducible refine Below.drew ?_ | with_reducible refine belowN ?_ _ | with_reducible refine Over.go _ ?_ ?_ | with_reducible exact Nat.le_refl _ | with_reducible refine Over.sz _ _ ?_ | with_reducible refine le_alloc ?_ | with_reducible refine le_setCell ?_ | with_reducible refine le_drewN ?_ | with_reducible refine le_drew ?_ | omega | (dsimp only; omega)

set_option maxHeartbeats 2000000 in
theorem back_load_not (n bl tt cs cy cc cu ct cp : Int) (ob ov ea eb ec ed : Int) (w : World) (hq : Hid (legalB 1 ea eb ec n bl = false)) : Calls Try.prog 6 #[.agg #[.int .i64 n, .int .i64 bl, .int .i64 tt, .int .i64 cs, .int .i64 cy, .int .i64 cc, .int .i64 cu, .int .i64 ct, .int .i64 cp], .agg #[.int .i64 ob, .bool false, .int .i64 ov], .agg #[.int .i64 1, .int .i64 ea, .int .i64 eb, .int .i64 ec, .int .i64 ed]] w fun e w' => e = .returned (.bool true) ∧ Below w.heap.size w w' := by
  go_enter Try.func6, Try.ntmps6
  go_wp2_with fail
  go_at_call 13
  refine (make_c ea ob false ov _ 0 0 rfl rfl).mono ?_
  rintro e w' ⟨rfl, hb⟩
  obtain ⟨x, rfl⟩ := over hb
  clear hb
  have f0 := x.up (b := w.heap.size) (by first | omega | (simp only [World.size_alloc]; omega) | (simp; done) | (simp; omega))
  have f1 := x.up (b := w.heap.size + 1) (by first | omega | (simp only [World.size_alloc]; omega) | (simp; done) | (simp; omega))
  have f2 := x.up (b := w.heap.size + 1 + 1) (by first | omega | (simp only [World.size_alloc]; omega) | (simp; done) | (simp; omega))
  go_wp2_with fail
  go_at_call 11
  refine (op_c 1 ea ob 0 0 _ false 0 rfl rfl).mono ?_
  rintro e w' ⟨rfl, hb⟩
  obtain ⟨y, rfl⟩ := over2 hb
  clear hb
  have g0 := y.up (b := w.heap.size) (by first | omega | (simp only [World.size_alloc]; omega) | (simp; done) | (simp; omega))
  have g1 := y.up (b := w.heap.size + 1) (by first | omega | (simp only [World.size_alloc]; omega) | (simp; done) | (simp; omega))
  have g2 := y.up (b := w.heap.size + 1 + 1) (by first | omega | (simp only [World.size_alloc]; omega) | (simp; done) | (simp; omega))
  go_wp2_with fail
  go_at_call 8
  refine (awake5_any _).mono ?_
  rintro e w' ⟨rfl, hb⟩
  obtain ⟨z, rfl⟩ := over hb
  clear hb
  have k0 := z.up (b := w.heap.size) (by first | omega | (simp only [World.size_alloc]; omega) | (simp; done) | (simp; omega))
  have k1 := z.up (b := w.heap.size + 1) (by first | omega | (simp only [World.size_alloc]; omega) | (simp; done) | (simp; omega))
  have k2 := z.up (b := w.heap.size + 1 + 1) (by first | omega | (simp only [World.size_alloc]; omega) | (simp; done) | (simp; omega))
  have k3 := z.up (b := y.w.heap.size) (by first | omega | (simp only [World.size_alloc]; omega) | (simp; done) | (simp; omega))
  go_wp2_with fail
  go_at_call 10
  refine (refLegal_c _ _ _ _ _ _ _ _ _ _ _ _ _ _ _ _ hq).mono ?_
  rintro e w' ⟨rfl, hb⟩
  obtain ⟨u, rfl⟩ := over2 hb
  clear hb
  have m0 := u.up (b := w.heap.size) (by first | omega | (simp only [World.size_alloc]; omega) | (simp; done) | (simp; omega))
  have m1 := u.up (b := w.heap.size + 1) (by first | omega | (simp only [World.size_alloc]; omega) | (simp; done) | (simp; omega))
  have m2 := u.up (b := w.heap.size + 1 + 1) (by first | omega | (simp only [World.size_alloc]; omega) | (simp; done) | (simp; omega))
  have m3 := u.up (b := y.w.heap.size) (by first | omega | (simp only [World.size_alloc]; omega) | (simp; done) | (simp; omega))
  go_wp2_with fail
  go_ret
  refine ⟨by first | rfl | simp, ?_⟩
  have s1 := x.below.size
  have s2 := y.below.size
  have s3 := z.below.size
  repeat' first | with_reducible exact Below.refl _ _ | with_reducible refine Below.setCell ?_ ?_ _ | with_reducible refine Below.alloc ?_ ?_ _ | with_reducible refine Below.drew ?_ | with_reducible refine belowN ?_ _ | with_reducible refine Over.go _ ?_ ?_ | with_reducible exact Nat.le_refl _ | with_reducible refine Over.sz _ _ ?_ | with_reducible refine le_alloc ?_ | with_reducible refine le_setCell ?_ | with_reducible refine le_drewN ?_ | with_reducible refine le_drew ?_ | omega | (dsimp only; omega)

set_option maxHeartbeats 2000000 in
theorem back_load_0 (n bl tt cs cy cc cu ct cp : Int) (ob ov ea eb ed : Int) (w : World) (hq : Hid (legalB 1 ea eb 0 n bl = true)) : Calls Try.prog 6 #[.agg #[.int .i64 n, .int .i64 bl, .int .i64 tt, .int .i64 cs, .int .i64 cy, .int .i64 cc, .int .i64 cu, .int .i64 ct, .int .i64 cp], .agg #[.int .i64 ob, .bool false, .int .i64 ov], .agg #[.int .i64 1, .int .i64 ea, .int .i64 eb, .int .i64 0, .int .i64 ed]] w fun e w' => e = .returned (.bool true) ∧ Below w.heap.size w w' := by
  go_enter Try.func6, Try.ntmps6
  go_wp2_with fail
  go_at_call 13
  refine (make_c ea ob false ov _ 0 0 rfl rfl).mono ?_
  rintro e w' ⟨rfl, hb⟩
  obtain ⟨x, rfl⟩ := over hb
  clear hb
  have f0 := x.up (b := w.heap.size) (by first | omega | (simp only [World.size_alloc]; omega) | (simp; done) | (simp; omega))
  have f1 := x.up (b := w.heap.size + 1) (by first | omega | (simp only [World.size_alloc]; omega) | (simp; done) | (simp; omega))
  have f2 := x.up (b := w.heap.size + 1 + 1) (by first | omega | (simp only [World.size_alloc]; omega) | (simp; done) | (simp; omega))
  go_wp2_with fail
  go_at_call 11
  refine (op_c 1 ea ob 0 0 _ false 0 rfl rfl).mono ?_
  rintro e w' ⟨rfl, hb⟩
  obtain ⟨y, rfl⟩ := over2 hb
  clear hb
  have g0 := y.up (b := w.heap.size) (by first | omega | (simp only [World.size_alloc]; omega) | (simp; done) | (simp; omega))
  have g1 := y.up (b := w.heap.size + 1) (by first | omega | (simp only [World.size_alloc]; omega) | (simp; done) | (simp; omega))
  have g2 := y.up (b := w.heap.size + 1 + 1) (by first | omega | (simp only [World.size_alloc]; omega) | (simp; done) | (simp; omega))
  go_wp2_with fail
  go_at_call 8
  refine (awake5_any _).mono ?_
  rintro e w' ⟨rfl, hb⟩
  obtain ⟨z, rfl⟩ := over hb
  clear hb
  have k0 := z.up (b := w.heap.size) (by first | omega | (simp only [World.size_alloc]; omega) | (simp; done) | (simp; omega))
  have k1 := z.up (b := w.heap.size + 1) (by first | omega | (simp only [World.size_alloc]; omega) | (simp; done) | (simp; omega))
  have k2 := z.up (b := w.heap.size + 1 + 1) (by first | omega | (simp only [World.size_alloc]; omega) | (simp; done) | (simp; omega))
  have k3 := z.up (b := y.w.heap.size) (by first | omega | (simp only [World.size_alloc]; omega) | (simp; done) | (simp; omega))
  go_wp2_with fail
  go_at_call 10
  refine (refLegal_c _ _ _ _ _ _ _ _ _ _ _ _ _ _ _ _ hq).mono ?_
  rintro e w' ⟨rfl, hb⟩
  obtain ⟨u, rfl⟩ := over2 hb
  clear hb
  have m0 := u.up (b := w.heap.size) (by first | omega | (simp only [World.size_alloc]; omega) | (simp; done) | (simp; omega))
  have m1 := u.up (b := w.heap.size + 1) (by first | omega | (simp only [World.size_alloc]; omega) | (simp; done) | (simp; omega))
  have m2 := u.up (b := w.heap.size + 1 + 1) (by first | omega | (simp only [World.size_alloc]; omega) | (simp; done) | (simp; omega))
  have m3 := u.up (b := y.w.heap.size) (by first | omega | (simp only [World.size_alloc]; omega) | (simp; done) | (simp; omega))
  go_wp2_with fail
  go_region_held3 (fun w' => w'.cell? ⟨w.heap.size + 1 + 1, 0, none⟩ = some (.int .i64 1) ∧ w'.cell? ⟨w.heap.size + 1 + 1, 1, none⟩ = some (.int .i64 ea) ∧ w'.cell? ⟨w.heap.size + 1 + 1, 2, none⟩ = some (.int .i64 eb) ∧ w'.cell? ⟨w.heap.size + 1 + 1, 3, none⟩ = some (.int .i64 0) ∧ w'.cell? ⟨w.heap.size + 1 + 1, 4, none⟩ = some (.int .i64 ed)) (simp [go_sem, *]) (first | (go_at_call 11; refine (op_c 1 ea eb 0 ed _ false 0 rfl rfl).mono ?_; rintro e w' ⟨rfl, hb⟩; (first | obtain ⟨p, rfl⟩ := overD hb | obtain ⟨p, rfl⟩ := over2 hb | obtain ⟨p, rfl⟩ := over hb); clear hb; have p0 := p.up (b := w.heap.size) (by first | exact m0 | (simp; done) | (simp; omega)); have p1 := p.up (b := w.heap.size + 1) (by first | exact m1 | (simp; done) | (simp; omega)); have p2 := p.up (b := w.heap.size + 1 + 1) (by first | exact m2 | (simp; done) | (simp; omega)); have p3 := p.up (b := y.w.heap.size) (by first | exact m3 | (simp; done) | (simp; omega)); try (have p4 := p.up (b := u.w.heap.size) (by first | (simp; done) | (simp; omega) | omega))) | (go_at_call 13; refine (make_c ea eb false 0 _ 0 0 rfl rfl).mono ?_; rintro e w' ⟨rfl, hb⟩; (first | obtain ⟨q, rfl⟩ := overD hb | obtain ⟨q, rfl⟩ := over2 hb | obtain ⟨q, rfl⟩ := over hb); clear hb; have q0 := q.up (b := w.heap.size) (by first | exact p0 | exact m0 | (simp; done) | (simp; omega)); have q1 := q.up (b := w.heap.size + 1) (by first | exact p1 | exact m1 | (simp; done) | (simp; omega)); have q2 := q.up (b := w.heap.size + 1 + 1) (by first | exact p2 | exact m2 | (simp; done) | (simp; omega)); have q3 := q.up (b := y.w.heap.size) (by first | exact p3 | exact m3 | (simp; done) | (simp; omega)); try (have q4 := q.up (b := u.w.heap.size) (by first | (simp; done) | (simp; omega) | omega)); try (have q5 := q.up (b := p.w.heap.size) (by first | (simp; done) | (simp; omega) | omega))))
  all_goals go_wp2_with fail
  all_goals
    go_ret
    refine ⟨by first | rfl | simp, ?_⟩
    have s1 := x.below.size
    have s2 := y.below.size
    have s3 := z.below.size
    have s4 := u.below.size
    have s5 := p.below.size
    repeat' first | with_reducible exact Below.refl _ _ | with_reducible refine Below.setCell ?_ ?_ _ | with_reducible refine Below.alloc ?_ ?_ _ | with_reducible refine Below.drew ?_ | with_reducible refine belowN ?_ _ | with_reducible refine Over.go _ ?_ ?_ | with_reducible exact Nat.le_refl _ | with_reducible refine Over.sz _ _ ?_ | with_reducible refine le_alloc ?_ | with_reducible refine le_setCell ?_ | with_reducible refine le_drewN ?_ | with_reducible refine le_drew ?_ | omega | (dsimp only; omega)

set_option maxHeartbeats 2000000 in
theorem back_load_1 (n bl tt cs cy cc cu ct cp : Int) (ob ov ea eb ed : Int) (w : World) (hq : Hid (legalB 1 ea eb 1 n bl = true)) : Calls Try.prog 6 #[.agg #[.int .i64 n, .int .i64 bl, .int .i64 tt, .int .i64 cs, .int .i64 cy, .int .i64 cc, .int .i64 cu, .int .i64 ct, .int .i64 cp], .agg #[.int .i64 ob, .bool false, .int .i64 ov], .agg #[.int .i64 1, .int .i64 ea, .int .i64 eb, .int .i64 1, .int .i64 ed]] w fun e w' => e = .returned (.bool true) ∧ Below w.heap.size w w' := by
  go_enter Try.func6, Try.ntmps6
  go_wp2_with fail
  go_at_call 13
  refine (make_c ea ob false ov _ 0 0 rfl rfl).mono ?_
  rintro e w' ⟨rfl, hb⟩
  obtain ⟨x, rfl⟩ := over hb
  clear hb
  have f0 := x.up (b := w.heap.size) (by first | omega | (simp only [World.size_alloc]; omega) | (simp; done) | (simp; omega))
  have f1 := x.up (b := w.heap.size + 1) (by first | omega | (simp only [World.size_alloc]; omega) | (simp; done) | (simp; omega))
  have f2 := x.up (b := w.heap.size + 1 + 1) (by first | omega | (simp only [World.size_alloc]; omega) | (simp; done) | (simp; omega))
  go_wp2_with fail
  go_at_call 11
  refine (op_c 1 ea ob 0 0 _ false 0 rfl rfl).mono ?_
  rintro e w' ⟨rfl, hb⟩
  obtain ⟨y, rfl⟩ := over2 hb
  clear hb
  have g0 := y.up (b := w.heap.size) (by first | omega | (simp only [World.size_alloc]; omega) | (simp; done) | (simp; omega))
  have g1 := y.up (b := w.heap.size + 1) (by first | omega | (simp only [World.size_alloc]; omega) | (simp; done) | (simp; omega))
  have g2 := y.up (b := w.heap.size + 1 + 1) (by first | omega | (simp only [World.size_alloc]; omega) | (simp; done) | (simp; omega))
  go_wp2_with fail
  go_at_call 8
  refine (awake5_any _).mono ?_
  rintro e w' ⟨rfl, hb⟩
  obtain ⟨z, rfl⟩ := over hb
  clear hb
  have k0 := z.up (b := w.heap.size) (by first | omega | (simp only [World.size_alloc]; omega) | (simp; done) | (simp; omega))
  have k1 := z.up (b := w.heap.size + 1) (by first | omega | (simp only [World.size_alloc]; omega) | (simp; done) | (simp; omega))
  have k2 := z.up (b := w.heap.size + 1 + 1) (by first | omega | (simp only [World.size_alloc]; omega) | (simp; done) | (simp; omega))
  have k3 := z.up (b := y.w.heap.size) (by first | omega | (simp only [World.size_alloc]; omega) | (simp; done) | (simp; omega))
  go_wp2_with fail
  go_at_call 10
  refine (refLegal_c _ _ _ _ _ _ _ _ _ _ _ _ _ _ _ _ hq).mono ?_
  rintro e w' ⟨rfl, hb⟩
  obtain ⟨u, rfl⟩ := over2 hb
  clear hb
  have m0 := u.up (b := w.heap.size) (by first | omega | (simp only [World.size_alloc]; omega) | (simp; done) | (simp; omega))
  have m1 := u.up (b := w.heap.size + 1) (by first | omega | (simp only [World.size_alloc]; omega) | (simp; done) | (simp; omega))
  have m2 := u.up (b := w.heap.size + 1 + 1) (by first | omega | (simp only [World.size_alloc]; omega) | (simp; done) | (simp; omega))
  have m3 := u.up (b := y.w.heap.size) (by first | omega | (simp only [World.size_alloc]; omega) | (simp; done) | (simp; omega))
  go_wp2_with fail
  go_region_held3 (fun w' => w'.cell? ⟨w.heap.size + 1 + 1, 0, none⟩ = some (.int .i64 1) ∧ w'.cell? ⟨w.heap.size + 1 + 1, 1, none⟩ = some (.int .i64 ea) ∧ w'.cell? ⟨w.heap.size + 1 + 1, 2, none⟩ = some (.int .i64 eb) ∧ w'.cell? ⟨w.heap.size + 1 + 1, 3, none⟩ = some (.int .i64 1) ∧ w'.cell? ⟨w.heap.size + 1 + 1, 4, none⟩ = some (.int .i64 ed)) (simp [go_sem, *]) (first | (go_at_call 11; refine (op_c 1 ea eb 1 ed _ true ed rfl rfl).mono ?_; rintro e w' ⟨rfl, hb⟩; (first | obtain ⟨p, rfl⟩ := overD hb | obtain ⟨p, rfl⟩ := over2 hb | obtain ⟨p, rfl⟩ := over hb); clear hb; have p0 := p.up (b := w.heap.size) (by first | exact m0 | (simp; done) | (simp; omega)); have p1 := p.up (b := w.heap.size + 1) (by first | exact m1 | (simp; done) | (simp; omega)); have p2 := p.up (b := w.heap.size + 1 + 1) (by first | exact m2 | (simp; done) | (simp; omega)); have p3 := p.up (b := y.w.heap.size) (by first | exact m3 | (simp; done) | (simp; omega)); try (have p4 := p.up (b := u.w.heap.size) (by first | (simp; done) | (simp; omega) | omega))) | (go_at_call 13; refine (make_c ea eb true ed _ 1 ed rfl rfl).mono ?_; rintro e w' ⟨rfl, hb⟩; (first | obtain ⟨q, rfl⟩ := overD hb | obtain ⟨q, rfl⟩ := over2 hb | obtain ⟨q, rfl⟩ := over hb); clear hb; have q0 := q.up (b := w.heap.size) (by first | exact p0 | exact m0 | (simp; done) | (simp; omega)); have q1 := q.up (b := w.heap.size + 1) (by first | exact p1 | exact m1 | (simp; done) | (simp; omega)); have q2 := q.up (b := w.heap.size + 1 + 1) (by first | exact p2 | exact m2 | (simp; done) | (simp; omega)); have q3 := q.up (b := y.w.heap.size) (by first | exact p3 | exact m3 | (simp; done) | (simp; omega)); try (have q4 := q.up (b := u.w.heap.size) (by first | (simp; done) | (simp; omega) | omega)); try (have q5 := q.up (b := p.w.heap.size) (by first | (simp; done) | (simp; omega) | omega))))
  all_goals go_wp2_with fail
  all_goals
    go_ret
    refine ⟨by first | rfl | simp, ?_⟩
    have s1 := x.below.size
    have s2 := y.below.size
    have s3 := z.below.size
    have s4 := u.below.size
    have s5 := p.below.size
    repeat' first | with_reducible exact Below.refl _ _ | with_reducible refine Below.setCell ?_ ?_ _ | with_reducible refine Below.alloc ?_ ?_ _ | with_reducible refine Below.drew ?_ | with_reducible refine belowN ?_ _ | with_reducible refine Over.go _ ?_ ?_ | with_reducible exact Nat.le_refl _ | with_reducible refine Over.sz _ _ ?_ | with_reducible refine le_alloc ?_ | with_reducible refine le_setCell ?_ | with_reducible refine le_drewN ?_ | with_reducible refine le_drew ?_ | omega | (dsimp only; omega)

set_option maxHeartbeats 2000000 in
theorem back_store (n bl tt cs cy cc cu ct cp : Int) (ob ov : Int) (ek ea eb ec ed : Int) (w : World) (k : ek ≠ 1) : Calls Try.prog 6 #[.agg #[.int .i64 n, .int .i64 bl, .int .i64 tt, .int .i64 cs, .int .i64 cy, .int .i64 cc, .int .i64 cu, .int .i64 ct, .int .i64 cp], .agg #[.int .i64 ob, .bool true, .int .i64 ov], .agg #[.int .i64 ek, .int .i64 ea, .int .i64 eb, .int .i64 ec, .int .i64 ed]] w fun e w' => e = .returned (.bool true) ∧ Below w.heap.size w w' := by
  go_enter Try.func6, Try.ntmps6
  go_wp2_with fail
  go_at_call 13
  refine (make_c ea ob true ov _ 1 ov rfl rfl).mono ?_
  rintro e w' ⟨rfl, hb⟩
  obtain ⟨x, rfl⟩ := over hb
  clear hb
  have f0 := x.up (b := w.heap.size) (by first | omega | (simp only [World.size_alloc]; omega) | (simp; done) | (simp; omega))
  have f1 := x.up (b := w.heap.size + 1) (by first | omega | (simp only [World.size_alloc]; omega) | (simp; done) | (simp; omega))
  have f2 := x.up (b := w.heap.size + 1 + 1) (by first | omega | (simp only [World.size_alloc]; omega) | (simp; done) | (simp; omega))
  go_wp2_with fail
  go_at_call 11
  refine (op_c 1 ea ob 1 ov _ true ov rfl rfl).mono ?_
  rintro e w' ⟨rfl, hb⟩
  obtain ⟨y, rfl⟩ := over2 hb
  clear hb
  have g0 := y.up (b := w.heap.size) (by first | omega | (simp only [World.size_alloc]; omega) | (simp; done) | (simp; omega))
  have g1 := y.up (b := w.heap.size + 1) (by first | omega | (simp only [World.size_alloc]; omega) | (simp; done) | (simp; omega))
  have g2 := y.up (b := w.heap.size + 1 + 1) (by first | omega | (simp only [World.size_alloc]; omega) | (simp; done) | (simp; omega))
  go_wp2_with fail
  go_at_call 8
  refine (awake5_any _).mono ?_
  rintro e w' ⟨rfl, hb⟩
  obtain ⟨z, rfl⟩ := over hb
  clear hb
  have k0 := z.up (b := w.heap.size) (by first | omega | (simp only [World.size_alloc]; omega) | (simp; done) | (simp; omega))
  have k1 := z.up (b := w.heap.size + 1) (by first | omega | (simp only [World.size_alloc]; omega) | (simp; done) | (simp; omega))
  have k2 := z.up (b := w.heap.size + 1 + 1) (by first | omega | (simp only [World.size_alloc]; omega) | (simp; done) | (simp; omega))
  have k3 := z.up (b := y.w.heap.size) (by first | omega | (simp only [World.size_alloc]; omega) | (simp; done) | (simp; omega))
  go_wp2_with fail
  go_ret
  refine ⟨by first | rfl | simp, ?_⟩
  have s1 := x.below.size
  have s2 := y.below.size
  have s3 := z.below.size
  repeat' first | with_reducible exact Below.refl _ _ | with_reducible refine Below.setCell ?_ ?_ _ | with_reducible refine Below.alloc ?_ ?_ _ | with_reducible refine Below.drew ?_ | with_reducible refine belowN ?_ _ | with_reducible refine Over.go _ ?_ ?_ | with_reducible exact Nat.le_refl _ | with_reducible refine Over.sz _ _ ?_ | with_reducible refine le_alloc ?_ | with_reducible refine le_setCell ?_ | with_reducible refine le_drewN ?_ | with_reducible refine le_drew ?_ | omega | (dsimp only; omega)

set_option maxHeartbeats 2000000 in
theorem back_store_not (n bl tt cs cy cc cu ct cp : Int) (ob ov ea eb ec ed : Int) (w : World) (hq : Hid (legalB 1 ea eb ec n bl = false)) : Calls Try.prog 6 #[.agg #[.int .i64 n, .int .i64 bl, .int .i64 tt, .int .i64 cs, .int .i64 cy, .int .i64 cc, .int .i64 cu, .int .i64 ct, .int .i64 cp], .agg #[.int .i64 ob, .bool true, .int .i64 ov], .agg #[.int .i64 1, .int .i64 ea, .int .i64 eb, .int .i64 ec, .int .i64 ed]] w fun e w' => e = .returned (.bool true) ∧ Below w.heap.size w w' := by
  go_enter Try.func6, Try.ntmps6
  go_wp2_with fail
  go_at_call 13
  refine (make_c ea ob true ov _ 1 ov rfl rfl).mono ?_
  rintro e w' ⟨rfl, hb⟩
  obtain ⟨x, rfl⟩ := over hb
  clear hb
  have f0 := x.up (b := w.heap.size) (by first | omega | (simp only [World.size_alloc]; omega) | (simp; done) | (simp; omega))
  have f1 := x.up (b := w.heap.size + 1) (by first | omega | (simp only [World.size_alloc]; omega) | (simp; done) | (simp; omega))
  have f2 := x.up (b := w.heap.size + 1 + 1) (by first | omega | (simp only [World.size_alloc]; omega) | (simp; done) | (simp; omega))
  go_wp2_with fail
  go_at_call 11
  refine (op_c 1 ea ob 1 ov _ true ov rfl rfl).mono ?_
  rintro e w' ⟨rfl, hb⟩
  obtain ⟨y, rfl⟩ := over2 hb
  clear hb
  have g0 := y.up (b := w.heap.size) (by first | omega | (simp only [World.size_alloc]; omega) | (simp; done) | (simp; omega))
  have g1 := y.up (b := w.heap.size + 1) (by first | omega | (simp only [World.size_alloc]; omega) | (simp; done) | (simp; omega))
  have g2 := y.up (b := w.heap.size + 1 + 1) (by first | omega | (simp only [World.size_alloc]; omega) | (simp; done) | (simp; omega))
  go_wp2_with fail
  go_at_call 8
  refine (awake5_any _).mono ?_
  rintro e w' ⟨rfl, hb⟩
  obtain ⟨z, rfl⟩ := over hb
  clear hb
  have k0 := z.up (b := w.heap.size) (by first | omega | (simp only [World.size_alloc]; omega) | (simp; done) | (simp; omega))
  have k1 := z.up (b := w.heap.size + 1) (by first | omega | (simp only [World.size_alloc]; omega) | (simp; done) | (simp; omega))
  have k2 := z.up (b := w.heap.size + 1 + 1) (by first | omega | (simp only [World.size_alloc]; omega) | (simp; done) | (simp; omega))
  have k3 := z.up (b := y.w.heap.size) (by first | omega | (simp only [World.size_alloc]; omega) | (simp; done) | (simp; omega))
  go_wp2_with fail
  go_at_call 10
  refine (refLegal_c _ _ _ _ _ _ _ _ _ _ _ _ _ _ _ _ hq).mono ?_
  rintro e w' ⟨rfl, hb⟩
  obtain ⟨u, rfl⟩ := over2 hb
  clear hb
  have m0 := u.up (b := w.heap.size) (by first | omega | (simp only [World.size_alloc]; omega) | (simp; done) | (simp; omega))
  have m1 := u.up (b := w.heap.size + 1) (by first | omega | (simp only [World.size_alloc]; omega) | (simp; done) | (simp; omega))
  have m2 := u.up (b := w.heap.size + 1 + 1) (by first | omega | (simp only [World.size_alloc]; omega) | (simp; done) | (simp; omega))
  have m3 := u.up (b := y.w.heap.size) (by first | omega | (simp only [World.size_alloc]; omega) | (simp; done) | (simp; omega))
  go_wp2_with fail
  go_ret
  refine ⟨by first | rfl | simp, ?_⟩
  have s1 := x.below.size
  have s2 := y.below.size
  have s3 := z.below.size
  repeat' first | with_reducible exact Below.refl _ _ | with_reducible refine Below.setCell ?_ ?_ _ | with_reducible refine Below.alloc ?_ ?_ _ | with_reducible refine Below.drew ?_ | with_reducible refine belowN ?_ _ | with_reducible refine Over.go _ ?_ ?_ | with_reducible exact Nat.le_refl _ | with_reducible refine Over.sz _ _ ?_ | with_reducible refine le_alloc ?_ | with_reducible refine le_setCell ?_ | with_reducible refine le_drewN ?_ | with_reducible refine le_drew ?_ | omega | (dsimp only; omega)

set_option maxHeartbeats 2000000 in
theorem back_store_0 (n bl tt cs cy cc cu ct cp : Int) (ob ov ea eb ed : Int) (w : World) (hq : Hid (legalB 1 ea eb 0 n bl = true)) : Calls Try.prog 6 #[.agg #[.int .i64 n, .int .i64 bl, .int .i64 tt, .int .i64 cs, .int .i64 cy, .int .i64 cc, .int .i64 cu, .int .i64 ct, .int .i64 cp], .agg #[.int .i64 ob, .bool true, .int .i64 ov], .agg #[.int .i64 1, .int .i64 ea, .int .i64 eb, .int .i64 0, .int .i64 ed]] w fun e w' => e = .returned (.bool true) ∧ Below w.heap.size w w' := by
  go_enter Try.func6, Try.ntmps6
  go_wp2_with fail
  go_at_call 13
  refine (make_c ea ob true ov _ 1 ov rfl rfl).mono ?_
  rintro e w' ⟨rfl, hb⟩
  obtain ⟨x, rfl⟩ := over hb
  clear hb
  have f0 := x.up (b := w.heap.size) (by first | omega | (simp only [World.size_alloc]; omega) | (simp; done) | (simp; omega))
  have f1 := x.up (b := w.heap.size + 1) (by first | omega | (simp only [World.size_alloc]; omega) | (simp; done) | (simp; omega))
  have f2 := x.up (b := w.heap.size + 1 + 1) (by first | omega | (simp only [World.size_alloc]; omega) | (simp; done) | (simp; omega))
  go_wp2_with fail
  go_at_call 11
  refine (op_c 1 ea ob 1 ov _ true ov rfl rfl).mono ?_
  rintro e w' ⟨rfl, hb⟩
  obtain ⟨y, rfl⟩ := over2 hb
  clear hb
  have g0 := y.up (b := w.heap.size) (by first | omega | (simp only [World.size_alloc]; omega) | (simp; done) | (simp; omega))
  have g1 := y.up (b := w.heap.size + 1) (by first | omega | (simp only [World.size_alloc]; omega) | (simp; done) | (simp; omega))
  have g2 := y.up (b := w.heap.size + 1 + 1) (by first | omega | (simp only [World.size_alloc]; omega) | (simp; done) | (simp; omega))
  go_wp2_with fail
  go_at_call 8
  refine (awake5_any _).mono ?_
  rintro e w' ⟨rfl, hb⟩
  obtain ⟨z, rfl⟩ := over hb
  clear hb
  have k0 := z.up (b := w.heap.size) (by first | omega | (simp only [World.size_alloc]; omega) | (simp; done) | (simp; omega))
  have k1 := z.up (b := w.heap.size + 1) (by first | omega | (simp only [World.size_alloc]; omega) | (simp; done) | (simp; omega))
  have k2 := z.up (b := w.heap.size + 1 + 1) (by first | omega | (simp only [World.size_alloc]; omega) | (simp; done) | (simp; omega))
  have k3 := z.up (b := y.w.heap.size) (by first | omega | (simp only [World.size_alloc]; omega) | (simp; done) | (simp; omega))
  go_wp2_with fail
  go_at_call 10
  refine (refLegal_c _ _ _ _ _ _ _ _ _ _ _ _ _ _ _ _ hq).mono ?_
  rintro e w' ⟨rfl, hb⟩
  obtain ⟨u, rfl⟩ := over2 hb
  clear hb
  have m0 := u.up (b := w.heap.size) (by first | omega | (simp only [World.size_alloc]; omega) | (simp; done) | (simp; omega))
  have m1 := u.up (b := w.heap.size + 1) (by first | omega | (simp only [World.size_alloc]; omega) | (simp; done) | (simp; omega))
  have m2 := u.up (b := w.heap.size + 1 + 1) (by first | omega | (simp only [World.size_alloc]; omega) | (simp; done) | (simp; omega))
  have m3 := u.up (b := y.w.heap.size) (by first | omega | (simp only [World.size_alloc]; omega) | (simp; done) | (simp; omega))
  go_wp2_with fail
  go_region_held3 (fun w' => w'.cell? ⟨w.heap.size + 1 + 1, 0, none⟩ = some (.int .i64 1) ∧ w'.cell? ⟨w.heap.size + 1 + 1, 1, none⟩ = some (.int .i64 ea) ∧ w'.cell? ⟨w.heap.size + 1 + 1, 2, none⟩ = some (.int .i64 eb) ∧ w'.cell? ⟨w.heap.size + 1 + 1, 3, none⟩ = some (.int .i64 0) ∧ w'.cell? ⟨w.heap.size + 1 + 1, 4, none⟩ = some (.int .i64 ed)) (simp [go_sem, *]) (first | (go_at_call 11; refine (op_c 1 ea eb 0 ed _ false 0 rfl rfl).mono ?_; rintro e w' ⟨rfl, hb⟩; (first | obtain ⟨p, rfl⟩ := overD hb | obtain ⟨p, rfl⟩ := over2 hb | obtain ⟨p, rfl⟩ := over hb); clear hb; have p0 := p.up (b := w.heap.size) (by first | exact m0 | (simp; done) | (simp; omega)); have p1 := p.up (b := w.heap.size + 1) (by first | exact m1 | (simp; done) | (simp; omega)); have p2 := p.up (b := w.heap.size + 1 + 1) (by first | exact m2 | (simp; done) | (simp; omega)); have p3 := p.up (b := y.w.heap.size) (by first | exact m3 | (simp; done) | (simp; omega)); try (have p4 := p.up (b := u.w.heap.size) (by first | (simp; done) | (simp; omega) | omega))) | (go_at_call 13; refine (make_c ea eb false 0 _ 0 0 rfl rfl).mono ?_; rintro e w' ⟨rfl, hb⟩; (first | obtain ⟨q, rfl⟩ := overD hb | obtain ⟨q, rfl⟩ := over2 hb | obtain ⟨q, rfl⟩ := over hb); clear hb; have q0 := q.up (b := w.heap.size) (by first | exact p0 | exact m0 | (simp; done) | (simp; omega)); have q1 := q.up (b := w.heap.size + 1) (by first | exact p1 | exact m1 | (simp; done) | (simp; omega)); have q2 := q.up (b := w.heap.size + 1 + 1) (by first | exact p2 | exact m2 | (simp; done) | (simp; omega)); have q3 := q.up (b := y.w.heap.size) (by first | exact p3 | exact m3 | (simp; done) | (simp; omega)); try (have q4 := q.up (b := u.w.heap.size) (by first | (simp; done) | (simp; omega) | omega)); try (have q5 := q.up (b := p.w.heap.size) (by first | (simp; done) | (simp; omega) | omega))))
  all_goals go_wp2_with fail
  all_goals
    go_ret
    refine ⟨by first | rfl | simp, ?_⟩
    have s1 := x.below.size
    have s2 := y.below.size
    have s3 := z.below.size
    have s4 := u.below.size
    have s5 := p.below.size
    repeat' first | with_reducible exact Below.refl _ _ | with_reducible refine Below.setCell ?_ ?_ _ | with_reducible refine Below.alloc ?_ ?_ _ | with_reducible refine Below.drew ?_ | with_reducible refine belowN ?_ _ | with_reducible refine Over.go _ ?_ ?_ | with_reducible exact Nat.le_refl _ | with_reducible refine Over.sz _ _ ?_ | with_reducible refine le_alloc ?_ | with_reducible refine le_setCell ?_ | with_reducible refine le_drewN ?_ | with_reducible refine le_drew ?_ | omega | (dsimp only; omega)

set_option maxHeartbeats 2000000 in
theorem back_store_1 (n bl tt cs cy cc cu ct cp : Int) (ob ov ea eb ed : Int) (w : World) (hq : Hid (legalB 1 ea eb 1 n bl = true)) : Calls Try.prog 6 #[.agg #[.int .i64 n, .int .i64 bl, .int .i64 tt, .int .i64 cs, .int .i64 cy, .int .i64 cc, .int .i64 cu, .int .i64 ct, .int .i64 cp], .agg #[.int .i64 ob, .bool true, .int .i64 ov], .agg #[.int .i64 1, .int .i64 ea, .int .i64 eb, .int .i64 1, .int .i64 ed]] w fun e w' => e = .returned (.bool true) ∧ Below w.heap.size w w' := by
  go_enter Try.func6, Try.ntmps6
  go_wp2_with fail
  go_at_call 13
  refine (make_c ea ob true ov _ 1 ov rfl rfl).mono ?_
  rintro e w' ⟨rfl, hb⟩
  obtain ⟨x, rfl⟩ := over hb
  clear hb
  have f0 := x.up (b := w.heap.size) (by first | omega | (simp only [World.size_alloc]; omega) | (simp; done) | (simp; omega))
  have f1 := x.up (b := w.heap.size + 1) (by first | omega | (simp only [World.size_alloc]; omega) | (simp; done) | (simp; omega))
  have f2 := x.up (b := w.heap.size + 1 + 1) (by first | omega | (simp only [World.size_alloc]; omega) | (simp; done) | (simp; omega))
  go_wp2_with fail
  go_at_call 11
  refine (op_c 1 ea ob 1 ov _ true ov rfl rfl).mono ?_
  rintro e w' ⟨rfl, hb⟩
  obtain ⟨y, rfl⟩ := over2 hb
  clear hb
  have g0 := y.up (b := w.heap.size) (by first | omega | (simp only [World.size_alloc]; omega) | (simp; done) | (simp; omega))
  have g1 := y.up (b := w.heap.size + 1) (by first | omega | (simp only [World.size_alloc]; omega) | (simp; done) | (simp; omega))
  have g2 := y.up (b := w.heap.size + 1 + 1) (by first | omega | (simp only [World.size_alloc]; omega) | (simp; done) | (simp; omega))
  go_wp2_with fail
  go_at_call 8
  refine (awake5_any _).mono ?_
  rintro e w' ⟨rfl, hb⟩
  obtain ⟨z, rfl⟩ := over hb
  clear hb
  have k0 := z.up (b := w.heap.size) (by first | omega | (simp only [World.size_alloc]; omega) | (simp; done) | (simp; omega))
  have k1 := z.up (b := w.heap.size + 1) (by first | omega | (simp only [World.size_alloc]; omega) | (simp; done) | (simp; omega))
  have k2 := z.up (b := w.heap.size + 1 + 1) (by first | omega | (simp only [World.size_alloc]; omega) | (simp; done) | (simp; omega))
  have k3 := z.up (b := y.w.heap.size) (by first | omega | (simp only [World.size_alloc]; omega) | (simp; done) | (simp; omega))
  go_wp2_with fail
  go_at_call 10
  refine (refLegal_c _ _ _ _ _ _ _ _ _ _ _ _ _ _ _ _ hq).mono ?_
  rintro e w' ⟨rfl, hb⟩
  obtain ⟨u, rfl⟩ := over2 hb
  clear hb
  have m0 := u.up (b := w.heap.size) (by first | omega | (simp only [World.size_alloc]; omega) | (simp; done) | (simp; omega))
  have m1 := u.up (b := w.heap.size + 1) (by first | omega | (simp only [World.size_alloc]; omega) | (simp; done) | (simp; omega))
  have m2 := u.up (b := w.heap.size + 1 + 1) (by first | omega | (simp only [World.size_alloc]; omega) | (simp; done) | (simp; omega))
  have m3 := u.up (b := y.w.heap.size) (by first | omega | (simp only [World.size_alloc]; omega) | (simp; done) | (simp; omega))
  go_wp2_with fail
  go_region_held3 (fun w' => w'.cell? ⟨w.heap.size + 1 + 1, 0, none⟩ = some (.int .i64 1) ∧ w'.cell? ⟨w.heap.size + 1 + 1, 1, none⟩ = some (.int .i64 ea) ∧ w'.cell? ⟨w.heap.size + 1 + 1, 2, none⟩ = some (.int .i64 eb) ∧ w'.cell? ⟨w.heap.size + 1 + 1, 3, none⟩ = some (.int .i64 1) ∧ w'.cell? ⟨w.heap.size + 1 + 1, 4, none⟩ = some (.int .i64 ed)) (simp [go_sem, *]) (first | (go_at_call 11; refine (op_c 1 ea eb 1 ed _ true ed rfl rfl).mono ?_; rintro e w' ⟨rfl, hb⟩; (first | obtain ⟨p, rfl⟩ := overD hb | obtain ⟨p, rfl⟩ := over2 hb | obtain ⟨p, rfl⟩ := over hb); clear hb; have p0 := p.up (b := w.heap.size) (by first | exact m0 | (simp; done) | (simp; omega)); have p1 := p.up (b := w.heap.size + 1) (by first | exact m1 | (simp; done) | (simp; omega)); have p2 := p.up (b := w.heap.size + 1 + 1) (by first | exact m2 | (simp; done) | (simp; omega)); have p3 := p.up (b := y.w.heap.size) (by first | exact m3 | (simp; done) | (simp; omega)); try (have p4 := p.up (b := u.w.heap.size) (by first | (simp; done) | (simp; omega) | omega))) | (go_at_call 13; refine (make_c ea eb true ed _ 1 ed rfl rfl).mono ?_; rintro e w' ⟨rfl, hb⟩; (first | obtain ⟨q, rfl⟩ := overD hb | obtain ⟨q, rfl⟩ := over2 hb | obtain ⟨q, rfl⟩ := over hb); clear hb; have q0 := q.up (b := w.heap.size) (by first | exact p0 | exact m0 | (simp; done) | (simp; omega)); have q1 := q.up (b := w.heap.size + 1) (by first | exact p1 | exact m1 | (simp; done) | (simp; omega)); have q2 := q.up (b := w.heap.size + 1 + 1) (by first | exact p2 | exact m2 | (simp; done) | (simp; omega)); have q3 := q.up (b := y.w.heap.size) (by first | exact p3 | exact m3 | (simp; done) | (simp; omega)); try (have q4 := q.up (b := u.w.heap.size) (by first | (simp; done) | (simp; omega) | omega)); try (have q5 := q.up (b := p.w.heap.size) (by first | (simp; done) | (simp; omega) | omega))))
  all_goals go_wp2_with fail
  all_goals
    go_ret
    refine ⟨by first | rfl | simp, ?_⟩
    have s1 := x.below.size
    have s2 := y.below.size
    have s3 := z.below.size
    have s4 := u.below.size
    have s5 := p.below.size
    repeat' first | with_reducible exact Below.refl _ _ | with_reducible refine Below.setCell ?_ ?_ _ | with_reducible refine Below.alloc ?_ ?_ _ | with_reducible refine Below.drew ?_ | with_reducible refine belowN ?_ _ | with_reducible refine Over.go _ ?_ ?_ | with_reducible exact Nat.le_refl _ | with_reducible refine Over.sz _ _ ?_ | with_reducible refine le_alloc ?_ | with_reducible refine le_setCell ?_ | with_reducible refine le_drewN ?_ | with_reducible refine le_drew ?_ | omega | (dsimp only; omega)

theorem EntryBack_walk (n bl tt cs cy cc cu ct cp : Int) (ob : Int) (ow : Bool) (ov : Int) (ek ea eb ec ed : Int) (w : World) : Calls Try.prog 6 #[.agg #[.int .i64 n, .int .i64 bl, .int .i64 tt, .int .i64 cs, .int .i64 cy, .int .i64 cc, .int .i64 cu, .int .i64 ct, .int .i64 cp], .agg #[.int .i64 ob, .bool ow, .int .i64 ov], .agg #[.int .i64 ek, .int .i64 ea, .int .i64 eb, .int .i64 ec, .int .i64 ed]] w fun e w' => e = .returned (.bool true) ∧ Below w.heap.size w w' := by
  by_cases k : ek = 1
  · subst k
    obtain ⟨q, hq⟩ : ∃ q, legalB 1 ea eb ec n bl = q := ⟨_, rfl⟩
    cases q
    · cases ow
      · exact back_load_not _ _ _ _ _ _ _ _ _ _ _ _ _ _ _ _ (hide hq)
      · exact back_store_not _ _ _ _ _ _ _ _ _ _ _ _ _ _ _ _ (hide hq)
    · have hc : ec = 0 ∨ ec = 1 := by simp [legalB] at hq; exact hq.2.2
      rcases hc with rfl | rfl <;> cases ow
      · exact back_load_0 _ _ _ _ _ _ _ _ _ _ _ _ _ _ _ (hide hq)
      · exact back_store_0 _ _ _ _ _ _ _ _ _ _ _ _ _ _ _ (hide hq)
      · exact back_load_1 _ _ _ _ _ _ _ _ _ _ _ _ _ _ _ (hide hq)
      · exact back_store_1 _ _ _ _ _ _ _ _ _ _ _ _ _ _ _ (hide hq)
  · cases ow
    · exact back_load _ _ _ _ _ _ _ _ _ _ _ _ _ _ _ _ _ k
    · exact back_store _ _ _ _ _ _ _ _ _ _ _ _ _ _ _ _ _ k
end Go.Proofs.Ytfkhlnmphjbjoaa
