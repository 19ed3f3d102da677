/- The walk of AdviceDraws (layer 13). -/
import Derived.Test.YtipamgncalcaiaaLaw13
namespace Go.Proofs.Ytipamgncalcaiaa
open Go.ChangeShapes Go.WideShapes Go.ChangeAt Go.RowKit
set_option linter.unusedSimpArgs false
set_option linter.unusedVariables false
set_option maxRecDepth 10000

attribute [local go_sem, local simp] over_const setCell_drewN alloc_drewN Over.cell Over.frozen lt_s1 lt_s2 lt_s3 le_s0 le_s1 le_s2 le_s3 eq_s0 eq_s1 eq_s2 qe_s0



set_option maxHeartbeats 4000000 in
theorem AdviceDraws_walk (n bl tt cs cy cc cu ct cp : Int) (xn : Int) (xo xh : Bool) (xd d0 d1 d2 g0 g1 g2 : Int) (w : World) : Calls Try.prog 7 #[.agg #[.int .i64 n, .int .i64 bl, .int .i64 tt, .int .i64 cs, .int .i64 cy, .int .i64 cc, .int .i64 cu, .int .i64 ct, .int .i64 cp], .agg #[.int .i64 xn, .bool xo, .bool xh, .int .i64 xd], .agg #[.int .i64 d0, .int .i64 d1, .int .i64 d2, .int .i64 g0, .int .i64 g1, .int .i64 g2]] w fun e w' => e = .returned (.bool true) ∧ Below w.heap.size w w' := by
  by_cases c2 : cp = 2
  · subst c2
    go_enter Try.func7, Try.ntmps7
    go_wp2_with fail
    go_at_call 8
    refine (awake13_any _).mono ?_
    rintro e w' ⟨rfl, hb⟩
    obtain ⟨x, rfl⟩ := over hb
    clear hb
    go_wp2_with fail
    go_at_call 8
    refine (awake13_any _).mono ?_
    rintro e w' ⟨rfl, hb⟩
    obtain ⟨y, rfl⟩ := over2 hb
    clear hb
    go_wp2_with fail
    go_ret
    refine ⟨rfl, ?_⟩
    repeat' first | with_reducible exact Below.refl _ _ | with_reducible refine Below.setCell ?_ ?_ _ | with_reducible refine Below.alloc ?_ ?_ _ | with_reducible refine Below.drew ?_ | with_reducible refine belowN ?_ _ | with_reducible refine Over.go _ ?_ ?_ | with_reducible exact Nat.le_refl _ | with_reducible refine Over.sz _ _ ?_ | with_reducible refine le_alloc ?_ | with_reducible refine le_setCell ?_ | with_reducible refine le_drewN ?_ | with_reducible refine le_drew ?_ | omega | (dsimp only; omega)
  obtain ⟨r1, h1⟩ : ∃ r, Hid (repZ cp xn xo false d0 d1 = r) := ⟨_, rfl⟩
  obtain ⟨r2, h2⟩ : ∃ r, Hid (repZ cp xn xo true d0 d1 = r) := ⟨_, rfl⟩
  have k1 : Hid (repZ cp xn xo false g0 g1 = r1) := hide (by rw [← h1.out]; simp [repZ, c2])
  have k2 : Hid (repZ cp xn xo true g0 g1 = r2) := hide (by rw [← h2.out]; simp [repZ, c2])
  obtain ⟨L, hL⟩ : ∃ L, Hid (tgt n 0 cp d0 d1 = L) := ⟨_, rfl⟩
  have ef : fT 0 cp g0 g1 = fT 0 cp d0 d1 := by funext m; simp [fT, askB, c2]
  have hM : Hid (tgt n 0 cp g0 g1 = L) := hide (by rw [← hL.out]; simp only [tgt, ef])
  clear ef
  obtain ⟨N, hN⟩ : ∃ N, Hid (L.length = N) := ⟨_, rfl⟩
  have hnul : cp ≠ 1 → N = 0 ∧ r1 = ⟨0, false, false⟩ ∧ r2 = ⟨0, false, false⟩ := fun e => by
    refine ⟨?_, by rw [← h1.out]; simp [repZ, e, c2], by rw [← h2.out]; simp [repZ, e, c2]⟩
    have e0 : ∀ k, tg (fT 0 cp d0 d1) k = [] := fun k => by
      induction k with
      | zero => rfl
      | succ k ih => rw [tg_off (by simp [fT, askB, e, c2]), ih]
    rw [← hN.out, ← hL.out, tgt]
    split
    · rfl
    · rw [e0]; rfl
  have p2 : (cp == 2) = false := by simp [c2]
  replace c2 := hide c2
  go_enter Try.func7, Try.ntmps7
  go_wp2_with fail
  go_at_call 8
  refine (awake13_any _).mono ?_
  rintro e w' ⟨rfl, hb⟩
  obtain ⟨x0, rfl⟩ := over hb
  clear hb
  go_wp2_with fail
  refine name_world ?_
  intro W hW
  obtain ⟨s, hs⟩ : ∃ s, w.heap.size = s := ⟨_, rfl⟩
  obtain ⟨t, ht⟩ : ∃ t, x0.w.heap.size = t := ⟨_, rfl⟩
  have u0 := x0.up (b := w.heap.size) (by first | omega | (simp only [World.size_alloc]; omega) | (simp; done) | (simp; omega))
  have u1 := x0.up (b := w.heap.size + 1) (by first | omega | (simp only [World.size_alloc]; omega) | (simp; done) | (simp; omega))
  have u2 := x0.up (b := w.heap.size + 1 + 1) (by first | omega | (simp only [World.size_alloc]; omega) | (simp; done) | (simp; omega))
  have hB : Below s w W := by
    rw [← hW, ← hs]
    repeat' first | with_reducible exact Below.refl _ _ | with_reducible refine Below.setCell ?_ ?_ _ | with_reducible refine Below.alloc ?_ ?_ _ | with_reducible refine Below.drew ?_ | with_reducible refine belowN ?_ _ | with_reducible refine Over.go _ ?_ ?_ | with_reducible exact Nat.le_refl _ | with_reducible refine Over.sz _ _ ?_ | with_reducible refine le_alloc ?_ | with_reducible refine le_setCell ?_ | with_reducible refine le_drewN ?_ | with_reducible refine le_drew ?_ | omega | (dsimp only; omega)
  replace hB := hide hB
  have hz : W.heap.size = t + 1 := by rw [← hW, ← ht]; simp
  have q0 : W.cell? ⟨s, 0, none⟩ = some (.int .i64 n) := by rw [← hW, ← hs]; simp [go_sem, u0, u1, u2]
  have q1 : W.cell? ⟨s, 1, none⟩ = some (.int .i64 bl) := by rw [← hW, ← hs]; simp [go_sem, u0, u1, u2]
  have q2 : W.cell? ⟨s, 2, none⟩ = some (.int .i64 tt) := by rw [← hW, ← hs]; simp [go_sem, u0, u1, u2]
  have q3 : W.cell? ⟨s, 3, none⟩ = some (.int .i64 cs) := by rw [← hW, ← hs]; simp [go_sem, u0, u1, u2]
  have q4 : W.cell? ⟨s, 4, none⟩ = some (.int .i64 cy) := by rw [← hW, ← hs]; simp [go_sem, u0, u1, u2]
  have q5 : W.cell? ⟨s, 5, none⟩ = some (.int .i64 cc) := by rw [← hW, ← hs]; simp [go_sem, u0, u1, u2]
  have q6 : W.cell? ⟨s, 6, none⟩ = some (.int .i64 cu) := by rw [← hW, ← hs]; simp [go_sem, u0, u1, u2]
  have q7 : W.cell? ⟨s, 7, none⟩ = some (.int .i64 ct) := by rw [← hW, ← hs]; simp [go_sem, u0, u1, u2]
  have q8 : W.cell? ⟨s, 8, none⟩ = some (.int .i64 cp) := by rw [← hW, ← hs]; simp [go_sem, u0, u1, u2]
  have b0 : W.cell? ⟨s + 1, 0, none⟩ = some (.int .i64 xn) := by rw [← hW, ← hs]; simp [go_sem, u0, u1, u2]
  have b1 : W.cell? ⟨s + 1, 1, none⟩ = some (.bool xo) := by rw [← hW, ← hs]; simp [go_sem, u0, u1, u2]
  have b2 : W.cell? ⟨s + 1, 2, none⟩ = some (.bool xh) := by rw [← hW, ← hs]; simp [go_sem, u0, u1, u2]
  have b3 : W.cell? ⟨s + 1, 3, none⟩ = some (.int .i64 xd) := by rw [← hW, ← hs]; simp [go_sem, u0, u1, u2]
  have f0 : W.cell? ⟨s + 1 + 1, 0, none⟩ = some (.int .i64 d0) := by rw [← hW, ← hs]; simp [go_sem, u0, u1, u2]
  have f1 : W.cell? ⟨s + 1 + 1, 1, none⟩ = some (.int .i64 d1) := by rw [← hW, ← hs]; simp [go_sem, u0, u1, u2]
  have f2 : W.cell? ⟨s + 1 + 1, 2, none⟩ = some (.int .i64 d2) := by rw [← hW, ← hs]; simp [go_sem, u0, u1, u2]
  have f3 : W.cell? ⟨s + 1 + 1, 3, none⟩ = some (.int .i64 g0) := by rw [← hW, ← hs]; simp [go_sem, u0, u1, u2]
  have f4 : W.cell? ⟨s + 1 + 1, 4, none⟩ = some (.int .i64 g1) := by rw [← hW, ← hs]; simp [go_sem, u0, u1, u2]
  have f5 : W.cell? ⟨s + 1 + 1, 5, none⟩ = some (.int .i64 g2) := by rw [← hW, ← hs]; simp [go_sem, u0, u1, u2]
  have l0 : W.cell? ⟨t, 0, none⟩ = some (.bool false) := by rw [← hW, ← ht]; simp [go_sem, u0, u1, u2]
  have l1 : W.cell? ⟨t, 1, none⟩ = some (.bool true) := by rw [← hW, ← ht]; simp [go_sem, u0, u1, u2]
  rw [hs, ht]
  clear hW
  rw [hs] at u0 u1 u2
  rw [ht] at u0 u1 u2
  have z0 : s < W.heap.size := by omega
  have z1 : s + 1 < W.heap.size := by omega
  have z2 : s + 1 + 1 < W.heap.size := by omega
  have z3 : t < W.heap.size := by omega
  clear ht
  replace hs := hide hs
  replace u0 : Hid (s < t) := u0
  replace u1 : Hid (s + 1 < t) := u1
  replace u2 : Hid (s + 1 + 1 < t) := u2
  replace hz : Hid (s ≤ W.heap.size) := hide (by omega)
  refine wp_loop_rounds 3 ?_
  by_cases c1 : cp = 1
  · subst c1
    clear hnul
    rw [rounds_succ]
    go_wp2_with fail
    go_at_call 12
    refine (reply_c 1 xn xo xh xd false d0 d1 d2 _ _ h1).mono ?_
    rintro e w' ⟨rfl, hb⟩
    obtain ⟨x, rfl⟩ := over hb
    clear hb
    go_wp2_with fail
    go_at_call 12
    refine (reply_c 1 xn xo xh xd false g0 g1 g2 _ _ k1).mono ?_
    rintro e w' ⟨rfl, hb⟩
    obtain ⟨y, rfl⟩ := over2 hb
    clear hb
    go_wp2_with fail
    rw [rounds_succ]
    go_wp2_with fail
    go_at_call 12
    refine (reply_c 1 xn xo xh xd true d0 d1 d2 _ _ h2).mono ?_
    rintro e w' ⟨rfl, hb⟩
    obtain ⟨x2, rfl⟩ := over2 hb
    clear hb
    go_wp2_with fail
    go_at_call 12
    refine (reply_c 1 xn xo xh xd true g0 g1 g2 _ _ k2).mono ?_
    rintro e w' ⟨rfl, hb⟩
    obtain ⟨y2, rfl⟩ := over2 hb
    clear hb
    go_wp2_with fail
    rw [rounds_succ]
    go_wp2_with fail
    go_at_call 10
    refine (targets_c n bl tt cs cy cc cu ct 1 0 d0 d1 d2 _ L hL N hN).mono ?_
    rintro e w' ⟨ao, cap, rfl, ⟨b, hV⟩, hb⟩
    obtain ⟨x3, rfl⟩ := over2 hb
    clear hb
    replace hV := hide hV
    go_wp2_with fail
    go_at_call 10
    refine (targets_c n bl tt cs cy cc cu ct 1 0 g0 g1 g2 _ L hM N hN).mono ?_
    rintro e w' ⟨ao', cap', rfl, ⟨b', hV'⟩, hb⟩
    have hV2 := hV.out.below hb
    obtain ⟨x4, rfl⟩ := over2 hb
    clear hb hV
    replace hV' := hide hV'
    replace hV2 := hide hV2
    go_wp2_with fail
    go_at_call 9
    refine (ints_c _ _ _ _ L L _ hV2.out hV'.out).mono ?_
    simp only [decide_true]
    rintro e w' ⟨rfl, m, rfl⟩
    go_wp2_with fail
    go_ret
    refine ⟨by first | rfl | simp [*], ?_⟩
    rw [hs.out]
    exact hB.out.trans (belowN (x4.below.mono (by exact hz.out)) _)
  · obtain ⟨rfl, rfl, rfl⟩ := hnul c1
    have p1 : (cp != 1) = true := by simp [c1]
    have p3 : (cp == 1) = false := by simp [c1]
    clear hnul
    replace c1 := hide c1
    rw [rounds_succ]
    go_wp2_with fail
    go_at_call 12
    refine (reply_c cp xn xo xh xd false d0 d1 d2 _ _ h1).mono ?_
    rintro e w' ⟨rfl, hb⟩
    obtain ⟨x, rfl⟩ := over hb
    clear hb
    go_wp2_with fail
    go_at_call 12
    refine (reply_c cp xn xo xh xd false g0 g1 g2 _ _ k1).mono ?_
    rintro e w' ⟨rfl, hb⟩
    obtain ⟨y, rfl⟩ := over2 hb
    clear hb
    go_wp2_with fail
    rw [rounds_succ]
    go_wp2_with fail
    go_at_call 12
    refine (reply_c cp xn xo xh xd true d0 d1 d2 _ _ h2).mono ?_
    rintro e w' ⟨rfl, hb⟩
    obtain ⟨x2, rfl⟩ := over2 hb
    clear hb
    go_wp2_with fail
    go_at_call 12
    refine (reply_c cp xn xo xh xd true g0 g1 g2 _ _ k2).mono ?_
    rintro e w' ⟨rfl, hb⟩
    obtain ⟨y2, rfl⟩ := over2 hb
    clear hb
    go_wp2_with fail
    rw [rounds_succ]
    go_wp2_with fail
    go_at_call 10
    refine (targets_c n bl tt cs cy cc cu ct cp 0 d0 d1 d2 _ L hL 0 hN).mono ?_
    rintro e w' ⟨ao, cap, rfl, ⟨b, hV⟩, hb⟩
    obtain ⟨x3, rfl⟩ := over2 hb
    clear hb
    replace hV := hide hV
    go_wp2_with fail
    go_at_call 10
    refine (targets_c n bl tt cs cy cc cu ct cp 0 g0 g1 g2 _ L hM 0 hN).mono ?_
    rintro e w' ⟨ao', cap', rfl, ⟨b', hV'⟩, hb⟩
    have hV2 := hV.out.below hb
    obtain ⟨x4, rfl⟩ := over2 hb
    clear hb hV
    replace hV' := hide hV'
    replace hV2 := hide hV2
    go_wp2_with fail
    go_at_call 9
    refine (ints_c _ _ _ _ L L _ hV2.out hV'.out).mono ?_
    simp only [decide_true]
    rintro e w' ⟨rfl, m, rfl⟩
    go_wp2_with fail
    go_ret
    refine ⟨by first | rfl | simp [*], ?_⟩
    rw [hs.out]
    exact hB.out.trans (belowN (x4.below.mono (by exact hz.out)) _)
end Go.Proofs.Ytipamgncalcaiaa
