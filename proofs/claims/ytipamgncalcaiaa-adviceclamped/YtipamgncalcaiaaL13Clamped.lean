/- The walk of AdviceClamped (layer 13). -/
import Derived.Test.YtipamgncalcaiaaLaw13
import Derived.Test.YtipamgncalcaiaaBunC
import Derived.Test.YtipamgncalcaiaaRef02
import Derived.Test.YtipamgncalcaiaaBunMath2
namespace Go.Proofs.Ytipamgncalcaiaa
open Go.ChangeShapes Go.WideShapes Go.ChangeAt Go.RowKit
set_option linter.unusedSimpArgs false
set_option linter.unusedVariables false
set_option maxRecDepth 10000

attribute [local go_sem, local simp] over_const setCell_drewN alloc_drewN Over.cell Over.frozen lt_s1 lt_s2 lt_s3 le_s0 le_s1 le_s2 le_s3 eq_s0 eq_s1 eq_s2 qe_s0

/-- What is given, and left, of tokens that may be, whatever is advised. -/
theorem split13 {n : Int} {o h : Bool} {d : Int} (ok : okB ⟨n, o, h, d⟩) (c : Int) (a v : Bool) : ∃ (rn : Int) (ro rh : Bool) (rd sn : Int) (so sh : Bool) (sd : Int),
    Hid (givenB ⟨n, o, h, d⟩ c a v = ⟨rn, ro, rh, rd⟩) ∧ Hid (restB ⟨n, o, h, d⟩ c a = ⟨sn, so, sh, sd⟩) ∧ rn + sn = n ∧ checkZ ⟨rn, ro, rh, rd⟩ n = 0 ∧ checkZ ⟨sn, so, sh, sd⟩ n = 0 ∧
    ((ro = true ∧ so = false ∧ o = true) ∨ (ro = false ∧ so = true ∧ o = true) ∨ (ro = false ∧ so = false ∧ o = false)) := by
  obtain ⟨⟨rn, ro, rh, rd⟩, hr⟩ : ∃ r, givenB ⟨n, o, h, d⟩ c a v = r := ⟨_, rfl⟩
  obtain ⟨⟨sn, so, sh, sd⟩, hs⟩ : ∃ r, restB ⟨n, o, h, d⟩ c a = r := ⟨_, rfl⟩
  obtain ⟨p0, p1, p2, p3, p4, p5, p6, p7, -⟩ := parts_math n o h d c a v ok _ _ hr hs
  have k1 : checkZ ⟨rn, ro, rh, rd⟩ n = 0 := check_of_ok _ _ p3 (by simp at *; omega)
  have k2 : checkZ ⟨sn, so, sh, sd⟩ n = 0 := check_of_ok _ _ p4 (by simp at *; omega)
  refine ⟨rn, ro, rh, rd, sn, so, sh, sd, hr, hs, p2, k1, k2, ?_⟩
  simp only at p5 p6 p7
  cases ro <;> cases so <;> simp_all


set_option maxHeartbeats 4000000 in
theorem AdviceClamped_walk (p n : Int) (o h : Bool) (d d0 d1 d2 : Int) (w : World) (hn2 : n ≤ 9223372036854775807) : Calls Try.prog 5 #[.int .i64 p, .agg #[.int .i64 n, .bool o, .bool h, .int .i64 d], .agg #[.int .i64 d0, .int .i64 d1, .int .i64 d2]] w fun e w' => e = .returned (.bool true) ∧ Below w.heap.size w w' := by
  obtain ⟨M, hM⟩ : ∃ M : Int, (if n < 0 then 0 else n) = M := ⟨_, rfl⟩
  obtain ⟨q, hq⟩ : ∃ q : Bool, (checkZ ⟨n, o, h, d⟩ M == 0) = q := ⟨_, rfl⟩
  cases q
  · go_enter Try.func5, Try.ntmps5
    go_wp2_with fail
    go_at_call 8
    refine (awake13_any _).mono ?_
    rintro e w' ⟨rfl, hb⟩
    obtain ⟨x, rfl⟩ := over hb
    clear hb
    go_wp2_with fail
    go_at_call 14
    refine (refRight_any _ _ _ _ _ _).mono ?_
    rw [hq]
    rintro e w' ⟨rfl, hb⟩
    obtain ⟨y, rfl⟩ := over2 hb
    clear hb
    go_wp2_with fail
    go_at_call 8
    refine (awake13_any _).mono ?_
    rintro e w' ⟨rfl, hb⟩
    obtain ⟨z, rfl⟩ := over2 hb
    clear hb
    go_wp2_with fail
    go_ret
    refine ⟨rfl, ?_⟩
    repeat' first | with_reducible exact Below.refl _ _ | with_reducible refine Below.setCell ?_ ?_ _ | with_reducible refine Below.alloc ?_ ?_ _ | with_reducible refine Below.drew ?_ | with_reducible refine belowN ?_ _ | with_reducible refine Over.go _ ?_ ?_ | with_reducible exact Nat.le_refl _ | with_reducible refine Over.sz _ _ ?_ | with_reducible refine le_alloc ?_ | with_reducible refine le_setCell ?_ | with_reducible refine le_drewN ?_ | with_reducible refine le_drew ?_ | omega | (dsimp only; omega)
  have ok : okB ⟨n, o, h, d⟩ := okB_of _ M (by simpa using hq)
  have hn0 : 0 ≤ n := ok.1
  obtain rfl : M = n := by rw [← hM]; split; omega; rfl
  go_enter Try.func5, Try.ntmps5
  go_wp2_with fail
  go_at_call 8
  refine (awake13_any _).mono ?_
  rintro e w' ⟨rfl, hb⟩
  obtain ⟨x, rfl⟩ := over hb
  clear hb
  go_wp2_with fail
  go_at_call 14
  refine (refRight_any _ _ _ _ _ _).mono ?_
  rw [hq]
  rintro e w' ⟨rfl, hb⟩
  obtain ⟨y, rfl⟩ := over2 hb
  clear hb
  go_wp2_with fail
  refine name_world ?_
  intro W hW
  obtain ⟨s, hs⟩ : ∃ s, w.heap.size = s := ⟨_, rfl⟩
  obtain ⟨t, ht⟩ : ∃ t, y.w.heap.size = t := ⟨_, rfl⟩
  have u0 := y.up (b := w.heap.size) (by first | omega | (simp only [World.size_alloc]; omega) | (simp; done) | (simp; omega))
  have u1 := y.up (b := w.heap.size + 1) (by first | omega | (simp only [World.size_alloc]; omega) | (simp; done) | (simp; omega))
  have hB : Below s w W := by
    rw [← hW, ← hs]
    repeat' first | with_reducible exact Below.refl _ _ | with_reducible refine Below.setCell ?_ ?_ _ | with_reducible refine Below.alloc ?_ ?_ _ | with_reducible refine Below.drew ?_ | with_reducible refine belowN ?_ _ | with_reducible refine Over.go _ ?_ ?_ | with_reducible exact Nat.le_refl _ | with_reducible refine Over.sz _ _ ?_ | with_reducible refine le_alloc ?_ | with_reducible refine le_setCell ?_ | with_reducible refine le_drewN ?_ | with_reducible refine le_drew ?_ | omega | (dsimp only; omega)
  replace hB := hide hB
  have hz : W.heap.size = t + 1 := by rw [← hW, ← ht]; simp
  have q0 : W.cell? ⟨s, 0, none⟩ = some (.int .i64 M) := by rw [← hW, ← hs]; simp [go_sem, u0, u1]
  have q1 : W.cell? ⟨s, 1, none⟩ = some (.bool o) := by rw [← hW, ← hs]; simp [go_sem, u0, u1]
  have q2 : W.cell? ⟨s, 2, none⟩ = some (.bool h) := by rw [← hW, ← hs]; simp [go_sem, u0, u1]
  have q3 : W.cell? ⟨s, 3, none⟩ = some (.int .i64 d) := by rw [← hW, ← hs]; simp [go_sem, u0, u1]
  have r0 : W.cell? ⟨s + 1, 0, none⟩ = some (.int .i64 d0) := by rw [← hW, ← hs]; simp [go_sem, u0, u1]
  have r1 : W.cell? ⟨s + 1, 1, none⟩ = some (.int .i64 d1) := by rw [← hW, ← hs]; simp [go_sem, u0, u1]
  have r2 : W.cell? ⟨s + 1, 2, none⟩ = some (.int .i64 d2) := by rw [← hW, ← hs]; simp [go_sem, u0, u1]
  have l0 : W.cell? ⟨t, 0, none⟩ = some (.bool false) := by rw [← hW, ← ht]; simp [go_sem]
  have l1 : W.cell? ⟨t, 1, none⟩ = some (.bool true) := by rw [← hW, ← ht]; simp [go_sem]
  rw [hs, ht]
  clear hW
  rw [hs] at u0 u1
  rw [ht] at u0 u1
  have z0 : s < W.heap.size := by omega
  have z1 : s + 1 < W.heap.size := by omega
  have z3 : t < W.heap.size := by omega
  clear ht hM hq
  replace hs := hide hs
  replace u0 : Hid (s < t) := u0
  replace u1 : Hid (s + 1 < t) := u1
  replace hz : Hid (s ≤ W.heap.size) := hide (by omega)
  go_loopw [27] (fun i wr => ∃ (j : Int) (x : Over W), wr = x.w ∧ (j = 0 ∨ j = 1 ∨ j = 2) ∧ i = .int .i64 j) (fun i _ => (2 - intOf i).toNat)
  case atStart => exact ⟨0, ⟨W, Below.refl _ _⟩, rfl, by omega, rfl⟩
  case round =>
    obtain ⟨j, x, rfl, hj, rfl⟩ := hrel
    rcases hj with rfl | rfl | rfl
    · obtain ⟨r, hr⟩ : ∃ r, Hid (repZ p M o false d0 d1 = r) := ⟨_, rfl⟩
      obtain ⟨rn, ro, rh, rd, sn, so, sh, sd, hg, hs2, hsum, k1, k2, hown⟩ := split13 ok r.n r.o r.v
      replace k1 := hide k1
      replace k2 := hide k2
      rcases hown with ⟨rfl, rfl, rfl⟩ | ⟨rfl, rfl, rfl⟩ | ⟨rfl, rfl, rfl⟩
      all_goals
        go_wp2_with fail
        go_at_call 12
        refine (reply_c p M _ h d false d0 d1 d2 _ _ hr).mono ?_
        rintro e w' ⟨rfl, hb⟩
        obtain ⟨y, rfl⟩ := over2 hb
        clear hb
        go_wp2_with fail
        go_at_call 15
        refine (split_c M _ h d r.n r.o r.v _ hn2 ok _ _ hg hs2).mono ?_
        rintro e w' ⟨rfl, hb⟩
        obtain ⟨z, rfl⟩ := over2 hb
        clear hb
        have f0 := z.up (b := s) (by first | omega | (simp only [World.size_alloc]; omega) | (simp; done) | (simp; omega))
        have f1 := z.up (b := s + 1) (by first | omega | (simp only [World.size_alloc]; omega) | (simp; done) | (simp; omega))
        have f2 := z.up (b := t) (by first | omega | (simp only [World.size_alloc]; omega) | (simp; done) | (simp; omega))
        go_wp2_with fail
        go_at_call 16
        refine (check_any _ _ _ _ _ _).mono ?_
        rw [k1.out]
        rintro e w' ⟨rfl, hb⟩
        obtain ⟨u, rfl⟩ := over hb
        clear hb
        have g0 := u.up (b := s) (by first | omega | (simp only [World.size_alloc]; omega) | (simp; done) | (simp; omega))
        have g1 := u.up (b := z.w.heap.size) (by first | omega | (simp only [World.size_alloc]; omega) | (simp; done) | (simp; omega))
        have g2 := u.up (b := z.w.heap.size + 1) (by first | omega | (simp only [World.size_alloc]; omega) | (simp; done) | (simp; omega))
        go_wp2_with fail
        go_at_call 16
        refine (check_any _ _ _ _ _ _).mono ?_
        rw [k2.out]
        rintro e w' ⟨rfl, hb⟩
        obtain ⟨q, rfl⟩ := over2 hb
        clear hb
        go_wp2_with fail
        go_roundw
        case rel =>
          have hbq : Below W.heap.size W q.w := by
            repeat' first | with_reducible exact Below.refl _ _ | with_reducible refine Below.setCell ?_ ?_ _ | with_reducible refine Below.alloc ?_ ?_ _ | with_reducible refine Below.drew ?_ | with_reducible refine belowN ?_ _ | with_reducible refine Over.go _ ?_ ?_ | with_reducible exact Nat.le_refl _ | with_reducible refine Over.sz _ _ ?_ | with_reducible refine le_alloc ?_ | with_reducible refine le_setCell ?_ | with_reducible refine le_drewN ?_ | with_reducible refine le_drew ?_ | omega | (dsimp only; omega)
          exact ⟨1, ⟨q.w, hbq⟩, rfl, by omega, by simp⟩
        case measure => simp [intOf]
    · obtain ⟨r, hr⟩ : ∃ r, Hid (repZ p M o true d0 d1 = r) := ⟨_, rfl⟩
      obtain ⟨rn, ro, rh, rd, sn, so, sh, sd, hg, hs2, hsum, k1, k2, hown⟩ := split13 ok r.n r.o r.v
      replace k1 := hide k1
      replace k2 := hide k2
      rcases hown with ⟨rfl, rfl, rfl⟩ | ⟨rfl, rfl, rfl⟩ | ⟨rfl, rfl, rfl⟩
      all_goals
        go_wp2_with fail
        go_at_call 12
        refine (reply_c p M _ h d true d0 d1 d2 _ _ hr).mono ?_
        rintro e w' ⟨rfl, hb⟩
        obtain ⟨y, rfl⟩ := over2 hb
        clear hb
        go_wp2_with fail
        go_at_call 15
        refine (split_c M _ h d r.n r.o r.v _ hn2 ok _ _ hg hs2).mono ?_
        rintro e w' ⟨rfl, hb⟩
        obtain ⟨z, rfl⟩ := over2 hb
        clear hb
        have f0 := z.up (b := s) (by first | omega | (simp only [World.size_alloc]; omega) | (simp; done) | (simp; omega))
        have f1 := z.up (b := s + 1) (by first | omega | (simp only [World.size_alloc]; omega) | (simp; done) | (simp; omega))
        have f2 := z.up (b := t) (by first | omega | (simp only [World.size_alloc]; omega) | (simp; done) | (simp; omega))
        go_wp2_with fail
        go_at_call 16
        refine (check_any _ _ _ _ _ _).mono ?_
        rw [k1.out]
        rintro e w' ⟨rfl, hb⟩
        obtain ⟨u, rfl⟩ := over hb
        clear hb
        have g0 := u.up (b := s) (by first | omega | (simp only [World.size_alloc]; omega) | (simp; done) | (simp; omega))
        have g1 := u.up (b := z.w.heap.size) (by first | omega | (simp only [World.size_alloc]; omega) | (simp; done) | (simp; omega))
        have g2 := u.up (b := z.w.heap.size + 1) (by first | omega | (simp only [World.size_alloc]; omega) | (simp; done) | (simp; omega))
        go_wp2_with fail
        go_at_call 16
        refine (check_any _ _ _ _ _ _).mono ?_
        rw [k2.out]
        rintro e w' ⟨rfl, hb⟩
        obtain ⟨q, rfl⟩ := over2 hb
        clear hb
        go_wp2_with fail
        go_roundw
        case rel =>
          have hbq : Below W.heap.size W q.w := by
            repeat' first | with_reducible exact Below.refl _ _ | with_reducible refine Below.setCell ?_ ?_ _ | with_reducible refine Below.alloc ?_ ?_ _ | with_reducible refine Below.drew ?_ | with_reducible refine belowN ?_ _ | with_reducible refine Over.go _ ?_ ?_ | with_reducible exact Nat.le_refl _ | with_reducible refine Over.sz _ _ ?_ | with_reducible refine le_alloc ?_ | with_reducible refine le_setCell ?_ | with_reducible refine le_drewN ?_ | with_reducible refine le_drew ?_ | omega | (dsimp only; omega)
          exact ⟨2, ⟨q.w, hbq⟩, rfl, by omega, by simp⟩
        case measure => simp [intOf]
    · go_wp2_with fail
      go_ret
      refine ⟨rfl, ?_⟩
      rw [hs.out]
      exact hB.out.trans (x.below.mono hz.out)
end Go.Proofs.Ytipamgncalcaiaa
