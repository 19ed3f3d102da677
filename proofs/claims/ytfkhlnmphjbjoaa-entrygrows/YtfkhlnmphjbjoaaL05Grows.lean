/- The walk of EntryGrows: it returns true; no old memory turns. -/
import Derived.Test.YtfkhlnmphjbjoaaLaw05
namespace Go.Proofs.Ytfkhlnmphjbjoaa
open Go.ChangeShapes Go.WideShapes Go.ChangeAt Go.RowKit
set_option linter.unusedSimpArgs false
set_option linter.unusedVariables false

attribute [local go_sem, local simp] over_const setCell_drewN alloc_drewN Over.cell Over.frozen lt_s1 lt_s2 lt_s3 le_s0 le_s1 le_s2 le_s3 eq_s0 eq_s1 eq_s2 qe_s0

theorem legal_more (ek ea eb ec n bl n' bl' : Int) (hn : n ≤ n') (hb : bl ≤ bl') (h : legalB ek ea eb ec n bl = true) : legalB ek ea eb ec n' bl' = true := by
  simp [legalB] at *; omega

theorem legal_else (ek ea eb ec n bl n' bl' : Int) (h : ek ≠ 1) : legalB ek ea eb ec n' bl' = legalB ek ea eb ec n bl := by
  simp [legalB, h]

set_option maxHeartbeats 2000000 in
theorem EntryGrows_walk (n bl tt cs cy cc cu ct cp : Int) (m0 m1 : Int) (ek ea eb ec ed : Int) (w : World) : Calls Try.prog 7 #[.agg #[.int .i64 n, .int .i64 bl, .int .i64 tt, .int .i64 cs, .int .i64 cy, .int .i64 cc, .int .i64 cu, .int .i64 ct, .int .i64 cp], .agg #[.int .i64 m0, .int .i64 m1], .agg #[.int .i64 ek, .int .i64 ea, .int .i64 eb, .int .i64 ec, .int .i64 ed]] w fun e w' => e = .returned (.bool true) ∧ Below w.heap.size w w' := by
  obtain ⟨N, hN⟩ : ∃ N, (if n < m0 then m0 else n) = N := ⟨_, rfl⟩
  obtain ⟨B, hB⟩ : ∃ N, (if bl < m1 then m1 else bl) = N := ⟨_, rfl⟩
  obtain ⟨q, hq⟩ : ∃ q, Hid (legalB ek ea eb ec n bl = q) := ⟨_, rfl⟩
  obtain ⟨r, hr⟩ : ∃ q, Hid (legalB ek ea eb ec 0 0 = q) := ⟨_, rfl⟩
  obtain ⟨t, ht⟩ : ∃ q, Hid (legalB ek ea eb ec N B = q) := ⟨_, rfl⟩
  have hN' : n ≤ N := by split at hN <;> omega
  have hB' : bl ≤ B := by split at hB <;> omega
  have hqt : q = true → t = true := fun h => by have := legal_more ek ea eb ec n bl N B hN' hB' ((unhide hq).trans h); rw [unhide ht] at this; exact this
  have hqr : ek ≠ 1 → r = q := fun h => by rw [← unhide hq, ← unhide hr]; exact legal_else ek ea eb ec n bl 0 0 h
  clear hN' hB'
  by_cases k : ek = 1
  · subst k
    clear hqr
    cases q
    · clear hqt
      go_enter Try.func7, Try.ntmps7
      go_wp2_with fail
      go_region
      go_wp2_with (first | (go_at_call 9; with_reducible refine (legal_c _ _ _ _ _ _ _ _ _ _ _ _ _ _ _ _ hq).mono ?_; rintro e w' ⟨rfl, hb⟩; obtain ⟨x, rfl⟩ := overD hb; clear hb; have f0 := x.up (b := w.heap.size) (by first | omega | (simp only [World.size_alloc]; omega) | (simp; done) | (simp; omega)); have f1 := x.up (b := w.heap.size + 1 + 1) (by first | omega | (simp only [World.size_alloc]; omega) | (simp; done) | (simp; omega)); have f2 := x.up (b := w.heap.size + 1 + 1 + 1) (by first | omega | (simp only [World.size_alloc]; omega) | (simp; done) | (simp; omega))) | (go_at_call 8; refine (awake5_any _).mono ?_; rintro e w' ⟨rfl, hb⟩; obtain ⟨y, rfl⟩ := over2 hb; clear hb; have g0 := y.up (b := w.heap.size) (by first | omega | (simp only [World.size_alloc]; omega) | (simp; done) | (simp; omega)); have g1 := y.up (b := w.heap.size + 1 + 1) (by first | omega | (simp only [World.size_alloc]; omega) | (simp; done) | (simp; omega)); have g2 := y.up (b := w.heap.size + 1 + 1 + 1) (by first | omega | (simp only [World.size_alloc]; omega) | (simp; done) | (simp; omega))))
      go_ret
      refine ⟨by first | rfl | simp, ?_⟩
      have s1 := x.below.size
      have s2 := y.below.size
      repeat' first | with_reducible exact Below.refl _ _ | with_reducible refine Below.setCell ?_ ?_ _ | with_reducible refine Below.alloc ?_ ?_ _ | with_reducible refine Below.drew ?_ | with_reducible refine belowN ?_ _ | with_reducible refine Over.go _ ?_ ?_ | with_reducible exact Nat.le_refl _ | with_reducible refine Over.sz _ _ ?_ | with_reducible refine le_alloc ?_ | with_reducible refine le_setCell ?_ | with_reducible refine le_drewN ?_ | with_reducible refine le_drew ?_ | omega | (dsimp only; omega)
    · obtain rfl := hqt rfl
      clear hqt
      go_enter Try.func7, Try.ntmps7
      go_wp2_with fail
      go_region
      go_wp2_with (first | (go_at_call 9; with_reducible refine (legal_c _ _ _ _ _ _ _ _ _ _ _ _ _ _ _ _ hq).mono ?_; rintro e w' ⟨rfl, hb⟩; obtain ⟨x, rfl⟩ := overD hb; clear hb; have f0 := x.up (b := w.heap.size) (by first | omega | (simp only [World.size_alloc]; omega) | (simp; done) | (simp; omega)); have f1 := x.up (b := w.heap.size + 1 + 1) (by first | omega | (simp only [World.size_alloc]; omega) | (simp; done) | (simp; omega)); have f2 := x.up (b := w.heap.size + 1 + 1 + 1) (by first | omega | (simp only [World.size_alloc]; omega) | (simp; done) | (simp; omega))) | (go_at_call 8; refine (awake5_any _).mono ?_; rintro e w' ⟨rfl, hb⟩; obtain ⟨y, rfl⟩ := over2 hb; clear hb; have g0 := y.up (b := w.heap.size) (by first | omega | (simp only [World.size_alloc]; omega) | (simp; done) | (simp; omega)); have g1 := y.up (b := w.heap.size + 1 + 1) (by first | omega | (simp only [World.size_alloc]; omega) | (simp; done) | (simp; omega)); have g2 := y.up (b := w.heap.size + 1 + 1 + 1) (by first | omega | (simp only [World.size_alloc]; omega) | (simp; done) | (simp; omega))) | (go_at_call 9; with_reducible refine (legal_c _ _ _ _ _ _ _ _ _ _ _ _ _ _ _ _ ht).mono ?_; rintro e w' ⟨rfl, hb⟩; obtain ⟨z, rfl⟩ := over2 hb; clear hb; have k0 := z.up (b := w.heap.size) (by first | omega | (simp only [World.size_alloc]; omega) | (simp; done) | (simp; omega)); have k1 := z.up (b := w.heap.size + 1 + 1) (by first | omega | (simp only [World.size_alloc]; omega) | (simp; done) | (simp; omega)); have k2 := z.up (b := w.heap.size + 1 + 1 + 1) (by first | omega | (simp only [World.size_alloc]; omega) | (simp; done) | (simp; omega))))
      go_ret
      refine ⟨by first | rfl | simp, ?_⟩
      have s1 := x.below.size
      have s2 := y.below.size
      have s3 := z.below.size
      repeat' first | with_reducible exact Below.refl _ _ | with_reducible refine Below.setCell ?_ ?_ _ | with_reducible refine Below.alloc ?_ ?_ _ | with_reducible refine Below.drew ?_ | with_reducible refine belowN ?_ _ | with_reducible refine Over.go _ ?_ ?_ | with_reducible exact Nat.le_refl _ | with_reducible refine Over.sz _ _ ?_ | with_reducible refine le_alloc ?_ | with_reducible refine le_setCell ?_ | with_reducible refine le_drewN ?_ | with_reducible refine le_drew ?_ | omega | (dsimp only; omega)
  · obtain rfl := hqr k
    cases r
    · clear hqt hqr
      go_enter Try.func7, Try.ntmps7
      go_wp2_with fail
      go_region
      go_wp2_with (first | (go_at_call 9; with_reducible refine (legal_c _ _ _ _ _ _ _ _ _ _ _ _ _ _ _ _ hq).mono ?_; rintro e w' ⟨rfl, hb⟩; obtain ⟨x, rfl⟩ := overD hb; clear hb; have f0 := x.up (b := w.heap.size) (by first | omega | (simp only [World.size_alloc]; omega) | (simp; done) | (simp; omega)); have f1 := x.up (b := w.heap.size + 1 + 1) (by first | omega | (simp only [World.size_alloc]; omega) | (simp; done) | (simp; omega)); have f2 := x.up (b := w.heap.size + 1 + 1 + 1) (by first | omega | (simp only [World.size_alloc]; omega) | (simp; done) | (simp; omega))) | (go_at_call 8; refine (awake5_any _).mono ?_; rintro e w' ⟨rfl, hb⟩; obtain ⟨y, rfl⟩ := over2 hb; clear hb; have g0 := y.up (b := w.heap.size) (by first | omega | (simp only [World.size_alloc]; omega) | (simp; done) | (simp; omega)); have g1 := y.up (b := w.heap.size + 1 + 1) (by first | omega | (simp only [World.size_alloc]; omega) | (simp; done) | (simp; omega)); have g2 := y.up (b := w.heap.size + 1 + 1 + 1) (by first | omega | (simp only [World.size_alloc]; omega) | (simp; done) | (simp; omega))) | (go_at_call 9; with_reducible refine (legal_c _ _ _ _ _ _ _ _ _ _ _ _ _ _ _ _ hr).mono ?_; rintro e w' ⟨rfl, hb⟩; obtain ⟨z, rfl⟩ := over2 hb; clear hb; have k0 := z.up (b := w.heap.size) (by first | omega | (simp only [World.size_alloc]; omega) | (simp; done) | (simp; omega)); have k1 := z.up (b := w.heap.size + 1 + 1) (by first | omega | (simp only [World.size_alloc]; omega) | (simp; done) | (simp; omega)); have k2 := z.up (b := w.heap.size + 1 + 1 + 1) (by first | omega | (simp only [World.size_alloc]; omega) | (simp; done) | (simp; omega))))
      go_ret
      refine ⟨by first | rfl | simp, ?_⟩
      have s1 := x.below.size
      have s2 := y.below.size
      have s3 := z.below.size
      repeat' first | with_reducible exact Below.refl _ _ | with_reducible refine Below.setCell ?_ ?_ _ | with_reducible refine Below.alloc ?_ ?_ _ | with_reducible refine Below.drew ?_ | with_reducible refine belowN ?_ _ | with_reducible refine Over.go _ ?_ ?_ | with_reducible exact Nat.le_refl _ | with_reducible refine Over.sz _ _ ?_ | with_reducible refine le_alloc ?_ | with_reducible refine le_setCell ?_ | with_reducible refine le_drewN ?_ | with_reducible refine le_drew ?_ | omega | (dsimp only; omega)
    · obtain rfl := hqt rfl
      clear hqt hqr
      go_enter Try.func7, Try.ntmps7
      go_wp2_with fail
      go_region
      go_wp2_with (first | (go_at_call 9; with_reducible refine (legal_c _ _ _ _ _ _ _ _ _ _ _ _ _ _ _ _ hq).mono ?_; rintro e w' ⟨rfl, hb⟩; obtain ⟨x, rfl⟩ := overD hb; clear hb; have f0 := x.up (b := w.heap.size) (by first | omega | (simp only [World.size_alloc]; omega) | (simp; done) | (simp; omega)); have f1 := x.up (b := w.heap.size + 1 + 1) (by first | omega | (simp only [World.size_alloc]; omega) | (simp; done) | (simp; omega)); have f2 := x.up (b := w.heap.size + 1 + 1 + 1) (by first | omega | (simp only [World.size_alloc]; omega) | (simp; done) | (simp; omega))) | (go_at_call 8; refine (awake5_any _).mono ?_; rintro e w' ⟨rfl, hb⟩; obtain ⟨y, rfl⟩ := over2 hb; clear hb; have g0 := y.up (b := w.heap.size) (by first | omega | (simp only [World.size_alloc]; omega) | (simp; done) | (simp; omega)); have g1 := y.up (b := w.heap.size + 1 + 1) (by first | omega | (simp only [World.size_alloc]; omega) | (simp; done) | (simp; omega)); have g2 := y.up (b := w.heap.size + 1 + 1 + 1) (by first | omega | (simp only [World.size_alloc]; omega) | (simp; done) | (simp; omega))) | (go_at_call 9; with_reducible refine (legal_c _ _ _ _ _ _ _ _ _ _ _ _ _ _ _ _ ht).mono ?_; rintro e w' ⟨rfl, hb⟩; obtain ⟨z, rfl⟩ := over2 hb; clear hb; have k0 := z.up (b := w.heap.size) (by first | omega | (simp only [World.size_alloc]; omega) | (simp; done) | (simp; omega)); have k1 := z.up (b := w.heap.size + 1 + 1) (by first | omega | (simp only [World.size_alloc]; omega) | (simp; done) | (simp; omega)); have k2 := z.up (b := w.heap.size + 1 + 1 + 1) (by first | omega | (simp only [World.size_alloc]; omega) | (simp; done) | (simp; omega))) | (go_at_call 9; with_reducible refine (legal_c _ _ _ _ _ _ _ _ _ _ _ _ _ _ _ _ hr).mono ?_; rintro e w' ⟨rfl, hb⟩; obtain ⟨u, rfl⟩ := over2 hb; clear hb; have l0 := u.up (b := w.heap.size) (by first | omega | (simp only [World.size_alloc]; omega) | (simp; done) | (simp; omega)); have l1 := u.up (b := w.heap.size + 1 + 1) (by first | omega | (simp only [World.size_alloc]; omega) | (simp; done) | (simp; omega)); have l2 := u.up (b := w.heap.size + 1 + 1 + 1) (by first | omega | (simp only [World.size_alloc]; omega) | (simp; done) | (simp; omega))))
      go_ret
      refine ⟨by first | rfl | simp, ?_⟩
      have s1 := x.below.size
      have s2 := y.below.size
      have s3 := z.below.size
      have s4 := u.below.size
      repeat' first | with_reducible exact Below.refl _ _ | with_reducible refine Below.setCell ?_ ?_ _ | with_reducible refine Below.alloc ?_ ?_ _ | with_reducible refine Below.drew ?_ | with_reducible refine belowN ?_ _ | with_reducible refine Over.go _ ?_ ?_ | with_reducible exact Nat.le_refl _ | with_reducible refine Over.sz _ _ ?_ | with_reducible refine le_alloc ?_ | with_reducible refine le_setCell ?_ | with_reducible refine le_drewN ?_ | with_reducible refine le_drew ?_ | omega | (dsimp only; omega)
end Go.Proofs.Ytfkhlnmphjbjoaa
