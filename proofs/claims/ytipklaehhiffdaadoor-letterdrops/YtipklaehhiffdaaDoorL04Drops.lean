/- The walk of LetterDrops: it returns true; no old memory turns. -/
import Derived.Test.YtipklaehhiffdaaDoorLaw04
namespace Go.Proofs.YtipklaehhiffdaaDoor
open Go.ChangeShapes Go.WideShapes Go.ChangeAt Go.RowKit
set_option linter.unusedSimpArgs false
set_option linter.unusedVariables false

attribute [local go_sem, local simp] over_const setCell_drewN alloc_drewN Over.cell Over.frozen lt_s1 lt_s2 lt_s3 le_s0 le_s1 le_s2 le_s3 eq_s0 eq_s1 eq_s2 qe_s0

set_option maxHeartbeats 2000000 in
theorem LetterDrops_walk (n bl tt cs cy cc cu ct cp : Int) (lk la lb lq ls lw : Int) (lr : Bool) (xn : Int) (xo xh : Bool) (xd : Int) (w : World) (hT : Hid (Tab w)) : Calls Tryd.prog 5 #[.agg #[.int .i64 n, .int .i64 bl, .int .i64 tt, .int .i64 cs, .int .i64 cy, .int .i64 cc, .int .i64 cu, .int .i64 ct, .int .i64 cp], .agg #[.int .i64 lk, .int .i64 la, .int .i64 lb, .int .i64 lq, .int .i64 ls, .int .i64 lw, .bool lr, .int .i64 xn, .bool xo, .bool xh, .int .i64 xd]] w fun e w' => e = .returned (.bool true) ∧ Below w.heap.size w w' := by
  obtain ⟨z, hz⟩ : ∃ z, Hid (letterZ n bl tt ⟨lk, la, lb, lq, ls, lw, lr, ⟨xn, xo, xh, xd⟩⟩ = z) := ⟨_, rfl⟩
  obtain ⟨q, hq⟩ : ∃ q, Hid (decide (lk = 2) = q) := ⟨_, rfl⟩
  have K : (q = false ∧ ¬ lk = 2) ∨ (q = true ∧ lk = 2 ∧ ¬ z = 0) ∨ (q = true ∧ lk = 2 ∧ z = 0 ∧ noneB ⟨xn, xo, xh, xd⟩ = true) := by
    have h1 := unhide hq
    cases q
    · exact .inl ⟨rfl, by simpa using h1⟩
    · have h2 : lk = 2 := by simpa using h1
      by_cases h0 : z = 0
      · exact .inr (.inr ⟨rfl, h2, h0, drops_math (l := ⟨lk, la, lb, lq, ls, lw, lr, ⟨xn, xo, xh, xd⟩⟩) ((unhide hz).trans h0) h2⟩)
      · exact .inr (.inl ⟨rfl, h2, h0⟩)
  rcases K with ⟨rfl, c⟩ | ⟨rfl, rfl, c⟩ | ⟨rfl, rfl, rfl, c⟩
  case' inl => have c' : (lk == 2) = false := by simpa using c
  case' inr.inl => have c' : (z == 0) = false := by simpa using c
  case' inr.inr => obtain ⟨rfl, rfl, rfl, rfl⟩ := none_eq c
  all_goals
    go_enter Tryd.func5, Tryd.ntmps5
    go_wp2_with (first | (go_at_call 14; refine (drops_c _ _ _ _ _ _ _ _ _ _ _ _ _ hq).mono ?_; rintro e w' ⟨rfl, hb⟩; obtain ⟨x, rfl⟩ := over hb; clear hb; have f0 := x.up (b := w.heap.size) (by first | omega | (simp only [World.size_alloc]; omega)); have f1 := x.up (b := w.heap.size + 1) (by first | omega | (simp only [World.size_alloc]; omega)); have hT1 := hide ((((unhide hT).alloc _).alloc _).over x)) | (go_at_call 9; refine (awake4_any _ hT1).mono ?_; rintro e w' ⟨rfl, hb⟩; obtain ⟨y, rfl⟩ := over hb; clear hb; have g0 := y.up (b := w.heap.size) (by first | omega | (simp only [World.size_alloc]; omega)); have g1 := y.up (b := w.heap.size + 1) (by first | omega | (simp only [World.size_alloc]; omega)); have hT2 := hide ((unhide hT1).over y)) | (go_at_call 12; refine (check_c _ _ _ _ _ _ _ _ _ _ _ _ _ _ _ _ _ _ _ _ _ hT2 _ hz).mono ?_; rintro e w' ⟨rfl, hb⟩; obtain ⟨u, rfl⟩ := over hb; clear hb; have k0 := u.up (b := w.heap.size) (by first | omega | (simp only [World.size_alloc]; omega)); have k1 := u.up (b := w.heap.size + 1) (by first | omega | (simp only [World.size_alloc]; omega))))
    go_ret
    refine ⟨by first | rfl | (simp [c]; done), ?_⟩
    have s1 := x.below.size
    have s2 := y.below.size
    simp only [World.size_alloc] at s1
    repeat' first | with_reducible exact Below.refl _ _ | with_reducible refine Below.setCell ?_ ?_ _ | with_reducible refine Below.alloc ?_ ?_ _ | with_reducible refine Below.drew ?_ | with_reducible refine belowN ?_ _ | with_reducible refine Over.go _ ?_ ?_ | with_reducible exact Nat.le_refl _ | with_reducible refine Over.sz _ _ ?_ | with_reducible refine le_alloc ?_ | with_reducible refine le_setCell ?_ | with_reducible refine le_drewN ?_ | with_reducible refine le_drew ?_ | omega | (dsimp only; omega)
end Go.Proofs.YtipklaehhiffdaaDoor
