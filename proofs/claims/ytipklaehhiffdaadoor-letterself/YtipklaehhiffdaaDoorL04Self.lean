/- The walk of LetterSelf: it returns true; no old memory turns. -/
import Derived.Test.YtipklaehhiffdaaDoorLaw04
import Derived.Test.YtipklaehhiffdaaDoorRef04
namespace Go.Proofs.YtipklaehhiffdaaDoor
open Go.ChangeShapes Go.WideShapes Go.ChangeAt Go.RowKit
set_option linter.unusedSimpArgs false
set_option linter.unusedVariables false

attribute [local go_sem, local simp] over_const setCell_drewN alloc_drewN Over.cell Over.frozen lt_s1 lt_s2 lt_s3 le_s0 le_s1 le_s2 le_s3 eq_s0 eq_s1 eq_s2 qe_s0

set_option maxHeartbeats 2000000 in
theorem LetterSelf_walk (n bl tt cs cy cc cu ct cp : Int) (lk la lb lq ls lw : Int) (lr : Bool) (xn : Int) (xo xh : Bool) (xd : Int) (w : World) (hT : Hid (Tab w)) : Calls Tryd.prog 8 #[.agg #[.int .i64 n, .int .i64 bl, .int .i64 tt, .int .i64 cs, .int .i64 cy, .int .i64 cc, .int .i64 cu, .int .i64 ct, .int .i64 cp], .agg #[.int .i64 lk, .int .i64 la, .int .i64 lb, .int .i64 lq, .int .i64 ls, .int .i64 lw, .bool lr, .int .i64 xn, .bool xo, .bool xh, .int .i64 xd]] w fun e w' => e = .returned (.bool true) ∧ Below w.heap.size w w' := by
  obtain ⟨z, hz⟩ : ∃ z, Hid (letterZ n bl tt ⟨lk, la, lb, lq, ls, lw, lr, ⟨xn, xo, xh, xd⟩⟩ = z) := ⟨_, rfl⟩
  by_cases c : z = 0
  · subst c
    obtain ⟨h1, ha, hb', h2⟩ := self_math (unhide hz)
    dsimp only at h1 ha hb' h2
    replace ha := hide ha
    replace hb' := hide hb'
    have h1' : (la == lb) = false := by simpa using h1
    rcases (show (lk = 1 ∧ 0 < xn) ∨ (¬ lk = 1 ∧ xn ≤ 0) by omega) with ⟨rfl, h3⟩ | ⟨h4, h3⟩
    case' inr => have h4' : (lk == 1) = false := by simpa using h4
    all_goals
      clear h2
      go_enter Tryd.func8, Tryd.ntmps8
      go_wp2_with (first | (go_at_call 9; refine (awake4_any _ (hide (((unhide hT).alloc _).alloc _))).mono ?_; rintro e w' ⟨rfl, hb⟩; obtain ⟨x, rfl⟩ := over hb; clear hb; have f0 := x.up (b := w.heap.size) (by first | omega | (simp only [World.size_alloc]; omega)); have f1 := x.up (b := w.heap.size + 1) (by first | omega | (simp only [World.size_alloc]; omega)); have hT1 := hide ((((unhide hT).alloc _).alloc _).over x)) | (go_at_call 12; refine (check_c _ _ _ _ _ _ _ _ _ _ _ _ _ _ _ _ _ _ _ _ _ hT1 _ hz).mono ?_; rintro e w' ⟨rfl, hb⟩; obtain ⟨y, rfl⟩ := over hb; clear hb; have g0 := y.up (b := w.heap.size) (by first | omega | (simp only [World.size_alloc]; omega)); have g1 := y.up (b := w.heap.size + 1) (by first | omega | (simp only [World.size_alloc]; omega))) | (go_at_call 17; with_reducible refine (refAny_c _ _ _ _ _ _ _ _ _ la _ _ ha).mono ?_; rintro e w' ⟨rfl, hb⟩; obtain ⟨u, rfl⟩ := over hb; clear hb; have k0 := u.up (b := w.heap.size) (by first | omega | (simp only [World.size_alloc]; omega)); have k1 := u.up (b := w.heap.size + 1) (by first | omega | (simp only [World.size_alloc]; omega))) | (go_at_call 17; with_reducible refine (refAny_c _ _ _ _ _ _ _ _ _ lb _ _ hb').mono ?_; rintro e w' ⟨rfl, hb⟩; obtain ⟨v, rfl⟩ := over hb; clear hb; have m0 := v.up (b := w.heap.size) (by first | omega | (simp only [World.size_alloc]; omega)); have m1 := v.up (b := w.heap.size + 1) (by first | omega | (simp only [World.size_alloc]; omega))))
      go_ret
      refine ⟨by first | rfl | (simp [*]; done), ?_⟩
      have s1 := x.below.size
      have s2 := y.below.size
      have s3 := u.below.size
      simp only [World.size_alloc] at s1
      repeat' first | with_reducible exact Below.refl _ _ | with_reducible refine Below.setCell ?_ ?_ _ | with_reducible refine Below.alloc ?_ ?_ _ | with_reducible refine Below.drew ?_ | with_reducible refine belowN ?_ _ | with_reducible refine Over.go _ ?_ ?_ | with_reducible exact Nat.le_refl _ | with_reducible refine Over.sz _ _ ?_ | with_reducible refine le_alloc ?_ | with_reducible refine le_setCell ?_ | with_reducible refine le_drewN ?_ | with_reducible refine le_drew ?_ | omega | (dsimp only; omega)
  · have c' : (z == 0) = false := by simpa using c
    go_enter Tryd.func8, Tryd.ntmps8
    go_wp2_with (first | (go_at_call 9; refine (awake4_any _ (hide (((unhide hT).alloc _).alloc _))).mono ?_; rintro e w' ⟨rfl, hb⟩; obtain ⟨x, rfl⟩ := over hb; clear hb; have f0 := x.up (b := w.heap.size) (by first | omega | (simp only [World.size_alloc]; omega)); have f1 := x.up (b := w.heap.size + 1) (by first | omega | (simp only [World.size_alloc]; omega)); have hT1 := hide ((((unhide hT).alloc _).alloc _).over x)) | (go_at_call 12; refine (check_c _ _ _ _ _ _ _ _ _ _ _ _ _ _ _ _ _ _ _ _ _ hT1 _ hz).mono ?_; rintro e w' ⟨rfl, hb⟩; obtain ⟨y, rfl⟩ := over hb; clear hb; have g0 := y.up (b := w.heap.size) (by first | omega | (simp only [World.size_alloc]; omega)); have g1 := y.up (b := w.heap.size + 1) (by first | omega | (simp only [World.size_alloc]; omega)); have hT2 := hide ((unhide hT1).over y)) | (go_at_call 9; refine (awake4_any _ hT2).mono ?_; rintro e w' ⟨rfl, hb⟩; obtain ⟨u, rfl⟩ := over hb; clear hb))
    go_ret
    refine ⟨rfl, ?_⟩
    have s1 := x.below.size
    have s2 := y.below.size
    simp only [World.size_alloc] at s1
    repeat' first | with_reducible exact Below.refl _ _ | with_reducible refine Below.setCell ?_ ?_ _ | with_reducible refine Below.alloc ?_ ?_ _ | with_reducible refine Below.drew ?_ | with_reducible refine belowN ?_ _ | with_reducible refine Over.go _ ?_ ?_ | with_reducible exact Nat.le_refl _ | with_reducible refine Over.sz _ _ ?_ | with_reducible refine le_alloc ?_ | with_reducible refine le_setCell ?_ | with_reducible refine le_drewN ?_ | with_reducible refine le_drew ?_ | omega | (dsimp only; omega)
end Go.Proofs.YtipklaehhiffdaaDoor
