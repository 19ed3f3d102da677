/- The walk of LetterMakes: it returns true; no old memory turns. -/
import Derived.Test.YtipklaehhiffdaaDoorLaw04
namespace Go.Proofs.YtipklaehhiffdaaDoor
open Go.ChangeShapes Go.WideShapes Go.ChangeAt Go.RowKit
set_option linter.unusedSimpArgs false
set_option linter.unusedVariables false

attribute [local go_sem, local simp] over_const setCell_drewN alloc_drewN Over.cell Over.frozen lt_s1 lt_s2 lt_s3 le_s0 le_s1 le_s2 le_s3 eq_s0 eq_s1 eq_s2 qe_s0

set_option maxHeartbeats 4000000 in
theorem LetterMakes_walk (k a q s h m : Int) (w : World) (hT : Hid (Tab w)) : Calls Tryd.prog 7 #[.int .i64 k, .agg #[.int .i64 a, .int .i64 q, .int .i64 s, .int .i64 h], .int .i64 m] w fun e w' => e = .returned (.bool true) ∧ Below w.heap.size w w' := by
  obtain ⟨N, hN⟩ : ∃ N : Nat, Hid ((min m 64).toNat = N) := ⟨_, rfl⟩
  have hb64 : N ≤ 64 := by have := unhide hN; omega
  rcases (show (m < 0 ∧ (N : Int) = 0) ∨ (0 ≤ m ∧ m ≤ 64 ∧ (N : Int) = m) ∨ (64 < m ∧ (N : Int) = 64) by have := unhide hN; omega) with c | c | c
  all_goals
    go_enter Tryd.func7, Tryd.ntmps7
    go_wp2_with fail
    go_at_call 16
    refine (spread_r k a q s h m _ N hN).mono ?_
    rintro e w' ⟨v, rfl, ⟨ao, cap, rfl, hcap, hmax, hr⟩, hb⟩
    obtain ⟨x, rfl⟩ := over hb
    clear hb
    have f0 := x.up (b := w.heap.size) (by first | omega | (simp only [World.size_alloc]; omega))
    have hT1 := hide (((unhide hT).alloc _).over x)
    replace hr := hide hr
    go_wp2_with (go_at_call 9; refine (awake4_any _ hT1).mono ?_; rintro e w' ⟨rfl, hb⟩; obtain ⟨y, rfl⟩ := over hb; clear hb; have f1 := y.up (b := w.heap.size) (by first | omega | (simp only [World.size_alloc]; omega)))
    clear hT hT1 hN
    go_loopw [33] (fun i wr => ∃ j : Nat, j ≤ N ∧ i = .int .i64 j ∧ ∃ o : Over y.w, wr = o.w) (fun i _ => N - (intOf i).toNat)
    case atStart => exact ⟨0, Nat.zero_le _, rfl, ⟨y.w, Below.refl _ _⟩, rfl⟩
    case round =>
      obtain ⟨j, hj, rfl, o, rfl⟩ := hrel
      have f2 := o.up (b := w.heap.size) (by first | omega | (simp only [World.size_alloc]; omega))
      by_cases hlt : j < N
      · have hN0 : 0 < N := by omega
        rcases unhide hr with hr | ⟨g, rfl, hg, hgs, hc⟩
        · omega
        have g1 := y.up (b := g) hgs
        have g2 := o.up (b := g) g1
        have d0 : o.w.cell? ⟨g, j * 11, none⟩ = some (.int .i64 k) := (o.cell _ _ g1).trans ((y.cell _ _ hgs).trans (hc j 0 hlt (by omega)))
        have d1 : o.w.cell? ⟨g, j * 11 + 1, none⟩ = some (.int .i64 a) := (o.cell _ _ g1).trans ((y.cell _ _ hgs).trans (hc j 1 hlt (by omega)))
        have d2 : o.w.cell? ⟨g, j * 11 + 2, none⟩ = some (.int .i64 j) := (o.cell _ _ g1).trans ((y.cell _ _ hgs).trans (hc j 2 hlt (by omega)))
        have d3 : o.w.cell? ⟨g, j * 11 + 3, none⟩ = some (.int .i64 q) := (o.cell _ _ g1).trans ((y.cell _ _ hgs).trans (hc j 3 hlt (by omega)))
        have d4 : o.w.cell? ⟨g, j * 11 + 4, none⟩ = some (.int .i64 s) := (o.cell _ _ g1).trans ((y.cell _ _ hgs).trans (hc j 4 hlt (by omega)))
        have d5 : o.w.cell? ⟨g, j * 11 + 5, none⟩ = some (.int .i64 h) := (o.cell _ _ g1).trans ((y.cell _ _ hgs).trans (hc j 5 hlt (by omega)))
        have d6 : o.w.cell? ⟨g, j * 11 + 6, none⟩ = some (.bool false) := (o.cell _ _ g1).trans ((y.cell _ _ hgs).trans (hc j 6 hlt (by omega)))
        have d7 : o.w.cell? ⟨g, j * 11 + 7, none⟩ = some (.int .i64 0) := (o.cell _ _ g1).trans ((y.cell _ _ hgs).trans (hc j 7 hlt (by omega)))
        have d8 : o.w.cell? ⟨g, j * 11 + 8, none⟩ = some (.bool false) := (o.cell _ _ g1).trans ((y.cell _ _ hgs).trans (hc j 8 hlt (by omega)))
        have d9 : o.w.cell? ⟨g, j * 11 + 9, none⟩ = some (.bool false) := (o.cell _ _ g1).trans ((y.cell _ _ hgs).trans (hc j 9 hlt (by omega)))
        have d10 : o.w.cell? ⟨g, j * 11 + 10, none⟩ = some (.int .i64 0) := (o.cell _ _ g1).trans ((y.cell _ _ hgs).trans (hc j 10 hlt (by omega)))
        clear hc hr hg
        go_wp2_with fail
        all_goals
          go_roundw
          case rel => exact ⟨j + 1, by omega, by simp, ⟨_, o.below.alloc o.below.size _⟩, rfl⟩
          case measure => simp [intOf]; omega
      · clear hr
        go_wp2_with fail
        go_ret
        refine ⟨rfl, ?_⟩
        have s1 := x.below.size
        have s2 := y.below.size
        simp only [World.size_alloc] at s1
        repeat' first | with_reducible exact Below.refl _ _ | with_reducible refine Below.setCell ?_ ?_ _ | with_reducible refine Below.alloc ?_ ?_ _ | with_reducible refine Below.drew ?_ | with_reducible refine belowN ?_ _ | with_reducible refine Over.go _ ?_ ?_ | with_reducible exact Nat.le_refl _ | with_reducible refine Over.sz _ _ ?_ | with_reducible refine le_alloc ?_ | with_reducible refine le_setCell ?_ | with_reducible refine le_drewN ?_ | with_reducible refine le_drew ?_ | omega | (dsimp only; omega)
end Go.Proofs.YtipklaehhiffdaaDoor
