/- The contracts of package timer's calls (layer 7), and of the document's own answers for it (jetonref07): what each returns; no old memory turns. -/
import Derived.Test.YtmdioofpghbjbaaRef01
import Derived.Test.YtmdioofpghbjbaaTimMath
import Derived.Test.YtmdioofpghbjbaaOver
namespace Go.Proofs.Ytmdioofpghbjbaa
open Go.ChangeShapes Go.WideShapes Go.ChangeAt Go.RowKit
set_option linter.unusedSimpArgs false
set_option linter.unusedVariables false
set_option maxRecDepth 10000

attribute [local go_sem, local simp] over_const setCell_drewN alloc_drewN Over.cell Over.frozen lt_s1 lt_s2 lt_s3 le_s0 le_s1 le_s2 le_s3 eq_s0 eq_s1 eq_s2 qe_s0

theorem startT_c (a : Int) (w : World) (r : Int) (hr : Hid (max a 1 = r)) :
    Calls Try.prog 22 #[.int .i64 a] w fun e w' => e = .returned (.agg #[.int .i64 r, .int .i64 0, .bool false]) ∧ Below w.heap.size w w' := by
  have e : (if a < 1 then 1 else a) = r := by rw [← unhide hr]; split <;> omega
  clear hr
  go_enter Try.func22, Try.ntmps22
  go_wp2
  go_returns
  refine ⟨rfl, ?_⟩
  repeat' first | with_reducible exact Below.refl _ _ | with_reducible refine Below.setCell ?_ ?_ _ | with_reducible refine Below.alloc ?_ ?_ _ | with_reducible refine Below.drew ?_ | with_reducible refine belowN ?_ _ | with_reducible refine Over.go _ ?_ ?_ | with_reducible exact Nat.le_refl _ | with_reducible refine Over.sz _ _ ?_ | with_reducible refine le_alloc ?_ | with_reducible refine le_setCell ?_ | with_reducible refine le_drewN ?_ | with_reducible refine le_drew ?_ | omega | (dsimp only; omega)

theorem refStartT_c (a : Int) (w : World) (r : Int) (hr : Hid (max a 1 = r)) :
    Calls Try.prog 23 #[.int .i64 a] w fun e w' => e = .returned (.agg #[.int .i64 r, .int .i64 0, .bool false]) ∧ Below w.heap.size w w' := by
  have hr' := unhide hr
  clear hr
  by_cases c : a < 1
  · obtain rfl : r = 1 := by omega
    clear hr'
    go_enter Try.func23, Try.ntmps23
    go_wp2
    go_returns
    refine ⟨rfl, ?_⟩
    repeat' first | with_reducible exact Below.refl _ _ | with_reducible refine Below.setCell ?_ ?_ _ | with_reducible refine Below.alloc ?_ ?_ _ | with_reducible refine Below.drew ?_ | with_reducible refine belowN ?_ _ | with_reducible refine Over.go _ ?_ ?_ | with_reducible exact Nat.le_refl _ | with_reducible refine Over.sz _ _ ?_ | with_reducible refine le_alloc ?_ | with_reducible refine le_setCell ?_ | with_reducible refine le_drewN ?_ | with_reducible refine le_drew ?_ | omega | (dsimp only; omega)
  · obtain rfl : r = a := by omega
    clear hr'
    go_enter Try.func23, Try.ntmps23
    go_wp2
    go_returns
    refine ⟨rfl, ?_⟩
    repeat' first | with_reducible exact Below.refl _ _ | with_reducible refine Below.setCell ?_ ?_ _ | with_reducible refine Below.alloc ?_ ?_ _ | with_reducible refine Below.drew ?_ | with_reducible refine belowN ?_ _ | with_reducible refine Over.go _ ?_ ?_ | with_reducible exact Nat.le_refl _ | with_reducible refine Over.sz _ _ ?_ | with_reducible refine le_alloc ?_ | with_reducible refine le_setCell ?_ | with_reducible refine le_drewN ?_ | with_reducible refine le_drew ?_ | omega | (dsimp only; omega)

set_option maxHeartbeats 1000000 in
theorem tick_c (l t : Int) (o : Bool) (wa tr : Int) (w : World) (b1 : l ≤ 9223372036854775807) (b2 : -9223372036854775808 ≤ t) (b3 : wa ≤ 9223372036854775807) (b4 : tr ≤ 9223372036854775807) (r : Tk) (hr : Hid (tickT l t o wa tr = r)) :
    Calls Try.prog 24 #[.agg #[.int .i64 l, .int .i64 t, .bool o], .int .i64 wa, .int .i64 tr] w fun e w' => e = .returned (.tuple #[.agg #[.int .i64 r.l, .int .i64 r.t, .bool r.o], .int .i64 r.n]) ∧ Below w.heap.size w w' := by
  have hr' := unhide hr
  clear hr
  unfold tickT at hr'
  cases o
  · rw [if_neg (by simp)] at hr'
    by_cases c1 : 1 < l
    · rw [if_pos c1] at hr'
      subst hr'
      dsimp only
      go_enter Try.func24, Try.ntmps24
      go_wp2
      go_returns
      refine ⟨rfl, ?_⟩
      repeat' first | with_reducible exact Below.refl _ _ | with_reducible refine Below.setCell ?_ ?_ _ | with_reducible refine Below.alloc ?_ ?_ _ | with_reducible refine Below.drew ?_ | with_reducible refine belowN ?_ _ | with_reducible refine Over.go _ ?_ ?_ | with_reducible exact Nat.le_refl _ | with_reducible refine Over.sz _ _ ?_ | with_reducible refine le_alloc ?_ | with_reducible refine le_setCell ?_ | with_reducible refine le_drewN ?_ | with_reducible refine le_drew ?_ | omega | (dsimp only; omega)
    · rw [if_neg c1] at hr'
      by_cases c2 : t < tr
      · rw [if_pos c2] at hr'
        obtain ⟨d, hd⟩ : ∃ d, doubleZ wa (t + 1) 1048576 = d := ⟨_, rfl⟩
        obtain ⟨m, hm⟩ : ∃ m, (if d < 1 then 1 else d) = m := ⟨_, rfl⟩
        rw [hd, show max d 1 = m by rw [← hm]; split <;> omega] at hr'
        subst hr'
        dsimp only
        go_enter Try.func24, Try.ntmps24
        go_wp2_with (go_at_call 27; refine (numDouble_any _ _ _ _ (by omega) (by omega) (by omega)).mono ?_; rintro e w' ⟨rfl, rfl⟩)
        go_returns
        refine ⟨rfl, ?_⟩
        repeat' first | with_reducible exact Below.refl _ _ | with_reducible refine Below.setCell ?_ ?_ _ | with_reducible refine Below.alloc ?_ ?_ _ | with_reducible refine Below.drew ?_ | with_reducible refine belowN ?_ _ | with_reducible refine Over.go _ ?_ ?_ | with_reducible exact Nat.le_refl _ | with_reducible refine Over.sz _ _ ?_ | with_reducible refine le_alloc ?_ | with_reducible refine le_setCell ?_ | with_reducible refine le_drewN ?_ | with_reducible refine le_drew ?_ | omega | (dsimp only; omega)
      · rw [if_neg c2] at hr'
        subst hr'
        dsimp only
        go_enter Try.func24, Try.ntmps24
        go_wp2
        go_returns
        refine ⟨rfl, ?_⟩
        repeat' first | with_reducible exact Below.refl _ _ | with_reducible refine Below.setCell ?_ ?_ _ | with_reducible refine Below.alloc ?_ ?_ _ | with_reducible refine Below.drew ?_ | with_reducible refine belowN ?_ _ | with_reducible refine Over.go _ ?_ ?_ | with_reducible exact Nat.le_refl _ | with_reducible refine Over.sz _ _ ?_ | with_reducible refine le_alloc ?_ | with_reducible refine le_setCell ?_ | with_reducible refine le_drewN ?_ | with_reducible refine le_drew ?_ | omega | (dsimp only; omega)
  · rw [if_pos rfl] at hr'
    subst hr'
    dsimp only
    go_enter Try.func24, Try.ntmps24
    go_wp2
    go_returns
    refine ⟨rfl, ?_⟩
    repeat' first | with_reducible exact Below.refl _ _ | with_reducible refine Below.setCell ?_ ?_ _ | with_reducible refine Below.alloc ?_ ?_ _ | with_reducible refine Below.drew ?_ | with_reducible refine belowN ?_ _ | with_reducible refine Over.go _ ?_ ?_ | with_reducible exact Nat.le_refl _ | with_reducible refine Over.sz _ _ ?_ | with_reducible refine le_alloc ?_ | with_reducible refine le_setCell ?_ | with_reducible refine le_drewN ?_ | with_reducible refine le_drew ?_ | omega | (dsimp only; omega)

set_option maxHeartbeats 1000000 in
theorem refTick_c (l t : Int) (o : Bool) (wa tr : Int) (w : World) (b1 : l ≤ 9223372036854775807) (b2 : -9223372036854775808 ≤ t) (b3 : wa ≤ 9223372036854775807) (b4 : tr ≤ 9223372036854775807) (r : Tk) (hr : Hid (tickT l t o wa tr = r)) :
    Calls Try.prog 25 #[.agg #[.int .i64 l, .int .i64 t, .bool o], .int .i64 wa, .int .i64 tr] w fun e w' => e = .returned (.tuple #[.agg #[.int .i64 r.l, .int .i64 r.t, .bool r.o], .int .i64 r.n]) ∧ Below w.heap.size w w' := by
  have hr' := unhide hr
  clear hr
  unfold tickT at hr'
  cases o
  · rw [if_neg (by simp)] at hr'
    by_cases c1 : 1 < l
    · rw [if_pos c1] at hr'
      subst hr'
      dsimp only
      go_enter Try.func25, Try.ntmps25
      go_wp2
      go_returns
      refine ⟨rfl, ?_⟩
      repeat' first | with_reducible exact Below.refl _ _ | with_reducible refine Below.setCell ?_ ?_ _ | with_reducible refine Below.alloc ?_ ?_ _ | with_reducible refine Below.drew ?_ | with_reducible refine belowN ?_ _ | with_reducible refine Over.go _ ?_ ?_ | with_reducible exact Nat.le_refl _ | with_reducible refine Over.sz _ _ ?_ | with_reducible refine le_alloc ?_ | with_reducible refine le_setCell ?_ | with_reducible refine le_drewN ?_ | with_reducible refine le_drew ?_ | omega | (dsimp only; omega)
    · rw [if_neg c1] at hr'
      by_cases c2 : t < tr
      · rw [if_pos c2] at hr'
        obtain ⟨d, hd⟩ : ∃ d, doubleZ wa (t + 1) 1048576 = d := ⟨_, rfl⟩
        rw [hd] at hr'
        by_cases c3 : d < 1
        · rw [show max d 1 = 1 by omega] at hr'
          subst hr'
          dsimp only
          go_enter Try.func25, Try.ntmps25
          go_wp2_with (go_at_call 28; refine (refDouble_any _ _ _ _ (by omega) (by omega) (by omega)).mono ?_; rintro e w' ⟨rfl, rfl⟩)
          go_returns
          refine ⟨rfl, ?_⟩
          repeat' first | with_reducible exact Below.refl _ _ | with_reducible refine Below.setCell ?_ ?_ _ | with_reducible refine Below.alloc ?_ ?_ _ | with_reducible refine Below.drew ?_ | with_reducible refine belowN ?_ _ | with_reducible refine Over.go _ ?_ ?_ | with_reducible exact Nat.le_refl _ | with_reducible refine Over.sz _ _ ?_ | with_reducible refine le_alloc ?_ | with_reducible refine le_setCell ?_ | with_reducible refine le_drewN ?_ | with_reducible refine le_drew ?_ | omega | (dsimp only; omega)
        · rw [show max d 1 = d by omega] at hr'
          subst hr'
          dsimp only
          go_enter Try.func25, Try.ntmps25
          go_wp2_with (go_at_call 28; refine (refDouble_any _ _ _ _ (by omega) (by omega) (by omega)).mono ?_; rintro e w' ⟨rfl, rfl⟩)
          go_returns
          refine ⟨rfl, ?_⟩
          repeat' first | with_reducible exact Below.refl _ _ | with_reducible refine Below.setCell ?_ ?_ _ | with_reducible refine Below.alloc ?_ ?_ _ | with_reducible refine Below.drew ?_ | with_reducible refine belowN ?_ _ | with_reducible refine Over.go _ ?_ ?_ | with_reducible exact Nat.le_refl _ | with_reducible refine Over.sz _ _ ?_ | with_reducible refine le_alloc ?_ | with_reducible refine le_setCell ?_ | with_reducible refine le_drewN ?_ | with_reducible refine le_drew ?_ | omega | (dsimp only; omega)
      · rw [if_neg c2] at hr'
        subst hr'
        dsimp only
        go_enter Try.func25, Try.ntmps25
        go_wp2
        go_returns
        refine ⟨rfl, ?_⟩
        repeat' first | with_reducible exact Below.refl _ _ | with_reducible refine Below.setCell ?_ ?_ _ | with_reducible refine Below.alloc ?_ ?_ _ | with_reducible refine Below.drew ?_ | with_reducible refine belowN ?_ _ | with_reducible refine Over.go _ ?_ ?_ | with_reducible exact Nat.le_refl _ | with_reducible refine Over.sz _ _ ?_ | with_reducible refine le_alloc ?_ | with_reducible refine le_setCell ?_ | with_reducible refine le_drewN ?_ | with_reducible refine le_drew ?_ | omega | (dsimp only; omega)
  · rw [if_pos rfl] at hr'
    subst hr'
    dsimp only
    go_enter Try.func25, Try.ntmps25
    go_wp2
    go_returns
    refine ⟨rfl, ?_⟩
    repeat' first | with_reducible exact Below.refl _ _ | with_reducible refine Below.setCell ?_ ?_ _ | with_reducible refine Below.alloc ?_ ?_ _ | with_reducible refine Below.drew ?_ | with_reducible refine belowN ?_ _ | with_reducible refine Over.go _ ?_ ?_ | with_reducible exact Nat.le_refl _ | with_reducible refine Over.sz _ _ ?_ | with_reducible refine le_alloc ?_ | with_reducible refine le_setCell ?_ | with_reducible refine le_drewN ?_ | with_reducible refine le_drew ?_ | omega | (dsimp only; omega)

end Go.Proofs.Ytmdioofpghbjbaa
