/- The walk of PermStores: it returns true; no old memory turns. -/
import Derived.Test.YtohjopdfbjjipaaLaw03
namespace Go.Proofs.Ytohjopdfbjjipaa
open Go.ChangeShapes Go.WideShapes Go.ChangeAt Go.RowKit
set_option linter.unusedSimpArgs false
set_option linter.unusedVariables false

attribute [local go_sem, local simp] over_const setCell_drewN alloc_drewN Over.cell Over.frozen lt_s1 lt_s2 lt_s3 le_s0 le_s1 le_s2 le_s3 eq_s0 eq_s1 eq_s2 qe_s0

set_option maxHeartbeats 1000000 in
theorem PermStores_walk (b : Int) (wr : Bool) (v n : Int) (o h : Bool) (d t : Int) (w : World) :
    Calls Try.prog 4 #[.agg #[.int .i64 b, .bool wr, .int .i64 v], .agg #[.int .i64 n, .bool o, .bool h, .int .i64 d], .int .i64 t] w fun e w' => e = .returned (.bool true) ∧ Below w.heap.size w w' := by
  obtain ⟨q, hq⟩ : ∃ q, Hid (canB wr n h t = q) := ⟨_, rfl⟩
  obtain ⟨d', hd⟩ : ∃ d', Hid ((if (q && wr) = true then v else d) = d') := ⟨_, rfl⟩
  obtain ⟨x', hx⟩ : ∃ x, Hid ((if q = true then d' else 0) = x) := ⟨_, rfl⟩
  go_enter Try.func4, Try.ntmps4
  go_wp2_with (first | (go_at_call 13; refine (do_c _ _ _ _ _ _ _ _ _ _ hq _ _ hd hx).mono ?_; rintro e w' ⟨rfl, hb⟩; obtain ⟨x, rfl⟩ := over hb; clear hb; have f0 := x.up (b := w.heap.size) (by first | omega | (simp only [World.size_alloc]; omega)); have f1 := x.up (b := w.heap.size + 1) (by first | omega | (simp only [World.size_alloc]; omega))) | (go_at_call 14; refine (refDo_c _ _ _ _ _ _ _ _ _ _ hq _ _ hd hx).mono ?_; rintro e w' ⟨rfl, hb⟩; obtain ⟨y, rfl⟩ := over hb; clear hb; have g0 := y.up (b := x.w.heap.size) (by first | omega | (simp only [World.size_alloc]; omega))) | (go_at_call 9; refine (awake3_any _).mono ?_; rintro e w' ⟨rfl, hb⟩; obtain ⟨z, rfl⟩ := over hb; clear hb; have k0 := z.up (b := x.w.heap.size) (by first | omega | (simp only [World.size_alloc]; omega)); have k1 := z.up (b := y.w.heap.size) (by first | omega | (simp only [World.size_alloc]; omega))))
  go_ret
  have s1 := x.below.size
  have s2 := y.below.size
  simp only [World.size_alloc] at s1 s2
  refine ⟨by simp, ?_⟩
  repeat' first | with_reducible exact Below.refl _ _ | with_reducible refine Below.setCell ?_ ?_ _ | with_reducible refine Below.alloc ?_ ?_ _ | with_reducible refine Below.drew ?_ | with_reducible refine belowN ?_ _ | with_reducible refine Over.go _ ?_ ?_ | with_reducible exact Nat.le_refl _ | with_reducible refine Over.sz _ _ ?_ | with_reducible refine le_alloc ?_ | with_reducible refine le_setCell ?_ | with_reducible refine le_drewN ?_ | with_reducible refine le_drew ?_ | omega | (dsimp only; omega)
end Go.Proofs.Ytohjopdfbjjipaa
