/- The contracts of package memory: Get, Put, Take, All, Copy (layer 10). -/
import Derived.Test.YtafccninjjhibaaMem
namespace Go.Proofs.Ytafccninjjhibaa
open Go.ChangeShapes Go.WideShapes Go.ChangeAt Go.RowKit
set_option linter.unusedSimpArgs false
set_option linter.unusedVariables false
set_option maxRecDepth 10000

attribute [local go_sem, local simp] over_const setCell_drewN alloc_drewN Over.cell Over.frozen lt_s1 lt_s2 lt_s3 le_s0 le_s1 le_s2 le_s3 eq_s0 eq_s1 eq_s2 qe_s0


set_option maxHeartbeats 400000 in
theorem mGet_c (p g : Nat) (N x : Int) (L : List Bun) (w : World) (h : MemIs w p g N L) (r : Bun) (hr : Hid (getM L x = r)) : Calls Try.prog 18 #[ptr p, .int .i64 x] w fun e w' => e = .returned (bunV r) ∧ Below w.heap.size w w' := by
  obtain ⟨q, hq⟩ : ∃ q, Hid (hasM L x = q) := ⟨_, rfl⟩
  have c0 := h.c0
  have hpl := h.pl
  have hgl := h.gl
  cases q
  · obtain rfl : bun0 = r := by rw [← hr.out]; exact (getM_out hq.out).symm
    replace h := hide h
    go_enter Try.func18, Try.ntmps18
    go_wp2_with fail
    go_at_call 26
    refine (mHas_c p g N x L _ ((unhide h).alloc _) false hq).mono ?_
    rintro e w1 ⟨rfl, hw1⟩
    rw [hw1]
    clear hw1 w1
    go_wp2_with fail
    go_returns
    exact ⟨rfl, by repeat' first | with_reducible exact Below.refl _ _ | with_reducible refine Below.setCell ?_ ?_ _ | with_reducible refine Below.alloc ?_ ?_ _ | with_reducible refine Below.drew ?_ | with_reducible refine belowN ?_ _ | with_reducible refine Over.go _ ?_ ?_ | with_reducible exact Nat.le_refl _ | with_reducible refine Over.sz _ _ ?_ | with_reducible refine le_alloc ?_ | with_reducible refine le_setCell ?_ | with_reducible refine le_drewN ?_ | with_reducible refine le_drew ?_ | omega | (dsimp only; omega)⟩
  · obtain ⟨j, rfl, hj⟩ := hasM_at hq.out
    obtain rfl : L[j] = r := by rw [← hr.out]; exact (getM_nat hj).symm
    obtain ⟨b, hb⟩ : ∃ b, L[j] = b := ⟨_, rfl⟩
    obtain ⟨k0, k1, k2, k3, -, -, -, -⟩ := h.row hj hb
    rw [hb]
    clear hb hr
    have hj' : (j : Int) < L.length := by omega
    replace h := hide h
    go_enter Try.func18, Try.ntmps18
    go_wp2_with fail
    go_at_call 26
    refine (mHas_c p g N j L _ ((unhide h).alloc _) true hq).mono ?_
    rintro e w1 ⟨rfl, hw1⟩
    rw [hw1]
    clear hw1 w1
    go_wp2_with fail
    go_returns
    exact ⟨rfl, by repeat' first | with_reducible exact Below.refl _ _ | with_reducible refine Below.setCell ?_ ?_ _ | with_reducible refine Below.alloc ?_ ?_ _ | with_reducible refine Below.drew ?_ | with_reducible refine belowN ?_ _ | with_reducible refine Over.go _ ?_ ?_ | with_reducible exact Nat.le_refl _ | with_reducible refine Over.sz _ _ ?_ | with_reducible refine le_alloc ?_ | with_reducible refine le_setCell ?_ | with_reducible refine le_drewN ?_ | with_reducible refine le_drew ?_ | omega | (dsimp only; omega)⟩
end Go.Proofs.Ytafccninjjhibaa
