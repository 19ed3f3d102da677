/- The walk of AdviceReplies (layer 13). -/
import Derived.Test.YtipamgncalcaiaaLaw13
namespace Go.Proofs.Ytipamgncalcaiaa
open Go.ChangeShapes Go.WideShapes Go.ChangeAt Go.RowKit
set_option linter.unusedSimpArgs false
set_option linter.unusedVariables false
set_option maxRecDepth 10000

attribute [local go_sem, local simp] over_const setCell_drewN alloc_drewN Over.cell Over.frozen lt_s1 lt_s2 lt_s3 le_s0 le_s1 le_s2 le_s3 eq_s0 eq_s1 eq_s2 qe_s0


set_option maxHeartbeats 2000000 in
theorem AdviceReplies_walk (p n : Int) (o h : Bool) (d d0 d1 d2 : Int) (w : World) : Calls Try.prog 4 #[.int .i64 p, .agg #[.int .i64 n, .bool o, .bool h, .int .i64 d], .agg #[.int .i64 d0, .int .i64 d1, .int .i64 d2]] w fun e w' => e = .returned (.bool true) ∧ Below w.heap.size w w' := by
  obtain ⟨r1, h1⟩ : ∃ r, Hid (repZ p n o false d0 d1 = r) := ⟨_, rfl⟩
  obtain ⟨r2, h2⟩ : ∃ r, Hid (repZ p n o true d0 d1 = r) := ⟨_, rfl⟩
  go_enter Try.func4, Try.ntmps4
  go_wp2_with fail
  refine name_world ?_
  intro W hW
  obtain ⟨s, hs⟩ : ∃ s, w.heap.size = s := ⟨_, rfl⟩
  have hB : Below s w W := by
    rw [← hW, ← hs]
    repeat' first | with_reducible exact Below.refl _ _ | with_reducible refine Below.setCell ?_ ?_ _ | with_reducible refine Below.alloc ?_ ?_ _ | with_reducible refine Below.drew ?_ | with_reducible refine belowN ?_ _ | with_reducible refine Over.go _ ?_ ?_ | with_reducible exact Nat.le_refl _ | with_reducible refine Over.sz _ _ ?_ | with_reducible refine le_alloc ?_ | with_reducible refine le_setCell ?_ | with_reducible refine le_drewN ?_ | with_reducible refine le_drew ?_ | omega | (dsimp only; omega)
  replace hB := hide hB
  have hz : W.heap.size = s + 1 + 1 + 1 := by rw [← hW, ← hs]; simp
  have q0 : W.cell? ⟨s, 0, none⟩ = some (.int .i64 n) := by rw [← hW, ← hs]; simp [go_sem]
  have q1 : W.cell? ⟨s, 1, none⟩ = some (.bool o) := by rw [← hW, ← hs]; simp [go_sem]
  have q2 : W.cell? ⟨s, 2, none⟩ = some (.bool h) := by rw [← hW, ← hs]; simp [go_sem]
  have q3 : W.cell? ⟨s, 3, none⟩ = some (.int .i64 d) := by rw [← hW, ← hs]; simp [go_sem]
  have r0 : W.cell? ⟨s + 1, 0, none⟩ = some (.int .i64 d0) := by rw [← hW, ← hs]; simp [go_sem]
  have r1' : W.cell? ⟨s + 1, 1, none⟩ = some (.int .i64 d1) := by rw [← hW, ← hs]; simp [go_sem]
  have r2' : W.cell? ⟨s + 1, 2, none⟩ = some (.int .i64 d2) := by rw [← hW, ← hs]; simp [go_sem]
  have l0 : W.cell? ⟨s + 1 + 1, 0, none⟩ = some (.bool false) := by rw [← hW, ← hs]; simp [go_sem]
  have l1 : W.cell? ⟨s + 1 + 1, 1, none⟩ = some (.bool true) := by rw [← hW, ← hs]; simp [go_sem]
  rw [hs]
  clear hW
  have z0 : s < W.heap.size := by omega
  have z1 : s + 1 < W.heap.size := by omega
  have z2 : s + 1 + 1 < W.heap.size := by omega
  replace hs := hide hs
  replace hz := hide hz
  refine wp_loop_rounds 3 ?_
  rw [rounds_succ]
  go_wp2_with fail
  go_at_call 12
  refine (reply_c p n o h d false d0 d1 d2 _ _ h1).mono ?_
  rintro e w' ⟨rfl, hb⟩
  obtain ⟨x, rfl⟩ := over hb
  clear hb
  go_wp2_with fail
  go_at_call 13
  refine (refReply_c p n o h d false d0 d1 d2 _ _ h1).mono ?_
  rintro e w' ⟨rfl, hb⟩
  obtain ⟨y, rfl⟩ := over2 hb
  clear hb
  go_wp2_with fail
  rw [rounds_succ]
  go_wp2_with fail
  go_at_call 12
  refine (reply_c p n o h d true d0 d1 d2 _ _ h2).mono ?_
  rintro e w' ⟨rfl, hb⟩
  obtain ⟨x2, rfl⟩ := over2 hb
  clear hb
  go_wp2_with fail
  go_at_call 13
  refine (refReply_c p n o h d true d0 d1 d2 _ _ h2).mono ?_
  rintro e w' ⟨rfl, hb⟩
  obtain ⟨y2, rfl⟩ := over2 hb
  clear hb
  go_wp2_with fail
  rw [rounds_succ]
  go_wp2_with fail
  go_at_call 8
  refine (awake13_any _).mono ?_
  rintro e w' ⟨rfl, hb⟩
  obtain ⟨x3, rfl⟩ := over2 hb
  clear hb
  go_wp2_with fail
  go_ret
  refine ⟨rfl, ?_⟩
  rw [hs.out]
  exact hB.out.trans (x3.below.mono (by rw [hz.out]; omega))
end Go.Proofs.Ytipamgncalcaiaa
