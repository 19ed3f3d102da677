/- The contract of package memory's Take (layer 10). -/
import Derived.Test.YtafccninjjhibaaMem
namespace Go.Proofs.Ytafccninjjhibaa
open Go.ChangeShapes Go.WideShapes Go.ChangeAt Go.RowKit
set_option linter.unusedSimpArgs false
set_option linter.unusedVariables false
set_option maxRecDepth 10000

attribute [local go_sem, local simp] over_const setCell_drewN alloc_drewN Over.cell Over.frozen lt_s1 lt_s2 lt_s3 le_s0 le_s1 le_s2 le_s3 eq_s0 eq_s1 eq_s2 qe_s0

set_option maxHeartbeats 1000000 in
theorem mTake_c (p g : Nat) (N x c : Int) (o d : Bool) (L : List Bun) (w : World) (h : MemIs w p g N L) (hN : N ≤ 4611686018427387904) (r : Bun) (hr : Hid (givenB (getM L x) c o d = r)) (L' : List Bun) (hL : Hid (takM L x c o = L')) : Calls Try.prog 15 #[ptr p, .int .i64 x, .int .i64 c, .bool o, .bool d] w fun e w' => e = .returned (bunV r) ∧ MemIs w' p g N L' ∧ FrS (· = g) w w' := by
  obtain ⟨q, hq⟩ : ∃ q, Hid (hasM L x = q) := ⟨_, rfl⟩
  have c0 := h.c0
  have hpl := h.pl
  have hgl := h.gl
  have hI : MInv N L' := by rw [← hL.out]; exact h.inv.tak x c o
  cases q
  · obtain rfl : L = L' := by rw [← hL.out]; exact (takM_out hq.out c o).symm
    obtain rfl : bun0 = r := by rw [← hr.out, getM_out hq.out, given_zero]
    replace h := hide h
    go_enter Try.func15, Try.ntmps15
    go_wp2_with fail
    go_at_call 26
    refine (mHas_c p g N x L _ ((unhide h).alloc _) false hq).mono ?_
    rintro e w1 ⟨rfl, hw1⟩
    rw [hw1]
    clear hw1 w1
    go_wp2_with fail
    go_returns
    exact ⟨rfl, (unhide h).quiet (by repeat' first | with_reducible exact Below.refl _ _ | with_reducible refine Below.setCell ?_ ?_ _ | with_reducible refine Below.alloc ?_ ?_ _ | with_reducible refine Below.drew ?_ | with_reducible refine belowN ?_ _ | with_reducible refine Over.go _ ?_ ?_ | with_reducible exact Nat.le_refl _ | with_reducible refine Over.sz _ _ ?_ | with_reducible refine le_alloc ?_ | with_reducible refine le_setCell ?_ | with_reducible refine le_drewN ?_ | with_reducible refine le_drew ?_ | omega | (dsimp only; omega))⟩
  · obtain ⟨j, rfl, hj⟩ := hasM_at hq.out
    obtain ⟨b, hb⟩ : ∃ b, L[j] = b := ⟨_, rfl⟩
    obtain ⟨k0, k1, k2, k3, f0, f1, f2, f3⟩ := h.row hj hb
    have hbI := h.inv.at' hj
    obtain ⟨s, hs⟩ : ∃ s, Hid (restB b c o = s) := ⟨_, rfl⟩
    obtain rfl : L.set j s = L' := by rw [← hL.out, ← hs.out, ← hb]; exact (takM_nat hj c o).symm
    rw [getM_nat hj, hb] at hr
    rw [hb] at hbI
    have hn2 : b.n ≤ 9223372036854775807 := by have := hbI.2; omega
    have hok := hide hbI.1
    clear hbI
    replace hb := hide hb
    replace hI := hide hI
    have hj' : (j : Int) < L.length := by omega
    replace h := hide h
    go_enter Try.func15, Try.ntmps15
    go_wp2_with fail
    go_at_call 26
    refine (mHas_c p g N j L _ ((unhide h).alloc _) true hq).mono ?_
    rintro e w1 ⟨rfl, hw1⟩
    rw [hw1]
    clear hw1 w1
    go_wp2_with fail
    go_at_call 28
    refine (split_c b.n b.o b.h b.d c o d _ hn2 (unhide hok) r s hr hs).mono ?_
    rintro e w2 ⟨rfl, hb2⟩
    have y0 := (bun_new w 31).below hb2
    have hB2 : Below w.heap.size w w2 := ((Below.refl _ _).alloc (Nat.le_refl _) _).trans (hb2.mono (by simp))
    have hlt : w.heap.size < w2.heap.size := y0.lt
    have hm2 := (unhide h).below hB2
    clear k0 k1 k2 k3 f0 f1 f2 f3 c0 hb2
    replace hm2 := hide hm2
    replace hB2 := hide hB2
    replace y0 := hide y0
    go_wp2_with fail
    refine name_world ?_
    intro W hW
    have hBW : Below w2.heap.size w2 W := by
      rw [← hW]
      repeat' first | with_reducible exact Below.refl _ _ | with_reducible refine Below.setCell ?_ ?_ _ | with_reducible refine Below.alloc ?_ ?_ _ | with_reducible refine Below.drew ?_ | with_reducible refine belowN ?_ _ | with_reducible refine Over.go _ ?_ ?_ | with_reducible exact Nat.le_refl _ | with_reducible refine Over.sz _ _ ?_ | with_reducible refine le_alloc ?_ | with_reducible refine le_setCell ?_ | with_reducible refine le_drewN ?_ | with_reducible refine le_drew ?_ | omega | (dsimp only; omega)
    have b1 : BunAt W w2.heap.size r := by rw [← hW]; exact (bun_newV w2 r 31).carry (Below.heap_alloc _ _ _ (by simp))
    have b2 : BunAt W (w2.heap.size + 1) s := by rw [← hW]; simpa using bun_newV (w2.alloc (.cells #[.int .i64 r.n, .bool r.o, .bool r.h, .int .i64 r.d] 31)) s 31
    have b0 := (unhide y0).below hBW
    have hmW := (unhide hm2).below hBW
    have hBW2 := (unhide hB2).trans (hBW.mono (unhide hB2).size)
    clear hW hBW
    have c0 : W.cell? ⟨p, 0, none⟩ = some (slB g L.length) := hmW.c0
    obtain ⟨k0, k1, k2, k3, f0, f1, f2, f3⟩ := hmW.row hj hb.out
    have hfin := hmW.set hj s (unhide hI)
    obtain ⟨-, z0, z1, z2, z3, -, -, -, -⟩ := b2
    replace hmW := hide hmW
    have hF := hide (FrS.of_below (F := (· = g)) hBW2)
    obtain ⟨w3, hw3⟩ : ∃ w3, setR W g (j * 4) s = w3 := ⟨_, rfl⟩
    rw [hw3] at hfin
    have d0 : BunAt w3 w.heap.size bun0 := b0.fr hfin.2 (by omega)
    have d1 : BunAt w3 w2.heap.size r := b1.fr hfin.2 (by have := (unhide hm2).gl; omega)
    replace hfin := hide hfin
    clear hBW2 b0 b1
    dsimp only [setR] at hw3
    replace d0 := hide d0
    replace d1 := hide d1
    go_wp2_with fail
    refine wp_region_noPanic ?_
    refine last_begin 7 (fun w' => w'.cell? ⟨p, 0, none⟩ = some (slB g L.length) ∧ w'.cell? ⟨w2.heap.size + 1, 0, none⟩ = some (.int .i64 s.n) ∧ w'.cell? ⟨w2.heap.size + 1, 1, none⟩ = some (.bool s.o) ∧ w'.cell? ⟨w2.heap.size + 1, 2, none⟩ = some (.bool s.h) ∧ w'.cell? ⟨w2.heap.size + 1, 3, none⟩ = some (.int .i64 s.d)) (by kernel_rfl) ?_ (fun hHeld => ?_)
    · exact ⟨c0, z0, z1, z2, z3⟩
    refine last_take (i := 0) (d := some 32) (v := ?_) rfl (by kernel_rfl) (by kernel_rfl) (by kernel_rfl) (by kernel_rfl) (fun _ _ _ h => h) ?_ hHeld ?_
    rotate_left
    · intro o ho
      simp at ho
      subst ho
      intro wz hSw
      try dsimp only at hSw
      go_simp
      try with_reducible rfl
    try simp only [Act.put, List.setIfInBounds_toArray, List.set_cons_zero, List.set_cons_succ]
    refine last_take (i := 1) (d := some 33) (v := ?_) rfl (by kernel_rfl) (by kernel_rfl) (by kernel_rfl) (by kernel_rfl) (fun _ _ _ h => h) ?_ hHeld ?_
    rotate_left
    · intro o ho
      simp at ho
      subst ho
      intro wz hSw
      try dsimp only at hSw
      go_simp
      try with_reducible rfl
    try simp only [Act.put, List.setIfInBounds_toArray, List.set_cons_zero, List.set_cons_succ]
    refine last_take (i := 2) (d := some 34) (v := ?_) rfl (by kernel_rfl) (by kernel_rfl) (by kernel_rfl) (by kernel_rfl) (fun _ _ _ h => h) ?_ hHeld ?_
    rotate_left
    · intro o ho
      simp at ho
      subst ho
      intro wz hSw
      try dsimp only at hSw
      go_simp
      try with_reducible rfl
    try simp only [Act.put, List.setIfInBounds_toArray, List.set_cons_zero, List.set_cons_succ]
    refine last_take (i := 3) (d := some 35) (v := ?_) rfl (by kernel_rfl) (by kernel_rfl) (by kernel_rfl) (by kernel_rfl) (fun _ _ _ h => h) ?_ hHeld ?_
    rotate_left
    · intro o ho
      simp at ho
      subst ho
      intro wz hSw
      try dsimp only at hSw
      go_simp
      try with_reducible rfl
    try simp only [Act.put, List.setIfInBounds_toArray, List.set_cons_zero, List.set_cons_succ]
    refine last_take (i := 4) (d := some 36) (v := ?_) rfl (by kernel_rfl) (by kernel_rfl) (by kernel_rfl) (by kernel_rfl) (fun _ _ _ h => h) ?_ hHeld ?_
    rotate_left
    · intro o ho
      simp at ho
      subst ho
      intro wz hSw
      try dsimp only at hSw
      go_simp
      try with_reducible rfl
    try simp only [Act.put, List.setIfInBounds_toArray, List.set_cons_zero, List.set_cons_succ]
    refine last_take (i := 5) (d := some 37) (v := ?_) rfl (by kernel_rfl) (by kernel_rfl) (by kernel_rfl) (by kernel_rfl) (fun _ _ _ h => h) ?_ hHeld ?_
    rotate_left
    · intro o ho
      simp at ho
      subst ho
      intro wz hSw
      try dsimp only at hSw
      go_simp
      try with_reducible rfl
    try simp only [Act.put, List.setIfInBounds_toArray, List.set_cons_zero, List.set_cons_succ]
    refine last_take (i := 6) (d := some 38) (v := ?_) rfl (by kernel_rfl) (by kernel_rfl) (by kernel_rfl) (by kernel_rfl) (fun _ _ _ h => h) ?_ hHeld ?_
    rotate_left
    · intro o ho
      simp at ho
      subst ho
      intro wz hSw
      try dsimp only at hSw
      go_simp
      try with_reducible rfl
    try simp only [Act.put, List.setIfInBounds_toArray, List.set_cons_zero, List.set_cons_succ]
    refine last_call (i := 7) rfl (by kernel_rfl) ?_
    intro o ho
    simp at ho
    subst ho
    intro K hK
    go_simp
    refine hK.out _ _ (fun h => absurd rfl h) (fun _ => ?_)
    clear hK K
    try simp only [Act.put, List.setIfInBounds_toArray, List.set_cons_zero, List.set_cons_succ]
    refine last_done (by kernel_rfl) (NoPanic.normal ?_) _
    clear hHeld
    clear hw3 c0 k0 k1 k2 k3 f0 f1 f2 f3 z0 z1 z2 z3
    have hg3 : Hid (w.heap.size ≠ g) := by unfold Hid; omega
    have e1 := set_bun ((unhide d0).carry (w' := w3.drew) rfl) r
    have hfin2 := hide ((unhide hfin).1.drew.fr e1.2 (by omega) (by omega))
    have hF2 := hide (((unhide hF).trans (unhide hfin).2 (fun i hi => .inl hi)).drew.trans e1.2 (fun i hi => .inr (by omega)))
    obtain ⟨-, v0, v1, v2, v3, -, -, -, -⟩ := unhide d1
    obtain ⟨-, u0, u1, u2, u3, g0, g1, g2, g3⟩ := unhide d0
    clear e1
    go_wp2_with fail
    refine bodyPost_ret (by simp [results, Try.results15, go_sem, *]; done) rfl ⟨rfl, ?_⟩
    exact ⟨unhide hfin2, unhide hF2⟩
end Go.Proofs.Ytafccninjjhibaa
