/- The document's memory: Take (layer 10). -/
import Derived.Test.YtafccninjjhibaaRmA
namespace Go.Proofs.Ytafccninjjhibaa
open Go.ChangeShapes Go.WideShapes Go.ChangeAt Go.RowKit
set_option linter.unusedSimpArgs false
set_option linter.unusedVariables false
set_option maxRecDepth 10000

attribute [local go_sem, local simp] over_const setCell_drewN alloc_drewN Over.cell Over.frozen lt_s1 lt_s2 lt_s3 le_s0 le_s1 le_s2 le_s3 eq_s0 eq_s1 eq_s2 qe_s0

set_option maxHeartbeats 1000000 in
theorem refTake_c (v : Value) (g : Nat) (N x c : Int) (o d : Bool) (L : List Bun) (w : World) (h : ViewB w v g L) (hI : MInv N L) (hN : N ≤ 4611686018427387904) (r : Bun) (hr : Hid (givenB (getM L x) c o d = r)) (L' : List Bun) (hL : Hid (takM L x c o = L')) : Calls Try.prog 14 #[v, .int .i64 x, .int .i64 c, .bool o, .bool d] w fun e w' => ∃ v', e = .returned (.tuple #[bunV r, v']) ∧ ∃ g', ViewB w' v' g' L' ∧ (g' = g ∨ w.heap.size ≤ g') ∧ Below w.heap.size w w' := by
  have hlen := hI.len
  have hV := hide h
  obtain ⟨ao, cap, rfl, -⟩ := h
  obtain ⟨n, hn⟩ : ∃ n, Hid (L.length = n) := ⟨_, rfl⟩
  obtain ⟨q, hq⟩ : ∃ q, Hid (hasM L x = q) := ⟨_, rfl⟩
  have hq' := hq.out
  unfold hasM at hq'
  rw [hn.out] at hV hlen hq' ⊢
  cases q
  · obtain rfl : L = L' := by rw [← hL.out]; exact (takM_out hq.out c o).symm
    obtain rfl : bun0 = r := by rw [← hr.out, getM_out hq.out, given_zero]
    by_cases a : x < 0
    · clear hq'
      go_enter Try.func14, Try.ntmps14
      go_wp2_with fail
      go_returns
      exact ⟨_, rfl, g, (unhide hV).below (by repeat' first | with_reducible exact Below.refl _ _ | with_reducible refine Below.setCell ?_ ?_ _ | with_reducible refine Below.alloc ?_ ?_ _ | with_reducible refine Below.drew ?_ | with_reducible refine belowN ?_ _ | with_reducible refine Over.go _ ?_ ?_ | with_reducible exact Nat.le_refl _ | with_reducible refine Over.sz _ _ ?_ | with_reducible refine le_alloc ?_ | with_reducible refine le_setCell ?_ | with_reducible refine le_drewN ?_ | with_reducible refine le_drew ?_ | omega | (dsimp only; omega)), .inl rfl, by repeat' first | with_reducible exact Below.refl _ _ | with_reducible refine Below.setCell ?_ ?_ _ | with_reducible refine Below.alloc ?_ ?_ _ | with_reducible refine Below.drew ?_ | with_reducible refine belowN ?_ _ | with_reducible refine Over.go _ ?_ ?_ | with_reducible exact Nat.le_refl _ | with_reducible refine Over.sz _ _ ?_ | with_reducible refine le_alloc ?_ | with_reducible refine le_setCell ?_ | with_reducible refine le_drewN ?_ | with_reducible refine le_drew ?_ | omega | (dsimp only; omega)⟩
    · have a2 : ¬ x < (n : Int) := by simp at hq'; omega
      clear hq'
      go_enter Try.func14, Try.ntmps14
      go_wp2_with fail
      go_returns
      exact ⟨_, rfl, g, (unhide hV).below (by repeat' first | with_reducible exact Below.refl _ _ | with_reducible refine Below.setCell ?_ ?_ _ | with_reducible refine Below.alloc ?_ ?_ _ | with_reducible refine Below.drew ?_ | with_reducible refine belowN ?_ _ | with_reducible refine Over.go _ ?_ ?_ | with_reducible exact Nat.le_refl _ | with_reducible refine Over.sz _ _ ?_ | with_reducible refine le_alloc ?_ | with_reducible refine le_setCell ?_ | with_reducible refine le_drewN ?_ | with_reducible refine le_drew ?_ | omega | (dsimp only; omega)), .inl rfl, by repeat' first | with_reducible exact Below.refl _ _ | with_reducible refine Below.setCell ?_ ?_ _ | with_reducible refine Below.alloc ?_ ?_ _ | with_reducible refine Below.drew ?_ | with_reducible refine belowN ?_ _ | with_reducible refine Over.go _ ?_ ?_ | with_reducible exact Nat.le_refl _ | with_reducible refine Over.sz _ _ ?_ | with_reducible refine le_alloc ?_ | with_reducible refine le_setCell ?_ | with_reducible refine le_drewN ?_ | with_reducible refine le_drew ?_ | omega | (dsimp only; omega)⟩
  · clear hq'
    obtain ⟨j, rfl, hj⟩ := hasM_at hq.out
    obtain ⟨b, hb⟩ : ∃ b, L[j] = b := ⟨_, rfl⟩
    have hbI := hI.at' hj
    obtain ⟨s, hs⟩ : ∃ s, Hid (restB b c o = s) := ⟨_, rfl⟩
    obtain rfl : L.set j s = L' := by rw [← hL.out, ← hs.out, ← hb]; exact (takM_nat hj c o).symm
    rw [getM_nat hj, hb] at hr
    rw [hb] at hbI
    have hn2 : b.n ≤ 9223372036854775807 := by have := hbI.2; omega
    have hok := hide hbI.1
    clear hbI
    replace hI := hide hI
    have hj' : (j : Int) < n := by have := hn.out; omega
    obtain ⟨-, -, -, k⟩ := view_atB (unhide hV) rfl
    obtain ⟨of, rfl, hgl, k0, k1, k2, k3⟩ := k j hj
    rw [hb] at k0 k1 k2 k3
    clear k hb
    go_enter Try.func14, Try.ntmps14
    go_wp2_with fail
    go_at_call 19
    refine (refSplit_any b.n b.o b.h b.d c o d _ hn2 (unhide hok) r s hr hs).mono ?_
    rintro e w2 ⟨rfl, hb2⟩
    have y0 := (bun_new w 31).below hb2
    have hB2 : Below w.heap.size w w2 := ((Below.refl _ _).alloc (Nat.le_refl _) _).trans (hb2.mono (by simp))
    have hlt : w.heap.size < w2.heap.size := y0.lt
    have hV2 := (unhide hV).below hB2
    clear k0 k1 k2 k3 hb2
    replace hV2 := hide hV2
    replace hB2 := hide hB2
    replace y0 := hide y0
    go_wp2_with fail
    refine name_world ?_
    intro W hW
    have hBW : Below w2.heap.size w2 W := by
      rw [← hW]
      repeat' first | with_reducible exact Below.refl _ _ | with_reducible refine Below.setCell ?_ ?_ _ | with_reducible refine Below.alloc ?_ ?_ _ | with_reducible refine Below.drew ?_ | with_reducible refine belowN ?_ _ | with_reducible refine Over.go _ ?_ ?_ | with_reducible exact Nat.le_refl _ | with_reducible refine Over.sz _ _ ?_ | with_reducible refine le_alloc ?_ | with_reducible refine le_setCell ?_ | with_reducible refine le_drewN ?_ | with_reducible refine le_drew ?_ | omega | (dsimp only; omega)
    have b1 : BunAt W w2.heap.size r := by rw [← hW]; exact (bun_newV w2 r 31).carry (Below.heap_alloc _ _ _ (by simp))
    have b2 : BunAt W (w2.heap.size + 1) s := by rw [← hW]; simpa using bun_newV (w2.alloc (.cells #[.int .i64 r.n, .bool r.o, .bool r.h, .int .i64 r.d] 31)) s 31
    have b0 := (unhide y0).below hBW
    have hVW := (unhide hV2).below hBW
    have hBW2 := (unhide hB2).trans (hBW.mono (unhide hB2).size)
    have hl1 := b1.lt
    have hl2 := b2.lt
    have hl0 := b0.lt
    clear hW hBW
    obtain ⟨-, z0, z1, z2, z3, -, -, -, -⟩ := b2
    obtain ⟨-, v0, v1, v2, v3, -, -, -, -⟩ := b1
    replace hVW := hide hVW
    replace hBW2 := hide hBW2
    replace b0 := hide b0
    go_wp2_with fail
    refine wp_region_noPanic ?_
    refine wp_region_held_drew (S := (fun w' => w'.cell? ⟨w2.heap.size, 0, none⟩ = some (.int .i64 r.n) ∧ w'.cell? ⟨w2.heap.size, 1, none⟩ = some (.bool r.o) ∧ w'.cell? ⟨w2.heap.size, 2, none⟩ = some (.bool r.h) ∧ w'.cell? ⟨w2.heap.size, 3, none⟩ = some (.int .i64 r.d) ∧ w'.cell? ⟨w2.heap.size + 1, 0, none⟩ = some (.int .i64 s.n) ∧ w'.cell? ⟨w2.heap.size + 1, 1, none⟩ = some (.bool s.o) ∧ w'.cell? ⟨w2.heap.size + 1, 2, none⟩ = some (.bool s.h) ∧ w'.cell? ⟨w2.heap.size + 1, 3, none⟩ = some (.int .i64 s.d))) (by kernel_rfl) ?_ (fun hHeld => ?_)
    · exact ⟨v0, v1, v2, v3, z0, z1, z2, z3⟩
    refine hand_take (i := 0) (d := some 35) (v := ?_) rfl (by kernel_rfl) (by kernel_rfl) (by kernel_rfl) (fun _ _ _ h => h) ?_ hHeld ?_
    rotate_left
    · intro o ho
      simp at ho
      subst ho
      intro wz hSw
      try dsimp only at hSw
      go_simp
      try with_reducible rfl
    try simp only [Act.put, List.setIfInBounds_toArray, List.set_cons_zero, List.set_cons_succ]
    refine hand_take (i := 1) (d := some 36) (v := ?_) rfl (by kernel_rfl) (by kernel_rfl) (by kernel_rfl) (fun _ _ _ h => h) ?_ hHeld ?_
    rotate_left
    · intro o ho
      simp at ho
      subst ho
      intro wz hSw
      try dsimp only at hSw
      go_simp
      try with_reducible rfl
    try simp only [Act.put, List.setIfInBounds_toArray, List.set_cons_zero, List.set_cons_succ]
    refine hand_take (i := 2) (d := some 37) (v := ?_) rfl (by kernel_rfl) (by kernel_rfl) (by kernel_rfl) (fun _ _ _ h => h) ?_ hHeld ?_
    rotate_left
    · intro o ho
      simp at ho
      subst ho
      intro wz hSw
      try dsimp only at hSw
      go_simp
      try with_reducible rfl
    try simp only [Act.put, List.setIfInBounds_toArray, List.set_cons_zero, List.set_cons_succ]
    refine hand_take (i := 3) (d := some 38) (v := ?_) rfl (by kernel_rfl) (by kernel_rfl) (by kernel_rfl) (fun _ _ _ h => h) ?_ hHeld ?_
    rotate_left
    · intro o ho
      simp at ho
      subst ho
      intro wz hSw
      try dsimp only at hSw
      go_simp
      try with_reducible rfl
    try simp only [Act.put, List.setIfInBounds_toArray, List.set_cons_zero, List.set_cons_succ]
    refine hand_call (i := 4) rfl (by kernel_rfl) ?_
    intro o ho
    simp at ho
    subst ho
    intro K hK
    go_simp; go_at_call 24; refine (refSet_c _ g j s L _ ((unhide hVW).carry (w' := W.drew) (fun _ _ => rfl)) hj (by have := hn.out; omega)).mono ?_; rintro e w3 ⟨v3', g3, rfl, hO3, hg3, hb3⟩; have hB3 := ((Below.refl W.heap.size W).drew).trans hb3; replace hO3 := hide hO3; clear hb3
    refine hK.out _ _ ?_ (fun hHeld => ?_)
    · exact ⟨keep_cell (hB3.block _ hl1) v0, keep_cell (hB3.block _ hl1) v1, keep_cell (hB3.block _ hl1) v2, keep_cell (hB3.block _ hl1) v3, keep_cell (hB3.block _ hl2) z0, keep_cell (hB3.block _ hl2) z1, keep_cell (hB3.block _ hl2) z2, keep_cell (hB3.block _ hl2) z3⟩
    clear hK K
    try simp only [Act.put, List.setIfInBounds_toArray, List.set_cons_zero, List.set_cons_succ]
    have b3 := (unhide b0).below hB3
    have e1 := set_bun b3 r
    obtain ⟨-, u0, u1, u2, u3, g0, g1, g2, g4⟩ := b3
    obtain ⟨w4, hw4⟩ : ∃ w4, setB w3 w.heap.size r = w4 := ⟨_, rfl⟩
    rw [hw4] at e1
    dsimp only [setB] at hw4
    have hB4 := hide (((unhide hBW2).trans (hB3.mono (unhide hBW2).size)).trans (e1.2.below (fun i hi => by omega) (by have := hB3.size; omega)))
    have hO4 := hide ((unhide hO3).fr e1.2 (by simp at hg3; omega))
    have e3 := hide e1.1
    have t0 := keep_cell ((e1.2.block w2.heap.size (by have := hB3.size; omega) (by omega)).trans (hB3.block _ hl1)) v0
    have t1 := keep_cell ((e1.2.block w2.heap.size (by have := hB3.size; omega) (by omega)).trans (hB3.block _ hl1)) v1
    have t2 := keep_cell ((e1.2.block w2.heap.size (by have := hB3.size; omega) (by omega)).trans (hB3.block _ hl1)) v2
    have t3 := keep_cell ((e1.2.block w2.heap.size (by have := hB3.size; omega) (by omega)).trans (hB3.block _ hl1)) v3
    have t4 := keep_cell ((e1.2.block (w2.heap.size + 1) (by have := hB3.size; omega) (by omega)).trans (hB3.block _ hl2)) z0
    have t5 := keep_cell ((e1.2.block (w2.heap.size + 1) (by have := hB3.size; omega) (by omega)).trans (hB3.block _ hl2)) z1
    have t6 := keep_cell ((e1.2.block (w2.heap.size + 1) (by have := hB3.size; omega) (by omega)).trans (hB3.block _ hl2)) z2
    have t7 := keep_cell ((e1.2.block (w2.heap.size + 1) (by have := hB3.size; omega) (by omega)).trans (hB3.block _ hl2)) z3
    clear e1
    refine hand_call (i := 5) rfl (by kernel_rfl) ?_
    intro o ho
    simp at ho
    subst ho
    intro K hK
    go_simp
    refine hK.out _ _ ?_ (fun hHeld => ?_)
    · exact ⟨t0, t1, t2, t3, t4, t5, t6, t7⟩
    clear hK K
    try simp only [Act.put, List.setIfInBounds_toArray, List.set_cons_zero, List.set_cons_succ]
    refine hand_take (i := 6) (d := some 11) (v := ?_) rfl (by kernel_rfl) (by kernel_rfl) (by kernel_rfl) (fun _ _ _ h => h) ?_ hHeld ?_
    rotate_left
    · intro o ho
      simp at ho
      subst ho
      intro wz hSw
      try dsimp only at hSw
      go_simp
      try with_reducible rfl
    try simp only [Act.put, List.setIfInBounds_toArray, List.set_cons_zero, List.set_cons_succ]
    refine wpAnyH_done (by kernel_rfl) (NoPanic.normal ?_) _
    clear hHeld
    obtain ⟨-, u0, u1, u2, u3, -, -, -, -⟩ := unhide e3
    clear hw4 t0 t1 t2 t3 t4 t5 t6 t7 g0 g1 g2 g4
    go_wp2_with fail
    refine bodyPost_ret (v := .tuple #[bunV r, v3']) (by simp [results, Try.results14, go_sem, *]; done) rfl ⟨v3', rfl, g3, ?_⟩
    exact ⟨(unhide hO4).view, .inr (by have := (unhide hBW2).size; simp at hg3; omega), unhide hB4⟩
end Go.Proofs.Ytafccninjjhibaa
