/- The contracts of package memory: Put (layer 10). -/
import Derived.Test.YtafccninjjhibaaMem
namespace Go.Proofs.Ytafccninjjhibaa
open Go.ChangeShapes Go.WideShapes Go.ChangeAt Go.RowKit
set_option linter.unusedSimpArgs false
set_option linter.unusedVariables false
set_option maxRecDepth 10000

attribute [local go_sem, local simp] over_const setCell_drewN alloc_drewN Over.cell Over.frozen lt_s1 lt_s2 lt_s3 le_s0 le_s1 le_s2 le_s3 eq_s0 eq_s1 eq_s2 qe_s0

set_option maxHeartbeats 1000000 in
theorem mPut_c (p g : Nat) (N M x : Int) (b : Bun) (L : List Bun) (w : World) (h : MemIs w p g N L) (hb : okB b) (hM : b.n ≤ M) (hN : N + M ≤ 4611686018427387904) (q : Bool) (hq : Hid (hasM L x = q)) (L' : List Bun) (hL : Hid (putM L x b = L')) : Calls Try.prog 13 #[ptr p, .int .i64 x, bunV b] w fun e w' => e = .returned (.bool q) ∧ MemIs w' p g (N + M) L' ∧ FrS (· = g) w w' := by
  have c0 := h.c0
  have hpl := h.pl
  have hgl := h.gl
  have hI : MInv (N + M) L' := by rw [← hL.out]; exact h.inv.put x hb hM
  cases q
  · obtain rfl : L = L' := by rw [← hL.out]; exact (putM_out hq.out b).symm
    have hm : N ≤ N + M := by have := hb.1; omega
    replace h := hide h
    go_enter Try.func13, Try.ntmps13
    go_wp2_with fail
    go_at_call 26
    refine (mHas_c p g N x L _ ((unhide h).alloc _) false hq).mono ?_
    rintro e w1 ⟨rfl, hw1⟩
    rw [hw1]
    clear hw1 w1
    go_wp2_with fail
    go_ret
    exact ⟨rfl, ((unhide h).alloc _).mono hm, (FrS.refl _ _).alloc _⟩
  · obtain ⟨j, rfl, hj⟩ := hasM_at hq.out
    obtain ⟨c, hc⟩ : ∃ c, L[j] = c := ⟨_, rfl⟩
    obtain ⟨k0, k1, k2, k3, f0, f1, f2, f3⟩ := h.row hj hc
    have hcI := h.inv.at' hj
    obtain rfl : L.set j (joinB c b) = L' := by rw [← hL.out, ← hc]; exact (putM_nat hj b).symm
    rw [hc] at hcI
    have hs1 : -9223372036854775808 ≤ c.n + b.n := by have := hcI.1.1; have := hb.1; omega
    have hs2 : c.n + b.n ≤ 9223372036854775807 := by have := hcI.2; omega
    replace hcI := hide hcI
    replace hb := hide hb
    replace hI := hide hI
    obtain ⟨r, hr⟩ : ∃ r, Hid (joinB c b = r) := ⟨_, rfl⟩
    rw [hr.out] at hI hL ⊢
    replace hc := hide hc
    have hj' : (j : Int) < L.length := by omega
    replace h := hide h
    go_enter Try.func13, Try.ntmps13
    go_wp2_with fail
    go_at_call 26
    refine (mHas_c p g N j L _ ((unhide h).alloc _) true hq).mono ?_
    rintro e w1 ⟨rfl, hw1⟩
    rw [hw1]
    clear hw1 w1
    have y0 := bun_newV w b 31
    have hm0 := (unhide h).alloc (.cells #[.int .i64 b.n, .bool b.o, .bool b.h, .int .i64 b.d] 31)
    have hB0 : Below w.heap.size w (w.alloc (.cells #[.int .i64 b.n, .bool b.o, .bool b.h, .int .i64 b.d] 31)) := (Below.refl _ _).alloc (Nat.le_refl _) _
    obtain ⟨w0, hw0⟩ : ∃ w0, (w.alloc (.cells #[.int .i64 b.n, .bool b.o, .bool b.h, .int .i64 b.d] 31)) = w0 := ⟨_, rfl⟩
    rw [hw0] at y0 hm0 hB0 ⊢
    clear hw0 c0 k0 k1 k2 k3 f0 f1 f2 f3
    obtain ⟨k0, k1, k2, k3, -, -, -, -⟩ := hm0.row hj hc.out
    have c0 := hm0.c0
    replace hm0 := hide hm0
    replace hB0 := hide hB0
    obtain ⟨y4, y0, y1, y2, y3, -, -, -, -⟩ := y0
    go_wp2_with fail
    refine wp_region_noPanic ?_
    refine last_begin 15 (fun w' => w'.cell? ⟨p, 0, none⟩ = some (slB g L.length) ∧ w'.cell? ⟨g, j * 4, none⟩ = some (.int .i64 c.n) ∧ w'.cell? ⟨g, j * 4 + 1, none⟩ = some (.bool c.o) ∧ w'.cell? ⟨g, j * 4 + 2, none⟩ = some (.bool c.h) ∧ w'.cell? ⟨g, j * 4 + 3, none⟩ = some (.int .i64 c.d) ∧ w'.cell? ⟨w.heap.size, 0, none⟩ = some (.int .i64 b.n) ∧ w'.cell? ⟨w.heap.size, 1, none⟩ = some (.bool b.o) ∧ w'.cell? ⟨w.heap.size, 2, none⟩ = some (.bool b.h) ∧ w'.cell? ⟨w.heap.size, 3, none⟩ = some (.int .i64 b.d)) (by kernel_rfl) ?_ (fun hHeld => ?_)
    · exact ⟨c0, k0, k1, k2, k3, y0, y1, y2, y3⟩
    refine last_take (i := 0) (d := some 11) (v := ?_) rfl (by kernel_rfl) (by kernel_rfl) (by kernel_rfl) (by kernel_rfl) (fun _ _ _ h => h) ?_ hHeld ?_
    rotate_left
    · intro o ho
      simp at ho
      subst ho
      intro wz hSw
      try dsimp only at hSw
      go_simp
      try with_reducible rfl
    try simp only [Act.put, List.setIfInBounds_toArray, List.set_cons_zero, List.set_cons_succ]
    refine last_take (i := 1) (d := some 12) (v := ?_) rfl (by kernel_rfl) (by kernel_rfl) (by kernel_rfl) (by kernel_rfl) (fun _ _ _ h => h) ?_ hHeld ?_
    rotate_left
    · intro o ho
      simp at ho
      subst ho
      intro wz hSw
      try dsimp only at hSw
      go_simp
      try with_reducible rfl
    try simp only [Act.put, List.setIfInBounds_toArray, List.set_cons_zero, List.set_cons_succ]
    refine last_take (i := 2) (d := some 13) (v := ?_) rfl (by kernel_rfl) (by kernel_rfl) (by kernel_rfl) (by kernel_rfl) (fun _ _ _ h => h) ?_ hHeld ?_
    rotate_left
    · intro o ho
      simp at ho
      subst ho
      intro wz hSw
      try dsimp only at hSw
      go_simp
      try with_reducible rfl
    try simp only [Act.put, List.setIfInBounds_toArray, List.set_cons_zero, List.set_cons_succ]
    refine last_take (i := 3) (d := some 14) (v := ?_) rfl (by kernel_rfl) (by kernel_rfl) (by kernel_rfl) (by kernel_rfl) (fun _ _ _ h => h) ?_ hHeld ?_
    rotate_left
    · intro o ho
      simp at ho
      subst ho
      intro wz hSw
      try dsimp only at hSw
      go_simp
      try with_reducible rfl
    try simp only [Act.put, List.setIfInBounds_toArray, List.set_cons_zero, List.set_cons_succ]
    refine last_take (i := 4) (d := some 15) (v := ?_) rfl (by kernel_rfl) (by kernel_rfl) (by kernel_rfl) (by kernel_rfl) (fun _ _ _ h => h) ?_ hHeld ?_
    rotate_left
    · intro o ho
      simp at ho
      subst ho
      intro wz hSw
      try dsimp only at hSw
      go_simp
      try with_reducible rfl
    try simp only [Act.put, List.setIfInBounds_toArray, List.set_cons_zero, List.set_cons_succ]
    refine last_take (i := 5) (d := some 16) (v := ?_) rfl (by kernel_rfl) (by kernel_rfl) (by kernel_rfl) (by kernel_rfl) (fun _ _ _ h => h) ?_ hHeld ?_
    rotate_left
    · intro o ho
      simp at ho
      subst ho
      intro wz hSw
      try dsimp only at hSw
      go_simp
      try with_reducible rfl
    try simp only [Act.put, List.setIfInBounds_toArray, List.set_cons_zero, List.set_cons_succ]
    refine last_take (i := 6) (d := some 17) (v := ?_) rfl (by kernel_rfl) (by kernel_rfl) (by kernel_rfl) (by kernel_rfl) (fun _ _ _ h => h) ?_ hHeld ?_
    rotate_left
    · intro o ho
      simp at ho
      subst ho
      intro wz hSw
      try dsimp only at hSw
      go_simp
      try with_reducible rfl
    try simp only [Act.put, List.setIfInBounds_toArray, List.set_cons_zero, List.set_cons_succ]
    refine last_take (i := 7) (d := some 18) (v := ?_) rfl (by kernel_rfl) (by kernel_rfl) (by kernel_rfl) (by kernel_rfl) (fun _ _ _ h => h) ?_ hHeld ?_
    rotate_left
    · intro o ho
      simp at ho
      subst ho
      intro wz hSw
      try dsimp only at hSw
      go_simp
      try with_reducible rfl
    try simp only [Act.put, List.setIfInBounds_toArray, List.set_cons_zero, List.set_cons_succ]
    refine last_take (i := 8) (d := some 19) (v := ?_) rfl (by kernel_rfl) (by kernel_rfl) (by kernel_rfl) (by kernel_rfl) (fun _ _ _ h => h) ?_ hHeld ?_
    rotate_left
    · intro o ho
      simp at ho
      subst ho
      intro wz hSw
      try dsimp only at hSw
      go_simp
      try with_reducible rfl
    try simp only [Act.put, List.setIfInBounds_toArray, List.set_cons_zero, List.set_cons_succ]
    refine last_take (i := 9) (d := some 20) (v := ?_) rfl (by kernel_rfl) (by kernel_rfl) (by kernel_rfl) (by kernel_rfl) (fun _ _ _ h => h) ?_ hHeld ?_
    rotate_left
    · intro o ho
      simp at ho
      subst ho
      intro wz hSw
      try dsimp only at hSw
      go_simp
      try with_reducible rfl
    try simp only [Act.put, List.setIfInBounds_toArray, List.set_cons_zero, List.set_cons_succ]
    refine last_take (i := 10) (d := some 21) (v := ?_) rfl (by kernel_rfl) (by kernel_rfl) (by kernel_rfl) (by kernel_rfl) (fun _ _ _ h => h) ?_ hHeld ?_
    rotate_left
    · intro o ho
      simp at ho
      subst ho
      intro wz hSw
      try dsimp only at hSw
      go_simp
      try with_reducible rfl
    try simp only [Act.put, List.setIfInBounds_toArray, List.set_cons_zero, List.set_cons_succ]
    refine last_take (i := 11) (d := some 22) (v := ?_) rfl (by kernel_rfl) (by kernel_rfl) (by kernel_rfl) (by kernel_rfl) (fun _ _ _ h => h) ?_ hHeld ?_
    rotate_left
    · intro o ho
      simp at ho
      subst ho
      intro wz hSw
      try dsimp only at hSw
      go_simp
      try with_reducible rfl
    try simp only [Act.put, List.setIfInBounds_toArray, List.set_cons_zero, List.set_cons_succ]
    refine last_take (i := 12) (d := some 23) (v := ?_) rfl (by kernel_rfl) (by kernel_rfl) (by kernel_rfl) (by kernel_rfl) (fun _ _ _ h => h) ?_ hHeld ?_
    rotate_left
    · intro o ho
      simp at ho
      subst ho
      intro wz hSw
      try dsimp only at hSw
      go_simp
      try with_reducible rfl
    try simp only [Act.put, List.setIfInBounds_toArray, List.set_cons_zero, List.set_cons_succ]
    refine last_call (i := 13) rfl (by kernel_rfl) ?_
    intro o ho
    simp at ho
    subst ho
    intro K hK
    go_simp; go_at_call 27; refine (join_c c.n c.o c.h c.d b.n b.o b.h b.d _ hs1 hs2 r hr).mono ?_; rintro e w2 ⟨rfl, hb2⟩; have hB2 := ((Below.refl w0.heap.size w0).drew).trans hb2; clear hb2
    refine hK.out _ _ (fun _ => ?_) (fun hHeld0 => ?_)
    · exact ⟨keep_cell (hB2.block p (unhide hm0).pl) c0, keep_cell (hB2.block g (unhide hm0).gl) k0, keep_cell (hB2.block g (unhide hm0).gl) k1, keep_cell (hB2.block g (unhide hm0).gl) k2, keep_cell (hB2.block g (unhide hm0).gl) k3, keep_cell (hB2.block _ y4) y0, keep_cell (hB2.block _ y4) y1, keep_cell (hB2.block _ y4) y2, keep_cell (hB2.block _ y4) y3⟩
    clear hK K
    replace hHeld := hHeld0 (by decide)
    clear hHeld0
    try simp only [Act.put, List.setIfInBounds_toArray, List.set_cons_zero, List.set_cons_succ]
    have hm2 := (unhide hm0).below hB2
    have hf2 : FrS (· = g) w w2 := FrS.of_below ((unhide hB0).trans (hB2.mono (unhide hB0).size))
    clear k0 k1 k2 k3
    obtain ⟨k0, k1, k2, k3, f0, f1, f2, f3⟩ := hm2.row hj hc.out
    have hfin := hide (hm2.set hj r (unhide hI))
    replace hm2 := hide hm2
    replace hf2 := hide hf2
    clear y0 y1 y2 y3 c0 hB2
    refine last_take (i := 14) (d := some 25) (v := ?_) rfl (by kernel_rfl) (by kernel_rfl) (by kernel_rfl) (by kernel_rfl) (fun _ _ _ h => h) ?_ hHeld ?_
    rotate_left
    · intro o ho
      simp at ho
      subst ho
      intro wz hSw
      try dsimp only at hSw
      go_simp
      try with_reducible rfl
    try simp only [Act.put, List.setIfInBounds_toArray, List.set_cons_zero, List.set_cons_succ]
    obtain ⟨w3, hw3⟩ : ∃ w3, setR w2 g (j * 4) r = w3 := ⟨_, rfl⟩
    rw [hw3] at hfin
    dsimp only [setR] at hw3
    refine last_call (i := 15) rfl (by kernel_rfl) ?_
    intro o ho
    simp at ho
    subst ho
    intro K hK
    go_simp
    refine hK.out _ _ (fun h => absurd rfl h) (fun _ => ?_)
    clear hK K
    try simp only [Act.put, List.setIfInBounds_toArray, List.set_cons_zero, List.set_cons_succ]
    refine last_done (by kernel_rfl) (NoPanic.normal ?_) _
    clear hHeld
    go_wp2_with fail
    go_ret
    exact ⟨rfl, (unhide hfin).1, (unhide hf2).trans (unhide hfin).2 (fun i hi => .inl hi)⟩
end Go.Proofs.Ytafccninjjhibaa
