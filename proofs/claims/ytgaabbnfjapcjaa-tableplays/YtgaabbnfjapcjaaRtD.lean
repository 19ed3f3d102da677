/- The contract of the document's Activate (layer 11). -/
import Derived.Test.YtgaabbnfjapcjaaRtC
import Derived.Test.YtgaabbnfjapcjaaHand3
namespace Go.Proofs.Ytgaabbnfjapcjaa
open Go.ChangeShapes Go.WideShapes Go.ChangeAt Go.RowKit
set_option linter.unusedSimpArgs false
set_option linter.unusedVariables false
set_option maxRecDepth 10000

attribute [local go_sem, local simp] over_const setCell_drewN alloc_drewN Over.cell Over.frozen lt_s1 lt_s2 lt_s3 le_s0 le_s1 le_s2 le_s3 eq_s0 eq_s1 eq_s2 qe_s0

theorem heldA {W w' : World} {p B : Nat} {v : Value} {a : At} (hp : p < W.heap.size) (hB : B < W.heap.size) (h : W.cell? ⟨p, 0, none⟩ = some v ∧ W.cell? ⟨B, 0, none⟩ = some (.int .i64 a.b) ∧ W.cell? ⟨B, 1, none⟩ = some (.int .i64 a.n) ∧ W.cell? ⟨B, 2, none⟩ = some (.int .i64 a.s)) (hb : Below W.heap.size W w') :
    Hid (Below W.heap.size W w') ∧ w'.cell? ⟨p, 0, none⟩ = some v ∧ w'.cell? ⟨B, 0, none⟩ = some (.int .i64 a.b) ∧ w'.cell? ⟨B, 1, none⟩ = some (.int .i64 a.n) ∧ w'.cell? ⟨B, 2, none⟩ = some (.int .i64 a.s) :=
  ⟨hide hb, keep_cell (hb.block p hp) h.1, keep_cell (hb.block B hB) h.2.1, keep_cell (hb.block B hB) h.2.2.1, keep_cell (hb.block B hB) h.2.2.2⟩

/-- Between the two appends. -/
structure AMid (W wz : World) (ao : Option Addr) (n cap g gb : Nat) (On : List At) (a : At) : Prop where
  own : OwnA wz (.slice ao n cap) g On
  one : ViewA wz (.slice (some ⟨gb, 0, none⟩) 1 1) gb [a]
  b : Below W.heap.size W wz
  lo : W.heap.size ≤ g

theorem one_next {w w' : World} {v : Value} {gb : Nat} {a : At} (h : ViewA w v gb [a]) (hb : Below w.heap.size w w') : ViewA w' v gb [a] := h.below hb
theorem app_below {W wz w2 : World} {v v' : Value} {g g' : Nat} (hb : Below W.heap.size W wz) (hg : W.heap.size ≤ g) (hap : AppP wz w2 v v' g g') : Below W.heap.size W w2 ∧ W.heap.size ≤ g' := by
  refine ⟨hb.trans (hap.fr.below (fun i hi => by rw [hi]; exact hg) hb.size), ?_⟩
  rcases hap.lies with e | e
  · omega
  · have := hb.size; omega
theorem one_app {w wz : World} {v v' x : Value} {g g' gb : Nat} {a : At} (h : ViewA w x gb [a]) (hap : AppP w wz v v' g g') (hn : gb ≠ g) : ViewA wz x gb [a] := h.fr hap.fr (fun _ => hn)




set_option maxHeartbeats 4000000 in
theorem rActivate_c (p g1 g2 : Nat) (On Off : List At) (a : At) (w : World) (h : RtIs w p g1 g2 On Off) (hl : On.length ≤ 1000) (ok : Bool) (hok : Hid (okD On Off a = ok)) : Calls Try.prog 11 #[ptr p, .agg #[.int .i64 a.b, .int .i64 a.n, .int .i64 a.s]] w fun e w' => e = .returned (.bool ok) ∧ (ok = true → ∃ g', RtIs w' p g' g2 (On ++ [a]) Off ∧ w.heap.size ≤ g' ∧ FrS (· = p) w w') ∧ (ok = false → Below w.heap.size w w') := by
  have hpl := h.lt
  replace h := hide h
  obtain ⟨ov, hov⟩ : ∃ ov, Hid (dO Off a.b = ov) := ⟨_, rfl⟩
  obtain ⟨x, hx⟩ : ∃ x, Hid (dA On Off a.b = x) := ⟨_, rfl⟩
  obtain ⟨is, his⟩ : ∃ is, Hid (decide (0 < x.s) = is) := ⟨_, rfl⟩
  have hok' : decide (¬ (a.s < 1) ∧ ¬ (a.s ≤ ov) ∧ ¬ (a.s ≤ x.s)) = ok := by rw [← hov.out, ← hx.out]; exact hok.out
  replace hok' := hide hok'
  go_enter Try.func11, Try.ntmps11
  go_wp2_with fail
  go_at_call 16
  refine (rActive_c p g1 g2 On Off a.b _ (h.out.below (belA1 w (atwO a))) x hx is his).mono ?_
  rintro e w1 ⟨rfl, hb1⟩
  have y1 := hide (((atw_new w a).below hb1).below (belA1 w1 (atwO x)))
  have z1 := hide (atw_new w1 x)
  have hB : Hid (Below w.heap.size w (w1.alloc (atwO x))) := hide (((belA1 w (atwO a)).trans (hb1.mono (by simp))).trans ((belA1 w1 _).mono (by have := hb1.size; simp at this; omega)))
  have s1 : w.heap.size < w1.heap.size := by have := hb1.size; simp at this; omega
  clear hb1
  go_wp2_with fail
  refine name_world ?_
  intro W hW
  have hW' : w1.alloc (atwO x) = W := hW
  rw [hW'] at y1 z1 hB
  have hWs : W.heap.size = w1.heap.size + 1 := by rw [← hW']; simp
  clear hW hW'
  replace hWs := hide hWs
  obtain ⟨-, b0, b1, b2, -, -, -⟩ := y1.out
  obtain ⟨-, -, -, x2, -, -, -⟩ := z1.out
  have hR := hide (h.out.below hB.out)
  by_cases c1 : a.s < 1
  · obtain rfl : ok = false := by rw [← hok'.out]; exact decide_eq_false (by omega)
    go_wp2_with fail
    refine wp_region_noPanic ?_
    refine wp_region_held_drew (S := (fun w' => w'.cell? ⟨w.heap.size, 2, none⟩ = some (.int .i64 a.s))) (by kernel_rfl) ?_ (fun hHeld => ?_)
    · exact b2
    refine hand_take (i := 0) (d := some 14) (v := ?_) rfl (by kernel_rfl) (by kernel_rfl) (by kernel_rfl) (fun _ _ _ h => h) ?_ hHeld ?_
    rotate_left
    · intro o ho
      simp at ho
      subst ho
      intro wz hSw
      try dsimp only at hSw
      go_simp
      try with_reducible rfl
    try simp only [Act.put, List.setIfInBounds_toArray, List.set_cons_zero, List.set_cons_succ]
    refine hand_take (i := 1) (d := some 15) (v := ?_) rfl (by kernel_rfl) (by kernel_rfl) (by kernel_rfl) (fun _ _ _ h => h) ?_ hHeld ?_
    rotate_left
    · intro o ho
      simp at ho
      subst ho
      intro wz hSw
      try dsimp only at hSw
      go_simp
      try with_reducible rfl
    try simp only [Act.put, List.setIfInBounds_toArray, List.set_cons_zero, List.set_cons_succ]
    refine hand_take (i := 2) (d := some 16) (v := .bool true) rfl (by kernel_rfl) (by kernel_rfl) (by kernel_rfl) (fun _ _ _ h => h) ?_ hHeld ?_
    · intro o ho
      simp at ho
      subst ho
      intro wz hSw
      try dsimp only at hSw
      go_simp; try simp [c1]
    try simp only [Act.put, List.setIfInBounds_toArray, List.set_cons_zero, List.set_cons_succ]
    refine hand_take (i := 3) (d := some 17) (v := ?_) rfl (by kernel_rfl) (by kernel_rfl) (by kernel_rfl) (fun _ _ _ h => h) ?_ hHeld ?_
    rotate_left
    · intro o ho
      simp at ho
      subst ho
      intro wz hSw
      try dsimp only at hSw
      go_simp
      try with_reducible rfl
    try simp only [Act.put, List.setIfInBounds_toArray, List.set_cons_zero, List.set_cons_succ]
    refine hand_skip (i := 4) (d := some 18) rfl (by kernel_rfl) (by kernel_rfl) (by kernel_rfl) (fun _ _ _ h => h) hHeld ?_
    try simp only [Act.put, List.setIfInBounds_toArray, List.set_cons_zero, List.set_cons_succ]
    refine hand_skip (i := 5) (d := some 19) rfl (by kernel_rfl) (by kernel_rfl) (by kernel_rfl) (fun _ _ _ h => h) hHeld ?_
    try simp only [Act.put, List.setIfInBounds_toArray, List.set_cons_zero, List.set_cons_succ]
    refine hand_skip (i := 6) (d := some 20) rfl (by kernel_rfl) (by kernel_rfl) (by kernel_rfl) (fun _ _ _ h => h) hHeld ?_
    try simp only [Act.put, List.setIfInBounds_toArray, List.set_cons_zero, List.set_cons_succ]
    refine hand_skip (i := 7) (d := some 21) rfl (by kernel_rfl) (by kernel_rfl) (by kernel_rfl) (fun _ _ _ h => h) hHeld ?_
    try simp only [Act.put, List.setIfInBounds_toArray, List.set_cons_zero, List.set_cons_succ]
    refine hand_skip (i := 8) (d := some 22) rfl (by kernel_rfl) (by kernel_rfl) (by kernel_rfl) (fun _ _ _ h => h) hHeld ?_
    try simp only [Act.put, List.setIfInBounds_toArray, List.set_cons_zero, List.set_cons_succ]
    refine hand_skip (i := 9) (d := some 23) rfl (by kernel_rfl) (by kernel_rfl) (by kernel_rfl) (fun _ _ _ h => h) hHeld ?_
    try simp only [Act.put, List.setIfInBounds_toArray, List.set_cons_zero, List.set_cons_succ]
    refine hand_skip (i := 10) (d := some 24) rfl (by kernel_rfl) (by kernel_rfl) (by kernel_rfl) (fun _ _ _ h => h) hHeld ?_
    try simp only [Act.put, List.setIfInBounds_toArray, List.set_cons_zero, List.set_cons_succ]
    refine hand_take (i := 11) (d := some 25) (v := ?_) rfl (by kernel_rfl) (by kernel_rfl) (by kernel_rfl) (fun _ _ _ h => h) ?_ hHeld ?_
    rotate_left
    · intro o ho
      simp at ho
      subst ho
      intro wz hSw
      try dsimp only at hSw
      go_simp
      try with_reducible rfl
    try simp only [Act.put, List.setIfInBounds_toArray, List.set_cons_zero, List.set_cons_succ]
    refine hand_take (i := 12) (d := some 26) (v := ?_) rfl (by kernel_rfl) (by kernel_rfl) (by kernel_rfl) (fun _ _ _ h => h) ?_ hHeld ?_
    rotate_left
    · intro o ho
      simp at ho
      subst ho
      intro wz hSw
      try dsimp only at hSw
      go_simp
      try with_reducible rfl
    try simp only [Act.put, List.setIfInBounds_toArray, List.set_cons_zero, List.set_cons_succ]
    refine hand_skip (i := 13) (d := some 27) rfl (by kernel_rfl) (by kernel_rfl) (by kernel_rfl) (fun _ _ _ h => h) hHeld ?_
    try simp only [Act.put, List.setIfInBounds_toArray, List.set_cons_zero, List.set_cons_succ]
    refine hand_skip (i := 14) (d := some 28) rfl (by kernel_rfl) (by kernel_rfl) (by kernel_rfl) (fun _ _ _ h => h) hHeld ?_
    try simp only [Act.put, List.setIfInBounds_toArray, List.set_cons_zero, List.set_cons_succ]
    refine hand_skip (i := 15) (d := some 29) rfl (by kernel_rfl) (by kernel_rfl) (by kernel_rfl) (fun _ _ _ h => h) hHeld ?_
    try simp only [Act.put, List.setIfInBounds_toArray, List.set_cons_zero, List.set_cons_succ]
    refine hand_skip (i := 16) (d := some 30) rfl (by kernel_rfl) (by kernel_rfl) (by kernel_rfl) (fun _ _ _ h => h) hHeld ?_
    try simp only [Act.put, List.setIfInBounds_toArray, List.set_cons_zero, List.set_cons_succ]
    refine hand_skip (i := 17) (d := some 31) rfl (by kernel_rfl) (by kernel_rfl) (by kernel_rfl) (fun _ _ _ h => h) hHeld ?_
    try simp only [Act.put, List.setIfInBounds_toArray, List.set_cons_zero, List.set_cons_succ]
    refine hand_take (i := 18) (d := some 32) (v := ?_) rfl (by kernel_rfl) (by kernel_rfl) (by kernel_rfl) (fun _ _ _ h => h) ?_ hHeld ?_
    rotate_left
    · intro o ho
      simp at ho
      subst ho
      intro wz hSw
      try dsimp only at hSw
      go_simp
      try with_reducible rfl
    try simp only [Act.put, List.setIfInBounds_toArray, List.set_cons_zero, List.set_cons_succ]
    refine wpAnyH_done (by kernel_rfl) (NoPanic.normal ?_) _
    clear hHeld
    go_wp2_with fail
    go_ret
    refine ⟨rfl, ?_⟩
    first | exact hB.out.drew | exact ⟨fun h => (by cases h), fun _ => hB.out.drew⟩
  by_cases c2 : a.s ≤ ov
  · obtain rfl : ok = false := by rw [← hok'.out]; exact decide_eq_false (by omega)
    go_wp2_with fail
    refine wp_region_noPanic ?_
    refine wp_region_held_drew (S := (fun w' => Hid (RtIs w' p g1 g2 On Off) ∧ w'.cell? ⟨w.heap.size, 0, none⟩ = some (.int .i64 a.b) ∧ w'.cell? ⟨w.heap.size, 2, none⟩ = some (.int .i64 a.s))) (by kernel_rfl) ?_ (fun hHeld => ?_)
    · exact ⟨hide (hR.out.below (Below.refl _ _).drew), b0, b2⟩
    refine hand_take (i := 0) (d := some 14) (v := ?_) rfl (by kernel_rfl) (by kernel_rfl) (by kernel_rfl) (fun _ _ _ h => h) ?_ hHeld ?_
    rotate_left
    · intro o ho
      simp at ho
      subst ho
      intro wz hSw
      try dsimp only at hSw
      go_simp
      try with_reducible rfl
    try simp only [Act.put, List.setIfInBounds_toArray, List.set_cons_zero, List.set_cons_succ]
    refine hand_take (i := 1) (d := some 15) (v := ?_) rfl (by kernel_rfl) (by kernel_rfl) (by kernel_rfl) (fun _ _ _ h => h) ?_ hHeld ?_
    rotate_left
    · intro o ho
      simp at ho
      subst ho
      intro wz hSw
      try dsimp only at hSw
      go_simp
      try with_reducible rfl
    try simp only [Act.put, List.setIfInBounds_toArray, List.set_cons_zero, List.set_cons_succ]
    refine hand_take (i := 2) (d := some 16) (v := .bool false) rfl (by kernel_rfl) (by kernel_rfl) (by kernel_rfl) (fun _ _ _ h => h) ?_ hHeld ?_
    · intro o ho
      simp at ho
      subst ho
      intro wz hSw
      try dsimp only at hSw
      go_simp; try simp [c1]
    try simp only [Act.put, List.setIfInBounds_toArray, List.set_cons_zero, List.set_cons_succ]
    refine hand_take (i := 3) (d := some 17) (v := ?_) rfl (by kernel_rfl) (by kernel_rfl) (by kernel_rfl) (fun _ _ _ h => h) ?_ hHeld ?_
    rotate_left
    · intro o ho
      simp at ho
      subst ho
      intro wz hSw
      try dsimp only at hSw
      go_simp
      try with_reducible rfl
    try simp only [Act.put, List.setIfInBounds_toArray, List.set_cons_zero, List.set_cons_succ]
    refine hand_take (i := 4) (d := some 18) (v := ?_) rfl (by kernel_rfl) (by kernel_rfl) (by kernel_rfl) (fun _ _ _ h => h) ?_ hHeld ?_
    rotate_left
    · intro o ho
      simp at ho
      subst ho
      intro wz hSw
      try dsimp only at hSw
      go_simp
      try with_reducible rfl
    try simp only [Act.put, List.setIfInBounds_toArray, List.set_cons_zero, List.set_cons_succ]
    refine hand_take (i := 5) (d := some 19) (v := ?_) rfl (by kernel_rfl) (by kernel_rfl) (by kernel_rfl) (fun _ _ _ h => h) ?_ hHeld ?_
    rotate_left
    · intro o ho
      simp at ho
      subst ho
      intro wz hSw
      try dsimp only at hSw
      go_simp
      try with_reducible rfl
    try simp only [Act.put, List.setIfInBounds_toArray, List.set_cons_zero, List.set_cons_succ]
    refine hand_take (i := 6) (d := some 20) (v := ?_) rfl (by kernel_rfl) (by kernel_rfl) (by kernel_rfl) (fun _ _ _ h => h) ?_ hHeld ?_
    rotate_left
    · intro o ho
      simp at ho
      subst ho
      intro wz hSw
      try dsimp only at hSw
      go_simp
      try with_reducible rfl
    try simp only [Act.put, List.setIfInBounds_toArray, List.set_cons_zero, List.set_cons_succ]
    refine hand_take (i := 7) (d := some 21) (v := ?_) rfl (by kernel_rfl) (by kernel_rfl) (by kernel_rfl) (fun _ _ _ h => h) ?_ hHeld ?_
    rotate_left
    · intro o ho
      simp at ho
      subst ho
      intro wz hSw
      try dsimp only at hSw
      go_simp
      try with_reducible rfl
    try simp only [Act.put, List.setIfInBounds_toArray, List.set_cons_zero, List.set_cons_succ]
    refine hand_take (i := 8) (d := some 22) (v := ?_) rfl (by kernel_rfl) (by kernel_rfl) (by kernel_rfl) (fun _ _ _ h => h) ?_ hHeld ?_
    rotate_left
    · intro o ho
      simp at ho
      subst ho
      intro wz hSw
      try dsimp only at hSw
      go_simp
      try with_reducible rfl
    try simp only [Act.put, List.setIfInBounds_toArray, List.set_cons_zero, List.set_cons_succ]
    refine hand_call (i := 9) rfl (by kernel_rfl) ?_
    intro o ho
    simp at ho
    subst ho
    intro K hK
    go_simp; go_at_call 21; refine (rOver_c p g1 g2 On Off a.b _ hHeld.1.out ov hov).mono ?_; rintro e w' ⟨rfl, hw'⟩; rw [hw']; clear hw' w'
    refine hK.out _ _ ?_ (fun hHeld => ?_)
    · exact hHeld
    clear hK K
    try simp only [Act.put, List.setIfInBounds_toArray, List.set_cons_zero, List.set_cons_succ]
    refine hand_take (i := 10) (d := some 24) (v := .bool true) rfl (by kernel_rfl) (by kernel_rfl) (by kernel_rfl) (fun _ _ _ h => h) ?_ hHeld ?_
    · intro o ho
      simp at ho
      subst ho
      intro wz hSw
      try dsimp only at hSw
      go_simp; try simp [c2]
    try simp only [Act.put, List.setIfInBounds_toArray, List.set_cons_zero, List.set_cons_succ]
    refine hand_take (i := 11) (d := some 25) (v := ?_) rfl (by kernel_rfl) (by kernel_rfl) (by kernel_rfl) (fun _ _ _ h => h) ?_ hHeld ?_
    rotate_left
    · intro o ho
      simp at ho
      subst ho
      intro wz hSw
      try dsimp only at hSw
      go_simp
      try with_reducible rfl
    try simp only [Act.put, List.setIfInBounds_toArray, List.set_cons_zero, List.set_cons_succ]
    refine hand_take (i := 12) (d := some 26) (v := ?_) rfl (by kernel_rfl) (by kernel_rfl) (by kernel_rfl) (fun _ _ _ h => h) ?_ hHeld ?_
    rotate_left
    · intro o ho
      simp at ho
      subst ho
      intro wz hSw
      try dsimp only at hSw
      go_simp
      try with_reducible rfl
    try simp only [Act.put, List.setIfInBounds_toArray, List.set_cons_zero, List.set_cons_succ]
    refine hand_skip (i := 13) (d := some 27) rfl (by kernel_rfl) (by kernel_rfl) (by kernel_rfl) (fun _ _ _ h => h) hHeld ?_
    try simp only [Act.put, List.setIfInBounds_toArray, List.set_cons_zero, List.set_cons_succ]
    refine hand_skip (i := 14) (d := some 28) rfl (by kernel_rfl) (by kernel_rfl) (by kernel_rfl) (fun _ _ _ h => h) hHeld ?_
    try simp only [Act.put, List.setIfInBounds_toArray, List.set_cons_zero, List.set_cons_succ]
    refine hand_skip (i := 15) (d := some 29) rfl (by kernel_rfl) (by kernel_rfl) (by kernel_rfl) (fun _ _ _ h => h) hHeld ?_
    try simp only [Act.put, List.setIfInBounds_toArray, List.set_cons_zero, List.set_cons_succ]
    refine hand_skip (i := 16) (d := some 30) rfl (by kernel_rfl) (by kernel_rfl) (by kernel_rfl) (fun _ _ _ h => h) hHeld ?_
    try simp only [Act.put, List.setIfInBounds_toArray, List.set_cons_zero, List.set_cons_succ]
    refine hand_skip (i := 17) (d := some 31) rfl (by kernel_rfl) (by kernel_rfl) (by kernel_rfl) (fun _ _ _ h => h) hHeld ?_
    try simp only [Act.put, List.setIfInBounds_toArray, List.set_cons_zero, List.set_cons_succ]
    refine hand_take (i := 18) (d := some 32) (v := ?_) rfl (by kernel_rfl) (by kernel_rfl) (by kernel_rfl) (fun _ _ _ h => h) ?_ hHeld ?_
    rotate_left
    · intro o ho
      simp at ho
      subst ho
      intro wz hSw
      try dsimp only at hSw
      go_simp
      try with_reducible rfl
    try simp only [Act.put, List.setIfInBounds_toArray, List.set_cons_zero, List.set_cons_succ]
    refine wpAnyH_done (by kernel_rfl) (NoPanic.normal ?_) _
    clear hHeld
    go_wp2_with fail
    go_ret
    refine ⟨rfl, ?_⟩
    first | exact hB.out.drew | exact ⟨fun h => (by cases h), fun _ => hB.out.drew⟩
  by_cases c3 : a.s ≤ x.s
  · obtain rfl : ok = false := by rw [← hok'.out]; exact decide_eq_false (by omega)
    go_wp2_with fail
    refine wp_region_noPanic ?_
    refine wp_region_held_drew (S := (fun w' => Hid (RtIs w' p g1 g2 On Off) ∧ w'.cell? ⟨w.heap.size, 0, none⟩ = some (.int .i64 a.b) ∧ w'.cell? ⟨w.heap.size, 2, none⟩ = some (.int .i64 a.s) ∧ w'.cell? ⟨w1.heap.size, 2, none⟩ = some (.int .i64 x.s))) (by kernel_rfl) ?_ (fun hHeld => ?_)
    · exact ⟨hide (hR.out.below (Below.refl _ _).drew), b0, b2, x2⟩
    refine hand_take (i := 0) (d := some 14) (v := ?_) rfl (by kernel_rfl) (by kernel_rfl) (by kernel_rfl) (fun _ _ _ h => h) ?_ hHeld ?_
    rotate_left
    · intro o ho
      simp at ho
      subst ho
      intro wz hSw
      try dsimp only at hSw
      go_simp
      try with_reducible rfl
    try simp only [Act.put, List.setIfInBounds_toArray, List.set_cons_zero, List.set_cons_succ]
    refine hand_take (i := 1) (d := some 15) (v := ?_) rfl (by kernel_rfl) (by kernel_rfl) (by kernel_rfl) (fun _ _ _ h => h) ?_ hHeld ?_
    rotate_left
    · intro o ho
      simp at ho
      subst ho
      intro wz hSw
      try dsimp only at hSw
      go_simp
      try with_reducible rfl
    try simp only [Act.put, List.setIfInBounds_toArray, List.set_cons_zero, List.set_cons_succ]
    refine hand_take (i := 2) (d := some 16) (v := .bool false) rfl (by kernel_rfl) (by kernel_rfl) (by kernel_rfl) (fun _ _ _ h => h) ?_ hHeld ?_
    · intro o ho
      simp at ho
      subst ho
      intro wz hSw
      try dsimp only at hSw
      go_simp; try simp [c1]
    try simp only [Act.put, List.setIfInBounds_toArray, List.set_cons_zero, List.set_cons_succ]
    refine hand_take (i := 3) (d := some 17) (v := ?_) rfl (by kernel_rfl) (by kernel_rfl) (by kernel_rfl) (fun _ _ _ h => h) ?_ hHeld ?_
    rotate_left
    · intro o ho
      simp at ho
      subst ho
      intro wz hSw
      try dsimp only at hSw
      go_simp
      try with_reducible rfl
    try simp only [Act.put, List.setIfInBounds_toArray, List.set_cons_zero, List.set_cons_succ]
    refine hand_take (i := 4) (d := some 18) (v := ?_) rfl (by kernel_rfl) (by kernel_rfl) (by kernel_rfl) (fun _ _ _ h => h) ?_ hHeld ?_
    rotate_left
    · intro o ho
      simp at ho
      subst ho
      intro wz hSw
      try dsimp only at hSw
      go_simp
      try with_reducible rfl
    try simp only [Act.put, List.setIfInBounds_toArray, List.set_cons_zero, List.set_cons_succ]
    refine hand_take (i := 5) (d := some 19) (v := ?_) rfl (by kernel_rfl) (by kernel_rfl) (by kernel_rfl) (fun _ _ _ h => h) ?_ hHeld ?_
    rotate_left
    · intro o ho
      simp at ho
      subst ho
      intro wz hSw
      try dsimp only at hSw
      go_simp
      try with_reducible rfl
    try simp only [Act.put, List.setIfInBounds_toArray, List.set_cons_zero, List.set_cons_succ]
    refine hand_take (i := 6) (d := some 20) (v := ?_) rfl (by kernel_rfl) (by kernel_rfl) (by kernel_rfl) (fun _ _ _ h => h) ?_ hHeld ?_
    rotate_left
    · intro o ho
      simp at ho
      subst ho
      intro wz hSw
      try dsimp only at hSw
      go_simp
      try with_reducible rfl
    try simp only [Act.put, List.setIfInBounds_toArray, List.set_cons_zero, List.set_cons_succ]
    refine hand_take (i := 7) (d := some 21) (v := ?_) rfl (by kernel_rfl) (by kernel_rfl) (by kernel_rfl) (fun _ _ _ h => h) ?_ hHeld ?_
    rotate_left
    · intro o ho
      simp at ho
      subst ho
      intro wz hSw
      try dsimp only at hSw
      go_simp
      try with_reducible rfl
    try simp only [Act.put, List.setIfInBounds_toArray, List.set_cons_zero, List.set_cons_succ]
    refine hand_take (i := 8) (d := some 22) (v := ?_) rfl (by kernel_rfl) (by kernel_rfl) (by kernel_rfl) (fun _ _ _ h => h) ?_ hHeld ?_
    rotate_left
    · intro o ho
      simp at ho
      subst ho
      intro wz hSw
      try dsimp only at hSw
      go_simp
      try with_reducible rfl
    try simp only [Act.put, List.setIfInBounds_toArray, List.set_cons_zero, List.set_cons_succ]
    refine hand_call (i := 9) rfl (by kernel_rfl) ?_
    intro o ho
    simp at ho
    subst ho
    intro K hK
    go_simp; go_at_call 21; refine (rOver_c p g1 g2 On Off a.b _ hHeld.1.out ov hov).mono ?_; rintro e w' ⟨rfl, hw'⟩; rw [hw']; clear hw' w'
    refine hK.out _ _ ?_ (fun hHeld => ?_)
    · exact hHeld
    clear hK K
    try simp only [Act.put, List.setIfInBounds_toArray, List.set_cons_zero, List.set_cons_succ]
    refine hand_take (i := 10) (d := some 24) (v := .bool false) rfl (by kernel_rfl) (by kernel_rfl) (by kernel_rfl) (fun _ _ _ h => h) ?_ hHeld ?_
    · intro o ho
      simp at ho
      subst ho
      intro wz hSw
      try dsimp only at hSw
      go_simp; try simp [c2]
    try simp only [Act.put, List.setIfInBounds_toArray, List.set_cons_zero, List.set_cons_succ]
    refine hand_take (i := 11) (d := some 25) (v := ?_) rfl (by kernel_rfl) (by kernel_rfl) (by kernel_rfl) (fun _ _ _ h => h) ?_ hHeld ?_
    rotate_left
    · intro o ho
      simp at ho
      subst ho
      intro wz hSw
      try dsimp only at hSw
      go_simp
      try with_reducible rfl
    try simp only [Act.put, List.setIfInBounds_toArray, List.set_cons_zero, List.set_cons_succ]
    refine hand_take (i := 12) (d := some 26) (v := ?_) rfl (by kernel_rfl) (by kernel_rfl) (by kernel_rfl) (fun _ _ _ h => h) ?_ hHeld ?_
    rotate_left
    · intro o ho
      simp at ho
      subst ho
      intro wz hSw
      try dsimp only at hSw
      go_simp
      try with_reducible rfl
    try simp only [Act.put, List.setIfInBounds_toArray, List.set_cons_zero, List.set_cons_succ]
    refine hand_take (i := 13) (d := some 27) (v := ?_) rfl (by kernel_rfl) (by kernel_rfl) (by kernel_rfl) (fun _ _ _ h => h) ?_ hHeld ?_
    rotate_left
    · intro o ho
      simp at ho
      subst ho
      intro wz hSw
      try dsimp only at hSw
      go_simp
      try with_reducible rfl
    try simp only [Act.put, List.setIfInBounds_toArray, List.set_cons_zero, List.set_cons_succ]
    refine hand_take (i := 14) (d := some 28) (v := ?_) rfl (by kernel_rfl) (by kernel_rfl) (by kernel_rfl) (fun _ _ _ h => h) ?_ hHeld ?_
    rotate_left
    · intro o ho
      simp at ho
      subst ho
      intro wz hSw
      try dsimp only at hSw
      go_simp
      try with_reducible rfl
    try simp only [Act.put, List.setIfInBounds_toArray, List.set_cons_zero, List.set_cons_succ]
    refine hand_take (i := 15) (d := some 29) (v := ?_) rfl (by kernel_rfl) (by kernel_rfl) (by kernel_rfl) (fun _ _ _ h => h) ?_ hHeld ?_
    rotate_left
    · intro o ho
      simp at ho
      subst ho
      intro wz hSw
      try dsimp only at hSw
      go_simp
      try with_reducible rfl
    try simp only [Act.put, List.setIfInBounds_toArray, List.set_cons_zero, List.set_cons_succ]
    refine hand_take (i := 16) (d := some 30) (v := ?_) rfl (by kernel_rfl) (by kernel_rfl) (by kernel_rfl) (fun _ _ _ h => h) ?_ hHeld ?_
    rotate_left
    · intro o ho
      simp at ho
      subst ho
      intro wz hSw
      try dsimp only at hSw
      go_simp
      try with_reducible rfl
    try simp only [Act.put, List.setIfInBounds_toArray, List.set_cons_zero, List.set_cons_succ]
    refine hand_take (i := 17) (d := some 31) (v := .bool true) rfl (by kernel_rfl) (by kernel_rfl) (by kernel_rfl) (fun _ _ _ h => h) ?_ hHeld ?_
    · intro o ho
      simp at ho
      subst ho
      intro wz hSw
      try dsimp only at hSw
      go_simp; try simp [c3]
    try simp only [Act.put, List.setIfInBounds_toArray, List.set_cons_zero, List.set_cons_succ]
    refine hand_take (i := 18) (d := some 32) (v := ?_) rfl (by kernel_rfl) (by kernel_rfl) (by kernel_rfl) (fun _ _ _ h => h) ?_ hHeld ?_
    rotate_left
    · intro o ho
      simp at ho
      subst ho
      intro wz hSw
      try dsimp only at hSw
      go_simp
      try with_reducible rfl
    try simp only [Act.put, List.setIfInBounds_toArray, List.set_cons_zero, List.set_cons_succ]
    refine wpAnyH_done (by kernel_rfl) (NoPanic.normal ?_) _
    clear hHeld
    go_wp2_with fail
    go_ret
    refine ⟨rfl, ?_⟩
    first | exact hB.out.drew | exact ⟨fun h => (by cases h), fun _ => hB.out.drew⟩
  · obtain rfl : ok = true := by rw [← hok'.out]; exact decide_eq_true (by omega)
    go_wp2_with fail
    refine wp_region_noPanic ?_
    refine wp_region_held_drew (S := (fun w' => Hid (RtIs w' p g1 g2 On Off) ∧ w'.cell? ⟨w.heap.size, 0, none⟩ = some (.int .i64 a.b) ∧ w'.cell? ⟨w.heap.size, 2, none⟩ = some (.int .i64 a.s) ∧ w'.cell? ⟨w1.heap.size, 2, none⟩ = some (.int .i64 x.s))) (by kernel_rfl) ?_ (fun hHeld => ?_)
    · exact ⟨hide (hR.out.below (Below.refl _ _).drew), b0, b2, x2⟩
    refine hand_take (i := 0) (d := some 14) (v := ?_) rfl (by kernel_rfl) (by kernel_rfl) (by kernel_rfl) (fun _ _ _ h => h) ?_ hHeld ?_
    rotate_left
    · intro o ho
      simp at ho
      subst ho
      intro wz hSw
      try dsimp only at hSw
      go_simp
      try with_reducible rfl
    try simp only [Act.put, List.setIfInBounds_toArray, List.set_cons_zero, List.set_cons_succ]
    refine hand_take (i := 1) (d := some 15) (v := ?_) rfl (by kernel_rfl) (by kernel_rfl) (by kernel_rfl) (fun _ _ _ h => h) ?_ hHeld ?_
    rotate_left
    · intro o ho
      simp at ho
      subst ho
      intro wz hSw
      try dsimp only at hSw
      go_simp
      try with_reducible rfl
    try simp only [Act.put, List.setIfInBounds_toArray, List.set_cons_zero, List.set_cons_succ]
    refine hand_take (i := 2) (d := some 16) (v := .bool false) rfl (by kernel_rfl) (by kernel_rfl) (by kernel_rfl) (fun _ _ _ h => h) ?_ hHeld ?_
    · intro o ho
      simp at ho
      subst ho
      intro wz hSw
      try dsimp only at hSw
      go_simp; try simp [c1]
    try simp only [Act.put, List.setIfInBounds_toArray, List.set_cons_zero, List.set_cons_succ]
    refine hand_take (i := 3) (d := some 17) (v := ?_) rfl (by kernel_rfl) (by kernel_rfl) (by kernel_rfl) (fun _ _ _ h => h) ?_ hHeld ?_
    rotate_left
    · intro o ho
      simp at ho
      subst ho
      intro wz hSw
      try dsimp only at hSw
      go_simp
      try with_reducible rfl
    try simp only [Act.put, List.setIfInBounds_toArray, List.set_cons_zero, List.set_cons_succ]
    refine hand_take (i := 4) (d := some 18) (v := ?_) rfl (by kernel_rfl) (by kernel_rfl) (by kernel_rfl) (fun _ _ _ h => h) ?_ hHeld ?_
    rotate_left
    · intro o ho
      simp at ho
      subst ho
      intro wz hSw
      try dsimp only at hSw
      go_simp
      try with_reducible rfl
    try simp only [Act.put, List.setIfInBounds_toArray, List.set_cons_zero, List.set_cons_succ]
    refine hand_take (i := 5) (d := some 19) (v := ?_) rfl (by kernel_rfl) (by kernel_rfl) (by kernel_rfl) (fun _ _ _ h => h) ?_ hHeld ?_
    rotate_left
    · intro o ho
      simp at ho
      subst ho
      intro wz hSw
      try dsimp only at hSw
      go_simp
      try with_reducible rfl
    try simp only [Act.put, List.setIfInBounds_toArray, List.set_cons_zero, List.set_cons_succ]
    refine hand_take (i := 6) (d := some 20) (v := ?_) rfl (by kernel_rfl) (by kernel_rfl) (by kernel_rfl) (fun _ _ _ h => h) ?_ hHeld ?_
    rotate_left
    · intro o ho
      simp at ho
      subst ho
      intro wz hSw
      try dsimp only at hSw
      go_simp
      try with_reducible rfl
    try simp only [Act.put, List.setIfInBounds_toArray, List.set_cons_zero, List.set_cons_succ]
    refine hand_take (i := 7) (d := some 21) (v := ?_) rfl (by kernel_rfl) (by kernel_rfl) (by kernel_rfl) (fun _ _ _ h => h) ?_ hHeld ?_
    rotate_left
    · intro o ho
      simp at ho
      subst ho
      intro wz hSw
      try dsimp only at hSw
      go_simp
      try with_reducible rfl
    try simp only [Act.put, List.setIfInBounds_toArray, List.set_cons_zero, List.set_cons_succ]
    refine hand_take (i := 8) (d := some 22) (v := ?_) rfl (by kernel_rfl) (by kernel_rfl) (by kernel_rfl) (fun _ _ _ h => h) ?_ hHeld ?_
    rotate_left
    · intro o ho
      simp at ho
      subst ho
      intro wz hSw
      try dsimp only at hSw
      go_simp
      try with_reducible rfl
    try simp only [Act.put, List.setIfInBounds_toArray, List.set_cons_zero, List.set_cons_succ]
    refine hand_call (i := 9) rfl (by kernel_rfl) ?_
    intro o ho
    simp at ho
    subst ho
    intro K hK
    go_simp; go_at_call 21; refine (rOver_c p g1 g2 On Off a.b _ hHeld.1.out ov hov).mono ?_; rintro e w' ⟨rfl, hw'⟩; rw [hw']; clear hw' w'
    refine hK.out _ _ ?_ (fun hHeld => ?_)
    · exact hHeld
    clear hK K
    try simp only [Act.put, List.setIfInBounds_toArray, List.set_cons_zero, List.set_cons_succ]
    refine hand_take (i := 10) (d := some 24) (v := .bool false) rfl (by kernel_rfl) (by kernel_rfl) (by kernel_rfl) (fun _ _ _ h => h) ?_ hHeld ?_
    · intro o ho
      simp at ho
      subst ho
      intro wz hSw
      try dsimp only at hSw
      go_simp; try simp [c2]
    try simp only [Act.put, List.setIfInBounds_toArray, List.set_cons_zero, List.set_cons_succ]
    refine hand_take (i := 11) (d := some 25) (v := ?_) rfl (by kernel_rfl) (by kernel_rfl) (by kernel_rfl) (fun _ _ _ h => h) ?_ hHeld ?_
    rotate_left
    · intro o ho
      simp at ho
      subst ho
      intro wz hSw
      try dsimp only at hSw
      go_simp
      try with_reducible rfl
    try simp only [Act.put, List.setIfInBounds_toArray, List.set_cons_zero, List.set_cons_succ]
    refine hand_take (i := 12) (d := some 26) (v := ?_) rfl (by kernel_rfl) (by kernel_rfl) (by kernel_rfl) (fun _ _ _ h => h) ?_ hHeld ?_
    rotate_left
    · intro o ho
      simp at ho
      subst ho
      intro wz hSw
      try dsimp only at hSw
      go_simp
      try with_reducible rfl
    try simp only [Act.put, List.setIfInBounds_toArray, List.set_cons_zero, List.set_cons_succ]
    refine hand_take (i := 13) (d := some 27) (v := ?_) rfl (by kernel_rfl) (by kernel_rfl) (by kernel_rfl) (fun _ _ _ h => h) ?_ hHeld ?_
    rotate_left
    · intro o ho
      simp at ho
      subst ho
      intro wz hSw
      try dsimp only at hSw
      go_simp
      try with_reducible rfl
    try simp only [Act.put, List.setIfInBounds_toArray, List.set_cons_zero, List.set_cons_succ]
    refine hand_take (i := 14) (d := some 28) (v := ?_) rfl (by kernel_rfl) (by kernel_rfl) (by kernel_rfl) (fun _ _ _ h => h) ?_ hHeld ?_
    rotate_left
    · intro o ho
      simp at ho
      subst ho
      intro wz hSw
      try dsimp only at hSw
      go_simp
      try with_reducible rfl
    try simp only [Act.put, List.setIfInBounds_toArray, List.set_cons_zero, List.set_cons_succ]
    refine hand_take (i := 15) (d := some 29) (v := ?_) rfl (by kernel_rfl) (by kernel_rfl) (by kernel_rfl) (fun _ _ _ h => h) ?_ hHeld ?_
    rotate_left
    · intro o ho
      simp at ho
      subst ho
      intro wz hSw
      try dsimp only at hSw
      go_simp
      try with_reducible rfl
    try simp only [Act.put, List.setIfInBounds_toArray, List.set_cons_zero, List.set_cons_succ]
    refine hand_take (i := 16) (d := some 30) (v := ?_) rfl (by kernel_rfl) (by kernel_rfl) (by kernel_rfl) (fun _ _ _ h => h) ?_ hHeld ?_
    rotate_left
    · intro o ho
      simp at ho
      subst ho
      intro wz hSw
      try dsimp only at hSw
      go_simp
      try with_reducible rfl
    try simp only [Act.put, List.setIfInBounds_toArray, List.set_cons_zero, List.set_cons_succ]
    refine hand_take (i := 17) (d := some 31) (v := .bool false) rfl (by kernel_rfl) (by kernel_rfl) (by kernel_rfl) (fun _ _ _ h => h) ?_ hHeld ?_
    · intro o ho
      simp at ho
      subst ho
      intro wz hSw
      try dsimp only at hSw
      go_simp; try simp [c3]
    try simp only [Act.put, List.setIfInBounds_toArray, List.set_cons_zero, List.set_cons_succ]
    refine hand_take (i := 18) (d := some 32) (v := ?_) rfl (by kernel_rfl) (by kernel_rfl) (by kernel_rfl) (fun _ _ _ h => h) ?_ hHeld ?_
    rotate_left
    · intro o ho
      simp at ho
      subst ho
      intro wz hSw
      try dsimp only at hSw
      go_simp
      try with_reducible rfl
    try simp only [Act.put, List.setIfInBounds_toArray, List.set_cons_zero, List.set_cons_succ]
    refine wpAnyH_done (by kernel_rfl) (NoPanic.normal ?_) _
    clear hHeld
    clear c1 c2 c3 x2 z1 y1
    have hB1 : Hid (Below w.heap.size w W.drew) := hide hB.out.drew
    have hR1 := hide (hR.out.below (Below.refl _ _).drew)
    obtain ⟨ao, cap, q0, hV⟩ := hR1.out.c0
    obtain ⟨n, hn⟩ : ∃ n, Hid (On.length = n) := ⟨_, rfl⟩
    have hn' : n ≤ 1000 := by have := hn.out; omega
    rw [hn.out] at q0 hV
    have l1 : Hid (([] : List At).length + On.length ≤ 1000000) := hide (by simp; omega)
    have l2 : Hid (([] : List At).length + On.length = n) := hide (by simpa using hn.out)
    have l3 : Hid (On.length + [a].length ≤ 1000000) := hide (by simp; omega)
    have l4 : Hid (On.length + [a].length = n + 1) := hide (by simpa using hn.out)
    have l5 : Hid ((On ++ [a]).length = n + 1) := hide (by simpa using hn.out)
    replace hV := hide hV
    go_wp2_with fail
    refine name_world ?_
    intro V hVW
    rw [hVW] at hV q0 hR1 hB1
    have hRW := hR1
    have hpW : p < V.heap.size := hR1.out.lt
    have hBW : w.heap.size < V.heap.size := by rw [← hVW]; show w.heap.size < W.heap.size; rw [hWs.out]; omega
    have d0 : V.cell? ⟨w.heap.size, 0, none⟩ = some (.int .i64 a.b) := by rw [← hVW]; exact b0
    have d1 : V.cell? ⟨w.heap.size, 1, none⟩ = some (.int .i64 a.n) := by rw [← hVW]; exact b1
    have d2 : V.cell? ⟨w.heap.size, 2, none⟩ = some (.int .i64 a.s) := by rw [← hVW]; exact b2
    have hC := hide (And.intro q0 (And.intro d0 (And.intro d1 d2)))
    clear hVW b0 b1 b2 hR hR1 hB hWs
    go_wp2_with fail
    refine wp_region_noPanic ?_
    refine last_begin 12 (fun w' => Hid (Below V.heap.size V w') ∧ w'.cell? ⟨p, 0, none⟩ = some (.slice ao n cap) ∧ w'.cell? ⟨w.heap.size, 0, none⟩ = some (.int .i64 a.b) ∧ w'.cell? ⟨w.heap.size, 1, none⟩ = some (.int .i64 a.n) ∧ w'.cell? ⟨w.heap.size, 2, none⟩ = some (.int .i64 a.s)) (by kernel_rfl) ?_ (fun hHeld => ?_)
    · exact heldA hpW hBW hC.out (Below.refl _ _).drew
    refine last_take (i := 0) (d := some 33) (v := ?_) rfl (by kernel_rfl) (by kernel_rfl) (by kernel_rfl) (by kernel_rfl) (fun _ _ _ h => h) ?_ hHeld ?_
    rotate_left
    · intro o ho
      simp at ho
      subst ho
      intro wz hSw
      try dsimp only at hSw
      go_simp
      try with_reducible rfl
    try simp only [Act.put, List.setIfInBounds_toArray, List.set_cons_zero, List.set_cons_succ]
    refine last_take (i := 2) (d := some 35) (v := ?_) rfl (by kernel_rfl) (by kernel_rfl) (by kernel_rfl) (by kernel_rfl) (fun _ _ _ h => h) ?_ hHeld ?_
    rotate_left
    · intro o ho
      simp at ho
      subst ho
      intro wz hSw
      try dsimp only at hSw
      go_simp
      try with_reducible rfl
    try simp only [Act.put, List.setIfInBounds_toArray, List.set_cons_zero, List.set_cons_succ]
    refine last_take (i := 3) (d := some 36) (v := ?_) rfl (by kernel_rfl) (by kernel_rfl) (by kernel_rfl) (by kernel_rfl) (fun _ _ _ h => h) ?_ hHeld ?_
    rotate_left
    · intro o ho
      simp at ho
      subst ho
      intro wz hSw
      try dsimp only at hSw
      go_simp
      try with_reducible rfl
    try simp only [Act.put, List.setIfInBounds_toArray, List.set_cons_zero, List.set_cons_succ]
    refine last_take (i := 4) (d := some 37) (v := ?_) rfl (by kernel_rfl) (by kernel_rfl) (by kernel_rfl) (by kernel_rfl) (fun _ _ _ h => h) ?_ hHeld ?_
    rotate_left
    · intro o ho
      simp at ho
      subst ho
      intro wz hSw
      try dsimp only at hSw
      go_simp
      try with_reducible rfl
    try simp only [Act.put, List.setIfInBounds_toArray, List.set_cons_zero, List.set_cons_succ]
    refine last_take (i := 5) (d := some 38) (v := ?_) rfl (by kernel_rfl) (by kernel_rfl) (by kernel_rfl) (by kernel_rfl) (fun _ _ _ h => h) ?_ hHeld ?_
    rotate_left
    · intro o ho
      simp at ho
      subst ho
      intro wz hSw
      try dsimp only at hSw
      go_simp
      try with_reducible rfl
    try simp only [Act.put, List.setIfInBounds_toArray, List.set_cons_zero, List.set_cons_succ]
    refine last_take (i := 7) (d := some 40) (v := ?_) rfl (by kernel_rfl) (by kernel_rfl) (by kernel_rfl) (by kernel_rfl) (fun _ _ _ h => h) ?_ hHeld ?_
    rotate_left
    · intro o ho
      simp at ho
      subst ho
      intro wz hSw
      try dsimp only at hSw
      go_simp
      try with_reducible rfl
    try simp only [Act.put, List.setIfInBounds_toArray, List.set_cons_zero, List.set_cons_succ]
    have b3 : Below V.heap.size V (V.drew.alloc (.cells #[] 31)) := (Below.refl _ _).drew.alloc (Nat.le_refl _) _
    have b4 : Below V.heap.size V (V.drew.alloc (atwO a)) := (Below.refl _ _).drew.alloc (Nat.le_refl _) _
    have b5 : Below V.heap.size V ((V.drew.alloc (.cells #[] 31)).alloc (atwO a)) := b3.alloc b3.size _
    have b6 : Below V.heap.size V ((V.drew.alloc (atwO a)).alloc (.cells #[] 31)) := b4.alloc b4.size _
    replace b3 := hide b3
    replace b4 := hide b4
    replace b5 := hide b5
    replace b6 := hide b6
    refine last_two (i := 1) (j := 8) rfl rfl (by kernel_rfl) ?_ ?_
    · intro oo ho
      simp at ho
      subst ho
      intro K hK
      go_simp
      refine hK.out _ _ (fun _ => ?_) (fun hHeld0 => ?_)
      · exact heldA hpW hBW hC.out b3.out
      clear hK K
      replace hHeld := hHeld0 (by decide)
      clear hHeld0
      try simp only [Act.put, List.setIfInBounds_toArray, List.set_cons_zero, List.set_cons_succ]
      refine last_two (i := 6) (j := 8) rfl rfl (by kernel_rfl) ?_ ?_
      · intro oo ho
        simp at ho
        subst ho
        intro K hK
        refine wp_appA (.tmp 34) (.tmp 38) rfl rfl rfl (own_emptyKA (k := V.heap.size) rfl _) (hV.out.below b3.out) l1.out n l2.out ?_
        intro ao2 cap2 w2 g2' hown2 hap2
        rw [List.nil_append] at hown2
        obtain ⟨hB2, hg2⟩ := app_below b3.out (by omega) hap2
        have hne2 := True.intro
        refine hK.out _ _ (fun _ => ?_) (fun hHeld0 => ?_)
        · exact heldA hpW hBW hC.out hB2
        clear hK K
        replace hHeld := hHeld0 (by decide)
        clear hHeld0
        try simp only [Act.put, List.setIfInBounds_toArray, List.set_cons_zero, List.set_cons_succ]
        refine last_call (i := 8) rfl (by kernel_rfl) ?_
        intro oo ho
        simp at ho
        subst ho
        intro K hK
        go_simp
        have M : Hid (AMid V (w2.alloc (atwO a)) ao2 n cap2 g2' w2.heap.size On a) := hide ⟨hown2.alloc _, view_oneA w2 a, hB2.alloc hB2.size _, hg2⟩
        refine hK.out _ _ (fun _ => ?_) (fun hHeld0 => ?_)
        · exact heldA hpW hBW hC.out M.out.b
        clear hK K
        replace hHeld := hHeld0 (by decide)
        clear hHeld0
        try simp only [Act.put, List.setIfInBounds_toArray, List.set_cons_zero, List.set_cons_succ]
        clear hown2 hap2 hB2 hg2
        refine last_call (i := 9) rfl (by kernel_rfl) ?_
        intro oo ho
        simp at ho
        subst ho
        intro K hK
        refine wp_appA (.tmp 39) (.tmp 41) rfl rfl rfl M.out.own M.out.one l3.out (n + 1) l4.out ?_
        intro ao3 cap3 w3 g3 hown3 hap3
        obtain ⟨hB3, hg3⟩ := app_below M.out.b M.out.lo hap3
        refine hK.out _ _ (fun _ => ?_) (fun hHeld0 => ?_)
        · exact heldA hpW hBW hC.out hB3
        clear hK K
        replace hHeld := hHeld0 (by decide)
        clear hHeld0
        try simp only [Act.put, List.setIfInBounds_toArray, List.set_cons_zero, List.set_cons_succ]
        clear hap3 M
        rw [← l5.out] at hown3
        obtain ⟨⟨vo, q1⟩, q2, hfin⟩ := hRW.out.put0 hB3 hown3 hg3
        rw [l5.out] at hfin
        replace hfin := hide hfin
        clear hown3
        refine last_call (i := 10) rfl (by kernel_rfl) ?_
        intro o ho
        simp at ho
        subst ho
        intro K hK
        go_simp
        refine hK.out _ _ (fun _ => ?_) (fun hHeld0 => ?_)
        · exact heldA hpW hBW hC.out hB3
        clear hK K
        replace hHeld := hHeld0 (by decide)
        clear hHeld0
        try simp only [Act.put, List.setIfInBounds_toArray, List.set_cons_zero, List.set_cons_succ]
        refine last_take (i := 11) (d := some 44) (v := ?_) rfl (by kernel_rfl) (by kernel_rfl) (by kernel_rfl) (by kernel_rfl) (fun _ _ _ h => h) ?_ hHeld ?_
        rotate_left
        · intro o ho
          simp at ho
          subst ho
          intro wz hSw
          try dsimp only at hSw
          go_simp
          try with_reducible rfl
        try simp only [Act.put, List.setIfInBounds_toArray, List.set_cons_zero, List.set_cons_succ]
        refine last_call (i := 12) rfl (by kernel_rfl) ?_
        intro o ho
        simp at ho
        subst ho
        intro K hK
        go_simp
        refine hK.out _ _ (fun h => absurd rfl h) (fun _ => ?_)
        clear hK K
        try simp only [Act.put, List.setIfInBounds_toArray, List.set_cons_zero, List.set_cons_succ]
        refine last_done (by kernel_rfl) (NoPanic.normal ?_) _
        clear hHeld
        go_wp2_with fail
        go_ret
        refine ⟨rfl, ?_⟩
        first | exact ⟨g3, hfin.out.1, Nat.le_trans hB1.out.size hg3, (FrS.of_below hB1.out).trans hfin.out.2 (fun _ e => .inl e)⟩ | exact ⟨fun _ => ⟨g3, hfin.out.1, Nat.le_trans hB1.out.size hg3, (FrS.of_below hB1.out).trans hfin.out.2 (fun _ e => .inl e)⟩, fun h => (by cases h)⟩
      · intro oo ho
        simp at ho
        subst ho
        intro K hK
        go_simp
        refine hK.out _ _ (fun _ => ?_) (fun hHeld0 => ?_)
        · exact heldA hpW hBW hC.out b5.out
        clear hK K
        replace hHeld := hHeld0 (by decide)
        clear hHeld0
        try simp only [Act.put, List.setIfInBounds_toArray, List.set_cons_zero, List.set_cons_succ]
        refine last_call (i := 6) rfl (by kernel_rfl) ?_
        intro oo ho
        simp at ho
        subst ho
        intro K hK
        have o1 := view_oneA (V.drew.alloc (.cells #[] 31)) a
        rw [World.size_alloc] at o1
        refine wp_appA (.tmp 34) (.tmp 38) rfl rfl rfl ((own_emptyKA (w := V.drew) (k := V.heap.size) rfl _).alloc _) (hV.out.below b5.out) l1.out n l2.out ?_
        intro ao2 cap2 w2 g2' hown2 hap2
        rw [List.nil_append] at hown2
        obtain ⟨hB2, hg2⟩ := app_below b5.out (by omega) hap2
        have hne2 := one_app o1 hap2 (by show V.heap.size + 1 ≠ V.heap.size; omega)
        refine hK.out _ _ (fun _ => ?_) (fun hHeld0 => ?_)
        · exact heldA hpW hBW hC.out hB2
        clear hK K
        replace hHeld := hHeld0 (by decide)
        clear hHeld0
        try simp only [Act.put, List.setIfInBounds_toArray, List.set_cons_zero, List.set_cons_succ]
        have M : Hid (AMid V w2 ao2 n cap2 g2' (V.heap.size + 1) On a) := hide ⟨hown2, hne2, hB2, hg2⟩
        clear hown2 hap2 hB2 hg2 hne2 o1
        refine last_call (i := 9) rfl (by kernel_rfl) ?_
        intro oo ho
        simp at ho
        subst ho
        intro K hK
        refine wp_appA (.tmp 39) (.tmp 41) rfl rfl rfl M.out.own M.out.one l3.out (n + 1) l4.out ?_
        intro ao3 cap3 w3 g3 hown3 hap3
        obtain ⟨hB3, hg3⟩ := app_below M.out.b M.out.lo hap3
        refine hK.out _ _ (fun _ => ?_) (fun hHeld0 => ?_)
        · exact heldA hpW hBW hC.out hB3
        clear hK K
        replace hHeld := hHeld0 (by decide)
        clear hHeld0
        try simp only [Act.put, List.setIfInBounds_toArray, List.set_cons_zero, List.set_cons_succ]
        clear hap3 M
        rw [← l5.out] at hown3
        obtain ⟨⟨vo, q1⟩, q2, hfin⟩ := hRW.out.put0 hB3 hown3 hg3
        rw [l5.out] at hfin
        replace hfin := hide hfin
        clear hown3
        refine last_call (i := 10) rfl (by kernel_rfl) ?_
        intro o ho
        simp at ho
        subst ho
        intro K hK
        go_simp
        refine hK.out _ _ (fun _ => ?_) (fun hHeld0 => ?_)
        · exact heldA hpW hBW hC.out hB3
        clear hK K
        replace hHeld := hHeld0 (by decide)
        clear hHeld0
        try simp only [Act.put, List.setIfInBounds_toArray, List.set_cons_zero, List.set_cons_succ]
        refine last_take (i := 11) (d := some 44) (v := ?_) rfl (by kernel_rfl) (by kernel_rfl) (by kernel_rfl) (by kernel_rfl) (fun _ _ _ h => h) ?_ hHeld ?_
        rotate_left
        · intro o ho
          simp at ho
          subst ho
          intro wz hSw
          try dsimp only at hSw
          go_simp
          try with_reducible rfl
        try simp only [Act.put, List.setIfInBounds_toArray, List.set_cons_zero, List.set_cons_succ]
        refine last_call (i := 12) rfl (by kernel_rfl) ?_
        intro o ho
        simp at ho
        subst ho
        intro K hK
        go_simp
        refine hK.out _ _ (fun h => absurd rfl h) (fun _ => ?_)
        clear hK K
        try simp only [Act.put, List.setIfInBounds_toArray, List.set_cons_zero, List.set_cons_succ]
        refine last_done (by kernel_rfl) (NoPanic.normal ?_) _
        clear hHeld
        go_wp2_with fail
        go_ret
        refine ⟨rfl, ?_⟩
        first | exact ⟨g3, hfin.out.1, Nat.le_trans hB1.out.size hg3, (FrS.of_below hB1.out).trans hfin.out.2 (fun _ e => .inl e)⟩ | exact ⟨fun _ => ⟨g3, hfin.out.1, Nat.le_trans hB1.out.size hg3, (FrS.of_below hB1.out).trans hfin.out.2 (fun _ e => .inl e)⟩, fun h => (by cases h)⟩
    · intro oo ho
      simp at ho
      subst ho
      intro K hK
      go_simp
      refine hK.out _ _ (fun _ => ?_) (fun hHeld0 => ?_)
      · exact heldA hpW hBW hC.out b4.out
      clear hK K
      replace hHeld := hHeld0 (by decide)
      clear hHeld0
      try simp only [Act.put, List.setIfInBounds_toArray, List.set_cons_zero, List.set_cons_succ]
      refine last_call (i := 1) rfl (by kernel_rfl) ?_
      intro oo ho
      simp at ho
      subst ho
      intro K hK
      go_simp
      refine hK.out _ _ (fun _ => ?_) (fun hHeld0 => ?_)
      · exact heldA hpW hBW hC.out b6.out
      clear hK K
      replace hHeld := hHeld0 (by decide)
      clear hHeld0
      try simp only [Act.put, List.setIfInBounds_toArray, List.set_cons_zero, List.set_cons_succ]
      refine last_call (i := 6) rfl (by kernel_rfl) ?_
      intro oo ho
      simp at ho
      subst ho
      intro K hK
      have o1 := (view_oneA V.drew a).alloc (.cells #[] 31)
      refine wp_appA (.tmp 34) (.tmp 38) rfl rfl rfl (own_emptyKA (w := V.drew.alloc (atwO a)) (k := V.heap.size + 1) (by simp) _) (hV.out.below b6.out) l1.out n l2.out ?_
      intro ao2 cap2 w2 g2' hown2 hap2
      rw [List.nil_append] at hown2
      obtain ⟨hB2, hg2⟩ := app_below b6.out (by omega) hap2
      have hne2 := one_app o1 hap2 (by show V.heap.size ≠ V.heap.size + 1; omega)
      refine hK.out _ _ (fun _ => ?_) (fun hHeld0 => ?_)
      · exact heldA hpW hBW hC.out hB2
      clear hK K
      replace hHeld := hHeld0 (by decide)
      clear hHeld0
      try simp only [Act.put, List.setIfInBounds_toArray, List.set_cons_zero, List.set_cons_succ]
      have M : Hid (AMid V w2 ao2 n cap2 g2' V.heap.size On a) := hide ⟨hown2, hne2, hB2, hg2⟩
      clear hown2 hap2 hB2 hg2 hne2 o1
      refine last_call (i := 9) rfl (by kernel_rfl) ?_
      intro oo ho
      simp at ho
      subst ho
      intro K hK
      refine wp_appA (.tmp 39) (.tmp 41) rfl rfl rfl M.out.own M.out.one l3.out (n + 1) l4.out ?_
      intro ao3 cap3 w3 g3 hown3 hap3
      obtain ⟨hB3, hg3⟩ := app_below M.out.b M.out.lo hap3
      refine hK.out _ _ (fun _ => ?_) (fun hHeld0 => ?_)
      · exact heldA hpW hBW hC.out hB3
      clear hK K
      replace hHeld := hHeld0 (by decide)
      clear hHeld0
      try simp only [Act.put, List.setIfInBounds_toArray, List.set_cons_zero, List.set_cons_succ]
      clear hap3 M
      rw [← l5.out] at hown3
      obtain ⟨⟨vo, q1⟩, q2, hfin⟩ := hRW.out.put0 hB3 hown3 hg3
      rw [l5.out] at hfin
      replace hfin := hide hfin
      clear hown3
      refine last_call (i := 10) rfl (by kernel_rfl) ?_
      intro o ho
      simp at ho
      subst ho
      intro K hK
      go_simp
      refine hK.out _ _ (fun _ => ?_) (fun hHeld0 => ?_)
      · exact heldA hpW hBW hC.out hB3
      clear hK K
      replace hHeld := hHeld0 (by decide)
      clear hHeld0
      try simp only [Act.put, List.setIfInBounds_toArray, List.set_cons_zero, List.set_cons_succ]
      refine last_take (i := 11) (d := some 44) (v := ?_) rfl (by kernel_rfl) (by kernel_rfl) (by kernel_rfl) (by kernel_rfl) (fun _ _ _ h => h) ?_ hHeld ?_
      rotate_left
      · intro o ho
        simp at ho
        subst ho
        intro wz hSw
        try dsimp only at hSw
        go_simp
        try with_reducible rfl
      try simp only [Act.put, List.setIfInBounds_toArray, List.set_cons_zero, List.set_cons_succ]
      refine last_call (i := 12) rfl (by kernel_rfl) ?_
      intro o ho
      simp at ho
      subst ho
      intro K hK
      go_simp
      refine hK.out _ _ (fun h => absurd rfl h) (fun _ => ?_)
      clear hK K
      try simp only [Act.put, List.setIfInBounds_toArray, List.set_cons_zero, List.set_cons_succ]
      refine last_done (by kernel_rfl) (NoPanic.normal ?_) _
      clear hHeld
      go_wp2_with fail
      go_ret
      refine ⟨rfl, ?_⟩
      first | exact ⟨g3, hfin.out.1, Nat.le_trans hB1.out.size hg3, (FrS.of_below hB1.out).trans hfin.out.2 (fun _ e => .inl e)⟩ | exact ⟨fun _ => ⟨g3, hfin.out.1, Nat.le_trans hB1.out.size hg3, (FrS.of_below hB1.out).trans hfin.out.2 (fun _ e => .inl e)⟩, fun h => (by cases h)⟩
end Go.Proofs.Ytgaabbnfjapcjaa
