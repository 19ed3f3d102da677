/- The walk of MemoryTakes: it returns true; no old memory turns. Written by wip/gen10l.py. -/
import Derived.Test.YtafccninjjhibaaLaw10
import Derived.Test.YtafccninjjhibaaRef02b
namespace Go.Proofs.Ytafccninjjhibaa
open Go.ChangeShapes Go.WideShapes Go.ChangeAt Go.RowKit
set_option linter.unusedSimpArgs false
set_option linter.unusedVariables false
set_option maxRecDepth 10000

attribute [local go_sem, local simp] over_const setCell_drewN alloc_drewN Over.cell Over.frozen lt_s1 lt_s2 lt_s3 le_s0 le_s1 le_s2 le_s3 eq_s0 eq_s1 eq_s2 qe_s0

abbrev b5 : Bun := ⟨5, true, true, 0⟩
theorem new45 : newM 4 5 = [b5, b5, b5, b5] := by rfl
theorem ok5 : okB b5 := by simp [okB]
theorem get45 (x : Int) : (hasM (newM 4 5) x = true ∧ 0 ≤ x ∧ x ≤ 3 ∧ getM (newM 4 5) x = b5) ∨ (hasM (newM 4 5) x = false ∧ (x < 0 ∨ 3 < x) ∧ getM (newM 4 5) x = bun0) := by
  rw [new45]
  by_cases c : hasM [b5, b5, b5, b5] x = true
  · left
    obtain ⟨j, rfl, hj⟩ := hasM_at c
    refine ⟨c, by omega, by simp at hj; omega, ?_⟩
    rw [getM_nat hj]
    have : j = 0 ∨ j = 1 ∨ j = 2 ∨ j = 3 := by simp at hj; omega
    rcases this with rfl | rfl | rfl | rfl <;> rfl
  · right
    have c' : hasM [b5, b5, b5, b5] x = false := by simpa using c
    refine ⟨c', ?_, getM_out c'⟩
    simp [hasM] at c
    omega

theorem tak_get {L : List Bun} {x c : Int} {o : Bool} (h : hasM L x = true) (y : Int) : getM (takM L x c o) y = if y = x then restB (getM L x) c o else getM L y := by
  obtain ⟨j, rfl, hj⟩ := hasM_at h
  rw [takM_nat hj, getM_nat hj]
  have hl : (L.set j (restB L[j] c o)).length = L.length := by simp
  by_cases k : hasM L y = true
  · obtain ⟨i, rfl, hi⟩ := hasM_at k
    rw [getM_nat (by omega), getM_nat hi, List.getElem_set]
    by_cases e : j = i
    · rw [if_pos e, if_pos (by omega)]
    · rw [if_neg e, if_neg (by omega)]
  · have k' : hasM L y = false := by simpa using k
    rw [getM_out (by unfold hasM at k' ⊢; rw [hl]; exact k'), getM_out k', if_neg]
    intro e
    rw [e, h] at k'
    cases k'

def TkS (w w' : World) (p g : Nat) (L : List Bun) (x0 x1 : Int) (r s : Bun) (B5 B8 B9 B10 B11 : Nat) : Prop := MEnv w w' p g 5 L ∧ Box w' B5 x0 x1 ∧ BunAt w' B8 b5 ∧ BunAt w' B9 r ∧ BunAt w' B10 s ∧ BunAt w' B11 r

theorem heldT {w w1 w' : World} {p g : Nat} {L : List Bun} {x0 x1 : Int} {r s : Bun} {B5 B8 B9 B10 B11 : Nat} (h : TkS w w1 p g L x0 x1 r s B5 B8 B9 B10 B11) (hb : Below w1.heap.size w1 w') : Hid (TkS w w' p g L x0 x1 r s B5 B8 B9 B10 B11) ∧ w'.cell? ⟨B5, 0, none⟩ = some (.int .i64 x0) ∧ w'.cell? ⟨B5, 1, none⟩ = some (.int .i64 x1) ∧ w'.cell? ⟨B8, 0, none⟩ = some (.int .i64 5) ∧ w'.cell? ⟨B8, 1, none⟩ = some (.bool true) ∧ w'.cell? ⟨B8, 2, none⟩ = some (.bool true) ∧ w'.cell? ⟨B8, 3, none⟩ = some (.int .i64 0) ∧ w'.cell? ⟨B9, 0, none⟩ = some (Value.int .i64 r.n) ∧ w'.cell? ⟨B9, 1, none⟩ = some (Value.bool r.o) ∧ w'.cell? ⟨B9, 2, none⟩ = some (Value.bool r.h) ∧ w'.cell? ⟨B9, 3, none⟩ = some (Value.int .i64 r.d) ∧ w'.cell? ⟨B10, 0, none⟩ = some (Value.int .i64 s.n) ∧ w'.cell? ⟨B10, 1, none⟩ = some (Value.bool s.o) ∧ w'.cell? ⟨B10, 2, none⟩ = some (Value.bool s.h) ∧ w'.cell? ⟨B10, 3, none⟩ = some (Value.int .i64 s.d) ∧ w'.cell? ⟨B11, 0, none⟩ = some (Value.int .i64 r.n) ∧ w'.cell? ⟨B11, 1, none⟩ = some (Value.bool r.o) ∧ w'.cell? ⟨B11, 2, none⟩ = some (Value.bool r.h) ∧ w'.cell? ⟨B11, 3, none⟩ = some (Value.int .i64 r.d) := by
  obtain ⟨h1, h2, h3, h4, h5, h6⟩ := h
  replace h1 := h1.quiet hb
  replace h2 := h2.below hb
  replace h3 := h3.below hb
  replace h4 := h4.below hb
  replace h5 := h5.below hb
  replace h6 := h6.below hb
  exact ⟨⟨h1, h2, h3, h4, h5, h6⟩, h2.c0, h2.c1, h3.c0, h3.c1, h3.c2, h3.c3, h4.c0, h4.c1, h4.c2, h4.c3, h5.c0, h5.c1, h5.c2, h5.c3, h6.c0, h6.c1, h6.c2, h6.c3⟩

set_option maxHeartbeats 2000000 in
theorem MemoryTakes_walk (ct : Int) (o d : Bool) (x0 x1 : Int) (w : World) : Calls Try.prog 5 #[.int .i64 ct, .agg #[.bool o, .bool d], .agg #[.int .i64 x0, .int .i64 x1]] w fun e w' => e = .returned (.bool true) ∧ Below w.heap.size w w' := by
  obtain ⟨r, hr⟩ : ∃ r, Hid (givenB b5 ct o d = r) := ⟨_, rfl⟩
  obtain ⟨s, hs⟩ : ∃ s, Hid (restB b5 ct o = s) := ⟨_, rfl⟩
  obtain ⟨r1, hr1⟩ : ∃ r1, Hid (givenB (getM (newM 4 5) x0) ct o d = r1) := ⟨_, rfl⟩
  obtain ⟨L2, hL2⟩ : ∃ L2, Hid (takM (newM 4 5) x0 ct o = L2) := ⟨_, rfl⟩
  have hcase : Hid ((¬ x0 < 0 ∧ ¬ 3 < x0 ∧ r1 = r ∧ getM L2 x0 = s ∧ (x1 = x0 ∨ x1 < 0 ∨ 3 < x1 ∨ getM L2 x1 = b5)) ∨ ((x0 < 0 ∨ (¬ x0 < 0 ∧ 3 < x0)) ∧ r1 = bun0)) := by
    rcases get45 x0 with ⟨e1, e2, e3, e4⟩ | ⟨e1, e2, e3⟩
    · left
      refine ⟨by omega, by omega, by rw [← hr1.out, e4, hr.out], ?_, ?_⟩
      · rw [← hL2.out, tak_get e1, if_pos rfl, e4, hs.out]
      · by_cases f1 : x1 = x0
        · exact .inl f1
        · rcases get45 x1 with ⟨g1, g2, g3, g4⟩ | ⟨g1, g2, g3⟩
          · right; right; right
            rw [← hL2.out, tak_get e1, if_neg f1, g4]
          · rcases g2 with g2 | g2
            · exact .inr (.inl g2)
            · exact .inr (.inr (.inl g2))
    · right
      refine ⟨by omega, by rw [← hr1.out, e3, given_zero]⟩
  go_enter Try.func5, Try.ntmps5
  go_wp2_with fail
  go_at_call 10
  refine (mNew_c 4 5 5 _ (by decide) (by decide)).mono ?_
  rintro e w1 ⟨p, g, rfl, h1, hp1, hg1, hb1⟩
  have k0 : w1.cell? ⟨w.heap.size, 0, none⟩ = some (.bool o) := (hb1.cell (p := ⟨w.heap.size, 0, none⟩) (by simp)).trans (by simp [go_sem])
  have k1 : w1.cell? ⟨w.heap.size, 1, none⟩ = some (.bool d) := (hb1.cell (p := ⟨w.heap.size, 1, none⟩) (by simp)).trans (by simp [go_sem])
  have X1 : Box w1 (w.heap.size + 1) x0 x1 := by
    have := box_new (w.alloc (.cells #[.bool o, .bool d] 45)) x0 x1 22
    simp only [World.size_alloc] at this
    exact this.below hb1
  have hlt : w.heap.size < w1.heap.size := by have := X1.lt; omega
  have E1 := MEnv.first ((belA w (.cells #[.bool o, .bool d] 45)).trans ((belA (w.alloc (.cells #[.bool o, .bool d] 45)) (.cells #[.int .i64 x0, .int .i64 x1] 22)).mono (by simp))) h1 hp1 hg1 hb1
  have hgw : w.heap.size + 1 < g := by simp at hg1; omega
  have hgl : g < w1.heap.size := h1.gl
  clear h1 hp1 hg1 hb1
  replace E1 := hide E1
  replace X1 := hide X1
  go_wp2_with fail
  go_at_call 8
  refine (awake10_any _).mono ?_
  rintro e w2 ⟨rfl, hb2⟩
  have E2 := hide ((unhide E1).quiet hb2)
  have X2 := hide ((unhide X1).below hb2)
  replace k0 := keep_cell (hb2.block _ hlt) k0
  replace k1 := keep_cell (hb2.block _ hlt) k1
  have hlt2 := Nat.lt_of_lt_of_le hlt hb2.size
  have hgl2 := Nat.lt_of_lt_of_le hgl hb2.size
  clear hb2 E1 X1 hlt hgl
  have b8 := hide (bun_newV w2 b5 31)
  have E3 := hide ((unhide E2).quiet (belA w2 (.cells #[.int .i64 5, .bool true, .bool true, .int .i64 0] 31)))
  have X3 := hide ((unhide X2).below (belA w2 (.cells #[.int .i64 5, .bool true, .bool true, .int .i64 0] 31)))
  clear E2 X2
  go_wp2_with fail
  go_at_call 19
  refine (refSplit_any 5 true true 0 ct o d _ (by decide) ok5 r s hr hs).mono ?_
  rintro e w4 ⟨rfl, hb4⟩
  have E4 := (unhide E3).quiet hb4
  have X4 := (unhide X3).below hb4
  have b84 := (unhide b8).below hb4
  replace k0 := keep_cell (hb4.block w.heap.size (by simp; omega)) ((World.cell?_of_block (w := w2) (Below.heap_alloc _ _ _ hlt2)).trans k0)
  replace k1 := keep_cell (hb4.block w.heap.size (by simp; omega)) ((World.cell?_of_block (w := w2) (Below.heap_alloc _ _ _ hlt2)).trans k1)
  have hl4 : w2.heap.size < w4.heap.size := b84.lt
  clear hb4 E3 X3 b8
  have hB5 : Below w4.heap.size w4 ((w4.alloc (.cells #[.int .i64 r.n, .bool r.o, .bool r.h, .int .i64 r.d] 31)).alloc (.cells #[.int .i64 s.n, .bool s.o, .bool s.h, .int .i64 s.d] 31)) := (belA w4 _).trans ((belA _ _).mono (by simp))
  have b9 := (bun_newV w4 r 31).below (belA (w4.alloc (.cells #[.int .i64 r.n, .bool r.o, .bool r.h, .int .i64 r.d] 31)) (.cells #[.int .i64 s.n, .bool s.o, .bool s.h, .int .i64 s.d] 31))
  have b10 := bun_newV (w4.alloc (.cells #[.int .i64 r.n, .bool r.o, .bool r.h, .int .i64 r.d] 31)) s 31
  simp only [World.size_alloc] at b10
  have E5 := E4.quiet hB5
  have X5 := X4.below hB5
  have b85 := b84.below hB5
  have k05 := keep_cell (hB5.block w.heap.size (by omega)) k0
  have k15 := keep_cell (hB5.block w.heap.size (by omega)) k1
  obtain ⟨w5, hw5⟩ : ∃ w5, (w4.alloc (.cells #[.int .i64 r.n, .bool r.o, .bool r.h, .int .i64 r.d] 31)).alloc (.cells #[.int .i64 s.n, .bool s.o, .bool s.h, .int .i64 s.d] 31) = w5 := ⟨_, rfl⟩
  rw [hw5] at hB5 b9 b10 E5 X5 b85 k05 k15
  obtain ⟨-, z0, z1⟩ := id X5
  replace E5 := hide E5
  replace X5 := hide X5
  replace b9 := hide b9
  replace b10 := hide b10
  replace b85 := hide b85
  clear hB5 E4 X4 b84 k0 k1
  go_wp2_with fail
  go_at_call 15
  refine (mTake_c p g 5 x0 ct o d _ w5 (unhide E5).n (by decide) r1 hr1 L2 hL2).mono ?_
  rintro e w6 ⟨rfl, h6, f6⟩
  have E6 := (unhide E5).step (Below.refl _ _) h6 f6
  have X6 := (unhide X5).carry (f6.block _ (unhide X5).lt (by omega))
  have b96 := (unhide b9).fr f6 (by omega)
  have b106 := (unhide b10).fr f6 (by omega)
  have b86 := (unhide b85).fr f6 (by omega)
  clear h6 f6 E5 X5 b9 b10 b85 z0 z1 k05 k15 hw5
  have hBA := belA w6 (.cells #[.int .i64 r1.n, .bool r1.o, .bool r1.h, .int .i64 r1.d] 31)
  have b11 := bun_newV w6 r1 31
  have E7 := E6.quiet hBA
  have X7 := X6.below hBA
  have b97 := b96.below hBA
  have b107 := b106.below hBA
  have b87 := b86.below hBA
  obtain ⟨w7, hw7⟩ : ∃ w7, w6.alloc (.cells #[.int .i64 r1.n, .bool r1.o, .bool r1.h, .int .i64 r1.d] 31) = w7 := ⟨_, rfl⟩
  rw [hw7] at b11 E7 X7 b97 b107 b87
  clear hBA E6 X6 b96 b106 b86
  obtain ⟨-, z0, z1⟩ := id X7
  rcases hcase.out with ⟨c1, c2, rfl, hg0, hg1⟩ | ⟨c1, hz⟩
  · have hgs : Hid (getM L2 x0 = s) := hg0
    have SS : Hid (TkS w w7 p g L2 x0 x1 r1 s (w.heap.size + 1) w2.heap.size w4.heap.size (w4.heap.size + 1) w6.heap.size) := ⟨E7, X7, b87, b97, b107, b11⟩
    clear E7 X7 b87 b97 b107 b11 hcase hg0
    by_cases f1 : x1 = x0
    · obtain rfl : x0 = x1 := f1.symm
      clear hg1
      go_wp2_with fail
      refine wp_region_noPanic ?_
      refine wp_region_held_drew (S := (fun w' => Hid (TkS w w' p g L2 x0 x0 r1 s (w.heap.size + 1) w2.heap.size w4.heap.size (w4.heap.size + 1) w6.heap.size) ∧ w'.cell? ⟨w.heap.size + 1, 0, none⟩ = some (.int .i64 x0) ∧ w'.cell? ⟨w.heap.size + 1, 1, none⟩ = some (.int .i64 x0) ∧ w'.cell? ⟨w2.heap.size, 0, none⟩ = some (.int .i64 5) ∧ w'.cell? ⟨w2.heap.size, 1, none⟩ = some (.bool true) ∧ w'.cell? ⟨w2.heap.size, 2, none⟩ = some (.bool true) ∧ w'.cell? ⟨w2.heap.size, 3, none⟩ = some (.int .i64 0) ∧ w'.cell? ⟨w4.heap.size, 0, none⟩ = some (Value.int .i64 r1.n) ∧ w'.cell? ⟨w4.heap.size, 1, none⟩ = some (Value.bool r1.o) ∧ w'.cell? ⟨w4.heap.size, 2, none⟩ = some (Value.bool r1.h) ∧ w'.cell? ⟨w4.heap.size, 3, none⟩ = some (Value.int .i64 r1.d) ∧ w'.cell? ⟨w4.heap.size + 1, 0, none⟩ = some (Value.int .i64 s.n) ∧ w'.cell? ⟨w4.heap.size + 1, 1, none⟩ = some (Value.bool s.o) ∧ w'.cell? ⟨w4.heap.size + 1, 2, none⟩ = some (Value.bool s.h) ∧ w'.cell? ⟨w4.heap.size + 1, 3, none⟩ = some (Value.int .i64 s.d) ∧ w'.cell? ⟨w6.heap.size, 0, none⟩ = some (Value.int .i64 r1.n) ∧ w'.cell? ⟨w6.heap.size, 1, none⟩ = some (Value.bool r1.o) ∧ w'.cell? ⟨w6.heap.size, 2, none⟩ = some (Value.bool r1.h) ∧ w'.cell? ⟨w6.heap.size, 3, none⟩ = some (Value.int .i64 r1.d))) (by kernel_rfl) ?_ (fun hHeld => ?_)
      · exact heldT SS.out (Below.refl _ _).drew
      clear SS z0 z1
      refine hand_take (i := 0) (d := some 50) (v := ?_) rfl (by kernel_rfl) (by kernel_rfl) (by kernel_rfl) (fun _ _ _ h => h) ?_ hHeld ?_
      rotate_left
      · intro o ho
        simp at ho
        subst ho
        intro wz hSw
        try dsimp only at hSw
        go_simp
        try with_reducible rfl
      try simp only [Act.put, List.setIfInBounds_toArray, List.set_cons_zero, List.set_cons_succ]
      refine hand_take (i := 1) (d := some 51) (v := ?_) rfl (by kernel_rfl) (by kernel_rfl) (by kernel_rfl) (fun _ _ _ h => h) ?_ hHeld ?_
      rotate_left
      · intro o ho
        simp at ho
        subst ho
        intro wz hSw
        try dsimp only at hSw
        go_simp
        try with_reducible rfl
      try simp only [Act.put, List.setIfInBounds_toArray, List.set_cons_zero, List.set_cons_succ]
      refine hand_take (i := 2) (d := some 52) (v := ?_) rfl (by kernel_rfl) (by kernel_rfl) (by kernel_rfl) (fun _ _ _ h => h) ?_ hHeld ?_
      rotate_left
      · intro o ho
        simp at ho
        subst ho
        intro wz hSw
        try dsimp only at hSw
        go_simp
        try with_reducible rfl
      try simp only [Act.put, List.setIfInBounds_toArray, List.set_cons_zero, List.set_cons_succ]
      refine hand_take (i := 3) (d := some 53) (v := ?_) rfl (by kernel_rfl) (by kernel_rfl) (by kernel_rfl) (fun _ _ _ h => h) ?_ hHeld ?_
      rotate_left
      · intro o ho
        simp at ho
        subst ho
        intro wz hSw
        try dsimp only at hSw
        go_simp
        try with_reducible rfl
      try simp only [Act.put, List.setIfInBounds_toArray, List.set_cons_zero, List.set_cons_succ]
      refine hand_take (i := 4) (d := some 54) (v := ?_) rfl (by kernel_rfl) (by kernel_rfl) (by kernel_rfl) (fun _ _ _ h => h) ?_ hHeld ?_
      rotate_left
      · intro o ho
        simp at ho
        subst ho
        intro wz hSw
        try dsimp only at hSw
        go_simp
        try with_reducible rfl
      try simp only [Act.put, List.setIfInBounds_toArray, List.set_cons_zero, List.set_cons_succ]
      refine hand_take (i := 5) (d := some 55) (v := ?_) rfl (by kernel_rfl) (by kernel_rfl) (by kernel_rfl) (fun _ _ _ h => h) ?_ hHeld ?_
      rotate_left
      · intro o ho
        simp at ho
        subst ho
        intro wz hSw
        try dsimp only at hSw
        go_simp
        try with_reducible rfl
      try simp only [Act.put, List.setIfInBounds_toArray, List.set_cons_zero, List.set_cons_succ]
      refine hand_take (i := 6) (d := some 56) (v := ?_) rfl (by kernel_rfl) (by kernel_rfl) (by kernel_rfl) (fun _ _ _ h => h) ?_ hHeld ?_
      rotate_left
      · intro o ho
        simp at ho
        subst ho
        intro wz hSw
        try dsimp only at hSw
        go_simp
        try with_reducible rfl
      try simp only [Act.put, List.setIfInBounds_toArray, List.set_cons_zero, List.set_cons_succ]
      refine hand_take (i := 8) (d := some 58) (v := ?_) rfl (by kernel_rfl) (by kernel_rfl) (by kernel_rfl) (fun _ _ _ h => h) ?_ hHeld ?_
      rotate_left
      · intro o ho
        simp at ho
        subst ho
        intro wz hSw
        try dsimp only at hSw
        go_simp
        try with_reducible rfl
      try simp only [Act.put, List.setIfInBounds_toArray, List.set_cons_zero, List.set_cons_succ]
      refine hand_call (i := 7) rfl (by kernel_rfl) ?_
      intro o ho
      simp at ho
      subst ho
      intro K hK
      go_simp; go_at_call 18; refine (mGet_c p g _ x0 _ _ hHeld.1.out.1.n s hgs).mono ?_; rintro e w10 ⟨rfl, hb10⟩; have K10 := heldT hHeld.1.out hb10; clear hb10
      refine hK.out _ _ ?_ (fun hHeld => ?_)
      · exact K10
      clear hK K
      try simp only [Act.put, List.setIfInBounds_toArray, List.set_cons_zero, List.set_cons_succ]
      have hK9 := K10.1
      clear K10
      refine hand_take (i := 9) (d := some 59) (v := ?_) rfl (by kernel_rfl) (by kernel_rfl) (by kernel_rfl) (fun _ _ _ h => h) ?_ hHeld ?_
      rotate_left
      · intro o ho
        simp at ho
        subst ho
        intro wz hSw
        try dsimp only at hSw
        go_simp
        try with_reducible rfl
      try simp only [Act.put, List.setIfInBounds_toArray, List.set_cons_zero, List.set_cons_succ]
      refine hand_take (i := 10) (d := some 60) (v := ?_) rfl (by kernel_rfl) (by kernel_rfl) (by kernel_rfl) (fun _ _ _ h => h) ?_ hHeld ?_
      rotate_left
      · intro o ho
        simp at ho
        subst ho
        intro wz hSw
        try dsimp only at hSw
        go_simp
        try with_reducible rfl
      try simp only [Act.put, List.setIfInBounds_toArray, List.set_cons_zero, List.set_cons_succ]
      refine hand_take (i := 11) (d := some 61) (v := ?_) rfl (by kernel_rfl) (by kernel_rfl) (by kernel_rfl) (fun _ _ _ h => h) ?_ hHeld ?_
      rotate_left
      · intro o ho
        simp at ho
        subst ho
        intro wz hSw
        try dsimp only at hSw
        go_simp
        try with_reducible rfl
      try simp only [Act.put, List.setIfInBounds_toArray, List.set_cons_zero, List.set_cons_succ]
      refine hand_take (i := 12) (d := some 62) (v := ?_) rfl (by kernel_rfl) (by kernel_rfl) (by kernel_rfl) (fun _ _ _ h => h) ?_ hHeld ?_
      rotate_left
      · intro o ho
        simp at ho
        subst ho
        intro wz hSw
        try dsimp only at hSw
        go_simp
        try with_reducible rfl
      try simp only [Act.put, List.setIfInBounds_toArray, List.set_cons_zero, List.set_cons_succ]
      refine hand_take (i := 13) (d := some 63) (v := ?_) rfl (by kernel_rfl) (by kernel_rfl) (by kernel_rfl) (fun _ _ _ h => h) ?_ hHeld ?_
      rotate_left
      · intro o ho
        simp at ho
        subst ho
        intro wz hSw
        try dsimp only at hSw
        go_simp
        try with_reducible rfl
      try simp only [Act.put, List.setIfInBounds_toArray, List.set_cons_zero, List.set_cons_succ]
      refine hand_take (i := 14) (d := some 64) (v := ?_) rfl (by kernel_rfl) (by kernel_rfl) (by kernel_rfl) (fun _ _ _ h => h) ?_ hHeld ?_
      rotate_left
      · intro o ho
        simp at ho
        subst ho
        intro wz hSw
        try dsimp only at hSw
        go_simp
        try with_reducible rfl
      try simp only [Act.put, List.setIfInBounds_toArray, List.set_cons_zero, List.set_cons_succ]
      refine hand_take (i := 15) (d := some 65) (v := ?_) rfl (by kernel_rfl) (by kernel_rfl) (by kernel_rfl) (fun _ _ _ h => h) ?_ hHeld ?_
      rotate_left
      · intro o ho
        simp at ho
        subst ho
        intro wz hSw
        try dsimp only at hSw
        go_simp
        try with_reducible rfl
      try simp only [Act.put, List.setIfInBounds_toArray, List.set_cons_zero, List.set_cons_succ]
      refine hand_take (i := 16) (d := some 66) (v := ?_) rfl (by kernel_rfl) (by kernel_rfl) (by kernel_rfl) (fun _ _ _ h => h) ?_ hHeld ?_
      rotate_left
      · intro o ho
        simp at ho
        subst ho
        intro wz hSw
        try dsimp only at hSw
        go_simp
        try with_reducible rfl
      try simp only [Act.put, List.setIfInBounds_toArray, List.set_cons_zero, List.set_cons_succ]
      refine hand_take (i := 17) (d := some 67) (v := ?_) rfl (by kernel_rfl) (by kernel_rfl) (by kernel_rfl) (fun _ _ _ h => h) ?_ hHeld ?_
      rotate_left
      · intro o ho
        simp at ho
        subst ho
        intro wz hSw
        try dsimp only at hSw
        go_simp
        try with_reducible rfl
      try simp only [Act.put, List.setIfInBounds_toArray, List.set_cons_zero, List.set_cons_succ]
      refine hand_skip (i := 18) (d := some 68) rfl (by kernel_rfl) (by kernel_rfl) (by kernel_rfl) (fun _ _ _ h => h) hHeld ?_
      try simp only [Act.put, List.setIfInBounds_toArray, List.set_cons_zero, List.set_cons_succ]
      refine hand_skip (i := 19) (d := some 69) rfl (by kernel_rfl) (by kernel_rfl) (by kernel_rfl) (fun _ _ _ h => h) hHeld ?_
      try simp only [Act.put, List.setIfInBounds_toArray, List.set_cons_zero, List.set_cons_succ]
      refine hand_skip (i := 20) (d := some 70) rfl (by kernel_rfl) (by kernel_rfl) (by kernel_rfl) (fun _ _ _ h => h) hHeld ?_
      try simp only [Act.put, List.setIfInBounds_toArray, List.set_cons_zero, List.set_cons_succ]
      refine hand_take (i := 21) (d := some 71) (v := ?_) rfl (by kernel_rfl) (by kernel_rfl) (by kernel_rfl) (fun _ _ _ h => h) ?_ hHeld ?_
      rotate_left
      · intro o ho
        simp at ho
        subst ho
        intro wz hSw
        try dsimp only at hSw
        go_simp
        try with_reducible rfl
      try simp only [Act.put, List.setIfInBounds_toArray, List.set_cons_zero, List.set_cons_succ]
      refine hand_take (i := 22) (d := some 72) (v := ?_) rfl (by kernel_rfl) (by kernel_rfl) (by kernel_rfl) (fun _ _ _ h => h) ?_ hHeld ?_
      rotate_left
      · intro o ho
        simp at ho
        subst ho
        intro wz hSw
        try dsimp only at hSw
        go_simp
        try with_reducible rfl
      try simp only [Act.put, List.setIfInBounds_toArray, List.set_cons_zero, List.set_cons_succ]
      refine hand_skip (i := 23) (d := some 73) rfl (by kernel_rfl) (by kernel_rfl) (by kernel_rfl) (fun _ _ _ h => h) hHeld ?_
      try simp only [Act.put, List.setIfInBounds_toArray, List.set_cons_zero, List.set_cons_succ]
      refine hand_skip (i := 24) (d := some 74) rfl (by kernel_rfl) (by kernel_rfl) (by kernel_rfl) (fun _ _ _ h => h) hHeld ?_
      try simp only [Act.put, List.setIfInBounds_toArray, List.set_cons_zero, List.set_cons_succ]
      refine hand_skip (i := 25) (d := some 75) rfl (by kernel_rfl) (by kernel_rfl) (by kernel_rfl) (fun _ _ _ h => h) hHeld ?_
      try simp only [Act.put, List.setIfInBounds_toArray, List.set_cons_zero, List.set_cons_succ]
      refine hand_take (i := 26) (d := some 76) (v := ?_) rfl (by kernel_rfl) (by kernel_rfl) (by kernel_rfl) (fun _ _ _ h => h) ?_ hHeld ?_
      rotate_left
      · intro o ho
        simp at ho
        subst ho
        intro wz hSw
        try dsimp only at hSw
        go_simp
        try with_reducible rfl
      try simp only [Act.put, List.setIfInBounds_toArray, List.set_cons_zero, List.set_cons_succ]
      refine hand_take (i := 27) (d := some 77) (v := ?_) rfl (by kernel_rfl) (by kernel_rfl) (by kernel_rfl) (fun _ _ _ h => h) ?_ hHeld ?_
      rotate_left
      · intro o ho
        simp at ho
        subst ho
        intro wz hSw
        try dsimp only at hSw
        go_simp
        try with_reducible rfl
      try simp only [Act.put, List.setIfInBounds_toArray, List.set_cons_zero, List.set_cons_succ]
      refine hand_skip (i := 28) (d := some 78) rfl (by kernel_rfl) (by kernel_rfl) (by kernel_rfl) (fun _ _ _ h => h) hHeld ?_
      try simp only [Act.put, List.setIfInBounds_toArray, List.set_cons_zero, List.set_cons_succ]
      refine hand_skip (i := 29) (d := some 79) rfl (by kernel_rfl) (by kernel_rfl) (by kernel_rfl) (fun _ _ _ h => h) hHeld ?_
      try simp only [Act.put, List.setIfInBounds_toArray, List.set_cons_zero, List.set_cons_succ]
      refine hand_skip (i := 30) (d := some 80) rfl (by kernel_rfl) (by kernel_rfl) (by kernel_rfl) (fun _ _ _ h => h) hHeld ?_
      try simp only [Act.put, List.setIfInBounds_toArray, List.set_cons_zero, List.set_cons_succ]
      refine hand_skip (i := 31) (d := some 81) rfl (by kernel_rfl) (by kernel_rfl) (by kernel_rfl) (fun _ _ _ h => h) hHeld ?_
      try simp only [Act.put, List.setIfInBounds_toArray, List.set_cons_zero, List.set_cons_succ]
      refine hand_skip (i := 32) (d := some 82) rfl (by kernel_rfl) (by kernel_rfl) (by kernel_rfl) (fun _ _ _ h => h) hHeld ?_
      try simp only [Act.put, List.setIfInBounds_toArray, List.set_cons_zero, List.set_cons_succ]
      refine hand_skip (i := 33) (d := some 83) rfl (by kernel_rfl) (by kernel_rfl) (by kernel_rfl) (fun _ _ _ h => h) hHeld ?_
      try simp only [Act.put, List.setIfInBounds_toArray, List.set_cons_zero, List.set_cons_succ]
      refine hand_take (i := 34) (d := some 84) (v := ?_) rfl (by kernel_rfl) (by kernel_rfl) (by kernel_rfl) (fun _ _ _ h => h) ?_ hHeld ?_
      rotate_left
      · intro o ho
        simp at ho
        subst ho
        intro wz hSw
        try dsimp only at hSw
        go_simp
        try with_reducible rfl
      try simp only [Act.put, List.setIfInBounds_toArray, List.set_cons_zero, List.set_cons_succ]
      refine hand_take (i := 35) (d := some 85) (v := ?_) rfl (by kernel_rfl) (by kernel_rfl) (by kernel_rfl) (fun _ _ _ h => h) ?_ hHeld ?_
      rotate_left
      · intro o ho
        simp at ho
        subst ho
        intro wz hSw
        try dsimp only at hSw
        go_simp
        try with_reducible rfl
      try simp only [Act.put, List.setIfInBounds_toArray, List.set_cons_zero, List.set_cons_succ]
      refine hand_take (i := 36) (d := some 6) (v := ?_) rfl (by kernel_rfl) (by kernel_rfl) (by kernel_rfl) (fun _ _ _ h => h) ?_ hHeld ?_
      rotate_left
      · intro o ho
        simp at ho
        subst ho
        intro wz hSw
        try dsimp only at hSw
        go_simp
        try with_reducible rfl
      try simp only [Act.put, List.setIfInBounds_toArray, List.set_cons_zero, List.set_cons_succ]
      refine wpAnyH_done (by kernel_rfl) (NoPanic.normal ?_) _
      clear hHeld
      have hfin := hide hK9.out.1.bel
      clear hK9
      go_wp2_with fail
      go_ret
      exact ⟨rfl, unhide hfin⟩
    · obtain ⟨ee1, ee2⟩ : decide (x1 = x0) = false ∧ (x1 == x0) = false := by simp [f1]
      have hg2 : x1 < 0 ∨ 3 < x1 ∨ getM L2 x1 = b5 := hg1.resolve_left f1
      clear hg1 f1
      by_cases f2 : x1 < 0
      · clear hg2
        go_wp2_with fail
        refine wp_region_noPanic ?_
        refine wp_region_held_drew (S := (fun w' => Hid (TkS w w' p g L2 x0 x1 r1 s (w.heap.size + 1) w2.heap.size w4.heap.size (w4.heap.size + 1) w6.heap.size) ∧ w'.cell? ⟨w.heap.size + 1, 0, none⟩ = some (.int .i64 x0) ∧ w'.cell? ⟨w.heap.size + 1, 1, none⟩ = some (.int .i64 x1) ∧ w'.cell? ⟨w2.heap.size, 0, none⟩ = some (.int .i64 5) ∧ w'.cell? ⟨w2.heap.size, 1, none⟩ = some (.bool true) ∧ w'.cell? ⟨w2.heap.size, 2, none⟩ = some (.bool true) ∧ w'.cell? ⟨w2.heap.size, 3, none⟩ = some (.int .i64 0) ∧ w'.cell? ⟨w4.heap.size, 0, none⟩ = some (Value.int .i64 r1.n) ∧ w'.cell? ⟨w4.heap.size, 1, none⟩ = some (Value.bool r1.o) ∧ w'.cell? ⟨w4.heap.size, 2, none⟩ = some (Value.bool r1.h) ∧ w'.cell? ⟨w4.heap.size, 3, none⟩ = some (Value.int .i64 r1.d) ∧ w'.cell? ⟨w4.heap.size + 1, 0, none⟩ = some (Value.int .i64 s.n) ∧ w'.cell? ⟨w4.heap.size + 1, 1, none⟩ = some (Value.bool s.o) ∧ w'.cell? ⟨w4.heap.size + 1, 2, none⟩ = some (Value.bool s.h) ∧ w'.cell? ⟨w4.heap.size + 1, 3, none⟩ = some (Value.int .i64 s.d) ∧ w'.cell? ⟨w6.heap.size, 0, none⟩ = some (Value.int .i64 r1.n) ∧ w'.cell? ⟨w6.heap.size, 1, none⟩ = some (Value.bool r1.o) ∧ w'.cell? ⟨w6.heap.size, 2, none⟩ = some (Value.bool r1.h) ∧ w'.cell? ⟨w6.heap.size, 3, none⟩ = some (Value.int .i64 r1.d))) (by kernel_rfl) ?_ (fun hHeld => ?_)
        · exact heldT SS.out (Below.refl _ _).drew
        clear SS z0 z1
        refine hand_take (i := 0) (d := some 50) (v := ?_) rfl (by kernel_rfl) (by kernel_rfl) (by kernel_rfl) (fun _ _ _ h => h) ?_ hHeld ?_
        rotate_left
        · intro o ho
          simp at ho
          subst ho
          intro wz hSw
          try dsimp only at hSw
          go_simp
          try with_reducible rfl
        try simp only [Act.put, List.setIfInBounds_toArray, List.set_cons_zero, List.set_cons_succ]
        refine hand_take (i := 1) (d := some 51) (v := ?_) rfl (by kernel_rfl) (by kernel_rfl) (by kernel_rfl) (fun _ _ _ h => h) ?_ hHeld ?_
        rotate_left
        · intro o ho
          simp at ho
          subst ho
          intro wz hSw
          try dsimp only at hSw
          go_simp
          try with_reducible rfl
        try simp only [Act.put, List.setIfInBounds_toArray, List.set_cons_zero, List.set_cons_succ]
        refine hand_take (i := 2) (d := some 52) (v := ?_) rfl (by kernel_rfl) (by kernel_rfl) (by kernel_rfl) (fun _ _ _ h => h) ?_ hHeld ?_
        rotate_left
        · intro o ho
          simp at ho
          subst ho
          intro wz hSw
          try dsimp only at hSw
          go_simp
          try with_reducible rfl
        try simp only [Act.put, List.setIfInBounds_toArray, List.set_cons_zero, List.set_cons_succ]
        refine hand_take (i := 3) (d := some 53) (v := ?_) rfl (by kernel_rfl) (by kernel_rfl) (by kernel_rfl) (fun _ _ _ h => h) ?_ hHeld ?_
        rotate_left
        · intro o ho
          simp at ho
          subst ho
          intro wz hSw
          try dsimp only at hSw
          go_simp
          try with_reducible rfl
        try simp only [Act.put, List.setIfInBounds_toArray, List.set_cons_zero, List.set_cons_succ]
        refine hand_take (i := 4) (d := some 54) (v := ?_) rfl (by kernel_rfl) (by kernel_rfl) (by kernel_rfl) (fun _ _ _ h => h) ?_ hHeld ?_
        rotate_left
        · intro o ho
          simp at ho
          subst ho
          intro wz hSw
          try dsimp only at hSw
          go_simp
          try with_reducible rfl
        try simp only [Act.put, List.setIfInBounds_toArray, List.set_cons_zero, List.set_cons_succ]
        refine hand_take (i := 5) (d := some 55) (v := ?_) rfl (by kernel_rfl) (by kernel_rfl) (by kernel_rfl) (fun _ _ _ h => h) ?_ hHeld ?_
        rotate_left
        · intro o ho
          simp at ho
          subst ho
          intro wz hSw
          try dsimp only at hSw
          go_simp
          try with_reducible rfl
        try simp only [Act.put, List.setIfInBounds_toArray, List.set_cons_zero, List.set_cons_succ]
        refine hand_take (i := 6) (d := some 56) (v := ?_) rfl (by kernel_rfl) (by kernel_rfl) (by kernel_rfl) (fun _ _ _ h => h) ?_ hHeld ?_
        rotate_left
        · intro o ho
          simp at ho
          subst ho
          intro wz hSw
          try dsimp only at hSw
          go_simp
          try with_reducible rfl
        try simp only [Act.put, List.setIfInBounds_toArray, List.set_cons_zero, List.set_cons_succ]
        refine hand_take (i := 8) (d := some 58) (v := ?_) rfl (by kernel_rfl) (by kernel_rfl) (by kernel_rfl) (fun _ _ _ h => h) ?_ hHeld ?_
        rotate_left
        · intro o ho
          simp at ho
          subst ho
          intro wz hSw
          try dsimp only at hSw
          go_simp
          try with_reducible rfl
        try simp only [Act.put, List.setIfInBounds_toArray, List.set_cons_zero, List.set_cons_succ]
        refine hand_call (i := 7) rfl (by kernel_rfl) ?_
        intro o ho
        simp at ho
        subst ho
        intro K hK
        go_simp; go_at_call 18; refine (mGet_c p g _ x0 _ _ hHeld.1.out.1.n s hgs).mono ?_; rintro e w10 ⟨rfl, hb10⟩; have K10 := heldT hHeld.1.out hb10; clear hb10
        refine hK.out _ _ ?_ (fun hHeld => ?_)
        · exact K10
        clear hK K
        try simp only [Act.put, List.setIfInBounds_toArray, List.set_cons_zero, List.set_cons_succ]
        have hK9 := K10.1
        clear K10
        refine hand_take (i := 9) (d := some 59) (v := ?_) rfl (by kernel_rfl) (by kernel_rfl) (by kernel_rfl) (fun _ _ _ h => h) ?_ hHeld ?_
        rotate_left
        · intro o ho
          simp at ho
          subst ho
          intro wz hSw
          try dsimp only at hSw
          go_simp
          try with_reducible rfl
        try simp only [Act.put, List.setIfInBounds_toArray, List.set_cons_zero, List.set_cons_succ]
        refine hand_take (i := 10) (d := some 60) (v := ?_) rfl (by kernel_rfl) (by kernel_rfl) (by kernel_rfl) (fun _ _ _ h => h) ?_ hHeld ?_
        rotate_left
        · intro o ho
          simp at ho
          subst ho
          intro wz hSw
          try dsimp only at hSw
          go_simp
          try with_reducible rfl
        try simp only [Act.put, List.setIfInBounds_toArray, List.set_cons_zero, List.set_cons_succ]
        refine hand_take (i := 11) (d := some 61) (v := ?_) rfl (by kernel_rfl) (by kernel_rfl) (by kernel_rfl) (fun _ _ _ h => h) ?_ hHeld ?_
        rotate_left
        · intro o ho
          simp at ho
          subst ho
          intro wz hSw
          try dsimp only at hSw
          go_simp
          try with_reducible rfl
        try simp only [Act.put, List.setIfInBounds_toArray, List.set_cons_zero, List.set_cons_succ]
        refine hand_take (i := 12) (d := some 62) (v := ?_) rfl (by kernel_rfl) (by kernel_rfl) (by kernel_rfl) (fun _ _ _ h => h) ?_ hHeld ?_
        rotate_left
        · intro o ho
          simp at ho
          subst ho
          intro wz hSw
          try dsimp only at hSw
          go_simp
          try with_reducible rfl
        try simp only [Act.put, List.setIfInBounds_toArray, List.set_cons_zero, List.set_cons_succ]
        refine hand_take (i := 13) (d := some 63) (v := ?_) rfl (by kernel_rfl) (by kernel_rfl) (by kernel_rfl) (fun _ _ _ h => h) ?_ hHeld ?_
        rotate_left
        · intro o ho
          simp at ho
          subst ho
          intro wz hSw
          try dsimp only at hSw
          go_simp
          try with_reducible rfl
        try simp only [Act.put, List.setIfInBounds_toArray, List.set_cons_zero, List.set_cons_succ]
        refine hand_take (i := 14) (d := some 64) (v := ?_) rfl (by kernel_rfl) (by kernel_rfl) (by kernel_rfl) (fun _ _ _ h => h) ?_ hHeld ?_
        rotate_left
        · intro o ho
          simp at ho
          subst ho
          intro wz hSw
          try dsimp only at hSw
          go_simp
          try with_reducible rfl
        try simp only [Act.put, List.setIfInBounds_toArray, List.set_cons_zero, List.set_cons_succ]
        refine hand_take (i := 15) (d := some 65) (v := ?_) rfl (by kernel_rfl) (by kernel_rfl) (by kernel_rfl) (fun _ _ _ h => h) ?_ hHeld ?_
        rotate_left
        · intro o ho
          simp at ho
          subst ho
          intro wz hSw
          try dsimp only at hSw
          go_simp
          try with_reducible rfl
        try simp only [Act.put, List.setIfInBounds_toArray, List.set_cons_zero, List.set_cons_succ]
        refine hand_take (i := 16) (d := some 66) (v := ?_) rfl (by kernel_rfl) (by kernel_rfl) (by kernel_rfl) (fun _ _ _ h => h) ?_ hHeld ?_
        rotate_left
        · intro o ho
          simp at ho
          subst ho
          intro wz hSw
          try dsimp only at hSw
          go_simp
          try with_reducible rfl
        try simp only [Act.put, List.setIfInBounds_toArray, List.set_cons_zero, List.set_cons_succ]
        refine hand_take (i := 17) (d := some 67) (v := ?_) rfl (by kernel_rfl) (by kernel_rfl) (by kernel_rfl) (fun _ _ _ h => h) ?_ hHeld ?_
        rotate_left
        · intro o ho
          simp at ho
          subst ho
          intro wz hSw
          try dsimp only at hSw
          go_simp
          try with_reducible rfl
        try simp only [Act.put, List.setIfInBounds_toArray, List.set_cons_zero, List.set_cons_succ]
        refine hand_take (i := 18) (d := some 68) (v := ?_) rfl (by kernel_rfl) (by kernel_rfl) (by kernel_rfl) (fun _ _ _ h => h) ?_ hHeld ?_
        rotate_left
        · intro o ho
          simp at ho
          subst ho
          intro wz hSw
          try dsimp only at hSw
          go_simp
          try with_reducible rfl
        try simp only [Act.put, List.setIfInBounds_toArray, List.set_cons_zero, List.set_cons_succ]
        refine hand_take (i := 19) (d := some 69) (v := ?_) rfl (by kernel_rfl) (by kernel_rfl) (by kernel_rfl) (fun _ _ _ h => h) ?_ hHeld ?_
        rotate_left
        · intro o ho
          simp at ho
          subst ho
          intro wz hSw
          try dsimp only at hSw
          go_simp
          try with_reducible rfl
        try simp only [Act.put, List.setIfInBounds_toArray, List.set_cons_zero, List.set_cons_succ]
        refine hand_take (i := 20) (d := some 70) (v := ?_) rfl (by kernel_rfl) (by kernel_rfl) (by kernel_rfl) (fun _ _ _ h => h) ?_ hHeld ?_
        rotate_left
        · intro o ho
          simp at ho
          subst ho
          intro wz hSw
          try dsimp only at hSw
          go_simp
          try with_reducible rfl
        try simp only [Act.put, List.setIfInBounds_toArray, List.set_cons_zero, List.set_cons_succ]
        refine hand_take (i := 21) (d := some 71) (v := ?_) rfl (by kernel_rfl) (by kernel_rfl) (by kernel_rfl) (fun _ _ _ h => h) ?_ hHeld ?_
        rotate_left
        · intro o ho
          simp at ho
          subst ho
          intro wz hSw
          try dsimp only at hSw
          go_simp
          try with_reducible rfl
        try simp only [Act.put, List.setIfInBounds_toArray, List.set_cons_zero, List.set_cons_succ]
        refine hand_take (i := 22) (d := some 72) (v := ?_) rfl (by kernel_rfl) (by kernel_rfl) (by kernel_rfl) (fun _ _ _ h => h) ?_ hHeld ?_
        rotate_left
        · intro o ho
          simp at ho
          subst ho
          intro wz hSw
          try dsimp only at hSw
          go_simp
          try with_reducible rfl
        try simp only [Act.put, List.setIfInBounds_toArray, List.set_cons_zero, List.set_cons_succ]
        refine hand_skip (i := 23) (d := some 73) rfl (by kernel_rfl) (by kernel_rfl) (by kernel_rfl) (fun _ _ _ h => h) hHeld ?_
        try simp only [Act.put, List.setIfInBounds_toArray, List.set_cons_zero, List.set_cons_succ]
        refine hand_skip (i := 24) (d := some 74) rfl (by kernel_rfl) (by kernel_rfl) (by kernel_rfl) (fun _ _ _ h => h) hHeld ?_
        try simp only [Act.put, List.setIfInBounds_toArray, List.set_cons_zero, List.set_cons_succ]
        refine hand_skip (i := 25) (d := some 75) rfl (by kernel_rfl) (by kernel_rfl) (by kernel_rfl) (fun _ _ _ h => h) hHeld ?_
        try simp only [Act.put, List.setIfInBounds_toArray, List.set_cons_zero, List.set_cons_succ]
        refine hand_take (i := 26) (d := some 76) (v := ?_) rfl (by kernel_rfl) (by kernel_rfl) (by kernel_rfl) (fun _ _ _ h => h) ?_ hHeld ?_
        rotate_left
        · intro o ho
          simp at ho
          subst ho
          intro wz hSw
          try dsimp only at hSw
          go_simp
          try with_reducible rfl
        try simp only [Act.put, List.setIfInBounds_toArray, List.set_cons_zero, List.set_cons_succ]
        refine hand_take (i := 27) (d := some 77) (v := ?_) rfl (by kernel_rfl) (by kernel_rfl) (by kernel_rfl) (fun _ _ _ h => h) ?_ hHeld ?_
        rotate_left
        · intro o ho
          simp at ho
          subst ho
          intro wz hSw
          try dsimp only at hSw
          go_simp
          try with_reducible rfl
        try simp only [Act.put, List.setIfInBounds_toArray, List.set_cons_zero, List.set_cons_succ]
        refine hand_skip (i := 28) (d := some 78) rfl (by kernel_rfl) (by kernel_rfl) (by kernel_rfl) (fun _ _ _ h => h) hHeld ?_
        try simp only [Act.put, List.setIfInBounds_toArray, List.set_cons_zero, List.set_cons_succ]
        refine hand_skip (i := 29) (d := some 79) rfl (by kernel_rfl) (by kernel_rfl) (by kernel_rfl) (fun _ _ _ h => h) hHeld ?_
        try simp only [Act.put, List.setIfInBounds_toArray, List.set_cons_zero, List.set_cons_succ]
        refine hand_skip (i := 30) (d := some 80) rfl (by kernel_rfl) (by kernel_rfl) (by kernel_rfl) (fun _ _ _ h => h) hHeld ?_
        try simp only [Act.put, List.setIfInBounds_toArray, List.set_cons_zero, List.set_cons_succ]
        refine hand_skip (i := 31) (d := some 81) rfl (by kernel_rfl) (by kernel_rfl) (by kernel_rfl) (fun _ _ _ h => h) hHeld ?_
        try simp only [Act.put, List.setIfInBounds_toArray, List.set_cons_zero, List.set_cons_succ]
        refine hand_skip (i := 32) (d := some 82) rfl (by kernel_rfl) (by kernel_rfl) (by kernel_rfl) (fun _ _ _ h => h) hHeld ?_
        try simp only [Act.put, List.setIfInBounds_toArray, List.set_cons_zero, List.set_cons_succ]
        refine hand_skip (i := 33) (d := some 83) rfl (by kernel_rfl) (by kernel_rfl) (by kernel_rfl) (fun _ _ _ h => h) hHeld ?_
        try simp only [Act.put, List.setIfInBounds_toArray, List.set_cons_zero, List.set_cons_succ]
        refine hand_take (i := 34) (d := some 84) (v := ?_) rfl (by kernel_rfl) (by kernel_rfl) (by kernel_rfl) (fun _ _ _ h => h) ?_ hHeld ?_
        rotate_left
        · intro o ho
          simp at ho
          subst ho
          intro wz hSw
          try dsimp only at hSw
          go_simp
          try with_reducible rfl
        try simp only [Act.put, List.setIfInBounds_toArray, List.set_cons_zero, List.set_cons_succ]
        refine hand_take (i := 35) (d := some 85) (v := ?_) rfl (by kernel_rfl) (by kernel_rfl) (by kernel_rfl) (fun _ _ _ h => h) ?_ hHeld ?_
        rotate_left
        · intro o ho
          simp at ho
          subst ho
          intro wz hSw
          try dsimp only at hSw
          go_simp
          try with_reducible rfl
        try simp only [Act.put, List.setIfInBounds_toArray, List.set_cons_zero, List.set_cons_succ]
        refine hand_take (i := 36) (d := some 6) (v := ?_) rfl (by kernel_rfl) (by kernel_rfl) (by kernel_rfl) (fun _ _ _ h => h) ?_ hHeld ?_
        rotate_left
        · intro o ho
          simp at ho
          subst ho
          intro wz hSw
          try dsimp only at hSw
          go_simp
          try with_reducible rfl
        try simp only [Act.put, List.setIfInBounds_toArray, List.set_cons_zero, List.set_cons_succ]
        refine wpAnyH_done (by kernel_rfl) (NoPanic.normal ?_) _
        clear hHeld
        have hfin := hide hK9.out.1.bel
        clear hK9
        go_wp2_with fail
        go_ret
        exact ⟨rfl, unhide hfin⟩
      · have ee3 : decide (x1 < 0) = false := by simp; omega
        by_cases f3 : 3 < x1
        · clear hg2
          go_wp2_with fail
          refine wp_region_noPanic ?_
          refine wp_region_held_drew (S := (fun w' => Hid (TkS w w' p g L2 x0 x1 r1 s (w.heap.size + 1) w2.heap.size w4.heap.size (w4.heap.size + 1) w6.heap.size) ∧ w'.cell? ⟨w.heap.size + 1, 0, none⟩ = some (.int .i64 x0) ∧ w'.cell? ⟨w.heap.size + 1, 1, none⟩ = some (.int .i64 x1) ∧ w'.cell? ⟨w2.heap.size, 0, none⟩ = some (.int .i64 5) ∧ w'.cell? ⟨w2.heap.size, 1, none⟩ = some (.bool true) ∧ w'.cell? ⟨w2.heap.size, 2, none⟩ = some (.bool true) ∧ w'.cell? ⟨w2.heap.size, 3, none⟩ = some (.int .i64 0) ∧ w'.cell? ⟨w4.heap.size, 0, none⟩ = some (Value.int .i64 r1.n) ∧ w'.cell? ⟨w4.heap.size, 1, none⟩ = some (Value.bool r1.o) ∧ w'.cell? ⟨w4.heap.size, 2, none⟩ = some (Value.bool r1.h) ∧ w'.cell? ⟨w4.heap.size, 3, none⟩ = some (Value.int .i64 r1.d) ∧ w'.cell? ⟨w4.heap.size + 1, 0, none⟩ = some (Value.int .i64 s.n) ∧ w'.cell? ⟨w4.heap.size + 1, 1, none⟩ = some (Value.bool s.o) ∧ w'.cell? ⟨w4.heap.size + 1, 2, none⟩ = some (Value.bool s.h) ∧ w'.cell? ⟨w4.heap.size + 1, 3, none⟩ = some (Value.int .i64 s.d) ∧ w'.cell? ⟨w6.heap.size, 0, none⟩ = some (Value.int .i64 r1.n) ∧ w'.cell? ⟨w6.heap.size, 1, none⟩ = some (Value.bool r1.o) ∧ w'.cell? ⟨w6.heap.size, 2, none⟩ = some (Value.bool r1.h) ∧ w'.cell? ⟨w6.heap.size, 3, none⟩ = some (Value.int .i64 r1.d))) (by kernel_rfl) ?_ (fun hHeld => ?_)
          · exact heldT SS.out (Below.refl _ _).drew
          clear SS z0 z1
          refine hand_take (i := 0) (d := some 50) (v := ?_) rfl (by kernel_rfl) (by kernel_rfl) (by kernel_rfl) (fun _ _ _ h => h) ?_ hHeld ?_
          rotate_left
          · intro o ho
            simp at ho
            subst ho
            intro wz hSw
            try dsimp only at hSw
            go_simp
            try with_reducible rfl
          try simp only [Act.put, List.setIfInBounds_toArray, List.set_cons_zero, List.set_cons_succ]
          refine hand_take (i := 1) (d := some 51) (v := ?_) rfl (by kernel_rfl) (by kernel_rfl) (by kernel_rfl) (fun _ _ _ h => h) ?_ hHeld ?_
          rotate_left
          · intro o ho
            simp at ho
            subst ho
            intro wz hSw
            try dsimp only at hSw
            go_simp
            try with_reducible rfl
          try simp only [Act.put, List.setIfInBounds_toArray, List.set_cons_zero, List.set_cons_succ]
          refine hand_take (i := 2) (d := some 52) (v := ?_) rfl (by kernel_rfl) (by kernel_rfl) (by kernel_rfl) (fun _ _ _ h => h) ?_ hHeld ?_
          rotate_left
          · intro o ho
            simp at ho
            subst ho
            intro wz hSw
            try dsimp only at hSw
            go_simp
            try with_reducible rfl
          try simp only [Act.put, List.setIfInBounds_toArray, List.set_cons_zero, List.set_cons_succ]
          refine hand_take (i := 3) (d := some 53) (v := ?_) rfl (by kernel_rfl) (by kernel_rfl) (by kernel_rfl) (fun _ _ _ h => h) ?_ hHeld ?_
          rotate_left
          · intro o ho
            simp at ho
            subst ho
            intro wz hSw
            try dsimp only at hSw
            go_simp
            try with_reducible rfl
          try simp only [Act.put, List.setIfInBounds_toArray, List.set_cons_zero, List.set_cons_succ]
          refine hand_take (i := 4) (d := some 54) (v := ?_) rfl (by kernel_rfl) (by kernel_rfl) (by kernel_rfl) (fun _ _ _ h => h) ?_ hHeld ?_
          rotate_left
          · intro o ho
            simp at ho
            subst ho
            intro wz hSw
            try dsimp only at hSw
            go_simp
            try with_reducible rfl
          try simp only [Act.put, List.setIfInBounds_toArray, List.set_cons_zero, List.set_cons_succ]
          refine hand_take (i := 5) (d := some 55) (v := ?_) rfl (by kernel_rfl) (by kernel_rfl) (by kernel_rfl) (fun _ _ _ h => h) ?_ hHeld ?_
          rotate_left
          · intro o ho
            simp at ho
            subst ho
            intro wz hSw
            try dsimp only at hSw
            go_simp
            try with_reducible rfl
          try simp only [Act.put, List.setIfInBounds_toArray, List.set_cons_zero, List.set_cons_succ]
          refine hand_take (i := 6) (d := some 56) (v := ?_) rfl (by kernel_rfl) (by kernel_rfl) (by kernel_rfl) (fun _ _ _ h => h) ?_ hHeld ?_
          rotate_left
          · intro o ho
            simp at ho
            subst ho
            intro wz hSw
            try dsimp only at hSw
            go_simp
            try with_reducible rfl
          try simp only [Act.put, List.setIfInBounds_toArray, List.set_cons_zero, List.set_cons_succ]
          refine hand_take (i := 8) (d := some 58) (v := ?_) rfl (by kernel_rfl) (by kernel_rfl) (by kernel_rfl) (fun _ _ _ h => h) ?_ hHeld ?_
          rotate_left
          · intro o ho
            simp at ho
            subst ho
            intro wz hSw
            try dsimp only at hSw
            go_simp
            try with_reducible rfl
          try simp only [Act.put, List.setIfInBounds_toArray, List.set_cons_zero, List.set_cons_succ]
          refine hand_call (i := 7) rfl (by kernel_rfl) ?_
          intro o ho
          simp at ho
          subst ho
          intro K hK
          go_simp; go_at_call 18; refine (mGet_c p g _ x0 _ _ hHeld.1.out.1.n s hgs).mono ?_; rintro e w10 ⟨rfl, hb10⟩; have K10 := heldT hHeld.1.out hb10; clear hb10
          refine hK.out _ _ ?_ (fun hHeld => ?_)
          · exact K10
          clear hK K
          try simp only [Act.put, List.setIfInBounds_toArray, List.set_cons_zero, List.set_cons_succ]
          have hK9 := K10.1
          clear K10
          refine hand_take (i := 9) (d := some 59) (v := ?_) rfl (by kernel_rfl) (by kernel_rfl) (by kernel_rfl) (fun _ _ _ h => h) ?_ hHeld ?_
          rotate_left
          · intro o ho
            simp at ho
            subst ho
            intro wz hSw
            try dsimp only at hSw
            go_simp
            try with_reducible rfl
          try simp only [Act.put, List.setIfInBounds_toArray, List.set_cons_zero, List.set_cons_succ]
          refine hand_take (i := 10) (d := some 60) (v := ?_) rfl (by kernel_rfl) (by kernel_rfl) (by kernel_rfl) (fun _ _ _ h => h) ?_ hHeld ?_
          rotate_left
          · intro o ho
            simp at ho
            subst ho
            intro wz hSw
            try dsimp only at hSw
            go_simp
            try with_reducible rfl
          try simp only [Act.put, List.setIfInBounds_toArray, List.set_cons_zero, List.set_cons_succ]
          refine hand_take (i := 11) (d := some 61) (v := ?_) rfl (by kernel_rfl) (by kernel_rfl) (by kernel_rfl) (fun _ _ _ h => h) ?_ hHeld ?_
          rotate_left
          · intro o ho
            simp at ho
            subst ho
            intro wz hSw
            try dsimp only at hSw
            go_simp
            try with_reducible rfl
          try simp only [Act.put, List.setIfInBounds_toArray, List.set_cons_zero, List.set_cons_succ]
          refine hand_take (i := 12) (d := some 62) (v := ?_) rfl (by kernel_rfl) (by kernel_rfl) (by kernel_rfl) (fun _ _ _ h => h) ?_ hHeld ?_
          rotate_left
          · intro o ho
            simp at ho
            subst ho
            intro wz hSw
            try dsimp only at hSw
            go_simp
            try with_reducible rfl
          try simp only [Act.put, List.setIfInBounds_toArray, List.set_cons_zero, List.set_cons_succ]
          refine hand_take (i := 13) (d := some 63) (v := ?_) rfl (by kernel_rfl) (by kernel_rfl) (by kernel_rfl) (fun _ _ _ h => h) ?_ hHeld ?_
          rotate_left
          · intro o ho
            simp at ho
            subst ho
            intro wz hSw
            try dsimp only at hSw
            go_simp
            try with_reducible rfl
          try simp only [Act.put, List.setIfInBounds_toArray, List.set_cons_zero, List.set_cons_succ]
          refine hand_take (i := 14) (d := some 64) (v := ?_) rfl (by kernel_rfl) (by kernel_rfl) (by kernel_rfl) (fun _ _ _ h => h) ?_ hHeld ?_
          rotate_left
          · intro o ho
            simp at ho
            subst ho
            intro wz hSw
            try dsimp only at hSw
            go_simp
            try with_reducible rfl
          try simp only [Act.put, List.setIfInBounds_toArray, List.set_cons_zero, List.set_cons_succ]
          refine hand_take (i := 15) (d := some 65) (v := ?_) rfl (by kernel_rfl) (by kernel_rfl) (by kernel_rfl) (fun _ _ _ h => h) ?_ hHeld ?_
          rotate_left
          · intro o ho
            simp at ho
            subst ho
            intro wz hSw
            try dsimp only at hSw
            go_simp
            try with_reducible rfl
          try simp only [Act.put, List.setIfInBounds_toArray, List.set_cons_zero, List.set_cons_succ]
          refine hand_take (i := 16) (d := some 66) (v := ?_) rfl (by kernel_rfl) (by kernel_rfl) (by kernel_rfl) (fun _ _ _ h => h) ?_ hHeld ?_
          rotate_left
          · intro o ho
            simp at ho
            subst ho
            intro wz hSw
            try dsimp only at hSw
            go_simp
            try with_reducible rfl
          try simp only [Act.put, List.setIfInBounds_toArray, List.set_cons_zero, List.set_cons_succ]
          refine hand_take (i := 17) (d := some 67) (v := ?_) rfl (by kernel_rfl) (by kernel_rfl) (by kernel_rfl) (fun _ _ _ h => h) ?_ hHeld ?_
          rotate_left
          · intro o ho
            simp at ho
            subst ho
            intro wz hSw
            try dsimp only at hSw
            go_simp
            try with_reducible rfl
          try simp only [Act.put, List.setIfInBounds_toArray, List.set_cons_zero, List.set_cons_succ]
          refine hand_take (i := 18) (d := some 68) (v := ?_) rfl (by kernel_rfl) (by kernel_rfl) (by kernel_rfl) (fun _ _ _ h => h) ?_ hHeld ?_
          rotate_left
          · intro o ho
            simp at ho
            subst ho
            intro wz hSw
            try dsimp only at hSw
            go_simp
            try with_reducible rfl
          try simp only [Act.put, List.setIfInBounds_toArray, List.set_cons_zero, List.set_cons_succ]
          refine hand_take (i := 19) (d := some 69) (v := ?_) rfl (by kernel_rfl) (by kernel_rfl) (by kernel_rfl) (fun _ _ _ h => h) ?_ hHeld ?_
          rotate_left
          · intro o ho
            simp at ho
            subst ho
            intro wz hSw
            try dsimp only at hSw
            go_simp
            try with_reducible rfl
          try simp only [Act.put, List.setIfInBounds_toArray, List.set_cons_zero, List.set_cons_succ]
          refine hand_take (i := 20) (d := some 70) (v := ?_) rfl (by kernel_rfl) (by kernel_rfl) (by kernel_rfl) (fun _ _ _ h => h) ?_ hHeld ?_
          rotate_left
          · intro o ho
            simp at ho
            subst ho
            intro wz hSw
            try dsimp only at hSw
            go_simp
            try with_reducible rfl
          try simp only [Act.put, List.setIfInBounds_toArray, List.set_cons_zero, List.set_cons_succ]
          refine hand_take (i := 21) (d := some 71) (v := ?_) rfl (by kernel_rfl) (by kernel_rfl) (by kernel_rfl) (fun _ _ _ h => h) ?_ hHeld ?_
          rotate_left
          · intro o ho
            simp at ho
            subst ho
            intro wz hSw
            try dsimp only at hSw
            go_simp
            try with_reducible rfl
          try simp only [Act.put, List.setIfInBounds_toArray, List.set_cons_zero, List.set_cons_succ]
          refine hand_take (i := 22) (d := some 72) (v := ?_) rfl (by kernel_rfl) (by kernel_rfl) (by kernel_rfl) (fun _ _ _ h => h) ?_ hHeld ?_
          rotate_left
          · intro o ho
            simp at ho
            subst ho
            intro wz hSw
            try dsimp only at hSw
            go_simp
            try with_reducible rfl
          try simp only [Act.put, List.setIfInBounds_toArray, List.set_cons_zero, List.set_cons_succ]
          refine hand_take (i := 23) (d := some 73) (v := ?_) rfl (by kernel_rfl) (by kernel_rfl) (by kernel_rfl) (fun _ _ _ h => h) ?_ hHeld ?_
          rotate_left
          · intro o ho
            simp at ho
            subst ho
            intro wz hSw
            try dsimp only at hSw
            go_simp
            try with_reducible rfl
          try simp only [Act.put, List.setIfInBounds_toArray, List.set_cons_zero, List.set_cons_succ]
          refine hand_take (i := 24) (d := some 74) (v := ?_) rfl (by kernel_rfl) (by kernel_rfl) (by kernel_rfl) (fun _ _ _ h => h) ?_ hHeld ?_
          rotate_left
          · intro o ho
            simp at ho
            subst ho
            intro wz hSw
            try dsimp only at hSw
            go_simp
            try with_reducible rfl
          try simp only [Act.put, List.setIfInBounds_toArray, List.set_cons_zero, List.set_cons_succ]
          refine hand_take (i := 25) (d := some 75) (v := ?_) rfl (by kernel_rfl) (by kernel_rfl) (by kernel_rfl) (fun _ _ _ h => h) ?_ hHeld ?_
          rotate_left
          · intro o ho
            simp at ho
            subst ho
            intro wz hSw
            try dsimp only at hSw
            go_simp
            try with_reducible rfl
          try simp only [Act.put, List.setIfInBounds_toArray, List.set_cons_zero, List.set_cons_succ]
          refine hand_take (i := 26) (d := some 76) (v := ?_) rfl (by kernel_rfl) (by kernel_rfl) (by kernel_rfl) (fun _ _ _ h => h) ?_ hHeld ?_
          rotate_left
          · intro o ho
            simp at ho
            subst ho
            intro wz hSw
            try dsimp only at hSw
            go_simp
            try with_reducible rfl
          try simp only [Act.put, List.setIfInBounds_toArray, List.set_cons_zero, List.set_cons_succ]
          refine hand_take (i := 27) (d := some 77) (v := ?_) rfl (by kernel_rfl) (by kernel_rfl) (by kernel_rfl) (fun _ _ _ h => h) ?_ hHeld ?_
          rotate_left
          · intro o ho
            simp at ho
            subst ho
            intro wz hSw
            try dsimp only at hSw
            go_simp
            try with_reducible rfl
          try simp only [Act.put, List.setIfInBounds_toArray, List.set_cons_zero, List.set_cons_succ]
          refine hand_skip (i := 28) (d := some 78) rfl (by kernel_rfl) (by kernel_rfl) (by kernel_rfl) (fun _ _ _ h => h) hHeld ?_
          try simp only [Act.put, List.setIfInBounds_toArray, List.set_cons_zero, List.set_cons_succ]
          refine hand_skip (i := 29) (d := some 79) rfl (by kernel_rfl) (by kernel_rfl) (by kernel_rfl) (fun _ _ _ h => h) hHeld ?_
          try simp only [Act.put, List.setIfInBounds_toArray, List.set_cons_zero, List.set_cons_succ]
          refine hand_skip (i := 30) (d := some 80) rfl (by kernel_rfl) (by kernel_rfl) (by kernel_rfl) (fun _ _ _ h => h) hHeld ?_
          try simp only [Act.put, List.setIfInBounds_toArray, List.set_cons_zero, List.set_cons_succ]
          refine hand_skip (i := 31) (d := some 81) rfl (by kernel_rfl) (by kernel_rfl) (by kernel_rfl) (fun _ _ _ h => h) hHeld ?_
          try simp only [Act.put, List.setIfInBounds_toArray, List.set_cons_zero, List.set_cons_succ]
          refine hand_skip (i := 32) (d := some 82) rfl (by kernel_rfl) (by kernel_rfl) (by kernel_rfl) (fun _ _ _ h => h) hHeld ?_
          try simp only [Act.put, List.setIfInBounds_toArray, List.set_cons_zero, List.set_cons_succ]
          refine hand_skip (i := 33) (d := some 83) rfl (by kernel_rfl) (by kernel_rfl) (by kernel_rfl) (fun _ _ _ h => h) hHeld ?_
          try simp only [Act.put, List.setIfInBounds_toArray, List.set_cons_zero, List.set_cons_succ]
          refine hand_take (i := 34) (d := some 84) (v := ?_) rfl (by kernel_rfl) (by kernel_rfl) (by kernel_rfl) (fun _ _ _ h => h) ?_ hHeld ?_
          rotate_left
          · intro o ho
            simp at ho
            subst ho
            intro wz hSw
            try dsimp only at hSw
            go_simp
            try with_reducible rfl
          try simp only [Act.put, List.setIfInBounds_toArray, List.set_cons_zero, List.set_cons_succ]
          refine hand_take (i := 35) (d := some 85) (v := ?_) rfl (by kernel_rfl) (by kernel_rfl) (by kernel_rfl) (fun _ _ _ h => h) ?_ hHeld ?_
          rotate_left
          · intro o ho
            simp at ho
            subst ho
            intro wz hSw
            try dsimp only at hSw
            go_simp
            try with_reducible rfl
          try simp only [Act.put, List.setIfInBounds_toArray, List.set_cons_zero, List.set_cons_succ]
          refine hand_take (i := 36) (d := some 6) (v := ?_) rfl (by kernel_rfl) (by kernel_rfl) (by kernel_rfl) (fun _ _ _ h => h) ?_ hHeld ?_
          rotate_left
          · intro o ho
            simp at ho
            subst ho
            intro wz hSw
            try dsimp only at hSw
            go_simp
            try with_reducible rfl
          try simp only [Act.put, List.setIfInBounds_toArray, List.set_cons_zero, List.set_cons_succ]
          refine wpAnyH_done (by kernel_rfl) (NoPanic.normal ?_) _
          clear hHeld
          have hfin := hide hK9.out.1.bel
          clear hK9
          go_wp2_with fail
          go_ret
          exact ⟨rfl, unhide hfin⟩
        · have hg3 : Hid (getM L2 x1 = b5) := (hg2.resolve_left f2).resolve_left f3
          have ee4 : decide (3 < x1) = false := by simp; omega
          clear hg2
          go_wp2_with fail
          refine wp_region_noPanic ?_
          refine wp_region_held_drew (S := (fun w' => Hid (TkS w w' p g L2 x0 x1 r1 s (w.heap.size + 1) w2.heap.size w4.heap.size (w4.heap.size + 1) w6.heap.size) ∧ w'.cell? ⟨w.heap.size + 1, 0, none⟩ = some (.int .i64 x0) ∧ w'.cell? ⟨w.heap.size + 1, 1, none⟩ = some (.int .i64 x1) ∧ w'.cell? ⟨w2.heap.size, 0, none⟩ = some (.int .i64 5) ∧ w'.cell? ⟨w2.heap.size, 1, none⟩ = some (.bool true) ∧ w'.cell? ⟨w2.heap.size, 2, none⟩ = some (.bool true) ∧ w'.cell? ⟨w2.heap.size, 3, none⟩ = some (.int .i64 0) ∧ w'.cell? ⟨w4.heap.size, 0, none⟩ = some (Value.int .i64 r1.n) ∧ w'.cell? ⟨w4.heap.size, 1, none⟩ = some (Value.bool r1.o) ∧ w'.cell? ⟨w4.heap.size, 2, none⟩ = some (Value.bool r1.h) ∧ w'.cell? ⟨w4.heap.size, 3, none⟩ = some (Value.int .i64 r1.d) ∧ w'.cell? ⟨w4.heap.size + 1, 0, none⟩ = some (Value.int .i64 s.n) ∧ w'.cell? ⟨w4.heap.size + 1, 1, none⟩ = some (Value.bool s.o) ∧ w'.cell? ⟨w4.heap.size + 1, 2, none⟩ = some (Value.bool s.h) ∧ w'.cell? ⟨w4.heap.size + 1, 3, none⟩ = some (Value.int .i64 s.d) ∧ w'.cell? ⟨w6.heap.size, 0, none⟩ = some (Value.int .i64 r1.n) ∧ w'.cell? ⟨w6.heap.size, 1, none⟩ = some (Value.bool r1.o) ∧ w'.cell? ⟨w6.heap.size, 2, none⟩ = some (Value.bool r1.h) ∧ w'.cell? ⟨w6.heap.size, 3, none⟩ = some (Value.int .i64 r1.d))) (by kernel_rfl) ?_ (fun hHeld => ?_)
          · exact heldT SS.out (Below.refl _ _).drew
          clear SS z0 z1
          refine hand_take (i := 0) (d := some 50) (v := ?_) rfl (by kernel_rfl) (by kernel_rfl) (by kernel_rfl) (fun _ _ _ h => h) ?_ hHeld ?_
          rotate_left
          · intro o ho
            simp at ho
            subst ho
            intro wz hSw
            try dsimp only at hSw
            go_simp
            try with_reducible rfl
          try simp only [Act.put, List.setIfInBounds_toArray, List.set_cons_zero, List.set_cons_succ]
          refine hand_take (i := 1) (d := some 51) (v := ?_) rfl (by kernel_rfl) (by kernel_rfl) (by kernel_rfl) (fun _ _ _ h => h) ?_ hHeld ?_
          rotate_left
          · intro o ho
            simp at ho
            subst ho
            intro wz hSw
            try dsimp only at hSw
            go_simp
            try with_reducible rfl
          try simp only [Act.put, List.setIfInBounds_toArray, List.set_cons_zero, List.set_cons_succ]
          refine hand_take (i := 2) (d := some 52) (v := ?_) rfl (by kernel_rfl) (by kernel_rfl) (by kernel_rfl) (fun _ _ _ h => h) ?_ hHeld ?_
          rotate_left
          · intro o ho
            simp at ho
            subst ho
            intro wz hSw
            try dsimp only at hSw
            go_simp
            try with_reducible rfl
          try simp only [Act.put, List.setIfInBounds_toArray, List.set_cons_zero, List.set_cons_succ]
          refine hand_take (i := 3) (d := some 53) (v := ?_) rfl (by kernel_rfl) (by kernel_rfl) (by kernel_rfl) (fun _ _ _ h => h) ?_ hHeld ?_
          rotate_left
          · intro o ho
            simp at ho
            subst ho
            intro wz hSw
            try dsimp only at hSw
            go_simp
            try with_reducible rfl
          try simp only [Act.put, List.setIfInBounds_toArray, List.set_cons_zero, List.set_cons_succ]
          refine hand_take (i := 4) (d := some 54) (v := ?_) rfl (by kernel_rfl) (by kernel_rfl) (by kernel_rfl) (fun _ _ _ h => h) ?_ hHeld ?_
          rotate_left
          · intro o ho
            simp at ho
            subst ho
            intro wz hSw
            try dsimp only at hSw
            go_simp
            try with_reducible rfl
          try simp only [Act.put, List.setIfInBounds_toArray, List.set_cons_zero, List.set_cons_succ]
          refine hand_take (i := 5) (d := some 55) (v := ?_) rfl (by kernel_rfl) (by kernel_rfl) (by kernel_rfl) (fun _ _ _ h => h) ?_ hHeld ?_
          rotate_left
          · intro o ho
            simp at ho
            subst ho
            intro wz hSw
            try dsimp only at hSw
            go_simp
            try with_reducible rfl
          try simp only [Act.put, List.setIfInBounds_toArray, List.set_cons_zero, List.set_cons_succ]
          refine hand_take (i := 6) (d := some 56) (v := ?_) rfl (by kernel_rfl) (by kernel_rfl) (by kernel_rfl) (fun _ _ _ h => h) ?_ hHeld ?_
          rotate_left
          · intro o ho
            simp at ho
            subst ho
            intro wz hSw
            try dsimp only at hSw
            go_simp
            try with_reducible rfl
          try simp only [Act.put, List.setIfInBounds_toArray, List.set_cons_zero, List.set_cons_succ]
          refine hand_take (i := 8) (d := some 58) (v := ?_) rfl (by kernel_rfl) (by kernel_rfl) (by kernel_rfl) (fun _ _ _ h => h) ?_ hHeld ?_
          rotate_left
          · intro o ho
            simp at ho
            subst ho
            intro wz hSw
            try dsimp only at hSw
            go_simp
            try with_reducible rfl
          try simp only [Act.put, List.setIfInBounds_toArray, List.set_cons_zero, List.set_cons_succ]
          refine hand_call (i := 7) rfl (by kernel_rfl) ?_
          intro o ho
          simp at ho
          subst ho
          intro K hK
          go_simp; go_at_call 18; refine (mGet_c p g _ x0 _ _ hHeld.1.out.1.n s hgs).mono ?_; rintro e w10 ⟨rfl, hb10⟩; have K10 := heldT hHeld.1.out hb10; clear hb10
          refine hK.out _ _ ?_ (fun hHeld => ?_)
          · exact K10
          clear hK K
          try simp only [Act.put, List.setIfInBounds_toArray, List.set_cons_zero, List.set_cons_succ]
          have hK9 := K10.1
          clear K10
          refine hand_take (i := 9) (d := some 59) (v := ?_) rfl (by kernel_rfl) (by kernel_rfl) (by kernel_rfl) (fun _ _ _ h => h) ?_ hHeld ?_
          rotate_left
          · intro o ho
            simp at ho
            subst ho
            intro wz hSw
            try dsimp only at hSw
            go_simp
            try with_reducible rfl
          try simp only [Act.put, List.setIfInBounds_toArray, List.set_cons_zero, List.set_cons_succ]
          refine hand_take (i := 10) (d := some 60) (v := ?_) rfl (by kernel_rfl) (by kernel_rfl) (by kernel_rfl) (fun _ _ _ h => h) ?_ hHeld ?_
          rotate_left
          · intro o ho
            simp at ho
            subst ho
            intro wz hSw
            try dsimp only at hSw
            go_simp
            try with_reducible rfl
          try simp only [Act.put, List.setIfInBounds_toArray, List.set_cons_zero, List.set_cons_succ]
          refine hand_take (i := 11) (d := some 61) (v := ?_) rfl (by kernel_rfl) (by kernel_rfl) (by kernel_rfl) (fun _ _ _ h => h) ?_ hHeld ?_
          rotate_left
          · intro o ho
            simp at ho
            subst ho
            intro wz hSw
            try dsimp only at hSw
            go_simp
            try with_reducible rfl
          try simp only [Act.put, List.setIfInBounds_toArray, List.set_cons_zero, List.set_cons_succ]
          refine hand_take (i := 12) (d := some 62) (v := ?_) rfl (by kernel_rfl) (by kernel_rfl) (by kernel_rfl) (fun _ _ _ h => h) ?_ hHeld ?_
          rotate_left
          · intro o ho
            simp at ho
            subst ho
            intro wz hSw
            try dsimp only at hSw
            go_simp
            try with_reducible rfl
          try simp only [Act.put, List.setIfInBounds_toArray, List.set_cons_zero, List.set_cons_succ]
          refine hand_take (i := 13) (d := some 63) (v := ?_) rfl (by kernel_rfl) (by kernel_rfl) (by kernel_rfl) (fun _ _ _ h => h) ?_ hHeld ?_
          rotate_left
          · intro o ho
            simp at ho
            subst ho
            intro wz hSw
            try dsimp only at hSw
            go_simp
            try with_reducible rfl
          try simp only [Act.put, List.setIfInBounds_toArray, List.set_cons_zero, List.set_cons_succ]
          refine hand_take (i := 14) (d := some 64) (v := ?_) rfl (by kernel_rfl) (by kernel_rfl) (by kernel_rfl) (fun _ _ _ h => h) ?_ hHeld ?_
          rotate_left
          · intro o ho
            simp at ho
            subst ho
            intro wz hSw
            try dsimp only at hSw
            go_simp
            try with_reducible rfl
          try simp only [Act.put, List.setIfInBounds_toArray, List.set_cons_zero, List.set_cons_succ]
          refine hand_take (i := 15) (d := some 65) (v := ?_) rfl (by kernel_rfl) (by kernel_rfl) (by kernel_rfl) (fun _ _ _ h => h) ?_ hHeld ?_
          rotate_left
          · intro o ho
            simp at ho
            subst ho
            intro wz hSw
            try dsimp only at hSw
            go_simp
            try with_reducible rfl
          try simp only [Act.put, List.setIfInBounds_toArray, List.set_cons_zero, List.set_cons_succ]
          refine hand_take (i := 16) (d := some 66) (v := ?_) rfl (by kernel_rfl) (by kernel_rfl) (by kernel_rfl) (fun _ _ _ h => h) ?_ hHeld ?_
          rotate_left
          · intro o ho
            simp at ho
            subst ho
            intro wz hSw
            try dsimp only at hSw
            go_simp
            try with_reducible rfl
          try simp only [Act.put, List.setIfInBounds_toArray, List.set_cons_zero, List.set_cons_succ]
          refine hand_take (i := 17) (d := some 67) (v := ?_) rfl (by kernel_rfl) (by kernel_rfl) (by kernel_rfl) (fun _ _ _ h => h) ?_ hHeld ?_
          rotate_left
          · intro o ho
            simp at ho
            subst ho
            intro wz hSw
            try dsimp only at hSw
            go_simp
            try with_reducible rfl
          try simp only [Act.put, List.setIfInBounds_toArray, List.set_cons_zero, List.set_cons_succ]
          refine hand_take (i := 18) (d := some 68) (v := ?_) rfl (by kernel_rfl) (by kernel_rfl) (by kernel_rfl) (fun _ _ _ h => h) ?_ hHeld ?_
          rotate_left
          · intro o ho
            simp at ho
            subst ho
            intro wz hSw
            try dsimp only at hSw
            go_simp
            try with_reducible rfl
          try simp only [Act.put, List.setIfInBounds_toArray, List.set_cons_zero, List.set_cons_succ]
          refine hand_take (i := 19) (d := some 69) (v := ?_) rfl (by kernel_rfl) (by kernel_rfl) (by kernel_rfl) (fun _ _ _ h => h) ?_ hHeld ?_
          rotate_left
          · intro o ho
            simp at ho
            subst ho
            intro wz hSw
            try dsimp only at hSw
            go_simp
            try with_reducible rfl
          try simp only [Act.put, List.setIfInBounds_toArray, List.set_cons_zero, List.set_cons_succ]
          refine hand_take (i := 20) (d := some 70) (v := ?_) rfl (by kernel_rfl) (by kernel_rfl) (by kernel_rfl) (fun _ _ _ h => h) ?_ hHeld ?_
          rotate_left
          · intro o ho
            simp at ho
            subst ho
            intro wz hSw
            try dsimp only at hSw
            go_simp
            try with_reducible rfl
          try simp only [Act.put, List.setIfInBounds_toArray, List.set_cons_zero, List.set_cons_succ]
          refine hand_take (i := 21) (d := some 71) (v := ?_) rfl (by kernel_rfl) (by kernel_rfl) (by kernel_rfl) (fun _ _ _ h => h) ?_ hHeld ?_
          rotate_left
          · intro o ho
            simp at ho
            subst ho
            intro wz hSw
            try dsimp only at hSw
            go_simp
            try with_reducible rfl
          try simp only [Act.put, List.setIfInBounds_toArray, List.set_cons_zero, List.set_cons_succ]
          refine hand_take (i := 22) (d := some 72) (v := ?_) rfl (by kernel_rfl) (by kernel_rfl) (by kernel_rfl) (fun _ _ _ h => h) ?_ hHeld ?_
          rotate_left
          · intro o ho
            simp at ho
            subst ho
            intro wz hSw
            try dsimp only at hSw
            go_simp
            try with_reducible rfl
          try simp only [Act.put, List.setIfInBounds_toArray, List.set_cons_zero, List.set_cons_succ]
          refine hand_take (i := 23) (d := some 73) (v := ?_) rfl (by kernel_rfl) (by kernel_rfl) (by kernel_rfl) (fun _ _ _ h => h) ?_ hHeld ?_
          rotate_left
          · intro o ho
            simp at ho
            subst ho
            intro wz hSw
            try dsimp only at hSw
            go_simp
            try with_reducible rfl
          try simp only [Act.put, List.setIfInBounds_toArray, List.set_cons_zero, List.set_cons_succ]
          refine hand_take (i := 24) (d := some 74) (v := ?_) rfl (by kernel_rfl) (by kernel_rfl) (by kernel_rfl) (fun _ _ _ h => h) ?_ hHeld ?_
          rotate_left
          · intro o ho
            simp at ho
            subst ho
            intro wz hSw
            try dsimp only at hSw
            go_simp
            try with_reducible rfl
          try simp only [Act.put, List.setIfInBounds_toArray, List.set_cons_zero, List.set_cons_succ]
          refine hand_take (i := 25) (d := some 75) (v := ?_) rfl (by kernel_rfl) (by kernel_rfl) (by kernel_rfl) (fun _ _ _ h => h) ?_ hHeld ?_
          rotate_left
          · intro o ho
            simp at ho
            subst ho
            intro wz hSw
            try dsimp only at hSw
            go_simp
            try with_reducible rfl
          try simp only [Act.put, List.setIfInBounds_toArray, List.set_cons_zero, List.set_cons_succ]
          refine hand_take (i := 26) (d := some 76) (v := ?_) rfl (by kernel_rfl) (by kernel_rfl) (by kernel_rfl) (fun _ _ _ h => h) ?_ hHeld ?_
          rotate_left
          · intro o ho
            simp at ho
            subst ho
            intro wz hSw
            try dsimp only at hSw
            go_simp
            try with_reducible rfl
          try simp only [Act.put, List.setIfInBounds_toArray, List.set_cons_zero, List.set_cons_succ]
          refine hand_take (i := 27) (d := some 77) (v := ?_) rfl (by kernel_rfl) (by kernel_rfl) (by kernel_rfl) (fun _ _ _ h => h) ?_ hHeld ?_
          rotate_left
          · intro o ho
            simp at ho
            subst ho
            intro wz hSw
            try dsimp only at hSw
            go_simp
            try with_reducible rfl
          try simp only [Act.put, List.setIfInBounds_toArray, List.set_cons_zero, List.set_cons_succ]
          refine hand_take (i := 28) (d := some 78) (v := ?_) rfl (by kernel_rfl) (by kernel_rfl) (by kernel_rfl) (fun _ _ _ h => h) ?_ hHeld ?_
          rotate_left
          · intro o ho
            simp at ho
            subst ho
            intro wz hSw
            try dsimp only at hSw
            go_simp
            try with_reducible rfl
          try simp only [Act.put, List.setIfInBounds_toArray, List.set_cons_zero, List.set_cons_succ]
          refine hand_take (i := 29) (d := some 79) (v := ?_) rfl (by kernel_rfl) (by kernel_rfl) (by kernel_rfl) (fun _ _ _ h => h) ?_ hHeld ?_
          rotate_left
          · intro o ho
            simp at ho
            subst ho
            intro wz hSw
            try dsimp only at hSw
            go_simp
            try with_reducible rfl
          try simp only [Act.put, List.setIfInBounds_toArray, List.set_cons_zero, List.set_cons_succ]
          refine hand_take (i := 30) (d := some 80) (v := ?_) rfl (by kernel_rfl) (by kernel_rfl) (by kernel_rfl) (fun _ _ _ h => h) ?_ hHeld ?_
          rotate_left
          · intro o ho
            simp at ho
            subst ho
            intro wz hSw
            try dsimp only at hSw
            go_simp
            try with_reducible rfl
          try simp only [Act.put, List.setIfInBounds_toArray, List.set_cons_zero, List.set_cons_succ]
          refine hand_take (i := 32) (d := some 82) (v := ?_) rfl (by kernel_rfl) (by kernel_rfl) (by kernel_rfl) (fun _ _ _ h => h) ?_ hHeld ?_
          rotate_left
          · intro o ho
            simp at ho
            subst ho
            intro wz hSw
            try dsimp only at hSw
            go_simp
            try with_reducible rfl
          try simp only [Act.put, List.setIfInBounds_toArray, List.set_cons_zero, List.set_cons_succ]
          refine hand_call (i := 31) rfl (by kernel_rfl) ?_
          intro o ho
          simp at ho
          subst ho
          intro K hK
          go_simp; go_at_call 18; refine (mGet_c p g _ x1 _ _ hHeld.1.out.1.n b5 hg3).mono ?_; rintro e w11 ⟨rfl, hb11⟩; have K11 := heldT hHeld.1.out hb11; clear hb11
          refine hK.out _ _ ?_ (fun hHeld => ?_)
          · exact K11
          clear hK K
          try simp only [Act.put, List.setIfInBounds_toArray, List.set_cons_zero, List.set_cons_succ]
          clear hK9
          have hK9 := K11.1
          clear K11
          refine hand_take (i := 33) (d := some 83) (v := ?_) rfl (by kernel_rfl) (by kernel_rfl) (by kernel_rfl) (fun _ _ _ h => h) ?_ hHeld ?_
          rotate_left
          · intro o ho
            simp at ho
            subst ho
            intro wz hSw
            try dsimp only at hSw
            go_simp
            try with_reducible rfl
          try simp only [Act.put, List.setIfInBounds_toArray, List.set_cons_zero, List.set_cons_succ]
          refine hand_take (i := 34) (d := some 84) (v := ?_) rfl (by kernel_rfl) (by kernel_rfl) (by kernel_rfl) (fun _ _ _ h => h) ?_ hHeld ?_
          rotate_left
          · intro o ho
            simp at ho
            subst ho
            intro wz hSw
            try dsimp only at hSw
            go_simp
            try with_reducible rfl
          try simp only [Act.put, List.setIfInBounds_toArray, List.set_cons_zero, List.set_cons_succ]
          refine hand_take (i := 35) (d := some 85) (v := ?_) rfl (by kernel_rfl) (by kernel_rfl) (by kernel_rfl) (fun _ _ _ h => h) ?_ hHeld ?_
          rotate_left
          · intro o ho
            simp at ho
            subst ho
            intro wz hSw
            try dsimp only at hSw
            go_simp
            try with_reducible rfl
          try simp only [Act.put, List.setIfInBounds_toArray, List.set_cons_zero, List.set_cons_succ]
          refine hand_take (i := 36) (d := some 6) (v := ?_) rfl (by kernel_rfl) (by kernel_rfl) (by kernel_rfl) (fun _ _ _ h => h) ?_ hHeld ?_
          rotate_left
          · intro o ho
            simp at ho
            subst ho
            intro wz hSw
            try dsimp only at hSw
            go_simp
            try with_reducible rfl
          try simp only [Act.put, List.setIfInBounds_toArray, List.set_cons_zero, List.set_cons_succ]
          refine wpAnyH_done (by kernel_rfl) (NoPanic.normal ?_) _
          clear hHeld
          have hfin := hide hK9.out.1.bel
          clear hK9
          go_wp2_with fail
          go_ret
          exact ⟨rfl, unhide hfin⟩
  · obtain ⟨-, y0, y1, y2, y3, -, -, -, -⟩ := b11
    have y0' : w7.cell? ⟨w6.heap.size, 0, none⟩ = some (.int .i64 0) := by rw [y0, hz]
    have y1' : w7.cell? ⟨w6.heap.size, 1, none⟩ = some (.bool false) := by rw [y1, hz]
    have y2' : w7.cell? ⟨w6.heap.size, 2, none⟩ = some (.bool false) := by rw [y2, hz]
    have y3' : w7.cell? ⟨w6.heap.size, 3, none⟩ = some (.int .i64 0) := by rw [y3, hz]
    clear y0 y1 y2 y3 hz
    have hfin := hide E7.bel
    clear hcase E7 X7 b87 b97 b107
    rcases c1 with c1 | ⟨c1, c2⟩
    all_goals
      go_wp2_with fail
      go_ret
      exact ⟨rfl, unhide hfin⟩
end Go.Proofs.Ytafccninjjhibaa
