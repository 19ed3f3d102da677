/- The contracts of the document's Add, Remove, Use, Victim (layer 8): LinL, LinM, LinN as one text. -/
import Derived.Test.YtooopcadefpncaaLinK
import Derived.Test.YtooopcadefpncaaHand2
namespace Go.Proofs.Ytooopcadefpncaa
open Go.ChangeShapes Go.WideShapes Go.ChangeAt Go.RowKit
set_option linter.unusedSimpArgs false
set_option linter.unusedVariables false
set_option maxRecDepth 10000

attribute [local go_sem, local simp] over_const setCell_drewN alloc_drewN Over.cell Over.frozen lt_s1 lt_s2 lt_s3 le_s0 le_s1 le_s2 le_s3 eq_s0 eq_s1 eq_s2 qe_s0

/-- A new value of the blocks, stored. -/
theorem RfIs.put {w w1 : World} {p g g' : Nat} {Ft : Nat → Prop} {S W : Int} {A A' : List Int} {v v' : Value} (h : RfIs w p Ft S W A) (hv : w.cell? ⟨p, 2, none⟩ = some v) (hFg : Ft g) (hgp : g = p → v = nilV) (hf : FrS (· = g) w w1) (hnil : v = nilV → Below w.heap.size w w1) (hI : Inv S W A')
    (hown : Own w1 v' g' A') (hg : g' = g ∨ w.heap.size ≤ g') (hk : g' = g → v = nilV → v' = nilV) :
    w1.cell? ⟨p, 2, none⟩ = some v ∧ w1.frozen? ⟨p, 2, none⟩ = false ∧ ∃ Ft', RfIs (w1.setCell ⟨p, 2, none⟩ v') p Ft' S W A' ∧ Step Ft Ft' w (w1.setCell ⟨p, 2, none⟩ v') := by
  have hb : w1.heap[p]? = w.heap[p]? := by
    by_cases e : g = p
    · exact (hnil (hgp e)).block p h.pl
    · exact hf.block p h.pl (fun x => e x.symm)
  have q0 := (World.cell?_of_block (w := w) (a := ⟨p, 0, none⟩) hb).trans h.c0
  have q1 := (World.cell?_of_block (w := w) (a := ⟨p, 1, none⟩) hb).trans h.c1
  have q2 := (World.cell?_of_block (w := w) (a := ⟨p, 2, none⟩) hb).trans hv
  have qf := (World.frozen?_of_block (w := w) (a := ⟨p, 2, none⟩) hb).trans h.f2
  have hs := hf.size
  have hpl := h.pl
  have hgl := hown.lt
  refine ⟨q2, qf, fun b => Ft b ∨ b = g', ⟨hI, by rw [World.size_setCell]; omega, .inl h.fp, ?_, (World.cell?_setCell_other _ _ _ _ (by simp)).trans q0, (World.cell?_setCell_other _ _ _ _ (by simp)).trans q1, ⟨v', g', World.cell?_setCell_same _ _ _ q2, ?_, .inr rfl, fun e => ?_⟩, by rw [World.frozen?_setCell]; exact qf⟩, ?_, ?_⟩
  · rintro b (hb' | rfl)
    · rw [World.size_setCell]; have := h.lt b hb'; omega
    · rw [World.size_setCell]; exact hgl
  · by_cases e : g' = p
    · have e1 : g' = g := by rcases hg with hg | hg; exact hg; omega
      have e2 := hk e1 (hgp (by omega))
      subst e2
      rw [own_nilV hown]
      exact own_nil (by rw [World.size_setCell]; exact hgl)
    · exact hown.carry (Below.heap_setCell _ _ _ _ e)
  · have e1 : g' = g := by rcases hg with hg | hg; exact hg; omega
    exact hk e1 (hgp (by omega))
  · exact ((hf.mono (fun i _ hi => by rw [hi]; exact hFg)).setCell (.inl h.fp) v')
  · rintro b (hb' | rfl)
    · exact .inl hb'
    · rcases hg with rfl | hg
      · exact .inl hFg
      · exact .inr hg

theorem RfIs.putNew {w w1 : World} {p g' : Nat} {Ft : Nat → Prop} {S W : Int} {A A' : List Int} {v' : Value} (h : RfIs w p Ft S W A) (hb : Below w.heap.size w w1) (hI : Inv S W A') (hown : Own w1 v' g' A') (hg : w.heap.size ≤ g') :
    (∃ v, w1.cell? ⟨p, 2, none⟩ = some v) ∧ w1.frozen? ⟨p, 2, none⟩ = false ∧ ∃ Ft', RfIs (w1.setCell ⟨p, 2, none⟩ v') p Ft' S W A' ∧ Step Ft Ft' w (w1.setCell ⟨p, 2, none⟩ v') := by
  obtain ⟨v, g, h1, h2, h3, h4⟩ := h.c2
  obtain ⟨a, b, c⟩ := h.put h1 h3 h4 (FrS.of_below hb) (fun _ => hb) hI hown (.inr hg) (fun e => by have := h2.lt; omega)
  exact ⟨⟨v, a⟩, b, c⟩

theorem belA' (w : World) (o : Obj) : Below w.heap.size w (w.alloc o) := (Below.refl _ _).alloc (Nat.le_refl _) _

theorem RfIs.view {w : World} {p : Nat} {Ft : Nat → Prop} {S W : Int} {A : List Int} (h : RfIs w p Ft S W A) : ∃ ao cap g, w.cell? ⟨p, 2, none⟩ = some (.slice ao A.length cap) ∧ Hid (View w (.slice ao A.length cap) g A) := by
  obtain ⟨v, g, h1, h2, _⟩ := h.c2
  have h3 := h2.view
  obtain ⟨ao, cap, rfl, _⟩ := h2
  exact ⟨ao, cap, g, h1, h3⟩

set_option maxHeartbeats 2000000 in
theorem rAdd_c (p : Nat) (Ft : Nat → Prop) (S W x : Int) (A : List Int) (w : World) (h : RfIs w p Ft S W A) (hx : x ≤ 9223372036854775807) : Calls Try.prog 39 #[ptr p, .int .i64 x] w fun e w' => e = .returned (.bool (okAdd S W A x)) ∧ ∃ Ft', RfIs w' p Ft' S W (nxAdd S W A x) ∧ Step Ft Ft' w w' := by
  have hh := hide h
  have c1 := h.c1
  have hpl := h.pl
  by_cases x0 : x < 0
  · have e1 : okAdd S W A x = false := by simp [okAdd]; omega
    have e2 : nxAdd S W A x = A := by simp [nxAdd, e1]
    rw [e1, e2]
    clear h
    go_enter Try.func39, Try.ntmps39
    go_wp2_with fail
    refine wp_region_noPanic ?_
    refine wp_region_held_drew (S := (fun w' => w' = w.drew)) (by kernel_rfl) ?_ (fun hHeld => ?_)
    · rfl
    refine hand_take (i := 0) (d := some 5) (v := ?_) rfl (by kernel_rfl) (by kernel_rfl) (by kernel_rfl) (fun _ _ _ h => h) ?_ hHeld ?_
    rotate_left
    · intro o ho
      simp at ho
      subst ho
      intro wz hSw
      try dsimp only at hSw
      go_simp
      try with_reducible rfl
    try simp only [Act.put, List.setIfInBounds_toArray, List.set_cons_zero, List.set_cons_succ]
    refine hand_take (i := 1) (d := some 6) (v := .bool true) rfl (by kernel_rfl) (by kernel_rfl) (by kernel_rfl) (fun _ _ _ h => h) ?_ hHeld ?_
    · intro o ho
      simp at ho
      subst ho
      intro wz hSw
      try dsimp only at hSw
      go_simp; try simp [x0]
    try simp only [Act.put, List.setIfInBounds_toArray, List.set_cons_zero, List.set_cons_succ]
    refine hand_take (i := 2) (d := some 7) (v := ?_) rfl (by kernel_rfl) (by kernel_rfl) (by kernel_rfl) (fun _ _ _ h => h) ?_ hHeld ?_
    rotate_left
    · intro o ho
      simp at ho
      subst ho
      intro wz hSw
      try dsimp only at hSw
      go_simp
      try with_reducible rfl
    try simp only [Act.put, List.setIfInBounds_toArray, List.set_cons_zero, List.set_cons_succ]
    refine hand_skip (i := 3) (d := some 8) rfl (by kernel_rfl) (by kernel_rfl) (by kernel_rfl) (fun _ _ _ h => h) hHeld ?_
    try simp only [Act.put, List.setIfInBounds_toArray, List.set_cons_zero, List.set_cons_succ]
    refine hand_skip (i := 4) (d := some 9) rfl (by kernel_rfl) (by kernel_rfl) (by kernel_rfl) (fun _ _ _ h => h) hHeld ?_
    try simp only [Act.put, List.setIfInBounds_toArray, List.set_cons_zero, List.set_cons_succ]
    refine hand_skip (i := 5) (d := some 10) rfl (by kernel_rfl) (by kernel_rfl) (by kernel_rfl) (fun _ _ _ h => h) hHeld ?_
    try simp only [Act.put, List.setIfInBounds_toArray, List.set_cons_zero, List.set_cons_succ]
    refine hand_take (i := 6) (d := some 11) (v := ?_) rfl (by kernel_rfl) (by kernel_rfl) (by kernel_rfl) (fun _ _ _ h => h) ?_ hHeld ?_
    rotate_left
    · intro o ho
      simp at ho
      subst ho
      intro wz hSw
      try dsimp only at hSw
      go_simp
      try with_reducible rfl
    try simp only [Act.put, List.setIfInBounds_toArray, List.set_cons_zero, List.set_cons_succ]
    refine hand_take (i := 7) (d := some 12) (v := ?_) rfl (by kernel_rfl) (by kernel_rfl) (by kernel_rfl) (fun _ _ _ h => h) ?_ hHeld ?_
    rotate_left
    · intro o ho
      simp at ho
      subst ho
      intro wz hSw
      try dsimp only at hSw
      go_simp
      try with_reducible rfl
    try simp only [Act.put, List.setIfInBounds_toArray, List.set_cons_zero, List.set_cons_succ]
    refine hand_skip (i := 8) (d := some 13) rfl (by kernel_rfl) (by kernel_rfl) (by kernel_rfl) (fun _ _ _ h => h) hHeld ?_
    try simp only [Act.put, List.setIfInBounds_toArray, List.set_cons_zero, List.set_cons_succ]
    refine hand_skip (i := 9) (d := some 14) rfl (by kernel_rfl) (by kernel_rfl) (by kernel_rfl) (fun _ _ _ h => h) hHeld ?_
    try simp only [Act.put, List.setIfInBounds_toArray, List.set_cons_zero, List.set_cons_succ]
    refine hand_skip (i := 10) (d := some 15) rfl (by kernel_rfl) (by kernel_rfl) (by kernel_rfl) (fun _ _ _ h => h) hHeld ?_
    try simp only [Act.put, List.setIfInBounds_toArray, List.set_cons_zero, List.set_cons_succ]
    refine hand_skip (i := 11) (d := some 16) rfl (by kernel_rfl) (by kernel_rfl) (by kernel_rfl) (fun _ _ _ h => h) hHeld ?_
    try simp only [Act.put, List.setIfInBounds_toArray, List.set_cons_zero, List.set_cons_succ]
    refine hand_skip (i := 12) (d := some 17) rfl (by kernel_rfl) (by kernel_rfl) (by kernel_rfl) (fun _ _ _ h => h) hHeld ?_
    try simp only [Act.put, List.setIfInBounds_toArray, List.set_cons_zero, List.set_cons_succ]
    refine hand_skip (i := 13) (d := some 18) rfl (by kernel_rfl) (by kernel_rfl) (by kernel_rfl) (fun _ _ _ h => h) hHeld ?_
    try simp only [Act.put, List.setIfInBounds_toArray, List.set_cons_zero, List.set_cons_succ]
    refine hand_skip (i := 14) (d := some 19) rfl (by kernel_rfl) (by kernel_rfl) (by kernel_rfl) (fun _ _ _ h => h) hHeld ?_
    try simp only [Act.put, List.setIfInBounds_toArray, List.set_cons_zero, List.set_cons_succ]
    refine hand_skip (i := 15) (d := some 20) rfl (by kernel_rfl) (by kernel_rfl) (by kernel_rfl) (fun _ _ _ h => h) hHeld ?_
    try simp only [Act.put, List.setIfInBounds_toArray, List.set_cons_zero, List.set_cons_succ]
    refine hand_skip (i := 16) (d := some 21) rfl (by kernel_rfl) (by kernel_rfl) (by kernel_rfl) (fun _ _ _ h => h) hHeld ?_
    try simp only [Act.put, List.setIfInBounds_toArray, List.set_cons_zero, List.set_cons_succ]
    refine hand_take (i := 17) (d := some 22) (v := ?_) rfl (by kernel_rfl) (by kernel_rfl) (by kernel_rfl) (fun _ _ _ h => h) ?_ hHeld ?_
    rotate_left
    · intro o ho
      simp at ho
      subst ho
      intro wz hSw
      try dsimp only at hSw
      go_simp
      try with_reducible rfl
    try simp only [Act.put, List.setIfInBounds_toArray, List.set_cons_zero, List.set_cons_succ]
    refine wpAnyH_done (by kernel_rfl) (NoPanic.normal ?_) _
    clear hHeld
    go_wp2_with fail
    go_ret
    exact ⟨rfl, Ft, (unhide hh).drew, Step.of_below (Below.refl _ _).drew⟩
  by_cases xa : x ∈ A
  · have e1 : okAdd S W A x = false := by simp [okAdd, xa]
    have e2 : nxAdd S W A x = A := by simp [nxAdd, e1]
    have e3 : decide (x ∈ A) = true := by simpa using xa
    rw [e1, e2]
    clear h xa
    go_enter Try.func39, Try.ntmps39
    go_wp2_with fail
    refine wp_region_noPanic ?_
    refine wp_region_held_drew (S := (fun w' => w' = w.drew)) (by kernel_rfl) ?_ (fun hHeld => ?_)
    · rfl
    refine hand_take (i := 0) (d := some 5) (v := ?_) rfl (by kernel_rfl) (by kernel_rfl) (by kernel_rfl) (fun _ _ _ h => h) ?_ hHeld ?_
    rotate_left
    · intro o ho
      simp at ho
      subst ho
      intro wz hSw
      try dsimp only at hSw
      go_simp
      try with_reducible rfl
    try simp only [Act.put, List.setIfInBounds_toArray, List.set_cons_zero, List.set_cons_succ]
    refine hand_take (i := 1) (d := some 6) (v := .bool false) rfl (by kernel_rfl) (by kernel_rfl) (by kernel_rfl) (fun _ _ _ h => h) ?_ hHeld ?_
    · intro o ho
      simp at ho
      subst ho
      intro wz hSw
      try dsimp only at hSw
      go_simp; try simp [x0]
    try simp only [Act.put, List.setIfInBounds_toArray, List.set_cons_zero, List.set_cons_succ]
    refine hand_take (i := 2) (d := some 7) (v := ?_) rfl (by kernel_rfl) (by kernel_rfl) (by kernel_rfl) (fun _ _ _ h => h) ?_ hHeld ?_
    rotate_left
    · intro o ho
      simp at ho
      subst ho
      intro wz hSw
      try dsimp only at hSw
      go_simp
      try with_reducible rfl
    try simp only [Act.put, List.setIfInBounds_toArray, List.set_cons_zero, List.set_cons_succ]
    refine hand_take (i := 3) (d := some 8) (v := ?_) rfl (by kernel_rfl) (by kernel_rfl) (by kernel_rfl) (fun _ _ _ h => h) ?_ hHeld ?_
    rotate_left
    · intro o ho
      simp at ho
      subst ho
      intro wz hSw
      try dsimp only at hSw
      go_simp
      try with_reducible rfl
    try simp only [Act.put, List.setIfInBounds_toArray, List.set_cons_zero, List.set_cons_succ]
    refine hand_take (i := 4) (d := some 9) (v := ?_) rfl (by kernel_rfl) (by kernel_rfl) (by kernel_rfl) (fun _ _ _ h => h) ?_ hHeld ?_
    rotate_left
    · intro o ho
      simp at ho
      subst ho
      intro wz hSw
      try dsimp only at hSw
      go_simp
      try with_reducible rfl
    try simp only [Act.put, List.setIfInBounds_toArray, List.set_cons_zero, List.set_cons_succ]
    refine hand_call (i := 5) rfl (by kernel_rfl) ?_
    intro o ho
    simp at ho
    subst ho
    intro K hK
    go_simp; go_at_call 38; refine (rHas_c p Ft S W x A w.drew (unhide hh).drew).mono ?_; rw [e3]; rintro e w' ⟨rfl, hw'⟩; rw [hw']; clear hw' w'
    refine hK.out _ _ ?_ (fun hHeld => ?_)
    · exact rfl
    clear hK K
    try simp only [Act.put, List.setIfInBounds_toArray, List.set_cons_zero, List.set_cons_succ]
    refine hand_take (i := 6) (d := some 11) (v := ?_) rfl (by kernel_rfl) (by kernel_rfl) (by kernel_rfl) (fun _ _ _ h => h) ?_ hHeld ?_
    rotate_left
    · intro o ho
      simp at ho
      subst ho
      intro wz hSw
      try dsimp only at hSw
      go_simp
      try with_reducible rfl
    try simp only [Act.put, List.setIfInBounds_toArray, List.set_cons_zero, List.set_cons_succ]
    refine hand_take (i := 7) (d := some 12) (v := ?_) rfl (by kernel_rfl) (by kernel_rfl) (by kernel_rfl) (fun _ _ _ h => h) ?_ hHeld ?_
    rotate_left
    · intro o ho
      simp at ho
      subst ho
      intro wz hSw
      try dsimp only at hSw
      go_simp
      try with_reducible rfl
    try simp only [Act.put, List.setIfInBounds_toArray, List.set_cons_zero, List.set_cons_succ]
    refine hand_skip (i := 8) (d := some 13) rfl (by kernel_rfl) (by kernel_rfl) (by kernel_rfl) (fun _ _ _ h => h) hHeld ?_
    try simp only [Act.put, List.setIfInBounds_toArray, List.set_cons_zero, List.set_cons_succ]
    refine hand_skip (i := 9) (d := some 14) rfl (by kernel_rfl) (by kernel_rfl) (by kernel_rfl) (fun _ _ _ h => h) hHeld ?_
    try simp only [Act.put, List.setIfInBounds_toArray, List.set_cons_zero, List.set_cons_succ]
    refine hand_skip (i := 10) (d := some 15) rfl (by kernel_rfl) (by kernel_rfl) (by kernel_rfl) (fun _ _ _ h => h) hHeld ?_
    try simp only [Act.put, List.setIfInBounds_toArray, List.set_cons_zero, List.set_cons_succ]
    refine hand_skip (i := 11) (d := some 16) rfl (by kernel_rfl) (by kernel_rfl) (by kernel_rfl) (fun _ _ _ h => h) hHeld ?_
    try simp only [Act.put, List.setIfInBounds_toArray, List.set_cons_zero, List.set_cons_succ]
    refine hand_skip (i := 12) (d := some 17) rfl (by kernel_rfl) (by kernel_rfl) (by kernel_rfl) (fun _ _ _ h => h) hHeld ?_
    try simp only [Act.put, List.setIfInBounds_toArray, List.set_cons_zero, List.set_cons_succ]
    refine hand_skip (i := 13) (d := some 18) rfl (by kernel_rfl) (by kernel_rfl) (by kernel_rfl) (fun _ _ _ h => h) hHeld ?_
    try simp only [Act.put, List.setIfInBounds_toArray, List.set_cons_zero, List.set_cons_succ]
    refine hand_skip (i := 14) (d := some 19) rfl (by kernel_rfl) (by kernel_rfl) (by kernel_rfl) (fun _ _ _ h => h) hHeld ?_
    try simp only [Act.put, List.setIfInBounds_toArray, List.set_cons_zero, List.set_cons_succ]
    refine hand_skip (i := 15) (d := some 20) rfl (by kernel_rfl) (by kernel_rfl) (by kernel_rfl) (fun _ _ _ h => h) hHeld ?_
    try simp only [Act.put, List.setIfInBounds_toArray, List.set_cons_zero, List.set_cons_succ]
    refine hand_skip (i := 16) (d := some 21) rfl (by kernel_rfl) (by kernel_rfl) (by kernel_rfl) (fun _ _ _ h => h) hHeld ?_
    try simp only [Act.put, List.setIfInBounds_toArray, List.set_cons_zero, List.set_cons_succ]
    refine hand_take (i := 17) (d := some 22) (v := ?_) rfl (by kernel_rfl) (by kernel_rfl) (by kernel_rfl) (fun _ _ _ h => h) ?_ hHeld ?_
    rotate_left
    · intro o ho
      simp at ho
      subst ho
      intro wz hSw
      try dsimp only at hSw
      go_simp
      try with_reducible rfl
    try simp only [Act.put, List.setIfInBounds_toArray, List.set_cons_zero, List.set_cons_succ]
    refine wpAnyH_done (by kernel_rfl) (NoPanic.normal ?_) _
    clear hHeld
    go_wp2_with fail
    go_ret
    exact ⟨rfl, Ft, (unhide hh).drew, Step.of_below (Below.refl _ _).drew⟩
  have e3 : decide (x ∈ A) = false := by simpa using xa
  obtain ⟨n, hn⟩ : ∃ n : Nat, Hid ((part S A (modZ x S)).length = n) := ⟨_, rfl⟩
  have hlen := h.inv.len
  by_cases hfl : W ≤ (n : Int)
  · have e1 : okAdd S W A x = false := by simp [okAdd, fullA, hn.out, hfl]
    have e2 : nxAdd S W A x = A := by simp [nxAdd, e1]
    rw [e1, e2]
    clear h xa
    go_enter Try.func39, Try.ntmps39
    go_wp2_with fail
    refine wp_region_noPanic ?_
    refine wp_region_held_drew (S := (fun w' => w'.cell? ⟨p, 1, none⟩ = some (.int .i64 W))) (by kernel_rfl) ?_ (fun hHeld => ?_)
    · exact c1
    refine hand_take (i := 0) (d := some 5) (v := ?_) rfl (by kernel_rfl) (by kernel_rfl) (by kernel_rfl) (fun _ _ _ h => h) ?_ hHeld ?_
    rotate_left
    · intro o ho
      simp at ho
      subst ho
      intro wz hSw
      try dsimp only at hSw
      go_simp
      try with_reducible rfl
    try simp only [Act.put, List.setIfInBounds_toArray, List.set_cons_zero, List.set_cons_succ]
    refine hand_take (i := 1) (d := some 6) (v := .bool false) rfl (by kernel_rfl) (by kernel_rfl) (by kernel_rfl) (fun _ _ _ h => h) ?_ hHeld ?_
    · intro o ho
      simp at ho
      subst ho
      intro wz hSw
      try dsimp only at hSw
      go_simp; try simp [x0]
    try simp only [Act.put, List.setIfInBounds_toArray, List.set_cons_zero, List.set_cons_succ]
    refine hand_take (i := 2) (d := some 7) (v := ?_) rfl (by kernel_rfl) (by kernel_rfl) (by kernel_rfl) (fun _ _ _ h => h) ?_ hHeld ?_
    rotate_left
    · intro o ho
      simp at ho
      subst ho
      intro wz hSw
      try dsimp only at hSw
      go_simp
      try with_reducible rfl
    try simp only [Act.put, List.setIfInBounds_toArray, List.set_cons_zero, List.set_cons_succ]
    refine hand_take (i := 3) (d := some 8) (v := ?_) rfl (by kernel_rfl) (by kernel_rfl) (by kernel_rfl) (fun _ _ _ h => h) ?_ hHeld ?_
    rotate_left
    · intro o ho
      simp at ho
      subst ho
      intro wz hSw
      try dsimp only at hSw
      go_simp
      try with_reducible rfl
    try simp only [Act.put, List.setIfInBounds_toArray, List.set_cons_zero, List.set_cons_succ]
    refine hand_take (i := 4) (d := some 9) (v := ?_) rfl (by kernel_rfl) (by kernel_rfl) (by kernel_rfl) (fun _ _ _ h => h) ?_ hHeld ?_
    rotate_left
    · intro o ho
      simp at ho
      subst ho
      intro wz hSw
      try dsimp only at hSw
      go_simp
      try with_reducible rfl
    try simp only [Act.put, List.setIfInBounds_toArray, List.set_cons_zero, List.set_cons_succ]
    refine hand_call (i := 5) rfl (by kernel_rfl) ?_
    intro o ho
    simp at ho
    subst ho
    intro K hK
    go_simp; go_at_call 38; refine (rHas_c p Ft S W x A w.drew (unhide hh).drew).mono ?_; rw [e3]; rintro e w' ⟨rfl, hw'⟩; rw [hw']; clear hw' w'
    refine hK.out _ _ ?_ (fun hHeld => ?_)
    · exact c1
    clear hK K
    try simp only [Act.put, List.setIfInBounds_toArray, List.set_cons_zero, List.set_cons_succ]
    refine hand_take (i := 6) (d := some 11) (v := ?_) rfl (by kernel_rfl) (by kernel_rfl) (by kernel_rfl) (fun _ _ _ h => h) ?_ hHeld ?_
    rotate_left
    · intro o ho
      simp at ho
      subst ho
      intro wz hSw
      try dsimp only at hSw
      go_simp
      try with_reducible rfl
    try simp only [Act.put, List.setIfInBounds_toArray, List.set_cons_zero, List.set_cons_succ]
    refine hand_take (i := 7) (d := some 12) (v := ?_) rfl (by kernel_rfl) (by kernel_rfl) (by kernel_rfl) (fun _ _ _ h => h) ?_ hHeld ?_
    rotate_left
    · intro o ho
      simp at ho
      subst ho
      intro wz hSw
      try dsimp only at hSw
      go_simp
      try with_reducible rfl
    try simp only [Act.put, List.setIfInBounds_toArray, List.set_cons_zero, List.set_cons_succ]
    refine hand_take (i := 8) (d := some 13) (v := ?_) rfl (by kernel_rfl) (by kernel_rfl) (by kernel_rfl) (fun _ _ _ h => h) ?_ hHeld ?_
    rotate_left
    · intro o ho
      simp at ho
      subst ho
      intro wz hSw
      try dsimp only at hSw
      go_simp
      try with_reducible rfl
    try simp only [Act.put, List.setIfInBounds_toArray, List.set_cons_zero, List.set_cons_succ]
    refine hand_take (i := 9) (d := some 14) (v := ?_) rfl (by kernel_rfl) (by kernel_rfl) (by kernel_rfl) (fun _ _ _ h => h) ?_ hHeld ?_
    rotate_left
    · intro o ho
      simp at ho
      subst ho
      intro wz hSw
      try dsimp only at hSw
      go_simp
      try with_reducible rfl
    try simp only [Act.put, List.setIfInBounds_toArray, List.set_cons_zero, List.set_cons_succ]
    refine hand_take (i := 12) (d := some 17) (v := ?_) rfl (by kernel_rfl) (by kernel_rfl) (by kernel_rfl) (fun _ _ _ h => h) ?_ hHeld ?_
    rotate_left
    · intro o ho
      simp at ho
      subst ho
      intro wz hSw
      try dsimp only at hSw
      go_simp
      try with_reducible rfl
    try simp only [Act.put, List.setIfInBounds_toArray, List.set_cons_zero, List.set_cons_succ]
    refine hand_take (i := 13) (d := some 18) (v := ?_) rfl (by kernel_rfl) (by kernel_rfl) (by kernel_rfl) (fun _ _ _ h => h) ?_ hHeld ?_
    rotate_left
    · intro o ho
      simp at ho
      subst ho
      intro wz hSw
      try dsimp only at hSw
      go_simp
      try with_reducible rfl
    try simp only [Act.put, List.setIfInBounds_toArray, List.set_cons_zero, List.set_cons_succ]
    refine hand_take (i := 14) (d := some 19) (v := ?_) rfl (by kernel_rfl) (by kernel_rfl) (by kernel_rfl) (fun _ _ _ h => h) ?_ hHeld ?_
    rotate_left
    · intro o ho
      simp at ho
      subst ho
      intro wz hSw
      try dsimp only at hSw
      go_simp
      try with_reducible rfl
    try simp only [Act.put, List.setIfInBounds_toArray, List.set_cons_zero, List.set_cons_succ]
    refine hand_take (i := 15) (d := some 20) (v := ?_) rfl (by kernel_rfl) (by kernel_rfl) (by kernel_rfl) (fun _ _ _ h => h) ?_ hHeld ?_
    rotate_left
    · intro o ho
      simp at ho
      subst ho
      intro wz hSw
      try dsimp only at hSw
      go_simp
      try with_reducible rfl
    try simp only [Act.put, List.setIfInBounds_toArray, List.set_cons_zero, List.set_cons_succ]
    refine hand_call (i := 10) rfl (by kernel_rfl) ?_
    intro o ho
    simp at ho
    subst ho
    intro K hK
    go_simp
    go_at_call 58
    refine (mates_c p Ft S W x A w.drew (unhide hh).drew).mono ?_
    rintro e w1 ⟨v1, g1, rfl, hg1, hO1, hb1⟩
    obtain ⟨ao1, cap1, rfl, -⟩ := hO1
    rw [hn.out]
    have hB1 : Below w.heap.size w w1 := ((Below.refl _ _).drew).trans hb1
    refine hK.out _ _ ?_ (fun hHeld => ?_)
    · exact (hB1.cell (p := ⟨p, 1, none⟩) hpl).trans c1
    clear hK K hb1 hg1
    replace hB1 := hide hB1
    try simp only [Act.put, List.setIfInBounds_toArray, List.set_cons_zero, List.set_cons_succ]
    refine hand_take (i := 11) (d := some 16) (v := ?_) rfl (by kernel_rfl) (by kernel_rfl) (by kernel_rfl) (fun _ _ _ h => h) ?_ hHeld ?_
    rotate_left
    · intro o ho
      simp at ho
      subst ho
      intro wz hSw
      try dsimp only at hSw
      go_simp
      try with_reducible rfl
    try simp only [Act.put, List.setIfInBounds_toArray, List.set_cons_zero, List.set_cons_succ]
    refine hand_take (i := 16) (d := some 21) (v := .bool true) rfl (by kernel_rfl) (by kernel_rfl) (by kernel_rfl) (fun _ _ _ h => h) ?_ hHeld ?_
    · intro o ho
      simp at ho
      subst ho
      intro wz hSw
      try dsimp only at hSw
      go_simp; try simp [hfl]
    try simp only [Act.put, List.setIfInBounds_toArray, List.set_cons_zero, List.set_cons_succ]
    refine hand_take (i := 17) (d := some 22) (v := ?_) rfl (by kernel_rfl) (by kernel_rfl) (by kernel_rfl) (fun _ _ _ h => h) ?_ hHeld ?_
    rotate_left
    · intro o ho
      simp at ho
      subst ho
      intro wz hSw
      try dsimp only at hSw
      go_simp
      try with_reducible rfl
    try simp only [Act.put, List.setIfInBounds_toArray, List.set_cons_zero, List.set_cons_succ]
    refine wpAnyH_done (by kernel_rfl) (NoPanic.normal ?_) _
    clear hHeld
    go_wp2_with fail
    go_ret
    exact ⟨rfl, Ft, (unhide hh).below (unhide hB1), Step.of_below (unhide hB1)⟩
  · have hfl' : fullA S W A x = false := by simp [fullA, hn.out]; omega
    have e1 : okAdd S W A x = true := by simp [okAdd, hfl', xa]; omega
    have e2 : nxAdd S W A x = A ++ [x] := by simp [nxAdd, e1]
    have hI := hide (h.inv.add hx e1)
    rw [e1, e2]
    clear h xa hfl'
    go_enter Try.func39, Try.ntmps39
    go_wp2_with fail
    refine wp_region_noPanic ?_
    refine wp_region_held_drew (S := (fun w' => w'.cell? ⟨p, 1, none⟩ = some (.int .i64 W))) (by kernel_rfl) ?_ (fun hHeld => ?_)
    · exact c1
    refine hand_take (i := 0) (d := some 5) (v := ?_) rfl (by kernel_rfl) (by kernel_rfl) (by kernel_rfl) (fun _ _ _ h => h) ?_ hHeld ?_
    rotate_left
    · intro o ho
      simp at ho
      subst ho
      intro wz hSw
      try dsimp only at hSw
      go_simp
      try with_reducible rfl
    try simp only [Act.put, List.setIfInBounds_toArray, List.set_cons_zero, List.set_cons_succ]
    refine hand_take (i := 1) (d := some 6) (v := .bool false) rfl (by kernel_rfl) (by kernel_rfl) (by kernel_rfl) (fun _ _ _ h => h) ?_ hHeld ?_
    · intro o ho
      simp at ho
      subst ho
      intro wz hSw
      try dsimp only at hSw
      go_simp; try simp [x0]
    try simp only [Act.put, List.setIfInBounds_toArray, List.set_cons_zero, List.set_cons_succ]
    refine hand_take (i := 2) (d := some 7) (v := ?_) rfl (by kernel_rfl) (by kernel_rfl) (by kernel_rfl) (fun _ _ _ h => h) ?_ hHeld ?_
    rotate_left
    · intro o ho
      simp at ho
      subst ho
      intro wz hSw
      try dsimp only at hSw
      go_simp
      try with_reducible rfl
    try simp only [Act.put, List.setIfInBounds_toArray, List.set_cons_zero, List.set_cons_succ]
    refine hand_take (i := 3) (d := some 8) (v := ?_) rfl (by kernel_rfl) (by kernel_rfl) (by kernel_rfl) (fun _ _ _ h => h) ?_ hHeld ?_
    rotate_left
    · intro o ho
      simp at ho
      subst ho
      intro wz hSw
      try dsimp only at hSw
      go_simp
      try with_reducible rfl
    try simp only [Act.put, List.setIfInBounds_toArray, List.set_cons_zero, List.set_cons_succ]
    refine hand_take (i := 4) (d := some 9) (v := ?_) rfl (by kernel_rfl) (by kernel_rfl) (by kernel_rfl) (fun _ _ _ h => h) ?_ hHeld ?_
    rotate_left
    · intro o ho
      simp at ho
      subst ho
      intro wz hSw
      try dsimp only at hSw
      go_simp
      try with_reducible rfl
    try simp only [Act.put, List.setIfInBounds_toArray, List.set_cons_zero, List.set_cons_succ]
    refine hand_call (i := 5) rfl (by kernel_rfl) ?_
    intro o ho
    simp at ho
    subst ho
    intro K hK
    go_simp; go_at_call 38; refine (rHas_c p Ft S W x A w.drew (unhide hh).drew).mono ?_; rw [e3]; rintro e w' ⟨rfl, hw'⟩; rw [hw']; clear hw' w'
    refine hK.out _ _ ?_ (fun hHeld => ?_)
    · exact c1
    clear hK K
    try simp only [Act.put, List.setIfInBounds_toArray, List.set_cons_zero, List.set_cons_succ]
    refine hand_take (i := 6) (d := some 11) (v := ?_) rfl (by kernel_rfl) (by kernel_rfl) (by kernel_rfl) (fun _ _ _ h => h) ?_ hHeld ?_
    rotate_left
    · intro o ho
      simp at ho
      subst ho
      intro wz hSw
      try dsimp only at hSw
      go_simp
      try with_reducible rfl
    try simp only [Act.put, List.setIfInBounds_toArray, List.set_cons_zero, List.set_cons_succ]
    refine hand_take (i := 7) (d := some 12) (v := ?_) rfl (by kernel_rfl) (by kernel_rfl) (by kernel_rfl) (fun _ _ _ h => h) ?_ hHeld ?_
    rotate_left
    · intro o ho
      simp at ho
      subst ho
      intro wz hSw
      try dsimp only at hSw
      go_simp
      try with_reducible rfl
    try simp only [Act.put, List.setIfInBounds_toArray, List.set_cons_zero, List.set_cons_succ]
    refine hand_take (i := 8) (d := some 13) (v := ?_) rfl (by kernel_rfl) (by kernel_rfl) (by kernel_rfl) (fun _ _ _ h => h) ?_ hHeld ?_
    rotate_left
    · intro o ho
      simp at ho
      subst ho
      intro wz hSw
      try dsimp only at hSw
      go_simp
      try with_reducible rfl
    try simp only [Act.put, List.setIfInBounds_toArray, List.set_cons_zero, List.set_cons_succ]
    refine hand_take (i := 9) (d := some 14) (v := ?_) rfl (by kernel_rfl) (by kernel_rfl) (by kernel_rfl) (fun _ _ _ h => h) ?_ hHeld ?_
    rotate_left
    · intro o ho
      simp at ho
      subst ho
      intro wz hSw
      try dsimp only at hSw
      go_simp
      try with_reducible rfl
    try simp only [Act.put, List.setIfInBounds_toArray, List.set_cons_zero, List.set_cons_succ]
    refine hand_take (i := 12) (d := some 17) (v := ?_) rfl (by kernel_rfl) (by kernel_rfl) (by kernel_rfl) (fun _ _ _ h => h) ?_ hHeld ?_
    rotate_left
    · intro o ho
      simp at ho
      subst ho
      intro wz hSw
      try dsimp only at hSw
      go_simp
      try with_reducible rfl
    try simp only [Act.put, List.setIfInBounds_toArray, List.set_cons_zero, List.set_cons_succ]
    refine hand_take (i := 13) (d := some 18) (v := ?_) rfl (by kernel_rfl) (by kernel_rfl) (by kernel_rfl) (fun _ _ _ h => h) ?_ hHeld ?_
    rotate_left
    · intro o ho
      simp at ho
      subst ho
      intro wz hSw
      try dsimp only at hSw
      go_simp
      try with_reducible rfl
    try simp only [Act.put, List.setIfInBounds_toArray, List.set_cons_zero, List.set_cons_succ]
    refine hand_take (i := 14) (d := some 19) (v := ?_) rfl (by kernel_rfl) (by kernel_rfl) (by kernel_rfl) (fun _ _ _ h => h) ?_ hHeld ?_
    rotate_left
    · intro o ho
      simp at ho
      subst ho
      intro wz hSw
      try dsimp only at hSw
      go_simp
      try with_reducible rfl
    try simp only [Act.put, List.setIfInBounds_toArray, List.set_cons_zero, List.set_cons_succ]
    refine hand_take (i := 15) (d := some 20) (v := ?_) rfl (by kernel_rfl) (by kernel_rfl) (by kernel_rfl) (fun _ _ _ h => h) ?_ hHeld ?_
    rotate_left
    · intro o ho
      simp at ho
      subst ho
      intro wz hSw
      try dsimp only at hSw
      go_simp
      try with_reducible rfl
    try simp only [Act.put, List.setIfInBounds_toArray, List.set_cons_zero, List.set_cons_succ]
    refine hand_call (i := 10) rfl (by kernel_rfl) ?_
    intro o ho
    simp at ho
    subst ho
    intro K hK
    go_simp
    go_at_call 58
    refine (mates_c p Ft S W x A w.drew (unhide hh).drew).mono ?_
    rintro e w1 ⟨v1, g1, rfl, hg1, hO1, hb1⟩
    obtain ⟨ao1, cap1, rfl, -⟩ := hO1
    rw [hn.out]
    have hB1 : Below w.heap.size w w1 := ((Below.refl _ _).drew).trans hb1
    refine hK.out _ _ ?_ (fun hHeld => ?_)
    · exact (hB1.cell (p := ⟨p, 1, none⟩) hpl).trans c1
    clear hK K hb1 hg1
    have hh1 := hide ((unhide hh).below hB1)
    replace hB1 := hide hB1
    try simp only [Act.put, List.setIfInBounds_toArray, List.set_cons_zero, List.set_cons_succ]
    refine hand_take (i := 11) (d := some 16) (v := ?_) rfl (by kernel_rfl) (by kernel_rfl) (by kernel_rfl) (fun _ _ _ h => h) ?_ hHeld ?_
    rotate_left
    · intro o ho
      simp at ho
      subst ho
      intro wz hSw
      try dsimp only at hSw
      go_simp
      try with_reducible rfl
    try simp only [Act.put, List.setIfInBounds_toArray, List.set_cons_zero, List.set_cons_succ]
    refine hand_take (i := 16) (d := some 21) (v := .bool false) rfl (by kernel_rfl) (by kernel_rfl) (by kernel_rfl) (fun _ _ _ h => h) ?_ hHeld ?_
    · intro o ho
      simp at ho
      subst ho
      intro wz hSw
      try dsimp only at hSw
      go_simp; try simp [hfl]
    try simp only [Act.put, List.setIfInBounds_toArray, List.set_cons_zero, List.set_cons_succ]
    refine hand_take (i := 17) (d := some 22) (v := ?_) rfl (by kernel_rfl) (by kernel_rfl) (by kernel_rfl) (fun _ _ _ h => h) ?_ hHeld ?_
    rotate_left
    · intro o ho
      simp at ho
      subst ho
      intro wz hSw
      try dsimp only at hSw
      go_simp
      try with_reducible rfl
    try simp only [Act.put, List.setIfInBounds_toArray, List.set_cons_zero, List.set_cons_succ]
    refine wpAnyH_done (by kernel_rfl) (NoPanic.normal ?_) _
    clear hHeld
    clear c1 hpl hh
    obtain ⟨ao, cap, g, c2, hV⟩ := (unhide hh1).view
    have hpl1 := (unhide hh1).pl
    have tok1 : True := trivial
    go_wp2_with (first | (at_builtin; have _t := tok1; refine wpList_app rfl _ _ rfl rfl rfl (own_empty _ _) ((unhide hV).alloc _) (by simp; omega) A.length (by simp) ?_; intro ao2 cap2 w2 g2 hown2 hap2; clear tok1; have hb2 : Below w1.heap.size w1 w2 := ((belA' w1 _).trans (hap2.fr.below (fun i hi => by rw [hi]; exact Nat.le_refl _) (by simp))); have hg2 : w1.heap.size ≤ g2 := (by have := hap2.lies; simp at this; omega); rw [List.nil_append] at hown2; replace hown2 := hide hown2; clear hap2; replace hb2 := hide hb2) | (at_builtin; refine wpList_app rfl _ _ rfl rfl rfl ((unhide hown2).alloc _) (view_one w2 x) (by simp; omega) (A.length + 1) (by simp) ?_; intro ao3 cap3 w3 g3 hown3 hap3; obtain ⟨⟨vo, q1⟩, q2, hfin⟩ := (unhide hh1).putNew ((unhide hb2).trans (((belA' w2 _).mono (unhide hb2).size).trans (hap3.fr.below (fun i hi => by rw [hi]; exact hg2) (by have := (unhide hb2).size; simp; omega)))) (unhide hI) hown3 (by have := hap3.lies; have h5 := (unhide hb2).size; simp at this; omega); replace hfin := hide hfin; clear hown3 hap3))
    go_ret
    obtain ⟨Ft', f1, f2⟩ := unhide hfin
    exact ⟨rfl, Ft', f1, (Step.of_below (unhide hB1)).trans f2⟩
end Go.Proofs.Ytooopcadefpncaa

namespace Go.Proofs.Ytooopcadefpncaa
open Go.ChangeShapes Go.WideShapes Go.ChangeAt Go.RowKit
set_option linter.unusedSimpArgs false
set_option linter.unusedVariables false
set_option maxRecDepth 10000

attribute [local go_sem, local simp] over_const setCell_drewN alloc_drewN Over.cell Over.frozen lt_s1 lt_s2 lt_s3 le_s0 le_s1 le_s2 le_s3 eq_s0 eq_s1 eq_s2 qe_s0

theorem view_take {w : World} {g o cap k : Nat} {L : List Int} (hk : k ≤ L.length) (hle : L.length ≤ cap) (hmx : cap ≤ maxLen) (hg : g < w.heap.size) (hc : ∀ j, j < L.length → w.cell? ⟨g, o + j, none⟩ = (ints L)[j]?) :
    View w (.slice (some ⟨g, o, none⟩) k cap) g (L.take k) := by
  have hl : (L.take k).length = k := by rw [List.length_take]; omega
  refine ⟨_, cap, by rw [hl], by omega, hmx, .inr ⟨o, rfl, hg, fun j hj => ?_⟩⟩
  rw [hl] at hj
  rw [hc j (by omega), ints_take L k, List.getElem?_take, if_pos hj]

theorem view_drop {w : World} {g o cap j : Nat} {L : List Int} (hj : j ≤ L.length) (hle : L.length ≤ cap) (hmx : cap ≤ maxLen) (hg : g < w.heap.size) (hc : ∀ j, j < L.length → w.cell? ⟨g, o + j, none⟩ = (ints L)[j]?) :
    ∃ A, (if cap = j then some (⟨g, o, none⟩ : Addr) else some ⟨g, o + j, none⟩) = A ∧ View w (.slice A (L.length - j) (cap - j)) g (L.drop j) := by
  have hl : (L.drop j).length = L.length - j := by rw [List.length_drop]
  refine ⟨_, rfl, _, cap - j, by rw [hl], by omega, by omega, ?_⟩
  by_cases e : L.drop j = []
  · exact .inl e
  · have : L.length - j ≠ 0 := by intro h; rw [← hl] at h; exact e (List.eq_nil_of_length_eq_zero h)
    refine .inr ⟨o + j, by rw [if_neg (by omega)], hg, fun i hi => ?_⟩
    rw [hl] at hi
    rw [Nat.add_assoc, hc _ (by omega), ints_drop L j, List.getElem?_drop]

theorem take_drop_erase (L : List Int) (x : Int) (k : Nat) (hk : idxF L x = k) (hx : x ∈ L) : L.take k ++ L.drop (k + 1) = L.erase x := by
  rw [← idxF_erase L x hx, hk, Int.toNat_natCast, List.eraseIdx_eq_take_drop_succ]

set_option maxHeartbeats 2000000 in
theorem rRemove_c (p : Nat) (Ft : Nat → Prop) (S W x : Int) (A : List Int) (w : World) (h : RfIs w p Ft S W A) : Calls Try.prog 57 #[ptr p, .int .i64 x] w fun e w' => e = .returned (.bool (okRem A x)) ∧ ∃ Ft', RfIs w' p Ft' S W (A.erase x) ∧ Step Ft Ft' w w' := by
  have hh := hide h
  have hlen := h.inv.len
  have hI := hide (h.inv.rem x)
  obtain ⟨i, hi⟩ : ∃ i, Hid (idxF A x = i) := ⟨_, rfl⟩
  by_cases xa : x ∈ A
  · have e1 : okRem A x = true := by simp [okRem, xa]
    rw [e1]
    have hbd := idxF_bd A x
    have hne : ¬ idxF A x = -1 := fun e => (idxF_neg A x).1 e xa
    rw [hi.out] at hbd hne
    obtain ⟨k, rfl⟩ : ∃ k : Nat, i = k := ⟨i.toNat, by omega⟩
    have hk : k < A.length := by omega
    have her := hide (take_drop_erase A x k hi.out xa)
    obtain ⟨j, hj⟩ : ∃ j : Nat, Hid (k + 1 = j) := ⟨_, rfl⟩
    have hjl : j ≤ A.length := by have := hj.out; omega
    have hwr : IntKind.i64.wrap ((k : Int) + 1) = (j : Int) := by have := hj.out; rw [IntKind.wrap_i64]; omega
    obtain ⟨v, g, c2, hO, hFg, hgp⟩ := h.c2
    obtain ⟨ao, cap, rfl, hlc, hmx, hg, hw⟩ := hO
    rcases hw with ⟨_, rfl⟩ | ⟨o, rfl, hc, hsp⟩
    · omega
    have hV1 := hide (view_take (w := w) (k := k) (by omega) hlc hmx hg hc)
    obtain ⟨D, hD, hV2⟩ := view_drop (w := w) (j := j) hjl hlc hmx hg hc
    replace hV2 := hide hV2
    have hmx' : cap ≤ 9223372036854775807 := by unfold maxLen at hmx; omega
    have n0 : ¬ cap = 0 := by omega
    have m1 : (k : Int) ≤ cap := by omega
    have m2 : (j : Int) ≤ A.length := by omega
    have hl1 : Hid ((A.take k).length = k) := by rw [List.length_take]; show min k A.length = k; omega
    have hl2 : Hid ((A.drop j).length = A.length - j) := by rw [List.length_drop]; rfl
    have hpl := hide h.pl
    have c2' := hide c2
    clear h hc hsp hgp xa hbd hne
    go_enter Try.func57, Try.ntmps57
    go_wp2_with (go_at_call 59; refine (find_c p Ft S W x A _ (unhide hh)).mono ?_; rw [hi.out]; rintro e w' ⟨rfl, hw'⟩; rw [hw']; clear hw' w')
    go_wp2_with fail
    refine wp_region_noPanic ?_
    refine last_begin 19 (fun w' => w'.cell? ⟨p, 2, none⟩ = some (.slice (some ⟨g, o, none⟩) A.length cap)) (by kernel_rfl) ?_ (fun hHeld => ?_)
    · exact c2
    refine last_take (i := 0) (d := some 11) (v := ?_) rfl (by kernel_rfl) (by kernel_rfl) (by kernel_rfl) (by kernel_rfl) (fun _ _ _ h => h) ?_ hHeld ?_
    rotate_left
    · intro o ho
      simp at ho
      subst ho
      intro wz hSw
      try dsimp only at hSw
      go_simp
      try with_reducible rfl
    try simp only [Act.put, List.setIfInBounds_toArray, List.set_cons_zero, List.set_cons_succ]
    refine last_take (i := 2) (d := some 13) (v := ?_) rfl (by kernel_rfl) (by kernel_rfl) (by kernel_rfl) (by kernel_rfl) (fun _ _ _ h => h) ?_ hHeld ?_
    rotate_left
    · intro o ho
      simp at ho
      subst ho
      intro wz hSw
      try dsimp only at hSw
      go_simp
      try with_reducible rfl
    try simp only [Act.put, List.setIfInBounds_toArray, List.set_cons_zero, List.set_cons_succ]
    refine last_take (i := 3) (d := some 14) (v := ?_) rfl (by kernel_rfl) (by kernel_rfl) (by kernel_rfl) (by kernel_rfl) (fun _ _ _ h => h) ?_ hHeld ?_
    rotate_left
    · intro o ho
      simp at ho
      subst ho
      intro wz hSw
      try dsimp only at hSw
      go_simp
      try with_reducible rfl
    try simp only [Act.put, List.setIfInBounds_toArray, List.set_cons_zero, List.set_cons_succ]
    refine last_take (i := 4) (d := some 15) (v := ?_) rfl (by kernel_rfl) (by kernel_rfl) (by kernel_rfl) (by kernel_rfl) (fun _ _ _ h => h) ?_ hHeld ?_
    rotate_left
    · intro o ho
      simp at ho
      subst ho
      intro wz hSw
      try dsimp only at hSw
      go_simp
      try with_reducible rfl
    try simp only [Act.put, List.setIfInBounds_toArray, List.set_cons_zero, List.set_cons_succ]
    refine last_take (i := 5) (d := some 16) (v := ?_) rfl (by kernel_rfl) (by kernel_rfl) (by kernel_rfl) (by kernel_rfl) (fun _ _ _ h => h) ?_ hHeld ?_
    rotate_left
    · intro o ho
      simp at ho
      subst ho
      intro wz hSw
      try dsimp only at hSw
      go_simp
      try with_reducible rfl
    try simp only [Act.put, List.setIfInBounds_toArray, List.set_cons_zero, List.set_cons_succ]
    refine last_take (i := 6) (d := some 17) (v := ?_) rfl (by kernel_rfl) (by kernel_rfl) (by kernel_rfl) (by kernel_rfl) (fun _ _ _ h => h) ?_ hHeld ?_
    rotate_left
    · intro o ho
      simp at ho
      subst ho
      intro wz hSw
      try dsimp only at hSw
      go_simp
      try with_reducible rfl
    try simp only [Act.put, List.setIfInBounds_toArray, List.set_cons_zero, List.set_cons_succ]
    refine last_take (i := 7) (d := some 18) (v := ?_) rfl (by kernel_rfl) (by kernel_rfl) (by kernel_rfl) (by kernel_rfl) (fun _ _ _ h => h) ?_ hHeld ?_
    rotate_left
    · intro o ho
      simp at ho
      subst ho
      intro wz hSw
      try dsimp only at hSw
      go_simp
      try with_reducible rfl
    try simp only [Act.put, List.setIfInBounds_toArray, List.set_cons_zero, List.set_cons_succ]
    refine last_take (i := 9) (d := some 20) (v := ?_) rfl (by kernel_rfl) (by kernel_rfl) (by kernel_rfl) (by kernel_rfl) (fun _ _ _ h => h) ?_ hHeld ?_
    rotate_left
    · intro o ho
      simp at ho
      subst ho
      intro wz hSw
      try dsimp only at hSw
      go_simp
      try with_reducible rfl
    try simp only [Act.put, List.setIfInBounds_toArray, List.set_cons_zero, List.set_cons_succ]
    refine last_take (i := 10) (d := some 21) (v := ?_) rfl (by kernel_rfl) (by kernel_rfl) (by kernel_rfl) (by kernel_rfl) (fun _ _ _ h => h) ?_ hHeld ?_
    rotate_left
    · intro o ho
      simp at ho
      subst ho
      intro wz hSw
      try dsimp only at hSw
      go_simp
      try with_reducible rfl
    try simp only [Act.put, List.setIfInBounds_toArray, List.set_cons_zero, List.set_cons_succ]
    refine last_take (i := 11) (d := some 22) (v := ?_) rfl (by kernel_rfl) (by kernel_rfl) (by kernel_rfl) (by kernel_rfl) (fun _ _ _ h => h) ?_ hHeld ?_
    rotate_left
    · intro o ho
      simp at ho
      subst ho
      intro wz hSw
      try dsimp only at hSw
      go_simp
      try with_reducible rfl
    try simp only [Act.put, List.setIfInBounds_toArray, List.set_cons_zero, List.set_cons_succ]
    refine last_take (i := 12) (d := some 23) (v := ?_) rfl (by kernel_rfl) (by kernel_rfl) (by kernel_rfl) (by kernel_rfl) (fun _ _ _ h => h) ?_ hHeld ?_
    rotate_left
    · intro o ho
      simp at ho
      subst ho
      intro wz hSw
      try dsimp only at hSw
      go_simp
      try with_reducible rfl
    try simp only [Act.put, List.setIfInBounds_toArray, List.set_cons_zero, List.set_cons_succ]
    refine last_take (i := 13) (d := some 24) (v := ?_) rfl (by kernel_rfl) (by kernel_rfl) (by kernel_rfl) (by kernel_rfl) (fun _ _ _ h => h) ?_ hHeld ?_
    rotate_left
    · intro o ho
      simp at ho
      subst ho
      intro wz hSw
      try dsimp only at hSw
      go_simp
      try with_reducible rfl
    try simp only [Act.put, List.setIfInBounds_toArray, List.set_cons_zero, List.set_cons_succ]
    refine last_take (i := 14) (d := some 25) (v := ?_) rfl (by kernel_rfl) (by kernel_rfl) (by kernel_rfl) (by kernel_rfl) (fun _ _ _ h => h) ?_ hHeld ?_
    rotate_left
    · intro o ho
      simp at ho
      subst ho
      intro wz hSw
      try dsimp only at hSw
      go_simp
      try with_reducible rfl
    try simp only [Act.put, List.setIfInBounds_toArray, List.set_cons_zero, List.set_cons_succ]
    refine last_take (i := 15) (d := some 26) (v := ?_) rfl (by kernel_rfl) (by kernel_rfl) (by kernel_rfl) (by kernel_rfl) (fun _ _ _ h => h) ?_ hHeld ?_
    rotate_left
    · intro o ho
      simp at ho
      subst ho
      intro wz hSw
      try dsimp only at hSw
      go_simp
      try with_reducible rfl
    try simp only [Act.put, List.setIfInBounds_toArray, List.set_cons_zero, List.set_cons_succ]
    refine last_call (i := 1) rfl (by kernel_rfl) ?_
    intro o ho
    simp at ho
    subst ho
    intro K hK
    go_simp
    refine hK.out _ _ (fun _ => ?_) (fun hHeld0 => ?_)
    · exact ((Below.refl w.heap.size w).drew.alloc (Nat.le_refl _) _).cell (p := ⟨p, 2, none⟩) (unhide hpl) |>.trans (unhide c2')
    clear hK K
    replace hHeld := hHeld0 (by decide)
    clear hHeld0
    try simp only [Act.put, List.setIfInBounds_toArray, List.set_cons_zero, List.set_cons_succ]
    refine last_call (i := 8) rfl (by kernel_rfl) ?_
    intro o8 ho
    simp at ho
    subst ho
    intro K hK
    refine wp_app (.tmp 12) (.tmp 18) rfl rfl rfl (own_empty w.drew _) ((unhide hV1).carry (fun _ hq => Below.heap_alloc w.drew _ _ hq)) (by rw [hl1.out]; simp; omega) k (by rw [hl1.out]; simp) ?_
    intro ao1 cap1 w1 g1 hown1 hap1
    have hB1 : Below w.heap.size w w1 := (((Below.refl w.heap.size w).drew).alloc (Nat.le_refl _) _).trans (hap1.fr.below (fun i hi => by rw [hi]; exact Nat.le_refl _) (by simp))
    have hg1 : w.heap.size ≤ g1 := by have := hap1.lies; simp at this; omega
    have q1 : w1.cell? ⟨p, 2, none⟩ = some (.slice (some ⟨g, o, none⟩) A.length cap) := (hB1.cell (p := ⟨p, 2, none⟩) (unhide hpl)).trans (unhide c2')
    rw [List.nil_append] at hown1
    replace hown1 := hide hown1
    replace hB1 := hide hB1
    clear hap1
    refine hK.out _ _ (fun _ => ?_) (fun hHeld0 => ?_)
    · exact q1
    clear hK K
    replace hHeld := hHeld0 (by decide)
    clear hHeld0
    try simp only [Act.put, List.setIfInBounds_toArray, List.set_cons_zero, List.set_cons_succ]
    refine last_call (i := 16) rfl (by kernel_rfl) ?_
    intro o16 ho
    simp at ho
    subst ho
    intro K hK
    refine wp_app (.tmp 19) (.tmp 26) rfl rfl rfl (unhide hown1) ((unhide hV2).below (unhide hB1)) (by rw [hl1.out, hl2.out]; omega) (A.length - 1) (by have := hj.out; rw [hl1.out, hl2.out]; omega) ?_
    intro ao2 cap2 w2 g2 hown2 hap2
    have hB2 : Below w.heap.size w w2 := (unhide hB1).trans (hap2.fr.below (fun i hi => by rw [hi]; exact hg1) (unhide hB1).size)
    have hg2 : w.heap.size ≤ g2 := by have := hap2.lies; have := (unhide hB1).size; omega
    have he := her.out
    rw [hj.out] at he
    rw [he] at hown2
    obtain ⟨⟨vo, z1⟩, z2, hfin⟩ := (unhide hh).putNew hB2 (unhide hI) hown2 hg2
    have q2 : w2.cell? ⟨p, 2, none⟩ = some (.slice (some ⟨g, o, none⟩) A.length cap) := (hB2.cell (p := ⟨p, 2, none⟩) (unhide hpl)).trans (unhide c2')
    replace hfin := hide hfin
    clear hown2 hap2 hB2 he
    refine hK.out _ _ (fun _ => ?_) (fun hHeld0 => ?_)
    · exact q2
    clear hK K
    replace hHeld := hHeld0 (by decide)
    clear hHeld0
    try simp only [Act.put, List.setIfInBounds_toArray, List.set_cons_zero, List.set_cons_succ]
    refine last_call (i := 17) rfl (by kernel_rfl) ?_
    intro o ho
    simp at ho
    subst ho
    intro K hK
    go_simp
    refine hK.out _ _ (fun _ => ?_) (fun hHeld0 => ?_)
    · exact q2
    clear hK K
    replace hHeld := hHeld0 (by decide)
    clear hHeld0
    try simp only [Act.put, List.setIfInBounds_toArray, List.set_cons_zero, List.set_cons_succ]
    refine last_take (i := 18) (d := some 29) (v := ?_) rfl (by kernel_rfl) (by kernel_rfl) (by kernel_rfl) (by kernel_rfl) (fun _ _ _ h => h) ?_ hHeld ?_
    rotate_left
    · intro o ho
      simp at ho
      subst ho
      intro wz hSw
      try dsimp only at hSw
      go_simp
      try with_reducible rfl
    try simp only [Act.put, List.setIfInBounds_toArray, List.set_cons_zero, List.set_cons_succ]
    refine last_call (i := 19) rfl (by kernel_rfl) ?_
    intro o ho
    simp at ho
    subst ho
    intro K hK
    go_simp
    refine hK.out _ _ (fun h => absurd rfl h) (fun _ => ?_)
    clear hK K
    try simp only [Act.put, List.setIfInBounds_toArray, List.set_cons_zero, List.set_cons_succ]
    refine last_done (by kernel_rfl) (NoPanic.normal ?_) _
    clear hHeld
    go_wp2_with fail
    go_ret
    obtain ⟨Ft', f1, f2⟩ := unhide hfin
    exact ⟨rfl, Ft', f1, f2⟩
  · have e1 : okRem A x = false := by simp [okRem, xa]
    have e2 : A.erase x = A := List.erase_of_not_mem xa
    have e3 := (idxF_neg A x).2 xa
    rw [hi.out] at e3
    subst e3
    rw [e1, e2]
    clear h xa
    go_enter Try.func57, Try.ntmps57
    go_wp2_with (go_at_call 59; refine (find_c p Ft S W x A _ (unhide hh)).mono ?_; rw [hi.out]; rintro e w' ⟨rfl, hw'⟩; rw [hw']; clear hw' w')
    go_ret
    exact ⟨rfl, Ft, unhide hh, Step.refl _ _⟩
end Go.Proofs.Ytooopcadefpncaa

namespace Go.Proofs.Ytooopcadefpncaa
open Go.ChangeShapes Go.WideShapes Go.ChangeAt Go.RowKit
set_option linter.unusedSimpArgs false
set_option linter.unusedVariables false
set_option maxRecDepth 10000

attribute [local go_sem, local simp] over_const setCell_drewN alloc_drewN Over.cell Over.frozen lt_s1 lt_s2 lt_s3 le_s0 le_s1 le_s2 le_s3 eq_s0 eq_s1 eq_s2 qe_s0

set_option maxHeartbeats 2000000 in
theorem rUse_c (p : Nat) (Ft : Nat → Prop) (S W x : Int) (A : List Int) (w : World) (h : RfIs w p Ft S W A) : Calls Try.prog 34 #[ptr p, .int .i64 x] w fun e w' => e = .returned (.bool (okRem A x)) ∧ ∃ Ft', RfIs w' p Ft' S W (nxUse A x) ∧ Step Ft Ft' w w' := by
  have hh := hide h
  have hI := hide (h.inv.nxUse x)
  have hlen := h.inv.len
  obtain ⟨q, hq⟩ : ∃ q, Hid (okRem A x = q) := ⟨_, rfl⟩
  rw [hq.out]
  clear h
  cases q
  case false =>
    have xa : x ∉ A := by simpa [okRem] using hq.out
    have e2 : nxUse A x = A := by simp [nxUse, xa]
    have e3 : A.erase x = A := List.erase_of_not_mem xa
    rw [e2]
    clear xa
    go_enter Try.func34, Try.ntmps34
    go_wp2_with (go_at_call 57; refine (rRemove_c p Ft S W x A w (unhide hh)).mono ?_; rw [hq.out, e3]; rintro e w' ⟨rfl, hfin⟩; replace hfin := hide hfin)
    go_ret
    exact ⟨rfl, unhide hfin⟩
  case true =>
    have xa : x ∈ A := by simpa [okRem] using hq.out
    have e2 : nxUse A x = A.erase x ++ [x] := by simp [nxUse, xa]
    have hl1 : (A.erase x).length ≤ 1024 := Nat.le_trans List.length_erase_le hlen
    rw [e2] at hI ⊢
    obtain ⟨B, hB⟩ : ∃ B, Hid (A.erase x = B) := ⟨_, rfl⟩
    rw [hB.out] at hI hl1 ⊢
    clear xa e2
    go_enter Try.func34, Try.ntmps34
    go_wp2_with fail
    go_at_call 57
    refine (rRemove_c p Ft S W x A w (unhide hh)).mono ?_
    rw [hq.out, hB.out]
    rintro e w1 ⟨rfl, F1, hn1, st1⟩
    obtain ⟨v, g, c2, hO, hFg, hgp⟩ := hn1.c2
    have hO' := hide hO
    obtain ⟨ao, cap, rfl, -⟩ := hO
    replace hn1 := hide hn1
    replace st1 := hide st1
    replace hgp := hide hgp
    go_wp2_with (at_builtin; refine wpList_app rfl _ _ rfl rfl rfl ((unhide hO').alloc _) (view_one w1 x) (by simp; omega) (B.length + 1) (by simp) ?_; intro ao3 cap3 w3 g3 hown3 hap3; obtain ⟨q1, q2, hfin⟩ := (unhide hn1).put c2 hFg (unhide hgp) (((FrS.refl _ w1).alloc _).trans hap3.fr (fun i hi => .inl hi)) (fun e => (belA' w1 _).trans ((hap3.nil e).mono (by simp))) (unhide hI) hown3 (by rcases hap3.lies with e | e; exact .inl e; simp at e; exact .inr (by omega)) hap3.keep; replace hfin := hide hfin; clear hown3 hap3)
    go_ret
    obtain ⟨Ft', f1, f2⟩ := unhide hfin
    exact ⟨rfl, Ft', f1, (unhide st1).trans f2⟩

set_option maxHeartbeats 2000000 in
theorem rVictim_c (p : Nat) (Ft : Nat → Prop) (S W x q : Int) (A : List Int) (w : World) (h : RfIs w p Ft S W A) : Calls Try.prog 37 #[ptr p, .int .i64 x, .int .i64 q] w fun e w' => e = .returned (.tuple #[.int .i64 (vicA S W A x q).1, .bool (vicA S W A x q).2]) ∧ Below w.heap.size w w' := by
  have hh := hide h
  have hpl := h.pl
  have hc1 := h.c1
  have hpln := h.inv.plen (modZ x S)
  obtain ⟨r, hr⟩ : ∃ r, Hid (vicA S W A x q = r) := ⟨_, rfl⟩
  rw [hr.out]
  obtain ⟨L, hL⟩ : ∃ L, Hid (part S A (modZ x S) = L) := ⟨_, rfl⟩
  rw [hL.out] at hpln
  have hr' := hr.out
  have hfd : fullA S W A x = decide (W ≤ (L.length : Int)) := by rw [fullA, hL.out]
  unfold vicA at hr'
  rw [hfd, hL.out] at hr'
  replace hr' := hide hr'
  obtain ⟨had, hhad⟩ : ∃ b, decide (x ∈ A) = b := ⟨_, rfl⟩
  have hmem : x ∈ A ↔ had = true := by rw [← hhad]; simp
  replace hmem := hide hmem
  clear h hfd
  go_enter Try.func37, Try.ntmps37
  go_wp2_with fail
  go_at_call 58
  refine (mates_c p Ft S W x A w (unhide hh)).mono ?_
  rw [hL.out]
  rintro e w1 ⟨v1, g1, rfl, hg1, hO1, hb1⟩
  have hV := hide hO1.view
  obtain ⟨ao, cap, rfl, -⟩ := hO1
  have hh1 := hide ((unhide hh).below hb1)
  have d1 : w1.cell? ⟨p, 1, none⟩ = some (.int .i64 W) := (hb1.cell (p := ⟨p, 1, none⟩) hpl).trans hc1
  replace hb1 := hide hb1
  clear hc1 hh hg1
  by_cases x0 : x < 0
  · obtain rfl : r = (-1, false) := by have := hr'.out; rw [if_pos x0] at this; exact this.symm
    go_wp2_with fail
    go_returns
    exact ⟨rfl, unhide hb1⟩
  cases had
  case true =>
    obtain rfl : r = (-1, true) := by have := hr'.out; rw [if_neg x0, if_pos (.inl (hmem.out.2 rfl))] at this; exact this.symm
    go_wp2_with (go_at_call 38; refine (rHas_c p Ft S W x A w1 (unhide hh1)).mono ?_; rw [hhad]; rintro e w' ⟨rfl, hw'⟩; rw [hw']; clear hw' w')
    go_returns
    exact ⟨rfl, unhide hb1⟩
  case false =>
    by_cases hfl : W ≤ (L.length : Int)
    · have hfn : Hid (firstNot L q = r) := by have := hr'.out; rw [if_neg x0, if_neg (by simp [hmem.out, hfl])] at this; exact this
      have hfl' : ¬ (L.length : Int) < W := by omega
      clear hr'
      go_wp2_with (go_at_call 38; refine (rHas_c p Ft S W x A w1 (unhide hh1)).mono ?_; rw [hhad]; rintro e w' ⟨rfl, hw'⟩; rw [hw']; clear hw' w')
      go_loopw [9] (fun i wr => ∃ j : Nat, j ≤ L.length ∧ i = .int .i64 j ∧ wr = w1 ∧ Hid (firstNot (L.drop j) q = r)) (fun i _ => L.length - (intOf i).toNat)
      case atStart => exact ⟨0, Nat.zero_le _, rfl, rfl, hfn⟩
      case round =>
        obtain ⟨j, hj, rfl, hwr, ha⟩ := hrel
        rw [hwr]
        clear hwr d1
        by_cases hlt : j < L.length
        · obtain ⟨-, -, -, hc⟩ := view_at (unhide hV) rfl
          obtain ⟨o, rfl, hb, hcell⟩ := hc j hlt
          obtain ⟨y, hy⟩ : ∃ y, L[j] = y := ⟨_, rfl⟩
          rw [hy] at hcell
          have ha' := ha.out
          rw [firstNot_drop hlt, hy] at ha'
          have hlt' : (j : Int) < L.length := by omega
          clear ha hc hy
          by_cases c : y = q
          · subst c
            rw [if_pos rfl] at ha'
            replace ha' := hide ha'
            go_wp2_with fail
            go_roundw
            case rel => exact ⟨j + 1, by omega, by simp, trivial, unhide ha'⟩
            case measure => simp [intOf]; omega
          · rw [if_neg c] at ha'
            obtain rfl : r = (y, true) := ha'.symm
            clear ha'
            go_wp2_with fail
            go_returns
            exact ⟨rfl, unhide hb1⟩
        · obtain rfl : j = L.length := by omega
          have ha' := ha.out
          rw [firstNot_end (Nat.le_refl _)] at ha'
          obtain rfl : r = (-1, false) := ha'.symm
          clear ha' ha
          go_wp2_with fail
          go_returns
          exact ⟨rfl, unhide hb1⟩
    · obtain rfl : r = (-1, true) := by have := hr'.out; rw [if_neg x0, if_pos (.inr (by simpa using hfl))] at this; exact this.symm
      have hfl' : (L.length : Int) < W := by omega
      go_wp2_with (go_at_call 38; refine (rHas_c p Ft S W x A w1 (unhide hh1)).mono ?_; rw [hhad]; rintro e w' ⟨rfl, hw'⟩; rw [hw']; clear hw' w')
      go_returns
      exact ⟨rfl, unhide hb1⟩
end Go.Proofs.Ytooopcadefpncaa
