/- The document's processor in memory; its contracts (layer 14). -/
import Derived.Test.YtmdioofpghbjbaaProcB
namespace Go.Proofs.Ytmdioofpghbjbaa
open Go.ChangeShapes Go.WideShapes Go.ChangeAt Go.RowKit
set_option linter.unusedSimpArgs false
set_option linter.unusedVariables false
set_option maxRecDepth 10000

attribute [local go_sem, local simp] over_const setCell_drewN alloc_drewN Over.cell Over.frozen lt_s1 lt_s2 lt_s3 le_s0 le_s1 le_s2 le_s3 eq_s0 eq_s1 eq_s2 qe_s0

def numR (P : Pm) : Int := if P.busy = true then P.k + 1 else P.k

abbrev rpC (wa tr : Int) (n : Int) (x : Op3) (busy : Bool) (l t : Int) (o : Bool) : Array Value := #[.int .i64 wa, .int .i64 tr, .int .i64 n, .int .i64 x.b, .bool x.w, .int .i64 x.v, .bool busy, .int .i64 l, .int .i64 t, .bool o]

/-- The document's processor in block p. -/
structure RpIs (w : World) (p : Nat) (wa tr : Int) (P : Pm) : Prop where
  inv : PInv wa tr P
  ob : ∃ l t o, (P.busy = true → l = P.l ∧ t = P.t ∧ o = P.o) ∧ w.heap[p]? = some (.cells (rpC wa tr (numR P) P.op P.busy l t o) 32 (0, 0))

section
variable {w w' : World} {p : Nat} {wa tr : Int} {P : Pm}
theorem RpIs.lt (h : RpIs w p wa tr P) : p < w.heap.size := by obtain ⟨l, t, o, _, h⟩ := h.ob; exact (Array.getElem?_eq_some_iff.1 h).1
theorem RpIs.carry (h : RpIs w p wa tr P) (e : w'.heap[p]? = w.heap[p]?) : RpIs w' p wa tr P := ⟨h.inv, by rw [e]; exact h.ob⟩
theorem RpIs.below (h : RpIs w p wa tr P) (hb : Below w.heap.size w w') : RpIs w' p wa tr P := h.carry (hb.block p h.lt)
theorem RpIs.fr {F : Nat → Prop} (h : RpIs w p wa tr P) (hf : FrS F w w') (hn : ¬ F p) : RpIs w' p wa tr P := h.carry (hf.block p h.lt hn)
theorem RpIs.alloc (h : RpIs w p wa tr P) (x : Obj) : RpIs (w.alloc x) p wa tr P := h.below ((Below.refl _ _).alloc (Nat.le_refl _) _)
end

/-- What lies in the block, cell by cell. -/
structure RpAt (w : World) (p : Nat) (wa tr n b : Int) (ow : Bool) (v : Int) (busy : Bool) (l t : Int) (o : Bool) : Prop where
  lt : p < w.heap.size
  c0 : w.cell? ⟨p, 0, none⟩ = some (.int .i64 wa)
  c1 : w.cell? ⟨p, 1, none⟩ = some (.int .i64 tr)
  c2 : w.cell? ⟨p, 2, none⟩ = some (.int .i64 n)
  c3 : w.cell? ⟨p, 3, none⟩ = some (.int .i64 b)
  c4 : w.cell? ⟨p, 4, none⟩ = some (.bool ow)
  c5 : w.cell? ⟨p, 5, none⟩ = some (.int .i64 v)
  c6 : w.cell? ⟨p, 6, none⟩ = some (.bool busy)
  c7 : w.cell? ⟨p, 7, none⟩ = some (.int .i64 l)
  c8 : w.cell? ⟨p, 8, none⟩ = some (.int .i64 t)
  c9 : w.cell? ⟨p, 9, none⟩ = some (.bool o)
  fz : ∀ i, w.frozen? ⟨p, i, none⟩ = false

theorem rp_at {w : World} {p : Nat} {wa tr n b : Int} {ow : Bool} {v : Int} {busy : Bool} {l t : Int} {o : Bool} (h : w.heap[p]? = some (.cells (rpC wa tr n ⟨b, ow, v⟩ busy l t o) 32 (0, 0))) : RpAt w p wa tr n b ow v busy l t o :=
  ⟨(Array.getElem?_eq_some_iff.1 h).1, cell_of_row _ _ _ _ _ _ h, cell_of_row _ _ _ _ _ _ h, cell_of_row _ _ _ _ _ _ h, cell_of_row _ _ _ _ _ _ h, cell_of_row _ _ _ _ _ _ h, cell_of_row _ _ _ _ _ _ h, cell_of_row _ _ _ _ _ _ h, cell_of_row _ _ _ _ _ _ h, cell_of_row _ _ _ _ _ _ h, cell_of_row _ _ _ _ _ _ h, fun i => frozen_of_row _ _ _ _ _ h⟩

section
variable {w : World} {p : Nat} {wa tr n : Int} {x : Op3} {busy : Bool} {l t : Int} {o : Bool} {T : TypeId}
theorem rp_tim (h : w.heap[p]? = some (.cells (rpC wa tr n x busy l t o) T (0, 0))) (l' t' : Int) (o' : Bool) : (setT w p 7 l' t' o').heap[p]? = some (.cells (rpC wa tr n x busy l' t' o') T (0, 0)) ∧ FrS (· = p) w (setT w p 7 l' t' o') :=
  ⟨by have h1 := h; replace h1 := ob_set (i := 7) h1 (.int .i64 l'); replace h1 := ob_set (i := 8) h1 (.int .i64 t'); replace h1 := ob_set (i := 9) h1 (.bool o'); simp only [rpC, List.setIfInBounds_toArray, List.set_cons_zero, List.set_cons_succ] at h1; exact h1, wrP (wrP (wrP (FrS.refl _ _) _) _) _⟩
theorem rp_op (h : w.heap[p]? = some (.cells (rpC wa tr n x busy l t o) T (0, 0))) (y : Op3) : (setO w p 3 y).heap[p]? = some (.cells (rpC wa tr n y busy l t o) T (0, 0)) ∧ FrS (· = p) w (setO w p 3 y) :=
  ⟨by have h1 := h; replace h1 := ob_set (i := 3) h1 (.int .i64 y.b); replace h1 := ob_set (i := 4) h1 (.bool y.w); replace h1 := ob_set (i := 5) h1 (.int .i64 y.v); simp only [rpC, List.setIfInBounds_toArray, List.set_cons_zero, List.set_cons_succ] at h1; exact h1, wrP (wrP (wrP (FrS.refl _ _) _) _) _⟩
theorem rp_busy (h : w.heap[p]? = some (.cells (rpC wa tr n x busy l t o) T (0, 0))) (q : Bool) : (w.setCell ⟨p, 6, none⟩ (.bool q)).heap[p]? = some (.cells (rpC wa tr n x q l t o) T (0, 0)) ∧ FrS (· = p) w (w.setCell ⟨p, 6, none⟩ (.bool q)) :=
  ⟨by have h1 := ob_set (i := 6) h (.bool q); simp only [rpC, List.setIfInBounds_toArray, List.set_cons_zero, List.set_cons_succ] at h1; exact h1, wrP (FrS.refl _ _) _⟩
theorem rp_num (h : w.heap[p]? = some (.cells (rpC wa tr n x busy l t o) T (0, 0))) (m : Int) : (w.setCell ⟨p, 2, none⟩ (.int .i64 m)).heap[p]? = some (.cells (rpC wa tr m x busy l t o) T (0, 0)) ∧ FrS (· = p) w (w.setCell ⟨p, 2, none⟩ (.int .i64 m)) :=
  ⟨by have h1 := ob_set (i := 2) h (.int .i64 m); simp only [rpC, List.setIfInBounds_toArray, List.set_cons_zero, List.set_cons_succ] at h1; exact h1, wrP (FrS.refl _ _) _⟩
end

theorem rp_new (w : World) (wa tr : Int) (h1 : wa ≤ 9223372036854775807) (h2 : tr ≤ 9223372036854775807) : RpIs (w.alloc (.cells (rpC wa tr 0 op30 false 0 0 false) 32)) w.heap.size wa tr pm0 :=
  ⟨pinv0 h1 h2, 0, 0, false, fun e => (by cases e), heap_alloc_new _ _⟩

theorem rPin_c (p : Nat) (wa tr : Int) (P : Pm) (w : World) (h : RpIs w p wa tr P) (r : Int) (hr : Hid (pinP P = r)) : Calls Try.prog 19 #[ptr p] w fun e w' => e = .returned (.int .i64 r) ∧ w' = w := by
  have hr' := hr.out
  clear hr
  obtain ⟨k, l, t, o, ⟨b, ow, v⟩, busy⟩ := P
  obtain ⟨l', t', o', -, hob⟩ := h.ob
  obtain ⟨hl, c0, c1, c2, c3, c4, c5, c6, c7, c8, c9, fz⟩ := rp_at hob
  clear h hob
  cases busy
  · obtain rfl : -1 = r := hr'
    go_enter Try.func19, Try.ntmps19
    go_wp2_with fail
    go_ret
    exact ⟨rfl, rfl⟩
  · obtain rfl : b = r := hr'
    go_enter Try.func19, Try.ntmps19
    go_wp2_with fail
    go_ret
    exact ⟨rfl, rfl⟩

set_option maxHeartbeats 1000000 in
theorem rFin_c (p : Nat) (wa tr : Int) (P : Pm) (w : World) (h : RpIs w p wa tr P) (hk : P.k < 100000) (n : Int) (hn : Hid (numF P = n)) (ok : Bool) (hok : Hid (P.busy = ok)) : Calls Try.prog 13 #[ptr p] w fun e w' => e = .returned (.tuple #[.int .i64 n, .bool ok]) ∧ RpIs w' p wa tr (nxF P) ∧ FrS (· = p) w w' := by
  have hn' := hn.out
  have hok' := hok.out
  have hI := hide (h.inv.fin hk)
  have hH := hide h
  clear hn hok
  obtain ⟨k, l, t, o, ⟨b, ow, v⟩, busy⟩ := P
  obtain ⟨l', t', o', -, hob⟩ := h.ob
  obtain ⟨hl, c0, c1, c2, c3, c4, c5, c6, c7, c8, c9, fz⟩ := rp_at hob
  obtain rfl : busy = ok := hok'
  replace hob := hide hob
  clear h
  cases busy
  · obtain rfl : 0 = n := hn'
    go_enter Try.func13, Try.ntmps13
    go_wp2_with fail
    go_ret2
    exact ⟨rfl, hH.out, FrS.refl _ _⟩
  · obtain rfl : k + 1 = n := hn'
    replace c2 : w.cell? ⟨p, 2, none⟩ = some (.int .i64 (k + 1)) := c2
    obtain ⟨m, hm⟩ : ∃ m, k + 1 = m := ⟨_, rfl⟩
    rw [hm] at c2 ⊢
    replace hm := hide hm
    go_enter Try.func13, Try.ntmps13
    go_wp2_with fail
    go_ret2
    have h1 := rp_busy hob.out false
    have h2 := rp_op h1.1 op30
    exact ⟨rfl, ⟨hI.out, l', t', o', fun e => (by cases e), h2.1⟩, h1.2.trans h2.2 (fun _ e => .inl e)⟩

theorem belA0 (w : World) (o : Obj) : Below w.heap.size w (w.alloc o) := (Below.refl _ _).alloc (Nat.le_refl _) _

set_option maxHeartbeats 1000000 in
theorem rIss_c (p : Nat) (wa tr : Int) (P : Pm) (x : Op3) (w : World) (h : RpIs w p wa tr P) (ok : Bool) (hok : Hid ((!P.busy) = ok)) : Calls Try.prog 11 #[ptr p, .agg #[.int .i64 x.b, .bool x.w, .int .i64 x.v]] w fun e w' => e = .returned (.bool ok) ∧ RpIs w' p wa tr (nxI wa P x) ∧ FrS (· = p) w w' := by
  have hok' := hok.out
  have hH := hide h
  have hI := hide (h.inv.iss x)
  have k0 := h.inv.k0
  have k1 := h.inv.k1
  clear hok
  obtain ⟨k, l, t, o, ⟨b, ow, v⟩, busy⟩ := P
  obtain ⟨xb, xw, xv⟩ := x
  obtain ⟨l', t', o', -, hob⟩ := h.ob
  obtain ⟨hl, c0, c1, c2, c3, c4, c5, c6, c7, c8, c9, fz⟩ := rp_at hob
  replace hob := hide hob
  dsimp only at k0 k1
  clear h
  cases busy
  · obtain rfl : true = ok := hok'
    obtain ⟨m, hm⟩ : ∃ m, Hid (max wa 1 = m) := ⟨_, rfl⟩
    have hI' : Hid (PInv wa tr ⟨k, m, 0, false, ⟨xb, xw, xv⟩, true⟩) := by rw [← hm.out]; exact hI
    have hQ : nxI wa ⟨k, l, t, o, ⟨b, ow, v⟩, false⟩ ⟨xb, xw, xv⟩ = ⟨k, m, 0, false, ⟨xb, xw, xv⟩, true⟩ := by rw [← hm.out]; rfl
    rw [hQ]
    clear hQ hI
    replace c2 : w.cell? ⟨p, 2, none⟩ = some (.int .i64 k) := c2
    go_enter Try.func11, Try.ntmps11
    go_wp2_with fail
    go_at_call 23
    refine (refStartT_c wa _ m hm).mono ?_
    rintro e w1 ⟨rfl, hb1⟩
    have g1 := rp_busy (n := k) hob.out true
    have g2 := rp_op g1.1 ⟨xb, xw, xv⟩
    have g3 := rp_num g2.1 (k + 1)
    have hB := belA0 _ (opO ⟨xb, xw, xv⟩) |>.trans (hb1.mono (belA0 _ (opO ⟨xb, xw, xv⟩)).size)
    have g4 := (hB.block p (Array.getElem?_eq_some_iff.1 g3.1).1).trans g3.1
    have hf : FrS (· = p) w w1 := ((g1.2.trans g2.2 (fun _ e => .inl e)).trans g3.2 (fun _ e => .inl e)).trans (FrS.of_below (F := (· = p)) hB) (fun _ e => .inl e)
    have hf1 := hide hf
    clear g1 g2 g3 hf hb1 hB c0 c1 c2 c3 c4 c5 c6 c7 c8 c9 fz
    obtain ⟨hl1, c0, c1, c2, c3, c4, c5, c6, c7, c8, c9, fz⟩ := rp_at g4
    replace g4 := hide g4
    go_wp2_with fail
    go_ret
    have g5 := rp_tim g4.out m 0 false
    exact ⟨rfl, ⟨hI'.out, m, 0, false, fun _ => ⟨rfl, rfl, rfl⟩, g5.1⟩, hf1.out.trans g5.2 (fun _ e => .inl e)⟩
  · obtain rfl : false = ok := hok'
    go_enter Try.func11, Try.ntmps11
    go_wp2_with fail
    go_ret
    exact ⟨rfl, hH.out.alloc _, FrS.of_below (by repeat' first | with_reducible exact Below.refl _ _ | with_reducible refine Below.setCell ?_ ?_ _ | with_reducible refine Below.alloc ?_ ?_ _ | with_reducible refine Below.drew ?_ | with_reducible refine belowN ?_ _ | with_reducible refine Over.go _ ?_ ?_ | with_reducible exact Nat.le_refl _ | with_reducible refine Over.sz _ _ ?_ | with_reducible refine le_alloc ?_ | with_reducible refine le_setCell ?_ | with_reducible refine le_drewN ?_ | with_reducible refine le_drew ?_ | omega | (dsimp only; omega))⟩

/-- Behind a tick, ahead of the last store: the timer in a block of its own. -/
structure TrMid (w w3 : World) (p : Nat) (wa tr : Int) (P : Pm) (B : Nat) (r : Tk) : Prop where
  pr : RpIs w3 p wa tr P
  bel : Below w.heap.size w w3
  tim : TimAt w3 B r.l r.t r.o
  new : w.heap.size ≤ B

theorem TrMid.of {w w2 : World} {p B : Nat} {wa tr : Int} {P : Pm} (h : RpIs w2 p wa tr P) (hb : Below w.heap.size w w2) (ht : TimAt w2 B 0 0 false) (hn : w.heap.size ≤ B) (hne : p ≠ B) (r : Tk) : TrMid w (setT w2 B 0 r.l r.t r.o) p wa tr P B r := by
  have h2 : FrS (· = B) w2 (setT w2 B 0 r.l r.t r.o) := wrP (wrP (wrP (FrS.refl _ _) _) _) _
  exact ⟨h.fr h2 hne, hb.trans (h2.below (fun i hi => by omega) hb.size), ht.set _ _ _, hn⟩

/-- The cells of one that waits. -/
theorem RpIs.on {w : World} {p : Nat} {wa tr k l t : Int} {o : Bool} {b : Int} {ow : Bool} {v : Int} (h : RpIs w p wa tr ⟨k, l, t, o, ⟨b, ow, v⟩, true⟩) : w.heap[p]? = some (.cells (rpC wa tr (k + 1) ⟨b, ow, v⟩ true l t o) 32 (0, 0)) := by
  obtain ⟨l', t', o', e, hob⟩ := h.ob
  obtain ⟨rfl, rfl, rfl⟩ := e rfl
  exact hob
theorem RpIs.at' {w : World} {p : Nat} {wa tr k l t : Int} {o : Bool} {b : Int} {ow : Bool} {v : Int} (h : RpIs w p wa tr ⟨k, l, t, o, ⟨b, ow, v⟩, true⟩) : RpAt w p wa tr (k + 1) b ow v true l t o := rp_at h.on


set_option maxHeartbeats 2000000 in
theorem rTick_c (p : Nat) (wa tr : Int) (P : Pm) (w : World) (h : RpIs w p wa tr P) (n : Int) (hn : Hid (doT wa tr P = n)) : Calls Try.prog 15 #[ptr p] w fun e w' => e = .returned (.int .i64 n) ∧ RpIs w' p wa tr (nxT wa tr P) ∧ FrS (· = p) w w' := by
  have hn' := hn.out
  have hH := hide h
  have hI0 := hide h.inv
  have hI := hide (h.inv.tick)
  clear hn
  obtain ⟨k, l, t, o, ⟨b, ow, v⟩, busy⟩ := P
  cases busy
  · obtain ⟨l', t', o', -, hob⟩ := h.ob
    obtain ⟨hl, c0, c1, c2, c3, c4, c5, c6, c7, c8, c9, fz⟩ := rp_at hob
    clear h hob
    obtain rfl : 0 = n := hn'
    go_enter Try.func15, Try.ntmps15
    go_wp2_with fail
    go_ret
    exact ⟨rfl, hH.out, FrS.refl _ _⟩
  · obtain ⟨hl, c0, c1, c2, c3, c4, c5, c6, c7, c8, c9, fz⟩ := h.at'
    clear h
    obtain ⟨⟨rl, rt, ro, rn⟩, hr⟩ : ∃ r : Tk, Hid (tickT l t o wa tr = r) := ⟨_, rfl⟩
    obtain rfl : rn = n := by rw [← hn']; show rn = (tickT l t o wa tr).n; rw [hr.out]
    have hQ : nxT wa tr ⟨k, l, t, o, ⟨b, ow, v⟩, true⟩ = ⟨k, rl, rt, ro, ⟨b, ow, v⟩, true⟩ := by show Pm.mk k (tickT l t o wa tr).l (tickT l t o wa tr).t (tickT l t o wa tr).o ⟨b, ow, v⟩ true = _; rw [hr.out]
    rw [hQ] at hI ⊢
    clear hQ hn'
    go_enter Try.func15, Try.ntmps15
    go_wp2_with fail
    refine wp_region_noPanic ?_
    refine wp_region_held_drew (S := (fun w' => w'.cell? ⟨p, 0, none⟩ = some (.int .i64 wa) ∧ w'.cell? ⟨p, 1, none⟩ = some (.int .i64 tr) ∧ w'.cell? ⟨p, 7, none⟩ = some (.int .i64 l) ∧ w'.cell? ⟨p, 8, none⟩ = some (.int .i64 t) ∧ w'.cell? ⟨p, 9, none⟩ = some (.bool o))) (by kernel_rfl) ?_ (fun hHeld => ?_)
    · exact ⟨c0, c1, c7, c8, c9⟩
    refine hand_take (i := 0) (d := some 11) (v := ?_) rfl (by kernel_rfl) (by kernel_rfl) (by kernel_rfl) (fun _ _ _ h => h) ?_ hHeld ?_
    rotate_left
    · intro o ho
      simp at ho
      subst ho
      intro wz hSw
      try dsimp only at hSw
      go_simp
      try with_reducible rfl
    try simp only [Act.put, List.setIfInBounds_toArray, List.set_cons_zero, List.set_cons_succ]
    refine hand_take (i := 1) (d := some 12) (v := ?_) rfl (by kernel_rfl) (by kernel_rfl) (by kernel_rfl) (fun _ _ _ h => h) ?_ hHeld ?_
    rotate_left
    · intro o ho
      simp at ho
      subst ho
      intro wz hSw
      try dsimp only at hSw
      go_simp
      try with_reducible rfl
    try simp only [Act.put, List.setIfInBounds_toArray, List.set_cons_zero, List.set_cons_succ]
    refine hand_take (i := 2) (d := some 13) (v := ?_) rfl (by kernel_rfl) (by kernel_rfl) (by kernel_rfl) (fun _ _ _ h => h) ?_ hHeld ?_
    rotate_left
    · intro o ho
      simp at ho
      subst ho
      intro wz hSw
      try dsimp only at hSw
      go_simp
      try with_reducible rfl
    try simp only [Act.put, List.setIfInBounds_toArray, List.set_cons_zero, List.set_cons_succ]
    refine hand_take (i := 3) (d := some 14) (v := ?_) rfl (by kernel_rfl) (by kernel_rfl) (by kernel_rfl) (fun _ _ _ h => h) ?_ hHeld ?_
    rotate_left
    · intro o ho
      simp at ho
      subst ho
      intro wz hSw
      try dsimp only at hSw
      go_simp
      try with_reducible rfl
    try simp only [Act.put, List.setIfInBounds_toArray, List.set_cons_zero, List.set_cons_succ]
    refine hand_take (i := 4) (d := some 15) (v := ?_) rfl (by kernel_rfl) (by kernel_rfl) (by kernel_rfl) (fun _ _ _ h => h) ?_ hHeld ?_
    rotate_left
    · intro o ho
      simp at ho
      subst ho
      intro wz hSw
      try dsimp only at hSw
      go_simp
      try with_reducible rfl
    try simp only [Act.put, List.setIfInBounds_toArray, List.set_cons_zero, List.set_cons_succ]
    refine hand_take (i := 5) (d := some 16) (v := ?_) rfl (by kernel_rfl) (by kernel_rfl) (by kernel_rfl) (fun _ _ _ h => h) ?_ hHeld ?_
    rotate_left
    · intro o ho
      simp at ho
      subst ho
      intro wz hSw
      try dsimp only at hSw
      go_simp
      try with_reducible rfl
    try simp only [Act.put, List.setIfInBounds_toArray, List.set_cons_zero, List.set_cons_succ]
    refine hand_take (i := 6) (d := some 17) (v := ?_) rfl (by kernel_rfl) (by kernel_rfl) (by kernel_rfl) (fun _ _ _ h => h) ?_ hHeld ?_
    rotate_left
    · intro o ho
      simp at ho
      subst ho
      intro wz hSw
      try dsimp only at hSw
      go_simp
      try with_reducible rfl
    try simp only [Act.put, List.setIfInBounds_toArray, List.set_cons_zero, List.set_cons_succ]
    refine hand_take (i := 7) (d := some 18) (v := ?_) rfl (by kernel_rfl) (by kernel_rfl) (by kernel_rfl) (fun _ _ _ h => h) ?_ hHeld ?_
    rotate_left
    · intro o ho
      simp at ho
      subst ho
      intro wz hSw
      try dsimp only at hSw
      go_simp
      try with_reducible rfl
    try simp only [Act.put, List.setIfInBounds_toArray, List.set_cons_zero, List.set_cons_succ]
    refine hand_take (i := 8) (d := some 19) (v := ?_) rfl (by kernel_rfl) (by kernel_rfl) (by kernel_rfl) (fun _ _ _ h => h) ?_ hHeld ?_
    rotate_left
    · intro o ho
      simp at ho
      subst ho
      intro wz hSw
      try dsimp only at hSw
      go_simp
      try with_reducible rfl
    try simp only [Act.put, List.setIfInBounds_toArray, List.set_cons_zero, List.set_cons_succ]
    refine hand_take (i := 9) (d := some 20) (v := ?_) rfl (by kernel_rfl) (by kernel_rfl) (by kernel_rfl) (fun _ _ _ h => h) ?_ hHeld ?_
    rotate_left
    · intro o ho
      simp at ho
      subst ho
      intro wz hSw
      try dsimp only at hSw
      go_simp
      try with_reducible rfl
    try simp only [Act.put, List.setIfInBounds_toArray, List.set_cons_zero, List.set_cons_succ]
    refine hand_take (i := 10) (d := some 21) (v := ?_) rfl (by kernel_rfl) (by kernel_rfl) (by kernel_rfl) (fun _ _ _ h => h) ?_ hHeld ?_
    rotate_left
    · intro o ho
      simp at ho
      subst ho
      intro wz hSw
      try dsimp only at hSw
      go_simp
      try with_reducible rfl
    try simp only [Act.put, List.setIfInBounds_toArray, List.set_cons_zero, List.set_cons_succ]
    refine hand_take (i := 11) (d := some 22) (v := ?_) rfl (by kernel_rfl) (by kernel_rfl) (by kernel_rfl) (fun _ _ _ h => h) ?_ hHeld ?_
    rotate_left
    · intro o ho
      simp at ho
      subst ho
      intro wz hSw
      try dsimp only at hSw
      go_simp
      try with_reducible rfl
    try simp only [Act.put, List.setIfInBounds_toArray, List.set_cons_zero, List.set_cons_succ]
    have hH1 := hH.out.below ((Below.refl w.heap.size w).drew)
    have hB1 : Below w.heap.size w w.drew := (Below.refl w.heap.size w).drew
    obtain ⟨wd, hwd⟩ : ∃ wd, w.drew = wd := ⟨_, rfl⟩
    rw [hwd] at hHeld hH1 hB1 ⊢
    clear hwd c0 c1 c2 c3 c4 c5 c6 c7 c8 c9 fz
    refine hand_two (i := 12) (j := 16) rfl rfl (by kernel_rfl) ?_ ?_
    · intro o ho
      simp at ho
      subst ho
      intro K hK
      go_simp
      go_at_call 25
      refine (refTick_c l t o wa tr _ hI0.out.lb hI0.out.tb hI0.out.wb hI0.out.rb ⟨rl, rt, ro, rn⟩ hr).mono ?_
      dsimp only
      rintro e w1 ⟨rfl, hb1⟩
      have hH2 := hH1.below hb1
      have hB2 := hB1.trans (hb1.mono hB1.size)
      clear hb1
      have A2 := hH2.at'
      refine hK.out _ _ ?_ (fun hHeld => ?_)
      · exact ⟨A2.c0, A2.c1, A2.c7, A2.c8, A2.c9⟩
      clear hK K
      try simp only [Act.put, List.setIfInBounds_toArray, List.set_cons_zero, List.set_cons_succ]
      refine hand_take (i := 13) (d := some 10) (v := ?_) rfl (by kernel_rfl) (by kernel_rfl) (by kernel_rfl) (fun _ _ _ h => h) ?_ hHeld ?_
      rotate_left
      · intro o ho
        simp at ho
        subst ho
        intro wz hSw
        try dsimp only at hSw
        go_simp
        try with_reducible rfl
      try simp only [Act.put, List.setIfInBounds_toArray, List.set_cons_zero, List.set_cons_succ]
      refine hand_take (i := 14) (d := some 24) (v := ?_) rfl (by kernel_rfl) (by kernel_rfl) (by kernel_rfl) (fun _ _ _ h => h) ?_ hHeld ?_
      rotate_left
      · intro o ho
        simp at ho
        subst ho
        intro wz hSw
        try dsimp only at hSw
        go_simp
        try with_reducible rfl
      try simp only [Act.put, List.setIfInBounds_toArray, List.set_cons_zero, List.set_cons_succ]
      refine hand_take (i := 15) (d := some 25) (v := ?_) rfl (by kernel_rfl) (by kernel_rfl) (by kernel_rfl) (fun _ _ _ h => h) ?_ hHeld ?_
      rotate_left
      · intro o ho
        simp at ho
        subst ho
        intro wz hSw
        try dsimp only at hSw
        go_simp
        try with_reducible rfl
      try simp only [Act.put, List.setIfInBounds_toArray, List.set_cons_zero, List.set_cons_succ]
      refine hand_call (i := 16) rfl (by kernel_rfl) ?_
      intro o ho
      simp at ho
      subst ho
      intro K hK
      go_simp
      have hH3 := hH2.alloc (.cells #[.int .i64 0, .int .i64 0, .bool false] 30)
      have hB3 := hB2.alloc hB2.size (.cells #[.int .i64 0, .int .i64 0, .bool false] 30)
      have hT3 := TimAt.new w1 0 0 false 30
      have hn3 : w.heap.size ≤ w1.heap.size := hB2.size
      have hne : p ≠ w1.heap.size := by have := hH2.lt; omega
      obtain ⟨B, eB⟩ : ∃ B, w1.heap.size = B := ⟨_, rfl⟩
      obtain ⟨w2, hw2⟩ : ∃ w2, w1.alloc (.cells #[.int .i64 0, .int .i64 0, .bool false] 30) = w2 := ⟨_, rfl⟩
      rw [hw2] at hH3 hB3 hT3 ⊢
      rw [eB] at hT3 hn3 hne ⊢
      clear hw2 eB hH2 hB2 A2
      have A3 := hH3.at'
      refine hK.out _ _ ?_ (fun hHeld => ?_)
      · exact ⟨A3.c0, A3.c1, A3.c7, A3.c8, A3.c9⟩
      clear hK K
      try simp only [Act.put, List.setIfInBounds_toArray, List.set_cons_zero, List.set_cons_succ]
      clear A3
      obtain ⟨hlB, y0, y1, y2, z0, z1, z2⟩ := id hT3
      refine hand_call (i := 17) rfl (by kernel_rfl) ?_
      intro o ho
      simp at ho
      subst ho
      intro K hK
      go_simp
      clear y0 y1 y2 z0 z1 z2
      obtain ⟨w4, hw4⟩ : ∃ w4, setT w2 B 0 rl rt ro = w4 := ⟨_, rfl⟩
      have M := TrMid.of hH3 hB3 hT3 hn3 hne ⟨rl, rt, ro, rn⟩
      dsimp only at M
      rw [hw4] at M
      dsimp only [setT] at hw4
      rw [hw4]
      clear hw4 hH3 hB3 hT3
      have A4 := M.pr.at'
      refine hK.out _ _ ?_ (fun hHeld => ?_)
      · exact ⟨A4.c0, A4.c1, A4.c7, A4.c8, A4.c9⟩
      clear hK K
      try simp only [Act.put, List.setIfInBounds_toArray, List.set_cons_zero, List.set_cons_succ]
      clear A4
      refine hand_take (i := 18) (d := some 4) (v := ?_) rfl (by kernel_rfl) (by kernel_rfl) (by kernel_rfl) (fun _ _ _ h => h) ?_ hHeld ?_
      rotate_left
      · intro o ho
        simp at ho
        subst ho
        intro wz hSw
        try dsimp only at hSw
        go_simp
        try with_reducible rfl
      try simp only [Act.put, List.setIfInBounds_toArray, List.set_cons_zero, List.set_cons_succ]
      refine wpAnyH_done (by kernel_rfl) (NoPanic.normal ?_) _
      clear hHeld
      obtain ⟨H3, B3, T3, n3⟩ := M
      obtain ⟨hl3, d0, d1, d2, d3, d4, d5, d6, d7, d8, d9, fz3⟩ := H3.at'
      obtain ⟨hlB, y0, y1, y2, -, -, -⟩ := T3
      have h3 := hide H3
      have b3 := hide B3
      clear H3 B3
      go_wp2_with fail
      go_ret
      have h4 := rp_tim h3.out.on rl rt ro
      exact ⟨rfl, ⟨hI.out, rl, rt, ro, fun _ => ⟨rfl, rfl, rfl⟩, h4.1⟩, (FrS.of_below b3.out).trans h4.2 (fun _ e => .inl e)⟩
    · intro o ho
      simp at ho
      subst ho
      intro K hK
      go_simp
      have hH2 := hH1.alloc (.cells #[.int .i64 0, .int .i64 0, .bool false] 30)
      have hB2 := hB1.alloc hB1.size (.cells #[.int .i64 0, .int .i64 0, .bool false] 30)
      have hT2 := TimAt.new wd 0 0 false 30
      have hn3 : w.heap.size ≤ wd.heap.size := hB1.size
      have hne : p ≠ wd.heap.size := by have := hH1.lt; omega
      obtain ⟨B, eB⟩ : ∃ B, wd.heap.size = B := ⟨_, rfl⟩
      obtain ⟨w2, hw2⟩ : ∃ w2, wd.alloc (.cells #[.int .i64 0, .int .i64 0, .bool false] 30) = w2 := ⟨_, rfl⟩
      rw [hw2] at hH2 hB2 hT2 ⊢
      rw [eB] at hT2 hn3 hne ⊢
      clear hw2 eB hH1 hB1
      have A2 := hH2.at'
      refine hK.out _ _ ?_ (fun hHeld => ?_)
      · exact ⟨A2.c0, A2.c1, A2.c7, A2.c8, A2.c9⟩
      clear hK K
      try simp only [Act.put, List.setIfInBounds_toArray, List.set_cons_zero, List.set_cons_succ]
      clear A2
      refine hand_call (i := 12) rfl (by kernel_rfl) ?_
      intro o ho
      simp at ho
      subst ho
      intro K hK
      go_simp
      go_at_call 25
      refine (refTick_c l t o wa tr _ hI0.out.lb hI0.out.tb hI0.out.wb hI0.out.rb ⟨rl, rt, ro, rn⟩ hr).mono ?_
      dsimp only
      rintro e w3 ⟨rfl, hb3⟩
      have hH3 := hH2.below hb3
      have hB3 := hB2.trans (hb3.mono hB2.size)
      have hT3 := hT2.below hb3
      clear hb3 hH2 hB2 hT2
      have A3 := hH3.at'
      refine hK.out _ _ ?_ (fun hHeld => ?_)
      · exact ⟨A3.c0, A3.c1, A3.c7, A3.c8, A3.c9⟩
      clear hK K
      try simp only [Act.put, List.setIfInBounds_toArray, List.set_cons_zero, List.set_cons_succ]
      clear A3
      refine hand_take (i := 13) (d := some 10) (v := ?_) rfl (by kernel_rfl) (by kernel_rfl) (by kernel_rfl) (fun _ _ _ h => h) ?_ hHeld ?_
      rotate_left
      · intro o ho
        simp at ho
        subst ho
        intro wz hSw
        try dsimp only at hSw
        go_simp
        try with_reducible rfl
      try simp only [Act.put, List.setIfInBounds_toArray, List.set_cons_zero, List.set_cons_succ]
      refine hand_take (i := 14) (d := some 24) (v := ?_) rfl (by kernel_rfl) (by kernel_rfl) (by kernel_rfl) (fun _ _ _ h => h) ?_ hHeld ?_
      rotate_left
      · intro o ho
        simp at ho
        subst ho
        intro wz hSw
        try dsimp only at hSw
        go_simp
        try with_reducible rfl
      try simp only [Act.put, List.setIfInBounds_toArray, List.set_cons_zero, List.set_cons_succ]
      refine hand_take (i := 15) (d := some 25) (v := ?_) rfl (by kernel_rfl) (by kernel_rfl) (by kernel_rfl) (fun _ _ _ h => h) ?_ hHeld ?_
      rotate_left
      · intro o ho
        simp at ho
        subst ho
        intro wz hSw
        try dsimp only at hSw
        go_simp
        try with_reducible rfl
      try simp only [Act.put, List.setIfInBounds_toArray, List.set_cons_zero, List.set_cons_succ]
      obtain ⟨hlB, y0, y1, y2, z0, z1, z2⟩ := id hT3
      refine hand_call (i := 17) rfl (by kernel_rfl) ?_
      intro o ho
      simp at ho
      subst ho
      intro K hK
      go_simp
      clear y0 y1 y2 z0 z1 z2
      obtain ⟨w4, hw4⟩ : ∃ w4, setT w3 B 0 rl rt ro = w4 := ⟨_, rfl⟩
      have M := TrMid.of hH3 hB3 hT3 hn3 hne ⟨rl, rt, ro, rn⟩
      dsimp only at M
      rw [hw4] at M
      dsimp only [setT] at hw4
      rw [hw4]
      clear hw4 hH3 hB3 hT3
      have A4 := M.pr.at'
      refine hK.out _ _ ?_ (fun hHeld => ?_)
      · exact ⟨A4.c0, A4.c1, A4.c7, A4.c8, A4.c9⟩
      clear hK K
      try simp only [Act.put, List.setIfInBounds_toArray, List.set_cons_zero, List.set_cons_succ]
      clear A4
      refine hand_take (i := 18) (d := some 4) (v := ?_) rfl (by kernel_rfl) (by kernel_rfl) (by kernel_rfl) (fun _ _ _ h => h) ?_ hHeld ?_
      rotate_left
      · intro o ho
        simp at ho
        subst ho
        intro wz hSw
        try dsimp only at hSw
        go_simp
        try with_reducible rfl
      try simp only [Act.put, List.setIfInBounds_toArray, List.set_cons_zero, List.set_cons_succ]
      refine wpAnyH_done (by kernel_rfl) (NoPanic.normal ?_) _
      clear hHeld
      obtain ⟨H3, B3, T3, n3⟩ := M
      obtain ⟨hl3, d0, d1, d2, d3, d4, d5, d6, d7, d8, d9, fz3⟩ := H3.at'
      obtain ⟨hlB, y0, y1, y2, -, -, -⟩ := T3
      have h3 := hide H3
      have b3 := hide B3
      clear H3 B3
      go_wp2_with fail
      go_ret
      have h4 := rp_tim h3.out.on rl rt ro
      exact ⟨rfl, ⟨hI.out, rl, rt, ro, fun _ => ⟨rfl, rfl, rfl⟩, h4.1⟩, (FrS.of_below b3.out).trans h4.2 (fun _ e => .inl e)⟩
end Go.Proofs.Ytmdioofpghbjbaa
