/- layer 15: Proc ProcB BunJoin BunC Ref02 Ref04 Ref04e, put together. -/
import Derived.Test.YtoenjdnccgmhoaaGreatDoorB04
import Derived.Test.YtoenjdnccgmhoaaGreatDoorB05
import Derived.Test.YtoenjdnccgmhoaaGreatDoorB18
import Derived.Deep.RegionHeld3
import Derived.Test.YtoenjdnccgmhoaaGreatDoorB24
import Derived.Test.YtoenjdnccgmhoaaGreatDoorB02
namespace Go.Proofs.YtoenjdnccgmhoaaGreatDoor
open Go.ChangeShapes Go.WideShapes Go.ChangeAt Go.RowKit
set_option linter.unusedSimpArgs false
set_option linter.unusedVariables false
set_option maxRecDepth 10000
attribute [local go_sem, local simp] over_const setCell_drewN alloc_drewN Over.cell Over.frozen lt_s1 lt_s2 lt_s3 le_s0 le_s1 le_s2 le_s3 eq_s0 eq_s1 eq_s2 qe_s0
abbrev prC (wa tr : Int) (P : Pm) : Array Value := #[.int .i64 wa, .int .i64 tr, .int .i64 P.k, .int .i64 P.l, .int .i64 P.t, .bool P.o, .int .i64 P.op.b, .bool P.op.w, .int .i64 P.op.v, .bool P.busy]
structure PrIs (w : World) (p : Nat) (wa tr : Int) (P : Pm) : Prop where
  inv : PInv wa tr P
  ob : w.heap[p]? = some (.cells (prC wa tr P) 149 (0, 0))
section
variable {w w' : World} {p : Nat} {wa tr : Int} {P : Pm}
theorem PrIs.lt (h : PrIs w p wa tr P) : p < w.heap.size := (Array.getElem?_eq_some_iff.1 h.ob).1
theorem PrIs.carry (h : PrIs w p wa tr P) (e : w'.heap[p]? = w.heap[p]?) : PrIs w' p wa tr P := ⟨h.inv, e.trans h.ob⟩
theorem PrIs.below (h : PrIs w p wa tr P) (hb : Below w.heap.size w w') : PrIs w' p wa tr P := h.carry (hb.block p h.lt)
theorem PrIs.fr {F : Nat → Prop} (h : PrIs w p wa tr P) (hf : FrS F w w') (hn : ¬ F p) : PrIs w' p wa tr P := h.carry (hf.block p h.lt hn)
theorem PrIs.alloc (h : PrIs w p wa tr P) (x : Obj) : PrIs (w.alloc x) p wa tr P := h.below ((Below.refl _ _).alloc (Nat.le_refl _) _)
end
structure PrAt (w : World) (p : Nat) (wa tr k l t : Int) (o : Bool) (b : Int) (ow : Bool) (v : Int) (busy : Bool) : Prop where
  lt : p < w.heap.size
  c0 : w.cell? ⟨p, 0, none⟩ = some (.int .i64 wa)
  c1 : w.cell? ⟨p, 1, none⟩ = some (.int .i64 tr)
  c2 : w.cell? ⟨p, 2, none⟩ = some (.int .i64 k)
  c3 : w.cell? ⟨p, 3, none⟩ = some (.int .i64 l)
  c4 : w.cell? ⟨p, 4, none⟩ = some (.int .i64 t)
  c5 : w.cell? ⟨p, 5, none⟩ = some (.bool o)
  c6 : w.cell? ⟨p, 6, none⟩ = some (.int .i64 b)
  c7 : w.cell? ⟨p, 7, none⟩ = some (.bool ow)
  c8 : w.cell? ⟨p, 8, none⟩ = some (.int .i64 v)
  c9 : w.cell? ⟨p, 9, none⟩ = some (.bool busy)
  fz : ∀ i, w.frozen? ⟨p, i, none⟩ = false
theorem PrIs.at' {w : World} {p : Nat} {wa tr k l t : Int} {o : Bool} {b : Int} {ow : Bool} {v : Int} {busy : Bool} (h : PrIs w p wa tr ⟨k, l, t, o, ⟨b, ow, v⟩, busy⟩) : PrAt w p wa tr k l t o b ow v busy :=
  ⟨h.lt, cell_of_row _ _ _ _ _ _ h.ob, cell_of_row _ _ _ _ _ _ h.ob, cell_of_row _ _ _ _ _ _ h.ob, cell_of_row _ _ _ _ _ _ h.ob, cell_of_row _ _ _ _ _ _ h.ob, cell_of_row _ _ _ _ _ _ h.ob, cell_of_row _ _ _ _ _ _ h.ob, cell_of_row _ _ _ _ _ _ h.ob, cell_of_row _ _ _ _ _ _ h.ob, cell_of_row _ _ _ _ _ _ h.ob, fun i => frozen_of_row _ _ _ _ _ h.ob⟩
theorem ob_set {w : World} {p i : Nat} {cs : Array Value} {T : TypeId} (h : w.heap[p]? = some (.cells cs T (0, 0))) (v : Value) : (w.setCell ⟨p, i, none⟩ v).heap[p]? = some (.cells (cs.setIfInBounds i v) T (0, 0)) := Go.heap_setCell_same w p i cs T v h
theorem wrP {p : Nat} {a b : World} (h : FrS (· = p) a b) {o : Nat} (u : Value) : FrS (· = p) a (b.setCell ⟨p, o, none⟩ u) := h.setCell (q := ⟨p, o, none⟩) (.inl rfl) u
abbrev setT (w : World) (p o : Nat) (l t : Int) (ov : Bool) : World := ((w.setCell ⟨p, o, none⟩ (.int .i64 l)).setCell ⟨p, o + 1, none⟩ (.int .i64 t)).setCell ⟨p, o + 2, none⟩ (.bool ov)
abbrev setO (w : World) (p o : Nat) (x : Op3) : World := ((w.setCell ⟨p, o, none⟩ (.int .i64 x.b)).setCell ⟨p, o + 1, none⟩ (.bool x.w)).setCell ⟨p, o + 2, none⟩ (.int .i64 x.v)
section
variable {w : World} {p : Nat} {wa tr : Int} {P : Pm}
theorem PrIs.timer (h : PrIs w p wa tr P) (l t : Int) (o : Bool) (hi : PInv wa tr ⟨P.k, l, t, o, P.op, P.busy⟩) : PrIs (setT w p 3 l t o) p wa tr ⟨P.k, l, t, o, P.op, P.busy⟩ ∧ FrS (· = p) w (setT w p 3 l t o) :=
  ⟨⟨hi, by have h1 := h.ob; replace h1 := ob_set (i := 3) h1 (.int .i64 l); replace h1 := ob_set (i := 4) h1 (.int .i64 t); replace h1 := ob_set (i := 5) h1 (.bool o); simp only [prC, List.setIfInBounds_toArray, List.set_cons_zero, List.set_cons_succ] at h1; exact h1⟩, wrP (wrP (wrP (FrS.refl _ _) _) _) _⟩
theorem PrIs.wanted (h : PrIs w p wa tr P) (l t : Int) (o : Bool) (x : Op3) (busy : Bool) (hi : PInv wa tr ⟨P.k, l, t, o, x, busy⟩) :
    PrIs ((setO (setT w p 3 l t o) p 6 x).setCell ⟨p, 9, none⟩ (.bool busy)) p wa tr ⟨P.k, l, t, o, x, busy⟩ ∧ FrS (· = p) w ((setO (setT w p 3 l t o) p 6 x).setCell ⟨p, 9, none⟩ (.bool busy)) :=
  ⟨⟨hi, by have h1 := h.ob; replace h1 := ob_set (i := 3) h1 (.int .i64 l); replace h1 := ob_set (i := 4) h1 (.int .i64 t); replace h1 := ob_set (i := 5) h1 (.bool o); replace h1 := ob_set (i := 6) h1 (.int .i64 x.b); replace h1 := ob_set (i := 7) h1 (.bool x.w); replace h1 := ob_set (i := 8) h1 (.int .i64 x.v); replace h1 := ob_set (i := 9) h1 (.bool busy); simp only [prC, List.setIfInBounds_toArray, List.set_cons_zero, List.set_cons_succ] at h1; exact h1⟩, wrP (wrP (wrP (wrP (wrP (wrP (wrP (FrS.refl _ _) _) _) _) _) _) _) _⟩
theorem PrIs.number (h : PrIs w p wa tr P) (k : Int) (hi : PInv wa tr ⟨k, P.l, P.t, P.o, P.op, P.busy⟩) : PrIs (w.setCell ⟨p, 2, none⟩ (.int .i64 k)) p wa tr ⟨k, P.l, P.t, P.o, P.op, P.busy⟩ ∧ FrS (· = p) w (w.setCell ⟨p, 2, none⟩ (.int .i64 k)) :=
  ⟨⟨hi, by have h1 := h.ob; replace h1 := ob_set (i := 2) h1 (.int .i64 k); simp only [prC, List.setIfInBounds_toArray, List.set_cons_zero, List.set_cons_succ] at h1; exact h1⟩, wrP (FrS.refl _ _) _⟩
end
set_option maxHeartbeats 1000000 in
theorem pNew_c (wa tr : Int) (w : World) (h1 : wa ≤ 9223372036854775807) (h2 : tr ≤ 9223372036854775807) : Calls Tryz.prog 71 #[.int .i64 wa, .int .i64 tr] w fun e w' => ∃ p, e = .returned (ptr p) ∧ PrIs w' p wa tr pm0 ∧ w.heap.size ≤ p ∧ Below w.heap.size w w' := by
  go_enter Tryz.func71, Tryz.ntmps71
  go_wp2_with fail
  go_ret
  exact ⟨w.heap.size, rfl, ⟨pinv0 h1 h2, heap_alloc_new _ _⟩, Nat.le_refl _, by all_goals exact belEnd⟩
theorem pPin_c (p : Nat) (wa tr : Int) (P : Pm) (w : World) (h : PrIs w p wa tr P) (r : Int) (hr : Hid (pinP P = r)) : Calls Tryz.prog 124 #[ptr p] w fun e w' => e = .returned (.int .i64 r) ∧ w' = w := by
  have hr' := hr.out
  clear hr
  obtain ⟨k, l, t, o, ⟨b, ow, v⟩, busy⟩ := P
  obtain ⟨hl, c0, c1, c2, c3, c4, c5, c6, c7, c8, c9, fz⟩ := h.at'
  clear h
  cases busy
  · obtain rfl : -1 = r := hr'
    go_enter Tryz.func124, Tryz.ntmps124
    go_wp2_with fail
    go_ret
    exact ⟨rfl, rfl⟩
  · obtain rfl : b = r := hr'
    go_enter Tryz.func124, Tryz.ntmps124
    go_wp2_with fail
    go_ret
    exact ⟨rfl, rfl⟩
set_option maxHeartbeats 1000000 in
theorem pCopy_c (p : Nat) (wa tr : Int) (P : Pm) (w : World) (h : PrIs w p wa tr P) : Calls Tryz.prog 57 #[ptr p] w fun e w' => ∃ c, e = .returned (ptr c) ∧ PrIs w' c wa tr P ∧ w.heap.size ≤ c ∧ Below w.heap.size w w' := by
  have hi := hide h.inv
  obtain ⟨k, l, t, o, ⟨b, ow, v⟩, busy⟩ := P
  obtain ⟨hl, c0, c1, c2, c3, c4, c5, c6, c7, c8, c9, fz⟩ := h.at'
  clear h
  go_enter Tryz.func57, Tryz.ntmps57
  go_wp2_with fail
  go_ret
  refine ⟨w.heap.size, rfl, ⟨hi.out, ?_⟩, Nat.le_refl _, by all_goals exact belEnd⟩
  exact heap_alloc_new _ _
set_option maxHeartbeats 1000000 in
theorem pFin_c (p : Nat) (wa tr : Int) (P : Pm) (w : World) (h : PrIs w p wa tr P) (hk : P.k < 100000) (n : Int) (hn : Hid (numF P = n)) (ok : Bool) (hok : Hid (P.busy = ok)) : Calls Tryz.prog 75 #[ptr p] w fun e w' => e = .returned (.tuple #[.int .i64 n, .bool ok]) ∧ PrIs w' p wa tr (nxF P) ∧ FrS (· = p) w w' := by
  have hn' := hn.out
  have hok' := hok.out
  have hI := hide (h.inv.fin hk)
  have hH := hide h
  have hk0 := h.inv.k0
  clear hn hok
  obtain ⟨k, l, t, o, ⟨b, ow, v⟩, busy⟩ := P
  obtain ⟨hl, c0, c1, c2, c3, c4, c5, c6, c7, c8, c9, fz⟩ := h.at'
  obtain rfl : busy = ok := hok'
  clear h
  dsimp only at hk hk0
  cases busy
  · obtain rfl : 0 = n := hn'
    go_enter Tryz.func75, Tryz.ntmps75
    go_wp2_with fail
    go_ret2
    exact ⟨rfl, hH.out, FrS.refl _ _⟩
  · obtain rfl : k + 1 = n := hn'
    go_enter Tryz.func75, Tryz.ntmps75
    go_wp2_with fail
    go_ret2
    have h1 := (hH.out).wanted 0 0 false op30 false ⟨hH.out.inv.wb, hH.out.inv.rb, hH.out.inv.k0, hH.out.inv.k1, by dsimp only; omega, by dsimp only; omega⟩
    have h2 := h1.1.number (k + 1) hI.out
    exact ⟨rfl, h2.1, h1.2.trans h2.2 (fun _ e => .inl e)⟩
abbrev opO (x : Op3) : Obj := .cells #[.int .i64 x.b, .bool x.w, .int .i64 x.v] 33
set_option maxHeartbeats 1000000 in
theorem pPend_c (p : Nat) (wa tr : Int) (P : Pm) (w : World) (h : PrIs w p wa tr P) (x : Op3) (hx : Hid (P.op = x)) (ok : Bool) (hok : Hid (P.busy = ok)) : Calls Tryz.prog 34 #[ptr p] w fun e w' => e = .returned (.tuple #[.agg #[.int .i64 x.b, .bool x.w, .int .i64 x.v], .bool ok]) ∧ Below w.heap.size w w' := by
  have hx' := hx.out
  have hok' := hok.out
  clear hx hok
  obtain ⟨k, l, t, o, ⟨b, ow, v⟩, busy⟩ := P
  obtain ⟨hl, c0, c1, c2, c3, c4, c5, c6, c7, c8, c9, fz⟩ := h.at'
  obtain rfl : busy = ok := hok'
  obtain rfl : (⟨b, ow, v⟩ : Op3) = x := hx'
  clear h
  go_enter Tryz.func34, Tryz.ntmps34
  go_wp2_with fail
  refine wp_region_noPanic ?_
  refine wp_region_held_drew (S := (fun w' => w'.cell? ⟨p, 6, none⟩ = some (.int .i64 b) ∧ w'.cell? ⟨p, 7, none⟩ = some (.bool ow) ∧ w'.cell? ⟨p, 8, none⟩ = some (.int .i64 v) ∧ w'.cell? ⟨p, 9, none⟩ = some (.bool busy))) (by kernel_rfl) ?_ (fun hHeld => ?_)
  · exact ⟨by simp [go_sem, *], by simp [go_sem, *], by simp [go_sem, *], by simp [go_sem, *]⟩
  refine hTk 0 4 hHeld ?_
  refine hTk 1 5 hHeld ?_
  refine hTk 2 6 hHeld ?_
  refine hTk 3 7 hHeld ?_
  refine hTk 4 8 hHeld ?_
  refine hTk 5 9 hHeld ?_
  refine hTk 6 10 hHeld ?_
  refine hTk 7 11 hHeld ?_
  refine hTk 8 12 hHeld ?_
  refine hTk 9 13 hHeld ?_
  refine hNo 10 fun K hK => ?_
  go_simp
  refine hK.out _ _ ?_ fun hHeld => ?_
  · exact ⟨by simp [go_sem, *], by simp [go_sem, *], by simp [go_sem, *], by simp [go_sem, *]⟩
  clear hK K
  try simp only [Act.put, za, zb, zc]
  refine hTk 11 3 hHeld ?_
  refine wpAnyH_done (by kernel_rfl) (NoPanic.normal ?_) _
  clear hHeld
  go_wp2_with fail
  refine bodyPost_ret (by simp [results, Tryz.results34, go_sem, *]; done) rfl ⟨rfl, ?_⟩
  all_goals exact belEnd
set_option maxHeartbeats 1000000 in
theorem pIss_c (p : Nat) (wa tr : Int) (P : Pm) (x : Op3) (w : World) (h : PrIs w p wa tr P) (ok : Bool) (hok : Hid ((!P.busy) = ok)) : Calls Tryz.prog 32 #[ptr p, .agg #[.int .i64 x.b, .bool x.w, .int .i64 x.v]] w fun e w' => e = .returned (.bool ok) ∧ PrIs w' p wa tr (nxI wa P x) ∧ FrS (· = p) w w' := by
  have hok' := hok.out
  have hH := hide h
  have hI := hide (h.inv.iss x)
  clear hok
  obtain ⟨k, l, t, o, ⟨b, ow, v⟩, busy⟩ := P
  obtain ⟨xb, xw, xv⟩ := x
  obtain ⟨hl, c0, c1, c2, c3, c4, c5, c6, c7, c8, c9, fz⟩ := h.at'
  clear h
  cases busy
  · obtain rfl : true = ok := hok'
    obtain ⟨m, hm⟩ : ∃ m, Hid (max wa 1 = m) := ⟨_, rfl⟩
    have hI' : Hid (PInv wa tr ⟨k, m, 0, false, ⟨xb, xw, xv⟩, true⟩) := by rw [← hm.out]; exact hI
    have hQ : nxI wa ⟨k, l, t, o, ⟨b, ow, v⟩, false⟩ ⟨xb, xw, xv⟩ = ⟨k, m, 0, false, ⟨xb, xw, xv⟩, true⟩ := by rw [← hm.out]; rfl
    rw [hQ]
    clear hQ hI
    go_enter Tryz.func32, Tryz.ntmps32
    go_wp2_with fail
    have hH0 := hide (hH.out.alloc (opO ⟨xb, xw, xv⟩))
    have hB0 : Hid (Below w.heap.size w (w.alloc (opO ⟨xb, xw, xv⟩))) := hide ((Below.refl _ _).alloc (Nat.le_refl _) _)
    have hs0 : w.heap.size < (w.alloc (opO ⟨xb, xw, xv⟩)).heap.size := by simp
    have q0 : (w.alloc (opO ⟨xb, xw, xv⟩)).cell? ⟨w.heap.size, 0, none⟩ = some (.int .i64 xb) := by simp [go_sem]
    have q1 : (w.alloc (opO ⟨xb, xw, xv⟩)).cell? ⟨w.heap.size, 1, none⟩ = some (.bool xw) := by simp [go_sem]
    have q2 : (w.alloc (opO ⟨xb, xw, xv⟩)).cell? ⟨w.heap.size, 2, none⟩ = some (.int .i64 xv) := by simp [go_sem]
    obtain ⟨w0, hw0⟩ : ∃ w0, w.alloc (opO ⟨xb, xw, xv⟩) = w0 := ⟨_, rfl⟩
    rw [hw0] at hH0 hB0 hs0 q0 q1 q2
    dsimp only [opO] at hw0
    rw [hw0]
    clear hw0 c0 c1 c2 c3 c4 c5 c6 c7 c8 c9 fz
    obtain ⟨hl0, c0, -, -, -, -, -, -, -, -, -, -⟩ := hH0.out.at'
    go_wp2_with fail
    refine wp_region_noPanic ?_
    refine wp_region_held_drew (S := (fun w' => w'.cell? ⟨p, 0, none⟩ = some (.int .i64 wa) ∧ w'.cell? ⟨w.heap.size, 0, none⟩ = some (.int .i64 xb) ∧ w'.cell? ⟨w.heap.size, 1, none⟩ = some (.bool xw) ∧ w'.cell? ⟨w.heap.size, 2, none⟩ = some (.int .i64 xv))) (by kernel_rfl) ?_ (fun hHeld => ?_)
    · exact ⟨c0, q0, q1, q2⟩
    refine hTk 0 10 hHeld ?_
    refine hTk 1 11 hHeld ?_
    refine hTk 2 12 hHeld ?_
    refine hTk 3 13 hHeld ?_
    refine hTk 4 14 hHeld ?_
    refine hTk 6 16 hHeld ?_
    refine hNo 5 fun K hK => ?_
    go_simp
    go_at_call 73
    refine (startT_c wa _ m hm).mono ?_
    rintro e w1 ⟨rfl, hb1⟩
    have hb2 := ((Below.refl w0.heap.size w0).drew).trans hb1
    have hB1 := hide (hB0.out.trans (hb2.mono hB0.out.size))
    have hH1 := hide (hH0.out.below hb2)
    have e0 := (hb2.cell (p := ⟨p, 0, none⟩) hl0).trans c0
    have e1 := (hb2.cell (p := ⟨w.heap.size, 0, none⟩) hs0).trans q0
    have e2 := (hb2.cell (p := ⟨w.heap.size, 1, none⟩) hs0).trans q1
    have e3 := (hb2.cell (p := ⟨w.heap.size, 2, none⟩) hs0).trans q2
    have s1 : w.heap.size < w1.heap.size := Nat.lt_of_lt_of_le hs0 hb2.size
    clear hb1 hb2 q0 q1 q2 c0
    refine hK.out _ _ ?_ fun hHeld => ?_
    · exact ⟨e0, e1, e2, e3⟩
    clear hK K
    try simp only [Act.put, za, zb, zc]
    refine hTk 7 17 hHeld ?_
    refine hTk 8 18 hHeld ?_
    refine hTk 9 19 hHeld ?_
    obtain ⟨hl1, d0, d1, d2, d3, d4, d5, d6, d7, d8, d9, fz1⟩ := hH1.out.at'
    refine hNo 10 fun K hK => ?_
    go_simp
    have h1 := hH1.out.wanted m 0 false ⟨xb, xw, xv⟩ true hI'.out
    clear d0 d1 d2 d3 d4 d5 d6 d7 d8 d9 fz1
    obtain ⟨w4, hw4⟩ : ∃ w4, (setO (setT w1 p 3 m 0 false) p 6 ⟨xb, xw, xv⟩).setCell ⟨p, 9, none⟩ (.bool true) = w4 := ⟨_, rfl⟩
    rw [hw4] at h1
    dsimp only [setT, setO] at hw4
    rw [hw4]
    clear hw4
    obtain ⟨h1, hf1⟩ := h1
    have hn : ¬ w.heap.size = p := by omega
    refine hK.out _ _ ?_ fun hHeld => ?_
    · exact ⟨h1.at'.c0, (hf1.cell s1 hn).trans e1, (hf1.cell s1 hn).trans e2, (hf1.cell s1 hn).trans e3⟩
    clear hK K
    try simp only [Act.put, za, zb, zc]
    refine wpAnyH_done (by kernel_rfl) (NoPanic.normal ?_) _
    clear hHeld
    clear e0 e1 e2 e3
    have h1 := hide h1
    have hf1 := hide hf1
    go_wp2_with fail
    go_ret
    exact ⟨rfl, h1.out, (FrS.of_below hB1.out).trans hf1.out (fun _ e => .inl e)⟩
  · obtain rfl : false = ok := hok'
    go_enter Tryz.func32, Tryz.ntmps32
    go_wp2_with fail
    go_ret
    exact ⟨rfl, hH.out.alloc _, FrS.of_below (by all_goals exact belEnd)⟩
structure TkMid (w w3 : World) (p : Nat) (wa tr : Int) (P : Pm) (B : Nat) (r : Tk) : Prop where
  pr : PrIs w3 p wa tr P
  bel : Below w.heap.size w w3
  tim : TimAt w3 B r.l r.t r.o
  new : w.heap.size ≤ B
theorem TkMid.of {w w2 : World} {p B : Nat} {wa tr : Int} {P : Pm} (h : PrIs w2 p wa tr P) (hb : Below w.heap.size w w2) (ht : TimAt w2 B 0 0 false) (hn : w.heap.size ≤ B) (hne : p ≠ B) (r : Tk) : TkMid w (setT w2 B 0 r.l r.t r.o) p wa tr P B r := by
  have h2 : FrS (· = B) w2 (setT w2 B 0 r.l r.t r.o) := wrP (wrP (wrP (FrS.refl _ _) _) _) _
  exact ⟨h.fr h2 hne, hb.trans (h2.below (fun i hi => by omega) hb.size), ht.set _ _ _, hn⟩
set_option maxHeartbeats 2000000 in
theorem pTick_c (p : Nat) (wa tr : Int) (P : Pm) (w : World) (h : PrIs w p wa tr P) (n : Int) (hn : Hid (doT wa tr P = n)) : Calls Tryz.prog 51 #[ptr p] w fun e w' => e = .returned (.int .i64 n) ∧ PrIs w' p wa tr (nxT wa tr P) ∧ FrS (· = p) w w' := by
  have hn' := hn.out
  have hH := hide h
  have hI0 := hide h.inv
  have hI := hide (h.inv.tick)
  clear hn
  obtain ⟨k, l, t, o, ⟨b, ow, v⟩, busy⟩ := P
  obtain ⟨hl, c0, c1, c2, c3, c4, c5, c6, c7, c8, c9, fz⟩ := h.at'
  clear h
  cases busy
  · obtain rfl : 0 = n := hn'
    go_enter Tryz.func51, Tryz.ntmps51
    go_wp2_with fail
    go_ret
    exact ⟨rfl, hH.out, FrS.refl _ _⟩
  · obtain ⟨⟨rl, rt, ro, rn⟩, hr⟩ : ∃ r : Tk, Hid (tickT l t o wa tr = r) := ⟨_, rfl⟩
    obtain rfl : rn = n := by rw [← hn']; show rn = (tickT l t o wa tr).n; rw [hr.out]
    have hQ : nxT wa tr ⟨k, l, t, o, ⟨b, ow, v⟩, true⟩ = ⟨k, rl, rt, ro, ⟨b, ow, v⟩, true⟩ := by show Pm.mk k (tickT l t o wa tr).l (tickT l t o wa tr).t (tickT l t o wa tr).o ⟨b, ow, v⟩ true = _; rw [hr.out]
    rw [hQ] at hI ⊢
    clear hQ hn'
    go_enter Tryz.func51, Tryz.ntmps51
    go_wp2_with fail
    refine wp_region_noPanic ?_
    refine wp_region_held_drew (S := (fun w' => w'.cell? ⟨p, 0, none⟩ = some (.int .i64 wa) ∧ w'.cell? ⟨p, 1, none⟩ = some (.int .i64 tr) ∧ w'.cell? ⟨p, 3, none⟩ = some (.int .i64 l) ∧ w'.cell? ⟨p, 4, none⟩ = some (.int .i64 t) ∧ w'.cell? ⟨p, 5, none⟩ = some (.bool o))) (by kernel_rfl) ?_ (fun hHeld => ?_)
    · exact ⟨c0, c1, c3, c4, c5⟩
    refine hTk 0 12 hHeld ?_
    refine hTk 1 13 hHeld ?_
    refine hTk 2 14 hHeld ?_
    refine hTk 3 15 hHeld ?_
    refine hTk 4 16 hHeld ?_
    refine hTk 5 17 hHeld ?_
    refine hTk 6 18 hHeld ?_
    refine hTk 7 19 hHeld ?_
    refine hTk 8 20 hHeld ?_
    refine hTk 9 21 hHeld ?_
    refine hTk 10 22 hHeld ?_
    refine hTk 11 23 hHeld ?_
    refine hTk 12 24 hHeld ?_
    have hH1 := hH.out.below ((Below.refl w.heap.size w).drew)
    have hB1 : Below w.heap.size w w.drew := (Below.refl w.heap.size w).drew
    obtain ⟨wd, hwd⟩ : ∃ wd, w.drew = wd := ⟨_, rfl⟩
    rw [hwd] at hHeld hH1 hB1 ⊢
    clear hwd c0 c1 c2 c3 c4 c5 c6 c7 c8 c9 fz
    refine hTwo 13 17 (fun K hK => ?_) fun K hK => ?_
    · go_simp
      go_at_call 100
      refine (tick_c l t o wa tr _ hI0.out.lb hI0.out.tb hI0.out.wb hI0.out.rb ⟨rl, rt, ro, rn⟩ hr).mono ?_
      dsimp only
      rintro e w1 ⟨rfl, hb1⟩
      have hH2 := hH1.below hb1
      have hB2 := hB1.trans (hb1.mono hB1.size)
      clear hb1
      have A2 := hH2.at'
      refine hK.out _ _ ?_ fun hHeld => ?_
      · exact ⟨A2.c0, A2.c1, A2.c3, A2.c4, A2.c5⟩
      clear hK K
      try simp only [Act.put, za, zb, zc]
      refine hTk 14 11 hHeld ?_
      refine hTk 15 26 hHeld ?_
      refine hTk 16 27 hHeld ?_
      refine hNo 17 fun K hK => ?_
      go_simp
      have hH3 := hH2.alloc (.cells #[.int .i64 0, .int .i64 0, .bool false] 145)
      have hB3 := hB2.alloc hB2.size (.cells #[.int .i64 0, .int .i64 0, .bool false] 145)
      have hT3 := TimAt.new w1 0 0 false 145
      have hn3 : w.heap.size ≤ w1.heap.size := hB2.size
      have hne : p ≠ w1.heap.size := by have := hH2.lt; omega
      obtain ⟨B, eB⟩ : ∃ B, w1.heap.size = B := ⟨_, rfl⟩
      obtain ⟨w2, hw2⟩ : ∃ w2, w1.alloc (.cells #[.int .i64 0, .int .i64 0, .bool false] 145) = w2 := ⟨_, rfl⟩
      rw [hw2] at hH3 hB3 hT3 ⊢
      rw [eB] at hT3 hn3 hne ⊢
      clear hw2 eB hH2 hB2 A2
      have A3 := hH3.at'
      refine hK.out _ _ ?_ fun hHeld => ?_
      · exact ⟨A3.c0, A3.c1, A3.c3, A3.c4, A3.c5⟩
      clear hK K
      try simp only [Act.put, za, zb, zc]
      clear A3
      obtain ⟨hlB, y0, y1, y2, z0, z1, z2⟩ := id hT3
      refine hNo 18 fun K hK => ?_
      go_simp
      clear y0 y1 y2 z0 z1 z2
      obtain ⟨w4, hw4⟩ : ∃ w4, setT w2 B 0 rl rt ro = w4 := ⟨_, rfl⟩
      have M := TkMid.of hH3 hB3 hT3 hn3 hne ⟨rl, rt, ro, rn⟩
      dsimp only at M
      rw [hw4] at M
      dsimp only [setT] at hw4
      rw [hw4]
      clear hw4 hH3 hB3 hT3
      have A4 := M.pr.at'
      refine hK.out _ _ ?_ fun hHeld => ?_
      · exact ⟨A4.c0, A4.c1, A4.c3, A4.c4, A4.c5⟩
      clear hK K
      try simp only [Act.put, za, zb, zc]
      clear A4
      refine hTk 19 4 hHeld ?_
      refine wpAnyH_done (by kernel_rfl) (NoPanic.normal ?_) _
      clear hHeld
      obtain ⟨H3, B3, T3, n3⟩ := M
      obtain ⟨hl3, d0, d1, d2, d3, d4, d5, d6, d7, d8, d9, fz3⟩ := H3.at'
      obtain ⟨hlB, y0, y1, y2, -, -, -⟩ := T3
      have h3 := hide H3
      have b3 := hide B3
      clear H3 B3
      go_wp2_with fail
      go_ret
      have h4 := h3.out.timer rl rt ro hI.out
      exact ⟨rfl, h4.1, (FrS.of_below b3.out).trans h4.2 (fun _ e => .inl e)⟩
    · go_simp
      have hH2 := hH1.alloc (.cells #[.int .i64 0, .int .i64 0, .bool false] 145)
      have hB2 := hB1.alloc hB1.size (.cells #[.int .i64 0, .int .i64 0, .bool false] 145)
      have hT2 := TimAt.new wd 0 0 false 145
      have hn3 : w.heap.size ≤ wd.heap.size := hB1.size
      have hne : p ≠ wd.heap.size := by have := hH1.lt; omega
      obtain ⟨B, eB⟩ : ∃ B, wd.heap.size = B := ⟨_, rfl⟩
      obtain ⟨w2, hw2⟩ : ∃ w2, wd.alloc (.cells #[.int .i64 0, .int .i64 0, .bool false] 145) = w2 := ⟨_, rfl⟩
      rw [hw2] at hH2 hB2 hT2 ⊢
      rw [eB] at hT2 hn3 hne ⊢
      clear hw2 eB hH1 hB1
      have A2 := hH2.at'
      refine hK.out _ _ ?_ fun hHeld => ?_
      · exact ⟨A2.c0, A2.c1, A2.c3, A2.c4, A2.c5⟩
      clear hK K
      try simp only [Act.put, za, zb, zc]
      clear A2
      refine hNo 13 fun K hK => ?_
      go_simp
      go_at_call 100
      refine (tick_c l t o wa tr _ hI0.out.lb hI0.out.tb hI0.out.wb hI0.out.rb ⟨rl, rt, ro, rn⟩ hr).mono ?_
      dsimp only
      rintro e w3 ⟨rfl, hb3⟩
      have hH3 := hH2.below hb3
      have hB3 := hB2.trans (hb3.mono hB2.size)
      have hT3 := hT2.below hb3
      clear hb3 hH2 hB2 hT2
      have A3 := hH3.at'
      refine hK.out _ _ ?_ fun hHeld => ?_
      · exact ⟨A3.c0, A3.c1, A3.c3, A3.c4, A3.c5⟩
      clear hK K
      try simp only [Act.put, za, zb, zc]
      clear A3
      refine hTk 14 11 hHeld ?_
      refine hTk 15 26 hHeld ?_
      refine hTk 16 27 hHeld ?_
      obtain ⟨hlB, y0, y1, y2, z0, z1, z2⟩ := id hT3
      refine hNo 18 fun K hK => ?_
      go_simp
      clear y0 y1 y2 z0 z1 z2
      obtain ⟨w4, hw4⟩ : ∃ w4, setT w3 B 0 rl rt ro = w4 := ⟨_, rfl⟩
      have M := TkMid.of hH3 hB3 hT3 hn3 hne ⟨rl, rt, ro, rn⟩
      dsimp only at M
      rw [hw4] at M
      dsimp only [setT] at hw4
      rw [hw4]
      clear hw4 hH3 hB3 hT3
      have A4 := M.pr.at'
      refine hK.out _ _ ?_ fun hHeld => ?_
      · exact ⟨A4.c0, A4.c1, A4.c3, A4.c4, A4.c5⟩
      clear hK K
      try simp only [Act.put, za, zb, zc]
      clear A4
      refine hTk 19 4 hHeld ?_
      refine wpAnyH_done (by kernel_rfl) (NoPanic.normal ?_) _
      clear hHeld
      obtain ⟨H3, B3, T3, n3⟩ := M
      obtain ⟨hl3, d0, d1, d2, d3, d4, d5, d6, d7, d8, d9, fz3⟩ := H3.at'
      obtain ⟨hlB, y0, y1, y2, -, -, -⟩ := T3
      have h3 := hide H3
      have b3 := hide B3
      clear H3 B3
      go_wp2_with fail
      go_ret
      have h4 := h3.out.timer rl rt ro hI.out
      exact ⟨rfl, h4.1, (FrS.of_below b3.out).trans h4.2 (fun _ e => .inl e)⟩
end Go.Proofs.YtoenjdnccgmhoaaGreatDoor
namespace Go.Proofs.YtoenjdnccgmhoaaGreatDoor
open Go.ChangeShapes Go.WideShapes Go.ChangeAt Go.RowKit
set_option linter.unusedSimpArgs false
set_option linter.unusedVariables false
attribute [local go_sem, local simp] setCell_drewN alloc_drewN
set_option maxHeartbeats 1000000 in
theorem join_any (n : Int) (o h : Bool) (d : Int) (n' : Int) (o' h' : Bool) (d' : Int) (w : World) (h1 : -9223372036854775808 ≤ n + n') (h2 : n + n' ≤ 9223372036854775807) :
    Calls Tryz.prog 152 #[.agg #[.int .i64 n, .bool o, .bool h, .int .i64 d], .agg #[.int .i64 n', .bool o', .bool h', .int .i64 d']] w fun e w' =>
      ∃ r : Bun, Hid (joinB ⟨n, o, h, d⟩ ⟨n', o', h', d'⟩ = r) ∧ e = .returned (.agg #[.int .i64 r.n, .bool r.o, .bool r.h, .int .i64 r.d]) ∧ Below w.heap.size w w' := by
  cases o <;> cases o'
  · go_enter Tryz.func152, Tryz.ntmps152
    go_wp2
    go_region_held3 (fun w' => w'.cell? ⟨w.heap.size, 0, none⟩ = some (.int .i64 n) ∧ w'.cell? ⟨w.heap.size, 1, none⟩ = some (.bool false) ∧ w'.cell? ⟨w.heap.size, 2, none⟩ = some (.bool h) ∧ w'.cell? ⟨w.heap.size, 3, none⟩ = some (.int .i64 d) ∧
        w'.cell? ⟨w.heap.size + 1, 0, none⟩ = some (.int .i64 n') ∧ w'.cell? ⟨w.heap.size + 1, 1, none⟩ = some (.bool false) ∧ w'.cell? ⟨w.heap.size + 1, 2, none⟩ = some (.bool h') ∧ w'.cell? ⟨w.heap.size + 1, 3, none⟩ = some (.int .i64 d') ∧
        w'.cell? ⟨w.heap.size + 1 + 1 + 1, 0, none⟩ = some ((.int .i64 (n + n'))) ∧ w'.cell? ⟨w.heap.size + 1 + 1 + 1, 1, none⟩ = some (.bool false) ∧ w'.cell? ⟨w.heap.size + 1 + 1 + 1, 2, none⟩ = some (.bool false) ∧ w'.cell? ⟨w.heap.size + 1 + 1 + 1, 3, none⟩ = some (.int .i64 0)) (simp [go_sem, *])
      (first | (go_at_call 168; refine (withValue_any _ _ _ _ _ _ _ _ _ _).mono ?_; rintro e w' ⟨r, o1, o2, o3, k, hr, rfl, rfl⟩))
    go_wp2
    go_returns
    exact ⟨r, by unfold joinB; have e1 := unhide ‹Hid (withV ⟨n + n', false, false, 0⟩ ⟨n, false, h, d⟩ true = _)›; simp only [Bool.false_or, Bool.true_or, Bool.or_false, Bool.or_true]; rw [e1]; exact unhide hr, rfl, belowN (by go_grown) _⟩
  · go_enter Tryz.func152, Tryz.ntmps152
    go_wp2
    go_region_held3 (fun w' => w'.cell? ⟨w.heap.size, 0, none⟩ = some (.int .i64 n) ∧ w'.cell? ⟨w.heap.size, 1, none⟩ = some (.bool false) ∧ w'.cell? ⟨w.heap.size, 2, none⟩ = some (.bool h) ∧ w'.cell? ⟨w.heap.size, 3, none⟩ = some (.int .i64 d) ∧
        w'.cell? ⟨w.heap.size + 1, 0, none⟩ = some (.int .i64 n') ∧ w'.cell? ⟨w.heap.size + 1, 1, none⟩ = some (.bool true) ∧ w'.cell? ⟨w.heap.size + 1, 2, none⟩ = some (.bool h') ∧ w'.cell? ⟨w.heap.size + 1, 3, none⟩ = some (.int .i64 d') ∧
        w'.cell? ⟨w.heap.size + 1 + 1 + 1, 0, none⟩ = some ((.int .i64 (n + n'))) ∧ w'.cell? ⟨w.heap.size + 1 + 1 + 1, 1, none⟩ = some (.bool true) ∧ w'.cell? ⟨w.heap.size + 1 + 1 + 1, 2, none⟩ = some (.bool false) ∧ w'.cell? ⟨w.heap.size + 1 + 1 + 1, 3, none⟩ = some (.int .i64 0)) (simp [go_sem, *])
      (first | (go_at_call 168; refine (withValue_any _ _ _ _ _ _ _ _ _ _).mono ?_; rintro e w' ⟨r, o1, o2, o3, k, hr, rfl, rfl⟩))
    go_wp2
    go_returns
    exact ⟨r, by unfold joinB; have e1 := unhide ‹Hid (withV ⟨n + n', true, false, 0⟩ ⟨n, false, h, d⟩ true = _)›; simp only [Bool.false_or, Bool.true_or, Bool.or_false, Bool.or_true]; rw [e1]; exact unhide hr, rfl, belowN (by go_grown) _⟩
  · go_enter Tryz.func152, Tryz.ntmps152
    go_wp2
    go_region_held3 (fun w' => w'.cell? ⟨w.heap.size, 0, none⟩ = some (.int .i64 n) ∧ w'.cell? ⟨w.heap.size, 1, none⟩ = some (.bool true) ∧ w'.cell? ⟨w.heap.size, 2, none⟩ = some (.bool h) ∧ w'.cell? ⟨w.heap.size, 3, none⟩ = some (.int .i64 d) ∧
        w'.cell? ⟨w.heap.size + 1, 0, none⟩ = some (.int .i64 n') ∧ w'.cell? ⟨w.heap.size + 1, 1, none⟩ = some (.bool false) ∧ w'.cell? ⟨w.heap.size + 1, 2, none⟩ = some (.bool h') ∧ w'.cell? ⟨w.heap.size + 1, 3, none⟩ = some (.int .i64 d') ∧
        w'.cell? ⟨w.heap.size + 1 + 1 + 1, 0, none⟩ = some ((.int .i64 (n + n'))) ∧ w'.cell? ⟨w.heap.size + 1 + 1 + 1, 1, none⟩ = some (.bool true) ∧ w'.cell? ⟨w.heap.size + 1 + 1 + 1, 2, none⟩ = some (.bool false) ∧ w'.cell? ⟨w.heap.size + 1 + 1 + 1, 3, none⟩ = some (.int .i64 0)) (simp [go_sem, *])
      (first | (go_at_call 168; refine (withValue_any _ _ _ _ _ _ _ _ _ _).mono ?_; rintro e w' ⟨r, o1, o2, o3, k, hr, rfl, rfl⟩))
    go_wp2
    go_returns
    exact ⟨r, by unfold joinB; have e1 := unhide ‹Hid (withV ⟨n + n', true, false, 0⟩ ⟨n, true, h, d⟩ true = _)›; simp only [Bool.false_or, Bool.true_or, Bool.or_false, Bool.or_true]; rw [e1]; exact unhide hr, rfl, belowN (by go_grown) _⟩
  · go_enter Tryz.func152, Tryz.ntmps152
    go_wp2
    go_region_held3 (fun w' => w'.cell? ⟨w.heap.size, 0, none⟩ = some (.int .i64 n) ∧ w'.cell? ⟨w.heap.size, 1, none⟩ = some (.bool true) ∧ w'.cell? ⟨w.heap.size, 2, none⟩ = some (.bool h) ∧ w'.cell? ⟨w.heap.size, 3, none⟩ = some (.int .i64 d) ∧
        w'.cell? ⟨w.heap.size + 1, 0, none⟩ = some (.int .i64 n') ∧ w'.cell? ⟨w.heap.size + 1, 1, none⟩ = some (.bool true) ∧ w'.cell? ⟨w.heap.size + 1, 2, none⟩ = some (.bool h') ∧ w'.cell? ⟨w.heap.size + 1, 3, none⟩ = some (.int .i64 d') ∧
        w'.cell? ⟨w.heap.size + 1 + 1 + 1, 0, none⟩ = some ((.int .i64 (n + n'))) ∧ w'.cell? ⟨w.heap.size + 1 + 1 + 1, 1, none⟩ = some (.bool true) ∧ w'.cell? ⟨w.heap.size + 1 + 1 + 1, 2, none⟩ = some (.bool false) ∧ w'.cell? ⟨w.heap.size + 1 + 1 + 1, 3, none⟩ = some (.int .i64 0)) (simp [go_sem, *])
      (first | (go_at_call 168; refine (withValue_any _ _ _ _ _ _ _ _ _ _).mono ?_; rintro e w' ⟨r, o1, o2, o3, k, hr, rfl, rfl⟩))
    go_wp2
    go_returns
    exact ⟨r, by unfold joinB; have e1 := unhide ‹Hid (withV ⟨n + n', true, false, 0⟩ ⟨n, true, h, d⟩ true = _)›; simp only [Bool.false_or, Bool.true_or, Bool.or_false, Bool.or_true]; rw [e1]; exact unhide hr, rfl, belowN (by go_grown) _⟩
end Go.Proofs.YtoenjdnccgmhoaaGreatDoor
namespace Go.Proofs.YtoenjdnccgmhoaaGreatDoor
open Go.ChangeShapes Go.WideShapes Go.ChangeAt Go.RowKit
theorem split_c (n : Int) (o h : Bool) (d c : Int) (a v : Bool) (w : World) (hn2 : n ≤ 9223372036854775807) (ok : okB ⟨n, o, h, d⟩)
    (r s : Bun) (hr : Hid (givenB ⟨n, o, h, d⟩ c a v = r)) (hs : Hid (restB ⟨n, o, h, d⟩ c a = s)) :
    Calls Tryz.prog 155 #[.agg #[.int .i64 n, .bool o, .bool h, .int .i64 d], .int .i64 c, .bool a, .bool v] w fun e w' =>
        e = .returned (.tuple #[.agg #[.int .i64 r.n, .bool r.o, .bool r.h, .int .i64 r.d], .agg #[.int .i64 s.n, .bool s.o, .bool s.h, .int .i64 s.d]]) ∧ Below w.heap.size w w' := by
  have h0 : 0 ≤ n := ok.1
  have hb := howMany_bd n o h d c a h0 (fun e => (ok.2.1 e).1)
  by_cases z : howManyZ ⟨n, o, h, d⟩ c a = 0
  · refine (split_none n o h d c a v w (by omega) hn2 z).mono ?_
    rintro e w' ⟨r', s', e1, e2, he, hb⟩
    obtain rfl : r = r' := (unhide hr).symm.trans e1
    obtain rfl : s = s' := (unhide hs).symm.trans e2
    exact ⟨he, hb⟩
  · refine (split_some n o h d c a v w (by omega) hn2 _ z rfl hb.1 hb.2).mono ?_
    rintro e w' ⟨r', s', e1, e2, he, hb⟩
    obtain rfl : r = r' := (unhide hr).symm.trans e1
    obtain rfl : s = s' := (unhide hs).symm.trans e2
    exact ⟨he, hb⟩
theorem join_c (n : Int) (o h : Bool) (d : Int) (n' : Int) (o' h' : Bool) (d' : Int) (w : World) (h1 : -9223372036854775808 ≤ n + n') (h2 : n + n' ≤ 9223372036854775807)
    (r : Bun) (hr : Hid (joinB ⟨n, o, h, d⟩ ⟨n', o', h', d'⟩ = r)) :
    Calls Tryz.prog 152 #[.agg #[.int .i64 n, .bool o, .bool h, .int .i64 d], .agg #[.int .i64 n', .bool o', .bool h', .int .i64 d']] w fun e w' =>
      e = .returned (.agg #[.int .i64 r.n, .bool r.o, .bool r.h, .int .i64 r.d]) ∧ Below w.heap.size w w' := by
  refine (join_any n o h d n' o' h' d' w h1 h2).mono ?_
  rintro e w' ⟨r', e1, he, hb⟩
  obtain rfl : r = r' := (unhide hr).symm.trans e1
  exact ⟨he, hb⟩
end Go.Proofs.YtoenjdnccgmhoaaGreatDoor
namespace Go.Proofs.YtoenjdnccgmhoaaGreatDoor
open Go.ChangeShapes Go.WideShapes Go.ChangeAt Go.RowKit
set_option linter.unusedSimpArgs false
set_option linter.unusedVariables false
attribute [local go_sem, local simp] setCell_drewN alloc_drewN
theorem refCheck_any (n : Int) (o h : Bool) (d t : Int) (w : World) :
    Calls Tryz.prog 67 #[.agg #[.int .i64 n, .bool o, .bool h, .int .i64 d], .int .i64 t] w fun e w' =>
      e = .returned (.int .i64 (checkZ ⟨n, o, h, d⟩ t)) ∧ w' = w.alloc (.cells #[.int .i64 n, .bool o, .bool h, .int .i64 d] 35) := by
  go_enter Tryz.func67, Tryz.ntmps67
  go_wp2
  all_goals go_ret
  all_goals refine ⟨ret_int ?_, ?_⟩
  all_goals first | (unfold checkZ; simp_all <;> omega) | simp_all
theorem ret_ib {a b : Int} {x y : Bool} (h : a = b) (h2 : x = y) : Ending.returned (.tuple #[.int .i64 a, .bool x]) = .returned (.tuple #[.int .i64 b, .bool y]) := by rw [h, h2]
theorem refGiven_any (n : Int) (o h : Bool) (d c : Int) (a : Bool) (w : World) (h0 : 0 ≤ n) (h1 : n ≤ 9223372036854775807) (hz : n = 0 → o = false)
    (g : Int) (hg : Hid (howManyZ ⟨n, o, h, d⟩ c a = g)) (own : Bool) (ho : Hid ((o && a && decide (g ≠ 0)) = own)) :
    Calls Tryz.prog 136 #[.agg #[.int .i64 n, .bool o, .bool h, .int .i64 d], .int .i64 c, .bool a] w fun e w' =>
      e = .returned (.tuple #[.int .i64 g, .bool own]) ∧ w' = w.alloc (.cells #[.int .i64 n, .bool o, .bool h, .int .i64 d] 35) := by
  cases o <;> cases a
  all_goals
    try (have hp : 0 < n := by have : n ≠ 0 := fun e => by have := hz e; contradiction
                               omega)
    clear hz
    go_enter Tryz.func136, Tryz.ntmps136
    go_wp2
    all_goals go_ret2
    all_goals refine ⟨ret_ib ?_ ?_, rfl⟩
    all_goals have hg' := unhide hg
    all_goals have ho' := unhide ho
    all_goals clear hg ho
    all_goals simp [howManyZ, clampZ] at hg' ho' ⊢
    all_goals (repeat' split at hg') <;> simp_all <;> first | omega | (cases own <;> simp at ho' ⊢ <;> omega)
end Go.Proofs.YtoenjdnccgmhoaaGreatDoor
namespace Go.Proofs.YtoenjdnccgmhoaaGreatDoor
open Go.ChangeShapes Go.WideShapes Go.ChangeAt Go.RowKit
set_option linter.unusedSimpArgs false
set_option linter.unusedVariables false
set_option maxRecDepth 10000
attribute [local go_sem, local simp] over_const setCell_drewN alloc_drewN Over.cell Over.frozen lt_s1 lt_s2 lt_s3 le_s0 le_s1 le_s2 le_s3 eq_s0 eq_s1 eq_s2 qe_s0
theorem refNode_c (n bl tt cs cy cc cu ct cp : Int) (x : Int) (w : World) (q : Bool) (hq : Hid (nodeB x n = q)) :
    Calls Tryz.prog 14 #[.agg #[.int .i64 n, .int .i64 bl, .int .i64 tt, .int .i64 cs, .int .i64 cy, .int .i64 cc, .int .i64 cu, .int .i64 ct, .int .i64 cp], .int .i64 x] w fun e w' => e = .returned (.bool q) ∧ Below w.heap.size w w' := by
  have hq' := unhide hq
  clear hq
  by_cases c : 0 ≤ x <;> by_cases c2 : x < n <;> simp [nodeB, c, c2] at hq' <;> subst hq'
  all_goals
    go_enter Tryz.func14, Tryz.ntmps14
    go_wp2
    go_ret
    exact ⟨rfl, by go_grown⟩
theorem refAny_c (n bl tt cs cy cc cu ct cp : Int) (p : Int) (w : World) (q : Bool) (hq : Hid (anyB p n = q)) :
    Calls Tryz.prog 112 #[.agg #[.int .i64 n, .int .i64 bl, .int .i64 tt, .int .i64 cs, .int .i64 cy, .int .i64 cc, .int .i64 cu, .int .i64 ct, .int .i64 cp], .int .i64 p] w fun e w' => e = .returned (.bool q) ∧ Below w.heap.size w w' := by
  have hq' := unhide hq
  clear hq
  obtain ⟨q1, h1⟩ : ∃ q, Hid (nodeB p n = q) := ⟨_, rfl⟩
  unfold anyB at hq'
  rw [unhide h1] at hq'
  by_cases c : p = n <;> simp [c] at hq' <;> subst hq' <;> (try subst c)
  all_goals
    go_enter Tryz.func112, Tryz.ntmps112
    go_wp2_with (go_at_call 14; refine (refNode_c _ _ _ _ _ _ _ _ _ _ _ _ h1).mono ?_; rintro e w' ⟨rfl, hb⟩; obtain ⟨x, rfl⟩ := over hb; clear hb; have f0 := x.upB (w.heap.size))
    go_ret
    refine ⟨by first | rfl | (simp [c]; done), ?_⟩
    all_goals exact belEnd
theorem one_tt (x n : Int) : oneB true true x n = anyB x n := by unfold oneB anyB; cases nodeB x n <;> simp
theorem one_tf (x n : Int) : oneB true false x n = nodeB x n := by unfold oneB; cases nodeB x n <;> simp
theorem one_ft (x n : Int) : oneB false true x n = decide (x = n) := by
  unfold oneB
  cases h : nodeB x n
  · simp
  · have := nodeB_true.1 h; simp; omega
theorem not_eq_b {a b : Int} (h : ¬ a = b) : (a == b) = false := by simpa using h
set_option maxHeartbeats 1000000 in
theorem refEnds1 (n bl tt cs cy cc cu ct cp : Int) (la lb lq ls lw : Int) (lr : Bool) (xn : Int) (xo xh : Bool) (xd : Int) (w : World) (q : Bool) (hq : Hid (wayB (rowL 1) la lb n = q)) :
    Calls Tryz.prog 66 #[.agg #[.int .i64 n, .int .i64 bl, .int .i64 tt, .int .i64 cs, .int .i64 cy, .int .i64 cc, .int .i64 cu, .int .i64 ct, .int .i64 cp], .agg #[.int .i64 1, .int .i64 la, .int .i64 lb, .int .i64 lq, .int .i64 ls, .int .i64 lw, .bool lr, .int .i64 xn, .bool xo, .bool xh, .int .i64 xd]] w fun e w' => e = .returned (.bool q) ∧ Below w.heap.size w w' := by
  have hq' := unhide hq
  clear hq
  have e1 : wayB (rowL 1) la lb n = (anyB la n && anyB lb n && !decide (la = lb)) := by
    rw [← one_tt la n, ← one_tt lb n]; rfl
  rw [e1] at hq'
  clear e1
  obtain ⟨qa, ha⟩ : ∃ q, Hid ((anyB la n) = q) := ⟨_, rfl⟩
  obtain ⟨qb, hb'⟩ : ∃ q, Hid ((anyB lb n) = q) := ⟨_, rfl⟩
  rw [unhide ha, unhide hb'] at hq'
  cases qa <;> cases qb <;> by_cases c : la = lb <;> simp [c] at hq' <;> subst hq'
  all_goals
    try subst c
    go_enter Tryz.func66, Tryz.ntmps66
    go_wp2_with (first | (go_at_call 112; with_reducible refine (refAny_c _ _ _ _ _ _ _ _ _ _ _ _ ha).mono ?_; rintro e w' ⟨rfl, hb⟩; obtain ⟨x, rfl⟩ := over hb; clear hb; have fx := x.upB (w.heap.size); have gx := x.upB (w.heap.size + 1)) | (go_at_call 112; with_reducible refine (refAny_c _ _ _ _ _ _ _ _ _ _ _ _ hb').mono ?_; rintro e w' ⟨rfl, hb⟩; obtain ⟨y, rfl⟩ := over hb; clear hb; have fy := y.upB (w.heap.size); have gy := y.upB (w.heap.size + 1)))
    go_ret
    refine ⟨by first | rfl | (simp [*]; done), ?_⟩
    all_goals exact belEnd
set_option maxHeartbeats 1000000 in
theorem refEnds2 (n bl tt cs cy cc cu ct cp : Int) (la lb lq ls lw : Int) (lr : Bool) (xn : Int) (xo xh : Bool) (xd : Int) (w : World) (q : Bool) (hq : Hid (wayB (rowL 2) la lb n = q)) :
    Calls Tryz.prog 66 #[.agg #[.int .i64 n, .int .i64 bl, .int .i64 tt, .int .i64 cs, .int .i64 cy, .int .i64 cc, .int .i64 cu, .int .i64 ct, .int .i64 cp], .agg #[.int .i64 2, .int .i64 la, .int .i64 lb, .int .i64 lq, .int .i64 ls, .int .i64 lw, .bool lr, .int .i64 xn, .bool xo, .bool xh, .int .i64 xd]] w fun e w' => e = .returned (.bool q) ∧ Below w.heap.size w w' := by
  have hq' := unhide hq
  clear hq
  have e1 : wayB (rowL 2) la lb n = (nodeB la n && anyB lb n && !decide (la = lb)) := by
    rw [← one_tf la n, ← one_tt lb n]; rfl
  rw [e1] at hq'
  clear e1
  obtain ⟨qa, ha⟩ : ∃ q, Hid ((nodeB la n) = q) := ⟨_, rfl⟩
  obtain ⟨qb, hb'⟩ : ∃ q, Hid ((anyB lb n) = q) := ⟨_, rfl⟩
  rw [unhide ha, unhide hb'] at hq'
  cases qa <;> cases qb <;> by_cases c : la = lb <;> simp [c] at hq' <;> subst hq'
  all_goals
    try subst c
    go_enter Tryz.func66, Tryz.ntmps66
    go_wp2_with (first | (go_at_call 14; with_reducible refine (refNode_c _ _ _ _ _ _ _ _ _ _ _ _ ha).mono ?_; rintro e w' ⟨rfl, hb⟩; obtain ⟨x, rfl⟩ := over hb; clear hb; have fx := x.upB (w.heap.size); have gx := x.upB (w.heap.size + 1)) | (go_at_call 112; with_reducible refine (refAny_c _ _ _ _ _ _ _ _ _ _ _ _ hb').mono ?_; rintro e w' ⟨rfl, hb⟩; obtain ⟨y, rfl⟩ := over hb; clear hb; have fy := y.upB (w.heap.size); have gy := y.upB (w.heap.size + 1)))
    go_ret
    refine ⟨by first | rfl | (simp [*]; done), ?_⟩
    all_goals exact belEnd
set_option maxHeartbeats 1000000 in
theorem refEnds3 (n bl tt cs cy cc cu ct cp : Int) (la lb lq ls lw : Int) (lr : Bool) (xn : Int) (xo xh : Bool) (xd : Int) (w : World) (q : Bool) (hq : Hid (wayB (rowL 3) la lb n = q)) :
    Calls Tryz.prog 66 #[.agg #[.int .i64 n, .int .i64 bl, .int .i64 tt, .int .i64 cs, .int .i64 cy, .int .i64 cc, .int .i64 cu, .int .i64 ct, .int .i64 cp], .agg #[.int .i64 3, .int .i64 la, .int .i64 lb, .int .i64 lq, .int .i64 ls, .int .i64 lw, .bool lr, .int .i64 xn, .bool xo, .bool xh, .int .i64 xd]] w fun e w' => e = .returned (.bool q) ∧ Below w.heap.size w w' := by
  have hq' := unhide hq
  clear hq
  have e1 : wayB (rowL 3) la lb n = (nodeB la n && decide (lb = n) && !decide (la = lb)) := by
    rw [← one_tf la n, ← one_ft lb n]; rfl
  rw [e1] at hq'
  clear e1
  obtain ⟨qa, ha⟩ : ∃ q, Hid ((nodeB la n) = q) := ⟨_, rfl⟩
  obtain ⟨qb, hb'⟩ : ∃ q, Hid ((decide (lb = n)) = q) := ⟨_, rfl⟩
  rw [unhide ha, unhide hb'] at hq'
  cases qa <;> cases qb <;> by_cases c : la = lb <;> simp [c] at hq' <;> subst hq'
  all_goals
    try subst c
    have ilb := unhide hb'
    simp only [decide_eq_true_eq, decide_eq_false_iff_not] at ilb
    try have jlb := not_eq_b ilb
    go_enter Tryz.func66, Tryz.ntmps66
    go_wp2_with (first | (go_at_call 14; with_reducible refine (refNode_c _ _ _ _ _ _ _ _ _ _ _ _ ha).mono ?_; rintro e w' ⟨rfl, hb⟩; obtain ⟨x, rfl⟩ := over hb; clear hb; have fx := x.upB (w.heap.size); have gx := x.upB (w.heap.size + 1)))
    go_ret
    refine ⟨by first | rfl | (simp [*]; done), ?_⟩
    all_goals exact belEnd
set_option maxHeartbeats 1000000 in
theorem refEnds4 (n bl tt cs cy cc cu ct cp : Int) (la lb lq ls lw : Int) (lr : Bool) (xn : Int) (xo xh : Bool) (xd : Int) (w : World) (q : Bool) (hq : Hid (wayB (rowL 4) la lb n = q)) :
    Calls Tryz.prog 66 #[.agg #[.int .i64 n, .int .i64 bl, .int .i64 tt, .int .i64 cs, .int .i64 cy, .int .i64 cc, .int .i64 cu, .int .i64 ct, .int .i64 cp], .agg #[.int .i64 4, .int .i64 la, .int .i64 lb, .int .i64 lq, .int .i64 ls, .int .i64 lw, .bool lr, .int .i64 xn, .bool xo, .bool xh, .int .i64 xd]] w fun e w' => e = .returned (.bool q) ∧ Below w.heap.size w w' := by
  have hq' := unhide hq
  clear hq
  have e1 : wayB (rowL 4) la lb n = (decide (la = n) && nodeB lb n && !decide (la = lb)) := by
    rw [← one_ft la n, ← one_tf lb n]; rfl
  rw [e1] at hq'
  clear e1
  obtain ⟨qa, ha⟩ : ∃ q, Hid ((decide (la = n)) = q) := ⟨_, rfl⟩
  obtain ⟨qb, hb'⟩ : ∃ q, Hid ((nodeB lb n) = q) := ⟨_, rfl⟩
  rw [unhide ha, unhide hb'] at hq'
  cases qa <;> cases qb <;> by_cases c : la = lb <;> simp [c] at hq' <;> subst hq'
  all_goals
    try subst c
    have ila := unhide ha
    simp only [decide_eq_true_eq, decide_eq_false_iff_not] at ila
    try have jla := not_eq_b ila
    go_enter Tryz.func66, Tryz.ntmps66
    go_wp2_with (first | (go_at_call 14; with_reducible refine (refNode_c _ _ _ _ _ _ _ _ _ _ _ _ hb').mono ?_; rintro e w' ⟨rfl, hb⟩; obtain ⟨y, rfl⟩ := over hb; clear hb; have fy := y.upB (w.heap.size); have gy := y.upB (w.heap.size + 1)))
    go_ret
    refine ⟨by first | rfl | (simp [*]; done), ?_⟩
    all_goals exact belEnd
set_option maxHeartbeats 1000000 in
theorem refEnds5 (n bl tt cs cy cc cu ct cp : Int) (la lb lq ls lw : Int) (lr : Bool) (xn : Int) (xo xh : Bool) (xd : Int) (w : World) (q : Bool) (hq : Hid (wayB (rowL 5) la lb n = q)) :
    Calls Tryz.prog 66 #[.agg #[.int .i64 n, .int .i64 bl, .int .i64 tt, .int .i64 cs, .int .i64 cy, .int .i64 cc, .int .i64 cu, .int .i64 ct, .int .i64 cp], .agg #[.int .i64 5, .int .i64 la, .int .i64 lb, .int .i64 lq, .int .i64 ls, .int .i64 lw, .bool lr, .int .i64 xn, .bool xo, .bool xh, .int .i64 xd]] w fun e w' => e = .returned (.bool q) ∧ Below w.heap.size w w' := by
  have hq' := unhide hq
  clear hq
  have e1 : wayB (rowL 5) la lb n = (nodeB la n && decide (lb = n) && !decide (la = lb)) := by
    rw [← one_tf la n, ← one_ft lb n]; rfl
  rw [e1] at hq'
  clear e1
  obtain ⟨qa, ha⟩ : ∃ q, Hid ((nodeB la n) = q) := ⟨_, rfl⟩
  obtain ⟨qb, hb'⟩ : ∃ q, Hid ((decide (lb = n)) = q) := ⟨_, rfl⟩
  rw [unhide ha, unhide hb'] at hq'
  cases qa <;> cases qb <;> by_cases c : la = lb <;> simp [c] at hq' <;> subst hq'
  all_goals
    try subst c
    have ilb := unhide hb'
    simp only [decide_eq_true_eq, decide_eq_false_iff_not] at ilb
    try have jlb := not_eq_b ilb
    go_enter Tryz.func66, Tryz.ntmps66
    go_wp2_with (first | (go_at_call 14; with_reducible refine (refNode_c _ _ _ _ _ _ _ _ _ _ _ _ ha).mono ?_; rintro e w' ⟨rfl, hb⟩; obtain ⟨x, rfl⟩ := over hb; clear hb; have fx := x.upB (w.heap.size); have gx := x.upB (w.heap.size + 1)))
    go_ret
    refine ⟨by first | rfl | (simp [*]; done), ?_⟩
    all_goals exact belEnd
set_option maxHeartbeats 1000000 in
theorem refEnds6 (n bl tt cs cy cc cu ct cp : Int) (la lb lq ls lw : Int) (lr : Bool) (xn : Int) (xo xh : Bool) (xd : Int) (w : World) (q : Bool) (hq : Hid (wayB (rowL 6) la lb n = q)) :
    Calls Tryz.prog 66 #[.agg #[.int .i64 n, .int .i64 bl, .int .i64 tt, .int .i64 cs, .int .i64 cy, .int .i64 cc, .int .i64 cu, .int .i64 ct, .int .i64 cp], .agg #[.int .i64 6, .int .i64 la, .int .i64 lb, .int .i64 lq, .int .i64 ls, .int .i64 lw, .bool lr, .int .i64 xn, .bool xo, .bool xh, .int .i64 xd]] w fun e w' => e = .returned (.bool q) ∧ Below w.heap.size w w' := by
  have hq' := unhide hq
  clear hq
  have e1 : wayB (rowL 6) la lb n = (decide (la = n) && nodeB lb n && !decide (la = lb)) := by
    rw [← one_ft la n, ← one_tf lb n]; rfl
  rw [e1] at hq'
  clear e1
  obtain ⟨qa, ha⟩ : ∃ q, Hid ((decide (la = n)) = q) := ⟨_, rfl⟩
  obtain ⟨qb, hb'⟩ : ∃ q, Hid ((nodeB lb n) = q) := ⟨_, rfl⟩
  rw [unhide ha, unhide hb'] at hq'
  cases qa <;> cases qb <;> by_cases c : la = lb <;> simp [c] at hq' <;> subst hq'
  all_goals
    try subst c
    have ila := unhide ha
    simp only [decide_eq_true_eq, decide_eq_false_iff_not] at ila
    try have jla := not_eq_b ila
    go_enter Tryz.func66, Tryz.ntmps66
    go_wp2_with (first | (go_at_call 14; with_reducible refine (refNode_c _ _ _ _ _ _ _ _ _ _ _ _ hb').mono ?_; rintro e w' ⟨rfl, hb⟩; obtain ⟨y, rfl⟩ := over hb; clear hb; have fy := y.upB (w.heap.size); have gy := y.upB (w.heap.size + 1)))
    go_ret
    refine ⟨by first | rfl | (simp [*]; done), ?_⟩
    all_goals exact belEnd
set_option maxHeartbeats 1000000 in
theorem refEnds7 (n bl tt cs cy cc cu ct cp : Int) (la lb lq ls lw : Int) (lr : Bool) (xn : Int) (xo xh : Bool) (xd : Int) (w : World) (q : Bool) (hq : Hid (wayB (rowL 7) la lb n = q)) :
    Calls Tryz.prog 66 #[.agg #[.int .i64 n, .int .i64 bl, .int .i64 tt, .int .i64 cs, .int .i64 cy, .int .i64 cc, .int .i64 cu, .int .i64 ct, .int .i64 cp], .agg #[.int .i64 7, .int .i64 la, .int .i64 lb, .int .i64 lq, .int .i64 ls, .int .i64 lw, .bool lr, .int .i64 xn, .bool xo, .bool xh, .int .i64 xd]] w fun e w' => e = .returned (.bool q) ∧ Below w.heap.size w w' := by
  have hq' := unhide hq
  clear hq
  have e1 : wayB (rowL 7) la lb n = (nodeB la n && decide (lb = n) && !decide (la = lb)) := by
    rw [← one_tf la n, ← one_ft lb n]; rfl
  rw [e1] at hq'
  clear e1
  obtain ⟨qa, ha⟩ : ∃ q, Hid ((nodeB la n) = q) := ⟨_, rfl⟩
  obtain ⟨qb, hb'⟩ : ∃ q, Hid ((decide (lb = n)) = q) := ⟨_, rfl⟩
  rw [unhide ha, unhide hb'] at hq'
  cases qa <;> cases qb <;> by_cases c : la = lb <;> simp [c] at hq' <;> subst hq'
  all_goals
    try subst c
    have ilb := unhide hb'
    simp only [decide_eq_true_eq, decide_eq_false_iff_not] at ilb
    try have jlb := not_eq_b ilb
    go_enter Tryz.func66, Tryz.ntmps66
    go_wp2_with (first | (go_at_call 14; with_reducible refine (refNode_c _ _ _ _ _ _ _ _ _ _ _ _ ha).mono ?_; rintro e w' ⟨rfl, hb⟩; obtain ⟨x, rfl⟩ := over hb; clear hb; have fx := x.upB (w.heap.size); have gx := x.upB (w.heap.size + 1)))
    go_ret
    refine ⟨by first | rfl | (simp [*]; done), ?_⟩
    all_goals exact belEnd
end Go.Proofs.YtoenjdnccgmhoaaGreatDoor
