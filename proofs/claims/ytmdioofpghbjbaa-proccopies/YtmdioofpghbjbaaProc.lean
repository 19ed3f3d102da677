/- A processor in memory; the contracts of package proc (layer 14). -/
import Derived.Test.YtmdioofpghbjbaaPrMath
import Derived.Test.YtmdioofpghbjbaaTimAt
import Derived.Test.YtmdioofpghbjbaaHand2
namespace Go.Proofs.Ytmdioofpghbjbaa
open Go.ChangeShapes Go.WideShapes Go.ChangeAt Go.RowKit
set_option linter.unusedSimpArgs false
set_option linter.unusedVariables false
set_option maxRecDepth 10000

attribute [local go_sem, local simp] over_const setCell_drewN alloc_drewN Over.cell Over.frozen lt_s1 lt_s2 lt_s3 le_s0 le_s1 le_s2 le_s3 eq_s0 eq_s1 eq_s2 qe_s0

abbrev prC (wa tr : Int) (P : Pm) : Array Value := #[.int .i64 wa, .int .i64 tr, .int .i64 P.k, .int .i64 P.l, .int .i64 P.t, .bool P.o, .int .i64 P.op.b, .bool P.op.w, .int .i64 P.op.v, .bool P.busy]

/-- A processor in block p. -/
structure PrIs (w : World) (p : Nat) (wa tr : Int) (P : Pm) : Prop where
  inv : PInv wa tr P
  ob : w.heap[p]? = some (.cells (prC wa tr P) 56 (0, 0))

section
variable {w w' : World} {p : Nat} {wa tr : Int} {P : Pm}
theorem PrIs.lt (h : PrIs w p wa tr P) : p < w.heap.size := (Array.getElem?_eq_some_iff.1 h.ob).1
theorem PrIs.carry (h : PrIs w p wa tr P) (e : w'.heap[p]? = w.heap[p]?) : PrIs w' p wa tr P := ⟨h.inv, e.trans h.ob⟩
theorem PrIs.below (h : PrIs w p wa tr P) (hb : Below w.heap.size w w') : PrIs w' p wa tr P := h.carry (hb.block p h.lt)
theorem PrIs.fr {F : Nat → Prop} (h : PrIs w p wa tr P) (hf : FrS F w w') (hn : ¬ F p) : PrIs w' p wa tr P := h.carry (hf.block p h.lt hn)
theorem PrIs.alloc (h : PrIs w p wa tr P) (x : Obj) : PrIs (w.alloc x) p wa tr P := h.below ((Below.refl _ _).alloc (Nat.le_refl _) _)
end

/-- What lies in the block, cell by cell. -/
structure PrAt (w : World) (p : Nat) (wa tr k l t : Int) (o : Bool) (b : Int) (ow : Bool) (v : Int) (busy : Bool) : Prop where
  lt : p < w.heap.size
  c0 : w.cell? ⟨p, 0, none⟩ = some (.int .i64 wa)
  c1 : w.cell? ⟨p, 1, none⟩ = some (.int .i64 tr)
  c2 : w.cell? ⟨p, 2, none⟩ = some (.int .i64 k)
  c3 : w.cell? ⟨p, 3, none⟩ = some (.int .i64 l)
  c4 : w.cell? ⟨p, 4, none⟩ = some (.int .i64 t)
  c5 : w.cell? ⟨p, 5, none⟩ = some (.bool o)
  c6 : w.cell? ⟨p, 6, none⟩ = some (.int .i64 b)
  c7 : w.cell? ⟨p, 7, none⟩ = some (.bool ow)
  c8 : w.cell? ⟨p, 8, none⟩ = some (.int .i64 v)
  c9 : w.cell? ⟨p, 9, none⟩ = some (.bool busy)
  fz : ∀ i, w.frozen? ⟨p, i, none⟩ = false

theorem PrIs.at' {w : World} {p : Nat} {wa tr k l t : Int} {o : Bool} {b : Int} {ow : Bool} {v : Int} {busy : Bool} (h : PrIs w p wa tr ⟨k, l, t, o, ⟨b, ow, v⟩, busy⟩) : PrAt w p wa tr k l t o b ow v busy :=
  ⟨h.lt, cell_of_row _ _ _ _ _ _ h.ob, cell_of_row _ _ _ _ _ _ h.ob, cell_of_row _ _ _ _ _ _ h.ob, cell_of_row _ _ _ _ _ _ h.ob, cell_of_row _ _ _ _ _ _ h.ob, cell_of_row _ _ _ _ _ _ h.ob, cell_of_row _ _ _ _ _ _ h.ob, cell_of_row _ _ _ _ _ _ h.ob, cell_of_row _ _ _ _ _ _ h.ob, cell_of_row _ _ _ _ _ _ h.ob, fun i => frozen_of_row _ _ _ _ _ h.ob⟩

theorem ob_set {w : World} {p i : Nat} {cs : Array Value} {T : TypeId} (h : w.heap[p]? = some (.cells cs T (0, 0))) (v : Value) : (w.setCell ⟨p, i, none⟩ v).heap[p]? = some (.cells (cs.setIfInBounds i v) T (0, 0)) := Go.heap_setCell_same w p i cs T v h
theorem wrP {p : Nat} {a b : World} (h : FrS (· = p) a b) {o : Nat} (u : Value) : FrS (· = p) a (b.setCell ⟨p, o, none⟩ u) := h.setCell (q := ⟨p, o, none⟩) (.inl rfl) u

abbrev setT (w : World) (p o : Nat) (l t : Int) (ov : Bool) : World := ((w.setCell ⟨p, o, none⟩ (.int .i64 l)).setCell ⟨p, o + 1, none⟩ (.int .i64 t)).setCell ⟨p, o + 2, none⟩ (.bool ov)
abbrev setO (w : World) (p o : Nat) (x : Op3) : World := ((w.setCell ⟨p, o, none⟩ (.int .i64 x.b)).setCell ⟨p, o + 1, none⟩ (.bool x.w)).setCell ⟨p, o + 2, none⟩ (.int .i64 x.v)

section
variable {w : World} {p : Nat} {wa tr : Int} {P : Pm}
theorem PrIs.timer (h : PrIs w p wa tr P) (l t : Int) (o : Bool) (hi : PInv wa tr ⟨P.k, l, t, o, P.op, P.busy⟩) : PrIs (setT w p 3 l t o) p wa tr ⟨P.k, l, t, o, P.op, P.busy⟩ ∧ FrS (· = p) w (setT w p 3 l t o) :=
  ⟨⟨hi, by have h1 := h.ob; replace h1 := ob_set (i := 3) h1 (.int .i64 l); replace h1 := ob_set (i := 4) h1 (.int .i64 t); replace h1 := ob_set (i := 5) h1 (.bool o); simp only [prC, List.setIfInBounds_toArray, List.set_cons_zero, List.set_cons_succ] at h1; exact h1⟩, wrP (wrP (wrP (FrS.refl _ _) _) _) _⟩
theorem PrIs.wanted (h : PrIs w p wa tr P) (l t : Int) (o : Bool) (x : Op3) (busy : Bool) (hi : PInv wa tr ⟨P.k, l, t, o, x, busy⟩) :
    PrIs ((setO (setT w p 3 l t o) p 6 x).setCell ⟨p, 9, none⟩ (.bool busy)) p wa tr ⟨P.k, l, t, o, x, busy⟩ ∧ FrS (· = p) w ((setO (setT w p 3 l t o) p 6 x).setCell ⟨p, 9, none⟩ (.bool busy)) :=
  ⟨⟨hi, by have h1 := h.ob; replace h1 := ob_set (i := 3) h1 (.int .i64 l); replace h1 := ob_set (i := 4) h1 (.int .i64 t); replace h1 := ob_set (i := 5) h1 (.bool o); replace h1 := ob_set (i := 6) h1 (.int .i64 x.b); replace h1 := ob_set (i := 7) h1 (.bool x.w); replace h1 := ob_set (i := 8) h1 (.int .i64 x.v); replace h1 := ob_set (i := 9) h1 (.bool busy); simp only [prC, List.setIfInBounds_toArray, List.set_cons_zero, List.set_cons_succ] at h1; exact h1⟩, wrP (wrP (wrP (wrP (wrP (wrP (wrP (FrS.refl _ _) _) _) _) _) _) _) _⟩
theorem PrIs.number (h : PrIs w p wa tr P) (k : Int) (hi : PInv wa tr ⟨k, P.l, P.t, P.o, P.op, P.busy⟩) : PrIs (w.setCell ⟨p, 2, none⟩ (.int .i64 k)) p wa tr ⟨k, P.l, P.t, P.o, P.op, P.busy⟩ ∧ FrS (· = p) w (w.setCell ⟨p, 2, none⟩ (.int .i64 k)) :=
  ⟨⟨hi, by have h1 := h.ob; replace h1 := ob_set (i := 2) h1 (.int .i64 k); simp only [prC, List.setIfInBounds_toArray, List.set_cons_zero, List.set_cons_succ] at h1; exact h1⟩, wrP (FrS.refl _ _) _⟩
end

set_option maxHeartbeats 1000000 in
theorem pNew_c (wa tr : Int) (w : World) (h1 : wa ≤ 9223372036854775807) (h2 : tr ≤ 9223372036854775807) : Calls Try.prog 9 #[.int .i64 wa, .int .i64 tr] w fun e w' => ∃ p, e = .returned (ptr p) ∧ PrIs w' p wa tr pm0 ∧ w.heap.size ≤ p ∧ Below w.heap.size w w' := by
  go_enter Try.func9, Try.ntmps9
  go_wp2_with fail
  go_ret
  exact ⟨w.heap.size, rfl, ⟨pinv0 h1 h2, heap_alloc_new _ _⟩, Nat.le_refl _, by repeat' first | with_reducible exact Below.refl _ _ | with_reducible refine Below.setCell ?_ ?_ _ | with_reducible refine Below.alloc ?_ ?_ _ | with_reducible refine Below.drew ?_ | with_reducible refine belowN ?_ _ | with_reducible refine Over.go _ ?_ ?_ | with_reducible exact Nat.le_refl _ | with_reducible refine Over.sz _ _ ?_ | with_reducible refine le_alloc ?_ | with_reducible refine le_setCell ?_ | with_reducible refine le_drewN ?_ | with_reducible refine le_drew ?_ | omega | (dsimp only; omega)⟩

theorem pPin_c (p : Nat) (wa tr : Int) (P : Pm) (w : World) (h : PrIs w p wa tr P) (r : Int) (hr : Hid (pinP P = r)) : Calls Try.prog 18 #[ptr p] w fun e w' => e = .returned (.int .i64 r) ∧ w' = w := by
  have hr' := hr.out
  clear hr
  obtain ⟨k, l, t, o, ⟨b, ow, v⟩, busy⟩ := P
  obtain ⟨hl, c0, c1, c2, c3, c4, c5, c6, c7, c8, c9, fz⟩ := h.at'
  clear h
  cases busy
  · obtain rfl : -1 = r := hr'
    go_enter Try.func18, Try.ntmps18
    go_wp2_with fail
    go_ret
    exact ⟨rfl, rfl⟩
  · obtain rfl : b = r := hr'
    go_enter Try.func18, Try.ntmps18
    go_wp2_with fail
    go_ret
    exact ⟨rfl, rfl⟩

set_option maxHeartbeats 1000000 in
theorem pCopy_c (p : Nat) (wa tr : Int) (P : Pm) (w : World) (h : PrIs w p wa tr P) : Calls Try.prog 16 #[ptr p] w fun e w' => ∃ c, e = .returned (ptr c) ∧ PrIs w' c wa tr P ∧ w.heap.size ≤ c ∧ Below w.heap.size w w' := by
  have hi := hide h.inv
  obtain ⟨k, l, t, o, ⟨b, ow, v⟩, busy⟩ := P
  obtain ⟨hl, c0, c1, c2, c3, c4, c5, c6, c7, c8, c9, fz⟩ := h.at'
  clear h
  go_enter Try.func16, Try.ntmps16
  go_wp2_with fail
  go_ret
  refine ⟨w.heap.size, rfl, ⟨hi.out, ?_⟩, Nat.le_refl _, by repeat' first | with_reducible exact Below.refl _ _ | with_reducible refine Below.setCell ?_ ?_ _ | with_reducible refine Below.alloc ?_ ?_ _ | with_reducible refine Below.drew ?_ | with_reducible refine belowN ?_ _ | with_reducible refine Over.go _ ?_ ?_ | with_reducible exact Nat.le_refl _ | with_reducible refine Over.sz _ _ ?_ | with_reducible refine le_alloc ?_ | with_reducible refine le_setCell ?_ | with_reducible refine le_drewN ?_ | with_reducible refine le_drew ?_ | omega | (dsimp only; omega)⟩
  exact heap_alloc_new _ _

set_option maxHeartbeats 1000000 in
theorem pFin_c (p : Nat) (wa tr : Int) (P : Pm) (w : World) (h : PrIs w p wa tr P) (hk : P.k < 100000) (n : Int) (hn : Hid (numF P = n)) (ok : Bool) (hok : Hid (P.busy = ok)) : Calls Try.prog 12 #[ptr p] w fun e w' => e = .returned (.tuple #[.int .i64 n, .bool ok]) ∧ PrIs w' p wa tr (nxF P) ∧ FrS (· = p) w w' := by
  have hn' := hn.out
  have hok' := hok.out
  have hI := hide (h.inv.fin hk)
  have hH := hide h
  have hk0 := h.inv.k0
  clear hn hok
  obtain ⟨k, l, t, o, ⟨b, ow, v⟩, busy⟩ := P
  obtain ⟨hl, c0, c1, c2, c3, c4, c5, c6, c7, c8, c9, fz⟩ := h.at'
  obtain rfl : busy = ok := hok'
  clear h
  dsimp only at hk hk0
  cases busy
  · obtain rfl : 0 = n := hn'
    go_enter Try.func12, Try.ntmps12
    go_wp2_with fail
    go_ret2
    exact ⟨rfl, hH.out, FrS.refl _ _⟩
  · obtain rfl : k + 1 = n := hn'
    go_enter Try.func12, Try.ntmps12
    go_wp2_with fail
    go_ret2
    have h1 := (hH.out).wanted 0 0 false op30 false ⟨hH.out.inv.wb, hH.out.inv.rb, hH.out.inv.k0, hH.out.inv.k1, by dsimp only; omega, by dsimp only; omega⟩
    have h2 := h1.1.number (k + 1) hI.out
    exact ⟨rfl, h2.1, h1.2.trans h2.2 (fun _ e => .inl e)⟩
end Go.Proofs.Ytmdioofpghbjbaa
