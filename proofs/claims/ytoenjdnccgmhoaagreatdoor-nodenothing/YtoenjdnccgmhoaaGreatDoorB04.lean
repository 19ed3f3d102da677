/- layer 15: Drew Over FrSet AtBase PrMath BunAt, put together. -/
import Derived.WalkKit
import Derived.ProofKit
import Derived.OpenShut
import Derived.Below
import Derived.Handy
import Derived.Deep.QuietTactic
import Derived.BigQuiet
import Derived.Test.YtoenjdnccgmhoaaGreatDoorB02
namespace Go.Proofs.YtoenjdnccgmhoaaGreatDoor
open Go.ChangeShapes Go.WideShapes Go.ChangeAt Go.RowKit
theorem belowN {B : Nat} {a w : World} (h : Below B a w) (n : Nat) : Below B a (w.drewN n) := h.trans ⟨rfl, rfl, rfl, Nat.le_refl _, fun _ _ => rfl⟩
theorem setCell_drewN (w : World) (n : Nat) (a : Addr) (v : Value) : (w.drewN n).setCell a v = (w.setCell a v).drewN n := rfl
theorem alloc_drewN (w : World) (n : Nat) (o : Obj) : (w.drewN n).alloc o = (w.alloc o).drewN n := rfl
structure Over (W : World) where
  w : World
  below : Below W.heap.size W w
theorem over_const {W : World} {p : Prop} : (Over W → p) ↔ p := ⟨fun h => h ⟨W, Below.refl _ _⟩, fun h _ => h⟩
theorem over {W w' : World} (h : Below W.heap.size W w') : ∃ x : Over W, w' = x.w := ⟨⟨w', h⟩, rfl⟩
section
variable {W : World} (x : Over W) (b o : Nat)
theorem Over.cell (h : b < W.heap.size) : x.w.cell? ⟨b, o, none⟩ = W.cell? ⟨b, o, none⟩ := x.below.cell (p := ⟨b, o, none⟩) h
theorem Over.frozen (h : b < W.heap.size) : x.w.frozen? ⟨b, o, none⟩ = W.frozen? ⟨b, o, none⟩ := x.below.frozen (p := ⟨b, o, none⟩) h
theorem Over.up (h : b < W.heap.size) : b < x.w.heap.size := Nat.lt_of_lt_of_le h x.below.size
theorem Over.upB (h : b < W.heap.size := by first | omega | (simp only [World.size_alloc]; omega) | (simp; done) | (simp; omega)) : b < x.w.heap.size := x.up b h
theorem Over.go {B : Nat} {a : World} (h : Below B a W) (hB : B ≤ W.heap.size) : Below B a x.w := h.trans (x.below.mono hB)
theorem Over.sz (k : Nat) (h : k ≤ W.heap.size) : k ≤ x.w.heap.size := Nat.le_trans h x.below.size
end
section
variable {b s : Nat}
theorem lt_s1 (h : b < s) : (b < s + 1) = True := by simp; omega
theorem lt_s2 (h : b < s) : (b < s + 1 + 1) = True := by simp; omega
theorem lt_s3 (h : b < s) : (b < s + 1 + 1 + 1) = True := by simp; omega
theorem lt_s4 (h : b < s) : (b < s + 1 + 1 + 1 + 1) = True := by simp; omega
theorem le_s0 (h : b < s) : (b ≤ s) = True := by simp; omega
theorem le_s1 (h : b < s) : (b ≤ s + 1) = True := by simp; omega
theorem le_s2 (h : b < s) : (b ≤ s + 1 + 1) = True := by simp; omega
theorem le_s3 (h : b < s) : (b ≤ s + 1 + 1 + 1) = True := by simp; omega
theorem eq_s0 (h : b < s) : (b = s) = False := by simp; omega
theorem eq_s1 (h : b < s) : (b = s + 1) = False := by simp; omega
theorem eq_s2 (h : b < s) : (b = s + 1 + 1) = False := by simp; omega
theorem qe_s0 (h : b < s) : (s = b) = False := by simp; omega
end
theorem over2 {W : World} {x : Over W} {w' : World} (h : Below x.w.heap.size x.w w') : ∃ y : Over W, w' = y.w := ⟨⟨w', x.below.trans (h.mono x.below.size)⟩, rfl⟩
theorem overD {W w' : World} (h : Below W.drew.heap.size W.drew w') : ∃ x : Over W, w' = x.w := ⟨⟨w', ((Below.refl _ _).drew).trans h⟩, rfl⟩
theorem le_alloc {B : Nat} {w : World} {o : Obj} (h : B ≤ w.heap.size) : B ≤ (w.alloc o).heap.size := by simp; omega
theorem le_setCell {B : Nat} {w : World} {a : Addr} {v : Value} (h : B ≤ w.heap.size) : B ≤ (w.setCell a v).heap.size := by simpa using h
theorem le_drewN {B : Nat} {w : World} {n : Nat} (h : B ≤ w.heap.size) : B ≤ (w.drewN n).heap.size := h
theorem le_drew {B : Nat} {w : World} (h : B ≤ w.heap.size) : B ≤ w.drew.heap.size := h
theorem belEnd {p : Prop} (h : p := by repeat' first | with_reducible exact Below.refl _ _ | with_reducible refine Below.setCell ?_ ?_ _ | with_reducible refine Below.alloc ?_ ?_ _ | with_reducible refine Below.drew ?_ | with_reducible refine belowN ?_ _ | with_reducible refine Over.go _ ?_ ?_ | with_reducible exact Nat.le_refl _ | with_reducible refine Over.sz _ _ ?_ | with_reducible refine le_alloc ?_ | with_reducible refine le_setCell ?_ | with_reducible refine le_drewN ?_ | with_reducible refine le_drew ?_ | omega | (dsimp only; omega)) : p := h
theorem wp_region_over {P : Program} {id : Nat} {Q : Exit → Act → World → Prop} {a : Act} {w : World} {l : List Oper} (hm : P.follows .mixedOrders = true) (hB : Region.lexB .any l.toArray = true)
    (h : wpQuiet P l.toArray (fun w' => ∃ x : Over w, w' = x.w) (fun a' => ∀ w', (∃ x : Over w, w' = x.w) → Q .normal a' w') l a) : (Code.region id l.toArray true).wp P Q a w :=
  wp_region_quiet (C := fun w' => ∃ x : Over w, w' = x.w) hm hB ⟨⟨w.drew, (Below.refl _ _).drew⟩, rfl⟩ (by simpa using h)
theorem Over.quiet {P : Program} {f : FuncId} {args : Array Value} {W : World} {x : Over W} {v : Value}
    (h : Calls P f args x.w fun e w' => e = .returned v ∧ Below x.w.heap.size x.w w') : Calls P f args x.w fun e w'' => e = .returned v ∧ ∃ y : Over W, w'' = y.w :=
  h.mono fun _ w'' ⟨he, hb⟩ => ⟨he, ⟨w'', x.below.trans (hb.mono x.below.size)⟩, rfl⟩
end Go.Proofs.YtoenjdnccgmhoaaGreatDoor
namespace Go.Proofs.YtoenjdnccgmhoaaGreatDoor
open Go.ChangeShapes Go.WideShapes Go.ChangeAt Go.RowKit
set_option linter.unusedSimpArgs false
set_option linter.unusedVariables false
set_option maxRecDepth 10000
attribute [local go_sem, local simp] over_const setCell_drewN alloc_drewN Over.cell Over.frozen lt_s1 lt_s2 lt_s3 le_s0 le_s1 le_s2 le_s3 eq_s0 eq_s1 eq_s2 qe_s0
abbrev ptr (p : Nat) : Value := .pointer (some ⟨p, 0, none⟩)
def I64 (x : Int) : Prop := -9223372036854775808 ≤ x ∧ x ≤ 9223372036854775807
structure FrS (F : Nat → Prop) (w w' : World) : Prop where
  os : w'.os = w.os
  tape : w'.tape = w.tape
  output : w'.output = w.output
  size : w.heap.size ≤ w'.heap.size
  block : ∀ k, k < w.heap.size → ¬ F k → w'.heap[k]? = w.heap[k]?
theorem FrS.refl (F : Nat → Prop) (w : World) : FrS F w w := ⟨rfl, rfl, rfl, Nat.le_refl _, fun _ _ _ => rfl⟩
theorem FrS.trans {F G : Nat → Prop} {a b c : World} (h : FrS F a b) (k : FrS G b c) (hG : ∀ i, G i → F i ∨ a.heap.size ≤ i) : FrS F a c :=
  ⟨k.os.trans h.os, k.tape.trans h.tape, k.output.trans h.output, Nat.le_trans h.size k.size, fun i hi h1 => (k.block i (Nat.lt_of_lt_of_le hi h.size) (fun hg => (hG i hg).elim h1 (fun h2 => by omega))).trans (h.block i hi h1)⟩
theorem FrS.mono {F G : Nat → Prop} {a b : World} (h : FrS F a b) (hG : ∀ i, i < a.heap.size → F i → G i) : FrS G a b := ⟨h.os, h.tape, h.output, h.size, fun i hi h1 => h.block i hi (fun hf => h1 (hG i hi hf))⟩
theorem FrS.of_below {F : Nat → Prop} {a b : World} (h : Below a.heap.size a b) : FrS F a b := ⟨h.os, h.tape, h.output, h.size, fun k hk _ => h.block k hk⟩
theorem FrS.below {F : Nat → Prop} {B : Nat} {a b : World} (h : FrS F a b) (hF : ∀ i, F i → B ≤ i) (hB : B ≤ a.heap.size) : Below B a b := ⟨h.os, h.tape, h.output, h.size, fun k hk => h.block k (by omega) (fun hf => by have := hF k hf; omega)⟩
theorem FrS.grown {b : Nat} {w w' : World} (h : w.grownBy w' (some b)) : FrS (· = b) w w' := ⟨h.os, h.tape, h.output, h.size, fun k hk hn => h.block k hk (by simpa using hn)⟩
theorem FrS.setCell {F : Nat → Prop} {a b : World} (h : FrS F a b) {q : Addr} (hq : F q.block ∨ a.heap.size ≤ q.block) (u : Value) : FrS F a (b.setCell q u) :=
  ⟨h.os, h.tape, h.output, by simpa using h.size, fun k hk h1 => (Below.heap_setCell _ _ _ _ (by rintro rfl; rcases hq with hq | hq; exact h1 hq; omega)).trans (h.block k hk h1)⟩
theorem FrS.alloc {F : Nat → Prop} {a b : World} (h : FrS F a b) (o : Obj) : FrS F a (b.alloc o) :=
  h.trans (G := F) ⟨rfl, rfl, rfl, by simp, fun k hk _ => Below.heap_alloc _ _ _ hk⟩ (fun _ h => .inl h)
theorem FrS.drew {F : Nat → Prop} {a b : World} (h : FrS F a b) : FrS F a b.drew := ⟨h.os, h.tape, h.output, h.size, h.block⟩
theorem FrS.cell {F : Nat → Prop} {a b : World} (h : FrS F a b) {k o : Nat} (hk : k < a.heap.size) (h1 : ¬ F k) : b.cell? ⟨k, o, none⟩ = a.cell? ⟨k, o, none⟩ := World.cell?_of_block (w := a) (h.block k hk h1)
theorem FrS.frozen {F : Nat → Prop} {a b : World} (h : FrS F a b) {k o : Nat} (hk : k < a.heap.size) (h1 : ¬ F k) : b.frozen? ⟨k, o, none⟩ = a.frozen? ⟨k, o, none⟩ := World.frozen?_of_block (w := a) (h.block k hk h1)
theorem setCells_frS (g : Nat) : ∀ (vs : List Value) (o : Nat) (w : World), FrS (· = g) w (w.setCells g o vs)
  | [], _, w => FrS.refl _ _
  | v :: r, o, w => ((FrS.refl (· = g) w).setCell (q := ⟨g, o, none⟩) (.inl rfl) v).trans (setCells_frS g r (o + 1) (w.setCell ⟨g, o, none⟩ v)) (fun _ h => .inl h)
structure AppP (w w' : World) (v v' : Value) (g g' : Nat) : Prop where
  fr : FrS (· = g) w w'
  nil : v = .slice none 0 0 → Below w.heap.size w w'
  lies : g' = g ∨ w.heap.size ≤ g'
  keep : g' = g → v = .slice none 0 0 → v' = .slice none 0 0
theorem block_lt {w w' : World} {b : Nat} (h : b < w.heap.size) (e : w'.heap[b]? = w.heap[b]?) : b < w'.heap.size := by
  rw [Array.getElem?_eq_getElem h] at e
  exact (Array.getElem?_eq_some_iff.1 e).1
theorem keep_cell {w w' : World} {b o : Nat} {v : Option Value} (e : w'.heap[b]? = w.heap[b]?) (h : w.cell? ⟨b, o, none⟩ = v) : w'.cell? ⟨b, o, none⟩ = v := (World.cell?_of_block (w := w) e).trans h
theorem keep_frozen {w w' : World} {b o : Nat} {v : Bool} (e : w'.heap[b]? = w.heap[b]?) (h : w.frozen? ⟨b, o, none⟩ = v) : w'.frozen? ⟨b, o, none⟩ = v := (World.frozen?_of_block (w := w) e).trans h
structure Step (Ft Ft' : Nat → Prop) (w w' : World) : Prop where
  fr : FrS Ft w w'
  new : ∀ b, Ft' b → Ft b ∨ w.heap.size ≤ b
theorem Step.refl (Ft : Nat → Prop) (w : World) : Step Ft Ft w w := ⟨FrS.refl _ _, fun _ h => .inl h⟩
theorem Step.trans {F G H : Nat → Prop} {a b c : World} (h : Step F G a b) (k : Step G H b c) : Step F H a c :=
  ⟨h.fr.trans k.fr h.new, fun i hi => by rcases k.new i hi with h1 | h1; exact h.new i h1; exact .inr (Nat.le_trans h.fr.size h1)⟩
theorem Step.of_below {F : Nat → Prop} {a b : World} (h : Below a.heap.size a b) : Step F F a b := ⟨FrS.of_below h, fun _ h => .inl h⟩
theorem Step.keep {F F' : Nat → Prop} {w w' : World} (h : Step F F' w w') {b : Nat} (hb : ¬ F b) (hl : b < w.heap.size) : w'.heap[b]? = w.heap[b]? ∧ ¬ F' b ∧ b < w'.heap.size :=
  ⟨h.fr.block b hl hb, fun e => by rcases h.new b e with e | e; exact hb e; omega, Nat.lt_of_lt_of_le hl h.fr.size⟩
theorem name_world {P : Program} {c : Code} {Q : Exit → Act → World → Prop} {a : Act} {w : World} (h : ∀ W, w = W → c.wp P Q a W) : c.wp P Q a w := h w rfl
structure At where
  b : Int
  n : Int
  s : Int
abbrev atV (l : At) : Value := .agg #[.int .i64 l.b, .int .i64 l.n, .int .i64 l.s]
abbrev at0 : At := ⟨0, 0, 0⟩
structure Op3 where
  b : Int
  w : Bool
  v : Int
abbrev op30 : Op3 := ⟨0, false, 0⟩
abbrev opV (x : Op3) : Value := .agg #[.int .i64 x.b, .bool x.w, .int .i64 x.v]
structure Pm where
  k : Int
  l : Int
  t : Int
  o : Bool
  op : Op3
  busy : Bool
abbrev pm0 : Pm := ⟨0, 0, 0, false, op30, false⟩
def nxI (wa : Int) (P : Pm) (x : Op3) : Pm := if P.busy = true then P else ⟨P.k, max wa 1, 0, false, x, true⟩
def nxF (P : Pm) : Pm := if P.busy = true then ⟨P.k + 1, 0, 0, false, op30, false⟩ else P
def numF (P : Pm) : Int := if P.busy = true then P.k + 1 else 0
def nxT (wa tr : Int) (P : Pm) : Pm := if P.busy = true then ⟨P.k, (tickT P.l P.t P.o wa tr).l, (tickT P.l P.t P.o wa tr).t, (tickT P.l P.t P.o wa tr).o, P.op, true⟩ else P
def doT (wa tr : Int) (P : Pm) : Int := if P.busy = true then (tickT P.l P.t P.o wa tr).n else 0
def pinP (P : Pm) : Int := if P.busy = true then P.op.b else -1
structure PInv (wa tr : Int) (P : Pm) : Prop where
  wb : wa ≤ 9223372036854775807
  rb : tr ≤ 9223372036854775807
  k0 : 0 ≤ P.k
  k1 : P.k ≤ 100000
  lb : P.l ≤ 9223372036854775807
  tb : -9223372036854775808 ≤ P.t
theorem tick_bd (l t : Int) (o : Bool) (wa tr : Int) (b1 : l ≤ 9223372036854775807) (b2 : -9223372036854775808 ≤ t) : (tickT l t o wa tr).l ≤ 9223372036854775807 ∧ -9223372036854775808 ≤ (tickT l t o wa tr).t := by
  unfold tickT
  split
  · exact ⟨b1, b2⟩
  · split
    · exact ⟨by dsimp only; omega, b2⟩
    · split
      · have := doubleZ_bd wa (t + 1) 1048576
        exact ⟨by dsimp only; omega, by dsimp only; omega⟩
      · exact ⟨by dsimp only; omega, b2⟩
section
variable {wa tr : Int} {P : Pm}
theorem PInv.iss (h : PInv wa tr P) (x : Op3) : PInv wa tr (nxI wa P x) := by
  have h1 := h.wb
  unfold nxI
  split
  · exact h
  · exact ⟨h.wb, h.rb, h.k0, h.k1, by dsimp only; omega, by dsimp only; omega⟩
theorem PInv.fin (h : PInv wa tr P) (hk : P.k < 100000) : PInv wa tr (nxF P) := by
  have h1 := h.k0
  unfold nxF
  split
  · exact ⟨h.wb, h.rb, by dsimp only; omega, by dsimp only; omega, by dsimp only; omega, by dsimp only; omega⟩
  · exact h
theorem PInv.tick (h : PInv wa tr P) : PInv wa tr (nxT wa tr P) := by
  have h1 := tick_bd P.l P.t P.o wa tr h.lb h.tb
  unfold nxT
  split
  · exact ⟨h.wb, h.rb, h.k0, h.k1, h1.1, h1.2⟩
  · exact h
end
theorem pinv0 {wa tr : Int} (h1 : wa ≤ 9223372036854775807) (h2 : tr ≤ 9223372036854775807) : PInv wa tr pm0 := ⟨h1, h2, by decide, by decide, by decide, by decide⟩
theorem nxI_k (wa : Int) (P : Pm) (x : Op3) : (nxI wa P x).k = P.k := by unfold nxI; split <;> rfl
theorem nxT_k (wa tr : Int) (P : Pm) : (nxT wa tr P).k = P.k := by unfold nxT; split <;> rfl
theorem nxF_k (P : Pm) : (nxF P).k ≤ P.k + 1 := by unfold nxF; split <;> (try dsimp only) <;> omega
abbrev bunV (x : Bun) : Value := .agg #[.int .i64 x.n, .bool x.o, .bool x.h, .int .i64 x.d]
structure BunAt (w : World) (b : Nat) (x : Bun) : Prop where
  lt : b < w.heap.size
  c0 : w.cell? ⟨b, 0, none⟩ = some (.int .i64 x.n)
  c1 : w.cell? ⟨b, 1, none⟩ = some (.bool x.o)
  c2 : w.cell? ⟨b, 2, none⟩ = some (.bool x.h)
  c3 : w.cell? ⟨b, 3, none⟩ = some (.int .i64 x.d)
  f0 : w.frozen? ⟨b, 0, none⟩ = false
  f1 : w.frozen? ⟨b, 1, none⟩ = false
  f2 : w.frozen? ⟨b, 2, none⟩ = false
  f3 : w.frozen? ⟨b, 3, none⟩ = false
theorem BunAt.carry {w w' : World} {b : Nat} {x : Bun} (h : BunAt w b x) (e : w'.heap[b]? = w.heap[b]?) : BunAt w' b x :=
  ⟨block_lt h.lt e, keep_cell e h.c0, keep_cell e h.c1, keep_cell e h.c2, keep_cell e h.c3, keep_frozen e h.f0, keep_frozen e h.f1, keep_frozen e h.f2, keep_frozen e h.f3⟩
theorem BunAt.below {w w' : World} {b : Nat} {x : Bun} (h : BunAt w b x) (hb : Below w.heap.size w w') : BunAt w' b x := h.carry (hb.block b h.lt)
theorem FrS.wr {B : Nat} {a b : World} (h : FrS (· = B) a b) {o : Nat} (u : Value) : FrS (· = B) a (b.setCell ⟨B, o, none⟩ u) := h.setCell (q := ⟨B, o, none⟩) (.inl rfl) u
abbrev setB (w : World) (B : Nat) (b : Bun) : World := (((w.setCell ⟨B, 0, none⟩ (.int .i64 b.n)).setCell ⟨B, 1, none⟩ (.bool b.o)).setCell ⟨B, 2, none⟩ (.bool b.h)).setCell ⟨B, 3, none⟩ (.int .i64 b.d)
theorem set_bun {w : World} {B : Nat} {b0 : Bun} (h : BunAt w B b0) (b : Bun) : BunAt (setB w B b) B b ∧ FrS (· = B) w (setB w B b) := by
  obtain ⟨y5, y0, y1, y2, y3, z0, z1, z2, z3⟩ := h
  refine ⟨⟨by simp; exact y5, by simp [go_sem, *], by simp [go_sem, *], by simp [go_sem, *], by simp [go_sem, *], by simp [go_sem, *], by simp [go_sem, *], by simp [go_sem, *], by simp [go_sem, *]⟩, ?_⟩
  repeat' first | with_reducible exact FrS.refl _ _ | refine FrS.wr ?_ _
theorem bun_new (w : World) (T : TypeId) : BunAt (w.alloc (.cells #[.int .i64 0, .bool false, .bool false, .int .i64 0] T)) w.heap.size bun0 :=
  ⟨by simp, by simp [go_sem], by simp [go_sem], by simp [go_sem], by simp [go_sem], by simp [go_sem], by simp [go_sem], by simp [go_sem], by simp [go_sem]⟩
theorem bun_newV (w : World) (b : Bun) (T : TypeId) : BunAt (w.alloc (.cells #[.int .i64 b.n, .bool b.o, .bool b.h, .int .i64 b.d] T)) w.heap.size b :=
  ⟨by simp, by simp [go_sem], by simp [go_sem], by simp [go_sem], by simp [go_sem], by simp [go_sem], by simp [go_sem], by simp [go_sem], by simp [go_sem]⟩
theorem BunAt.fr {w w' : World} {b : Nat} {x : Bun} {F : Nat → Prop} (h : BunAt w b x) (hf : FrS F w w') (hn : ¬ F b) : BunAt w' b x := h.carry (hf.block b h.lt hn)
end Go.Proofs.YtoenjdnccgmhoaaGreatDoor
