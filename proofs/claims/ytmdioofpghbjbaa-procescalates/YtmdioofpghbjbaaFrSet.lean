/- Worlds alike but for some blocks; what a call that changes an object leaves (layers 8 on). Nothing of the program. -/
import Derived.Test.YtmdioofpghbjbaaOver
import Derived.Test.YtmdioofpghbjbaaMath
namespace Go.Proofs.Ytmdioofpghbjbaa
open Go.ChangeShapes Go.WideShapes Go.ChangeAt Go.RowKit
set_option linter.unusedSimpArgs false
set_option linter.unusedVariables false
set_option maxRecDepth 10000

attribute [local go_sem, local simp] over_const setCell_drewN alloc_drewN Over.cell Over.frozen lt_s1 lt_s2 lt_s3 le_s0 le_s1 le_s2 le_s3 eq_s0 eq_s1 eq_s2 qe_s0

abbrev ptr (p : Nat) : Value := .pointer (some ⟨p, 0, none⟩)
def I64 (x : Int) : Prop := -9223372036854775808 ≤ x ∧ x ≤ 9223372036854775807

/-- Worlds that are alike but for the blocks of F, and new ones. -/
structure FrS (F : Nat → Prop) (w w' : World) : Prop where
  os : w'.os = w.os
  tape : w'.tape = w.tape
  output : w'.output = w.output
  size : w.heap.size ≤ w'.heap.size
  block : ∀ k, k < w.heap.size → ¬ F k → w'.heap[k]? = w.heap[k]?

theorem FrS.refl (F : Nat → Prop) (w : World) : FrS F w w := ⟨rfl, rfl, rfl, Nat.le_refl _, fun _ _ _ => rfl⟩
theorem FrS.trans {F G : Nat → Prop} {a b c : World} (h : FrS F a b) (k : FrS G b c) (hG : ∀ i, G i → F i ∨ a.heap.size ≤ i) : FrS F a c :=
  ⟨k.os.trans h.os, k.tape.trans h.tape, k.output.trans h.output, Nat.le_trans h.size k.size, fun i hi h1 => (k.block i (Nat.lt_of_lt_of_le hi h.size) (fun hg => (hG i hg).elim h1 (fun h2 => by omega))).trans (h.block i hi h1)⟩
theorem FrS.mono {F G : Nat → Prop} {a b : World} (h : FrS F a b) (hG : ∀ i, i < a.heap.size → F i → G i) : FrS G a b := ⟨h.os, h.tape, h.output, h.size, fun i hi h1 => h.block i hi (fun hf => h1 (hG i hi hf))⟩
theorem FrS.of_below {F : Nat → Prop} {a b : World} (h : Below a.heap.size a b) : FrS F a b := ⟨h.os, h.tape, h.output, h.size, fun k hk _ => h.block k hk⟩
theorem FrS.below {F : Nat → Prop} {B : Nat} {a b : World} (h : FrS F a b) (hF : ∀ i, F i → B ≤ i) (hB : B ≤ a.heap.size) : Below B a b := ⟨h.os, h.tape, h.output, h.size, fun k hk => h.block k (by omega) (fun hf => by have := hF k hf; omega)⟩
theorem FrS.grown {b : Nat} {w w' : World} (h : w.grownBy w' (some b)) : FrS (· = b) w w' := ⟨h.os, h.tape, h.output, h.size, fun k hk hn => h.block k hk (by simpa using hn)⟩
theorem FrS.setCell {F : Nat → Prop} {a b : World} (h : FrS F a b) {q : Addr} (hq : F q.block ∨ a.heap.size ≤ q.block) (u : Value) : FrS F a (b.setCell q u) :=
  ⟨h.os, h.tape, h.output, by simpa using h.size, fun k hk h1 => (Below.heap_setCell _ _ _ _ (by rintro rfl; rcases hq with hq | hq; exact h1 hq; omega)).trans (h.block k hk h1)⟩
theorem FrS.alloc {F : Nat → Prop} {a b : World} (h : FrS F a b) (o : Obj) : FrS F a (b.alloc o) :=
  h.trans (G := F) ⟨rfl, rfl, rfl, by simp, fun k hk _ => Below.heap_alloc _ _ _ hk⟩ (fun _ h => .inl h)
theorem FrS.drew {F : Nat → Prop} {a b : World} (h : FrS F a b) : FrS F a b.drew := ⟨h.os, h.tape, h.output, h.size, h.block⟩
theorem FrS.cell {F : Nat → Prop} {a b : World} (h : FrS F a b) {k o : Nat} (hk : k < a.heap.size) (h1 : ¬ F k) : b.cell? ⟨k, o, none⟩ = a.cell? ⟨k, o, none⟩ := World.cell?_of_block (w := a) (h.block k hk h1)
theorem FrS.frozen {F : Nat → Prop} {a b : World} (h : FrS F a b) {k o : Nat} (hk : k < a.heap.size) (h1 : ¬ F k) : b.frozen? ⟨k, o, none⟩ = a.frozen? ⟨k, o, none⟩ := World.frozen?_of_block (w := a) (h.block k hk h1)

theorem setCells_frS (g : Nat) : ∀ (vs : List Value) (o : Nat) (w : World), FrS (· = g) w (w.setCells g o vs)
  | [], _, w => FrS.refl _ _
  | v :: r, o, w => ((FrS.refl (· = g) w).setCell (q := ⟨g, o, none⟩) (.inl rfl) v).trans (setCells_frS g r (o + 1) (w.setCell ⟨g, o, none⟩ v)) (fun _ h => .inl h)

/-- What an append leaves. -/
structure AppP (w w' : World) (v v' : Value) (g g' : Nat) : Prop where
  fr : FrS (· = g) w w'
  nil : v = .slice none 0 0 → Below w.heap.size w w'
  lies : g' = g ∨ w.heap.size ≤ g'
  keep : g' = g → v = .slice none 0 0 → v' = .slice none 0 0

theorem block_lt {w w' : World} {b : Nat} (h : b < w.heap.size) (e : w'.heap[b]? = w.heap[b]?) : b < w'.heap.size := by
  rw [Array.getElem?_eq_getElem h] at e
  exact (Array.getElem?_eq_some_iff.1 e).1

theorem keep_cell {w w' : World} {b o : Nat} {v : Option Value} (e : w'.heap[b]? = w.heap[b]?) (h : w.cell? ⟨b, o, none⟩ = v) : w'.cell? ⟨b, o, none⟩ = v := (World.cell?_of_block (w := w) e).trans h
theorem keep_frozen {w w' : World} {b o : Nat} {v : Bool} (e : w'.heap[b]? = w.heap[b]?) (h : w.frozen? ⟨b, o, none⟩ = v) : w'.frozen? ⟨b, o, none⟩ = v := (World.frozen?_of_block (w := w) e).trans h

/-- What a call that changes lines leaves of the blocks. -/
structure Step (Ft Ft' : Nat → Prop) (w w' : World) : Prop where
  fr : FrS Ft w w'
  new : ∀ b, Ft' b → Ft b ∨ w.heap.size ≤ b

theorem Step.refl (Ft : Nat → Prop) (w : World) : Step Ft Ft w w := ⟨FrS.refl _ _, fun _ h => .inl h⟩
theorem Step.trans {F G H : Nat → Prop} {a b c : World} (h : Step F G a b) (k : Step G H b c) : Step F H a c :=
  ⟨h.fr.trans k.fr h.new, fun i hi => by rcases k.new i hi with h1 | h1; exact h.new i h1; exact .inr (Nat.le_trans h.fr.size h1)⟩
theorem Step.of_below {F : Nat → Prop} {a b : World} (h : Below a.heap.size a b) : Step F F a b := ⟨FrS.of_below h, fun _ h => .inl h⟩
/-- A block outside stays, and stays outside. -/
theorem Step.keep {F F' : Nat → Prop} {w w' : World} (h : Step F F' w w') {b : Nat} (hb : ¬ F b) (hl : b < w.heap.size) : w'.heap[b]? = w.heap[b]? ∧ ¬ F' b ∧ b < w'.heap.size :=
  ⟨h.fr.block b hl hb, fun e => by rcases h.new b e with e | e; exact hb e; omega, Nat.lt_of_lt_of_le hl h.fr.size⟩

/-- The world, by a letter. -/
theorem name_world {P : Program} {c : Code} {Q : Exit → Act → World → Prop} {a : Act} {w : World} (h : ∀ W, w = W → c.wp P Q a W) : c.wp P Q a w := h w rfl
end Go.Proofs.Ytmdioofpghbjbaa
