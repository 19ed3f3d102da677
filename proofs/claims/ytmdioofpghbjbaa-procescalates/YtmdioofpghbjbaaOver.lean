/- 'Over W': the worlds that are W, with memory besides. A call that only makes new memory leaves one of them; the walk reads W's cells through it by the rules here. Nothing of the program. -/
import Derived.Test.YtmdioofpghbjbaaDrew
import Derived.WalkKit
import Derived.ProofKit
import Derived.OpenShut
import Derived.Below
import Derived.Handy
import Derived.Deep.QuietTactic
import Derived.BigQuiet
namespace Go.Proofs.Ytmdioofpghbjbaa
open Go.ChangeShapes Go.WideShapes Go.ChangeAt Go.RowKit

structure Over (W : World) where
  w : World
  below : Below W.heap.size W w

theorem over_const {W : World} {p : Prop} : (Over W → p) ↔ p := ⟨fun h => h ⟨W, Below.refl _ _⟩, fun h _ => h⟩

theorem over {W w' : World} (h : Below W.heap.size W w') : ∃ x : Over W, w' = x.w := ⟨⟨w', h⟩, rfl⟩

section
variable {W : World} (x : Over W) (b o : Nat)
theorem Over.cell (h : b < W.heap.size) : x.w.cell? ⟨b, o, none⟩ = W.cell? ⟨b, o, none⟩ := x.below.cell (p := ⟨b, o, none⟩) h
theorem Over.frozen (h : b < W.heap.size) : x.w.frozen? ⟨b, o, none⟩ = W.frozen? ⟨b, o, none⟩ := x.below.frozen (p := ⟨b, o, none⟩) h
theorem Over.up (h : b < W.heap.size) : b < x.w.heap.size := Nat.lt_of_lt_of_le h x.below.size
theorem Over.go {B : Nat} {a : World} (h : Below B a W) (hB : B ≤ W.heap.size) : Below B a x.w := h.trans (x.below.mono hB)
theorem Over.sz (k : Nat) (h : k ≤ W.heap.size) : k ≤ x.w.heap.size := Nat.le_trans h x.below.size
end

section
variable {b s : Nat}
theorem lt_s1 (h : b < s) : (b < s + 1) = True := by simp; omega
theorem lt_s2 (h : b < s) : (b < s + 1 + 1) = True := by simp; omega
theorem lt_s3 (h : b < s) : (b < s + 1 + 1 + 1) = True := by simp; omega
theorem lt_s4 (h : b < s) : (b < s + 1 + 1 + 1 + 1) = True := by simp; omega
theorem le_s0 (h : b < s) : (b ≤ s) = True := by simp; omega
theorem le_s1 (h : b < s) : (b ≤ s + 1) = True := by simp; omega
theorem le_s2 (h : b < s) : (b ≤ s + 1 + 1) = True := by simp; omega
theorem le_s3 (h : b < s) : (b ≤ s + 1 + 1 + 1) = True := by simp; omega
theorem eq_s0 (h : b < s) : (b = s) = False := by simp; omega
theorem eq_s1 (h : b < s) : (b = s + 1) = False := by simp; omega
theorem eq_s2 (h : b < s) : (b = s + 1 + 1) = False := by simp; omega
theorem qe_s0 (h : b < s) : (s = b) = False := by simp; omega
end

/-- Behind a second call, with no memory made between: over the same world. -/
theorem over2 {W : World} {x : Over W} {w' : World} (h : Below x.w.heap.size x.w w') : ∃ y : Over W, w' = y.w := ⟨⟨w', x.below.trans (h.mono x.below.size)⟩, rfl⟩

/-- Behind a draw. -/
theorem overD {W w' : World} (h : Below W.drew.heap.size W.drew w') : ∃ x : Over W, w' = x.w := ⟨⟨w', ((Below.refl _ _).drew).trans h⟩, rfl⟩

theorem le_alloc {B : Nat} {w : World} {o : Obj} (h : B ≤ w.heap.size) : B ≤ (w.alloc o).heap.size := by simp; omega
theorem le_setCell {B : Nat} {w : World} {a : Addr} {v : Value} (h : B ≤ w.heap.size) : B ≤ (w.setCell a v).heap.size := by simpa using h
theorem le_drewN {B : Nat} {w : World} {n : Nat} (h : B ≤ w.heap.size) : B ≤ (w.drewN n).heap.size := h
theorem le_drew {B : Nat} {w : World} (h : B ≤ w.heap.size) : B ≤ w.drew.heap.size := h

/-- A region that draws its order, whose operations only read or make new memory: one walk of the text's order. -/
theorem wp_region_over {P : Program} {id : Nat} {Q : Exit → Act → World → Prop} {a : Act} {w : World} {l : List Oper} (hm : P.follows .mixedOrders = true) (hB : Region.lexB .any l.toArray = true)
    (h : wpQuiet P l.toArray (fun w' => ∃ x : Over w, w' = x.w) (fun a' => ∀ w', (∃ x : Over w, w' = x.w) → Q .normal a' w') l a) : (Code.region id l.toArray true).wp P Q a w :=
  wp_region_quiet (C := fun w' => ∃ x : Over w, w' = x.w) hm hB ⟨⟨w.drew, (Below.refl _ _).drew⟩, rfl⟩ (by simpa using h)

/-- A callee's contract, met within such a region. -/
theorem Over.quiet {P : Program} {f : FuncId} {args : Array Value} {W : World} {x : Over W} {v : Value}
    (h : Calls P f args x.w fun e w' => e = .returned v ∧ Below x.w.heap.size x.w w') : Calls P f args x.w fun e w'' => e = .returned v ∧ ∃ y : Over W, w'' = y.w :=
  h.mono fun _ w'' ⟨he, hb⟩ => ⟨he, ⟨w'', x.below.trans (hb.mono x.below.size)⟩, rfl⟩
end Go.Proofs.Ytmdioofpghbjbaa
