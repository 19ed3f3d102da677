/- The program's arbiter and the document's, apart (layer 12). -/
import Derived.Test.YtlfdahcbkdiifaaTell12
import Derived.Test.YtlfdahcbkdiifaaRdG
import Derived.Test.YtlfdahcbkdiifaaRdC
namespace Go.Proofs.Ytlfdahcbkdiifaa
open Go.ChangeShapes Go.WideShapes Go.ChangeAt Go.RowKit
set_option linter.unusedSimpArgs false
set_option linter.unusedVariables false
set_option maxRecDepth 10000

attribute [local go_sem, local simp] over_const setCell_drewN alloc_drewN Over.cell Over.frozen lt_s1 lt_s2 lt_s3 le_s0 le_s1 le_s2 le_s3 eq_s0 eq_s1 eq_s2 qe_s0

abbrev szO (s t : Int) : Obj := .cells #[.int .i64 s, .int .i64 t] 22
theorem sz_cells {w wr : World} {s t : Int} (hb : Below (w.alloc (szO s t)).heap.size (w.alloc (szO s t)) wr) : wr.cell? ⟨w.heap.size, 0, none⟩ = some (.int .i64 s) ∧ wr.cell? ⟨w.heap.size, 1, none⟩ = some (.int .i64 t) := by
  have e := (hb.block w.heap.size (by simp)).trans (heap_alloc_new w (szO s t))
  exact ⟨cell_of_row _ _ _ _ _ _ e, cell_of_row _ _ _ _ _ _ e⟩

/-- A call in a block of its own. -/
def XAt (w : World) (X : Nat) (x : Ac) : Prop := w.heap[X]? = some (actsO x)
theorem xat_new (w : World) (x : Ac) : XAt (w.alloc (actsO x)) w.heap.size x := heap_alloc_new w _
theorem XAt.lt {w : World} {X : Nat} {x : Ac} (h : XAt w X x) : X < w.heap.size := (Array.getElem?_eq_some_iff.1 h).1
theorem XAt.carry {w w' : World} {X : Nat} {x : Ac} (h : XAt w X x) (e : w'.heap[X]? = w.heap[X]?) : XAt w' X x := Eq.trans e h
theorem XAt.trans2 {w w' w'' : World} {X : Nat} {x : Ac} (h : XAt w X x) (e : w'.heap[X]? = w.heap[X]?) (e' : w''.heap[X]? = w'.heap[X]?) : XAt w'' X x := (h.carry e).carry e'
theorem XAt.below {w w' : World} {X : Nat} {x : Ac} (h : XAt w X x) (hb : Below w.heap.size w w') : XAt w' X x := h.carry (hb.block X h.lt)
theorem XAt.cells {w : World} {X : Nat} {x : Ac} (h : XAt w X x) : w.cell? ⟨X, 0, none⟩ = some (.int .i64 x.k) ∧ w.cell? ⟨X, 1, none⟩ = some (.int .i64 x.b) ∧ w.cell? ⟨X, 2, none⟩ = some (.int .i64 x.s) ∧ w.cell? ⟨X, 3, none⟩ = some (.int .i64 x.n) :=
  ⟨cell_of_row _ _ _ _ _ _ h, cell_of_row _ _ _ _ _ _ h, cell_of_row _ _ _ _ _ _ h, cell_of_row _ _ _ _ _ _ h⟩
theorem XAt.fro {w : World} {X : Nat} {x : Ac} (h : XAt w X x) : w.frozen? ⟨X, 2, none⟩ = false := frozen_of_row _ _ _ _ _ h
theorem XAt.seq {w : World} {X : Nat} {x : Ac} (h : XAt w X x) (s : Int) : XAt (w.setCell ⟨X, 2, none⟩ (.int .i64 s)) X ⟨x.k, x.b, s, x.n⟩ := heap_setCell_same _ _ _ _ _ _ h

/-- The program's and the document's, apart. -/
structure PD (w wr : World) (p g N M : Nat) (L : List Rq) (F : Nat → Prop) (q h M' : Nat) (L' : List Rq) (F' : Nat → Prop) : Prop where
  a : AEnv w wr p g N M L F
  d : RdIs wr q h N M' L' F'
  d0 : ∀ b, F' b → w.heap.size ≤ b
  q0 : w.heap.size ≤ q
  dis : ∀ b, F b → ¬ F' b
  pa : ¬ F' p
  qb : ¬ F q

section
variable {w wr w3 : World} {p g N M M2 q h M' p2 g2 : Nat} {L L2 L' : List Rq} {F F2 F' : Nat → Prop}
theorem PD.first (e : AEnv w wr p g N M L F) (hn : RdIs w3 q h N M' L' F') (hf : ∀ b, F' b → wr.heap.size ≤ b) (hq : wr.heap.size ≤ q) (hb : Below wr.heap.size wr w3) : PD w w3 p g N M L F q h M' L' F' :=
  ⟨e.quiet hb, hn, fun b hb' => Nat.le_trans e.bel.size (hf b hb'), Nat.le_trans e.bel.size hq, fun x h1 h2 => (by have := e.n.lt x h1; have := hf x h2; omega), fun e' => (by have := hf _ e'; have := e.n.pl; omega), fun e' => (by have := e.n.lt _ e'; omega)⟩
theorem PD.quiet (x : PD w wr p g N M L F q h M' L' F') (hb : Below wr.heap.size wr w3) : PD w w3 p g N M L F q h M' L' F' := ⟨x.a.quiet hb, x.d.below hb, x.d0, x.q0, x.dis, x.pa, x.qb⟩
theorem PD.mono {K : Nat} (x : PD w wr p g N M L F q h M L F') (hK : M ≤ K) : PD w wr p g N K L F q h K L F' := ⟨x.a.mono hK, x.d.mono hK, x.d0, x.q0, x.dis, x.pa, x.qb⟩
theorem PD.prog (x : PD w wr p g N M L F q h M' L' F') (hn : ArIs w3 p g N M2 L2 F2) (hs : Step F F2 wr w3) : PD w w3 p g N M2 L2 F2 q h M' L' F' := by
  have e := x.a.step (Below.refl _ _) hn hs
  refine ⟨e, x.d.fr hs.fr x.qb (fun b hb hf => x.dis b hf hb), x.d0, x.q0, fun b hb hb' => ?_, x.pa, fun hq => ?_⟩
  · rcases hs.new b hb with e | e
    · exact x.dis b e hb'
    · have := x.d.lt b hb'; omega
  · rcases hs.new q hq with e | e
    · exact x.qb e
    · have := x.d.ql; omega
theorem PD.doc (x : PD w wr p g N M L F q h M' L' F') (hn : RdIs w3 q h N M2 L2 F2) (hs : Step F' F2 wr w3) : PD w w3 p g N M L F q h M2 L2 F2 := by
  have s1 := x.a.bel.size
  refine ⟨⟨x.a.n.fr hs.fr x.pa (fun b hb => x.dis b hb), x.a.f0, x.a.p0, x.a.bel.trans (hs.fr.below (fun i hi => x.d0 i hi) s1)⟩, hn, fun b hb => ?_, x.q0, fun b hb hb' => ?_, fun hp => ?_, x.qb⟩
  · rcases hs.new b hb with e | e
    · exact x.d0 b e
    · omega
  · rcases hs.new b hb' with e | e
    · exact x.dis b hb e
    · have := x.a.n.lt b hb; omega
  · rcases hs.new p hp with e | e
    · exact x.pa e
    · have := x.a.n.pl; omega
/-- A variable of the law's own is written. -/
theorem PD.poke (x : PD w wr p g N M L F q h M' L' F') {X i : Nat} (v : Value) (h1 : ¬ F X) (h2 : ¬ F' X) (h3 : p ≠ X) (h4 : q ≠ X) (h5 : w.heap.size ≤ X) : PD w (wr.setCell ⟨X, i, none⟩ v) p g N M L F q h M' L' F' := by
  have hf : FrS (· = X) wr (wr.setCell ⟨X, i, none⟩ v) := (FrS.refl (· = X) wr).setCell (q := ⟨X, i, none⟩) (.inl rfl) v
  exact ⟨⟨x.a.n.fr hf h3 (fun b hb e => h1 (e ▸ hb)), x.a.f0, x.a.p0, x.a.bel.trans (hf.below (fun j hj => by omega) x.a.bel.size)⟩, x.d.fr hf h4 (fun b hb e => h2 (e ▸ hb)), x.d0, x.q0, x.dis, x.pa, x.qb⟩
/-- Another one takes the program's place. -/
theorem PD.other (x : PD w wr p g N M L F q h M' L' F') {M3 : Nat} {L3 : List Rq} {F3 : Nat → Prop} (y : Two w wr p g N M L F p2 g2 N M3 L3 F3) (h1 : ∀ b, F3 b → ¬ F' b) (h2 : ¬ F' p2) (h3 : ¬ F3 q) : PD w wr p2 g2 N M3 L3 F3 q h M' L' F' := ⟨y.b, x.d, x.d0, x.q0, h1, h2, h3⟩
end
end Go.Proofs.Ytlfdahcbkdiifaa
