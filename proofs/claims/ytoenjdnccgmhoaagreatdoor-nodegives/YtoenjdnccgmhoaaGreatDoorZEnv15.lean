/- layer 15: Env15, put together. -/
import Derived.Test.YtoenjdnccgmhoaaGreatDoorB38
import Derived.Test.YtoenjdnccgmhoaaGreatDoorB43
import Derived.Test.YtoenjdnccgmhoaaGreatDoorB45
import Derived.Deep.WholeRow
namespace Go.Proofs.YtoenjdnccgmhoaaGreatDoor
open Go.ChangeShapes Go.WideShapes Go.ChangeAt Go.RowKit
set_option linter.unusedSimpArgs false
set_option linter.unusedVariables false
set_option maxRecDepth 10000
attribute [local go_sem, local simp] over_const setCell_drewN alloc_drewN Over.cell Over.frozen lt_s1 lt_s2 lt_s3 le_s0 le_s1 le_s2 le_s3 eq_s0 eq_s1 eq_s2 qe_s0
theorem At5.low {w V : World} {p : Nat} {B : Bk} {Fc F : Nat → Prop} {c : Cf} {id : Int} {N : Nat} {D : Nd} {K : List (Nat × Obj)} (h : At5 w V p B Fc F c id N D K) (hlo : ∀ x, Fa p B Fc x → w.heap.size ≤ x) : Below w.heap.size w V := h.s.belowW (Below.refl _ _) hlo
theorem acts_at {w : World} {k : Nat} {x : Ac} (h : w.heap[k]? = some (actsO x)) : w.cell? ⟨k, 0, none⟩ = some (.int .i64 x.k) ∧ w.cell? ⟨k, 1, none⟩ = some (.int .i64 x.op.b) ∧ w.cell? ⟨k, 2, none⟩ = some (.bool x.op.w) ∧ w.cell? ⟨k, 3, none⟩ = some (.int .i64 x.op.v) ∧ w.cell? ⟨k, 4, none⟩ = some (.int .i64 x.l.k) ∧ w.cell? ⟨k, 5, none⟩ = some (.int .i64 x.l.a) ∧ w.cell? ⟨k, 6, none⟩ = some (.int .i64 x.l.b) ∧ w.cell? ⟨k, 7, none⟩ = some (.int .i64 x.l.q) ∧ w.cell? ⟨k, 8, none⟩ = some (.int .i64 x.l.s) ∧ w.cell? ⟨k, 9, none⟩ = some (.int .i64 x.l.w) ∧ w.cell? ⟨k, 10, none⟩ = some (.bool x.l.r) ∧ w.cell? ⟨k, 11, none⟩ = some (.int .i64 x.l.n) ∧ w.cell? ⟨k, 12, none⟩ = some (.bool x.l.o) ∧ w.cell? ⟨k, 13, none⟩ = some (.bool x.l.h) ∧ w.cell? ⟨k, 14, none⟩ = some (.int .i64 x.l.d) ∧ w.cell? ⟨k, 15, none⟩ = some (.int .i64 x.d0) ∧ w.cell? ⟨k, 16, none⟩ = some (.int .i64 x.d1) ∧ w.cell? ⟨k, 17, none⟩ = some (.int .i64 x.d2) := by
  refine ⟨?_, ?_, ?_, ?_, ?_, ?_, ?_, ?_, ?_, ?_, ?_, ?_, ?_, ?_, ?_, ?_, ?_, ?_⟩ <;> exact cell_of_row _ _ _ _ _ _ h
theorem i64_op {c : Cf} {id : Int} (hc : CfOk c id) {x : Int} (h0 : 0 ≤ x) (h1 : x < c.bl) : I64 x := by
  have := hc.b1
  exact ⟨by omega, by omega⟩
theorem acts_i64 {B : Nat} {w : World} {v : Value} {A : List Ac} (h : ActsAt B w v A) : ∀ x ∈ A, I64 x.op.b ∧ I64 x.l.k := by
  obtain ⟨ao, cap, -, -, -, h4⟩ := h
  intro x hx
  rcases h4 with rfl | ⟨b, o, -, -, -, h7⟩
  · cases hx
  · obtain ⟨j, hj, rfl⟩ := List.getElem_of_mem hx
    exact (h7 j hj).1
structure One (w V : World) (p : Nat) (B : Bk) (F : Nat → Prop) (c : Cf) (id : Int) (N : Nat) (D : Nd) : Prop where
  n : NdIs V p B F c id N D
  lo : ∀ b, Fa p B F b → w.heap.size ≤ b
  bel : Below w.heap.size w V
section
variable {w V V' : World} {p : Nat} {B : Bk} {F F2 : Nat → Prop} {c : Cf} {id : Int} {N M : Nat} {D D2 : Nd}
theorem One.below (h : One w V p B F c id N D) (hb : Below V.heap.size V V') : One w V' p B F c id N D := ⟨h.n.below hb, h.lo, h.bel.trans (hb.mono h.bel.size)⟩
theorem One.step (h : One w V p B F c id N D) (hn : NdIs V' p B F2 c id M D2) (hs : Step (Fa p B F) (Fa p B F2) V V') : One w V' p B F2 c id M D2 := ⟨hn, hs.lo h.lo h.bel.size, hs.belowW h.bel h.lo⟩
theorem One.alloc (h : One w V p B F c id N D) (o : Obj) : One w (V.alloc o) p B F c id N D := h.below ((Below.refl _ _).alloc (Nat.le_refl _) _)
end
theorem wpList_store_new {P : Program} {ops : Array Oper} {rest : List Oper} {op : Oper} {a : Act} {w : World} {Q : Exit → Act → World → Prop} {cs zs : Array Value} {ty : TypeId} (x y : Operand) (ho : op.op = .store ty x y) (hgd : op.guard = none) (hx : a.eval x = .pointer (some ⟨w.heap.size, 0, none⟩)) (hy : a.eval y = .agg cs)
    (hi : (P.info? ty).map (·.size) = some cs.size) (hs : zs.size = cs.size) (h1 : cs.all (·.oneCell') = true) (h : wpList P ops Q rest (a.put op.dst undef) (w.alloc (.cells cs ty))) : wpList P ops Q (op :: rest) a (w.alloc (.cells zs ty)) := by
  refine wpList_store_row hgd ty x y ho w.heap.size cs hx hy ty zs (heap_alloc_last w _) hi hs h1 ?_
  rw [World.setRow_alloc_new]
  exact h
theorem infoAc : (Tryz.prog.info? 40).map (·.size) = some 18 := by kernel_rfl
def actC (x : Ac) : List Value := [.int .i64 x.k, .int .i64 x.op.b, .bool x.op.w, .int .i64 x.op.v, .int .i64 x.l.k, .int .i64 x.l.a, .int .i64 x.l.b, .int .i64 x.l.q, .int .i64 x.l.s, .int .i64 x.l.w, .bool x.l.r, .int .i64 x.l.n, .bool x.l.o, .bool x.l.h, .int .i64 x.l.d, .int .i64 x.d0, .int .i64 x.d1, .int .i64 x.d2]
theorem actC_one (x : Ac) : (actC x).toArray.all (fun v => v.oneCell') = true := by simp [actC, Value.oneCell']
theorem acts_range {B : Nat} {w : World} {ao : Option Addr} {n cap : Nat} {A : List Ac} (h : ActsAt B w (.slice ao n cap) A) {j : Nat} (hj : j < A.length) : ∃ b o, ao = some ⟨b, o, none⟩ ∧ b < B ∧ b < w.heap.size ∧ w.rangeAt b (o + j * 18) (actC A[j]) := by
  obtain ⟨b, o, e, h1, h2, -, r0, r1, r2, r3, r4, r5, r6, r7, r8, r9, r10, r11, r12, r13, r14, r15, r16, r17⟩ := acts_row h hj
  refine ⟨b, o, e, h1, h2, fun i v hv => ?_⟩
  have hi : i < 18 := (List.getElem?_eq_some_iff.1 hv).1
  have hc : i = 0 ∨ i = 1 ∨ i = 2 ∨ i = 3 ∨ i = 4 ∨ i = 5 ∨ i = 6 ∨ i = 7 ∨ i = 8 ∨ i = 9 ∨ i = 10 ∨ i = 11 ∨ i = 12 ∨ i = 13 ∨ i = 14 ∨ i = 15 ∨ i = 16 ∨ i = 17 := by omega
  rcases hc with rfl | rfl | rfl | rfl | rfl | rfl | rfl | rfl | rfl | rfl | rfl | rfl | rfl | rfl | rfl | rfl | rfl | rfl <;> cases hv
  · exact r0
  · exact r1
  · exact r2
  · exact r3
  · exact r4
  · exact r5
  · exact r6
  · exact r7
  · exact r8
  · exact r9
  · exact r10
  · exact r11
  · exact r12
  · exact r13
  · exact r14
  · exact r15
  · exact r16
  · exact r17
theorem range_new (w : World) (x : Ac) : (w.alloc (actsO x)).rangeAt w.heap.size 0 (actC x) := fun i v hv => by
  rw [Nat.zero_add]
  refine (cell_of_row _ _ _ _ _ _ (heap_alloc_new w _)).trans ?_
  rw [← hv]
  simp [actC]
theorem range_of {w : World} {k : Nat} {x : Ac} (h : w.heap[k]? = some (actsO x)) : w.rangeAt k 0 (actC x) := fun i v hv => by
  rw [Nat.zero_add]
  refine (cell_of_row _ _ _ _ _ _ h).trans ?_
  rw [← hv]
  simp [actC]
end Go.Proofs.YtoenjdnccgmhoaaGreatDoor
