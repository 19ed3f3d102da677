/- layer 16: RowBig, put together. -/
import Derived.Test.YtmgjgeaigdiadaaDoorB16
import Derived.Deep.WholeRow
namespace Go.Proofs.YtmgjgeaigdiadaaDoor
open Go.ChangeShapes Go.WideShapes Go.ChangeAt Go.RowKit
set_option linter.unusedSimpArgs false
set_option linter.unusedVariables false
set_option maxRecDepth 10000
attribute [local go_sem, local simp] over_const setCell_drewN alloc_drewN Over.cell Over.frozen lt_s1 lt_s2 lt_s3 le_s0 le_s1 le_s2 le_s3 eq_s0 eq_s1 eq_s2 qe_s0
theorem wpList_store_new {P : Program} {ops : Array Oper} {rest : List Oper} {op : Oper} {a : Act} {w : World} {Q : Exit → Act → World → Prop} {cs zs : Array Value} {ty : TypeId} (x y : Operand) (ho : op.op = .store ty x y) (hgd : op.guard = none) (hx : a.eval x = .pointer (some ⟨w.heap.size, 0, none⟩)) (hy : a.eval y = .agg cs)
    (hi : (P.info? ty).map (·.size) = some cs.size) (hs : zs.size = cs.size) (h1 : cs.all (·.oneCell') = true) (h : wpList P ops Q rest (a.put op.dst undef) (w.alloc (.cells cs ty))) : wpList P ops Q (op :: rest) a (w.alloc (.cells zs ty)) := by
  refine wpList_store_row hgd ty x y ho w.heap.size cs hx hy ty zs (heap_alloc_last w _) hi hs h1 ?_
  rw [World.setRow_alloc_new]
  exact h
theorem infoLt : (Tryd.prog.info? 34).map (·.size) = some 11 := by kernel_rfl
theorem ltC_one (x : Lt) : (ltC x).toArray.all (fun v => v.oneCell') = true := by simp [ltC, Value.oneCell']
theorem lt_range {w : World} {b : Nat} {L : List Lt} {ao : Option Addr} {n cap : Nat} (h : ViewT w (.slice ao n cap) b L) {t : Nat} (ht : t < L.length) : ∃ o, ao = some ⟨b, o, none⟩ ∧ b < w.heap.size ∧ w.rangeAt b (o + t * 11) (ltC L[t]) := by
  obtain ⟨ao', cap', e, _, _, h3⟩ := h
  simp only [Value.slice.injEq] at e
  obtain ⟨rfl, _, _⟩ := e
  rcases h3 with rfl | ⟨o, rfl, h4, h5⟩
  · simp at ht
  · refine ⟨o, rfl, h4, fun i v hv => ?_⟩
    have hi : i < 11 := (List.getElem?_eq_some_iff.1 hv).1
    rw [Nat.add_assoc, h5 _ (by omega), flatLt_at L t i ht hi, hv]
end Go.Proofs.YtmgjgeaigdiadaaDoor
