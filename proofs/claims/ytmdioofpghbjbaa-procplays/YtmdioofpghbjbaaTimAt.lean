/- A timer that lies in memory, and may be written (layer 7). -/
import Derived.Test.YtmdioofpghbjbaaTimer
namespace Go.Proofs.Ytmdioofpghbjbaa
open Go.ChangeShapes Go.WideShapes Go.ChangeAt Go.RowKit
set_option linter.unusedSimpArgs false
set_option linter.unusedVariables false
set_option maxRecDepth 10000

attribute [local go_sem, local simp] over_const setCell_drewN alloc_drewN Over.cell Over.frozen lt_s1 lt_s2 lt_s3 le_s0 le_s1 le_s2 le_s3 eq_s0 eq_s1 eq_s2 qe_s0

structure TimAt (w : World) (b : Nat) (l t : Int) (o : Bool) : Prop where
  lt : b < w.heap.size
  c0 : w.cell? ⟨b, 0, none⟩ = some (.int .i64 l)
  c1 : w.cell? ⟨b, 1, none⟩ = some (.int .i64 t)
  c2 : w.cell? ⟨b, 2, none⟩ = some (.bool o)
  z0 : w.frozen? ⟨b, 0, none⟩ = false
  z1 : w.frozen? ⟨b, 1, none⟩ = false
  z2 : w.frozen? ⟨b, 2, none⟩ = false

theorem TimAt.below {w w' : World} {b : Nat} {l t : Int} {o : Bool} (h : TimAt w b l t o) (hb : Below w.heap.size w w') : TimAt w' b l t o :=
  ⟨Nat.lt_of_lt_of_le h.lt hb.size, (hb.cell (p := ⟨b, 0, none⟩) h.lt).trans h.c0, (hb.cell (p := ⟨b, 1, none⟩) h.lt).trans h.c1, (hb.cell (p := ⟨b, 2, none⟩) h.lt).trans h.c2,
    (hb.frozen (p := ⟨b, 0, none⟩) h.lt).trans h.z0, (hb.frozen (p := ⟨b, 1, none⟩) h.lt).trans h.z1, (hb.frozen (p := ⟨b, 2, none⟩) h.lt).trans h.z2⟩

theorem TimAt.set {w : World} {b : Nat} {l t : Int} {o : Bool} (h : TimAt w b l t o) (l' t' : Int) (o' : Bool) : TimAt (((w.setCell ⟨b, 0, none⟩ (.int .i64 l')).setCell ⟨b, 1, none⟩ (.int .i64 t')).setCell ⟨b, 2, none⟩ (.bool o')) b l' t' o' := by
  obtain ⟨h0, h1, h2, h3, h4, h5, h6⟩ := h
  exact ⟨by simpa using h0, by simp [go_sem, *], by simp [go_sem, *], by simp [go_sem, *], by simp [go_sem, *], by simp [go_sem, *], by simp [go_sem, *]⟩

theorem TimAt.new (w : World) (l t : Int) (o : Bool) (x : TypeId) : TimAt (w.alloc (.cells #[.int .i64 l, .int .i64 t, .bool o] x)) w.heap.size l t o := by
  exact ⟨by simp, by simp [go_sem], by simp [go_sem], by simp [go_sem], by simp [go_sem], by simp [go_sem], by simp [go_sem]⟩

theorem TimAt.alloc {w : World} {b : Nat} {l t : Int} {o : Bool} (h : TimAt w b l t o) (x : Obj) : TimAt (w.alloc x) b l t o := h.below ((Below.refl _ _).alloc (Nat.le_refl _) _)
end Go.Proofs.Ytmdioofpghbjbaa
