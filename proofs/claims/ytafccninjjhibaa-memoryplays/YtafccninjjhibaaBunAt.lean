/- Tokens in a block of memory of their own (layers 9, 10). -/
import Derived.Test.YtafccninjjhibaaFrSet
import Derived.Test.YtafccninjjhibaaBunMath3
namespace Go.Proofs.Ytafccninjjhibaa
open Go.ChangeShapes Go.WideShapes Go.ChangeAt Go.RowKit
set_option linter.unusedSimpArgs false
set_option linter.unusedVariables false
set_option maxRecDepth 10000

attribute [local go_sem, local simp] over_const setCell_drewN alloc_drewN Over.cell Over.frozen lt_s1 lt_s2 lt_s3 le_s0 le_s1 le_s2 le_s3 eq_s0 eq_s1 eq_s2 qe_s0

abbrev bunV (x : Bun) : Value := .agg #[.int .i64 x.n, .bool x.o, .bool x.h, .int .i64 x.d]

/-- Tokens in block b, that may be written. -/
structure BunAt (w : World) (b : Nat) (x : Bun) : Prop where
  lt : b < w.heap.size
  c0 : w.cell? ⟨b, 0, none⟩ = some (.int .i64 x.n)
  c1 : w.cell? ⟨b, 1, none⟩ = some (.bool x.o)
  c2 : w.cell? ⟨b, 2, none⟩ = some (.bool x.h)
  c3 : w.cell? ⟨b, 3, none⟩ = some (.int .i64 x.d)
  f0 : w.frozen? ⟨b, 0, none⟩ = false
  f1 : w.frozen? ⟨b, 1, none⟩ = false
  f2 : w.frozen? ⟨b, 2, none⟩ = false
  f3 : w.frozen? ⟨b, 3, none⟩ = false

theorem BunAt.carry {w w' : World} {b : Nat} {x : Bun} (h : BunAt w b x) (e : w'.heap[b]? = w.heap[b]?) : BunAt w' b x :=
  ⟨block_lt h.lt e, keep_cell e h.c0, keep_cell e h.c1, keep_cell e h.c2, keep_cell e h.c3, keep_frozen e h.f0, keep_frozen e h.f1, keep_frozen e h.f2, keep_frozen e h.f3⟩
theorem BunAt.below {w w' : World} {b : Nat} {x : Bun} (h : BunAt w b x) (hb : Below w.heap.size w w') : BunAt w' b x := h.carry (hb.block b h.lt)

theorem FrS.wr {B : Nat} {a b : World} (h : FrS (· = B) a b) {o : Nat} (u : Value) : FrS (· = B) a (b.setCell ⟨B, o, none⟩ u) := h.setCell (q := ⟨B, o, none⟩) (.inl rfl) u

abbrev setB (w : World) (B : Nat) (b : Bun) : World := (((w.setCell ⟨B, 0, none⟩ (.int .i64 b.n)).setCell ⟨B, 1, none⟩ (.bool b.o)).setCell ⟨B, 2, none⟩ (.bool b.h)).setCell ⟨B, 3, none⟩ (.int .i64 b.d)

theorem set_bun {w : World} {B : Nat} {b0 : Bun} (h : BunAt w B b0) (b : Bun) : BunAt (setB w B b) B b ∧ FrS (· = B) w (setB w B b) := by
  obtain ⟨y5, y0, y1, y2, y3, z0, z1, z2, z3⟩ := h
  refine ⟨⟨by simp; exact y5, by simp [go_sem, *], by simp [go_sem, *], by simp [go_sem, *], by simp [go_sem, *], by simp [go_sem, *], by simp [go_sem, *], by simp [go_sem, *], by simp [go_sem, *]⟩, ?_⟩
  repeat' first | with_reducible exact FrS.refl _ _ | refine FrS.wr ?_ _

theorem bun_new (w : World) (T : TypeId) : BunAt (w.alloc (.cells #[.int .i64 0, .bool false, .bool false, .int .i64 0] T)) w.heap.size bun0 :=
  ⟨by simp, by simp [go_sem], by simp [go_sem], by simp [go_sem], by simp [go_sem], by simp [go_sem], by simp [go_sem], by simp [go_sem], by simp [go_sem]⟩
theorem bun_newV (w : World) (b : Bun) (T : TypeId) : BunAt (w.alloc (.cells #[.int .i64 b.n, .bool b.o, .bool b.h, .int .i64 b.d] T)) w.heap.size b :=
  ⟨by simp, by simp [go_sem], by simp [go_sem], by simp [go_sem], by simp [go_sem], by simp [go_sem], by simp [go_sem], by simp [go_sem], by simp [go_sem]⟩
theorem BunAt.fr {w w' : World} {b : Nat} {x : Bun} {F : Nat → Prop} (h : BunAt w b x) (hf : FrS F w w') (hn : ¬ F b) : BunAt w' b x := h.carry (hf.block b h.lt hn)
end Go.Proofs.Ytafccninjjhibaa
