/- layer 16: Acts16, put together. -/
import Derived.Test.YtmgjgeaigdiadaaDoorB09
import Derived.Test.YtmgjgeaigdiadaaDoorB01
namespace Go.Proofs.YtmgjgeaigdiadaaDoor
open Go.ChangeShapes Go.WideShapes Go.ChangeAt Go.RowKit
set_option linter.unusedSimpArgs false
set_option linter.unusedVariables false
set_option maxRecDepth 10000
attribute [local go_sem, local simp] over_const setCell_drewN alloc_drewN Over.cell Over.frozen lt_s1 lt_s2 lt_s3 le_s0 le_s1 le_s2 le_s3 eq_s0 eq_s1 eq_s2 qe_s0
theorem cell_lt {w : World} {b o : Nat} {v : Value} (h : w.cell? ⟨b, o, none⟩ = some v) : b < w.heap.size := by
  apply Classical.byContradiction
  intro hn
  have : w.heap[b]? = none := Array.getElem?_eq_none (by omega)
  simp [World.cell?, this] at h
theorem i64_of {n : Int} (h : (Lit.int .i64 n).wf = true) : I64 n := by
  have := bounds_i64 h
  unfold I64
  omega
structure Ac where
  l : Lt
  d0 : Int
  d1 : Int
  d2 : Int
  cp : Bool
abbrev actsO (x : Ac) : Obj := .cells #[.int .i64 x.l.k, .int .i64 x.l.a, .int .i64 x.l.b, .int .i64 x.l.q, .int .i64 x.l.s, .int .i64 x.l.w, .bool x.l.r, .int .i64 x.l.n, .bool x.l.o, .bool x.l.h, .int .i64 x.l.d, .int .i64 x.d0, .int .i64 x.d1, .int .i64 x.d2, .bool x.cp] 37
def ActsAt (B : Nat) (w : World) (v : Value) (A : List Ac) : Prop :=
  ∃ ao cap, v = .slice ao A.length cap ∧ A.length ≤ cap ∧ cap ≤ maxLen ∧
    (A = [] ∨ ∃ b o, ao = some ⟨b, o, none⟩ ∧ b < B ∧ B ≤ w.heap.size ∧ ∀ j (h : j < A.length), I64 A[j].l.k ∧ w.cell? ⟨b, o + j * 15, none⟩ = some (.int .i64 A[j].l.k) ∧ w.cell? ⟨b, o + j * 15 + 1, none⟩ = some (.int .i64 A[j].l.a) ∧ w.cell? ⟨b, o + j * 15 + 2, none⟩ = some (.int .i64 A[j].l.b) ∧ w.cell? ⟨b, o + j * 15 + 3, none⟩ = some (.int .i64 A[j].l.q) ∧ w.cell? ⟨b, o + j * 15 + 4, none⟩ = some (.int .i64 A[j].l.s) ∧ w.cell? ⟨b, o + j * 15 + 5, none⟩ = some (.int .i64 A[j].l.w) ∧ w.cell? ⟨b, o + j * 15 + 6, none⟩ = some (.bool A[j].l.r) ∧ w.cell? ⟨b, o + j * 15 + 7, none⟩ = some (.int .i64 A[j].l.n) ∧ w.cell? ⟨b, o + j * 15 + 8, none⟩ = some (.bool A[j].l.o) ∧ w.cell? ⟨b, o + j * 15 + 9, none⟩ = some (.bool A[j].l.h) ∧ w.cell? ⟨b, o + j * 15 + 10, none⟩ = some (.int .i64 A[j].l.d) ∧ w.cell? ⟨b, o + j * 15 + 11, none⟩ = some (.int .i64 A[j].d0) ∧ w.cell? ⟨b, o + j * 15 + 12, none⟩ = some (.int .i64 A[j].d1) ∧ w.cell? ⟨b, o + j * 15 + 13, none⟩ = some (.int .i64 A[j].d2) ∧ w.cell? ⟨b, o + j * 15 + 14, none⟩ = some (.bool A[j].cp))
theorem acts_of {w : World} {ao : Option Addr} {len cap : Nat} (le : len ≤ cap) (mx : cap ≤ maxLen) (r : len = 0 ∨ ∃ (b off : Nat) (R : Nat → List Value), ao = some ⟨b, off, none⟩ ∧ ∀ i, i < len → allLeaf [some .i64, some .i64, some .i64, some .i64, some .i64, some .i64, none, some .i64, none, none, some .i64, some .i64, some .i64, some .i64, none] (R i) ∧ ∀ j, j < [some IntKind.i64, some IntKind.i64, some IntKind.i64, some IntKind.i64, some IntKind.i64, some IntKind.i64, none, some IntKind.i64, none, none, some IntKind.i64, some IntKind.i64, some IntKind.i64, some IntKind.i64, none].length → w.cell? ⟨b, off + i * [some IntKind.i64, some IntKind.i64, some IntKind.i64, some IntKind.i64, some IntKind.i64, some IntKind.i64, none, some IntKind.i64, none, none, some IntKind.i64, some IntKind.i64, some IntKind.i64, some IntKind.i64, none].length + j, none⟩ = (R i)[j]?) :
    ∃ A, ActsAt w.heap.size w (.slice ao len cap) A := by
  rcases r with rfl | ⟨b, off, R, rfl, hR⟩
  · exact ⟨[], ao, cap, rfl, Nat.zero_le _, mx, .inl rfl⟩
  · have row : ∀ i, i < len → ∃ x : Ac, I64 x.l.k ∧ w.cell? ⟨b, off + i * 15, none⟩ = some (.int .i64 x.l.k) ∧ w.cell? ⟨b, off + i * 15 + 1, none⟩ = some (.int .i64 x.l.a) ∧ w.cell? ⟨b, off + i * 15 + 2, none⟩ = some (.int .i64 x.l.b) ∧ w.cell? ⟨b, off + i * 15 + 3, none⟩ = some (.int .i64 x.l.q) ∧ w.cell? ⟨b, off + i * 15 + 4, none⟩ = some (.int .i64 x.l.s) ∧ w.cell? ⟨b, off + i * 15 + 5, none⟩ = some (.int .i64 x.l.w) ∧ w.cell? ⟨b, off + i * 15 + 6, none⟩ = some (.bool x.l.r) ∧ w.cell? ⟨b, off + i * 15 + 7, none⟩ = some (.int .i64 x.l.n) ∧ w.cell? ⟨b, off + i * 15 + 8, none⟩ = some (.bool x.l.o) ∧ w.cell? ⟨b, off + i * 15 + 9, none⟩ = some (.bool x.l.h) ∧ w.cell? ⟨b, off + i * 15 + 10, none⟩ = some (.int .i64 x.l.d) ∧ w.cell? ⟨b, off + i * 15 + 11, none⟩ = some (.int .i64 x.d0) ∧ w.cell? ⟨b, off + i * 15 + 12, none⟩ = some (.int .i64 x.d1) ∧ w.cell? ⟨b, off + i * 15 + 13, none⟩ = some (.int .i64 x.d2) ∧ w.cell? ⟨b, off + i * 15 + 14, none⟩ = some (.bool x.cp) := by
      intro i hi
      obtain ⟨h0, hc⟩ := hR i hi
      obtain ⟨x0, v0, e0, w0, h1⟩ := allLeaf_int h0
      obtain ⟨x1, v1, e1, w1, h2⟩ := allLeaf_int h1
      obtain ⟨x2, v2, e2, w2, h3⟩ := allLeaf_int h2
      obtain ⟨x3, v3, e3, w3, h4⟩ := allLeaf_int h3
      obtain ⟨x4, v4, e4, w4, h5⟩ := allLeaf_int h4
      obtain ⟨x5, v5, e5, w5, h6⟩ := allLeaf_int h5
      obtain ⟨x6, v6, e6, h7⟩ := allLeaf_bool h6
      obtain ⟨x7, v7, e7, w7, h8⟩ := allLeaf_int h7
      obtain ⟨x8, v8, e8, h9⟩ := allLeaf_bool h8
      obtain ⟨x9, v9, e9, h10⟩ := allLeaf_bool h9
      obtain ⟨x10, v10, e10, w10, h11⟩ := allLeaf_int h10
      obtain ⟨x11, v11, e11, w11, h12⟩ := allLeaf_int h11
      obtain ⟨x12, v12, e12, w12, h13⟩ := allLeaf_int h12
      obtain ⟨x13, v13, e13, w13, h14⟩ := allLeaf_int h13
      obtain ⟨x14, v14, e14, h15⟩ := allLeaf_bool h14
      have q : ∀ j, j < 15 → w.cell? ⟨b, off + i * 15 + j, none⟩ = (R i)[j]? := fun j hj => by simpa using hc j (by simpa using hj)
      rw [e0, e1, e2, e3, e4, e5, e6, e7, e8, e9, e10, e11, e12, e13, e14, allLeaf_nil h15] at q
      exact ⟨⟨⟨x0, x1, x2, x3, x4, x5, x6, x7, x8, x9, x10⟩, x11, x12, x13, x14⟩, i64_of w0, q 0 (by omega), q 1 (by omega), q 2 (by omega), q 3 (by omega), q 4 (by omega), q 5 (by omega), q 6 (by omega), q 7 (by omega), q 8 (by omega), q 9 (by omega), q 10 (by omega), q 11 (by omega), q 12 (by omega), q 13 (by omega), q 14 (by omega)⟩
    obtain ⟨f, hf⟩ := @Go.Deep.choose_lt Ac ⟨⟨lt0, 0, 0, 0, false⟩⟩ len (fun i x => I64 x.l.k ∧ w.cell? ⟨b, off + i * 15, none⟩ = some (.int .i64 x.l.k) ∧ w.cell? ⟨b, off + i * 15 + 1, none⟩ = some (.int .i64 x.l.a) ∧ w.cell? ⟨b, off + i * 15 + 2, none⟩ = some (.int .i64 x.l.b) ∧ w.cell? ⟨b, off + i * 15 + 3, none⟩ = some (.int .i64 x.l.q) ∧ w.cell? ⟨b, off + i * 15 + 4, none⟩ = some (.int .i64 x.l.s) ∧ w.cell? ⟨b, off + i * 15 + 5, none⟩ = some (.int .i64 x.l.w) ∧ w.cell? ⟨b, off + i * 15 + 6, none⟩ = some (.bool x.l.r) ∧ w.cell? ⟨b, off + i * 15 + 7, none⟩ = some (.int .i64 x.l.n) ∧ w.cell? ⟨b, off + i * 15 + 8, none⟩ = some (.bool x.l.o) ∧ w.cell? ⟨b, off + i * 15 + 9, none⟩ = some (.bool x.l.h) ∧ w.cell? ⟨b, off + i * 15 + 10, none⟩ = some (.int .i64 x.l.d) ∧ w.cell? ⟨b, off + i * 15 + 11, none⟩ = some (.int .i64 x.d0) ∧ w.cell? ⟨b, off + i * 15 + 12, none⟩ = some (.int .i64 x.d1) ∧ w.cell? ⟨b, off + i * 15 + 13, none⟩ = some (.int .i64 x.d2) ∧ w.cell? ⟨b, off + i * 15 + 14, none⟩ = some (.bool x.cp)) row
    by_cases hz : len = 0
    · subst hz
      exact ⟨[], some ⟨b, off, none⟩, cap, rfl, Nat.zero_le _, mx, .inl rfl⟩
    · refine ⟨(List.range len).map f, some ⟨b, off, none⟩, cap, by simp, by simpa using le, mx, .inr ⟨b, off, rfl, cell_lt (hf 0 (by omega)).2.1, Nat.le_refl _, fun j h => ?_⟩⟩
      have h' : j < len := by simpa using h
      have e : ((List.range len).map f)[j] = f j := by simp
      rw [e]
      exact hf j h'
theorem ActsAt.below {B : Nat} {w w' : World} {v : Value} {A : List Ac} (h : ActsAt B w v A) (hb : Below B w w') : ActsAt B w' v A := by
  obtain ⟨ao, cap, rfl, h1, h2, h4⟩ := h
  refine ⟨ao, cap, rfl, h1, h2, ?_⟩
  rcases h4 with h4 | ⟨b, o, rfl, h5, h6, h7⟩
  · exact .inl h4
  · have e : ∀ k, w'.cell? ⟨b, k, none⟩ = w.cell? ⟨b, k, none⟩ := fun k => hb.cell (p := ⟨b, k, none⟩) h5
    refine .inr ⟨b, o, rfl, h5, Nat.le_trans h6 hb.size, fun j h => ?_⟩
    simp only [e]
    exact h7 j h
theorem ActsAt.up {B : Nat} {w : World} {v : Value} {A : List Ac} (h : ActsAt B w v A) : ActsAt w.heap.size w v A := by
  obtain ⟨ao, cap, rfl, h1, h2, h4⟩ := h
  refine ⟨ao, cap, rfl, h1, h2, ?_⟩
  rcases h4 with h4 | ⟨b, o, rfl, h5, h6, h7⟩
  · exact .inl h4
  · exact .inr ⟨b, o, rfl, by omega, Nat.le_refl _, h7⟩
theorem acts_row {B : Nat} {w : World} {ao : Option Addr} {n cap : Nat} {A : List Ac} (h : ActsAt B w (.slice ao n cap) A) {j : Nat} (hj : j < A.length) :
    ∃ b o, ao = some ⟨b, o, none⟩ ∧ b < B ∧ b < w.heap.size ∧ I64 A[j].l.k ∧ w.cell? ⟨b, o + j * 15, none⟩ = some (.int .i64 A[j].l.k) ∧ w.cell? ⟨b, o + j * 15 + 1, none⟩ = some (.int .i64 A[j].l.a) ∧ w.cell? ⟨b, o + j * 15 + 2, none⟩ = some (.int .i64 A[j].l.b) ∧ w.cell? ⟨b, o + j * 15 + 3, none⟩ = some (.int .i64 A[j].l.q) ∧ w.cell? ⟨b, o + j * 15 + 4, none⟩ = some (.int .i64 A[j].l.s) ∧ w.cell? ⟨b, o + j * 15 + 5, none⟩ = some (.int .i64 A[j].l.w) ∧ w.cell? ⟨b, o + j * 15 + 6, none⟩ = some (.bool A[j].l.r) ∧ w.cell? ⟨b, o + j * 15 + 7, none⟩ = some (.int .i64 A[j].l.n) ∧ w.cell? ⟨b, o + j * 15 + 8, none⟩ = some (.bool A[j].l.o) ∧ w.cell? ⟨b, o + j * 15 + 9, none⟩ = some (.bool A[j].l.h) ∧ w.cell? ⟨b, o + j * 15 + 10, none⟩ = some (.int .i64 A[j].l.d) ∧ w.cell? ⟨b, o + j * 15 + 11, none⟩ = some (.int .i64 A[j].d0) ∧ w.cell? ⟨b, o + j * 15 + 12, none⟩ = some (.int .i64 A[j].d1) ∧ w.cell? ⟨b, o + j * 15 + 13, none⟩ = some (.int .i64 A[j].d2) ∧ w.cell? ⟨b, o + j * 15 + 14, none⟩ = some (.bool A[j].cp) := by
  obtain ⟨ao', cap', e, h1, h2, h4⟩ := h
  simp only [Value.slice.injEq] at e
  obtain ⟨rfl, _, _⟩ := e
  rcases h4 with rfl | ⟨b, o, rfl, h5, h6, h7⟩
  · simp at hj
  · exact ⟨b, o, rfl, h5, by omega, h7 j hj⟩
structure AcAt (w : World) (b : Nat) (x : Ac) : Prop where
  lt : b < w.heap.size
  cs : w.cell? ⟨b, 0, none⟩ = some (.int .i64 x.l.k) ∧ w.cell? ⟨b, 1, none⟩ = some (.int .i64 x.l.a) ∧ w.cell? ⟨b, 2, none⟩ = some (.int .i64 x.l.b) ∧ w.cell? ⟨b, 3, none⟩ = some (.int .i64 x.l.q) ∧ w.cell? ⟨b, 4, none⟩ = some (.int .i64 x.l.s) ∧ w.cell? ⟨b, 5, none⟩ = some (.int .i64 x.l.w) ∧ w.cell? ⟨b, 6, none⟩ = some (.bool x.l.r) ∧ w.cell? ⟨b, 7, none⟩ = some (.int .i64 x.l.n) ∧ w.cell? ⟨b, 8, none⟩ = some (.bool x.l.o) ∧ w.cell? ⟨b, 9, none⟩ = some (.bool x.l.h) ∧ w.cell? ⟨b, 10, none⟩ = some (.int .i64 x.l.d) ∧ w.cell? ⟨b, 11, none⟩ = some (.int .i64 x.d0) ∧ w.cell? ⟨b, 12, none⟩ = some (.int .i64 x.d1) ∧ w.cell? ⟨b, 13, none⟩ = some (.int .i64 x.d2) ∧ w.cell? ⟨b, 14, none⟩ = some (.bool x.cp)
theorem AcAt.carry {w w' : World} {b : Nat} {x : Ac} (h : AcAt w b x) (e : w'.heap[b]? = w.heap[b]?) : AcAt w' b x :=
  ⟨block_lt h.lt e, by simp only [World.cell?_of_block (w := w) (w' := w') (a := ⟨b, _, none⟩) e]; exact h.cs⟩
theorem AcAt.below {w w' : World} {b : Nat} {x : Ac} (h : AcAt w b x) (hb : Below w.heap.size w w') : AcAt w' b x := h.carry (hb.block b h.lt)
theorem AcAt.fr {w w' : World} {b : Nat} {x : Ac} {F : Nat → Prop} (h : AcAt w b x) (hf : FrS F w w') (hn : ¬ F b) : AcAt w' b x := h.carry (hf.block b h.lt hn)
theorem acts_new (w : World) (x : Ac) : AcAt (w.alloc (actsO x)) w.heap.size x :=
  ⟨by simp, cell_of_row _ _ _ _ _ _ (heap_alloc_new w _), cell_of_row _ _ _ _ _ _ (heap_alloc_new w _), cell_of_row _ _ _ _ _ _ (heap_alloc_new w _), cell_of_row _ _ _ _ _ _ (heap_alloc_new w _), cell_of_row _ _ _ _ _ _ (heap_alloc_new w _), cell_of_row _ _ _ _ _ _ (heap_alloc_new w _), cell_of_row _ _ _ _ _ _ (heap_alloc_new w _), cell_of_row _ _ _ _ _ _ (heap_alloc_new w _), cell_of_row _ _ _ _ _ _ (heap_alloc_new w _), cell_of_row _ _ _ _ _ _ (heap_alloc_new w _), cell_of_row _ _ _ _ _ _ (heap_alloc_new w _), cell_of_row _ _ _ _ _ _ (heap_alloc_new w _), cell_of_row _ _ _ _ _ _ (heap_alloc_new w _), cell_of_row _ _ _ _ _ _ (heap_alloc_new w _), cell_of_row _ _ _ _ _ _ (heap_alloc_new w _)⟩
end Go.Proofs.YtmgjgeaigdiadaaDoor
