/- The laws' arguments of layer 14: slices of rows, as they lie. Written by wip/genacts.py. -/
import Derived.Test.YtmdioofpghbjbaaPrMath
import Derived.Test.YtmdioofpghbjbaaRowsOf
namespace Go.Proofs.Ytmdioofpghbjbaa
open Go.ChangeShapes Go.WideShapes Go.ChangeAt Go.RowKit
set_option linter.unusedSimpArgs false
set_option linter.unusedVariables false
set_option maxRecDepth 10000

attribute [local go_sem, local simp] over_const setCell_drewN alloc_drewN Over.cell Over.frozen lt_s1 lt_s2 lt_s3 le_s0 le_s1 le_s2 le_s3 eq_s0 eq_s1 eq_s2 qe_s0

theorem cell_lt {w : World} {b o : Nat} {v : Value} (h : w.cell? ⟨b, o, none⟩ = some v) : b < w.heap.size := by
  apply Classical.byContradiction
  intro hn
  have : w.heap[b]? = none := Array.getElem?_eq_none (by omega)
  simp [World.cell?, this] at h
theorem i64_of {n : Int} (h : (Lit.int .i64 n).wf = true) : I64 n := by
  have := bounds_i64 h
  unfold I64
  omega

/-- A call. -/
structure Ac where
  k : Int
  op : Op3

abbrev actsO (x : Ac) : Obj := .cells #[.int .i64 x.k, .int .i64 x.op.b, .bool x.op.w, .int .i64 x.op.v] 34

/-- A slice value of the rows A, which lie below block B. -/
def ActsAt (B : Nat) (w : World) (v : Value) (A : List Ac) : Prop :=
  ∃ ao cap, v = .slice ao A.length cap ∧ A.length ≤ cap ∧ cap ≤ maxLen ∧
    (A = [] ∨ ∃ b o, ao = some ⟨b, o, none⟩ ∧ b < B ∧ B ≤ w.heap.size ∧ ∀ j (h : j < A.length), True ∧ w.cell? ⟨b, o + j * 4, none⟩ = some (.int .i64 A[j].k) ∧ w.cell? ⟨b, o + j * 4 + 1, none⟩ = some (.int .i64 A[j].op.b) ∧ w.cell? ⟨b, o + j * 4 + 2, none⟩ = some (.bool A[j].op.w) ∧ w.cell? ⟨b, o + j * 4 + 3, none⟩ = some (.int .i64 A[j].op.v))

theorem acts_of {w : World} {ao : Option Addr} {len cap : Nat} (le : len ≤ cap) (mx : cap ≤ maxLen) (r : len = 0 ∨ ∃ (b off : Nat) (R : Nat → List Value), ao = some ⟨b, off, none⟩ ∧ ∀ i, i < len → allLeaf [some .i64, some .i64, none, some .i64] (R i) ∧ ∀ j, j < [some IntKind.i64, some IntKind.i64, none, some IntKind.i64].length → w.cell? ⟨b, off + i * [some IntKind.i64, some IntKind.i64, none, some IntKind.i64].length + j, none⟩ = (R i)[j]?) :
    ∃ A, ActsAt w.heap.size w (.slice ao len cap) A := by
  rcases r with rfl | ⟨b, off, R, rfl, hR⟩
  · exact ⟨[], ao, cap, rfl, Nat.zero_le _, mx, .inl rfl⟩
  · have row : ∀ i, i < len → ∃ x : Ac, True ∧ w.cell? ⟨b, off + i * 4, none⟩ = some (.int .i64 x.k) ∧ w.cell? ⟨b, off + i * 4 + 1, none⟩ = some (.int .i64 x.op.b) ∧ w.cell? ⟨b, off + i * 4 + 2, none⟩ = some (.bool x.op.w) ∧ w.cell? ⟨b, off + i * 4 + 3, none⟩ = some (.int .i64 x.op.v) := by
      intro i hi
      obtain ⟨h0, hc⟩ := hR i hi
      obtain ⟨x0, v0, e0, w0, h1⟩ := allLeaf_int h0
      obtain ⟨x1, v1, e1, w1, h2⟩ := allLeaf_int h1
      obtain ⟨x2, v2, e2, h3⟩ := allLeaf_bool h2
      obtain ⟨x3, v3, e3, w3, h4⟩ := allLeaf_int h3
      have q : ∀ j, j < 4 → w.cell? ⟨b, off + i * 4 + j, none⟩ = (R i)[j]? := fun j hj => by simpa using hc j (by simpa using hj)
      rw [e0, e1, e2, e3, allLeaf_nil h4] at q
      exact ⟨⟨x0, ⟨x1, x2, x3⟩⟩, trivial, q 0 (by omega), q 1 (by omega), q 2 (by omega), q 3 (by omega)⟩
    obtain ⟨f, hf⟩ := @Go.Deep.choose_lt Ac ⟨⟨0, ⟨0, false, 0⟩⟩⟩ len (fun i x => True ∧ w.cell? ⟨b, off + i * 4, none⟩ = some (.int .i64 x.k) ∧ w.cell? ⟨b, off + i * 4 + 1, none⟩ = some (.int .i64 x.op.b) ∧ w.cell? ⟨b, off + i * 4 + 2, none⟩ = some (.bool x.op.w) ∧ w.cell? ⟨b, off + i * 4 + 3, none⟩ = some (.int .i64 x.op.v)) row
    by_cases hz : len = 0
    · subst hz
      exact ⟨[], some ⟨b, off, none⟩, cap, rfl, Nat.zero_le _, mx, .inl rfl⟩
    · refine ⟨(List.range len).map f, some ⟨b, off, none⟩, cap, by simp, by simpa using le, mx, .inr ⟨b, off, rfl, cell_lt (hf 0 (by omega)).2.1, Nat.le_refl _, fun j h => ?_⟩⟩
      have h' : j < len := by simpa using h
      have e : ((List.range len).map f)[j] = f j := by simp
      rw [e]
      exact hf j h'

theorem ActsAt.below {B : Nat} {w w' : World} {v : Value} {A : List Ac} (h : ActsAt B w v A) (hb : Below B w w') : ActsAt B w' v A := by
  obtain ⟨ao, cap, rfl, h1, h2, h4⟩ := h
  refine ⟨ao, cap, rfl, h1, h2, ?_⟩
  rcases h4 with h4 | ⟨b, o, rfl, h5, h6, h7⟩
  · exact .inl h4
  · have e : ∀ k, w'.cell? ⟨b, k, none⟩ = w.cell? ⟨b, k, none⟩ := fun k => hb.cell (p := ⟨b, k, none⟩) h5
    refine .inr ⟨b, o, rfl, h5, Nat.le_trans h6 hb.size, fun j h => ?_⟩
    simp only [e]
    exact h7 j h

theorem ActsAt.up {B : Nat} {w : World} {v : Value} {A : List Ac} (h : ActsAt B w v A) : ActsAt w.heap.size w v A := by
  obtain ⟨ao, cap, rfl, h1, h2, h4⟩ := h
  refine ⟨ao, cap, rfl, h1, h2, ?_⟩
  rcases h4 with h4 | ⟨b, o, rfl, h5, h6, h7⟩
  · exact .inl h4
  · exact .inr ⟨b, o, rfl, by omega, Nat.le_refl _, h7⟩

/-- One row's cells, as they lie. -/
theorem acts_row {B : Nat} {w : World} {ao : Option Addr} {n cap : Nat} {A : List Ac} (h : ActsAt B w (.slice ao n cap) A) {j : Nat} (hj : j < A.length) :
    ∃ b o, ao = some ⟨b, o, none⟩ ∧ b < B ∧ b < w.heap.size ∧ True ∧ w.cell? ⟨b, o + j * 4, none⟩ = some (.int .i64 A[j].k) ∧ w.cell? ⟨b, o + j * 4 + 1, none⟩ = some (.int .i64 A[j].op.b) ∧ w.cell? ⟨b, o + j * 4 + 2, none⟩ = some (.bool A[j].op.w) ∧ w.cell? ⟨b, o + j * 4 + 3, none⟩ = some (.int .i64 A[j].op.v) := by
  obtain ⟨ao', cap', e, h1, h2, h4⟩ := h
  simp only [Value.slice.injEq] at e
  obtain ⟨rfl, _, _⟩ := e
  rcases h4 with rfl | ⟨b, o, rfl, h5, h6, h7⟩
  · simp at hj
  · exact ⟨b, o, rfl, h5, by omega, h7 j hj⟩

/-- A row in a block of its own. -/
structure AcAt (w : World) (b : Nat) (x : Ac) : Prop where
  lt : b < w.heap.size
  cs : w.cell? ⟨b, 0, none⟩ = some (.int .i64 x.k) ∧ w.cell? ⟨b, 1, none⟩ = some (.int .i64 x.op.b) ∧ w.cell? ⟨b, 2, none⟩ = some (.bool x.op.w) ∧ w.cell? ⟨b, 3, none⟩ = some (.int .i64 x.op.v)

theorem AcAt.carry {w w' : World} {b : Nat} {x : Ac} (h : AcAt w b x) (e : w'.heap[b]? = w.heap[b]?) : AcAt w' b x :=
  ⟨block_lt h.lt e, by simp only [World.cell?_of_block (w := w) (w' := w') (a := ⟨b, _, none⟩) e]; exact h.cs⟩
theorem AcAt.below {w w' : World} {b : Nat} {x : Ac} (h : AcAt w b x) (hb : Below w.heap.size w w') : AcAt w' b x := h.carry (hb.block b h.lt)
theorem AcAt.fr {w w' : World} {b : Nat} {x : Ac} {F : Nat → Prop} (h : AcAt w b x) (hf : FrS F w w') (hn : ¬ F b) : AcAt w' b x := h.carry (hf.block b h.lt hn)
theorem acts_new (w : World) (x : Ac) : AcAt (w.alloc (actsO x)) w.heap.size x :=
  ⟨by simp, cell_of_row _ _ _ _ _ _ (heap_alloc_new w _), cell_of_row _ _ _ _ _ _ (heap_alloc_new w _), cell_of_row _ _ _ _ _ _ (heap_alloc_new w _), cell_of_row _ _ _ _ _ _ (heap_alloc_new w _)⟩

abbrev opsO (x : Op3) : Obj := .cells #[.int .i64 x.b, .bool x.w, .int .i64 x.v] 28

/-- A slice value of the rows A, which lie below block B. -/
def OpsAt (B : Nat) (w : World) (v : Value) (A : List Op3) : Prop :=
  ∃ ao cap, v = .slice ao A.length cap ∧ A.length ≤ cap ∧ cap ≤ maxLen ∧
    (A = [] ∨ ∃ b o, ao = some ⟨b, o, none⟩ ∧ b < B ∧ B ≤ w.heap.size ∧ ∀ j (h : j < A.length), True ∧ w.cell? ⟨b, o + j * 3, none⟩ = some (.int .i64 A[j].b) ∧ w.cell? ⟨b, o + j * 3 + 1, none⟩ = some (.bool A[j].w) ∧ w.cell? ⟨b, o + j * 3 + 2, none⟩ = some (.int .i64 A[j].v))

theorem ops_of {w : World} {ao : Option Addr} {len cap : Nat} (le : len ≤ cap) (mx : cap ≤ maxLen) (r : len = 0 ∨ ∃ (b off : Nat) (R : Nat → List Value), ao = some ⟨b, off, none⟩ ∧ ∀ i, i < len → allLeaf [some .i64, none, some .i64] (R i) ∧ ∀ j, j < [some IntKind.i64, none, some IntKind.i64].length → w.cell? ⟨b, off + i * [some IntKind.i64, none, some IntKind.i64].length + j, none⟩ = (R i)[j]?) :
    ∃ A, OpsAt w.heap.size w (.slice ao len cap) A := by
  rcases r with rfl | ⟨b, off, R, rfl, hR⟩
  · exact ⟨[], ao, cap, rfl, Nat.zero_le _, mx, .inl rfl⟩
  · have row : ∀ i, i < len → ∃ x : Op3, True ∧ w.cell? ⟨b, off + i * 3, none⟩ = some (.int .i64 x.b) ∧ w.cell? ⟨b, off + i * 3 + 1, none⟩ = some (.bool x.w) ∧ w.cell? ⟨b, off + i * 3 + 2, none⟩ = some (.int .i64 x.v) := by
      intro i hi
      obtain ⟨h0, hc⟩ := hR i hi
      obtain ⟨x0, v0, e0, w0, h1⟩ := allLeaf_int h0
      obtain ⟨x1, v1, e1, h2⟩ := allLeaf_bool h1
      obtain ⟨x2, v2, e2, w2, h3⟩ := allLeaf_int h2
      have q : ∀ j, j < 3 → w.cell? ⟨b, off + i * 3 + j, none⟩ = (R i)[j]? := fun j hj => by simpa using hc j (by simpa using hj)
      rw [e0, e1, e2, allLeaf_nil h3] at q
      exact ⟨⟨x0, x1, x2⟩, trivial, q 0 (by omega), q 1 (by omega), q 2 (by omega)⟩
    obtain ⟨f, hf⟩ := @Go.Deep.choose_lt Op3 ⟨⟨0, false, 0⟩⟩ len (fun i x => True ∧ w.cell? ⟨b, off + i * 3, none⟩ = some (.int .i64 x.b) ∧ w.cell? ⟨b, off + i * 3 + 1, none⟩ = some (.bool x.w) ∧ w.cell? ⟨b, off + i * 3 + 2, none⟩ = some (.int .i64 x.v)) row
    by_cases hz : len = 0
    · subst hz
      exact ⟨[], some ⟨b, off, none⟩, cap, rfl, Nat.zero_le _, mx, .inl rfl⟩
    · refine ⟨(List.range len).map f, some ⟨b, off, none⟩, cap, by simp, by simpa using le, mx, .inr ⟨b, off, rfl, cell_lt (hf 0 (by omega)).2.1, Nat.le_refl _, fun j h => ?_⟩⟩
      have h' : j < len := by simpa using h
      have e : ((List.range len).map f)[j] = f j := by simp
      rw [e]
      exact hf j h'

theorem OpsAt.below {B : Nat} {w w' : World} {v : Value} {A : List Op3} (h : OpsAt B w v A) (hb : Below B w w') : OpsAt B w' v A := by
  obtain ⟨ao, cap, rfl, h1, h2, h4⟩ := h
  refine ⟨ao, cap, rfl, h1, h2, ?_⟩
  rcases h4 with h4 | ⟨b, o, rfl, h5, h6, h7⟩
  · exact .inl h4
  · have e : ∀ k, w'.cell? ⟨b, k, none⟩ = w.cell? ⟨b, k, none⟩ := fun k => hb.cell (p := ⟨b, k, none⟩) h5
    refine .inr ⟨b, o, rfl, h5, Nat.le_trans h6 hb.size, fun j h => ?_⟩
    simp only [e]
    exact h7 j h

theorem OpsAt.up {B : Nat} {w : World} {v : Value} {A : List Op3} (h : OpsAt B w v A) : OpsAt w.heap.size w v A := by
  obtain ⟨ao, cap, rfl, h1, h2, h4⟩ := h
  refine ⟨ao, cap, rfl, h1, h2, ?_⟩
  rcases h4 with h4 | ⟨b, o, rfl, h5, h6, h7⟩
  · exact .inl h4
  · exact .inr ⟨b, o, rfl, by omega, Nat.le_refl _, h7⟩

/-- One row's cells, as they lie. -/
theorem ops_row {B : Nat} {w : World} {ao : Option Addr} {n cap : Nat} {A : List Op3} (h : OpsAt B w (.slice ao n cap) A) {j : Nat} (hj : j < A.length) :
    ∃ b o, ao = some ⟨b, o, none⟩ ∧ b < B ∧ b < w.heap.size ∧ True ∧ w.cell? ⟨b, o + j * 3, none⟩ = some (.int .i64 A[j].b) ∧ w.cell? ⟨b, o + j * 3 + 1, none⟩ = some (.bool A[j].w) ∧ w.cell? ⟨b, o + j * 3 + 2, none⟩ = some (.int .i64 A[j].v) := by
  obtain ⟨ao', cap', e, h1, h2, h4⟩ := h
  simp only [Value.slice.injEq] at e
  obtain ⟨rfl, _, _⟩ := e
  rcases h4 with rfl | ⟨b, o, rfl, h5, h6, h7⟩
  · simp at hj
  · exact ⟨b, o, rfl, h5, by omega, h7 j hj⟩

/-- A row in a block of its own. -/
structure OpAt (w : World) (b : Nat) (x : Op3) : Prop where
  lt : b < w.heap.size
  cs : w.cell? ⟨b, 0, none⟩ = some (.int .i64 x.b) ∧ w.cell? ⟨b, 1, none⟩ = some (.bool x.w) ∧ w.cell? ⟨b, 2, none⟩ = some (.int .i64 x.v)

theorem OpAt.carry {w w' : World} {b : Nat} {x : Op3} (h : OpAt w b x) (e : w'.heap[b]? = w.heap[b]?) : OpAt w' b x :=
  ⟨block_lt h.lt e, by simp only [World.cell?_of_block (w := w) (w' := w') (a := ⟨b, _, none⟩) e]; exact h.cs⟩
theorem OpAt.below {w w' : World} {b : Nat} {x : Op3} (h : OpAt w b x) (hb : Below w.heap.size w w') : OpAt w' b x := h.carry (hb.block b h.lt)
theorem OpAt.fr {w w' : World} {b : Nat} {x : Op3} {F : Nat → Prop} (h : OpAt w b x) (hf : FrS F w w') (hn : ¬ F b) : OpAt w' b x := h.carry (hf.block b h.lt hn)
theorem ops_new (w : World) (x : Op3) : OpAt (w.alloc (opsO x)) w.heap.size x :=
  ⟨by simp, cell_of_row _ _ _ _ _ _ (heap_alloc_new w _), cell_of_row _ _ _ _ _ _ (heap_alloc_new w _), cell_of_row _ _ _ _ _ _ (heap_alloc_new w _)⟩
end Go.Proofs.Ytmdioofpghbjbaa
