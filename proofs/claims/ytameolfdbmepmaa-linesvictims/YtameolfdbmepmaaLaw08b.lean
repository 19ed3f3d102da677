/- The laws' arguments of layer 8: a slice of calls, as it lies. -/
import Derived.Test.YtameolfdbmepmaaLaw08
import Derived.Test.YtameolfdbmepmaaRowsOf
namespace Go.Proofs.Ytameolfdbmepmaa
open Go.ChangeShapes Go.WideShapes Go.ChangeAt Go.RowKit
set_option linter.unusedSimpArgs false
set_option linter.unusedVariables false

attribute [local go_sem, local simp] over_const setCell_drewN alloc_drewN Over.cell Over.frozen lt_s1 lt_s2 lt_s3 le_s0 le_s1 le_s2 le_s3 eq_s0 eq_s1 eq_s2 qe_s0

/-- A slice value of the calls A (kind, block), which lie below block B. -/
def ActsAt (B : Nat) (w : World) (v : Value) (A : List (Int × Int)) : Prop :=
  ∃ ao cap, v = .slice ao A.length cap ∧ A.length ≤ cap ∧ cap ≤ maxLen ∧ (∀ j (h : j < A.length), A[j].2 ≤ 9223372036854775807) ∧
    (A = [] ∨ ∃ b o, ao = some ⟨b, o, none⟩ ∧ b < B ∧ B ≤ w.heap.size ∧ ∀ j (h : j < A.length), w.cell? ⟨b, o + j * 2, none⟩ = some (.int .i64 A[j].1) ∧ w.cell? ⟨b, o + j * 2 + 1, none⟩ = some (.int .i64 A[j].2))

theorem cell_lt {w : World} {b o : Nat} {v : Value} (h : w.cell? ⟨b, o, none⟩ = some v) : b < w.heap.size := by
  apply Classical.byContradiction
  intro hn
  have : w.heap[b]? = none := Array.getElem?_eq_none (by omega)
  simp [World.cell?, this] at h

theorem acts_of {w : World} {ao : Option Addr} {len cap : Nat} (le : len ≤ cap) (mx : cap ≤ maxLen) (r : len = 0 ∨ ∃ (b off : Nat) (R : Nat → List Value), ao = some ⟨b, off, none⟩ ∧ ∀ i, i < len → allLeaf [some .i64, some .i64] (R i) ∧ ∀ j, j < [some IntKind.i64, some IntKind.i64].length → w.cell? ⟨b, off + i * [some IntKind.i64, some IntKind.i64].length + j, none⟩ = (R i)[j]?) :
    ∃ A, ActsAt w.heap.size w (.slice ao len cap) A := by
  rcases r with rfl | ⟨b, off, R, rfl, hR⟩
  · exact ⟨[], ao, cap, rfl, Nat.zero_le _, mx, fun j h => by simp at h, .inl rfl⟩
  · have row : ∀ i, i < len → ∃ x : Int × Int, x.2 ≤ 9223372036854775807 ∧ w.cell? ⟨b, off + i * 2, none⟩ = some (.int .i64 x.1) ∧ w.cell? ⟨b, off + i * 2 + 1, none⟩ = some (.int .i64 x.2) := by
      intro i hi
      obtain ⟨h1, h2⟩ := hR i hi
      obtain ⟨k, v1, e1, w1, h3⟩ := allLeaf_int h1
      obtain ⟨c, v2, e2, w2, h4⟩ := allLeaf_int h3
      have q0 := h2 0 (by simp)
      have q1 := h2 1 (by simp)
      rw [e1, e2] at q0 q1
      refine ⟨(k, c), (bd64 w2).2, ?_, ?_⟩
      · simpa using q0
      · simpa using q1
    obtain ⟨f, hf⟩ := @Go.Deep.choose_lt (Int × Int) ⟨(0, 0)⟩ len (fun i x => x.2 ≤ 9223372036854775807 ∧ w.cell? ⟨b, off + i * 2, none⟩ = some (.int .i64 x.1) ∧ w.cell? ⟨b, off + i * 2 + 1, none⟩ = some (.int .i64 x.2)) row
    by_cases hz : len = 0
    · subst hz
      exact ⟨[], some ⟨b, off, none⟩, cap, rfl, Nat.zero_le _, mx, fun j h => by simp at h, .inl rfl⟩
    · refine ⟨(List.range len).map f, some ⟨b, off, none⟩, cap, by simp, by simpa using le, mx, fun j h => ?_, .inr ⟨b, off, rfl, cell_lt (hf 0 (by omega)).2.1, Nat.le_refl _, fun j h => ?_⟩⟩
      · simp at h ⊢
        exact (hf j h).1
      · simp at h ⊢
        exact (hf j h).2

theorem ActsAt.below {B : Nat} {w w' : World} {v : Value} {A : List (Int × Int)} (h : ActsAt B w v A) (hb : Below B w w') : ActsAt B w' v A := by
  obtain ⟨ao, cap, rfl, h1, h2, h3, h4⟩ := h
  refine ⟨ao, cap, rfl, h1, h2, h3, ?_⟩
  rcases h4 with h4 | ⟨b, o, rfl, h5, h6, h7⟩
  · exact .inl h4
  · exact .inr ⟨b, o, rfl, h5, Nat.le_trans h6 hb.size, fun j h => ⟨(hb.cell (p := ⟨b, _, none⟩) h5).trans (h7 j h).1, (hb.cell (p := ⟨b, _, none⟩) h5).trans (h7 j h).2⟩⟩

/-- One call's cells, as they lie. -/
theorem acts_row {B : Nat} {w : World} {ao : Option Addr} {n cap : Nat} {A : List (Int × Int)} (h : ActsAt B w (.slice ao n cap) A) {j : Nat} (hj : j < A.length) :
    ∃ b o, ao = some ⟨b, o, none⟩ ∧ b < B ∧ b < w.heap.size ∧ w.cell? ⟨b, o + j * 2, none⟩ = some (.int .i64 A[j].1) ∧ w.cell? ⟨b, o + j * 2 + 1, none⟩ = some (.int .i64 A[j].2) ∧ A[j].2 ≤ 9223372036854775807 := by
  obtain ⟨ao', cap', e, h1, h2, h3, h4⟩ := h
  simp only [Value.slice.injEq] at e
  obtain ⟨rfl, _, _⟩ := e
  rcases h4 with rfl | ⟨b, o, rfl, h5, h6, h7⟩
  · simp at hj
  · exact ⟨b, o, rfl, h5, by omega, (h7 j hj).1, (h7 j hj).2, h3 j hj⟩

/-- Two numbers in a block of their own. -/
structure Box (w : World) (b : Nat) (s t : Int) : Prop where
  lt : b < w.heap.size
  c0 : w.cell? ⟨b, 0, none⟩ = some (.int .i64 s)
  c1 : w.cell? ⟨b, 1, none⟩ = some (.int .i64 t)

theorem Box.carry {w w' : World} {b : Nat} {s t : Int} (h : Box w b s t) (e : w'.heap[b]? = w.heap[b]?) : Box w' b s t :=
  ⟨block_lt h.lt e, (World.cell?_of_block (w := w) e).trans h.c0, (World.cell?_of_block (w := w) e).trans h.c1⟩
theorem Box.below {w w' : World} {b : Nat} {s t : Int} (h : Box w b s t) (hb : Below w.heap.size w w') : Box w' b s t := h.carry (hb.block b h.lt)
theorem Box.fr {w w' : World} {b : Nat} {s t : Int} {F : Nat → Prop} (h : Box w b s t) (hf : FrS F w w') (hn : ¬ F b) : Box w' b s t := h.carry (hf.block b h.lt hn)
theorem box_new (w : World) (s t : Int) (T : TypeId) : Box (w.alloc (.cells #[.int .i64 s, .int .i64 t] T)) w.heap.size s t :=
  ⟨by simp, cell_of_row _ _ _ _ _ _ (heap_alloc_new w _), cell_of_row _ _ _ _ _ _ (heap_alloc_new w _)⟩

/-- Behind a call, the two arguments' boxes. -/
theorem boxes {w w1 : World} {s t x u : Int} {T T' : TypeId} (hb : Below ((w.alloc (.cells #[.int .i64 s, .int .i64 t] T)).alloc (.cells #[.int .i64 x, .int .i64 u] T')).heap.size ((w.alloc (.cells #[.int .i64 s, .int .i64 t] T)).alloc (.cells #[.int .i64 x, .int .i64 u] T')) w1) :
    Box w1 w.heap.size s t ∧ Box w1 (w.heap.size + 1) x u ∧ Below w.heap.size w w1 ∧ w.heap.size + 2 ≤ w1.heap.size := by
  have h1 := ((box_new w s t T).below (w' := (w.alloc (.cells #[.int .i64 s, .int .i64 t] T)).alloc (.cells #[.int .i64 x, .int .i64 u] T')) ((Below.refl _ _).alloc (Nat.le_refl _) _)).below hb
  have h2 := (box_new (w.alloc (.cells #[.int .i64 s, .int .i64 t] T)) x u T').below hb
  rw [World.size_alloc] at h2
  refine ⟨h1, h2, (((Below.refl _ _).alloc (Nat.le_refl _) _).alloc (by simp) _).trans (hb.mono (by simp)), ?_⟩
  have := hb.size
  simp at this
  omega

theorem box1 {w w1 : World} {s t : Int} {T : TypeId} (hb : Below (w.alloc (.cells #[.int .i64 s, .int .i64 t] T)).heap.size (w.alloc (.cells #[.int .i64 s, .int .i64 t] T)) w1) :
    Box w1 w.heap.size s t ∧ Below w.heap.size w w1 ∧ w.heap.size + 1 ≤ w1.heap.size := by
  refine ⟨(box_new w s t T).below hb, ((Below.refl _ _).alloc (Nat.le_refl _) _).trans (hb.mono (by simp)), ?_⟩
  have := hb.size
  simpa using this

/-- Lines, the second argument's box, and that no old memory has turned. -/
structure Env (w wr : World) (p : Nat) (F : Nat → Prop) (S W : Int) (L : List Int) (x u : Int) : Prop where
  n : LnIs wr p F S W L
  f : ∀ b, F b → w.heap.size + 2 ≤ b
  box : Box wr (w.heap.size + 1) x u
  bel : Below w.heap.size w wr

theorem Env.step {w wr wz w3 : World} {p : Nat} {F F' : Nat → Prop} {S W : Int} {L L' : List Int} {x u : Int} (h : Env w wr p F S W L x u) (hz : Below wr.heap.size wr wz) (hn : LnIs w3 p F' S W L') (hs : Step F F' wz w3) : Env w w3 p F' S W L' x u := by
  have s1 := h.bel.size
  have s2 := hz.size
  refine ⟨hn, fun b hb => ?_, (h.box.below hz).fr hs.fr (fun e => by have := h.f _ e; omega), (h.bel.trans (hz.mono s1)).trans (hs.fr.below (fun i hi => by have := h.f i hi; omega) (by omega))⟩
  have := h.box.lt
  rcases hs.new b hb with h1 | h1
  · exact h.f b h1
  · omega

theorem Env.quiet {w wr wz : World} {p : Nat} {F : Nat → Prop} {S W : Int} {L : List Int} {x u : Int} (h : Env w wr p F S W L x u) (hz : Below wr.heap.size wr wz) : Env w wz p F S W L x u := h.step hz (h.n.below hz) (Step.refl _ _)

theorem Env.first {w w1 w2 : World} {p : Nat} {F : Nat → Prop} {S W x u : Int} (B : Box w1 (w.heap.size + 1) x u) (hB : Below w.heap.size w w1) (hs : w.heap.size + 2 ≤ w1.heap.size) (hn : LnIs w2 p F S W []) (hb : Below w1.heap.size w1 w2) (hF : ∀ b, F b → w1.heap.size ≤ b) : Env w w2 p F S W [] x u :=
  ⟨hn, fun b h => Nat.le_trans hs (hF b h), B.below hb, hB.trans (hb.mono (by omega))⟩

theorem belA (w : World) (o : Obj) : Below w.heap.size w (w.alloc o) := (Below.refl _ _).alloc (Nat.le_refl _) _
theorem belD (w : World) (n : Nat) : Below w.heap.size w (w.drewN n) := belowN (Below.refl _ _) n
end Go.Proofs.Ytameolfdbmepmaa
