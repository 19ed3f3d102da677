/- The laws' arguments of layer 9: a slice of calls, as it lies; right; a cache in a law. Written by wip/gen09.py. -/
import Derived.Test.YtooopcadefpncaaCacA
import Derived.Test.YtooopcadefpncaaCacF
import Derived.Test.YtooopcadefpncaaCacE
import Derived.Test.YtooopcadefpncaaCacT
import Derived.Test.YtooopcadefpncaaCacMath2
import Derived.Test.YtooopcadefpncaaRef02
import Derived.Test.YtooopcadefpncaaRowsOf
import Derived.Test.YtooopcadefpncaaAwk09
namespace Go.Proofs.Ytooopcadefpncaa
open Go.ChangeShapes Go.WideShapes Go.ChangeAt Go.RowKit
set_option linter.unusedSimpArgs false
set_option linter.unusedVariables false
set_option maxRecDepth 10000

attribute [local go_sem, local simp] over_const setCell_drewN alloc_drewN Over.cell Over.frozen lt_s1 lt_s2 lt_s3 le_s0 le_s1 le_s2 le_s3 eq_s0 eq_s1 eq_s2 qe_s0

/-- A call. -/
structure Ac where
  k : Int
  bl : Int
  ct : Int
  pn : Int
  o : Bool
  d : Bool
  t : Bun
  ob : Int
  ow : Bool
  ov : Int

abbrev acO (x : Ac) : Obj := .cells #[.int .i64 x.k, .int .i64 x.bl, .int .i64 x.ct, .int .i64 x.pn, .bool x.o, .bool x.d, .int .i64 x.t.n, .bool x.t.o, .bool x.t.h, .int .i64 x.t.d, .int .i64 x.ob, .bool x.ow, .int .i64 x.ov] 35

/-- A slice value of the calls A, which lie below block B. -/
def ActsAt (B : Nat) (w : World) (v : Value) (A : List Ac) : Prop :=
  ∃ ao cap, v = .slice ao A.length cap ∧ A.length ≤ cap ∧ cap ≤ maxLen ∧ (∀ a ∈ A, I64 a.bl ∧ I64 a.ob) ∧
    (A = [] ∨ ∃ b o, ao = some ⟨b, o, none⟩ ∧ b < B ∧ B ≤ w.heap.size ∧ ∀ j (h : j < A.length), w.cell? ⟨b, o + j * 13, none⟩ = some (.int .i64 A[j].k) ∧ w.cell? ⟨b, o + j * 13 + 1, none⟩ = some (.int .i64 A[j].bl) ∧ w.cell? ⟨b, o + j * 13 + 2, none⟩ = some (.int .i64 A[j].ct) ∧ w.cell? ⟨b, o + j * 13 + 3, none⟩ = some (.int .i64 A[j].pn) ∧ w.cell? ⟨b, o + j * 13 + 4, none⟩ = some (.bool A[j].o) ∧ w.cell? ⟨b, o + j * 13 + 5, none⟩ = some (.bool A[j].d) ∧ w.cell? ⟨b, o + j * 13 + 6, none⟩ = some (.int .i64 A[j].t.n) ∧ w.cell? ⟨b, o + j * 13 + 7, none⟩ = some (.bool A[j].t.o) ∧ w.cell? ⟨b, o + j * 13 + 8, none⟩ = some (.bool A[j].t.h) ∧ w.cell? ⟨b, o + j * 13 + 9, none⟩ = some (.int .i64 A[j].t.d) ∧ w.cell? ⟨b, o + j * 13 + 10, none⟩ = some (.int .i64 A[j].ob) ∧ w.cell? ⟨b, o + j * 13 + 11, none⟩ = some (.bool A[j].ow) ∧ w.cell? ⟨b, o + j * 13 + 12, none⟩ = some (.int .i64 A[j].ov))

theorem cell_lt {w : World} {b o : Nat} {v : Value} (h : w.cell? ⟨b, o, none⟩ = some v) : b < w.heap.size := by
  apply Classical.byContradiction
  intro hn
  have : w.heap[b]? = none := Array.getElem?_eq_none (by omega)
  simp [World.cell?, this] at h

theorem i64_of {n : Int} (h : (Lit.int .i64 n).wf = true) : I64 n := bd64 h

theorem acts_of {w : World} {ao : Option Addr} {len cap : Nat} (le : len ≤ cap) (mx : cap ≤ maxLen) (r : len = 0 ∨ ∃ (b off : Nat) (R : Nat → List Value), ao = some ⟨b, off, none⟩ ∧ ∀ i, i < len → allLeaf [some .i64, some .i64, some .i64, some .i64, none, none, some .i64, none, none, some .i64, some .i64, none, some .i64] (R i) ∧ ∀ j, j < [some IntKind.i64, some IntKind.i64, some IntKind.i64, some IntKind.i64, none, none, some IntKind.i64, none, none, some IntKind.i64, some IntKind.i64, none, some IntKind.i64].length → w.cell? ⟨b, off + i * [some IntKind.i64, some IntKind.i64, some IntKind.i64, some IntKind.i64, none, none, some IntKind.i64, none, none, some IntKind.i64, some IntKind.i64, none, some IntKind.i64].length + j, none⟩ = (R i)[j]?) :
    ∃ A, ActsAt w.heap.size w (.slice ao len cap) A := by
  rcases r with rfl | ⟨b, off, R, rfl, hR⟩
  · exact ⟨[], ao, cap, rfl, Nat.zero_le _, mx, fun a h => (by cases h), .inl rfl⟩
  · have row : ∀ i, i < len → ∃ x : Ac, (I64 x.bl ∧ I64 x.ob) ∧ w.cell? ⟨b, off + i * 13, none⟩ = some (.int .i64 x.k) ∧ w.cell? ⟨b, off + i * 13 + 1, none⟩ = some (.int .i64 x.bl) ∧ w.cell? ⟨b, off + i * 13 + 2, none⟩ = some (.int .i64 x.ct) ∧ w.cell? ⟨b, off + i * 13 + 3, none⟩ = some (.int .i64 x.pn) ∧ w.cell? ⟨b, off + i * 13 + 4, none⟩ = some (.bool x.o) ∧ w.cell? ⟨b, off + i * 13 + 5, none⟩ = some (.bool x.d) ∧ w.cell? ⟨b, off + i * 13 + 6, none⟩ = some (.int .i64 x.t.n) ∧ w.cell? ⟨b, off + i * 13 + 7, none⟩ = some (.bool x.t.o) ∧ w.cell? ⟨b, off + i * 13 + 8, none⟩ = some (.bool x.t.h) ∧ w.cell? ⟨b, off + i * 13 + 9, none⟩ = some (.int .i64 x.t.d) ∧ w.cell? ⟨b, off + i * 13 + 10, none⟩ = some (.int .i64 x.ob) ∧ w.cell? ⟨b, off + i * 13 + 11, none⟩ = some (.bool x.ow) ∧ w.cell? ⟨b, off + i * 13 + 12, none⟩ = some (.int .i64 x.ov) := by
      intro i hi
      obtain ⟨h0, hc⟩ := hR i hi
      obtain ⟨x0, v0, e0, w0, h1⟩ := allLeaf_int h0
      obtain ⟨x1, v1, e1, w1, h2⟩ := allLeaf_int h1
      obtain ⟨x2, v2, e2, w2, h3⟩ := allLeaf_int h2
      obtain ⟨x3, v3, e3, w3, h4⟩ := allLeaf_int h3
      obtain ⟨x4, v4, e4, h5⟩ := allLeaf_bool h4
      obtain ⟨x5, v5, e5, h6⟩ := allLeaf_bool h5
      obtain ⟨x6, v6, e6, w6, h7⟩ := allLeaf_int h6
      obtain ⟨x7, v7, e7, h8⟩ := allLeaf_bool h7
      obtain ⟨x8, v8, e8, h9⟩ := allLeaf_bool h8
      obtain ⟨x9, v9, e9, w9, h10⟩ := allLeaf_int h9
      obtain ⟨x10, v10, e10, w10, h11⟩ := allLeaf_int h10
      obtain ⟨x11, v11, e11, h12⟩ := allLeaf_bool h11
      obtain ⟨x12, v12, e12, w12, h13⟩ := allLeaf_int h12
      have q : ∀ j, j < 13 → w.cell? ⟨b, off + i * 13 + j, none⟩ = (R i)[j]? := fun j hj => by simpa using hc j (by simpa using hj)
      rw [e0, e1, e2, e3, e4, e5, e6, e7, e8, e9, e10, e11, e12, allLeaf_nil h13] at q
      exact ⟨⟨x0, x1, x2, x3, x4, x5, ⟨x6, x7, x8, x9⟩, x10, x11, x12⟩, ⟨i64_of w1, i64_of w10⟩, q 0 (by omega), q 1 (by omega), q 2 (by omega), q 3 (by omega), q 4 (by omega), q 5 (by omega), q 6 (by omega), q 7 (by omega), q 8 (by omega), q 9 (by omega), q 10 (by omega), q 11 (by omega), q 12 (by omega)⟩
    obtain ⟨f, hf⟩ := @Go.Deep.choose_lt Ac ⟨⟨0, 0, 0, 0, false, false, ⟨0, false, false, 0⟩, 0, false, 0⟩⟩ len (fun i x => (I64 x.bl ∧ I64 x.ob) ∧ w.cell? ⟨b, off + i * 13, none⟩ = some (.int .i64 x.k) ∧ w.cell? ⟨b, off + i * 13 + 1, none⟩ = some (.int .i64 x.bl) ∧ w.cell? ⟨b, off + i * 13 + 2, none⟩ = some (.int .i64 x.ct) ∧ w.cell? ⟨b, off + i * 13 + 3, none⟩ = some (.int .i64 x.pn) ∧ w.cell? ⟨b, off + i * 13 + 4, none⟩ = some (.bool x.o) ∧ w.cell? ⟨b, off + i * 13 + 5, none⟩ = some (.bool x.d) ∧ w.cell? ⟨b, off + i * 13 + 6, none⟩ = some (.int .i64 x.t.n) ∧ w.cell? ⟨b, off + i * 13 + 7, none⟩ = some (.bool x.t.o) ∧ w.cell? ⟨b, off + i * 13 + 8, none⟩ = some (.bool x.t.h) ∧ w.cell? ⟨b, off + i * 13 + 9, none⟩ = some (.int .i64 x.t.d) ∧ w.cell? ⟨b, off + i * 13 + 10, none⟩ = some (.int .i64 x.ob) ∧ w.cell? ⟨b, off + i * 13 + 11, none⟩ = some (.bool x.ow) ∧ w.cell? ⟨b, off + i * 13 + 12, none⟩ = some (.int .i64 x.ov)) row
    by_cases hz : len = 0
    · subst hz
      exact ⟨[], some ⟨b, off, none⟩, cap, rfl, Nat.zero_le _, mx, fun a h => (by cases h), .inl rfl⟩
    · refine ⟨(List.range len).map f, some ⟨b, off, none⟩, cap, by simp, by simpa using le, mx, fun a h => ?_, .inr ⟨b, off, rfl, cell_lt (hf 0 (by omega)).2.1, Nat.le_refl _, fun j h => ?_⟩⟩
      · obtain ⟨i, hi, rfl⟩ := List.mem_map.1 h
        exact (hf i (List.mem_range.1 hi)).1
      · have h' : j < len := by simpa using h
        have e : ((List.range len).map f)[j] = f j := by simp
        rw [e]
        exact (hf j h').2

theorem ActsAt.below {B : Nat} {w w' : World} {v : Value} {A : List Ac} (h : ActsAt B w v A) (hb : Below B w w') : ActsAt B w' v A := by
  obtain ⟨ao, cap, rfl, h1, h2, h3, h4⟩ := h
  refine ⟨ao, cap, rfl, h1, h2, h3, ?_⟩
  rcases h4 with h4 | ⟨b, o, rfl, h5, h6, h7⟩
  · exact .inl h4
  · have e : ∀ k, w'.cell? ⟨b, k, none⟩ = w.cell? ⟨b, k, none⟩ := fun k => hb.cell (p := ⟨b, k, none⟩) h5
    refine .inr ⟨b, o, rfl, h5, Nat.le_trans h6 hb.size, fun j h => ?_⟩
    simp only [e]
    exact h7 j h

theorem ActsAt.up {B : Nat} {w : World} {v : Value} {A : List Ac} (h : ActsAt B w v A) : ActsAt w.heap.size w v A := by
  obtain ⟨ao, cap, rfl, h1, h2, h3, h4⟩ := h
  refine ⟨ao, cap, rfl, h1, h2, h3, ?_⟩
  rcases h4 with h4 | ⟨b, o, rfl, h5, h6, h7⟩
  · exact .inl h4
  · exact .inr ⟨b, o, rfl, by omega, Nat.le_refl _, h7⟩

/-- One call's cells, as they lie. -/
theorem acts_row {B : Nat} {w : World} {ao : Option Addr} {n cap : Nat} {A : List Ac} (h : ActsAt B w (.slice ao n cap) A) {j : Nat} (hj : j < A.length) :
    ∃ b o, ao = some ⟨b, o, none⟩ ∧ b < B ∧ b < w.heap.size ∧ (I64 A[j].bl ∧ I64 A[j].ob) ∧ w.cell? ⟨b, o + j * 13, none⟩ = some (.int .i64 A[j].k) ∧ w.cell? ⟨b, o + j * 13 + 1, none⟩ = some (.int .i64 A[j].bl) ∧ w.cell? ⟨b, o + j * 13 + 2, none⟩ = some (.int .i64 A[j].ct) ∧ w.cell? ⟨b, o + j * 13 + 3, none⟩ = some (.int .i64 A[j].pn) ∧ w.cell? ⟨b, o + j * 13 + 4, none⟩ = some (.bool A[j].o) ∧ w.cell? ⟨b, o + j * 13 + 5, none⟩ = some (.bool A[j].d) ∧ w.cell? ⟨b, o + j * 13 + 6, none⟩ = some (.int .i64 A[j].t.n) ∧ w.cell? ⟨b, o + j * 13 + 7, none⟩ = some (.bool A[j].t.o) ∧ w.cell? ⟨b, o + j * 13 + 8, none⟩ = some (.bool A[j].t.h) ∧ w.cell? ⟨b, o + j * 13 + 9, none⟩ = some (.int .i64 A[j].t.d) ∧ w.cell? ⟨b, o + j * 13 + 10, none⟩ = some (.int .i64 A[j].ob) ∧ w.cell? ⟨b, o + j * 13 + 11, none⟩ = some (.bool A[j].ow) ∧ w.cell? ⟨b, o + j * 13 + 12, none⟩ = some (.int .i64 A[j].ov) := by
  obtain ⟨ao', cap', e, h1, h2, h3, h4⟩ := h
  simp only [Value.slice.injEq] at e
  obtain ⟨rfl, _, _⟩ := e
  rcases h4 with rfl | ⟨b, o, rfl, h5, h6, h7⟩
  · simp at hj
  · exact ⟨b, o, rfl, h5, by omega, h3 _ (List.getElem_mem hj), h7 j hj⟩

/-- A call in a block of its own. -/
structure AcAt (w : World) (b : Nat) (x : Ac) : Prop where
  lt : b < w.heap.size
  cs : w.cell? ⟨b, 0, none⟩ = some (.int .i64 x.k) ∧ w.cell? ⟨b, 1, none⟩ = some (.int .i64 x.bl) ∧ w.cell? ⟨b, 2, none⟩ = some (.int .i64 x.ct) ∧ w.cell? ⟨b, 3, none⟩ = some (.int .i64 x.pn) ∧ w.cell? ⟨b, 4, none⟩ = some (.bool x.o) ∧ w.cell? ⟨b, 5, none⟩ = some (.bool x.d) ∧ w.cell? ⟨b, 6, none⟩ = some (.int .i64 x.t.n) ∧ w.cell? ⟨b, 7, none⟩ = some (.bool x.t.o) ∧ w.cell? ⟨b, 8, none⟩ = some (.bool x.t.h) ∧ w.cell? ⟨b, 9, none⟩ = some (.int .i64 x.t.d) ∧ w.cell? ⟨b, 10, none⟩ = some (.int .i64 x.ob) ∧ w.cell? ⟨b, 11, none⟩ = some (.bool x.ow) ∧ w.cell? ⟨b, 12, none⟩ = some (.int .i64 x.ov)

theorem AcAt.carry {w w' : World} {b : Nat} {x : Ac} (h : AcAt w b x) (e : w'.heap[b]? = w.heap[b]?) : AcAt w' b x :=
  ⟨block_lt h.lt e, by simp only [World.cell?_of_block (w := w) (w' := w') (a := ⟨b, _, none⟩) e]; exact h.cs⟩
theorem AcAt.below {w w' : World} {b : Nat} {x : Ac} (h : AcAt w b x) (hb : Below w.heap.size w w') : AcAt w' b x := h.carry (hb.block b h.lt)
theorem AcAt.fr {w w' : World} {b : Nat} {x : Ac} {F : Nat → Prop} (h : AcAt w b x) (hf : FrS F w w') (hn : ¬ F b) : AcAt w' b x := h.carry (hf.block b h.lt hn)
theorem ac_new (w : World) (x : Ac) : AcAt (w.alloc (acO x)) w.heap.size x :=
  ⟨by simp, cell_of_row _ _ _ _ _ _ (heap_alloc_new w _), cell_of_row _ _ _ _ _ _ (heap_alloc_new w _), cell_of_row _ _ _ _ _ _ (heap_alloc_new w _), cell_of_row _ _ _ _ _ _ (heap_alloc_new w _), cell_of_row _ _ _ _ _ _ (heap_alloc_new w _), cell_of_row _ _ _ _ _ _ (heap_alloc_new w _), cell_of_row _ _ _ _ _ _ (heap_alloc_new w _), cell_of_row _ _ _ _ _ _ (heap_alloc_new w _), cell_of_row _ _ _ _ _ _ (heap_alloc_new w _), cell_of_row _ _ _ _ _ _ (heap_alloc_new w _), cell_of_row _ _ _ _ _ _ (heap_alloc_new w _), cell_of_row _ _ _ _ _ _ (heap_alloc_new w _), cell_of_row _ _ _ _ _ _ (heap_alloc_new w _)⟩

/-- What right lets in. -/
def Fine (A : List Ac) : Prop := A.length ≤ 200 ∧ ∀ a ∈ A, okB a.t ∧ a.t.n ≤ 1048576

set_option maxHeartbeats 1000000 in
theorem right_c (v : Value) (A : List Ac) (w : World) (h : ActsAt w.heap.size w v A) : Calls Try.prog 11 #[v] w fun e w' => ∃ q, e = .returned (.bool q) ∧ Below w.heap.size w w' ∧ (q = true → Fine A) := by
  have hA := hide h
  obtain ⟨ao, cap, rfl, hlc, hmx, _⟩ := h
  have hmx' : A.length ≤ 9223372036854775807 := by unfold maxLen at hmx; omega
  clear hmx
  by_cases c : 200 < (A.length : Int)
  · go_enter Try.func11, Try.ntmps11
    go_wp2_with fail
    go_ret
    exact ⟨false, rfl, Below.refl _ _, fun h => by cases h⟩
  · go_enter Try.func11, Try.ntmps11
    go_wp2_with fail
    go_loopw [10] (fun i wr => ∃ j : Nat, j ≤ A.length ∧ i = .int .i64 j ∧ Below w.heap.size w wr ∧ Hid (∀ i (h : i < A.length), i < j → okB A[i].t ∧ A[i].t.n ≤ 1048576)) (fun i _ => A.length - (intOf i).toNat)
    case atStart => exact ⟨0, Nat.zero_le _, rfl, Below.refl _ _, fun i _ h => by omega⟩
    case round =>
      obtain ⟨j, hj, rfl, hb, hs⟩ := hrel
      by_cases hlt : j < A.length
      · obtain ⟨b, o, rfl, hbB, hbl, -, r0, r1, r2, r3, r4, r5, r6, r7, r8, r9, r10, r11, r12⟩ := acts_row ((unhide hA).below hb) hlt
        have hlt' : (j : Int) < A.length := by omega
        have hst : Hid (∀ x : Ac, A[j] = x → okB x.t → x.t.n ≤ 1048576 → ∀ i (h : i < A.length), i < j + 1 → okB A[i].t ∧ A[i].t.n ≤ 1048576) := by
          intro x hx h1 h2 i h h'
          by_cases e : i = j
          · subst e; rw [hx]; exact ⟨h1, h2⟩
          · exact hs.out i h (by omega)
        obtain ⟨x, hx⟩ : ∃ x, Hid (A[j] = x) := ⟨_, hide rfl⟩
        rw [hx.out] at r0 r1 r2 r3 r4 r5 r6 r7 r8 r9 r10 r11 r12
        have hb' := hide hb
        clear hb hs
        by_cases c1 : 1048576 < x.t.n
        · go_wp2_with fail
          go_ret
          exact ⟨false, rfl, (unhide hb').alloc (unhide hb').size _, fun h => by cases h⟩
        · obtain ⟨q, hq⟩ : ∃ q, Hid ((checkZ ⟨x.t.n, x.t.o, x.t.h, x.t.d⟩ 1048576 == 0) = q) := ⟨_, rfl⟩
          go_wp2_with fail
          go_at_call 26
          refine (refRight_any x.t.n x.t.o x.t.h x.t.d 1048576 _).mono ?_
          rw [hq.out]
          rintro e w3 ⟨rfl, hb3⟩
          have hB3 := hide (((unhide hb').alloc (unhide hb').size (acO x)).trans (hb3.mono (by have := (unhide hb').size; simp; omega)))
          clear hb3
          cases q
          · go_wp2_with fail
            go_ret
            exact ⟨false, rfl, unhide hB3, fun h => by cases h⟩
          · have hok : okB x.t := okB_of x.t 1048576 (by have := hq.out; simpa using this)
            replace hok := hide hok
            go_wp2_with fail
            go_roundw
            case rel => exact ⟨j + 1, by omega, by simp, unhide hB3, unhide hst x hx.out (unhide hok) (by omega)⟩
            case measure => simp [intOf]; omega
      · obtain rfl : j = A.length := by omega
        have hb' := hide hb
        clear hb
        go_wp2_with fail
        go_ret
        refine ⟨true, rfl, unhide hb', fun _ => ⟨by omega, fun a ha => ?_⟩⟩
        obtain ⟨i, hi, rfl⟩ := List.getElem_of_mem ha
        exact hs.out i hi hi

/-- Two numbers in a block of their own. -/
structure Box (w : World) (b : Nat) (s t : Int) : Prop where
  lt : b < w.heap.size
  c0 : w.cell? ⟨b, 0, none⟩ = some (.int .i64 s)
  c1 : w.cell? ⟨b, 1, none⟩ = some (.int .i64 t)

theorem Box.carry {w w' : World} {b : Nat} {s t : Int} (h : Box w b s t) (e : w'.heap[b]? = w.heap[b]?) : Box w' b s t :=
  ⟨block_lt h.lt e, (World.cell?_of_block (w := w) e).trans h.c0, (World.cell?_of_block (w := w) e).trans h.c1⟩
theorem Box.below {w w' : World} {b : Nat} {s t : Int} (h : Box w b s t) (hb : Below w.heap.size w w') : Box w' b s t := h.carry (hb.block b h.lt)
theorem box_new (w : World) (s t : Int) (T : TypeId) : Box (w.alloc (.cells #[.int .i64 s, .int .i64 t] T)) w.heap.size s t :=
  ⟨by simp, cell_of_row _ _ _ _ _ _ (heap_alloc_new w _), cell_of_row _ _ _ _ _ _ (heap_alloc_new w _)⟩
theorem box1 {w w1 : World} {s t : Int} {T : TypeId} (hb : Below (w.alloc (.cells #[.int .i64 s, .int .i64 t] T)).heap.size (w.alloc (.cells #[.int .i64 s, .int .i64 t] T)) w1) :
    Box w1 w.heap.size s t ∧ Below w.heap.size w w1 ∧ w.heap.size + 1 ≤ w1.heap.size := by
  refine ⟨(box_new w s t T).below hb, ((Below.refl _ _).alloc (Nat.le_refl _) _).trans (hb.mono (by simp)), ?_⟩
  have := hb.size
  simpa using this

theorem belA (w : World) (o : Obj) : Below w.heap.size w (w.alloc o) := (Below.refl _ _).alloc (Nat.le_refl _) _
theorem belD (w : World) (n : Nat) : Below w.heap.size w (w.drewN n) := belowN (Below.refl _ _) n
theorem wrap_in {n : Int} (h0 : -9223372036854775808 ≤ n) (h1 : n ≤ 9223372036854775807) : IntKind.i64.wrap n = n := by rw [IntKind.wrap_i64]; omega

/-- A cache in a law, and that no old memory has turned. -/
structure CEnv (w wr : World) (c : Nat) (F : Nat → Prop) (S W N : Int) (C : Ca) : Prop where
  n : CaIs wr c F S W N C
  f : ∀ b, F b → w.heap.size ≤ b
  bel : Below w.heap.size w wr

theorem CEnv.step {w wr wz w3 : World} {c : Nat} {F F' : Nat → Prop} {S W N N' : Int} {C C' : Ca} (h : CEnv w wr c F S W N C) (hz : Below wr.heap.size wr wz) (hn : CaIs w3 c F' S W N' C') (hs : Step F F' wz w3) : CEnv w w3 c F' S W N' C' := by
  have s1 := h.bel.size
  have s2 := hz.size
  refine ⟨hn, fun b hb => ?_, (h.bel.trans (hz.mono s1)).trans (hs.fr.below h.f (by omega))⟩
  rcases hs.new b hb with h1 | h1
  · exact h.f b h1
  · omega

theorem CEnv.quiet {w wr wz : World} {c : Nat} {F : Nat → Prop} {S W N : Int} {C : Ca} (h : CEnv w wr c F S W N C) (hz : Below wr.heap.size wr wz) : CEnv w wz c F S W N C := h.step hz (h.n.below hz) (Step.refl _ _)

theorem CEnv.first {w w1 w2 : World} {c : Nat} {F : Nat → Prop} {S W N : Int} {C : Ca} (hB : Below w.heap.size w w1) (hn : CaIs w2 c F S W N C) (hb : Below w1.heap.size w1 w2) (hF : ∀ b, F b → w1.heap.size ≤ b) : CEnv w w2 c F S W N C :=
  ⟨hn, fun b h => Nat.le_trans hB.size (hF b h), hB.trans (hb.mono hB.size)⟩

theorem CEnv.mono {w wr : World} {c : Nat} {F : Nat → Prop} {S W N M : Int} {C : Ca} (h : CEnv w wr c F S W N C) (hN : N ≤ M) : CEnv w wr c F S W M C := ⟨h.n.mono hN, h.f, h.bel⟩
end Go.Proofs.Ytooopcadefpncaa
