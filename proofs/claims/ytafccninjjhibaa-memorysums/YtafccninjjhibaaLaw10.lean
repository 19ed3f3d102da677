/- The laws' arguments of layer 10: a slice of calls, as it lies; right; awake; a memory in a law. Written by wip/gen10.py. -/
import Derived.Test.YtafccninjjhibaaMemB
import Derived.Test.YtafccninjjhibaaMemC
import Derived.Test.YtafccninjjhibaaMemD
import Derived.Test.YtafccninjjhibaaMemE
import Derived.Test.YtafccninjjhibaaRef02
import Derived.Test.YtafccninjjhibaaRowsOf
namespace Go.Proofs.Ytafccninjjhibaa
open Go.ChangeShapes Go.WideShapes Go.ChangeAt Go.RowKit
set_option linter.unusedSimpArgs false
set_option linter.unusedVariables false
set_option maxRecDepth 10000

attribute [local go_sem, local simp] over_const setCell_drewN alloc_drewN Over.cell Over.frozen lt_s1 lt_s2 lt_s3 le_s0 le_s1 le_s2 le_s3 eq_s0 eq_s1 eq_s2 qe_s0

theorem field_n (w : World) (n : Int) (o h : Bool) (d : Int) : (Instr.field 31 (.agg #[.int .i64 n, .bool o, .bool h, .int .i64 d]) 0).run Try.prog w = .ok (.int .i64 n) w := by kernel_rfl

/-- A call. -/
structure Ac where
  k : Int
  bl : Int
  ct : Int
  o : Bool
  d : Bool
  t : Bun

abbrev acO (x : Ac) : Obj := .cells #[.int .i64 x.k, .int .i64 x.bl, .int .i64 x.ct, .bool x.o, .bool x.d, .int .i64 x.t.n, .bool x.t.o, .bool x.t.h, .int .i64 x.t.d] 33

/-- A slice value of the calls A, which lie below block B. -/
def ActsAt (B : Nat) (w : World) (v : Value) (A : List Ac) : Prop :=
  ∃ ao cap, v = .slice ao A.length cap ∧ A.length ≤ cap ∧ cap ≤ maxLen ∧
    (A = [] ∨ ∃ b o, ao = some ⟨b, o, none⟩ ∧ b < B ∧ B ≤ w.heap.size ∧ ∀ j (h : j < A.length), w.cell? ⟨b, o + j * 9, none⟩ = some (.int .i64 A[j].k) ∧ w.cell? ⟨b, o + j * 9 + 1, none⟩ = some (.int .i64 A[j].bl) ∧ w.cell? ⟨b, o + j * 9 + 2, none⟩ = some (.int .i64 A[j].ct) ∧ w.cell? ⟨b, o + j * 9 + 3, none⟩ = some (.bool A[j].o) ∧ w.cell? ⟨b, o + j * 9 + 4, none⟩ = some (.bool A[j].d) ∧ w.cell? ⟨b, o + j * 9 + 5, none⟩ = some (.int .i64 A[j].t.n) ∧ w.cell? ⟨b, o + j * 9 + 6, none⟩ = some (.bool A[j].t.o) ∧ w.cell? ⟨b, o + j * 9 + 7, none⟩ = some (.bool A[j].t.h) ∧ w.cell? ⟨b, o + j * 9 + 8, none⟩ = some (.int .i64 A[j].t.d))

theorem cell_lt {w : World} {b o : Nat} {v : Value} (h : w.cell? ⟨b, o, none⟩ = some v) : b < w.heap.size := by
  apply Classical.byContradiction
  intro hn
  have : w.heap[b]? = none := Array.getElem?_eq_none (by omega)
  simp [World.cell?, this] at h

theorem acts_of {w : World} {ao : Option Addr} {len cap : Nat} (le : len ≤ cap) (mx : cap ≤ maxLen) (r : len = 0 ∨ ∃ (b off : Nat) (R : Nat → List Value), ao = some ⟨b, off, none⟩ ∧ ∀ i, i < len → allLeaf [some .i64, some .i64, some .i64, none, none, some .i64, none, none, some .i64] (R i) ∧ ∀ j, j < [some IntKind.i64, some IntKind.i64, some IntKind.i64, none, none, some IntKind.i64, none, none, some IntKind.i64].length → w.cell? ⟨b, off + i * [some IntKind.i64, some IntKind.i64, some IntKind.i64, none, none, some IntKind.i64, none, none, some IntKind.i64].length + j, none⟩ = (R i)[j]?) :
    ∃ A, ActsAt w.heap.size w (.slice ao len cap) A := by
  rcases r with rfl | ⟨b, off, R, rfl, hR⟩
  · exact ⟨[], ao, cap, rfl, Nat.zero_le _, mx, .inl rfl⟩
  · have row : ∀ i, i < len → ∃ x : Ac, w.cell? ⟨b, off + i * 9, none⟩ = some (.int .i64 x.k) ∧ w.cell? ⟨b, off + i * 9 + 1, none⟩ = some (.int .i64 x.bl) ∧ w.cell? ⟨b, off + i * 9 + 2, none⟩ = some (.int .i64 x.ct) ∧ w.cell? ⟨b, off + i * 9 + 3, none⟩ = some (.bool x.o) ∧ w.cell? ⟨b, off + i * 9 + 4, none⟩ = some (.bool x.d) ∧ w.cell? ⟨b, off + i * 9 + 5, none⟩ = some (.int .i64 x.t.n) ∧ w.cell? ⟨b, off + i * 9 + 6, none⟩ = some (.bool x.t.o) ∧ w.cell? ⟨b, off + i * 9 + 7, none⟩ = some (.bool x.t.h) ∧ w.cell? ⟨b, off + i * 9 + 8, none⟩ = some (.int .i64 x.t.d) := by
      intro i hi
      obtain ⟨h0, hc⟩ := hR i hi
      obtain ⟨x0, v0, e0, w0, h1⟩ := allLeaf_int h0
      obtain ⟨x1, v1, e1, w1, h2⟩ := allLeaf_int h1
      obtain ⟨x2, v2, e2, w2, h3⟩ := allLeaf_int h2
      obtain ⟨x3, v3, e3, h4⟩ := allLeaf_bool h3
      obtain ⟨x4, v4, e4, h5⟩ := allLeaf_bool h4
      obtain ⟨x5, v5, e5, w5, h6⟩ := allLeaf_int h5
      obtain ⟨x6, v6, e6, h7⟩ := allLeaf_bool h6
      obtain ⟨x7, v7, e7, h8⟩ := allLeaf_bool h7
      obtain ⟨x8, v8, e8, w8, h9⟩ := allLeaf_int h8
      have q : ∀ j, j < 9 → w.cell? ⟨b, off + i * 9 + j, none⟩ = (R i)[j]? := fun j hj => by simpa using hc j (by simpa using hj)
      rw [e0, e1, e2, e3, e4, e5, e6, e7, e8, allLeaf_nil h9] at q
      exact ⟨⟨x0, x1, x2, x3, x4, ⟨x5, x6, x7, x8⟩⟩, q 0 (by omega), q 1 (by omega), q 2 (by omega), q 3 (by omega), q 4 (by omega), q 5 (by omega), q 6 (by omega), q 7 (by omega), q 8 (by omega)⟩
    obtain ⟨f, hf⟩ := @Go.Deep.choose_lt Ac ⟨⟨0, 0, 0, false, false, ⟨0, false, false, 0⟩⟩⟩ len (fun i x => w.cell? ⟨b, off + i * 9, none⟩ = some (.int .i64 x.k) ∧ w.cell? ⟨b, off + i * 9 + 1, none⟩ = some (.int .i64 x.bl) ∧ w.cell? ⟨b, off + i * 9 + 2, none⟩ = some (.int .i64 x.ct) ∧ w.cell? ⟨b, off + i * 9 + 3, none⟩ = some (.bool x.o) ∧ w.cell? ⟨b, off + i * 9 + 4, none⟩ = some (.bool x.d) ∧ w.cell? ⟨b, off + i * 9 + 5, none⟩ = some (.int .i64 x.t.n) ∧ w.cell? ⟨b, off + i * 9 + 6, none⟩ = some (.bool x.t.o) ∧ w.cell? ⟨b, off + i * 9 + 7, none⟩ = some (.bool x.t.h) ∧ w.cell? ⟨b, off + i * 9 + 8, none⟩ = some (.int .i64 x.t.d)) row
    by_cases hz : len = 0
    · subst hz
      exact ⟨[], some ⟨b, off, none⟩, cap, rfl, Nat.zero_le _, mx, .inl rfl⟩
    · refine ⟨(List.range len).map f, some ⟨b, off, none⟩, cap, by simp, by simpa using le, mx, .inr ⟨b, off, rfl, cell_lt (hf 0 (by omega)).1, Nat.le_refl _, fun j h => ?_⟩⟩
      have h' : j < len := by simpa using h
      have e : ((List.range len).map f)[j] = f j := by simp
      rw [e]
      exact hf j h'

theorem ActsAt.below {B : Nat} {w w' : World} {v : Value} {A : List Ac} (h : ActsAt B w v A) (hb : Below B w w') : ActsAt B w' v A := by
  obtain ⟨ao, cap, rfl, h1, h2, h4⟩ := h
  refine ⟨ao, cap, rfl, h1, h2, ?_⟩
  rcases h4 with h4 | ⟨b, o, rfl, h5, h6, h7⟩
  · exact .inl h4
  · have e : ∀ k, w'.cell? ⟨b, k, none⟩ = w.cell? ⟨b, k, none⟩ := fun k => hb.cell (p := ⟨b, k, none⟩) h5
    refine .inr ⟨b, o, rfl, h5, Nat.le_trans h6 hb.size, fun j h => ?_⟩
    simp only [e]
    exact h7 j h

theorem ActsAt.up {B : Nat} {w : World} {v : Value} {A : List Ac} (h : ActsAt B w v A) : ActsAt w.heap.size w v A := by
  obtain ⟨ao, cap, rfl, h1, h2, h4⟩ := h
  refine ⟨ao, cap, rfl, h1, h2, ?_⟩
  rcases h4 with h4 | ⟨b, o, rfl, h5, h6, h7⟩
  · exact .inl h4
  · exact .inr ⟨b, o, rfl, by omega, Nat.le_refl _, h7⟩

/-- One call's cells, as they lie. -/
theorem acts_row {B : Nat} {w : World} {ao : Option Addr} {n cap : Nat} {A : List Ac} (h : ActsAt B w (.slice ao n cap) A) {j : Nat} (hj : j < A.length) :
    ∃ b o, ao = some ⟨b, o, none⟩ ∧ b < B ∧ b < w.heap.size ∧ w.cell? ⟨b, o + j * 9, none⟩ = some (.int .i64 A[j].k) ∧ w.cell? ⟨b, o + j * 9 + 1, none⟩ = some (.int .i64 A[j].bl) ∧ w.cell? ⟨b, o + j * 9 + 2, none⟩ = some (.int .i64 A[j].ct) ∧ w.cell? ⟨b, o + j * 9 + 3, none⟩ = some (.bool A[j].o) ∧ w.cell? ⟨b, o + j * 9 + 4, none⟩ = some (.bool A[j].d) ∧ w.cell? ⟨b, o + j * 9 + 5, none⟩ = some (.int .i64 A[j].t.n) ∧ w.cell? ⟨b, o + j * 9 + 6, none⟩ = some (.bool A[j].t.o) ∧ w.cell? ⟨b, o + j * 9 + 7, none⟩ = some (.bool A[j].t.h) ∧ w.cell? ⟨b, o + j * 9 + 8, none⟩ = some (.int .i64 A[j].t.d) := by
  obtain ⟨ao', cap', e, h1, h2, h4⟩ := h
  simp only [Value.slice.injEq] at e
  obtain ⟨rfl, _, _⟩ := e
  rcases h4 with rfl | ⟨b, o, rfl, h5, h6, h7⟩
  · simp at hj
  · exact ⟨b, o, rfl, h5, by omega, h7 j hj⟩

/-- A call in a block of its own. -/
structure AcAt (w : World) (b : Nat) (x : Ac) : Prop where
  lt : b < w.heap.size
  cs : w.cell? ⟨b, 0, none⟩ = some (.int .i64 x.k) ∧ w.cell? ⟨b, 1, none⟩ = some (.int .i64 x.bl) ∧ w.cell? ⟨b, 2, none⟩ = some (.int .i64 x.ct) ∧ w.cell? ⟨b, 3, none⟩ = some (.bool x.o) ∧ w.cell? ⟨b, 4, none⟩ = some (.bool x.d) ∧ w.cell? ⟨b, 5, none⟩ = some (.int .i64 x.t.n) ∧ w.cell? ⟨b, 6, none⟩ = some (.bool x.t.o) ∧ w.cell? ⟨b, 7, none⟩ = some (.bool x.t.h) ∧ w.cell? ⟨b, 8, none⟩ = some (.int .i64 x.t.d)

theorem AcAt.carry {w w' : World} {b : Nat} {x : Ac} (h : AcAt w b x) (e : w'.heap[b]? = w.heap[b]?) : AcAt w' b x :=
  ⟨block_lt h.lt e, by simp only [World.cell?_of_block (w := w) (w' := w') (a := ⟨b, _, none⟩) e]; exact h.cs⟩
theorem AcAt.below {w w' : World} {b : Nat} {x : Ac} (h : AcAt w b x) (hb : Below w.heap.size w w') : AcAt w' b x := h.carry (hb.block b h.lt)
theorem AcAt.fr {w w' : World} {b : Nat} {x : Ac} {F : Nat → Prop} (h : AcAt w b x) (hf : FrS F w w') (hn : ¬ F b) : AcAt w' b x := h.carry (hf.block b h.lt hn)
theorem ac_new (w : World) (x : Ac) : AcAt (w.alloc (acO x)) w.heap.size x :=
  ⟨by simp, cell_of_row _ _ _ _ _ _ (heap_alloc_new w _), cell_of_row _ _ _ _ _ _ (heap_alloc_new w _), cell_of_row _ _ _ _ _ _ (heap_alloc_new w _), cell_of_row _ _ _ _ _ _ (heap_alloc_new w _), cell_of_row _ _ _ _ _ _ (heap_alloc_new w _), cell_of_row _ _ _ _ _ _ (heap_alloc_new w _), cell_of_row _ _ _ _ _ _ (heap_alloc_new w _), cell_of_row _ _ _ _ _ _ (heap_alloc_new w _), cell_of_row _ _ _ _ _ _ (heap_alloc_new w _)⟩

/-- What right lets in. -/
def Fine (A : List Ac) : Prop := A.length ≤ 200 ∧ ∀ a ∈ A, okB a.t ∧ a.t.n ≤ 1048576

theorem check_le {b : Bun} {t : Int} (h : checkZ b t = 0) : b.n ≤ t := by
  unfold checkZ at h
  split at h
  · omega
  · omega

set_option maxHeartbeats 1000000 in
theorem right_c (v : Value) (A : List Ac) (w : World) (h : ActsAt w.heap.size w v A) : Calls Try.prog 9 #[v] w fun e w' => ∃ q, e = .returned (.bool q) ∧ Below w.heap.size w w' ∧ (q = true → Fine A) := by
  have hA := hide h
  obtain ⟨ao, cap, rfl, hlc, hmx, _⟩ := h
  have hmx' : A.length ≤ 9223372036854775807 := by unfold maxLen at hmx; omega
  clear hmx
  by_cases c : 200 < (A.length : Int)
  · go_enter Try.func9, Try.ntmps9
    go_wp2_with fail
    go_ret
    exact ⟨false, rfl, Below.refl _ _, fun h => by cases h⟩
  · go_enter Try.func9, Try.ntmps9
    go_wp2_with fail
    go_loopw [10] (fun i wr => ∃ j : Nat, j ≤ A.length ∧ i = .int .i64 j ∧ Below w.heap.size w wr ∧ Hid (∀ i (h : i < A.length), i < j → okB A[i].t ∧ A[i].t.n ≤ 1048576)) (fun i _ => A.length - (intOf i).toNat)
    case atStart => exact ⟨0, Nat.zero_le _, rfl, Below.refl _ _, fun i _ h => by omega⟩
    case round =>
      obtain ⟨j, hj, rfl, hb, hs⟩ := hrel
      by_cases hlt : j < A.length
      · obtain ⟨b, o, rfl, hbB, hbl, r0, r1, r2, r3, r4, r5, r6, r7, r8⟩ := acts_row ((unhide hA).below hb) hlt
        have hlt' : (j : Int) < A.length := by omega
        have hst : Hid (∀ x : Ac, A[j] = x → okB x.t → x.t.n ≤ 1048576 → ∀ i (h : i < A.length), i < j + 1 → okB A[i].t ∧ A[i].t.n ≤ 1048576) := by
          intro x hx h1 h2 i h h'
          by_cases e : i = j
          · subst e; rw [hx]; exact ⟨h1, h2⟩
          · exact hs.out i h (by omega)
        obtain ⟨x, hx⟩ : ∃ x, Hid (A[j] = x) := ⟨_, hide rfl⟩
        rw [hx.out] at r0 r1 r2 r3 r4 r5 r6 r7 r8
        have hb' := hide hb
        clear hb hs
        obtain ⟨q, hq⟩ : ∃ q, Hid ((checkZ ⟨x.t.n, x.t.o, x.t.h, x.t.d⟩ 1048576 == 0) = q) := ⟨_, rfl⟩
        go_wp2_with fail
        go_at_call 21
        refine (refRight_any x.t.n x.t.o x.t.h x.t.d 1048576 _).mono ?_
        rw [hq.out]
        rintro e w3 ⟨rfl, hb3⟩
        have hB3 := hide (((unhide hb').alloc (unhide hb').size (acO x)).trans (hb3.mono (by have := (unhide hb').size; simp; omega)))
        clear hb3
        cases q
        · go_wp2_with fail
          go_ret
          exact ⟨false, rfl, unhide hB3, fun h => by cases h⟩
        · have hck : checkZ x.t 1048576 = 0 := by have := hq.out; simpa using this
          have hok : okB x.t := okB_of x.t 1048576 hck
          have hle := hide (check_le hck)
          replace hok := hide hok
          clear hck
          go_wp2_with fail
          go_roundw
          case rel => exact ⟨j + 1, by omega, by simp, unhide hB3, unhide hst x hx.out (unhide hok) (unhide hle)⟩
          case measure => simp [intOf]; omega
      · obtain rfl : j = A.length := by omega
        have hb' := hide hb
        clear hb
        go_wp2_with fail
        go_ret
        refine ⟨true, rfl, unhide hb', fun _ => ⟨by omega, fun a ha => ?_⟩⟩
        obtain ⟨i, hi, rfl⟩ := List.getElem_of_mem ha
        exact hs.out i hi hi

/-- Two numbers in a block of their own. -/
structure Box (w : World) (b : Nat) (s t : Int) : Prop where
  lt : b < w.heap.size
  c0 : w.cell? ⟨b, 0, none⟩ = some (.int .i64 s)
  c1 : w.cell? ⟨b, 1, none⟩ = some (.int .i64 t)

theorem Box.carry {w w' : World} {b : Nat} {s t : Int} (h : Box w b s t) (e : w'.heap[b]? = w.heap[b]?) : Box w' b s t :=
  ⟨block_lt h.lt e, (World.cell?_of_block (w := w) e).trans h.c0, (World.cell?_of_block (w := w) e).trans h.c1⟩
theorem Box.below {w w' : World} {b : Nat} {s t : Int} (h : Box w b s t) (hb : Below w.heap.size w w') : Box w' b s t := h.carry (hb.block b h.lt)
theorem box_new (w : World) (s t : Int) (T : TypeId) : Box (w.alloc (.cells #[.int .i64 s, .int .i64 t] T)) w.heap.size s t :=
  ⟨by simp, cell_of_row _ _ _ _ _ _ (heap_alloc_new w _), cell_of_row _ _ _ _ _ _ (heap_alloc_new w _)⟩
theorem box1 {w w1 : World} {s t : Int} {T : TypeId} (hb : Below (w.alloc (.cells #[.int .i64 s, .int .i64 t] T)).heap.size (w.alloc (.cells #[.int .i64 s, .int .i64 t] T)) w1) :
    Box w1 w.heap.size s t ∧ Below w.heap.size w w1 ∧ w.heap.size + 1 ≤ w1.heap.size := by
  refine ⟨(box_new w s t T).below hb, ((Below.refl _ _).alloc (Nat.le_refl _) _).trans (hb.mono (by simp)), ?_⟩
  have := hb.size
  simpa using this

theorem belA (w : World) (o : Obj) : Below w.heap.size w (w.alloc o) := (Below.refl _ _).alloc (Nat.le_refl _) _
theorem belD (w : World) (n : Nat) : Below w.heap.size w (w.drewN n) := belowN (Below.refl _ _) n
theorem wrap_in {n : Int} (h0 : -9223372036854775808 ≤ n) (h1 : n ≤ 9223372036854775807) : IntKind.i64.wrap n = n := by rw [IntKind.wrap_i64]; omega

/-- A memory in a law, and that no old memory has turned. -/
structure MEnv (w wr : World) (p g : Nat) (N : Int) (L : List Bun) : Prop where
  n : MemIs wr p g N L
  p0 : w.heap.size ≤ p
  g0 : w.heap.size ≤ g
  bel : Below w.heap.size w wr

section
variable {w wr wz w3 : World} {p g : Nat} {N N' : Int} {L L' : List Bun}
theorem MEnv.step (h : MEnv w wr p g N L) (hz : Below wr.heap.size wr wz) (hn : MemIs w3 p g N' L') (hf : FrS (· = g) wz w3) : MEnv w w3 p g N' L' := by
  have s1 := h.bel.size
  have s2 := hz.size
  exact ⟨hn, h.p0, h.g0, (h.bel.trans (hz.mono s1)).trans (hf.below (fun i hi => hi ▸ h.g0) (by omega))⟩
theorem MEnv.quiet (h : MEnv w wr p g N L) (hz : Below wr.heap.size wr wz) : MEnv w wz p g N L := ⟨h.n.below hz, h.p0, h.g0, h.bel.trans (hz.mono h.bel.size)⟩
theorem MEnv.first {w1 w2 : World} (hB : Below w.heap.size w w1) (hn : MemIs w2 p g N L) (hp : w1.heap.size ≤ p) (hg : w1.heap.size ≤ g) (hb : Below w1.heap.size w1 w2) : MEnv w w2 p g N L :=
  ⟨hn, Nat.le_trans hB.size hp, Nat.le_trans hB.size hg, hB.trans (hb.mono hB.size)⟩
theorem MEnv.mono (h : MEnv w wr p g N L) (hN : N ≤ N') : MEnv w wr p g N' L := ⟨h.n.mono hN, h.p0, h.g0, h.bel⟩
end

abbrev aw3 : Bun := ⟨3, true, true, 0⟩
abbrev aw2 : Bun := ⟨2, false, false, 0⟩
theorem aw_new : newM 2 3 = [aw3, aw3] := by rfl
theorem aw_tak : takM (newM 2 3) 1 3 true = [aw3, bun0] := by rw [aw_new]; rfl
theorem aw_giv : givenB (getM (newM 2 3) 1) 3 true false = aw3 := by rw [aw_new]; rfl
theorem aw_put : putM [aw3, bun0] 1 aw2 = [aw3, aw2] := by rfl
theorem aw_put2 : putM [aw3, aw2] 2 aw3 = [aw3, aw2] := by rfl

theorem held10 {w w1 w2 : World} {p g a b : Nat} {N : Int} {L : List Bun} (h : MEnv w w1 p g N L ∧ BunAt w1 a aw3 ∧ BunAt w1 b bun0) (hb : Below w1.heap.size w1 w2) :
    Hid (MEnv w w2 p g N L ∧ BunAt w2 a aw3 ∧ BunAt w2 b bun0) ∧ w2.cell? ⟨a, 0, none⟩ = some (.int .i64 3) ∧ w2.cell? ⟨a, 1, none⟩ = some (.bool true) ∧ w2.cell? ⟨a, 2, none⟩ = some (.bool true) ∧ w2.cell? ⟨a, 3, none⟩ = some (.int .i64 0) ∧ w2.cell? ⟨b, 0, none⟩ = some (.int .i64 0) ∧ w2.cell? ⟨b, 1, none⟩ = some (.bool false) ∧ w2.cell? ⟨b, 2, none⟩ = some (.bool false) ∧ w2.cell? ⟨b, 3, none⟩ = some (.int .i64 0) := by
  have ha := h.2.1.below hb
  have hc := h.2.2.below hb
  exact ⟨⟨h.1.quiet hb, ha, hc⟩, ha.c0, ha.c1, ha.c2, ha.c3, hc.c0, hc.c1, hc.c2, hc.c3⟩

set_option maxHeartbeats 1000000 in
theorem awake10_any (w : World) : Calls Try.prog 8 #[] w fun e w' => e = .returned (.bool true) ∧ Below w.heap.size w w' := by
  have hfld := field_n
  go_enter Try.func8, Try.ntmps8
  go_wp2_with fail
  go_at_call 10
  refine (mNew_c 2 3 3 w (by decide) (by decide)).mono ?_
  rintro e w1 ⟨p, g, rfl, h1, hp1, hg1, hb1⟩
  have E1 := hide (MEnv.first (Below.refl _ _) h1 hp1 hg1 hb1)
  clear h1 hp1 hg1 hb1
  go_wp2_with fail
  go_at_call 15
  refine (mTake_c p g 3 1 3 true false _ w1 (unhide E1).n (by decide) aw3 aw_giv _ aw_tak).mono ?_
  rintro e w2 ⟨rfl, h2, f2⟩
  have E2 := (unhide E1).step (Below.refl _ _) h2 f2
  clear h2 f2 E1
  have b2 := hide (bun_newV w2 aw3 31)
  have E3 := hide (E2.quiet (belA w2 (.cells #[.int .i64 3, .bool true, .bool true, .int .i64 0] 31)))
  have hgl2 := E2.n.gl
  have hpl2 := E2.n.pl
  replace E2 := hide E2
  go_wp2_with fail
  go_at_call 18
  refine (mGet_c p g 3 1 _ _ (unhide E3).n bun0 rfl).mono ?_
  rintro e w3 ⟨rfl, hb3⟩
  have b3 := hide ((unhide b2).below hb3)
  have E4 := hide ((unhide E3).quiet hb3)
  have hs3 : w2.heap.size < w3.heap.size := (unhide b3).lt
  clear hb3 b2 E3 E2
  have n3 := hide (bun_newV w3 bun0 31)
  have b4 := hide ((unhide b3).below (belA w3 (.cells #[.int .i64 0, .bool false, .bool false, .int .i64 0] 31)))
  have E5 := hide ((unhide E4).quiet (belA w3 (.cells #[.int .i64 0, .bool false, .bool false, .int .i64 0] 31)))
  clear b3 E4
  go_wp2_with fail
  go_at_call 13
  refine (mPut_c p g 3 2 1 aw2 _ _ (unhide E5).n (by simp [okB]) (by decide) (by decide) true rfl _ aw_put).mono ?_
  rintro e w4 ⟨rfl, h4, f4⟩
  have b5 := (unhide b4).fr f4 (by omega)
  have n5 := hide ((unhide n3).fr f4 (by omega))
  have E6 := hide ((unhide E5).step (Below.refl _ _) h4 f4)
  clear h4 f4 b4 n3 E5
  obtain ⟨-, y0, y1, y2, y3, -, -, -, -⟩ := id b5
  replace b5 := hide b5
  go_wp2_with fail
  go_at_call 13
  refine (mPut_c p g (3 + 2) 3 2 aw3 _ _ (unhide E6).n (by simp [okB]) (by decide) (by decide) false rfl _ aw_put2).mono ?_
  rintro e w5 ⟨rfl, h5, f5⟩
  have b6 := (unhide b5).fr f5 (by omega)
  have n6 := (unhide n5).fr f5 (by omega)
  have E7 := (unhide E6).step (Below.refl _ _) h5 f5
  clear h5 f5 b5 n5 E6 y0 y1 y2 y3
  obtain ⟨-, y0, y1, y2, y3, -, -, -, -⟩ := id b6
  obtain ⟨-, z0, z1, z2, z3, -, -, -, -⟩ := id n6
  go_wp2_with fail
  refine wp_region_noPanic ?_
  refine wp_region_held_drew (S := (fun w' => Hid (MEnv w w' p g (3 + 2 + 3) [aw3, aw2] ∧ BunAt w' w2.heap.size aw3 ∧ BunAt w' w3.heap.size bun0) ∧ w'.cell? ⟨w2.heap.size, 0, none⟩ = some (.int .i64 3) ∧ w'.cell? ⟨w2.heap.size, 1, none⟩ = some (.bool true) ∧ w'.cell? ⟨w2.heap.size, 2, none⟩ = some (.bool true) ∧ w'.cell? ⟨w2.heap.size, 3, none⟩ = some (.int .i64 0) ∧ w'.cell? ⟨w3.heap.size, 0, none⟩ = some (.int .i64 0) ∧ w'.cell? ⟨w3.heap.size, 1, none⟩ = some (.bool false) ∧ w'.cell? ⟨w3.heap.size, 2, none⟩ = some (.bool false) ∧ w'.cell? ⟨w3.heap.size, 3, none⟩ = some (.int .i64 0))) (by kernel_rfl) ?_ (fun hHeld => ?_)
  · exact ⟨⟨E7.quiet (Below.refl _ _).drew, b6.below (Below.refl _ _).drew, n6.below (Below.refl _ _).drew⟩, y0, y1, y2, y3, z0, z1, z2, z3⟩
  clear E7 b6 n6 y0 y1 y2 y3 z0 z1 z2 z3
  refine hand_take (i := 0) (d := some 19) (v := ?_) rfl (by kernel_rfl) (by kernel_rfl) (by kernel_rfl) (fun _ _ _ h => h) ?_ hHeld ?_
  rotate_left
  · intro o ho
    simp at ho
    subst ho
    intro wz hSw
    try dsimp only at hSw
    go_simp
    try with_reducible rfl
  try simp only [Act.put, List.setIfInBounds_toArray, List.set_cons_zero, List.set_cons_succ]
  refine hand_take (i := 1) (d := some 20) (v := ?_) rfl (by kernel_rfl) (by kernel_rfl) (by kernel_rfl) (fun _ _ _ h => h) ?_ hHeld ?_
  rotate_left
  · intro o ho
    simp at ho
    subst ho
    intro wz hSw
    try dsimp only at hSw
    go_simp
    try with_reducible rfl
  try simp only [Act.put, List.setIfInBounds_toArray, List.set_cons_zero, List.set_cons_succ]
  refine hand_take (i := 2) (d := some 21) (v := ?_) rfl (by kernel_rfl) (by kernel_rfl) (by kernel_rfl) (fun _ _ _ h => h) ?_ hHeld ?_
  rotate_left
  · intro o ho
    simp at ho
    subst ho
    intro wz hSw
    try dsimp only at hSw
    go_simp
    try with_reducible rfl
  try simp only [Act.put, List.setIfInBounds_toArray, List.set_cons_zero, List.set_cons_succ]
  refine hand_take (i := 3) (d := some 22) (v := ?_) rfl (by kernel_rfl) (by kernel_rfl) (by kernel_rfl) (fun _ _ _ h => h) ?_ hHeld ?_
  rotate_left
  · intro o ho
    simp at ho
    subst ho
    intro wz hSw
    try dsimp only at hSw
    go_simp
    try with_reducible rfl
  try simp only [Act.put, List.setIfInBounds_toArray, List.set_cons_zero, List.set_cons_succ]
  refine hand_take (i := 4) (d := some 23) (v := ?_) rfl (by kernel_rfl) (by kernel_rfl) (by kernel_rfl) (fun _ _ _ h => h) ?_ hHeld ?_
  rotate_left
  · intro o ho
    simp at ho
    subst ho
    intro wz hSw
    try dsimp only at hSw
    go_simp
    try with_reducible rfl
  try simp only [Act.put, List.setIfInBounds_toArray, List.set_cons_zero, List.set_cons_succ]
  refine hand_take (i := 5) (d := some 24) (v := ?_) rfl (by kernel_rfl) (by kernel_rfl) (by kernel_rfl) (fun _ _ _ h => h) ?_ hHeld ?_
  rotate_left
  · intro o ho
    simp at ho
    subst ho
    intro wz hSw
    try dsimp only at hSw
    go_simp
    try with_reducible rfl
  try simp only [Act.put, List.setIfInBounds_toArray, List.set_cons_zero, List.set_cons_succ]
  refine hand_take (i := 6) (d := some 25) (v := ?_) rfl (by kernel_rfl) (by kernel_rfl) (by kernel_rfl) (fun _ _ _ h => h) ?_ hHeld ?_
  rotate_left
  · intro o ho
    simp at ho
    subst ho
    intro wz hSw
    try dsimp only at hSw
    go_simp
    try with_reducible rfl
  try simp only [Act.put, List.setIfInBounds_toArray, List.set_cons_zero, List.set_cons_succ]
  refine hand_take (i := 7) (d := some 26) (v := ?_) rfl (by kernel_rfl) (by kernel_rfl) (by kernel_rfl) (fun _ _ _ h => h) ?_ hHeld ?_
  rotate_left
  · intro o ho
    simp at ho
    subst ho
    intro wz hSw
    try dsimp only at hSw
    go_simp
    try with_reducible rfl
  try simp only [Act.put, List.setIfInBounds_toArray, List.set_cons_zero, List.set_cons_succ]
  refine hand_take (i := 8) (d := some 27) (v := ?_) rfl (by kernel_rfl) (by kernel_rfl) (by kernel_rfl) (fun _ _ _ h => h) ?_ hHeld ?_
  rotate_left
  · intro o ho
    simp at ho
    subst ho
    intro wz hSw
    try dsimp only at hSw
    go_simp
    try with_reducible rfl
  try simp only [Act.put, List.setIfInBounds_toArray, List.set_cons_zero, List.set_cons_succ]
  refine hand_take (i := 9) (d := some 28) (v := ?_) rfl (by kernel_rfl) (by kernel_rfl) (by kernel_rfl) (fun _ _ _ h => h) ?_ hHeld ?_
  rotate_left
  · intro o ho
    simp at ho
    subst ho
    intro wz hSw
    try dsimp only at hSw
    go_simp
    try with_reducible rfl
  try simp only [Act.put, List.setIfInBounds_toArray, List.set_cons_zero, List.set_cons_succ]
  refine hand_take (i := 10) (d := some 29) (v := ?_) rfl (by kernel_rfl) (by kernel_rfl) (by kernel_rfl) (fun _ _ _ h => h) ?_ hHeld ?_
  rotate_left
  · intro o ho
    simp at ho
    subst ho
    intro wz hSw
    try dsimp only at hSw
    go_simp
    try with_reducible rfl
  try simp only [Act.put, List.setIfInBounds_toArray, List.set_cons_zero, List.set_cons_succ]
  refine hand_take (i := 11) (d := some 30) (v := ?_) rfl (by kernel_rfl) (by kernel_rfl) (by kernel_rfl) (fun _ _ _ h => h) ?_ hHeld ?_
  rotate_left
  · intro o ho
    simp at ho
    subst ho
    intro wz hSw
    try dsimp only at hSw
    go_simp
    try with_reducible rfl
  try simp only [Act.put, List.setIfInBounds_toArray, List.set_cons_zero, List.set_cons_succ]
  refine hand_take (i := 12) (d := some 31) (v := ?_) rfl (by kernel_rfl) (by kernel_rfl) (by kernel_rfl) (fun _ _ _ h => h) ?_ hHeld ?_
  rotate_left
  · intro o ho
    simp at ho
    subst ho
    intro wz hSw
    try dsimp only at hSw
    go_simp
    try with_reducible rfl
  try simp only [Act.put, List.setIfInBounds_toArray, List.set_cons_zero, List.set_cons_succ]
  refine hand_take (i := 13) (d := some 32) (v := ?_) rfl (by kernel_rfl) (by kernel_rfl) (by kernel_rfl) (fun _ _ _ h => h) ?_ hHeld ?_
  rotate_left
  · intro o ho
    simp at ho
    subst ho
    intro wz hSw
    try dsimp only at hSw
    go_simp
    try with_reducible rfl
  try simp only [Act.put, List.setIfInBounds_toArray, List.set_cons_zero, List.set_cons_succ]
  refine hand_take (i := 14) (d := some 33) (v := ?_) rfl (by kernel_rfl) (by kernel_rfl) (by kernel_rfl) (fun _ _ _ h => h) ?_ hHeld ?_
  rotate_left
  · intro o ho
    simp at ho
    subst ho
    intro wz hSw
    try dsimp only at hSw
    go_simp
    try with_reducible rfl
  try simp only [Act.put, List.setIfInBounds_toArray, List.set_cons_zero, List.set_cons_succ]
  refine hand_take (i := 15) (d := some 34) (v := ?_) rfl (by kernel_rfl) (by kernel_rfl) (by kernel_rfl) (fun _ _ _ h => h) ?_ hHeld ?_
  rotate_left
  · intro o ho
    simp at ho
    subst ho
    intro wz hSw
    try dsimp only at hSw
    go_simp
    try with_reducible rfl
  try simp only [Act.put, List.setIfInBounds_toArray, List.set_cons_zero, List.set_cons_succ]
  refine hand_take (i := 16) (d := some 35) (v := ?_) rfl (by kernel_rfl) (by kernel_rfl) (by kernel_rfl) (fun _ _ _ h => h) ?_ hHeld ?_
  rotate_left
  · intro o ho
    simp at ho
    subst ho
    intro wz hSw
    try dsimp only at hSw
    go_simp
    try with_reducible rfl
  try simp only [Act.put, List.setIfInBounds_toArray, List.set_cons_zero, List.set_cons_succ]
  refine hand_call (i := 17) rfl (by kernel_rfl) ?_
  intro o ho
  simp at ho
  subst ho
  intro K hK
  go_simp; go_at_call 18; refine (mGet_c p g _ 1 _ _ hHeld.1.out.1.n aw2 rfl).mono ?_; rintro e w6 ⟨rfl, hb6⟩; have K6 := held10 hHeld.1.out hb6
  refine hK.out _ _ ?_ (fun hHeld => ?_)
  · exact K6
  clear hK K
  try simp only [Act.put, List.setIfInBounds_toArray, List.set_cons_zero, List.set_cons_succ]
  clear K6 hb6
  refine hand_take (i := 18) (d := some 37) (v := ?_) rfl (by kernel_rfl) (by kernel_rfl) (by kernel_rfl) (fun _ _ _ h => h) ?_ hHeld ?_
  rotate_left
  · intro o ho
    simp at ho
    subst ho
    intro wz hSw
    try dsimp only at hSw
    go_simp
    try with_reducible rfl
  try simp only [Act.put, List.setIfInBounds_toArray, List.set_cons_zero, List.set_cons_succ]
  refine hand_take (i := 19) (d := some 38) (v := ?_) rfl (by kernel_rfl) (by kernel_rfl) (by kernel_rfl) (fun _ _ _ h => h) ?_ hHeld ?_
  rotate_left
  · intro o ho
    simp at ho
    subst ho
    intro wz hSw
    try dsimp only at hSw
    go_simp
    try with_reducible rfl
  try simp only [Act.put, List.setIfInBounds_toArray, List.set_cons_zero, List.set_cons_succ]
  refine hand_take (i := 20) (d := some 39) (v := ?_) rfl (by kernel_rfl) (by kernel_rfl) (by kernel_rfl) (fun _ _ _ h => h) ?_ hHeld ?_
  rotate_left
  · intro o ho
    simp at ho
    subst ho
    intro wz hSw
    try dsimp only at hSw
    go_simp
    try with_reducible rfl
  try simp only [Act.put, List.setIfInBounds_toArray, List.set_cons_zero, List.set_cons_succ]
  refine hand_take (i := 21) (d := some 40) (v := ?_) rfl (by kernel_rfl) (by kernel_rfl) (by kernel_rfl) (fun _ _ _ h => h) ?_ hHeld ?_
  rotate_left
  · intro o ho
    simp at ho
    subst ho
    intro wz hSw
    try dsimp only at hSw
    go_simp
    try with_reducible rfl
  try simp only [Act.put, List.setIfInBounds_toArray, List.set_cons_zero, List.set_cons_succ]
  refine hand_take (i := 22) (d := some 41) (v := ?_) rfl (by kernel_rfl) (by kernel_rfl) (by kernel_rfl) (fun _ _ _ h => h) ?_ hHeld ?_
  rotate_left
  · intro o ho
    simp at ho
    subst ho
    intro wz hSw
    try dsimp only at hSw
    go_simp
    try with_reducible rfl
  try simp only [Act.put, List.setIfInBounds_toArray, List.set_cons_zero, List.set_cons_succ]
  refine hand_take (i := 24) (d := some 43) (v := ?_) rfl (by kernel_rfl) (by kernel_rfl) (by kernel_rfl) (fun _ _ _ h => h) ?_ hHeld ?_
  rotate_left
  · intro o ho
    simp at ho
    subst ho
    intro wz hSw
    try dsimp only at hSw
    go_simp
    try with_reducible rfl
  try simp only [Act.put, List.setIfInBounds_toArray, List.set_cons_zero, List.set_cons_succ]
  refine hand_call (i := 23) rfl (by kernel_rfl) ?_
  intro o ho
  simp at ho
  subst ho
  intro K hK
  go_simp; go_at_call 18; refine (mGet_c p g _ 0 _ _ hHeld.1.out.1.n aw3 rfl).mono ?_; rintro e w7 ⟨rfl, hb7⟩; have K7 := held10 hHeld.1.out hb7
  refine hK.out _ _ ?_ (fun hHeld => ?_)
  · exact K7
  clear hK K
  try simp only [Act.put, List.setIfInBounds_toArray, List.set_cons_zero, List.set_cons_succ]
  clear K7 hb7
  refine hand_take (i := 25) (d := some 44) (v := ?_) rfl (by kernel_rfl) (by kernel_rfl) (by kernel_rfl) (fun _ _ _ h => h) ?_ hHeld ?_
  rotate_left
  · intro o ho
    simp at ho
    subst ho
    intro wz hSw
    try dsimp only at hSw
    go_simp
    try with_reducible rfl
  try simp only [Act.put, List.setIfInBounds_toArray, List.set_cons_zero, List.set_cons_succ]
  refine hand_take (i := 26) (d := some 45) (v := ?_) rfl (by kernel_rfl) (by kernel_rfl) (by kernel_rfl) (fun _ _ _ h => h) ?_ hHeld ?_
  rotate_left
  · intro o ho
    simp at ho
    subst ho
    intro wz hSw
    try dsimp only at hSw
    go_simp
    try with_reducible rfl
  try simp only [Act.put, List.setIfInBounds_toArray, List.set_cons_zero, List.set_cons_succ]
  refine hand_take (i := 27) (d := some 46) (v := ?_) rfl (by kernel_rfl) (by kernel_rfl) (by kernel_rfl) (fun _ _ _ h => h) ?_ hHeld ?_
  rotate_left
  · intro o ho
    simp at ho
    subst ho
    intro wz hSw
    try dsimp only at hSw
    go_simp
    try with_reducible rfl
  try simp only [Act.put, List.setIfInBounds_toArray, List.set_cons_zero, List.set_cons_succ]
  refine hand_take (i := 28) (d := some 47) (v := ?_) rfl (by kernel_rfl) (by kernel_rfl) (by kernel_rfl) (fun _ _ _ h => h) ?_ hHeld ?_
  rotate_left
  · intro o ho
    simp at ho
    subst ho
    intro wz hSw
    try dsimp only at hSw
    go_simp
    try with_reducible rfl
  try simp only [Act.put, List.setIfInBounds_toArray, List.set_cons_zero, List.set_cons_succ]
  refine hand_call (i := 29) rfl (by kernel_rfl) ?_
  intro o ho
  simp at ho
  subst ho
  intro K hK
  go_simp; go_at_call 17; refine (mAll_c p g _ _ _ hHeld.1.out.1.n 2 rfl).mono ?_; rintro e w8 ⟨rfl, hO8, hb8⟩; have K8 := held10 hHeld.1.out hb8
  refine hK.out _ _ ?_ (fun hHeld => ?_)
  · exact K8
  clear hK K
  try simp only [Act.put, List.setIfInBounds_toArray, List.set_cons_zero, List.set_cons_succ]
  have hfin := hide K8.1.out.1.bel
  clear K8 hb8 hO8
  refine hand_take (i := 30) (d := some 49) (v := ?_) rfl (by kernel_rfl) (by kernel_rfl) (by kernel_rfl) (fun _ _ _ h => h) ?_ hHeld ?_
  rotate_left
  · intro o ho
    simp at ho
    subst ho
    intro wz hSw
    try dsimp only at hSw
    go_simp
    try with_reducible rfl
  try simp only [Act.put, List.setIfInBounds_toArray, List.set_cons_zero, List.set_cons_succ]
  refine hand_take (i := 31) (d := some 50) (v := ?_) rfl (by kernel_rfl) (by kernel_rfl) (by kernel_rfl) (fun _ _ _ h => h) ?_ hHeld ?_
  rotate_left
  · intro o ho
    simp at ho
    subst ho
    intro wz hSw
    try dsimp only at hSw
    go_simp
    try with_reducible rfl
  try simp only [Act.put, List.setIfInBounds_toArray, List.set_cons_zero, List.set_cons_succ]
  refine hand_take (i := 32) (d := some 51) (v := ?_) rfl (by kernel_rfl) (by kernel_rfl) (by kernel_rfl) (fun _ _ _ h => h) ?_ hHeld ?_
  rotate_left
  · intro o ho
    simp at ho
    subst ho
    intro wz hSw
    try dsimp only at hSw
    go_simp
    try with_reducible rfl
  try simp only [Act.put, List.setIfInBounds_toArray, List.set_cons_zero, List.set_cons_succ]
  refine hand_take (i := 33) (d := some 0) (v := ?_) rfl (by kernel_rfl) (by kernel_rfl) (by kernel_rfl) (fun _ _ _ h => h) ?_ hHeld ?_
  rotate_left
  · intro o ho
    simp at ho
    subst ho
    intro wz hSw
    try dsimp only at hSw
    go_simp
    try with_reducible rfl
  try simp only [Act.put, List.setIfInBounds_toArray, List.set_cons_zero, List.set_cons_succ]
  refine wpAnyH_done (by kernel_rfl) (NoPanic.normal ?_) _
  clear hHeld
  go_wp2_with fail
  go_ret
  exact ⟨rfl, unhide hfin⟩
end Go.Proofs.Ytafccninjjhibaa
