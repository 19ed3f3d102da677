/- Letters as plain structures; slices of letters in memory, and what append makes of them (layer 6). -/
import Derived.Test.YtajcebnbmejamaaRows
import Derived.Test.YtajcebnbmejamaaOver
import Derived.Test.YtajcebnbmejamaaMath
import Derived.Deep.AppendSrc
import Derived.Deep.Upon
import Derived.Deep.RegionLaw
import Derived.Deep.MidRow
namespace Go.Proofs.Ytajcebnbmejamaa
open Go.ChangeShapes Go.WideShapes Go.ChangeAt Go.RowKit
set_option linter.unusedSimpArgs false
set_option linter.unusedVariables false

attribute [local go_sem, local simp] over_const setCell_drewN alloc_drewN Over.cell Over.frozen lt_s1 lt_s2 lt_s3 le_s0 le_s1 le_s2 le_s3 eq_s0 eq_s1 eq_s2 qe_s0

structure Lt where
  k : Int
  a : Int
  b : Int
  q : Int
  s : Int
  w : Int
  r : Bool
  n : Int
  o : Bool
  h : Bool
  d : Int

def letC (l : Lt) : List Value := [.int .i64 l.k, .int .i64 l.a, .int .i64 l.b, .int .i64 l.q, .int .i64 l.s, .int .i64 l.w, .bool l.r, .int .i64 l.n, .bool l.o, .bool l.h, .int .i64 l.d]

def letV (l : Lt) : Value := .agg #[.int .i64 l.k, .int .i64 l.a, .int .i64 l.b, .int .i64 l.q, .int .i64 l.s, .int .i64 l.w, .bool l.r, .int .i64 l.n, .bool l.o, .bool l.h, .int .i64 l.d]

def zeroL : Lt := ⟨0, 0, 0, 0, 0, 0, false, 0, false, false, 0⟩

/-- The cells of letters, one behind the other. -/
def flat (L : List Lt) : List Value := L.flatMap letC

theorem letC_len (l : Lt) : (letC l).length = 11 := rfl
theorem flat_nil : flat [] = [] := rfl
theorem flat_cons (l : Lt) (L : List Lt) : flat (l :: L) = letC l ++ flat L := by simp [flat]
theorem flat_append (L M : List Lt) : flat (L ++ M) = flat L ++ flat M := by simp [flat]
theorem flat_length (L : List Lt) : (flat L).length = L.length * 11 := by
  induction L with
  | nil => rfl
  | cons l L ih => rw [flat_cons, List.length_append, ih, letC_len]; simp; omega

theorem flat_at (L : List Lt) (i c : Nat) (hi : i < L.length) (hc : c < 11) : (flat L)[i * 11 + c]? = (letC L[i])[c]? := by
  induction L generalizing i with
  | nil => simp at hi
  | cons l L ih =>
    rw [flat_cons]
    cases i with
    | zero => rw [List.getElem?_append_left (by rw [letC_len]; omega)]; simp
    | succ i =>
      rw [List.getElem?_append_right (by rw [letC_len]; omega), letC_len, show (i + 1) * 11 + c - 11 = i * 11 + c by omega]
      exact ih i (by simpa using hi)

theorem flat_one (L : List Lt) : ∀ u ∈ flat L, u.oneCell' = true := by
  intro u hu
  obtain ⟨l, _, hl⟩ := List.mem_flatMap.1 hu
  simp [letC] at hl
  rcases hl with rfl | rfl | rfl | rfl | rfl | rfl | rfl | rfl | rfl | rfl | rfl <;> rfl

theorem flat_take (L : List Lt) (i : Nat) (hi : i ≤ L.length) : flat (L.take i) = (flat L).take (i * 11) := by
  have h := congrArg flat (List.take_append_drop i L)
  rw [flat_append] at h
  rw [← h, List.take_left' (by rw [flat_length, List.length_take]; omega)]

theorem flat_drop (L : List Lt) (i : Nat) (hi : i ≤ L.length) : flat (L.drop i) = (flat L).drop (i * 11) := by
  have h := congrArg flat (List.take_append_drop i L)
  rw [flat_append] at h
  rw [← h, List.drop_left' (by rw [flat_length, List.length_take]; omega)]

theorem infoL : (Try.prog.info? 37).map (fun i => (i.zero, i.size, i.bytes)) = some (some (letV zeroL), 11, 80) := by kernel_rfl

/-- Worlds that are alike but for two blocks, and new ones. -/
structure Fr (p g : Nat) (w w' : World) : Prop where
  os : w'.os = w.os
  tape : w'.tape = w.tape
  output : w'.output = w.output
  size : w.heap.size ≤ w'.heap.size
  block : ∀ k, k < w.heap.size → k ≠ p → k ≠ g → w'.heap[k]? = w.heap[k]?

theorem Fr.refl (p g : Nat) (w : World) : Fr p g w w := ⟨rfl, rfl, rfl, Nat.le_refl _, fun _ _ _ _ => rfl⟩
theorem Fr.trans {p g p' g' : Nat} {a b c : World} (h : Fr p g a b) (k : Fr p' g' b c) (hp : p' = p ∨ p' = g ∨ a.heap.size ≤ p') (hg : g' = p ∨ g' = g ∨ a.heap.size ≤ g') : Fr p g a c :=
  ⟨k.os.trans h.os, k.tape.trans h.tape, k.output.trans h.output, Nat.le_trans h.size k.size, fun i hi h1 h2 => (k.block i (Nat.lt_of_lt_of_le hi h.size) (by omega) (by omega)).trans (h.block i hi h1 h2)⟩
theorem Fr.of_below {p g : Nat} {a b : World} (h : Below a.heap.size a b) : Fr p g a b := ⟨h.os, h.tape, h.output, h.size, fun k hk _ _ => h.block k hk⟩
theorem Fr.swap {p g : Nat} {a b : World} (h : Fr p g a b) : Fr g p a b := ⟨h.os, h.tape, h.output, h.size, fun k hk h1 h2 => h.block k hk h2 h1⟩
theorem Fr.below {p g B : Nat} {a b : World} (h : Fr p g a b) (hp : B ≤ p) (hg : B ≤ g) (hB : B ≤ a.heap.size) : Below B a b := ⟨h.os, h.tape, h.output, h.size, fun k hk => h.block k (by omega) (by omega) (by omega)⟩
theorem Fr.cell {p g : Nat} {a b : World} (h : Fr p g a b) {k o : Nat} (hk : k < a.heap.size) (h1 : k ≠ p) (h2 : k ≠ g) : b.cell? ⟨k, o, none⟩ = a.cell? ⟨k, o, none⟩ := World.cell?_of_block (w := a) (h.block k hk h1 h2)
theorem Fr.frozen {p g : Nat} {a b : World} (h : Fr p g a b) {k o : Nat} (hk : k < a.heap.size) (h1 : k ≠ p) (h2 : k ≠ g) : b.frozen? ⟨k, o, none⟩ = a.frozen? ⟨k, o, none⟩ := World.frozen?_of_block (w := a) (h.block k hk h1 h2)
theorem Fr.alloc {p g : Nat} {a b : World} (h : Fr p g a b) (o : Obj) : Fr p g a (b.alloc o) :=
  h.trans (p' := p) (g' := g) ⟨rfl, rfl, rfl, by simp, fun k hk _ _ => Below.heap_alloc _ _ _ hk⟩ (.inl rfl) (.inr (.inl rfl))
theorem Fr.drew {p g : Nat} {a b : World} (h : Fr p g a b) : Fr p g a b.drew := ⟨h.os, h.tape, h.output, h.size, h.block⟩
theorem Fr.setCell {p g : Nat} {a b : World} (h : Fr p g a b) {q : Addr} (hq : q.block = p ∨ q.block = g ∨ a.heap.size ≤ q.block) (u : Value) : Fr p g a (b.setCell q u) :=
  ⟨h.os, h.tape, h.output, by simpa using h.size, fun k hk h1 h2 => (Below.heap_setCell _ _ _ _ (by omega)).trans (h.block k hk h1 h2)⟩

theorem setCells_fr (g : Nat) : ∀ (vs : List Value) (o : Nat) (w : World), Fr g g w (w.setCells g o vs)
  | [], _, w => Fr.refl _ _ _
  | v :: r, o, w => ((Fr.refl g g w).setCell (q := ⟨g, o, none⟩) (.inl rfl) v).trans (setCells_fr g r (o + 1) (w.setCell ⟨g, o, none⟩ v)) (.inl rfl) (.inl rfl)

/-- A slice value of the letters L, which lie in block b (if there are any). -/
def View (w : World) (v : Value) (b : Nat) (L : List Lt) : Prop :=
  ∃ ao cap, v = .slice ao L.length cap ∧ L.length ≤ cap ∧ cap ≤ maxLen ∧
    (L = [] ∨ ∃ o, ao = some ⟨b, o, none⟩ ∧ b < w.heap.size ∧ ∀ j, j < L.length * 11 → w.cell? ⟨b, o + j, none⟩ = (flat L)[j]?)

/-- The same, all its room in block g, which may be written. -/
def Own (w : World) (v : Value) (g : Nat) (L : List Lt) : Prop :=
  ∃ ao cap, v = .slice ao L.length cap ∧ L.length ≤ cap ∧ cap ≤ maxLen ∧ g < w.heap.size ∧
    ((ao = none ∧ cap = 0) ∨ ∃ o, ao = some ⟨g, o, none⟩ ∧ (∀ j, j < L.length * 11 → w.cell? ⟨g, o + j, none⟩ = (flat L)[j]?) ∧
      ∀ j, j < cap * 11 → (w.cell? ⟨g, o + j, none⟩).isSome = true ∧ w.frozen? ⟨g, o + j, none⟩ = false)

theorem Own.view {w : World} {v : Value} {g : Nat} {L : List Lt} (h : Own w v g L) : View w v g L := by
  obtain ⟨ao, cap, rfl, h1, h2, h3, h4⟩ := h
  refine ⟨ao, cap, rfl, h1, h2, ?_⟩
  rcases h4 with ⟨_, rfl⟩ | ⟨o, rfl, h5, _⟩
  · left; exact List.eq_nil_of_length_eq_zero (by omega)
  · exact .inr ⟨o, rfl, h3, h5⟩

theorem View.carry {w w' : World} {v : Value} {b : Nat} {L : List Lt} (h : View w v b L) (hb : L ≠ [] → b < w.heap.size → w'.heap[b]? = w.heap[b]?) : View w' v b L := by
  obtain ⟨ao, cap, rfl, h1, h2, h3⟩ := h
  refine ⟨ao, cap, rfl, h1, h2, ?_⟩
  by_cases hn : L = []
  · exact .inl hn
  rcases h3 with h3 | ⟨o, rfl, h4, h5⟩
  · exact .inl h3
  · have e := hb hn h4
    refine .inr ⟨o, rfl, ?_, fun j hj => (World.cell?_of_block (w := w) e).trans (h5 j hj)⟩
    rw [Array.getElem?_eq_getElem h4] at e
    exact (Array.getElem?_eq_some_iff.1 e).1

theorem Own.carry {w w' : World} {v : Value} {g : Nat} {L : List Lt} (h : Own w v g L) (e : w'.heap[g]? = w.heap[g]?) : Own w' v g L := by
  obtain ⟨ao, cap, rfl, h1, h2, h3, h4⟩ := h
  refine ⟨ao, cap, rfl, h1, h2, ?_, ?_⟩
  · rw [Array.getElem?_eq_getElem h3] at e
    exact (Array.getElem?_eq_some_iff.1 e).1
  · rcases h4 with h4 | ⟨o, rfl, h5, h6⟩
    · exact .inl h4
    · exact .inr ⟨o, rfl, fun j hj => (World.cell?_of_block (w := w) e).trans (h5 j hj), fun j hj => ⟨by rw [World.cell?_of_block (w := w) (a := ⟨g, o + j, none⟩) e]; exact (h6 j hj).1, (World.frozen?_of_block (w := w) e).trans (h6 j hj).2⟩⟩

theorem View.src {w : World} {v : Value} {b : Nat} {L : List Lt} (h : View w v b L) : Src Try.prog 11 29 v L.length (flat L) w := by
  obtain ⟨ao, cap, rfl, h1, h2, h3⟩ := h
  rcases h3 with rfl | ⟨o, rfl, h4, h5⟩
  · cases ao with
    | none => exact Src.ofNil _ Try.underlying29 cap
    | some a => exact Src.ofSlice _ Try.underlying29 a 0 cap [] rfl (by simp) (by simp)
  · refine Src.ofSlice _ Try.underlying29 _ _ cap _ (flat_length L) (fun j u hu => ?_) (flat_one L)
    rw [Addr.add_lit, h5 j (by rw [← flat_length]; exact (List.getElem?_eq_some_iff.1 hu).1)]
    exact hu

/-- What an append leaves. -/
structure AppP (w w' : World) (v v' : Value) (g g' : Nat) : Prop where
  fr : Fr g g w w'
  nil : v = .slice none 0 0 → Below w.heap.size w w'
  lies : g' = g ∨ w.heap.size ≤ g'
  keep : g' = g → v = .slice none 0 0 → v' = .slice none 0 0

/-- append, whichever arm. -/
theorem run_app {ty : TypeId} {w : World} {v x : Value} {g b : Nat} {L M : List Lt} (hv : Own w v g L) (hx : View w x b M) (hs : L.length + M.length ≤ 1000000) :
    ∃ v' w' g', (Builtin.append_ #[29, 29] ty #[v, x]).run Try.prog w = .ok v' w' ∧ Own w' v' g' (L ++ M) ∧ AppP w w' v v' g g' := by
  obtain ⟨i0, hi, hz0, hz1, hz2⟩ := info_parts infoL
  have hsrc := hx.src
  obtain ⟨ao, cap, rfl, hle, hmx, hg, hown⟩ := hv
  rw [← hz1] at hsrc
  by_cases room : L.length + M.length ≤ cap
  · rcases hown with ⟨rfl, rfl⟩ | ⟨o, rfl, hc, hsp⟩
    · have e1 : L = [] := List.eq_nil_of_length_eq_zero (by omega)
      have e2 : M = [] := List.eq_nil_of_length_eq_zero (by omega)
      subst e1 e2
      exact ⟨_, _, g, run_append_nothing w _ _ ty _ i0 Try.underlying29 hi none 0 0 (Nat.le_refl _) x hsrc, ⟨none, 0, rfl, Nat.le_refl _, Nat.zero_le _, hg, .inl ⟨rfl, rfl⟩⟩, ⟨Fr.refl _ _ _, fun _ => Below.refl _ _, .inl rfl, fun _ _ => rfl⟩⟩
    · have hr := run_append_room_src (P := Try.prog) w 29 29 ty _ i0 Try.underlying29 hi g o L.length cap x M.length (flat M) hsrc room
        (fun j hj => by rw [hz1, Nat.add_assoc]; rw [flat_length] at hj; exact (hsp _ (by omega)).1) (fun j hj => by rw [hz1, Nat.add_assoc]; rw [flat_length] at hj; exact (hsp _ (by omega)).2)
      rw [hz1] at hr
      refine ⟨_, _, g, hr, ⟨some ⟨g, o, none⟩, cap, by simp, by simpa using room, hmx, ?_, .inr ⟨o, rfl, fun j hj => ?_, fun j hj => ?_⟩⟩, ⟨setCells_fr g _ _ w, fun h => (by cases h), .inl rfl, fun _ h => (by cases h)⟩⟩
      · exact Nat.lt_of_lt_of_le hg (setCells_fr g _ _ w).size
      · rw [flat_append]
        by_cases hj' : j < L.length * 11
        · rw [World.cell?_setCells_out _ _ _ _ _ (fun _ _ => .inl (by simp; omega)), hc j hj', List.getElem?_append_left (by rw [flat_length]; exact hj')]
        · rw [List.getElem?_append_right (by rw [flat_length]; omega), flat_length]
          simp at hj
          have := World.cell?_setCells_in g (flat M) (o + L.length * 11) w (fun i hi => by rw [Nat.add_assoc]; rw [flat_length] at hi; exact (hsp _ (by omega)).1) (j - L.length * 11) (by rw [flat_length]; omega)
          rw [show o + L.length * 11 + (j - L.length * 11) = o + j by omega] at this
          rw [this, List.getElem?_eq_getElem]
      · exact ⟨World.isSome_setCells _ _ _ _ _ (hsp j hj).1, by rw [World.frozen?_setCells]; exact (hsp j hj).2⟩
  · have hold : (Builtin.firstCells i0.size L.length (.slice ao L.length cap)).run Try.prog w.drew = .ok (flat L).toArray w.drew := by
      rcases hown with ⟨rfl, rfl⟩ | ⟨o, rfl, hc, hsp⟩
      · have e1 : L = [] := List.eq_nil_of_length_eq_zero (by omega)
        subst e1
        exact run_firstCells_none w.drew i0.size 0 0 0
      · refine run_firstCells_some w.drew i0.size L.length ⟨g, o, none⟩ L.length cap (flat L) (by rw [hz1, flat_length]) (fun j u hu => ?_)
        rw [Addr.add_lit]
        exact (hc j (by rw [← flat_length]; exact (List.getElem?_eq_some_iff.1 hu).1)).trans hu
    have hr := run_append_grow_src (P := Try.prog) w 29 29 ty _ i0 _ Try.underlying29 hi hz0 ao L.length cap (flat L) hold x M.length (flat M) hsrc (by omega) (by omega) (growslice_fits (by omega) (by rw [hz2]; omega))
    have hge := grownCap_ge w (L.length + M.length) cap 37
    have hcm : grownCap w (L.length + M.length) cap 37 ≤ maxLen := grownCap_le_maxLen w _ cap 37 (by simp only [maxLen]; omega)
    have hnew := heap_alloc_new w.drew (Obj.cells ((flat L ++ flat M).toArray ++ Builtin.zeroCells (letV zeroL).cells (grownCap w (L.length + M.length) cap 37 - (L.length + M.length))) 37)
    have hcell := fun j => cell_of_row _ w.drew.heap.size j _ _ _ hnew
    have hsz : ((flat L ++ flat M).toArray ++ Builtin.zeroCells (letV zeroL).cells (grownCap w (L.length + M.length) cap 37 - (L.length + M.length))).size = grownCap w (L.length + M.length) cap 37 * 11 := by
      rw [Array.size_append, size_zeroCells]
      simp [flat_length, letV, Value.cells]
      omega
    refine ⟨_, _, w.heap.size, hr, ⟨some ⟨w.heap.size, 0, none⟩, _, by simp, by simpa using hge, hcm, by simp, .inr ⟨0, rfl, fun j hj => ?_, fun j hj => ?_⟩⟩, ⟨⟨rfl, rfl, rfl, by simp, fun k hk _ _ => Below.heap_alloc w.drew _ k hk⟩, fun _ => ⟨rfl, rfl, rfl, by simp, fun k hk => Below.heap_alloc w.drew _ k hk⟩, .inr (Nat.le_refl _), fun e => by omega⟩⟩
    · rw [Nat.zero_add]
      refine (hcell j).trans ?_
      rw [Array.getElem?_append_left (by simp [flat_length] at hj ⊢; omega), flat_append]
      simp
    · rw [Nat.zero_add]
      refine ⟨?_, ?_⟩
      · have := hcell j
        rw [Array.getElem?_eq_getElem (by rw [hsz]; exact hj)] at this
        exact Option.isSome_iff_exists.2 ⟨_, this⟩
      · have h2 := hnew
        simp only [World.frozen?]
        rw [show w.heap.size = w.drew.heap.size from rfl, h2]
        simp
end Go.Proofs.Ytajcebnbmejamaa
