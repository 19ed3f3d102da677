/- layer 16: LinBase, put together. -/
import Derived.Test.YtmgjgeaigdiadaaDoorRows
import Derived.Test.YtmgjgeaigdiadaaDoorB04
import Derived.Deep.AppendSrc
import Derived.Deep.Upon
import Derived.Deep.RegionLaw
import Derived.Deep.MidRow
namespace Go.Proofs.YtmgjgeaigdiadaaDoor
open Go.ChangeShapes Go.WideShapes Go.ChangeAt Go.RowKit
set_option linter.unusedSimpArgs false
set_option linter.unusedVariables false
set_option maxRecDepth 10000
attribute [local go_sem, local simp] over_const setCell_drewN alloc_drewN Over.cell Over.frozen lt_s1 lt_s2 lt_s3 le_s0 le_s1 le_s2 le_s3 eq_s0 eq_s1 eq_s2 qe_s0
def ints (L : List Int) : List Value := L.map (Value.int .i64)
theorem ints_append (L M : List Int) : ints (L ++ M) = ints L ++ ints M := by simp [ints]
theorem ints_length (L : List Int) : (ints L).length = L.length := by simp [ints]
theorem ints_at (L : List Int) (i : Nat) (hi : i < L.length) : (ints L)[i]? = some (.int .i64 L[i]) := by simp [ints, hi]
theorem ints_one (L : List Int) : ∀ u ∈ ints L, u.oneCell' = true := by
  intro u hu
  obtain ⟨x, _, rfl⟩ := List.mem_map.1 hu
  rfl
theorem infoI : (Tryd.prog.info? 3).map (fun i => (i.zero, i.size, i.bytes)) = some (some (.int .i64 0), 1, 8) := by kernel_rfl
def View (w : World) (v : Value) (b : Nat) (L : List Int) : Prop :=
  ∃ ao cap, v = .slice ao L.length cap ∧ L.length ≤ cap ∧ cap ≤ maxLen ∧
    (L = [] ∨ ∃ o, ao = some ⟨b, o, none⟩ ∧ b < w.heap.size ∧ ∀ j, j < L.length → w.cell? ⟨b, o + j, none⟩ = (ints L)[j]?)
def Own (w : World) (v : Value) (g : Nat) (L : List Int) : Prop :=
  ∃ ao cap, v = .slice ao L.length cap ∧ L.length ≤ cap ∧ cap ≤ maxLen ∧ g < w.heap.size ∧
    ((ao = none ∧ cap = 0) ∨ ∃ o, ao = some ⟨g, o, none⟩ ∧ (∀ j, j < L.length → w.cell? ⟨g, o + j, none⟩ = (ints L)[j]?) ∧
      ∀ j, j < cap → (w.cell? ⟨g, o + j, none⟩).isSome = true ∧ w.frozen? ⟨g, o + j, none⟩ = false)
theorem Own.view {w : World} {v : Value} {g : Nat} {L : List Int} (h : Own w v g L) : View w v g L := by
  obtain ⟨ao, cap, rfl, h1, h2, h3, h4⟩ := h
  refine ⟨ao, cap, rfl, h1, h2, ?_⟩
  rcases h4 with ⟨_, rfl⟩ | ⟨o, rfl, h5, _⟩
  · left; exact List.eq_nil_of_length_eq_zero (by omega)
  · exact .inr ⟨o, rfl, h3, h5⟩
theorem Own.lt {w : World} {v : Value} {g : Nat} {L : List Int} (h : Own w v g L) : g < w.heap.size := by obtain ⟨_, _, _, _, _, h, _⟩ := h; exact h
theorem View.carry {w w' : World} {v : Value} {b : Nat} {L : List Int} (h : View w v b L) (hb : L ≠ [] → b < w.heap.size → w'.heap[b]? = w.heap[b]?) : View w' v b L := by
  obtain ⟨ao, cap, rfl, h1, h2, h3⟩ := h
  refine ⟨ao, cap, rfl, h1, h2, ?_⟩
  by_cases hn : L = []
  · exact .inl hn
  rcases h3 with h3 | ⟨o, rfl, h4, h5⟩
  · exact .inl h3
  · have e := hb hn h4
    refine .inr ⟨o, rfl, ?_, fun j hj => (World.cell?_of_block (w := w) e).trans (h5 j hj)⟩
    rw [Array.getElem?_eq_getElem h4] at e
    exact (Array.getElem?_eq_some_iff.1 e).1
theorem Own.carry {w w' : World} {v : Value} {g : Nat} {L : List Int} (h : Own w v g L) (e : w'.heap[g]? = w.heap[g]?) : Own w' v g L := by
  obtain ⟨ao, cap, rfl, h1, h2, h3, h4⟩ := h
  refine ⟨ao, cap, rfl, h1, h2, ?_, ?_⟩
  · rw [Array.getElem?_eq_getElem h3] at e
    exact (Array.getElem?_eq_some_iff.1 e).1
  · rcases h4 with h4 | ⟨o, rfl, h5, h6⟩
    · exact .inl h4
    · exact .inr ⟨o, rfl, fun j hj => (World.cell?_of_block (w := w) e).trans (h5 j hj), fun j hj => ⟨by rw [World.cell?_of_block (w := w) (a := ⟨g, o + j, none⟩) e]; exact (h6 j hj).1, (World.frozen?_of_block (w := w) e).trans (h6 j hj).2⟩⟩
theorem View.src {w : World} {v : Value} {b : Nat} {L : List Int} (h : View w v b L) : Src Tryd.prog 1 53 v L.length (ints L) w := by
  obtain ⟨ao, cap, rfl, h1, h2, h3⟩ := h
  rcases h3 with rfl | ⟨o, rfl, h4, h5⟩
  · cases ao with
    | none => exact Src.ofNil _ Tryd.underlying53 cap
    | some a => exact Src.ofSlice _ Tryd.underlying53 a 0 cap [] rfl (by simp) (by simp)
  · refine Src.ofSlice _ Tryd.underlying53 _ _ cap _ (by rw [ints_length, Nat.mul_one]) (fun j u hu => ?_) (ints_one L)
    rw [Addr.add_lit, h5 j (by rw [← ints_length]; exact (List.getElem?_eq_some_iff.1 hu).1)]
    exact hu
theorem run_app {ty : TypeId} {w : World} {v x : Value} {g b : Nat} {L M : List Int} (hv : Own w v g L) (hx : View w x b M) (hs : L.length + M.length ≤ 1000000) :
    ∃ v' w' g', (Builtin.append_ #[53, 53] ty #[v, x]).run Tryd.prog w = .ok v' w' ∧ Own w' v' g' (L ++ M) ∧ AppP w w' v v' g g' := by
  obtain ⟨i0, hi, hz0, hz1, hz2⟩ := info_parts infoI
  have hsrc := hx.src
  obtain ⟨ao, cap, rfl, hle, hmx, hg, hown⟩ := hv
  rw [← hz1] at hsrc
  by_cases room : L.length + M.length ≤ cap
  · rcases hown with ⟨rfl, rfl⟩ | ⟨o, rfl, hc, hsp⟩
    · have e1 : L = [] := List.eq_nil_of_length_eq_zero (by omega)
      have e2 : M = [] := List.eq_nil_of_length_eq_zero (by omega)
      subst e1 e2
      exact ⟨_, _, g, run_append_nothing w _ _ ty _ i0 Tryd.underlying53 hi none 0 0 (Nat.le_refl _) x hsrc, ⟨none, 0, rfl, Nat.le_refl _, Nat.zero_le _, hg, .inl ⟨rfl, rfl⟩⟩, ⟨FrS.refl _ _, fun _ => Below.refl _ _, .inl rfl, fun _ _ => rfl⟩⟩
    · have hr := run_append_room_src (P := Tryd.prog) w 53 53 ty _ i0 Tryd.underlying53 hi g o L.length cap x M.length (ints M) hsrc room
        (fun j hj => by rw [hz1, Nat.mul_one, Nat.add_assoc]; rw [ints_length] at hj; exact (hsp _ (by omega)).1) (fun j hj => by rw [hz1, Nat.mul_one, Nat.add_assoc]; rw [ints_length] at hj; exact (hsp _ (by omega)).2)
      rw [hz1, Nat.mul_one] at hr
      refine ⟨_, _, g, hr, ⟨some ⟨g, o, none⟩, cap, by simp, by simpa using room, hmx, ?_, .inr ⟨o, rfl, fun j hj => ?_, fun j hj => ?_⟩⟩, ⟨setCells_frS g _ _ w, fun h => (by cases h), .inl rfl, fun _ h => (by cases h)⟩⟩
      · exact Nat.lt_of_lt_of_le hg (setCells_frS g _ _ w).size
      · rw [ints_append]
        by_cases hj' : j < L.length
        · rw [World.cell?_setCells_out _ _ _ _ _ (fun _ _ => .inl (by simp; omega)), hc j hj', List.getElem?_append_left (by rw [ints_length]; exact hj')]
        · rw [List.getElem?_append_right (by rw [ints_length]; omega), ints_length]
          simp at hj
          have := World.cell?_setCells_in g (ints M) (o + L.length) w (fun i hi => by rw [Nat.add_assoc]; rw [ints_length] at hi; exact (hsp _ (by omega)).1) (j - L.length) (by rw [ints_length]; omega)
          rw [show o + L.length + (j - L.length) = o + j by omega] at this
          rw [this, List.getElem?_eq_getElem]
      · exact ⟨World.isSome_setCells _ _ _ _ _ (hsp j hj).1, by rw [World.frozen?_setCells]; exact (hsp j hj).2⟩
  · have hold : (Builtin.firstCells i0.size L.length (.slice ao L.length cap)).run Tryd.prog w.drew = .ok (ints L).toArray w.drew := by
      rcases hown with ⟨rfl, rfl⟩ | ⟨o, rfl, hc, hsp⟩
      · have e1 : L = [] := List.eq_nil_of_length_eq_zero (by omega)
        subst e1
        exact run_firstCells_none w.drew i0.size 0 0 0
      · refine run_firstCells_some w.drew i0.size L.length ⟨g, o, none⟩ L.length cap (ints L) (by rw [hz1, ints_length, Nat.mul_one]) (fun j u hu => ?_)
        rw [Addr.add_lit]
        exact (hc j (by rw [← ints_length]; exact (List.getElem?_eq_some_iff.1 hu).1)).trans hu
    have hr := run_append_grow_src (P := Tryd.prog) w 53 53 ty _ i0 _ Tryd.underlying53 hi hz0 ao L.length cap (ints L) hold x M.length (ints M) hsrc (by omega) (by omega) (growslice_fits (by omega) (by rw [hz2]; omega))
    have hge := grownCap_ge w (L.length + M.length) cap 3
    have hcm : grownCap w (L.length + M.length) cap 3 ≤ maxLen := grownCap_le_maxLen w _ cap 3 (by simp only [maxLen]; omega)
    have hnew := heap_alloc_new w.drew (Obj.cells ((ints L ++ ints M).toArray ++ Builtin.zeroCells (Value.int .i64 0).cells (grownCap w (L.length + M.length) cap 3 - (L.length + M.length))) 3)
    have hcell := fun j => cell_of_row _ w.drew.heap.size j _ _ _ hnew
    have hsz : ((ints L ++ ints M).toArray ++ Builtin.zeroCells (Value.int .i64 0).cells (grownCap w (L.length + M.length) cap 3 - (L.length + M.length))).size = grownCap w (L.length + M.length) cap 3 := by
      rw [Array.size_append, size_zeroCells]
      simp [ints_length, Value.cells]
      omega
    refine ⟨_, _, w.heap.size, hr, ⟨some ⟨w.heap.size, 0, none⟩, _, by simp, by simpa using hge, hcm, by simp, .inr ⟨0, rfl, fun j hj => ?_, fun j hj => ?_⟩⟩, ⟨⟨rfl, rfl, rfl, by simp, fun k hk _ => Below.heap_alloc w.drew _ k hk⟩, fun _ => ⟨rfl, rfl, rfl, by simp, fun k hk => Below.heap_alloc w.drew _ k hk⟩, .inr (Nat.le_refl _), fun e => by omega⟩⟩
    · rw [Nat.zero_add]
      refine (hcell j).trans ?_
      rw [Array.getElem?_append_left (by simp [ints_length] at hj ⊢; omega), ints_append]
      simp
    · rw [Nat.zero_add]
      refine ⟨?_, ?_⟩
      · have := hcell j
        rw [Array.getElem?_eq_getElem (by rw [hsz]; exact hj)] at this
        exact Option.isSome_iff_exists.2 ⟨_, this⟩
      · have h2 := hnew
        simp only [World.frozen?]
        rw [show w.heap.size = w.drew.heap.size from rfl, h2]
        simp
end Go.Proofs.YtmgjgeaigdiadaaDoor
