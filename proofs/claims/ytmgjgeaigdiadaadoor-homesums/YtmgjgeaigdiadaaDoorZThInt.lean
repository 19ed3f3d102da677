/- layer 16: ThInt, put together. -/
import Derived.Test.YtmgjgeaigdiadaaDoorB09
namespace Go.Proofs.YtmgjgeaigdiadaaDoor
open Go.ChangeShapes Go.WideShapes Go.ChangeAt Go.RowKit
set_option linter.unusedSimpArgs false
set_option linter.unusedVariables false
set_option maxRecDepth 10000
attribute [local go_sem, local simp] over_const setCell_drewN alloc_drewN Over.cell Over.frozen lt_s1 lt_s2 lt_s3 le_s0 le_s1 le_s2 le_s3 eq_s0 eq_s1 eq_s2 qe_s0
def ThIs (w : World) (v : Value) (g n : Nat) (f : Int → Int) : Prop := ∃ T : List Int, T.length = n ∧ Own w v g T ∧ ∀ i (h : i < T.length), T[i] = f i
section
variable {w w' : World} {v : Value} {g n : Nat} {f f' : Int → Int}
theorem ThIs.lt (h : ThIs w v g n f) : g < w.heap.size := by obtain ⟨T, _, h2, _⟩ := h; exact h2.lt
theorem ThIs.below (h : ThIs w v g n f) (hb : Below w.heap.size w w') : ThIs w' v g n f := by obtain ⟨T, h1, h2, h3⟩ := h; exact ⟨T, h1, h2.below hb, h3⟩
theorem ThIs.fr {F : Nat → Prop} (h : ThIs w v g n f) (hf : FrS F w w') (hn : ¬ F g) : ThIs w' v g n f := by obtain ⟨T, h1, h2, h3⟩ := h; exact ⟨T, h1, h2.fr hf hn, h3⟩
theorem ThIs.alike (h : ThIs w v g n f) (he : ∀ i : Nat, i < n → f i = f' i) : ThIs w v g n f' := by
  obtain ⟨T, h1, h2, h3⟩ := h
  exact ⟨T, h1, h2, fun i hi => (h3 i hi).trans (he i (by omega))⟩
theorem ThIs.val (h : ThIs w v g n f) : ∃ ao cap, v = .slice ao n cap ∧ n ≤ cap ∧ cap ≤ maxLen := by
  obtain ⟨T, h1, ⟨ao, cap, e, h4, h5, -⟩, -⟩ := h
  exact ⟨ao, cap, by rw [e, h1], by omega, h5⟩
theorem ThIs.at1 (h : ThIs w v g n f) {j : Nat} (hj : j < n) : ∃ o cap, v = .slice (some ⟨g, o, none⟩) n cap ∧ n ≤ cap ∧ g < w.heap.size ∧ w.cell? ⟨g, o + j, none⟩ = some (.int .i64 (f j)) ∧ w.frozen? ⟨g, o + j, none⟩ = false := by
  obtain ⟨T, h1, ⟨ao, cap, e, h4, h5, h6, h7⟩, h3⟩ := h
  rcases h7 with ⟨rfl, rfl⟩ | ⟨o, rfl, h8, h9⟩
  · omega
  · refine ⟨o, cap, by rw [e, h1], by omega, h6, ?_, (h9 j (by omega)).2⟩
    rw [h8 j (by omega), ints_at T j (by omega), h3 j (by omega)]
theorem ThIs.put {o cap : Nat} (h : ThIs w (.slice (some ⟨g, o, none⟩) n cap) g n f) {j : Nat} (hj : j < n) (x : Int) : ThIs (w.setCell ⟨g, o + j, none⟩ (.int .i64 x)) (.slice (some ⟨g, o, none⟩) n cap) g n (fun y => if y = j then x else f y) := by
  obtain ⟨T, h1, ⟨ao, cap', e, h4, h5, h6, h7⟩, h3⟩ := h
  simp only [Value.slice.injEq] at e
  obtain ⟨rfl, e1, rfl⟩ := e
  rcases h7 with ⟨e2, -⟩ | ⟨o', e2, h8, h9⟩
  · cases e2
  · obtain rfl : o = o' := by simpa using e2
    refine ⟨T.set j x, by simp [h1], ⟨_, cap, by simp [h1], by simpa using h4, h5, by simpa using h6, .inr ⟨o, rfl, fun i hi => ?_, fun i hi => ?_⟩⟩, fun i hi => ?_⟩
    · rw [List.length_set] at hi
      by_cases ei : i = j
      · subst ei
        rw [ints_at _ _ (by simpa using hi)]
        simp only [List.getElem_set_self]
        have h10 := h8 i hi
        have h11 := h9 i (by omega)
        obtain ⟨u, hu⟩ := Option.isSome_iff_exists.1 h11.1
        rw [World.cell?_setCell_same _ _ _ hu]
      · rw [World.cell?_setCell_other _ _ _ _ (fun e => by have := congrArg Addr.off e; dsimp only at this; omega), h8 i hi, ints_at _ _ hi, ints_at _ _ (by simpa using hi), List.getElem_set_ne (by omega)]
    · refine ⟨?_, by rw [World.frozen?_setCell]; exact (h9 i hi).2⟩
      by_cases ei : i = j
      · subst ei
        obtain ⟨u, hu⟩ := Option.isSome_iff_exists.1 (h9 i hi).1
        rw [World.cell?_setCell_same _ _ _ hu]
        rfl
      · rw [World.cell?_setCell_other _ _ _ _ (fun e => by have := congrArg Addr.off e; dsimp only at this; omega)]
        exact (h9 i hi).1
    · dsimp only
      by_cases ei : i = j
      · subst ei
        simp
      · rw [List.getElem_set_ne (by omega), if_neg (by omega)]
        exact h3 i (by simpa using hi)
end
theorem own_of_rowI {w : World} {base n : Nat} {v : Value} {L : List Int} (h : w.ownsRow base 3 1 v n (ints L)) (hn : 1 ≤ n) : ∃ g, Own w v g L ∧ base ≤ g := by
  obtain ⟨h1, h2⟩ := h
  rw [ints_length] at h1
  rcases h2 with ⟨rfl, rfl⟩ | ⟨g, cap, cur, rfl, h3, h4, h5, h6, h7, h8⟩
  · omega
  · have hL : L.length = n := by omega
    have hg := (Array.getElem?_eq_some_iff.1 h4).1
    have hc : ∀ j, j < L.length → w.cell? ⟨g, 0 + j, none⟩ = (ints L)[j]? := fun j hj => by
      rw [Nat.zero_add, cell_of_row _ _ _ _ _ _ h4]
      have h9 := congrArg (fun l => l[j]?) h8
      try dsimp only at h9
      rw [List.getElem?_take_of_lt (by omega)] at h9
      rw [← Array.getElem?_toList, h9]
    refine ⟨g, ⟨some ⟨g, 0, none⟩, cap, by rw [hL], by omega, h6, hg, .inr ⟨0, rfl, hc, fun j hj => ?_⟩⟩, h3⟩
    rw [Nat.zero_add, cell_of_row _ _ _ _ _ _ h4]
    exact ⟨by rw [Array.getElem?_eq_getElem (by omega)]; rfl, frozen_of_row _ _ _ _ _ h4⟩
end Go.Proofs.YtmgjgeaigdiadaaDoor
