/- layer 15: LinS, put together. -/
import Derived.Test.YtoenjdnccgmhoaaGreatDoorB14
import Derived.Test.YtoenjdnccgmhoaaGreatDoorB16
namespace Go.Proofs.YtoenjdnccgmhoaaGreatDoor
open Go.ChangeShapes Go.WideShapes Go.ChangeAt Go.RowKit
set_option linter.unusedSimpArgs false
set_option linter.unusedVariables false
set_option maxRecDepth 10000
attribute [local go_sem, local simp] over_const setCell_drewN alloc_drewN Over.cell Over.frozen lt_s1 lt_s2 lt_s3 le_s0 le_s1 le_s2 le_s3 eq_s0 eq_s1 eq_s2 qe_s0
open Go.Sort (Holds putRow grow)
theorem ahead_heap (w : World) (n : Nat) : (Go.Sort.ahead w n).heap = w.heap := rfl
theorem sort_c (v : Value) (g : Nat) (L : List Int) (w : World) (h : Own w v g L) (hl : L.length ≤ 100000) : Calls Tryz.prog 140 #[v] w fun e w' => e = .returned (.tuple #[]) ∧ Own w' v g (listA L) ∧ FrS (· = g) w w' := by
  obtain ⟨ao, cap, rfl, h1, h2, h3, h4⟩ := h
  by_cases c : L = []
  · subst c
    refine Calls.mono (show Calls Tryz.prog 140 #[.slice ao 0 cap] w _ from AnyG.slices_Sort_int_none sortLays ao cap w) ?_
    rintro e w' ⟨rfl, rfl⟩
    refine ⟨rfl, ⟨ao, cap, by simp [listA], by simp [listA], h2, h3, ?_⟩, FrS.refl _ _⟩
    rcases h4 with h4 | ⟨o, rfl, h5, h6⟩
    · exact .inl h4
    · exact .inr ⟨o, rfl, fun j hj => by simp [listA] at hj, h6⟩
  · have hpos : 0 < L.length := List.length_pos_iff.2 c
    rcases h4 with ⟨_, rfl⟩ | ⟨o, rfl, h5, h6⟩
    · omega
    have hH : Holds (Value.int .i64) w g o L.toArray := by
      intro j hj
      simp at hj
      refine ⟨(h5 j hj).trans ?_, (h6 j (by omega)).2⟩
      rw [ints_at L j hj]
      simp [hj]
    refine Calls.mono (show Calls Tryz.prog 140 #[.slice (some ⟨g, o, none⟩) L.length cap] w _ from AnyG.slices_Sort_int sortLays g o cap L w hH h3 (by omega)) ?_
    rintro e w' ⟨rfl, n, os, rfl⟩
    have hlen := listA_len L
    refine ⟨rfl, ⟨_, cap, by rw [hlen], by omega, h2, ?_, .inr ⟨o, rfl, fun j hj => ?_, fun j hj => ?_⟩⟩, ?_⟩
    · rw [Go.Sort.size_grow, Go.Sort.size_putRow, ahead_heap]; omega
    · rw [Go.Sort.cell?_grow _ _ _ (by rw [Go.Sort.size_putRow]; exact h3)]
      rw [Go.Sort.cell?_putRow (Value.int .i64) (Go.Sort.ahead w n) g o L.toArray _ hH (by simp) j (by simpa [listA] using hj), ints_at (listA L) j hj]
      have hj' : j < (L.mergeSort fun x y => decide (x ≤ y)).length := hj
      simp [listA]
      rw [List.getElem?_eq_getElem hj']
      rfl
    · rw [Go.Sort.cell?_grow _ _ _ (by rw [Go.Sort.size_putRow]; exact h3), Go.Sort.frozen?_grow _ _ _ (by rw [Go.Sort.size_putRow]; exact h3), Go.Sort.frozen?_putRow]
      refine ⟨?_, (h6 j hj).2⟩
      by_cases hj' : j < L.length
      · rw [Go.Sort.cell?_putRow (Value.int .i64) (Go.Sort.ahead w n) g o L.toArray _ hH (by simp) j (by simpa using hj')]
        rfl
      · rw [Go.Sort.cell?_putRow_other _ _ _ _ _ _ (.inr (.inr (by simp; omega)))]
        exact (h6 j hj).1
    · refine ⟨rfl, rfl, rfl, by rw [Go.Sort.size_grow, Go.Sort.size_putRow, ahead_heap]; omega, fun k hk hkg => ?_⟩
      rw [Go.Sort.heap_grow_old _ _ (by rw [Go.Sort.size_putRow]; exact hk)]
      have hne : ¬ g = k := fun e => hkg e.symm
      simp [putRow, Go.Sort.mapBlock, Array.getElem?_modify, hne, ahead_heap]
end Go.Proofs.YtoenjdnccgmhoaaGreatDoor
