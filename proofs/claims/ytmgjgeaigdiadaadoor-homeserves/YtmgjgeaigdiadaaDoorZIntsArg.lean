/- layer 16: IntsArg, put together. -/
import Derived.Test.YtmgjgeaigdiadaaDoorB09
import Derived.Test.YtmgjgeaigdiadaaDoorB01
namespace Go.Proofs.YtmgjgeaigdiadaaDoor
open Go.ChangeShapes Go.WideShapes Go.ChangeAt Go.RowKit
set_option linter.unusedSimpArgs false
set_option linter.unusedVariables false
set_option maxRecDepth 10000
attribute [local go_sem, local simp] over_const setCell_drewN alloc_drewN Over.cell Over.frozen lt_s1 lt_s2 lt_s3 le_s0 le_s1 le_s2 le_s3 eq_s0 eq_s1 eq_s2 qe_s0
theorem cell_ltI {w : World} {b o : Nat} {v : Value} (h : w.cell? ⟨b, o, none⟩ = some v) : b < w.heap.size := by
  apply Classical.byContradiction
  intro hn
  have : w.heap[b]? = none := Array.getElem?_eq_none (by omega)
  simp [World.cell?, this] at h
def IntsAt (B : Nat) (w : World) (v : Value) (A : List Int) : Prop := ∃ b, View w v b A ∧ (A ≠ [] → b < B)
theorem ints_of {w : World} {ao : Option Addr} {len cap : Nat} (le : len ≤ cap) (mx : cap ≤ maxLen) (r : len = 0 ∨ ∃ (b off : Nat) (R : Nat → List Value), ao = some ⟨b, off, none⟩ ∧ ∀ i, i < len → allLeaf [some .i64] (R i) ∧ ∀ j, j < [some IntKind.i64].length → w.cell? ⟨b, off + i * [some IntKind.i64].length + j, none⟩ = (R i)[j]?) :
    ∃ A, IntsAt w.heap.size w (.slice ao len cap) A := by
  by_cases hz : len = 0
  · subst hz
    exact ⟨[], 0, ⟨ao, cap, rfl, Nat.zero_le _, mx, .inl rfl⟩, fun h => absurd rfl h⟩
  rcases r with r | ⟨b, off, R, rfl, hR⟩
  · exact absurd r hz
  · have row : ∀ i, i < len → ∃ x : Int, w.cell? ⟨b, off + i, none⟩ = some (.int .i64 x) := by
      intro i hi
      obtain ⟨h0, hc⟩ := hR i hi
      obtain ⟨x0, v0, e0, w0, h1⟩ := allLeaf_int h0
      have q := hc 0 (by simp)
      rw [e0] at q
      exact ⟨x0, by simpa using q⟩
    obtain ⟨f, hf⟩ := @Go.Deep.choose_lt Int ⟨0⟩ len (fun i x => w.cell? ⟨b, off + i, none⟩ = some (.int .i64 x)) row
    have hl : ((List.range len).map f).length = len := by simp
    refine ⟨(List.range len).map f, b, ⟨some ⟨b, off, none⟩, cap, by rw [hl], by rw [hl]; exact le, mx, .inr ⟨off, rfl, cell_ltI (hf 0 (by omega)), fun j hj => ?_⟩⟩, fun _ => cell_ltI (hf 0 (by omega))⟩
    rw [hl] at hj
    rw [hf j hj]
    simp [ints, hj]
theorem IntsAt.below {B : Nat} {w w' : World} {v : Value} {A : List Int} (h : IntsAt B w v A) (hb : Below B w w') : IntsAt B w' v A := by
  obtain ⟨b, h1, h2⟩ := h
  exact ⟨b, h1.carry (fun hn _ => hb.block b (h2 hn)), h2⟩
end Go.Proofs.YtmgjgeaigdiadaaDoor
