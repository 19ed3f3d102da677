/- An argument that is a slice of plain structs (or of integers, bools), opened: each row's cells by their kinds, at plain addresses. No program is named here; no condition. -/
import Derived.Test.YtmdioofpghbjbaaFlat
import Derived.Deep.Slices
namespace Go.Proofs.Ytmdioofpghbjbaa
open Go.ChangeShapes Go.WideShapes Go.ChangeAt Go.RowKit

theorem flatB_cells {P : Program} {e : TypeId} {ks : List (Option IntKind)} (hk : flatB P e ks = true) : P.cellsOf e = ks.length := by
  simp only [flatB, Bool.and_eq_true, decide_eq_true_eq] at hk
  exact hk.1

theorem open_rows {H : Type} {enc : TypeId × Value → H} {P : Program} {w : World} {base b0 : Nat} {r : Reach} {spare : Nat → Bool} {held : Bool} {t e : TypeId} {v : Value} {d : DataW H} {p : List MemPlace}
    (ks : List (Option IntKind)) (hk : flatB P e ks = true) (h0 : 0 < ks.length) (ht : P.underlying t = some (.slice e)) (hv : Value.okWide P w r b0 t v) (h : DataW.Trod enc P w base spare held t v d p) :
    ∃ (ao : Option Addr) (len cap : Nat), v = .slice ao len cap ∧ len ≤ cap ∧ cap ≤ maxLen ∧ (len = 0 ∨ ∃ (b off : Nat) (R : Nat → List Value), ao = some ⟨b, off, none⟩ ∧
      ∀ i, i < len → allLeaf ks (R i) ∧ ∀ j, j < ks.length → w.cell? ⟨b, off + i * ks.length + j, none⟩ = (R i)[j]?) := by
  have hc := flatB_cells hk
  obtain ⟨ao, len, cap, rfl⟩ := okWide_slice ht hv
  obtain ⟨fuel, hf⟩ := h
  rcases Go.Deep.open_slice ht hf with ⟨hcs, _⟩ | ⟨a, len', cap', m, n, D, Pl, hcs, _, hl, hm, hmm, _, hx⟩
  · simp [Value.cells] at hcs
    obtain ⟨rfl, rfl, rfl⟩ := hcs
    exact ⟨none, 0, 0, rfl, Nat.le_refl _, Nat.zero_le _, Or.inl rfl⟩
  · simp [Value.cells] at hcs
    obtain ⟨rfl, rfl, rfl⟩ := hcs
    refine ⟨some a, len, cap, rfl, hl, hm, ?_⟩
    by_cases hz : len = 0
    · exact Or.inl hz
    · right
      have hlm : len ≤ m := by rw [hmm]; split <;> omega
      have row : ∀ i, i < len → ∃ R : List Value, allLeaf ks R ∧ ∀ j, j < ks.length → w.cell? ((a.add (i * ks.length)).add j) = R[j]? := by
        intro i hi
        obtain ⟨cs', h1, h2⟩ := hx i (by omega)
        obtain ⟨_, h3, h4⟩ := World.cells?_some h1
        refine ⟨cs', allLeaf_trod ks hk h3 h2, fun j hj => ?_⟩
        rw [hc] at h4
        exact h4 j hj
      obtain ⟨R, hR⟩ := Go.Deep.choose_lt row
      obtain ⟨b, off, spot⟩ := a
      have hsp : spot = none := by
        obtain ⟨hal, h5⟩ := hR 0 (by omega)
        have h6 := h5 0 h0
        obtain ⟨v0, hv0⟩ : ∃ v0, (R 0)[0]? = some v0 := by
          cases ks with
          | nil => simp at h0
          | cons k ks' =>
            cases k with
            | none => obtain ⟨_, _, e1, _⟩ := allLeaf_bool hal; exact ⟨_, by rw [e1]; rfl⟩
            | some k => obtain ⟨_, _, e1, _⟩ := allLeaf_int hal; exact ⟨_, by rw [e1]; rfl⟩
        rw [hv0] at h6
        simpa [Addr.add] using World.cell?_spot h6
      subst hsp
      refine ⟨b, off, R, rfl, fun i hi => ⟨(hR i hi).1, fun j hj => ?_⟩⟩
      have := (hR i hi).2 j hj
      rw [Go.Deep.add_add, Go.WideShapes.add_plain, ← Nat.add_assoc] at this
      exact this
end Go.Proofs.Ytmdioofpghbjbaa
