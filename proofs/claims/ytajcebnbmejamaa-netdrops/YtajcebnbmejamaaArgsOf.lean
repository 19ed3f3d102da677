/- Arguments that are slices of letters, and of calls (layer 6), opened. No condition. -/
import Derived.Test.YtajcebnbmejamaaActs
import Derived.Test.YtajcebnbmejamaaFlat
import Derived.Deep.Slices
import Derived.ChangeArms
namespace Go.Proofs.Ytajcebnbmejamaa
open Go.ChangeShapes Go.WideShapes Go.ChangeAt Go.RowKit

theorem letC_of {cs : List Value} (h : allLeaf [some .i64, some .i64, some .i64, some .i64, some .i64, some .i64, none, some .i64, none, none, some .i64] cs) : ∃ l, cs = letC l := by
  obtain ⟨k, v1, rfl, _, h1⟩ := allLeaf_int h
  obtain ⟨a, v2, rfl, _, h2⟩ := allLeaf_int h1
  obtain ⟨b, v3, rfl, _, h3⟩ := allLeaf_int h2
  obtain ⟨q, v4, rfl, _, h4⟩ := allLeaf_int h3
  obtain ⟨s, v5, rfl, _, h5⟩ := allLeaf_int h4
  obtain ⟨w, v6, rfl, _, h6⟩ := allLeaf_int h5
  obtain ⟨r, v7, rfl, h7⟩ := allLeaf_bool h6
  obtain ⟨n, v8, rfl, _, h8⟩ := allLeaf_int h7
  obtain ⟨o, v9, rfl, h9⟩ := allLeaf_bool h8
  obtain ⟨hh, v10, rfl, h10⟩ := allLeaf_bool h9
  obtain ⟨d, v11, rfl, _, h11⟩ := allLeaf_int h10
  obtain rfl := allLeaf_nil h11
  exact ⟨⟨k, a, b, q, s, w, r, n, o, hh, d⟩, rfl⟩

theorem cellsL : Try.prog.cellsOf 37 = 11 := by kernel_rfl
theorem cellsA : Try.prog.cellsOf 31 = 3 := by kernel_rfl
theorem cellsI : Try.prog.cellsOf 3 = 1 := by kernel_rfl
theorem cellsS : Try.prog.cellsOf 29 = 1 := by kernel_rfl

section
variable {H : Type} {enc : TypeId × Value → H} {w : World} {base : Nat} {spare : Nat → Bool} {held : Bool} {fuel : Nat}

theorem lets_trod {v : Value} {x : DataW H × List MemPlace} (h : DataW.trod enc Try.prog w base spare held fuel 29 [v] = some x) : ∃ b L, View w v b L := by
  rcases Go.Deep.open_slice Try.underlying29 h with ⟨hcs, _⟩ | ⟨a, len, cap, m, n, D, Pl, hcs, _, hl, hm, hmm, _, hx⟩
  · simp at hcs
    subst hcs
    exact ⟨0, [], view_nil _ _⟩
  · simp at hcs
    subst hcs
    by_cases hz : len = 0
    · subst hz
      exact ⟨0, [], ⟨some a, cap, rfl, hl, hm, .inl rfl⟩⟩
    have hlm : len ≤ m := by rw [hmm]; split <;> omega
    have row : ∀ i, i < len → ∃ l : Lt, ∀ j, j < 11 → w.cell? ((a.add (i * 11)).add j) = (letC l)[j]? := by
      intro i hi
      obtain ⟨cs', h1, h2⟩ := hx i (by omega)
      obtain ⟨_, h3, h4⟩ := World.cells?_some h1
      obtain ⟨l, rfl⟩ := letC_of (allLeaf_trod (P := Try.prog) (t := 37) _ (by kernel_rfl) h3 h2)
      refine ⟨l, fun j hj => ?_⟩
      rw [cellsL] at h4
      exact h4 j hj
    obtain ⟨f, hf⟩ := @Go.Deep.choose_lt Lt ⟨zeroL⟩ len (fun i l => ∀ j, j < 11 → w.cell? ((a.add (i * 11)).add j) = (letC l)[j]?) row
    obtain ⟨b, off, spot⟩ := a
    have hsp : spot = none := by
      have h6 := hf 0 (by omega) 0 (by omega)
      have h7 : (letC (f 0))[0]? = some (.int .i64 (f 0).k) := rfl
      rw [h7] at h6
      simpa [Addr.add] using World.cell?_spot h6
    subst hsp
    have hc : ∀ i, i < len → ∀ j, j < 11 → w.cell? ⟨b, off + (i * 11 + j), none⟩ = (letC (f i))[j]? := by
      intro i hi j hj
      have := hf i hi j hj
      rw [Go.Deep.add_add, Go.WideShapes.add_plain] at this
      exact this
    have hlen : ((List.range len).map f).length = len := by simp
    refine ⟨b, (List.range len).map f, some ⟨b, off, none⟩, cap, by rw [hlen], by omega, hm, .inr ⟨off, rfl, ?_, fun j hj => ?_⟩⟩
    · have h6 := hc 0 (by omega) 0 (by omega)
      have h7 : (letC (f 0))[0]? = some (.int .i64 (f 0).k) := rfl
      rw [h7] at h6
      exact World.block_lt_of_cell? _ _ h6
    · rw [hlen] at hj
      have h1 : j / 11 < len := by omega
      have h2 := flat_at ((List.range len).map f) (j / 11) (j % 11) (by rw [hlen]; exact h1) (by omega)
      have h3 := hc (j / 11) h1 (j % 11) (by omega)
      rw [show j / 11 * 11 + j % 11 = j by omega] at h2 h3
      rw [h2, h3]
      simp

theorem field_of {fs : Array Field} {cs : List Value} {n i : Nat} {t : TypeId} {off : Nat} {y : Option (DataW H × List MemPlace)} (h : ∀ f, fs[i]? = some f → DataW.trod enc Try.prog w base spare held n f.type ((cs.drop f.offset).take (Try.prog.cellsOf f.type)) = y)
    (e : (fs[i]?).map (fun f => (f.type, f.offset)) = some (t, off)) : DataW.trod enc Try.prog w base spare held n t ((cs.drop off).take (Try.prog.cellsOf t)) = y := by
  cases c : fs[i]? with
  | none => simp [c] at e
  | some f =>
    simp [c] at e
    obtain ⟨rfl, rfl⟩ := e
    exact h f c

theorem acts_trod {v : Value} {x : DataW H × List MemPlace} (h : DataW.trod enc Try.prog w base spare held fuel 22 [v] = some x) : ∃ A, ActsAt w.heap.size w v A := by
  rcases Go.Deep.open_slice Try.underlying22 h with ⟨hcs, _⟩ | ⟨a, len, cap, m, n, D, Pl, hcs, _, hl, hm, hmm, _, hx⟩
  · simp at hcs
    subst hcs
    exact ⟨[], none, 0, rfl, Nat.le_refl _, Nat.zero_le _, .inl rfl⟩
  · simp at hcs
    subst hcs
    by_cases hz : len = 0
    · subst hz
      exact ⟨[], ⟨some a, cap, rfl, hl, hm, .inl rfl⟩⟩
    have hlm : len ≤ m := by rw [hmm]; split <;> omega
    have row : ∀ i, i < len → ∃ d : ActD, w.cell? ((a.add (i * 3)).add 0) = some (.int .i64 d.k) ∧ w.cell? ((a.add (i * 3)).add 1) = some (.int .i64 d.i) ∧ w.cell? ((a.add (i * 3)).add 2) = some d.v ∧ View w d.v d.b d.M := by
      intro i hi
      obtain ⟨cs', h1, h2⟩ := hx i (by omega)
      obtain ⟨_, h3, h4⟩ := World.cells?_some h1
      rw [cellsA] at h3 h4
      obtain ⟨xs, n', _, _, _, hxl, hfs⟩ := DataW.trod_struct Try.underlying31 h2
      match cs', h3 with
      | [x0, x1, x2], _ =>
        have f0 := field_of (t := 3) (off := 0) (hfs 0) rfl
        have f1 := field_of (t := 3) (off := 1) (hfs 1) rfl
        have f2 := field_of (t := 29) (off := 2) (hfs 2) rfl
        have hl3 : xs.length = 3 := hxl
        rw [List.getElem?_eq_getElem (by omega)] at f0 f1 f2
        simp only [cellsI, cellsS, List.drop_zero, List.take_succ_cons, List.take_zero, List.drop_succ_cons] at f0 f1 f2
        obtain ⟨k, e0, _⟩ := DataW.trod_int Try.underlying3 f0
        obtain ⟨q, e1, _⟩ := DataW.trod_int Try.underlying3 f1
        obtain ⟨b, M, hv⟩ := lets_trod f2
        simp at e0 e1
        subst e0 e1
        exact ⟨⟨k, q, x2, b, M⟩, h4 0 (by omega), h4 1 (by omega), h4 2 (by omega), hv⟩
    obtain ⟨f, hf⟩ := @Go.Deep.choose_lt ActD ⟨⟨0, 0, undef, 0, []⟩⟩ len _ row
    obtain ⟨b, off, spot⟩ := a
    have hsp : spot = none := by simpa [Addr.add] using World.cell?_spot (hf 0 (by omega)).1
    subst hsp
    have hlen : ((List.range len).map f).length = len := by simp
    have hadd : ∀ i j : Nat, ((⟨b, off, none⟩ : Addr).add (i * 3)).add j = ⟨b, off + i * 3 + j, none⟩ := by intro i j; rw [Go.Deep.add_add, Go.WideShapes.add_plain, Nat.add_assoc]
    refine ⟨(List.range len).map f, some ⟨b, off, none⟩, cap, by rw [hlen], by omega, hm, .inr ⟨b, off, rfl, ?_, fun j hj => ?_⟩⟩
    · have h6 := (hf 0 (by omega)).1
      rw [hadd] at h6
      exact World.block_lt_of_cell? _ _ h6
    · rw [hlen] at hj
      obtain ⟨g0, g1, g2, g3⟩ := hf j hj
      rw [hadd] at g0 g1 g2
      simp only [List.getElem_map, List.getElem_range]
      exact ⟨g0, g1, g2, g3, fun hn => g3.lt hn⟩
end

theorem open_lets {H : Type} {enc : TypeId × Value → H} {w : World} {base b0 : Nat} {r : Reach} {spare : Nat → Bool} {held : Bool} {v : Value} {d : DataW H} {p : List MemPlace}
    (hv : Value.okWide Try.prog w r b0 29 v) (h : DataW.Trod enc Try.prog w base spare held 29 v d p) : ∃ b L, View w v b L := by
  obtain ⟨ao, len, cap, rfl⟩ := okWide_slice Try.underlying29 hv
  obtain ⟨fuel, hf⟩ := h
  exact lets_trod hf

theorem open_acts {H : Type} {enc : TypeId × Value → H} {w : World} {base b0 : Nat} {r : Reach} {spare : Nat → Bool} {held : Bool} {v : Value} {d : DataW H} {p : List MemPlace}
    (hv : Value.okWide Try.prog w r b0 22 v) (h : DataW.Trod enc Try.prog w base spare held 22 v d p) : ∃ A, ActsAt w.heap.size w v A := by
  obtain ⟨ao, len, cap, rfl⟩ := okWide_slice Try.underlying22 hv
  obtain ⟨fuel, hf⟩ := h
  exact acts_trod hf
end Go.Proofs.Ytajcebnbmejamaa
