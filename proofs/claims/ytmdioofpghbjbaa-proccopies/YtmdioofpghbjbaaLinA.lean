/- append at a walk; the contracts of slices.Clone, Index, Contains, Delete at ints (layer 8). -/
import Derived.Test.YtmdioofpghbjbaaLinBase
import Derived.Deep.RegionHeld3
import Derived.Lib.SliceRun
namespace Go.Proofs.Ytmdioofpghbjbaa
open Go.ChangeShapes Go.WideShapes Go.ChangeAt Go.RowKit
set_option linter.unusedSimpArgs false
set_option linter.unusedVariables false
set_option maxRecDepth 10000

attribute [local go_sem, local simp] over_const setCell_drewN alloc_drewN Over.cell Over.frozen lt_s1 lt_s2 lt_s3 le_s0 le_s1 le_s2 le_s3 eq_s0 eq_s1 eq_s2 qe_s0

section
variable {w : World} {ops : Array Oper} {o : Oper} {a : Act} {Q : Exit → Act → World → Prop}

theorem wp_app {K : Act → World → Prop} (s x : Operand) (ho : o.op = .call { callee := .builtin .append, args := #[s, x], argTypes := #[51, 51] })
    {v xv : Value} {g b : Nat} {L M : List Int} (hs : a.eval s = v) (hx : a.eval x = xv) (hv : Own w v g L) (hxv : View w xv b M) (hle : L.length + M.length ≤ 1000000) (n : Nat) (hn : L.length + M.length = n)
    (h : ∀ ao cap w' g', Own w' (.slice ao n cap) g' (L ++ M) → AppP w w' v (.slice ao n cap) g g' → K (a.put o.dst (.slice ao n cap)) w') : o.wp Try.prog a w K Q := by
  obtain ⟨v', w', g', hr, h2, h3⟩ := run_app (ty := o.type) hv hxv hle
  obtain ⟨ao, cap, rfl, _⟩ := id h2
  unfold Oper.wp execOp
  simp only [ho, resolve, invoke, builtin, Sem.run_bind, Sem.run_pure, Result.andThen_ok, List.map_toArray, List.map_cons, List.map_nil, hs, hx, hr]
  rw [List.length_append, hn] at h2 h3 ⊢
  exact h ao cap w' g' h2 h3

theorem wpList_app {rest : List Oper} (hgd : o.guard = none) (s x : Operand) (ho : o.op = .call { callee := .builtin .append, args := #[s, x], argTypes := #[51, 51] })
    {v xv : Value} {g b : Nat} {L M : List Int} (hs : a.eval s = v) (hx : a.eval x = xv) (hv : Own w v g L) (hxv : View w xv b M) (hle : L.length + M.length ≤ 1000000) (n : Nat) (hn : L.length + M.length = n)
    (h : ∀ ao cap w' g', Own w' (.slice ao n cap) g' (L ++ M) → AppP w w' v (.slice ao n cap) g g' → wpList Try.prog ops Q rest (a.put o.dst (.slice ao n cap)) w') : wpList Try.prog ops Q (o :: rest) a w :=
  wpList_plain hgd fun _ hK => wp_app s x ho hs hx hv hxv hle n hn fun ao cap w' g' h2 h3 => hK _ _ (h ao cap w' g' h2 h3)

theorem step_app {K : Act → World → Prop} {E : Prop} (hgd : o.guard = none) (s x : Operand) (ho : o.op = .call { callee := .builtin .append, args := #[s, x], argTypes := #[51, 51] })
    {v xv : Value} {g b : Nat} {L M : List Int} (hs : a.eval s = v) (hx : a.eval x = xv) (hv : Own w v g L) (hxv : View w xv b M) (hle : L.length + M.length ≤ 1000000) (n : Nat) (hn : L.length + M.length = n)
    (h : ∀ ao cap w' g', Own w' (.slice ao n cap) g' (L ++ M) → AppP w w' v (.slice ao n cap) g g' → K (a.put o.dst (.slice ao n cap)) w') : if Region.wanted o (yielded ops a.tmps) = true then Oper.wp Try.prog o a w K Q else E := by
  have hw : Region.wanted o (yielded ops a.tmps) = true := by simp [Region.wanted, hgd]
  rw [if_pos hw]
  exact wp_app s x ho hs hx hv hxv hle n hn h
end

theorem own_empty (w : World) (o : Obj) : Own (w.alloc o) (.slice (some ⟨w.heap.size, 0, none⟩) 0 0) w.heap.size [] :=
  ⟨_, 0, rfl, Nat.le_refl _, Nat.zero_le _, by simp, .inr ⟨0, rfl, fun j hj => by simp at hj, fun j hj => by simp at hj⟩⟩

theorem own_nil {w : World} {g : Nat} (h : g < w.heap.size) : Own w (.slice none 0 0) g [] := ⟨none, 0, rfl, Nat.le_refl _, Nat.zero_le _, h, .inl ⟨rfl, rfl⟩⟩

theorem View.alloc {w : World} {v : Value} {b : Nat} {L : List Int} (h : View w v b L) (o : Obj) : View (w.alloc o) v b L := h.carry fun _ hb => Below.heap_alloc _ _ _ hb
theorem Own.alloc {w : World} {v : Value} {g : Nat} {L : List Int} (h : Own w v g L) (o : Obj) : Own (w.alloc o) v g L := h.carry (Below.heap_alloc _ _ _ h.lt)
theorem View.below {w w' : World} {v : Value} {b : Nat} {L : List Int} (h : View w v b L) (hb : Below w.heap.size w w') : View w' v b L := h.carry fun _ h1 => hb.block _ h1
theorem View.fr {w w' : World} {v : Value} {b : Nat} {F : Nat → Prop} {L : List Int} (h : View w v b L) (hf : FrS F w w') (hn : L ≠ [] → ¬ F b) : View w' v b L := h.carry fun h1 h2 => hf.block _ h2 (hn h1)
theorem Own.below {w w' : World} {v : Value} {g : Nat} {L : List Int} (h : Own w v g L) (hb : Below w.heap.size w w') : Own w' v g L := h.carry (hb.block _ h.lt)
theorem Own.fr {w w' : World} {v : Value} {g : Nat} {F : Nat → Prop} {L : List Int} (h : Own w v g L) (hf : FrS F w w') (hn : ¬ F g) : Own w' v g L := h.carry (hf.block _ h.lt hn)

theorem view_nil (w : World) (b : Nat) : View w (.slice none 0 0) b [] := ⟨none, 0, rfl, Nat.le_refl _, Nat.zero_le _, .inl rfl⟩

/-- A view's cells, as they lie. -/
theorem view_at {w : World} {v : Value} {b : Nat} {L : List Int} (h : View w v b L) {ao : Option Addr} {n cap : Nat} (hv : v = .slice ao n cap) : n = L.length ∧ L.length ≤ cap ∧ cap ≤ maxLen ∧ ∀ j (hj : j < L.length), ∃ o, ao = some ⟨b, o, none⟩ ∧ b < w.heap.size ∧ w.cell? ⟨b, o + j, none⟩ = some (.int .i64 L[j]) := by
  obtain ⟨ao', cap', e, h1, h2, h3⟩ := h
  rw [hv] at e
  simp only [Value.slice.injEq] at e
  obtain ⟨rfl, rfl, rfl⟩ := e
  refine ⟨rfl, h1, h2, fun j hj => ?_⟩
  rcases h3 with rfl | ⟨o, rfl, h4, h5⟩
  · simp at hj
  · exact ⟨o, rfl, h4, (h5 j hj).trans (ints_at L j hj)⟩

/-- What slices.Clone leaves. -/
def CloneP (w w' : World) (ao : Option Addr) (cap : Nat) (L : List Int) : Prop :=
  Below w.heap.size w w' ∧ ((ao = none ∧ L = [] ∧ cap = 0) ∨ ∃ g, w.heap.size ≤ g ∧ Own w' (.slice ao L.length cap) g L)

/-- The place of a number; -1: it is not there. -/
def idxF : List Int → Int → Int
  | [], _ => -1
  | y :: r, x => if x = y then 0 else if idxF r x = -1 then -1 else idxF r x + 1

theorem idxF_bd (L : List Int) (x : Int) : -1 ≤ idxF L x ∧ idxF L x < L.length := by
  induction L with
  | nil => simp [idxF]
  | cons y r ih => simp only [idxF, List.length_cons]; split; omega; split <;> omega

theorem idxF_neg (L : List Int) (x : Int) : idxF L x = -1 ↔ x ∉ L := by
  induction L with
  | nil => simp [idxF]
  | cons y r ih =>
    have := idxF_bd r x
    simp only [idxF, List.mem_cons, not_or]
    split
    · simp_all
    · rename_i c
      split
      · rename_i c2; simp [c, ih.1 c2]
      · rename_i c2
        constructor
        · intro h; omega
        · intro h; exact absurd (ih.2 h.2) c2

theorem idxF_erase (L : List Int) (x : Int) (h : x ∈ L) : L.eraseIdx (idxF L x).toNat = L.erase x := by
  induction L with
  | nil => simp at h
  | cons y r ih =>
    simp only [idxF]
    split
    · rename_i c; subst c; simp
    · rename_i c
      have hr : x ∈ r := by simpa [c] using h
      have := idxF_bd r x
      have hn : ¬ idxF r x = -1 := fun e => (idxF_neg r x).1 e hr
      rw [if_neg hn, show (idxF r x + 1).toNat = (idxF r x).toNat + 1 by omega, List.eraseIdx_cons_succ, ih hr, List.erase_cons_tail (by simpa using fun e : y = x => c e.symm)]

/-- Behind j that are others. -/
theorem idxF_at (L : List Int) (x : Int) (j : Nat) (hj : j < L.length) (ha : ∀ i (hi : i < j), L[i]'(by omega) ≠ x) (he : L[j] = x) : idxF L x = j := by
  induction L generalizing j with
  | nil => simp at hj
  | cons y r ih =>
    cases j with
    | zero => simp at he; simp [idxF, he]
    | succ j =>
      have c : x ≠ y := fun e => ha 0 (by omega) (by simpa using e.symm)
      have := ih j (by simpa using hj) (fun i hi => by have := ha (i + 1) (by omega); simpa using this) (by simpa using he)
      simp only [idxF, if_neg c, this]
      rw [if_neg (by omega)]
      simp

theorem idxF_none (L : List Int) (x : Int) (ha : ∀ i (hi : i < L.length), L[i] ≠ x) : idxF L x = -1 := by
  rw [idxF_neg]
  intro h
  obtain ⟨i, hi, e⟩ := List.mem_iff_getElem.1 h
  exact ha i hi e

end Go.Proofs.Ytmdioofpghbjbaa
