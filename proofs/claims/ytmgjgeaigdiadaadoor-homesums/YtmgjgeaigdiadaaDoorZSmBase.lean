/- layer 16: SmBase, put together. -/
import Derived.Test.YtmgjgeaigdiadaaDoorB27
namespace Go.Proofs.YtmgjgeaigdiadaaDoor
open Go.ChangeShapes Go.WideShapes Go.ChangeAt Go.RowKit
set_option linter.unusedSimpArgs false
set_option linter.unusedVariables false
set_option maxRecDepth 10000
attribute [local go_sem, local simp] over_const setCell_drewN alloc_drewN Over.cell Over.frozen lt_s1 lt_s2 lt_s3 le_s0 le_s1 le_s2 le_s3 eq_s0 eq_s1 eq_s2 qe_s0
def smL (L : List Lt) (y : Int) : Int := (L.map fun l => if l.q = y then l.n else 0).sum
theorem smL_app (L M : List Lt) (y : Int) : smL (L ++ M) y = smL L y + smL M y := by simp [smL]
theorem smL_nil (y : Int) : smL [] y = 0 := rfl
theorem smL_one (l : Lt) (y : Int) : smL [l] y = if l.q = y then l.n else 0 := by simp [smL]
def GL (c : Cf) (id : Int) (l : Lt) : Prop := lerr c l = 0 ∧ l.a = id
def AllG (c : Cf) (id : Int) (L : List Lt) : Prop := ∀ l ∈ L, GL c id l
theorem AllG.nil (c : Cf) (id : Int) : AllG c id [] := fun l h => by cases h
theorem AllG.app {c : Cf} {id : Int} {L M : List Lt} (h : AllG c id L) (k : AllG c id M) : AllG c id (L ++ M) := fun l hl => by
  rcases List.mem_append.1 hl with e | e
  · exact h l e
  · exact k l e
theorem AllG.one {c : Cf} {id : Int} {l : Lt} (h : GL c id l) : AllG c id [l] := fun x hx => by
  obtain rfl : x = l := by simpa using hx
  exact h
theorem lerr_way {c : Cf} {l : Lt} (h : lerr c l = 0) : l.a ≠ l.b ∧ (0 ≤ c.n → 0 ≤ l.a ∧ l.a ≤ c.n) ∧ (l.k = 4 → 0 ≤ l.w ∧ l.w < c.n) ∧ (l.k = 6 → 1 ≤ l.s) ∧ (l.k ≠ 1 → l.n = 0) := by
  obtain ⟨s1, s2, -, -⟩ := self_math (l := toLet l) h
  refine ⟨s1, fun h0 => ?_, ?_⟩
  · unfold anyB at s2
    simp only [Bool.or_eq_true, decide_eq_true_eq] at s2
    rcases s2 with e | e
    · have e' : l.a = c.n := e
      omega
    · have := nodeB_true.1 e
      exact ⟨this.1, by have := this.2; dsimp only [toLet] at this; omega⟩
  · unfold lerr letterZ toLet at h
    dsimp only at h
    split at h <;> (try omega)
    split at h <;> (try omega)
    split at h <;> (try omega)
    split at h <;> (try omega)
    rename_i h4
    have hm : marksB (rowL l.k) l.s l.w l.r c.n = true := by simpa using h4
    unfold marksB at hm
    simp only [Bool.and_eq_true] at hm
    refine ⟨fun k4 => ?_, fun k6 => ?_, fun k1 => ?_⟩
    · rw [k4] at hm
      exact nodeB_true.1 hm.1.2
    · rw [k6] at hm
      have := hm.1.1
      simpa [seqB, rowL] using this
    · rw [if_neg k1] at h
      split at h
      · omega
      · rename_i hx
        have hx' : noneB ⟨l.n, l.o, l.h, l.d⟩ = true := by simpa using hx
        simp only [noneB, Bool.and_eq_true, decide_eq_true_eq] at hx'
        exact hx'.1.1.1
theorem gl_n {c : Cf} {id : Int} {l : Lt} (h : GL c id l) : 0 ≤ l.n ∧ l.n ≤ c.tt ∨ l.n = 0 := by
  by_cases k : l.k = 1
  · have := lerr_tok h.1 k; omega
  · exact .inr ((lerr_way h.1).2.2.2.2 k)
theorem smL_pos {c : Cf} {id : Int} {L : List Lt} (h : AllG c id L) (y : Int) : 0 ≤ smL L y := by
  induction L with
  | nil => exact Int.le_refl _
  | cons l L ih =>
    have h1 := ih (fun x hx => h x (by simp [hx]))
    have h2 := gl_n (h l (by simp))
    rw [show l :: L = [l] ++ L from rfl, smL_app, smL_one]
    split <;> omega
theorem smL_take {c : Cf} {id : Int} {L : List Lt} (h : AllG c id L) (t : Nat) (y : Int) : 0 ≤ smL (L.take t) y ∧ smL (L.take t) y ≤ smL L y := by
  have h1 := smL_pos (fun x hx => h x (List.mem_of_mem_take hx) : AllG c id (L.take t)) y
  have h2 := smL_pos (fun x hx => h x (List.mem_of_mem_drop hx) : AllG c id (L.drop t)) y
  have h3 := smL_app (L.take t) (L.drop t) y
  rw [List.take_append_drop] at h3
  omega
theorem smL_step (L : List Lt) {t : Nat} (h : t < L.length) (y : Int) : smL (L.take (t + 1)) y = smL (L.take t) y + if L[t].q = y then L[t].n else 0 := by
  rw [List.take_add_one, List.getElem?_eq_getElem h]
  show smL (L.take t ++ [L[t]]) y = _
  rw [smL_app, smL_one]
end Go.Proofs.YtmgjgeaigdiadaaDoor
