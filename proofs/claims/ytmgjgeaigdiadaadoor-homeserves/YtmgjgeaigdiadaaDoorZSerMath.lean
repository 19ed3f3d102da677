/- layer 16: SerMath, put together. -/
import Derived.Test.YtmgjgeaigdiadaaDoorB04
namespace Go.Proofs.YtmgjgeaigdiadaaDoor
open Go.ChangeShapes Go.WideShapes Go.ChangeAt Go.RowKit
set_option linter.unusedSimpArgs false
set_option linter.unusedVariables false
set_option maxRecDepth 10000
attribute [local go_sem, local simp] over_const setCell_drewN alloc_drewN Over.cell Over.frozen lt_s1 lt_s2 lt_s3 le_s0 le_s1 le_s2 le_s3 eq_s0 eq_s1 eq_s2 qe_s0
def SA (W : List Int) (r : Rq) : Prop := (W = [] ∧ r = rq0) ∨ (W ≠ [] ∧ r.A = W ∧ r.n = 1 ∧ r.ph = 1)
def SB (W : List Int) (s : Nat) (r : Rq) : Prop := r.A = W ∧ ((s ≤ W.length ∧ r.n = s ∧ r.ph = 1) ∨ (s = W.length + 1 ∧ r.n = W.length ∧ r.ph = 0))
def SC (N : Nat) (W : List Int) (s m : Nat) (r : Rq) : Prop := r.A = W ∧ r.n = s ∧ r.ph = 2 ∧ ∀ i : Nat, i < N → ((i : Int) ∈ r.kn ↔ m ≤ i)
theorem get_one (r : Rq) : getQ [r] 0 = r := rfl
theorem has_one (r : Rq) : hasQ [r].length 0 = true := by unfold hasQ; simp
theorem ser_no {N : Nat} {r : Rq} {y : Int} (h : hasQ N y = false) : okAsk N [r] 0 y = false ∧ atAsk N [r] 0 y = at0 ∧ nxAsk N [r] 0 y = [r] := by
  unfold okAsk atAsk nxAsk
  rw [h, Bool.and_false]
  exact ⟨rfl, rfl, rfl⟩
theorem ser_first {N : Nat} {r : Rq} {y : Int} (h : hasQ N y = true) (hs : SA [] r) : okAsk N [r] 0 y = true ∧ atAsk N [r] 0 y = ⟨0, y, 1⟩ ∧ ∃ r', nxAsk N [r] 0 y = [r'] ∧ SA [y] r' := by
  rcases hs with ⟨_, rfl⟩ | ⟨h1, _⟩
  · unfold okAsk atAsk nxAsk
    rw [h]
    exact ⟨rfl, rfl, ⟨[y], 1, 1, []⟩, rfl, .inr ⟨by simp, rfl, rfl, rfl⟩⟩
  · exact absurd rfl h1
theorem ser_more {N : Nat} {W : List Int} {r : Rq} {y : Int} (h : hasQ N y = true) (hW : W ≠ []) (hs : SA W r) : okAsk N [r] 0 y = false ∧ atAsk N [r] 0 y = at0 ∧ ∃ r', nxAsk N [r] 0 y = [r'] ∧ SA (W ++ [y]) r' := by
  rcases hs with ⟨h1, _⟩ | ⟨_, hA, hn, hp⟩
  · exact absurd h1 hW
  · have e : okBQ (pshQ r y) = false := by unfold okBQ pshQ; simp [hp]
    have e1 : nxBQ (pshQ r y) = pshQ r y := by unfold nxBQ pshQ; simp [hp]
    have e2 : atBQ 0 (pshQ r y) = at0 := by unfold atBQ pshQ; simp [hp]
    unfold okAsk atAsk nxAsk
    rw [has_one, h, get_one, e, e1, e2]
    exact ⟨rfl, rfl, pshQ r y, rfl, .inr ⟨by simp, by simp [pshQ, hA], hn, hp⟩⟩
theorem ser_start {W : List Int} {r : Rq} (h : SA W r) : SB W 1 r := by
  rcases h with ⟨rfl, rfl⟩ | ⟨hW, hA, hn, hp⟩
  · exact ⟨rfl, .inr ⟨rfl, rfl, rfl⟩⟩
  · refine ⟨hA, .inl ⟨?_, hn, hp⟩⟩
    cases W with
    | nil => exact absurd rfl hW
    | cons a b => simp
theorem ser_cur {W : List Int} {s : Nat} {r : Rq} (h : SB W s r) (hs : s ≤ W.length) : okCur [r] 0 = true ∧ (atCur [r] 0).s = s ∧ okDone [r] 0 s = true ∧ ∃ r', nxDone [r] 0 s = [r'] ∧ r'.A = W ∧ r'.n = s ∧ r'.ph = 2 ∧ r'.kn = [] := by
  obtain ⟨hA, h⟩ := h
  rcases h with ⟨_, hn, hp⟩ | ⟨h1, _⟩
  · have e : okDQ r s = true := by unfold okDQ; simp [hn, hp]
    have e1 : dnQ r s = ⟨r.A, r.n, 2, []⟩ := by unfold dnQ; simp [hn, hp]
    unfold okCur atCur okDone nxDone
    rw [has_one, get_one, e, e1]
    refine ⟨by simp [okCQ, hp], by simp [atCQ, hp, hn], rfl, ⟨r.A, r.n, 2, []⟩, rfl, hA, hn, rfl, rfl⟩
  · omega
theorem ser_begin {N : Nat} {W : List Int} {s : Nat} {r : Rq} (h1 : r.A = W) (h2 : r.n = s) (h3 : r.ph = 2) (h4 : r.kn = []) : SC N W s N r := ⟨h1, h2, h3, fun i hi => by rw [h4]; simp; omega⟩
theorem ser_ack {N : Nat} {W : List Int} {s m : Nat} {r : Rq} {y : Int} (h : SC N W s m r) (hm : 2 ≤ m) (hN : m ≤ N) (hy : y = (m : Int) - 1) : okAck N [r] 0 s y = false ∧ atAck N [r] 0 s y = at0 ∧ ∃ r', nxAck N [r] 0 s y = [r'] ∧ SC N W s (m - 1) r' := by
  obtain ⟨hA, hn, hp, hk⟩ := h
  have h0 : ¬ (0 : Int) ∈ r.kn ++ [y] := by
    have := hk 0 (by omega)
    simp at this ⊢
    refine ⟨fun e => ?_, by omega⟩
    have := this.1 e
    omega
  have ha : allKQ N (r.kn ++ [y]) = false := by
    cases e : allKQ N (r.kn ++ [y]) with
    | false => rfl
    | true => exact absurd (allKQ_iff.1 e 0 (by omega)) h0
  have hq : hasQ N y = true := by unfold hasQ; simp; omega
  have he : isEQ r s = true := by unfold isEQ; simp [hp, hn]
  have hkq : knQ N r y = ⟨r.A, r.n, 2, r.kn ++ [y]⟩ := by unfold knQ; rw [ha]; rfl
  unfold okAck atAck nxAck okKQ atKQ nxKQ
  rw [has_one, get_one, hq, he, hkq]
  refine ⟨rfl, rfl, ⟨r.A, r.n, 2, r.kn ++ [y]⟩, rfl, hA, hn, rfl, fun i hi => ?_⟩
  simp only [List.mem_append, List.mem_singleton]
  rw [hk i hi]
  omega
theorem ser_last {N : Nat} {W : List Int} {s : Nat} {r : Rq} (h : SC N W s 1 r) (hN : 1 ≤ N) (hs : s ≤ W.length) : okAck N [r] 0 s 0 = decide (s < W.length) ∧ (s < W.length → (atAck N [r] 0 s 0).n = W.getD s 0) ∧ ∃ r', nxAck N [r] 0 s 0 = [r'] ∧ SB W (s + 1) r' := by
  obtain ⟨hA, hn, hp, hk⟩ := h
  have ha : allKQ N (r.kn ++ [0]) = true := allKQ_iff.2 fun i hi => by
    rw [List.mem_append]
    by_cases c : i = 0
    · right; simp [c]
    · left; exact (hk i hi).2 (by omega)
  have hq : hasQ N 0 = true := by unfold hasQ; simp; omega
  have he : isEQ r s = true := by unfold isEQ; simp [hp, hn]
  have hkq : knQ N r 0 = ⟨r.A, r.n, 0, r.kn ++ [0]⟩ := by unfold knQ; rw [ha]; rfl
  unfold okAck atAck nxAck okKQ atKQ nxKQ
  rw [has_one, get_one, hq, he, hkq]
  simp only [Bool.and_self, Bool.true_and, if_true]
  unfold okBQ atBQ nxBQ
  dsimp only
  rw [hA, hn]
  by_cases c : s < W.length
  · refine ⟨by simp [c], fun _ => by simp [c], ⟨W, s + 1, 1, r.kn ++ [0]⟩, by simp [c], rfl, .inl ⟨c, rfl, rfl⟩⟩
  · refine ⟨by simp [c], fun h => absurd h c, ⟨W, s, 0, r.kn ++ [0]⟩, by simp [c], rfl, .inr ⟨by omega, by show s = W.length; omega, rfl⟩⟩
theorem ser_end {W : List Int} {r : Rq} (h : SB W (W.length + 1) r) : okCur [r] 0 = false ∧ atCur [r] 0 = at0 ∧ wtsQ [r] 0 = [] := by
  obtain ⟨hA, h⟩ := h
  rcases h with ⟨h1, _⟩ | ⟨_, hn, hp⟩
  · omega
  · unfold okCur atCur wtsQ
    rw [has_one, get_one]
    refine ⟨by simp [okCQ, hp], by simp [atCQ, hp], ?_⟩
    simp [wtQ, hA, hn]
theorem take_more {W : List Int} {s : Nat} (h : s < W.length) : W.take (s + 1) = W.take s ++ [W.getD s 0] := by
  rw [List.take_add_one, List.getElem?_eq_getElem h]
  simp [List.getD, h]
end Go.Proofs.YtmgjgeaigdiadaaDoor
