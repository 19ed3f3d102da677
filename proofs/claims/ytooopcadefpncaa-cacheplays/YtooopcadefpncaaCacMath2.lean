/- Plain mathematics for the laws of layer 9 (cache): what of a block's tokens is there behind each call. No program is named here. -/
import Derived.Test.YtooopcadefpncaaCacMath
namespace Go.Proofs.Ytooopcadefpncaa
open Go.RowKit

def ownI (b : Bool) : Int := if b = true then 1 else 0

theorem ownI_bd (b : Bool) : 0 ≤ ownI b ∧ ownI b ≤ 1 := by cases b <;> simp [ownI]

/-- What of a block's tokens is there behind Absorb. -/
theorem ab_sum {S W N : Int} {C : Ca} (h : CInv S W N C) {x : Int} {b : Bun} {q : Int} (hb : okB b) (y : Int) {r : Ln} {ok : Bool} (hg : goAb S W C x b q = (r, ok)) :
    ((nxAb S W C x b q).T y).n = (C.T y).n + (if x = y then b.n else 0) - (if ok = true ∧ r.b = y then r.t.n else 0) ∧
    (¬ (x = y ∧ b.o = true ∧ (C.T y).o = true) → ownI ((nxAb S W C x b q).T y).o = ownI (C.T y).o + (if x = y then ownI b.o else 0) - (if ok = true ∧ r.b = y then ownI r.t.o else 0)) := by
  by_cases c1 : b.n < 1
  · simp only [goAb, nxAb, if_pos c1, Prod.mk.injEq] at hg ⊢
    obtain ⟨rfl, rfl⟩ := hg
    have e0 : b.n = 0 := by have := hb.1; omega
    have e1 := (hb.2.1 e0).1
    simp [e0, e1, ownI]
  by_cases c2 : x ∈ C.A
  · simp only [goAb, nxAb, if_neg c1, if_pos c2, Prod.mk.injEq] at hg ⊢
    obtain ⟨rfl, rfl⟩ := hg
    by_cases e : x = y
    · subst e
      rw [updT_same, joinB_n, joinB_o]
      refine ⟨by simp, fun hn => ?_⟩
      revert hn
      cases (C.T x).o <;> cases b.o <;> simp [ownI]
    · rw [updT_other _ (fun e' => e e'.symm)]
      simp [e]
  obtain ⟨⟨v, k⟩, hv⟩ : ∃ z, vicA S W C.A x q = z := ⟨_, rfl⟩
  have hx0 := h.out x c2
  simp only [goAb, nxAb, if_neg c1, if_neg c2, hv] at hg ⊢
  rcases vic_cases h.inv c2 hv with ⟨rfl, rfl, _⟩ | ⟨rfl, rfl, _⟩ | ⟨rfl, h2, h3, h4, h5⟩
  · simp only [if_pos, Prod.mk.injEq] at hg ⊢
    obtain ⟨rfl, rfl⟩ := hg
    simp only [true_and]
    constructor
    · omega
    · intro _; omega
  · simp at hg ⊢
    obtain ⟨rfl, rfl⟩ := hg
    by_cases e : x = y
    · subst e
      rw [updT_same, hx0]
      simp [ownI]
    · rw [updT_other _ (fun e' => e e'.symm)]
      simp [e]
  · have hv0 : ¬ v < 0 := by omega
    have hvx : v ≠ x := fun e => c2 (e ▸ h3)
    simp [hv0] at hg ⊢
    obtain ⟨rfl, rfl⟩ := hg
    by_cases e : x = y
    · subst e
      rw [updT_same, hx0]
      simp [ownI, hvx]
    · rw [updT_other _ (fun e' => e e'.symm)]
      by_cases e2 : v = y
      · subst e2
        rw [updT_same]
        simp [e]
        simp [ownI]
      · rw [updT_other _ (fun e' => e2 e'.symm)]
        simp [e, e2]

/-- The pinned block's line never goes. -/
theorem ab_pin {S W N : Int} {C : Ca} (h : CInv S W N C) {x : Int} {b : Bun} {q : Int} (hq : 0 ≤ q) {r : Ln} (hg : goAb S W C x b q = (r, true)) : r.b ≠ q := by
  unfold goAb at hg
  split at hg
  · simp at hg
  split at hg
  · simp at hg
  rename_i c1 c2
  obtain ⟨⟨v, k⟩, hv⟩ : ∃ z, vicA S W C.A x q = z := ⟨_, rfl⟩
  rw [hv] at hg
  rcases vic_cases h.inv c2 hv with ⟨rfl, rfl, h1⟩ | ⟨rfl, rfl, _⟩ | ⟨rfl, h2, h3, h4, h5⟩
  · simp at hg
    subst hg
    intro e
    dsimp only at e
    subst e
    rcases h1 with h1 | h1
    · omega
    · exact c2 h1
  · simp at hg
  · have hv0 : ¬ v < 0 := by omega
    simp [hv0] at hg
    subst hg
    exact h4

theorem tk_sum {S W N : Int} {C : Ca} (h : CInv S W N C) (x c : Int) (o d : Bool) (y : Int) {g : Bun} (hg : givenB (C.T x) c o d = g) :
    ((nxTk C x c o).T y).n = (C.T y).n - (if x = y then g.n else 0) ∧ ownI ((nxTk C x c o).T y).o = ownI (C.T y).o - (if x = y then ownI g.o else 0) := by
  unfold nxTk
  by_cases e : x = y
  · subst e
    simp only [updT_same, if_pos]
    have hk := h.ok x
    generalize C.T x = t at hg hk
    obtain ⟨n, w, e, dd⟩ := t
    obtain ⟨p1, p2, p3, p4, p5, p6, p7, p8, _⟩ := parts_math n w e dd c o d hk _ _ hg rfl
    generalize restB ⟨n, w, e, dd⟩ c o = s at p1 p2 p3 p5 p6 p7 p8
    refine ⟨by simp only; omega, ?_⟩
    simp only
    cases h1 : g.o
    · cases h2 : s.o
      · rw [p8 h1 h2]; rfl
      · rw [(p7 h2).2.1]; rfl
    · rw [(p6 h1).1, (p6 h1).2.1]; rfl
  · simp only [updT_other _ (fun e' : y = x => e e'.symm), if_neg e]
    exact ⟨by omega, by omega⟩

theorem dx_same (C : Ca) (x : Int) (wr : Bool) (v t y : Int) : ((nxDo C x wr v t).T y).n = (C.T y).n ∧ ((nxDo C x wr v t).T y).o = (C.T y).o ∧ ((nxDo C x wr v t).T y).h = (C.T y).h := by
  unfold nxDo
  split
  · by_cases e : y = x
    · subst e; simp only [updT_same]; exact ⟨trivial, trivial, trivial⟩
    · simp only [updT_other _ e]; exact ⟨trivial, trivial, trivial⟩
  · exact ⟨rfl, rfl, rfl⟩

/-- All is taken. -/
theorem rest_all {b : Bun} (h : okB b) : restB b b.n true = bun0 := by
  have e : howManyZ b b.n true = b.n := by
    have := h.1
    unfold howManyZ clampZ
    simp
    omega
  unfold restB
  rw [e]
  split
  · rename_i e0; exact ok_zero h e0
  · simp

theorem rest_none (c : Int) : restB bun0 c true = bun0 := restB_zero c true

/-- One after the other all lines go. -/
theorem strip_step {C D : Ca} (hC : ∀ x, okB (C.T x)) (h : ∀ y, D.T y = C.T y ∨ D.T y = bun0) (x : Int) :
    (∀ y, (nxTk D x (C.T x).n true).T y = C.T y ∨ (nxTk D x (C.T x).n true).T y = bun0) ∧ (nxTk D x (C.T x).n true).T x = bun0 ∧ ∀ y, D.T y = bun0 → (nxTk D x (C.T x).n true).T y = bun0 := by
  have e : restB (D.T x) (C.T x).n true = bun0 := by
    rcases h x with e | e
    · rw [e]; exact rest_all (hC x)
    · rw [e]; exact rest_none _
  unfold nxTk
  simp only [e, updT_same]
  refine ⟨fun y => ?_, trivial, fun y hy => ?_⟩
  · by_cases c : y = x
    · subst c; rw [updT_same]; exact .inr rfl
    · rw [updT_other _ c]; exact h y
  · by_cases c : y = x
    · subst c; rw [updT_same]
    · rw [updT_other _ c]; exact hy

theorem CInv.empty {S W N : Int} {C : Ca} (h : CInv S W N C) (h0 : ∀ y, C.T y = bun0) : C.A = [] := by
  rw [List.eq_nil_iff_forall_not_mem]
  intro x hx
  have := h.one x hx
  rw [h0 x] at this
  simp at this

theorem ab_len {S W : Int} {C : Ca} (h0 : C.A = []) (x : Int) (b : Bun) (q : Int) : (nxAb S W C x b q).A.length ≤ 1 := by
  unfold nxAb
  split
  · simp [h0]
  split
  · rename_i c; rw [h0] at c; cases c
  split
  · simp [h0]
  split
  · simp [h0]
  · simp [h0]

/-- The owner's tokens, counted: behind Absorb. -/
theorem sums_ab {S W N : Int} {C C' : Ca} (h : CInv S W N C) {x : Int} {b : Bun} {q : Int} (hb : okB b) (y : Int) {r : Ln} {ok : Bool} (hg : goAb S W C x b q = (r, ok)) (hC : nxAb S W C x b q = C') {m : Int} {u : Bool} (hu : u = false → m = ownI (C.T y).o) :
    (C'.T y).n = (C.T y).n + (if x = y then b.n else 0) - (if ok = true ∧ r.b = y then r.t.n else 0) ∧
    ((u || (decide (x = y) && (b.o && decide (0 < m)))) = false → m + (if x = y then ownI b.o else 0) - (if ok = true ∧ r.b = y then ownI r.t.o else 0) = ownI (C'.T y).o) := by
  have h1 := ab_sum h hb y hg
  rw [hC] at h1
  refine ⟨h1.1, fun h2 => ?_⟩
  have h3 : u = false := by cases u; rfl; simp at h2
  rw [h1.2 ?_, hu h3]
  rintro ⟨e1, e2, e3⟩
  rw [h3, e2, hu h3, e3] at h2
  simp [e1, ownI] at h2
end Go.Proofs.Ytooopcadefpncaa
