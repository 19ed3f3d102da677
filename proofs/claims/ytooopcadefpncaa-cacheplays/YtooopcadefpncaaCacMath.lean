/- Plain mathematics of layer 9 (cache): lines with their tokens; what comes, what goes. No program is named here. -/
import Derived.Test.YtooopcadefpncaaLinMath
import Derived.Test.YtooopcadefpncaaBunMath2
import Derived.Test.YtooopcadefpncaaPerm
namespace Go.Proofs.Ytooopcadefpncaa
open Go.RowKit

/-- A block's tokens at some place. -/
structure Ln where
  b : Int
  t : Bun

/-- Lines in the order of use, and each block's tokens. -/
structure Ca where
  A : List Int
  T : Int → Bun

abbrev bun0 : Bun := ⟨0, false, false, 0⟩
abbrev ln0 : Ln := ⟨0, ⟨0, false, false, 0⟩⟩
def updT (T : Int → Bun) (x : Int) (b : Bun) : Int → Bun := fun y => if y = x then b else T y

theorem updT_same (T : Int → Bun) (x : Int) (b : Bun) : updT T x b x = b := by simp [updT]
theorem updT_other {T : Int → Bun} {x y : Int} (b : Bun) (h : y ≠ x) : updT T x b y = T y := by simp [updT, h]

def nxAb (S W : Int) (C : Ca) (x : Int) (b : Bun) (q : Int) : Ca :=
  if b.n < 1 then C
  else if x ∈ C.A then ⟨nxUse C.A x, updT C.T x (joinB (C.T x) b)⟩
  else if (vicA S W C.A x q).2 = false then C
  else if (vicA S W C.A x q).1 < 0 then ⟨C.A ++ [x], updT C.T x b⟩
  else ⟨C.A.erase (vicA S W C.A x q).1 ++ [x], updT (updT C.T (vicA S W C.A x q).1 bun0) x b⟩

def goAb (S W : Int) (C : Ca) (x : Int) (b : Bun) (q : Int) : Ln × Bool :=
  if b.n < 1 then (ln0, false)
  else if x ∈ C.A then (ln0, false)
  else if (vicA S W C.A x q).2 = false then (⟨x, b⟩, true)
  else if (vicA S W C.A x q).1 < 0 then (ln0, false)
  else (⟨(vicA S W C.A x q).1, C.T (vicA S W C.A x q).1⟩, true)

def nxTk (C : Ca) (x c : Int) (o : Bool) : Ca := ⟨if (restB (C.T x) c o).n = 0 then C.A.erase x else C.A, updT C.T x (restB (C.T x) c o)⟩

def okDo (C : Ca) (x : Int) (wr : Bool) (t : Int) : Bool := canB wr (C.T x).n (C.T x).h t
def datDo (C : Ca) (x : Int) (wr : Bool) (v t : Int) : Int := if (okDo C x wr t && wr) = true then v else (C.T x).d
def valDo (C : Ca) (x : Int) (wr : Bool) (v t : Int) : Int := if okDo C x wr t = true then datDo C x wr v t else 0
def nxDo (C : Ca) (x : Int) (wr : Bool) (v t : Int) : Ca := if okDo C x wr t = true then ⟨nxUse C.A x, updT C.T x ⟨(C.T x).n, (C.T x).o, (C.T x).h, datDo C x wr v t⟩⟩ else C

def allC (C : Ca) : List Ln := (listA C.A).map fun x => ⟨x, C.T x⟩

/-- What always holds: no count above N. -/
structure CInv (S W N : Int) (C : Ca) : Prop where
  inv : Inv S W C.A
  out : ∀ x, x ∉ C.A → C.T x = bun0
  one : ∀ x, x ∈ C.A → 1 ≤ (C.T x).n
  ok : ∀ x, okB (C.T x)
  le : ∀ x, (C.T x).n ≤ N

theorem okB_zero : okB bun0 := by simp [okB]

theorem CInv.new {S W : Int} (h : Inv S W []) : CInv S W 0 ⟨[], fun _ => bun0⟩ := ⟨h, fun _ _ => rfl, fun x hx => (by cases hx), fun _ => okB_zero, fun _ => Int.le_refl _⟩

theorem CInv.mono {S W N M : Int} {C : Ca} (h : CInv S W N C) (hN : N ≤ M) : CInv S W M C := ⟨h.inv, h.out, h.one, h.ok, fun x => Int.le_trans (h.le x) hN⟩

theorem CInv.n0 {S W N : Int} {C : Ca} (h : CInv S W N C) : 0 ≤ N := Int.le_trans (h.ok 0).1 (h.le 0)

theorem ok_zero {b : Bun} (h : okB b) (hn : b.n = 0) : b = bun0 := by
  obtain ⟨n, o, e, d⟩ := b
  obtain ⟨h0, h1, h2, h3⟩ := h
  simp only at hn h0 h1 h2 h3
  obtain ⟨rfl, rfl⟩ := h1 hn
  rw [h3 rfl, hn]

theorem CInv.mem {S W N : Int} {C : Ca} (h : CInv S W N C) {x : Int} : x ∈ C.A ↔ 1 ≤ (C.T x).n := by
  refine ⟨h.one x, fun h1 => Classical.byContradiction fun hn => ?_⟩
  rw [h.out x hn] at h1
  simp at h1

theorem joinB_n (h b : Bun) : (joinB h b).n = h.n + b.n := by
  unfold joinB withV
  (repeat' split) <;> rfl
theorem joinB_o (h b : Bun) : (joinB h b).o = (h.o || b.o) := by
  unfold joinB withV
  (repeat' split) <;> rfl
theorem joinB_h (h b : Bun) : (joinB h b).h = (h.h || b.h) := by
  unfold joinB withV
  cases h.h <;> cases b.h <;> simp

theorem joinB_ok {h b : Bun} (h1 : okB h) (h2 : okB b) : okB (joinB h b) := by
  obtain ⟨n, o, e, d⟩ := h
  obtain ⟨n', o', e', d'⟩ := b
  obtain ⟨a0, a1, a2, a3⟩ := h1
  obtain ⟨b0, b1, b2, b3⟩ := h2
  simp only at a0 a1 a2 a3 b0 b1 b2 b3
  have z1 : n + n' = 0 → n = 0 := by omega
  have z2 : n + n' = 0 → n' = 0 := by omega
  refine ⟨by rw [joinB_n]; simp only; omega, ?_, ?_, ?_⟩
  · rw [joinB_n, joinB_o, joinB_h]
    intro e0
    simp only at e0 ⊢
    rw [(a1 (z1 e0)).1, (a1 (z1 e0)).2, (b1 (z2 e0)).1, (b1 (z2 e0)).2]
    simp
  · rw [joinB_o, joinB_h]
    intro e0
    simp only at e0 ⊢
    rcases Bool.or_eq_true_iff.1 e0 with e1 | e1
    · rw [a2 e1]; rfl
    · rw [b2 e1]; simp
  · rw [joinB_h]
    intro e0
    simp only at e0
    obtain ⟨e1, e2⟩ := Bool.or_eq_false_iff.1 e0
    subst e1 e2
    simp [joinB, withV]

theorem firstNot_spec (L : List Int) (q : Int) : ((firstNot L q).2 = true → (firstNot L q).1 ∈ L ∧ (firstNot L q).1 ≠ q) ∧ ((firstNot L q).2 = false → (firstNot L q).1 = -1 ∧ ∀ y ∈ L, y = q) := by
  induction L with
  | nil => simp [firstNot]
  | cons y r ih =>
    simp only [firstNot]
    split
    · rename_i c
      refine ⟨fun h => ⟨List.mem_cons_of_mem _ (ih.1 h).1, (ih.1 h).2⟩, fun h => ⟨(ih.2 h).1, fun z hz => ?_⟩⟩
      rcases List.mem_cons.1 hz with rfl | hz
      · exact c
      · exact (ih.2 h).2 z hz
    · rename_i c
      exact ⟨fun _ => ⟨by simp, c⟩, fun h => by simp at h⟩

/-- Who must go for a block that has no line. -/
theorem vic_cases {S W : Int} {L : List Int} (hI : Inv S W L) {x q v : Int} {ok : Bool} (hx : x ∉ L) (hr : vicA S W L x q = (v, ok)) :
    (ok = false ∧ v = -1 ∧ (x < 0 ∨ q ∈ L)) ∨ (ok = true ∧ v = -1 ∧ okAdd S W L x = true) ∨ (ok = true ∧ 0 ≤ v ∧ v ∈ L ∧ v ≠ q ∧ okAdd S W (L.erase v) x = true) := by
  unfold vicA at hr
  by_cases c0 : x < 0
  · simp only [if_pos c0, Prod.mk.injEq] at hr
    exact .inl ⟨hr.2.symm, hr.1.symm, .inl c0⟩
  simp only [if_neg c0] at hr
  cases hfull : fullA S W L x
  case false =>
    simp only [if_pos (show x ∈ L ∨ fullA S W L x = false from .inr hfull), Prod.mk.injEq] at hr
    exact .inr (.inl ⟨hr.2.symm, hr.1.symm, by simp [okAdd, hx, hfull]; omega⟩)
  case true =>
    simp only [if_neg (show ¬ (x ∈ L ∨ fullA S W L x = false) by simp [hx, hfull])] at hr
    have hsp := firstNot_spec (part S L (modZ x S)) q
    rw [hr] at hsp
    dsimp only at hsp
    cases ok
    case false =>
      obtain ⟨h1, h2⟩ := hsp.2 rfl
      refine .inl ⟨rfl, h1, .inr ?_⟩
      obtain ⟨P, hP⟩ : ∃ P, part S L (modZ x S) = P := ⟨_, rfl⟩
      cases P with
      | nil =>
        simp [fullA, hP] at hfull
        have := hI.w0
        omega
      | cons y r =>
        have hy : y ∈ part S L (modZ x S) := by rw [hP]; simp
        have := h2 y hy
        subst this
        exact (mem_part'.1 hy).1
    case true =>
      obtain ⟨h1, h2⟩ := hsp.1 rfl
      have hv := mem_part'.1 h1
      refine .inr (.inr ⟨rfl, (hI.pos v hv.1).1, hv.1, h2, ?_⟩)
      have hx' : x ∉ L.erase v := fun e => hx (List.mem_of_mem_erase e)
      have hl : (part S (L.erase v) (modZ x S)).length = (part S L (modZ x S)).length - 1 := by
        rw [← hv.2, part_erase_same, List.length_erase_of_mem (mem_part.2 hv.1)]
      have hp := List.length_pos_of_mem h1
      have hrm := hI.room (modZ x S)
      simp [okAdd, fullA, hx', hl]
      omega

theorem mem_nxUse {A : List Int} {x y : Int} : y ∈ nxUse A x ↔ y ∈ A := by
  unfold nxUse
  split
  · rename_i h
    simp only [List.mem_append, List.mem_singleton]
    refine ⟨fun h1 => h1.elim List.mem_of_mem_erase (fun e => e ▸ h), fun h1 => ?_⟩
    by_cases e : y = x
    · exact .inr e
    · exact .inl ((List.mem_erase_of_ne e).2 h1)
  · exact Iff.rfl

/-- A line in a new place, with tokens. -/
theorem CInv.put {S W N M : Int} {C : Ca} {A' : List Int} {x : Int} {b : Bun} (h : CInv S W N C) (hI : Inv S W A') (hm : ∀ y, y ≠ x → (y ∈ A' ↔ y ∈ C.A)) (hx : x ∈ A') (hb : okB b) (h1 : 1 ≤ b.n) (hM : b.n ≤ M) (hN : N ≤ M) : CInv S W M ⟨A', updT C.T x b⟩ := by
  refine ⟨hI, fun y hy => ?_, fun y hy => ?_, fun y => ?_, fun y => ?_⟩
  · have e : y ≠ x := fun e => hy (e ▸ hx)
    simp only [updT_other b e]
    exact h.out y (fun e2 => hy ((hm y e).2 e2))
  · by_cases e : y = x
    · subst e; simpa only [updT_same] using h1
    · simp only [updT_other b e]; exact h.one y ((hm y e).1 hy)
  · by_cases e : y = x
    · subst e; simpa only [updT_same] using hb
    · simp only [updT_other b e]; exact h.ok y
  · by_cases e : y = x
    · subst e; simpa only [updT_same] using hM
    · simp only [updT_other b e]; exact Int.le_trans (h.le y) hN

/-- A line that goes. -/
theorem CInv.gone {S W N : Int} {C : Ca} (h : CInv S W N C) (x : Int) : CInv S W N ⟨C.A.erase x, updT C.T x bun0⟩ := by
  have hx : x ∉ C.A.erase x := by rw [h.inv.nodup.mem_erase_iff]; simp
  refine ⟨h.inv.rem x, fun y hy => ?_, fun y hy => ?_, fun y => ?_, fun y => ?_⟩
  · by_cases e : y = x
    · subst e; simp only [updT_same]
    · simp only [updT_other bun0 e]; exact h.out y (fun e2 => hy ((List.mem_erase_of_ne e).2 e2))
  · have e : y ≠ x := fun e => hx (e ▸ hy)
    simp only [updT_other bun0 e]; exact h.one y (List.mem_of_mem_erase hy)
  · by_cases e : y = x
    · subst e; simp only [updT_same]; exact okB_zero
    · simp only [updT_other bun0 e]; exact h.ok y
  · by_cases e : y = x
    · subst e; simp only [updT_same]; exact h.n0
    · simp only [updT_other bun0 e]; exact h.le y

theorem CInv.ab {S W N K : Int} {C : Ca} (h : CInv S W N C) {x : Int} {b : Bun} {q : Int} (hb : okB b) (hK : b.n ≤ K) (hx : x ≤ 9223372036854775807) : CInv S W (N + K) (nxAb S W C x b q) := by
  have h0 := h.n0
  have hb0 := hb.1
  unfold nxAb
  split
  · exact h.mono (by omega)
  rename_i c1
  split
  · rename_i c2
    exact h.put (h.inv.nxUse x) (fun y _ => mem_nxUse) (mem_nxUse.2 c2) (joinB_ok (h.ok x) hb) (by rw [joinB_n]; have := (h.ok x).1; omega) (by rw [joinB_n]; have := h.le x; omega) (by omega)
  rename_i c2
  obtain ⟨⟨v, ok⟩, hv⟩ : ∃ r, vicA S W C.A x q = r := ⟨_, rfl⟩
  rw [hv]
  rcases vic_cases h.inv c2 hv with ⟨rfl, rfl, _⟩ | ⟨rfl, rfl, h2⟩ | ⟨rfl, h2, h3, h4, h5⟩
  · simp; exact h.mono (by omega)
  · simp
    exact h.put (h.inv.add hx h2) (fun y e => by simp [e]) (by simp) hb (by omega) (by omega) (by omega)
  · have e : ¬ v < 0 := by omega
    simp [e]
    exact (h.gone v).put ((h.inv.rem v).add hx h5) (fun y e => by simp [e]) (by simp) hb (by omega) (by omega) (by omega)

theorem restB_ok {h : Bun} (k : okB h) (c : Int) (o : Bool) : okB (restB h c o) ∧ (restB h c o).n ≤ h.n := by
  obtain ⟨n, b, e, d⟩ := h
  have := parts_math n b e d c o false k _ _ rfl rfl
  exact ⟨this.2.2.2.2.1, by have := this.1; simp only; omega⟩

theorem restB_zero (c : Int) (o : Bool) : restB bun0 c o = bun0 :=
  ok_zero (restB_ok okB_zero c o).1 (by have h1 := (restB_ok okB_zero c o).1.1; have h2 := (restB_ok okB_zero c o).2; simp only at h2; omega)

theorem CInv.tk {S W N : Int} {C : Ca} (h : CInv S W N C) (x c : Int) (o : Bool) : CInv S W N (nxTk C x c o) := by
  have hr := restB_ok (h.ok x) c o
  unfold nxTk
  split
  · rename_i e
    rw [ok_zero hr.1 e]
    exact h.gone x
  · rename_i e
    have e0 := hr.1.1
    have hx : x ∈ C.A := h.mem.2 (by omega)
    exact h.put h.inv (fun _ _ => Iff.rfl) hx hr.1 (by omega) (by have := h.le x; omega) (Int.le_refl _)

theorem okDo_mem {S W N : Int} {C : Ca} (h : CInv S W N C) {x : Int} {wr : Bool} {t : Int} (hq : okDo C x wr t = true) : x ∈ C.A ∧ 1 ≤ (C.T x).n ∧ (C.T x).h = true := by
  simp [okDo, canB] at hq
  exact ⟨h.mem.2 hq.1.1, hq.1.1, hq.1.2⟩

theorem CInv.dx {S W N : Int} {C : Ca} (h : CInv S W N C) (x : Int) (wr : Bool) (v t : Int) : CInv S W N (nxDo C x wr v t) := by
  unfold nxDo
  split
  · rename_i e
    obtain ⟨h1, h2, h3⟩ := okDo_mem h e
    obtain ⟨k0, k1, k2, k3⟩ := h.ok x
    refine h.put (h.inv.nxUse x) (fun y _ => mem_nxUse) (mem_nxUse.2 h1) ⟨k0, k1, k2, fun e => ?_⟩ h2 (h.le x) (Int.le_refl _)
    simp only at e
    rw [h3] at e
    cases e
  · exact h

theorem allC_len (C : Ca) : (allC C).length = C.A.length := by simp [allC, listA_len]
end Go.Proofs.Ytooopcadefpncaa
