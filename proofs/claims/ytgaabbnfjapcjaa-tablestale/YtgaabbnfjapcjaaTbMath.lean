/- Plain mathematics of a table: the active requests by rising blocks, and up to which number a block's are over (layer 11). -/
import Derived.Test.YtgaabbnfjapcjaaAtRow
namespace Go.Proofs.Ytgaabbnfjapcjaa
open Go.ChangeShapes Go.WideShapes Go.ChangeAt Go.RowKit
set_option linter.unusedSimpArgs false
set_option linter.unusedVariables false
set_option maxRecDepth 10000

attribute [local go_sem, local simp] over_const setCell_drewN alloc_drewN Over.cell Over.frozen lt_s1 lt_s2 lt_s3 le_s0 le_s1 le_s2 le_s3 eq_s0 eq_s1 eq_s2 qe_s0

structure Tb where
  A : List At
  O : Int → Int

def getA : List At → Int → At
  | [], _ => at0
  | x :: r, b => if x.b = b then x else getA r b

def hasA : List At → Int → Bool
  | [], _ => false
  | x :: r, b => if x.b = b then true else hasA r b

def insA : List At → At → List At
  | [], a => [a]
  | x :: r, a => if x.b < a.b then x :: insA r a else if x.b = a.b then a :: r else a :: x :: r

def delA : List At → Int → List At
  | [], _ => []
  | x :: r, b => if x.b = b then delA r b else x :: delA r b

abbrev tb0 : Tb := ⟨[], fun _ => 0⟩
def okA (T : Tb) (a : At) : Bool := decide (T.O a.b < a.s ∧ (getA T.A a.b).s < a.s)
def nxA (T : Tb) (a : At) : Tb := if okA T a = true then ⟨insA T.A a, T.O⟩ else T
def updO (O : Int → Int) (b s : Int) : Int → Int := fun k => if k = b then s else O k
def nxD (T : Tb) (b s : Int) : Tb := if s ≤ T.O b then T else ⟨if (getA T.A b).s ≤ s then delA T.A b else T.A, updO T.O b s⟩

def Sr (A : List At) : Prop := A.Pairwise fun x y => x.b < y.b

structure TInv (N : Nat) (T : Tb) : Prop where
  sr : Sr T.A
  pos : ∀ b, 0 ≤ T.O b
  ov : ∀ a ∈ T.A, T.O a.b < a.s
  rng : ∀ a ∈ T.A, I64 a.b
  len : T.A.length ≤ N

theorem TInv.mono {N M : Nat} {T : Tb} (h : TInv N T) (hM : N ≤ M) : TInv M T := ⟨h.sr, h.pos, h.ov, h.rng, Nat.le_trans h.len hM⟩

theorem hasA_iff (A : List At) (b : Int) : hasA A b = true ↔ ∃ x ∈ A, x.b = b := by
  induction A with
  | nil => simp [hasA]
  | cons x r ih =>
    simp only [hasA, List.mem_cons]
    by_cases c : x.b = b
    · simp only [if_pos c, true_iff]; exact ⟨x, .inl rfl, c⟩
    · rw [if_neg c, ih]
      constructor
      · rintro ⟨y, h1, h2⟩; exact ⟨y, .inr h1, h2⟩
      · rintro ⟨y, rfl | h1, h2⟩
        · exact absurd h2 c
        · exact ⟨y, h1, h2⟩

theorem getA_none {A : List At} {b : Int} (h : hasA A b = false) : getA A b = at0 := by
  induction A with
  | nil => rfl
  | cons x r ih =>
    simp only [hasA] at h
    by_cases c : x.b = b
    · rw [if_pos c] at h; cases h
    · rw [if_neg c] at h; rw [getA, if_neg c]; exact ih h

theorem getA_mem {A : List At} {b : Int} (h : hasA A b = true) : getA A b ∈ A ∧ (getA A b).b = b := by
  induction A with
  | nil => cases h
  | cons x r ih =>
    simp only [hasA] at h
    by_cases c : x.b = b
    · rw [getA, if_pos c]; exact ⟨by simp, c⟩
    · rw [if_neg c] at h
      rw [getA, if_neg c]
      exact ⟨List.mem_cons_of_mem _ (ih h).1, (ih h).2⟩

theorem getA_of_mem {A : List At} (hs : Sr A) {a : At} (h : a ∈ A) : getA A a.b = a := by
  induction A with
  | nil => cases h
  | cons x r ih =>
    have hs' := List.pairwise_cons.1 hs
    rcases List.mem_cons.1 h with rfl | h
    · rw [getA, if_pos rfl]
    · have := hs'.1 a h
      rw [getA, if_neg (by omega)]
      exact ih hs'.2 h

theorem getA_ins (A : List At) (a : At) (k : Int) : getA (insA A a) k = if k = a.b then a else getA A k := by
  induction A with
  | nil => by_cases c : k = a.b <;> simp [insA, getA, c, eq_comm]
  | cons x r ih =>
    simp only [insA]
    by_cases c1 : x.b < a.b
    · rw [if_pos c1]
      simp only [getA, ih]
      by_cases c : k = a.b
      · rw [if_pos c, if_pos c, if_neg (by omega)]
      · rw [if_neg c, if_neg c]
    · rw [if_neg c1]
      by_cases c2 : x.b = a.b
      · rw [if_pos c2]
        simp only [getA]
        by_cases c : k = a.b
        · rw [if_pos c, if_pos (by omega)]
        · rw [if_neg c, if_neg (by omega), if_neg (by omega)]
      · rw [if_neg c2]
        simp only [getA]
        by_cases c : k = a.b
        · rw [if_pos c, if_pos (by omega)]
        · rw [if_neg c, if_neg (fun e => c e.symm)]

theorem hasA_ins (A : List At) (a : At) (k : Int) : hasA (insA A a) k = (decide (k = a.b) || hasA A k) := by
  induction A with
  | nil => by_cases c : k = a.b <;> simp [insA, hasA, c, eq_comm]
  | cons x r ih =>
    simp only [insA]
    by_cases c1 : x.b < a.b
    · rw [if_pos c1]
      simp only [hasA, ih]
      by_cases c : x.b = k <;> simp [c]
    · rw [if_neg c1]
      by_cases c2 : x.b = a.b
      · rw [if_pos c2]
        simp only [hasA, c2]
        by_cases c : k = a.b
        · simp [c]
        · simp [c, show ¬ a.b = k from fun e => c e.symm]
      · rw [if_neg c2]
        simp only [hasA]
        by_cases c : k = a.b
        · simp [c]
        · simp [c, show ¬ a.b = k from fun e => c e.symm]

theorem mem_ins {A : List At} {a y : At} (h : y ∈ insA A a) : y = a ∨ y ∈ A := by
  induction A with
  | nil => simpa [insA] using h
  | cons x r ih =>
    simp only [insA] at h
    split at h
    · rcases List.mem_cons.1 h with rfl | h
      · exact .inr (by simp)
      · rcases ih h with h | h
        · exact .inl h
        · exact .inr (List.mem_cons_of_mem _ h)
    · split at h
      · rcases List.mem_cons.1 h with rfl | h
        · exact .inl rfl
        · exact .inr (List.mem_cons_of_mem _ h)
      · rcases List.mem_cons.1 h with rfl | h
        · exact .inl rfl
        · exact .inr h

theorem mem_ins_of {A : List At} {a y : At} (h : y = a ∨ (y ∈ A ∧ y.b ≠ a.b)) : y ∈ insA A a := by
  induction A with
  | nil => simpa [insA] using h
  | cons x r ih =>
    simp only [insA]
    split
    · rcases h with h | ⟨h, h2⟩
      · exact List.mem_cons_of_mem _ (ih (.inl h))
      · rcases List.mem_cons.1 h with rfl | h
        · simp
        · exact List.mem_cons_of_mem _ (ih (.inr ⟨h, h2⟩))
    · split
      · rename_i c1 c2
        rcases h with h | ⟨h, h2⟩
        · simp [h]
        · rcases List.mem_cons.1 h with rfl | h
          · exact absurd c2 h2
          · exact List.mem_cons_of_mem _ h
      · rcases h with h | ⟨h, h2⟩
        · simp [h]
        · exact List.mem_cons_of_mem _ h

theorem sr_ins {A : List At} (hs : Sr A) (a : At) : Sr (insA A a) := by
  induction A with
  | nil => exact List.pairwise_singleton _ _
  | cons x r ih =>
    have hs' := List.pairwise_cons.1 hs
    simp only [insA]
    split
    · rename_i c
      refine List.pairwise_cons.2 ⟨fun y hy => ?_, ih hs'.2⟩
      rcases mem_ins hy with rfl | hy
      · exact c
      · exact hs'.1 y hy
    · split
      · rename_i c1 c2
        exact List.pairwise_cons.2 ⟨fun y hy => by have := hs'.1 y hy; omega, hs'.2⟩
      · rename_i c1 c2
        refine List.pairwise_cons.2 ⟨fun y hy => ?_, hs⟩
        rcases List.mem_cons.1 hy with rfl | hy
        · omega
        · have := hs'.1 y hy; omega

theorem len_ins (A : List At) (a : At) : (insA A a).length ≤ A.length + 1 := by
  induction A with
  | nil => simp [insA]
  | cons x r ih =>
    simp only [insA]
    split
    · simp; omega
    · split <;> simp

theorem getA_del (A : List At) (b k : Int) : getA (delA A b) k = if k = b then at0 else getA A k := by
  induction A with
  | nil => by_cases c : k = b <;> simp [delA, getA]
  | cons x r ih =>
    simp only [delA]
    by_cases c1 : x.b = b
    · rw [if_pos c1, ih]
      by_cases c : k = b
      · simp [c]
      · rw [if_neg c, if_neg c, getA, if_neg (by omega)]
    · rw [if_neg c1]
      simp only [getA, ih]
      by_cases c : k = b
      · rw [if_pos c, if_pos c, if_neg (by omega)]
      · rw [if_neg c, if_neg c]

theorem mem_del {A : List At} {b : Int} {y : At} : y ∈ delA A b ↔ y ∈ A ∧ y.b ≠ b := by
  induction A with
  | nil => simp [delA]
  | cons x r ih =>
    simp only [delA]
    by_cases c : x.b = b
    · rw [if_pos c, ih, List.mem_cons]
      constructor
      · rintro ⟨h1, h2⟩; exact ⟨.inr h1, h2⟩
      · rintro ⟨rfl | h1, h2⟩
        · exact absurd c h2
        · exact ⟨h1, h2⟩
    · rw [if_neg c, List.mem_cons, ih, List.mem_cons]
      constructor
      · rintro (rfl | ⟨h1, h2⟩)
        · exact ⟨.inl rfl, c⟩
        · exact ⟨.inr h1, h2⟩
      · rintro ⟨rfl | h1, h2⟩
        · exact .inl rfl
        · exact .inr ⟨h1, h2⟩

theorem sr_del {A : List At} (hs : Sr A) (b : Int) : Sr (delA A b) := by
  induction A with
  | nil => exact hs
  | cons x r ih =>
    have hs' := List.pairwise_cons.1 hs
    simp only [delA]
    split
    · exact ih hs'.2
    · exact List.pairwise_cons.2 ⟨fun y hy => hs'.1 y (mem_del.1 hy).1, ih hs'.2⟩

theorem len_del (A : List At) (b : Int) : (delA A b).length ≤ A.length := by
  induction A with
  | nil => simp [delA]
  | cons x r ih =>
    simp only [delA]
    split
    · simp; omega
    · simpa using ih

theorem inv_new : TInv 0 tb0 := ⟨List.Pairwise.nil, fun _ => Int.le_refl _, fun _ h => (by cases h), fun _ h => (by cases h), Nat.le_refl _⟩

theorem inv_act {N : Nat} {T : Tb} (h : TInv N T) (a : At) (ha : I64 a.b) : TInv (N + 1) (nxA T a) := by
  unfold nxA
  by_cases c : okA T a = true
  · rw [if_pos c]
    have c' := c
    simp only [okA, decide_eq_true_eq] at c'
    refine ⟨sr_ins h.sr a, h.pos, fun y hy => ?_, fun y hy => ?_, Nat.le_trans (len_ins _ _) (Nat.add_le_add_right h.len 1)⟩
    · rcases mem_ins hy with rfl | hy
      · exact c'.1
      · exact h.ov y hy
    · rcases mem_ins hy with rfl | hy
      · exact ha
      · exact h.rng y hy
  · rw [if_neg c]
    exact h.mono (by omega)

theorem updO_same (O : Int → Int) (b s : Int) : updO O b s b = s := if_pos rfl
theorem updO_other (O : Int → Int) {b k : Int} (s : Int) (h : k ≠ b) : updO O b s k = O k := if_neg h

theorem inv_dea {N : Nat} {T : Tb} (h : TInv N T) (b s : Int) : TInv N (nxD T b s) := by
  unfold nxD
  have hp := h.pos b
  by_cases c : s ≤ T.O b
  · rw [if_pos c]; exact h
  · rw [if_neg c]
    refine ⟨?_, fun k => ?_, fun y hy => ?_, fun y hy => ?_, ?_⟩
    · dsimp only
      split
      · exact sr_del h.sr b
      · exact h.sr
    · show 0 ≤ updO T.O b s k
      by_cases e : k = b
      · rw [e, updO_same]; omega
      · rw [updO_other _ _ e]; exact h.pos k
    · dsimp only at hy
      split at hy
      · obtain ⟨h1, h2⟩ := mem_del.1 hy
        show updO T.O b s y.b < y.s
        rw [updO_other _ _ h2]; exact h.ov y h1
      · rename_i c2
        show updO T.O b s y.b < y.s
        by_cases e : y.b = b
        · have := getA_of_mem h.sr hy
          rw [e] at this
          rw [e, updO_same]
          rw [this] at c2
          omega
        · rw [updO_other _ _ e]; exact h.ov y hy
    · dsimp only at hy
      split at hy
      · exact h.rng y (mem_del.1 hy).1
      · exact h.rng y hy
    · dsimp only
      split
      · exact Nat.le_trans (len_del _ _) h.len
      · exact h.len

/-- An active one's number is above 0; there is none where it is 0. -/
theorem seq_pos {N : Nat} {T : Tb} (h : TInv N T) (b : Int) : hasA T.A b = decide (0 < (getA T.A b).s) := by
  cases c : hasA T.A b
  · rw [getA_none c]; rfl
  · obtain ⟨h1, h2⟩ := getA_mem c
    have := h.ov _ h1
    have := h.pos (getA T.A b).b
    symm
    rw [decide_eq_true_eq]
    omega

/-- Two lists by rising blocks of the same ones are the same. -/
theorem sr_ext : ∀ {A B : List At}, Sr A → Sr B → (∀ y, y ∈ A ↔ y ∈ B) → A = B
  | [], [], _, _, _ => rfl
  | [], y :: _, _, _, h => by have := (h y).2 (by simp); cases this
  | x :: _, [], _, _, h => by have := (h x).1 (by simp); cases this
  | x :: A, y :: B, ha, hb, h => by
    have ha' := List.pairwise_cons.1 ha
    have hb' := List.pairwise_cons.1 hb
    have e : x = y := by
      rcases List.mem_cons.1 ((h x).1 (by simp)) with e | h1
      · exact e
      · rcases List.mem_cons.1 ((h y).2 (by simp)) with e | h2
        · exact e.symm
        · have := hb'.1 x h1
          have := ha'.1 y h2
          omega
    subst e
    rw [sr_ext ha'.2 hb'.2 (fun z => ?_)]
    constructor
    · intro hz
      rcases List.mem_cons.1 ((h z).1 (List.mem_cons_of_mem _ hz)) with rfl | h1
      · have := ha'.1 z hz; omega
      · exact h1
    · intro hz
      rcases List.mem_cons.1 ((h z).2 (List.mem_cons_of_mem _ hz)) with rfl | h1
      · have := hb'.1 z hz; omega
      · exact h1

theorem mem_of_get {N : Nat} {T : Tb} (h : TInv N T) {y : At} : y ∈ T.A ↔ getA T.A y.b = y ∧ 0 < y.s := by
  constructor
  · intro hy
    have := h.ov y hy
    have := h.pos y.b
    exact ⟨getA_of_mem h.sr hy, by omega⟩
  · rintro ⟨h1, h2⟩
    have := seq_pos h y.b
    rw [h1] at this
    have := getA_mem (A := T.A) (b := y.b) (by rw [this]; exact decide_eq_true h2)
    rw [h1] at this
    exact this.1

/-- The blocks, rising. -/
theorem sr_keys {A : List At} (hs : Sr A) : (A.map At.b).Pairwise (· < ·) := List.pairwise_map.2 hs

theorem sort_rising {L : List Int} (h : L.Pairwise (· < ·)) : L.mergeSort (fun x y => decide (x ≤ y)) = L :=
  List.mergeSort_of_pairwise (h.imp fun h => by simp only [decide_eq_true_eq]; omega)
end Go.Proofs.Ytgaabbnfjapcjaa
