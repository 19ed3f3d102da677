/- Plain mathematics of the document's table: all that was told, in order; and that it is the same table (layer 11). -/
import Derived.Test.YtgaabbnfjapcjaaTbMath
namespace Go.Proofs.Ytgaabbnfjapcjaa
open Go.ChangeShapes Go.WideShapes Go.ChangeAt Go.RowKit
set_option linter.unusedSimpArgs false
set_option linter.unusedVariables false
set_option maxRecDepth 10000

attribute [local go_sem, local simp] over_const setCell_drewN alloc_drewN Over.cell Over.frozen lt_s1 lt_s2 lt_s3 le_s0 le_s1 le_s2 le_s3 eq_s0 eq_s1 eq_s2 qe_s0

def stO (b : Int) (n : Int) (x : At) : Int := if x.b = b ∧ n < x.s then x.s else n
def dO (Off : List At) (b : Int) : Int := Off.foldl (stO b) 0
def stB (b th : Int) (y x : At) : At := if x.b = b ∧ y.s < x.s ∧ th < x.s then x else y
def bst (On : List At) (b th : Int) : At := On.foldl (stB b th) at0
def dA (On Off : List At) (b : Int) : At := bst On b (dO Off b)

theorem take_next {L : List At} {j : Nat} (hj : j < L.length) : L.take (j + 1) = L.take j ++ [L[j]] := by
  rw [List.take_add_one, List.getElem?_eq_getElem hj]
  rfl
theorem dO_snoc (L : List At) (x : At) (b : Int) : dO (L ++ [x]) b = stO b (dO L b) x := by simp only [dO, List.foldl_append, List.foldl_cons, List.foldl_nil]
theorem bst_snoc (L : List At) (x : At) (b th : Int) : bst (L ++ [x]) b th = stB b th (bst L b th) x := by simp only [bst, List.foldl_append, List.foldl_cons, List.foldl_nil]
theorem dO_take {L : List At} {j : Nat} (hj : j < L.length) (b : Int) : dO (L.take (j + 1)) b = stO b (dO (L.take j) b) L[j] := by rw [take_next hj, dO_snoc]
theorem bst_take {L : List At} {j : Nat} (hj : j < L.length) (b th : Int) : bst (L.take (j + 1)) b th = stB b th (bst (L.take j) b th) L[j] := by rw [take_next hj, bst_snoc]

/-- From the end. -/
theorem list_snoc {P : List At → Prop} (h0 : P []) (h1 : ∀ L x, P L → P (L ++ [x])) : ∀ L, P L := by
  intro L
  have : ∀ n (M : List At), M.length = n → P M := by
    intro n
    induction n with
    | zero => intro M hM; rw [List.eq_nil_of_length_eq_zero hM]; exact h0
    | succ n ih =>
      intro M hM
      have hne : M ≠ [] := fun e => by rw [e] at hM; cases hM
      rw [← List.dropLast_concat_getLast hne]
      exact h1 _ _ (ih _ (by simp [hM]))
  exact this _ L rfl

theorem bst_up (b : Int) {th th' : Int} (h : th ≤ th') (h0 : 0 ≤ th') (L : List At) : bst L b th' = if (bst L b th).s ≤ th' then at0 else bst L b th := by
  induction L using list_snoc with
  | h0 => rw [if_pos (show (bst [] b th).s ≤ th' from h0)]; rfl
  | h1 L x ih =>
    rw [bst_snoc, bst_snoc, ih]
    generalize bst L b th = y
    by_cases p : x.b = b ∧ y.s < x.s ∧ th < x.s
    · have e1 : stB b th y x = x := if_pos p
      rw [e1]
      by_cases q : y.s ≤ th'
      · rw [if_pos q]
        by_cases r : x.s ≤ th'
        · rw [if_pos r]; exact if_neg (fun hh => by have := hh.2.2; omega)
        · rw [if_neg r]; exact if_pos ⟨p.1, by show 0 < x.s; omega, by omega⟩
      · rw [if_neg q, if_neg (by omega)]; exact if_pos ⟨p.1, p.2.1, by omega⟩
    · have e1 : stB b th y x = y := if_neg p
      rw [e1]
      by_cases q : y.s ≤ th'
      · rw [if_pos q]; exact if_neg (fun hh => p ⟨hh.1, by have := hh.2.2; omega, by have := hh.2.2; omega⟩)
      · rw [if_neg q]; exact if_neg (fun hh => p ⟨hh.1, hh.2.1, by have := hh.2.2; omega⟩)

theorem bst_in (b th : Int) (L : List At) : bst L b th = at0 ∨ (bst L b th ∈ L ∧ (bst L b th).b = b) := by
  induction L using list_snoc with
  | h0 => exact .inl rfl
  | h1 L x ih =>
    rw [bst_snoc]
    unfold stB
    split
    · rename_i h; exact .inr ⟨by simp, h.1⟩
    · rcases ih with h | ⟨h, h'⟩
      · exact .inl h
      · exact .inr ⟨List.mem_append_left _ h, h'⟩

theorem bst_top (b th : Int) (L : List At) : ∀ x ∈ L, x.b = b → x.s ≤ th ∨ x.s ≤ (bst L b th).s := by
  induction L using list_snoc with
  | h0 => intro x hx; cases hx
  | h1 L y ih =>
    intro x hx hb
    rw [bst_snoc]
    unfold stB
    rcases List.mem_append.1 hx with hx | hx
    · rcases ih x hx hb with h | h
      · exact .inl h
      · split <;> omega
    · simp at hx
      subst hx
      split <;> omega

/-- What was told, and the table. -/
structure Link (N : Nat) (On Off : List At) (T : Tb) : Prop where
  inv : TInv N T
  o : ∀ b, dO Off b = T.O b
  a : ∀ b, bst On b (T.O b) = getA T.A b
  pw : On.Pairwise fun x y => x.b = y.b → x.s < y.s

theorem link_new : Link 0 [] [] tb0 := ⟨inv_new, fun _ => rfl, fun _ => rfl, List.Pairwise.nil⟩

theorem Link.dA {N : Nat} {On Off : List At} {T : Tb} (h : Link N On Off T) (b : Int) : Go.Proofs.Ytgaabbnfjapcjaa.dA On Off b = getA T.A b := by unfold Go.Proofs.Ytgaabbnfjapcjaa.dA; rw [h.o, h.a]

def okD (On Off : List At) (a : At) : Bool := decide (¬ (a.s < 1) ∧ ¬ (a.s ≤ dO Off a.b) ∧ ¬ (a.s ≤ (dA On Off a.b).s))

theorem Link.ok {N : Nat} {On Off : List At} {T : Tb} (h : Link N On Off T) (a : At) : okD On Off a = okA T a := by
  unfold okD okA
  rw [h.o, h.dA]
  have := h.inv.pos a.b
  rw [decide_eq_decide]
  omega

theorem Link.act {N : Nat} {On Off : List At} {T : Tb} (h : Link N On Off T) (a : At) (ha : I64 a.b) (hok : okA T a = true) : Link (N + 1) (On ++ [a]) Off (nxA T a) := by
  have hI := inv_act h.inv a ha
  have hn : nxA T a = ⟨insA T.A a, T.O⟩ := by unfold nxA; rw [if_pos hok]
  rw [hn] at hI ⊢
  have hk := hok
  simp only [okA, decide_eq_true_eq] at hk
  refine ⟨hI, h.o, fun b => ?_, ?_⟩
  · rw [bst_snoc]
    show stB b (T.O b) (bst On b (T.O b)) a = getA (insA T.A a) b
    rw [h.a, getA_ins]
    unfold stB
    by_cases c : b = a.b
    · subst c; rw [if_pos rfl, if_pos ⟨rfl, hk.2, hk.1⟩]
    · rw [if_neg c, if_neg (fun h => c h.1.symm)]
  · refine List.pairwise_append.2 ⟨h.pw, List.pairwise_singleton _ _, fun x hx y hy hxy => ?_⟩
    simp at hy
    subst hy
    have := bst_top x.b (T.O x.b) On x hx rfl
    rw [h.a, hxy] at this
    omega

theorem Link.skip {N : Nat} {On Off : List At} {T : Tb} (h : Link N On Off T) (a : At) (hok : okA T a = false) : Link (N + 1) On Off (nxA T a) := by
  have hn : nxA T a = T := by unfold nxA; rw [if_neg (by rw [hok]; decide)]
  rw [hn]
  exact ⟨h.inv.mono (by omega), h.o, h.a, h.pw⟩

theorem Link.dea {N : Nat} {On Off : List At} {T : Tb} (h : Link N On Off T) (b s : Int) : Link (N + 1) On (Off ++ [⟨b, 0, s⟩]) (nxD T b s) := by
  have hI := (inv_dea h.inv b s).mono (Nat.le_succ N)
  have hp := h.inv.pos b
  unfold nxD at hI ⊢
  by_cases c : s ≤ T.O b
  · rw [if_pos c] at hI ⊢
    refine ⟨hI, fun k => ?_, h.a, h.pw⟩
    rw [dO_snoc, h.o]
    unfold stO
    refine if_neg fun hh => ?_
    have e : b = k := hh.1
    have := hh.2
    subst e
    exact absurd this (by show ¬ T.O b < s; omega)
  · rw [if_neg c] at hI ⊢
    refine ⟨hI, fun k => ?_, fun k => ?_, h.pw⟩
    · rw [dO_snoc, h.o]
      show stO k (T.O k) ⟨b, 0, s⟩ = updO T.O b s k
      unfold stO
      by_cases e : k = b
      · subst e; rw [updO_same, if_pos ⟨rfl, by show T.O k < s; omega⟩]
      · rw [updO_other _ _ e, if_neg (fun hh => e hh.1.symm)]
    · show bst On k (updO T.O b s k) = getA (if (getA T.A b).s ≤ s then delA T.A b else T.A) k
      by_cases e : k = b
      · subst e
        rw [updO_same, bst_up k (th := T.O k) (by omega) (by omega), h.a]
        by_cases e2 : (getA T.A k).s ≤ s
        · rw [if_pos e2, if_pos e2, getA_del, if_pos rfl]
        · rw [if_neg e2, if_neg e2]
      · rw [updO_other _ _ e, h.a]
        split
        · rw [getA_del, if_neg e]
        · rfl

/-- The place of a block among rising ones. -/
def posA : List At → Int → Nat
  | [], _ => 0
  | x :: r, b => if x.b < b then posA r b + 1 else 0

theorem posA_le (L : List At) (b : Int) : posA L b ≤ L.length := by
  induction L with
  | nil => exact Nat.le_refl _
  | cons x r ih =>
    simp only [posA]
    split
    · simp; omega
    · simp
theorem posA_lt (L : List At) (b : Int) : ∀ j (h : j < L.length), j < posA L b → L[j].b < b := by
  induction L with
  | nil => intro j h; simp at h
  | cons x r ih =>
    intro j h hj
    simp only [posA] at hj
    split at hj
    · cases j with
      | zero => assumption
      | succ j => exact ih j (by simpa using h) (by omega)
    · omega
theorem posA_at (L : List At) (b : Int) : ∀ (h : posA L b < L.length), ¬ L[posA L b].b < b := by
  induction L with
  | nil => intro h; simp at h
  | cons x r ih =>
    intro h
    by_cases c : x.b < b
    · have e : posA (x :: r) b = posA r b + 1 := by simp only [posA]; rw [if_pos c]
      simp only [e, List.getElem_cons_succ]
      exact ih (by rw [e] at h; simpa using h)
    · have e : posA (x :: r) b = 0 := by simp only [posA]; rw [if_neg c]
      simp only [e, List.getElem_cons_zero]
      exact c
theorem ins_pos {L : List At} (a : At) (h : ∀ y ∈ L, y.b ≠ a.b) : L.take (posA L a.b) ++ [a] ++ L.drop (posA L a.b) = insA L a := by
  induction L with
  | nil => rfl
  | cons x r ih =>
    have hx := h x (by simp)
    simp only [posA, insA]
    by_cases c : x.b < a.b
    · rw [if_pos c, if_pos c, List.take_succ_cons, List.drop_succ_cons, List.cons_append, List.cons_append, ih (fun y hy => h y (List.mem_cons_of_mem _ hy))]
    · rw [if_neg c, if_neg c, if_neg hx]
      rfl

def eqA (a x : At) : Bool := decide (a.b = x.b ∧ a.n = x.n ∧ a.s = x.s)
theorem eqA_iff {a x : At} : eqA a x = true ↔ a = x := by
  unfold eqA
  rw [decide_eq_true_eq]
  constructor
  · rintro ⟨h1, h2, h3⟩
    cases a; cases x
    simp_all
  · rintro rfl; exact ⟨rfl, rfl, rfl⟩
def keepD (On Off : List At) (x : At) : Bool := decide (0 < (dA On Off x.b).s) && eqA (dA On Off x.b) x
def stL (On Off : List At) (out : List At) (x : At) : List At := if keepD On Off x = true then out.take (posA out x.b) ++ [x] ++ out.drop (posA out x.b) else out
def dL (On Off P : List At) : List At := P.foldl (stL On Off) []
theorem dL_take {On Off L : List At} {j : Nat} (hj : j < L.length) : dL On Off (L.take (j + 1)) = stL On Off (dL On Off (L.take j)) L[j] := by
  rw [take_next hj]
  simp only [dL, List.foldl_append, List.foldl_cons, List.foldl_nil]

theorem keep_iff {N : Nat} {On Off : List At} {T : Tb} (h : Link N On Off T) (x : At) : keepD On Off x = true ↔ x ∈ T.A := by
  unfold keepD
  rw [h.dA, Bool.and_eq_true, decide_eq_true_eq, eqA_iff, mem_of_get h.inv]
  constructor
  · rintro ⟨h1, h2⟩; rw [h2] at h1; exact ⟨h2, h1⟩
  · rintro ⟨h1, h2⟩; rw [h1]; exact ⟨h2, rfl⟩

theorem dL_pre {N : Nat} {On Off : List At} {T : Tb} (h : Link N On Off T) (P : List At) : (P.Pairwise fun x y => x.b = y.b → x.s < y.s) → Sr (dL On Off P) ∧ ∀ y, y ∈ dL On Off P ↔ y ∈ P ∧ y ∈ T.A := by
  induction P using list_snoc with
  | h0 => exact fun _ => ⟨List.Pairwise.nil, fun y => by simp [dL]⟩
  | h1 P x ih =>
    intro hp
    have hp' := List.pairwise_append.1 hp
    obtain ⟨i1, i2⟩ := ih hp'.1
    have e : dL On Off (P ++ [x]) = stL On Off (dL On Off P) x := by simp only [dL, List.foldl_append, List.foldl_cons, List.foldl_nil]
    rw [e]
    unfold stL
    by_cases c : keepD On Off x = true
    · have cx := (keep_iff h x).1 c
      have hno : ∀ y ∈ dL On Off P, y.b ≠ x.b := by
        intro y hy hyx
        obtain ⟨h1, h2⟩ := (i2 y).1 hy
        have e1 := getA_of_mem h.inv.sr h2
        have e2 := getA_of_mem h.inv.sr cx
        rw [hyx, e2] at e1
        subst e1
        have := hp'.2.2 x h1 x (by simp) rfl
        omega
      rw [if_pos c, ins_pos x hno]
      refine ⟨sr_ins i1 x, fun y => ?_⟩
      constructor
      · intro hy
        rcases mem_ins hy with rfl | hy
        · exact ⟨by simp, cx⟩
        · exact ⟨List.mem_append_left _ ((i2 y).1 hy).1, ((i2 y).1 hy).2⟩
      · rintro ⟨h1, h2⟩
        rcases List.mem_append.1 h1 with h1 | h1
        · have := (i2 y).2 ⟨h1, h2⟩
          exact mem_ins_of (.inr ⟨this, hno y this⟩)
        · simp at h1
          exact mem_ins_of (.inl h1)
    · rw [if_neg c]
      refine ⟨i1, fun y => ?_⟩
      rw [i2]
      constructor
      · rintro ⟨h1, h2⟩; exact ⟨List.mem_append_left _ h1, h2⟩
      · rintro ⟨h1, h2⟩
        rcases List.mem_append.1 h1 with h1 | h1
        · exact ⟨h1, h2⟩
        · simp at h1
          subst h1
          exact absurd ((keep_iff h y).2 h2) c

theorem Link.list {N : Nat} {On Off : List At} {T : Tb} (h : Link N On Off T) : dL On Off On = T.A := by
  obtain ⟨h1, h2⟩ := dL_pre h On h.pw
  refine sr_ext h1 h.inv.sr (fun y => ?_)
  rw [h2]
  refine ⟨fun h => h.2, fun hy => ⟨?_, hy⟩⟩
  obtain ⟨h3, h4⟩ := (mem_of_get h.inv).1 hy
  rcases bst_in y.b (T.O y.b) On with e | ⟨e, _⟩
  · rw [h.a, h3] at e
    rw [e] at h4
    exact absurd h4 (by decide)
  · rw [h.a, h3] at e
    exact e
theorem dL_len {On Off : List At} (P : List At) : (dL On Off P).length ≤ P.length := by
  induction P using list_snoc with
  | h0 => exact Nat.le_refl _
  | h1 P x ih =>
    have e : dL On Off (P ++ [x]) = stL On Off (dL On Off P) x := by simp only [dL, List.foldl_append, List.foldl_cons, List.foldl_nil]
    rw [e]
    unfold stL
    have := posA_le (dL On Off P) x.b
    split
    · simp; omega
    · simp; omega
end Go.Proofs.Ytgaabbnfjapcjaa
