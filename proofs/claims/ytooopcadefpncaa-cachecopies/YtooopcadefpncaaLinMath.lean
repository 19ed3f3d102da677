/- Plain mathematics of layer 8 (lines): which blocks have a line, in the order of use; sets; who must go. No program is named here. -/
import Derived.Test.YtooopcadefpncaaMath
namespace Go.Proofs.Ytooopcadefpncaa
open Go.RowKit

/-- The blocks of one set, in order. -/
def part (S : Int) (A : List Int) (k : Int) : List Int := A.filter fun y => decide (modZ y S = k)

def fullA (S W : Int) (A : List Int) (x : Int) : Bool := decide (W ≤ (part S A (modZ x S)).length)
def okAdd (S W : Int) (A : List Int) (x : Int) : Bool := decide (0 ≤ x) && (!decide (x ∈ A) && !fullA S W A x)
def nxAdd (S W : Int) (A : List Int) (x : Int) : List Int := if okAdd S W A x = true then A ++ [x] else A
def okRem (A : List Int) (x : Int) : Bool := decide (x ∈ A)
def nxUse (A : List Int) (x : Int) : List Int := if x ∈ A then A.erase x ++ [x] else A
def firstNot (L : List Int) (q : Int) : Int × Bool :=
  match L with
  | [] => (-1, false)
  | y :: r => if y = q then firstNot r q else (y, true)
def vicA (S W : Int) (A : List Int) (x q : Int) : Int × Bool :=
  if x < 0 then (-1, false) else if x ∈ A ∨ fullA S W A x = false then (-1, true) else firstNot (part S A (modZ x S)) q

/-- What always holds of lines. -/
structure Inv (S W : Int) (A : List Int) : Prop where
  s0 : 1 ≤ S
  s1 : S ≤ 64
  w0 : 1 ≤ W
  w1 : W ≤ 16
  nodup : A.Nodup
  pos : ∀ x ∈ A, 0 ≤ x ∧ x ≤ 9223372036854775807
  room : ∀ k, ((part S A k).length : Int) ≤ W

theorem modZ_in {S : Int} (h : 1 ≤ S) (x : Int) : 0 ≤ modZ x S ∧ modZ x S < S := ⟨(modZ_bd x S).1, (modZ_bd x S).2.2 h⟩

theorem mem_part {S : Int} {A : List Int} {x : Int} : x ∈ part S A (modZ x S) ↔ x ∈ A := by simp [part]
theorem mem_part' {S k : Int} {A : List Int} {x : Int} : x ∈ part S A k ↔ x ∈ A ∧ modZ x S = k := by simp [part]

theorem part_append (S : Int) (A B : List Int) (k : Int) : part S (A ++ B) k = part S A k ++ part S B k := by simp [part]
theorem part_one_same (S x : Int) : part S [x] (modZ x S) = [x] := by simp [part]
theorem part_one_other {S x k : Int} (h : k ≠ modZ x S) : part S [x] k = [] := by simp [part, Ne.symm h]

theorem part_erase_same (S : Int) (A : List Int) (x : Int) : part S (A.erase x) (modZ x S) = (part S A (modZ x S)).erase x := by
  induction A with
  | nil => rfl
  | cons y r ih =>
    by_cases c : y = x
    · subst c; simp [part]
    · rw [List.erase_cons_tail (by simpa using c)]
      simp only [part, List.filter_cons] at ih ⊢
      split
      · rw [List.erase_cons_tail (by simpa using c), ih]
      · exact ih

theorem part_erase_other {S : Int} {A : List Int} {x k : Int} (h : k ≠ modZ x S) : part S (A.erase x) k = part S A k := by
  induction A with
  | nil => rfl
  | cons y r ih =>
    by_cases c : y = x
    · subst c; simp [part, Ne.symm h]
    · rw [List.erase_cons_tail (by simpa using c)]
      simp only [part, List.filter_cons] at ih ⊢
      split
      · rw [ih]
      · exact ih

theorem part_out {S : Int} {A : List Int} {k : Int} (hS : 1 ≤ S) (hk : k < 0 ∨ S ≤ k) : part S A k = [] := by
  rw [List.eq_nil_iff_forall_not_mem]
  intro x hx
  have := modZ_in hS x
  have h2 := (mem_part'.1 hx).2
  omega

theorem nodup_snoc {A : List Int} {x : Int} (h : A.Nodup) (hx : x ∉ A) : (A ++ [x]).Nodup := by
  rw [List.nodup_append]
  refine ⟨h, by simp, ?_⟩
  intro a ha b hb
  simp at hb
  subst hb
  exact fun e => hx (e ▸ ha)

theorem Inv.new {S W : Int} (s0 : 1 ≤ S) (s1 : S ≤ 64) (w0 : 1 ≤ W) (w1 : W ≤ 16) : Inv S W [] := ⟨s0, s1, w0, w1, List.nodup_nil, by simp, fun k => by simp [part]; omega⟩

theorem Inv.add {S W : Int} {A : List Int} (h : Inv S W A) {x : Int} (hx : x ≤ 9223372036854775807) (ho : okAdd S W A x = true) : Inv S W (A ++ [x]) := by
  simp [okAdd, fullA] at ho
  obtain ⟨h0, h1, h2⟩ := ho
  refine ⟨h.s0, h.s1, h.w0, h.w1, nodup_snoc h.nodup h1, ?_, fun k => ?_⟩
  · intro y hy
    rcases List.mem_append.1 hy with hy | hy
    · exact h.pos y hy
    · simp at hy; subst hy; exact ⟨h0, hx⟩
  · rw [part_append]
    by_cases c : k = modZ x S
    · subst c; rw [part_one_same]; simp; omega
    · rw [part_one_other c]; simpa using h.room k

theorem Inv.nxAdd {S W : Int} {A : List Int} (h : Inv S W A) {x : Int} (hx : x ≤ 9223372036854775807) : Inv S W (nxAdd S W A x) := by
  unfold Go.Proofs.Ytooopcadefpncaa.nxAdd
  split
  · rename_i c; exact h.add hx c
  · exact h

theorem part_len_erase {S : Int} {A : List Int} {x k : Int} : (part S (A.erase x) k).length ≤ (part S A k).length := by
  by_cases c : k = modZ x S
  · subst c; rw [part_erase_same]; exact List.length_erase_le
  · rw [part_erase_other c]; exact Nat.le_refl _

theorem Inv.rem {S W : Int} {A : List Int} (h : Inv S W A) (x : Int) : Inv S W (A.erase x) :=
  ⟨h.s0, h.s1, h.w0, h.w1, h.nodup.erase x, fun y hy => h.pos y (List.mem_of_mem_erase hy), fun k => by have := part_len_erase (S := S) (A := A) (x := x) (k := k); have := h.room k; omega⟩

/-- What was just removed may be added. -/
theorem okAdd_erase {S W : Int} {A : List Int} (h : Inv S W A) {x : Int} (hx : x ∈ A) : okAdd S W (A.erase x) x = true := by
  have h1 : x ∉ A.erase x := by rw [h.nodup.mem_erase_iff]; simp
  have h2 : 0 ≤ x := (h.pos x hx).1
  have h3 := h.room (modZ x S)
  have h4 : (part S (A.erase x) (modZ x S)).length = (part S A (modZ x S)).length - 1 := by rw [part_erase_same, List.length_erase_of_mem (mem_part.2 hx)]
  have h5 : 0 < (part S A (modZ x S)).length := List.length_pos_of_mem (mem_part.2 hx)
  simp [okAdd, fullA, h1, h2]
  omega

theorem Inv.nxUse {S W : Int} {A : List Int} (h : Inv S W A) (x : Int) : Inv S W (nxUse A x) := by
  unfold Go.Proofs.Ytooopcadefpncaa.nxUse
  split
  · rename_i c; exact (h.rem x).add (h.pos x c).2 (okAdd_erase h c)
  · exact h

theorem filter_len (p : Int → Bool) : ∀ A : List Int, A.length = (A.filter p).length + (A.filter fun y => !p y).length
  | [] => rfl
  | x :: r => by have := filter_len p r; simp only [List.filter_cons, List.length_cons]; cases p x <;> simp <;> omega

/-- How many there are, of what is parted into few. -/
theorem len_parts (f : Int → Int) (W : Nat) : ∀ (n : Nat) (A : List Int), (∀ x ∈ A, 0 ≤ f x ∧ f x < n) → (∀ k, (A.filter fun y => decide (f y = k)).length ≤ W) → A.length ≤ n * W
  | 0, A, h, _ => by
    cases A with
    | nil => simp
    | cons x r => have := h x (by simp); omega
  | n + 1, A, h, hr => by
    have h1 := len_parts f W n (A.filter fun y => !decide (f y = (n : Int))) (fun x hx => by
      have h2 := List.mem_filter.1 hx
      have h3 := h x h2.1
      have h4 : ¬ f x = n := by simpa using h2.2
      omega) (fun k => by
      refine Nat.le_trans ?_ (hr k)
      rw [List.filter_filter]
      refine Nat.le_trans (Nat.le_of_eq rfl) ?_
      refine List.Sublist.length_le ?_
      have : (fun a => decide (f a = k) && !decide (f a = (n : Int))) = fun a => (!decide (f a = (n : Int))) && decide (f a = k) := by funext a; exact Bool.and_comm _ _
      rw [this, ← List.filter_filter]
      exact List.filter_sublist)
    have h2 := filter_len (fun y => decide (f y = (n : Int))) A
    have h3 := hr n
    rw [Nat.succ_mul]
    omega

theorem Inv.len {S W : Int} {A : List Int} (h : Inv S W A) : A.length ≤ 1024 := by
  have s0 := h.s0; have s1 := h.s1; have w0 := h.w0; have w1 := h.w1
  have := len_parts (fun y => modZ y S) 16 64 A (fun x _ => by have := modZ_in s0 x; simp; omega) (fun k => by have := h.room k; simp only [part] at this; omega)
  omega

theorem Inv.plen {S W : Int} {A : List Int} (h : Inv S W A) (k : Int) : (part S A k).length ≤ 16 := by have := h.room k; have := h.w1; omega

/-- The rising order. -/
def listA (A : List Int) : List Int := A.mergeSort fun x y => decide (x ≤ y)

theorem listA_len (A : List Int) : (listA A).length = A.length := by simp [listA]
theorem listA_perm (A : List Int) : (listA A).Perm A := List.mergeSort_perm A _
theorem listA_sorted (A : List Int) : (listA A).Pairwise (fun x y => x ≤ y) := by
  have := List.pairwise_mergeSort (le := fun x y : Int => decide (x ≤ y)) (fun a b c h1 h2 => by simp at *; omega) (fun a b => by simp; omega) A
  exact this.imp (fun h => by simpa using h)

theorem listA_of_perm {A B : List Int} (h : A.Perm B) : listA A = listA B := by
  have hp : (listA A).Perm (listA B) := (listA_perm A).trans (h.trans (listA_perm B).symm)
  exact hp.eq_of_pairwise (le := fun x y : Int => x ≤ y) (fun a b _ _ h1 h2 => by omega) (listA_sorted A) (listA_sorted B)

theorem mem_listA {A : List Int} {x : Int} : x ∈ listA A ↔ x ∈ A := (listA_perm A).mem_iff
end Go.Proofs.Ytooopcadefpncaa
