/- Plain mathematics of an arbiter: who asked, how many became active, what the last one is, who knows it (layer 12). -/
import Derived.Test.YtlfdahcbkdiifaaAtBase
namespace Go.Proofs.Ytlfdahcbkdiifaa
open Go.ChangeShapes Go.WideShapes Go.ChangeAt Go.RowKit
set_option linter.unusedSimpArgs false
set_option linter.unusedVariables false
set_option maxRecDepth 10000

attribute [local go_sem, local simp] over_const setCell_drewN alloc_drewN Over.cell Over.frozen lt_s1 lt_s2 lt_s3 le_s0 le_s1 le_s2 le_s3 eq_s0 eq_s1 eq_s2 qe_s0

/-- One block's requests: all that asked, how many of these became active, whether the last of them is (1), is ending (2) or over (0), who knows it. -/
structure Rq where
  A : List Int
  n : Nat
  ph : Int
  kn : List Int

abbrev rq0 : Rq := ⟨[], 0, 0, []⟩

def hasQ (k : Nat) (x : Int) : Bool := decide (0 ≤ x ∧ x < k)
theorem hasQ_iff {k : Nat} {x : Int} : hasQ k x = true ↔ ∃ j : Nat, x = j ∧ j < k := by
  unfold hasQ
  rw [decide_eq_true_iff]
  constructor
  · rintro ⟨h1, h2⟩; exact ⟨x.toNat, by omega, by omega⟩
  · rintro ⟨j, rfl, h⟩; omega
theorem hasQ_no {k : Nat} {x : Int} : hasQ k x = false ↔ x < 0 ∨ (k : Int) ≤ x := by
  unfold hasQ
  rw [decide_eq_false_iff_not]
  omega

def lastNQ (r : Rq) : Int := if r.n = 0 then 0 else r.A.getD (r.n - 1) 0
def lastBQ (b : Int) (r : Rq) : Int := if r.n = 0 then 0 else b

/-- The next one becomes active, if the block is at rest and anybody waits. -/
def nxBQ (r : Rq) : Rq := if r.ph = 0 ∧ r.n < r.A.length then ⟨r.A, r.n + 1, 1, r.kn⟩ else r
def okBQ (r : Rq) : Bool := decide (r.ph = 0 ∧ r.n < r.A.length)
def atBQ (b : Int) (r : Rq) : At := if r.ph = 0 ∧ r.n < r.A.length then ⟨b, r.A.getD r.n 0, r.n + 1⟩ else at0

def pshQ (r : Rq) (x : Int) : Rq := ⟨r.A ++ [x], r.n, r.ph, r.kn⟩
def dnQ (r : Rq) (s : Int) : Rq := if r.ph = 1 ∧ (r.n : Int) = s then ⟨r.A, r.n, 2, []⟩ else r
def okDQ (r : Rq) (s : Int) : Bool := decide (r.ph = 1 ∧ (r.n : Int) = s)
def allKQ (N : Nat) (kn : List Int) : Bool := (List.range N).all fun i => decide ((i : Int) ∈ kn)
def isEQ (r : Rq) (s : Int) : Bool := decide (r.ph = 2 ∧ (r.n : Int) = s)
/-- One more knows it: what is left ahead of the next one's turn. -/
def knQ (N : Nat) (r : Rq) (x : Int) : Rq := ⟨r.A, r.n, if allKQ N (r.kn ++ [x]) then 0 else 2, r.kn ++ [x]⟩
def nxKQ (N : Nat) (r : Rq) (s x : Int) : Rq := if isEQ r s then nxBQ (knQ N r x) else r
def okKQ (N : Nat) (r : Rq) (s x : Int) : Bool := isEQ r s && okBQ (knQ N r x)
def atKQ (N : Nat) (b : Int) (r : Rq) (s x : Int) : At := if isEQ r s then atBQ b (knQ N r x) else at0
def okCQ (r : Rq) : Bool := decide (r.ph = 1)
def atCQ (b : Int) (r : Rq) : At := if r.ph = 1 then ⟨b, lastNQ r, r.n⟩ else at0
def wtQ (r : Rq) : List Int := r.A.drop r.n

def getQ (L : List Rq) (x : Int) : Rq := (L[x.toNat]?).getD rq0
theorem getQ_at {L : List Rq} {j : Nat} (h : j < L.length) : getQ L j = L[j] := by simp [getQ, h]

/-- Of all blocks. -/
def nxAsk (N : Nat) (L : List Rq) (x y : Int) : List Rq := if hasQ L.length x && hasQ N y then L.set x.toNat (nxBQ (pshQ (getQ L x) y)) else L
def okAsk (N : Nat) (L : List Rq) (x y : Int) : Bool := hasQ L.length x && hasQ N y && okBQ (pshQ (getQ L x) y)
def atAsk (N : Nat) (L : List Rq) (x y : Int) : At := if hasQ L.length x && hasQ N y then atBQ x (pshQ (getQ L x) y) else at0
def nxDone (L : List Rq) (x s : Int) : List Rq := if hasQ L.length x then L.set x.toNat (dnQ (getQ L x) s) else L
def okDone (L : List Rq) (x s : Int) : Bool := hasQ L.length x && okDQ (getQ L x) s
def nxAck (N : Nat) (L : List Rq) (x s y : Int) : List Rq := if hasQ L.length x && hasQ N y then L.set x.toNat (nxKQ N (getQ L x) s y) else L
def okAck (N : Nat) (L : List Rq) (x s y : Int) : Bool := hasQ L.length x && hasQ N y && okKQ N (getQ L x) s y
def atAck (N : Nat) (L : List Rq) (x s y : Int) : At := if hasQ L.length x && hasQ N y then atKQ N x (getQ L x) s y else at0
def okCur (L : List Rq) (x : Int) : Bool := hasQ L.length x && okCQ (getQ L x)
def atCur (L : List Rq) (x : Int) : At := if hasQ L.length x then atCQ x (getQ L x) else at0
def wtsQ (L : List Rq) (x : Int) : List Int := if hasQ L.length x then wtQ (getQ L x) else []

/-- What is so of a block's requests between two calls. -/
structure RInv (N M : Nat) (r : Rq) : Prop where
  al : r.A.length ≤ M
  kl : r.kn.length ≤ M
  le : r.n ≤ r.A.length
  ph : r.ph = 0 ∨ r.ph = 1 ∨ r.ph = 2
  rest : r.ph = 0 → r.n = r.A.length
  on : r.ph ≠ 0 → 1 ≤ r.n
  ks : ∀ k ∈ r.kn, 0 ≤ k ∧ k < N

theorem RInv.mono {N M M' : Nat} {r : Rq} (h : RInv N M r) (hM : M ≤ M') : RInv N M' r := ⟨Nat.le_trans h.al hM, Nat.le_trans h.kl hM, h.le, h.ph, h.rest, h.on, h.ks⟩
theorem rinv0 (N M : Nat) : RInv N M rq0 := ⟨Nat.zero_le _, Nat.zero_le _, Nat.le_refl _, .inl rfl, fun _ => rfl, fun h => absurd rfl h, fun _ h => by simp at h⟩

/-- Ahead of the next one's turn: at most one waits at a block at rest. -/
structure RPre (N M : Nat) (r : Rq) : Prop where
  al : r.A.length ≤ M
  kl : r.kn.length ≤ M
  le : r.n ≤ r.A.length
  ph : r.ph = 0 ∨ r.ph = 1 ∨ r.ph = 2
  on : r.ph ≠ 0 → 1 ≤ r.n
  ks : ∀ k ∈ r.kn, 0 ≤ k ∧ k < N

theorem RPre.next {N M : Nat} {r : Rq} (h : RPre N M r) : RPre N M (nxBQ r) := by
  unfold nxBQ
  split
  · rename_i c
    exact ⟨h.al, h.kl, c.2, .inr (.inl rfl), fun _ => by show 1 ≤ r.n + 1; omega, h.ks⟩
  · exact h
theorem RPre.inv {N M : Nat} {r : Rq} (h : RPre N M r) (hr : r.ph = 0 → r.n = r.A.length) : RInv N M r := ⟨h.al, h.kl, h.le, h.ph, hr, h.on, h.ks⟩
theorem RInv.pre {N M : Nat} {r : Rq} (h : RInv N M r) : RPre N M r := ⟨h.al, h.kl, h.le, h.ph, h.on, h.ks⟩
theorem RPre.nextInv {N M : Nat} {r : Rq} (h : RPre N M r) : RInv N M (nxBQ r) := by
  refine h.next.inv fun e => ?_
  unfold nxBQ at e ⊢
  split
  · rename_i c; rw [if_pos c] at e; cases e
  · rename_i c
    rw [if_neg c] at e
    have := h.le
    omega
theorem RInv.psh {N M : Nat} {r : Rq} (h : RInv N M r) (x : Int) : RPre N (M + 1) (pshQ r x) :=
  ⟨by simp [pshQ]; exact h.al, Nat.le_succ_of_le h.kl, by have := h.le; simp [pshQ]; omega, h.ph, h.on, h.ks⟩
theorem RInv.ask {N M : Nat} {r : Rq} (h : RInv N M r) (x : Int) : RInv N (M + 1) (nxBQ (pshQ r x)) := (h.psh x).nextInv
theorem RInv.done {N M : Nat} {r : Rq} (h : RInv N M r) (s : Int) : RInv N M (dnQ r s) := by
  unfold dnQ
  split
  · rename_i c
    exact ⟨h.al, Nat.zero_le _, h.le, .inr (.inr rfl), fun e => (by cases e), fun _ => h.on (by rw [c.1]; decide), fun _ hk => by simp at hk⟩
  · exact h
theorem RInv.kn {N M : Nat} {r : Rq} (h : RInv N M r) (hp : r.ph = 2) {x : Int} (hx : 0 ≤ x ∧ x < N) : RPre N (M + 1) (knQ N r x) :=
  ⟨Nat.le_succ_of_le h.al, by simp [knQ]; exact h.kl, h.le, by simp only [knQ]; split <;> simp, fun _ => h.on (by rw [hp]; decide), fun k hk => by
    simp only [knQ, List.mem_append, List.mem_singleton] at hk
    rcases hk with hk | rfl
    · exact h.ks k hk
    · exact hx⟩
theorem RInv.ack {N M : Nat} {r : Rq} (h : RInv N M r) (s : Int) {x : Int} (hx : 0 ≤ x ∧ x < N) : RInv N (M + 1) (nxKQ N r s x) := by
  unfold nxKQ isEQ
  split
  · rename_i c
    exact (h.kn (decide_eq_true_iff.1 c).1 hx).nextInv
  · exact h.mono (Nat.le_succ M)

/-- Of all blocks. -/
def LInv (N M : Nat) (L : List Rq) : Prop := ∀ r ∈ L, RInv N M r
theorem LInv.mono {N M M' : Nat} {L : List Rq} (h : LInv N M L) (hM : M ≤ M') : LInv N M' L := fun r hr => (h r hr).mono hM
theorem LInv.get {N M : Nat} {L : List Rq} (h : LInv N M L) {j : Nat} (hj : j < L.length) : RInv N M L[j] := h _ (List.getElem_mem hj)
theorem LInv.set {N M : Nat} {L : List Rq} (h : LInv N M L) (j : Nat) {r : Rq} (hr : RInv N M r) : LInv N M (L.set j r) := fun q hq => by
  rcases List.mem_or_eq_of_mem_set hq with hq | rfl
  · exact h q hq
  · exact hr
theorem linv_rep (N M k : Nat) : LInv N M (List.replicate k rq0) := fun r hr => by obtain rfl := List.eq_of_mem_replicate hr; exact rinv0 N M
theorem LInv.ask {N M : Nat} {L : List Rq} (h : LInv N M L) (x y : Int) : LInv N (M + 1) (nxAsk N L x y) := by
  unfold nxAsk
  split
  · rename_i c
    simp only [Bool.and_eq_true] at c
    obtain ⟨j, rfl, hj⟩ := hasQ_iff.1 c.1
    rw [getQ_at hj]
    exact (h.mono (Nat.le_succ M)).set _ ((h.get hj).ask y)
  · exact h.mono (Nat.le_succ M)
theorem LInv.done {N M : Nat} {L : List Rq} (h : LInv N M L) (x s : Int) : LInv N M (nxDone L x s) := by
  unfold nxDone
  split
  · rename_i c
    obtain ⟨j, rfl, hj⟩ := hasQ_iff.1 c
    rw [getQ_at hj]
    exact h.set _ ((h.get hj).done s)
  · exact h
theorem LInv.ack {N M : Nat} {L : List Rq} (h : LInv N M L) (x s y : Int) : LInv N (M + 1) (nxAck N L x s y) := by
  unfold nxAck
  split
  · rename_i c
    simp only [Bool.and_eq_true] at c
    obtain ⟨j, rfl, hj⟩ := hasQ_iff.1 c.1
    obtain ⟨i, rfl, hi⟩ := hasQ_iff.1 c.2
    rw [getQ_at hj]
    exact (h.mono (Nat.le_succ M)).set _ ((h.get hj).ack s (by omega))
  · exact h.mono (Nat.le_succ M)

theorem allKQ_iff {N : Nat} {kn : List Int} : allKQ N kn = true ↔ ∀ i : Nat, i < N → (i : Int) ∈ kn := by
  unfold allKQ
  rw [List.all_eq_true]
  simp
end Go.Proofs.Ytlfdahcbkdiifaa
