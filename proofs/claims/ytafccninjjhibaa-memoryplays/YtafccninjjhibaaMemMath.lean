/- Plain mathematics of layer 10 (memory): the tokens at home, by blocks. Nothing of the program. -/
import Derived.Test.YtafccninjjhibaaBunMath3
import Derived.Test.YtafccninjjhibaaFrSet
namespace Go.Proofs.Ytafccninjjhibaa
open Go.RowKit

def hasM (L : List Bun) (x : Int) : Bool := decide (0 ≤ x) && decide (x < L.length)
def getM (L : List Bun) (x : Int) : Bun := if hasM L x = true then (L[x.toNat]?).getD bun0 else bun0
def putM (L : List Bun) (x : Int) (b : Bun) : List Bun := if hasM L x = true then L.set x.toNat (joinB (getM L x) b) else L
def takM (L : List Bun) (x c : Int) (o : Bool) : List Bun := if hasM L x = true then L.set x.toNat (restB (getM L x) c o) else L
def newM (s t : Int) : List Bun := List.replicate (clampZ s 0 64).toNat (fullB t 0)

theorem hasM_iff {L : List Bun} {x : Int} : hasM L x = true ↔ 0 ≤ x ∧ x < L.length := by simp [hasM]
theorem hasM_at {L : List Bun} {x : Int} (h : hasM L x = true) : ∃ j : Nat, x = j ∧ j < L.length := by
  obtain ⟨h0, h1⟩ := hasM_iff.1 h
  exact ⟨x.toNat, by omega, by omega⟩
theorem hasM_nat {L : List Bun} {j : Nat} (h : j < L.length) : hasM L j = true := hasM_iff.2 (by omega)
theorem getM_nat {L : List Bun} {j : Nat} (h : j < L.length) : getM L j = L[j] := by simp [getM, hasM_nat h, h]
theorem getM_out {L : List Bun} {x : Int} (h : hasM L x = false) : getM L x = bun0 := by simp [getM, h]
theorem putM_nat {L : List Bun} {j : Nat} (h : j < L.length) (b : Bun) : putM L j b = L.set j (joinB L[j] b) := by simp [putM, hasM_nat h, getM_nat h]
theorem takM_nat {L : List Bun} {j : Nat} (h : j < L.length) (c : Int) (o : Bool) : takM L j c o = L.set j (restB L[j] c o) := by simp [takM, hasM_nat h, getM_nat h]
theorem putM_out {L : List Bun} {x : Int} (h : hasM L x = false) (b : Bun) : putM L x b = L := by simp [putM, h]
theorem takM_out {L : List Bun} {x : Int} (h : hasM L x = false) (c : Int) (o : Bool) : takM L x c o = L := by simp [takM, h]
theorem putM_len (L : List Bun) (x : Int) (b : Bun) : (putM L x b).length = L.length := by unfold putM; split <;> simp
theorem takM_len (L : List Bun) (x c : Int) (o : Bool) : (takM L x c o).length = L.length := by unfold takM; split <;> simp
theorem newM_len (s t : Int) : ((newM s t).length : Int) = clampZ s 0 64 ∧ (newM s t).length ≤ 64 := by
  have : 0 ≤ clampZ s 0 64 ∧ clampZ s 0 64 ≤ 64 := clampZ_in s 0 64 (by decide)
  simp only [newM, List.length_replicate]
  omega

theorem fullB_ok (t : Int) : okB (fullB t 0) ∧ (fullB t 0).n ≤ max t 0 := by
  unfold fullB
  split
  · simp [okB]; omega
  · simp [okB]; omega

/-- Tokens that may be, at most N of a block. -/
structure MInv (N : Int) (L : List Bun) : Prop where
  len : L.length ≤ 64
  ok : ∀ b ∈ L, okB b ∧ b.n ≤ N

theorem MInv.mono {N M : Int} {L : List Bun} (h : MInv N L) (hN : N ≤ M) : MInv M L := ⟨h.len, fun b hb => ⟨(h.ok b hb).1, Int.le_trans (h.ok b hb).2 hN⟩⟩
theorem MInv.new (s t N : Int) (h : t ≤ N) (h0 : 0 ≤ N) : MInv N (newM s t) := ⟨(newM_len s t).2, fun b hb => by
  obtain rfl := List.eq_of_mem_replicate hb
  have := fullB_ok t
  exact ⟨this.1, by omega⟩⟩
theorem MInv.at' {N : Int} {L : List Bun} (h : MInv N L) {j : Nat} (hj : j < L.length) : okB L[j] ∧ L[j].n ≤ N := h.ok _ (List.getElem_mem hj)
theorem MInv.get {N : Int} {L : List Bun} (h : MInv N L) (h0 : 0 ≤ N) (x : Int) : okB (getM L x) ∧ (getM L x).n ≤ N := by
  by_cases c : hasM L x = true
  · obtain ⟨j, rfl, hj⟩ := hasM_at c
    rw [getM_nat hj]; exact h.at' hj
  · rw [getM_out (by simpa using c)]; exact ⟨okB_zero, h0⟩
theorem MInv.set {N : Int} {L : List Bun} (h : MInv N L) (j : Nat) {b : Bun} (hb : okB b ∧ b.n ≤ N) : MInv N (L.set j b) := ⟨by rw [List.length_set]; exact h.len, fun c hc => by
  rcases List.mem_or_eq_of_mem_set hc with h1 | rfl
  · exact h.ok c h1
  · exact hb⟩
theorem MInv.put {N K : Int} {L : List Bun} (h : MInv N L) (x : Int) {b : Bun} (hb : okB b) (hK : b.n ≤ K) : MInv (N + K) (putM L x b) := by
  have hn := hb.1
  have h' : MInv (N + K) L := h.mono (by omega)
  by_cases c : hasM L x = true
  · obtain ⟨j, rfl, hj⟩ := hasM_at c
    rw [putM_nat hj]
    have := h.at' hj
    exact h'.set j ⟨joinB_ok this.1 hb, by rw [joinB_n]; omega⟩
  · rw [putM_out (by simpa using c)]; exact h'
theorem MInv.tak {N : Int} {L : List Bun} (h : MInv N L) (x c : Int) (o : Bool) : MInv N (takM L x c o) := by
  by_cases e : hasM L x = true
  · obtain ⟨j, rfl, hj⟩ := hasM_at e
    rw [takM_nat hj]
    have := h.at' hj
    have h2 := restB_ok this.1 c o
    exact h.set j ⟨h2.1, by omega⟩
  · rw [takM_out (by simpa using e)]; exact h
theorem given_zero (c : Int) (o d : Bool) : givenB bun0 c o d = bun0 := by
  have h := parts_math 0 false false 0 c o d okB_zero (givenB bun0 c o d) (restB bun0 c o) rfl rfl
  exact ok_zero h.2.2.2.1 (by have h1 := h.1; have h2 := h.2.1; have h3 := h.2.2.1; omega)
end Go.Proofs.Ytafccninjjhibaa
