/- The letters that Spread makes, as they lie: the contract in the form that its callers read. -/
import Derived.Test.YtipklaehhiffdaaDoorSpread
namespace Go.Proofs.YtipklaehhiffdaaDoor
open Go.ChangeShapes Go.WideShapes Go.ChangeAt Go.RowKit
set_option linter.unusedSimpArgs false
set_option linter.unusedVariables false

attribute [local go_sem, local simp] over_const setCell_drewN alloc_drewN Over.cell Over.frozen lt_s1 lt_s2 lt_s3 le_s0 le_s1 le_s2 le_s3 eq_s0 eq_s1 eq_s2 qe_s0

/-- A slice value of N letters, in memory from block base on. -/
def LetsAt (w : World) (base : Nat) (v : Value) (k a q s h : Int) (N : Nat) : Prop :=
  ∃ ao cap, v = .slice ao N cap ∧ N ≤ cap ∧ cap ≤ maxLen ∧
    (N = 0 ∨ ∃ g, ao = some ⟨g, 0, none⟩ ∧ base ≤ g ∧ g < w.heap.size ∧ ∀ i c, i < N → c < 11 → w.cell? ⟨g, i * 11 + c, none⟩ = (letC k a q s h i)[c]?)

theorem letsAt_of {w : World} {base : Nat} {v : Value} {k a q s h : Int} {N : Nat} (hown : w.ownsRow base 32 11 v N (letsC k a q s h N)) : LetsAt w base v k a q s h N := by
  rcases hown.2 with ⟨rfl, rfl⟩ | ⟨g, cap, cur, rfl, hg, hc, hle, hm, hs, ht⟩
  · exact ⟨_, _, rfl, Nat.le_refl _, Nat.zero_le _, .inl rfl⟩
  · refine ⟨_, _, rfl, hle, hm, ?_⟩
    by_cases e : N = 0
    · exact .inl e
    · refine .inr ⟨g, rfl, hg, ?_, fun i c hi hc => ?_⟩
      · exact (Array.getElem?_eq_some_iff.1 hc).1
      · rw [hown.cellAt _ (by omega)]
        exact letsC_at k a q s h hi hc

theorem spread_r (k a q s h m : Int) (w : World) (N : Nat) (hN : Hid ((min m 64).toNat = N)) :
    Calls Tryd.prog 16 #[.int .i64 k, .int .i64 a, .int .i64 q, .int .i64 s, .int .i64 h, .int .i64 m] w fun e w' =>
      ∃ v, e = .returned v ∧ LetsAt w' w.heap.size v k a q s h N ∧ Below w.heap.size w w' :=
  (spread_c k a q s h m w N hN).mono fun _ _ ⟨v, h1, h2, h3⟩ => ⟨v, h1, letsAt_of h2, h3⟩
end Go.Proofs.YtipklaehhiffdaaDoor
