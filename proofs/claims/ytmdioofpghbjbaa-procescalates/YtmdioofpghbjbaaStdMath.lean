/- How a timer of a first try stands behind i ticks: plain mathematics (layers 7, 14). -/
import Derived.Test.YtmdioofpghbjbaaTimMath
namespace Go.Proofs.Ytmdioofpghbjbaa
open Go.RowKit
/-- How a timer of a first try stands behind i ticks: tried again j times, l ticks left, or over. -/
def StandsAt (c : Int) (T : Nat) (i l t : Int) (o : Bool) (again : Int) : Prop :=
  (o = false ∧ ∃ j : Nat, j ≤ T ∧ t = j ∧ again = j ∧ 1 ≤ l ∧ l ≤ longZ c j ∧ i + l = 2 * longZ c j - c) ∨ (o = true ∧ l = 0 ∧ t = T ∧ again = T ∧ i = 2 * longZ c T - c)

/-- What a tick makes of it. -/
theorem stands_tick {c : Int} {T : Nat} {i l t again : Int} {o : Bool} (c1 : 1 ≤ c) (c2 : c ≤ 64) (hT : T ≤ 8) (h : StandsAt c T i l t o again) (hi : i < 2 * longZ c T - c) :
    o = false ∧ l ≤ 16384 ∧ 0 ≤ t ∧ 0 ≤ again ∧ again ≤ 8 ∧ ∃ r : Tk, tickT l t o c T = r ∧
      ((r.n = 0 ∧ r.o = false ∧ i + 1 < 2 * longZ c T - c ∧ StandsAt c T (i + 1) r.l r.t false again) ∨ (r.n = 1 ∧ r.o = false ∧ i + 1 < 2 * longZ c T - c ∧ StandsAt c T (i + 1) r.l r.t false (again + 1)) ∨
        (r.n = 2 ∧ r.o = true ∧ i + 1 = 2 * longZ c T - c ∧ StandsAt c T (i + 1) r.l r.t true again)) := by
  rcases h with ⟨rfl, j, hj, rfl, rfl, l1, l2, e⟩ | ⟨_, _, _, _, e⟩
  · have b := longZ_bd c j c1 c2 (by omega)
    have m := longZ_mono c (by omega) hj
    refine ⟨rfl, by omega, by omega, by omega, by omega, _, rfl, ?_⟩
    unfold tickT
    rw [if_neg (by simp)]
    by_cases k1 : 1 < l
    · rw [if_pos k1]
      exact .inl ⟨rfl, rfl, by omega, .inl ⟨rfl, j, hj, rfl, rfl, by dsimp only; omega, by dsimp only; omega, by dsimp only; omega⟩⟩
    · rw [if_neg k1]
      by_cases k2 : j < T
      · rw [if_pos (by omega), show ((j : Int) + 1) = ((j + 1 : Nat) : Int) by omega, longZ_double c (j + 1) c1 c2 (by omega)]
        have b' := longZ_bd c (j + 1) c1 c2 (by omega)
        have m' := longZ_mono c (by omega) (show j + 1 ≤ T by omega)
        have s := longZ_succ c j
        rw [show max (longZ c (j + 1)) 1 = longZ c (j + 1) by omega]
        exact .inr (.inl ⟨rfl, rfl, by omega, .inl ⟨rfl, j + 1, by omega, rfl, rfl, by dsimp only; omega, by dsimp only; omega, by dsimp only; omega⟩⟩)
      · rw [if_neg (by omega)]
        obtain rfl : j = T := by omega
        exact .inr (.inr ⟨rfl, rfl, by omega, .inr ⟨rfl, rfl, rfl, rfl, by omega⟩⟩)
  · omega

theorem stands_start {c : Int} {T : Nat} (c1 : 1 ≤ c) : StandsAt c T 0 c 0 false 0 :=
  .inl ⟨rfl, 0, by omega, rfl, rfl, c1, by rw [longZ_zero]; exact Int.le_refl _, by rw [longZ_zero]; omega⟩
end Go.Proofs.Ytmdioofpghbjbaa
