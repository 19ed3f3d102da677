/- More of tokens: the two parts of what is split. Nothing of the program. -/
import Derived.Test.YtipamgncalcaiaaBunMath
namespace Go.Proofs.Ytipamgncalcaiaa

theorem clampZ_in (n lo hi : Int) (h : lo ≤ hi) : lo ≤ clampZ n lo hi ∧ clampZ n lo hi ≤ hi := by unfold clampZ; (repeat' split) <;> omega

/-- What is given and what is left of tokens that may be: together they are what there was, but for the value. -/
theorem parts_math (n : Int) (o h : Bool) (d c : Int) (a v : Bool) (ok : okB ⟨n, o, h, d⟩) (r s : Bun) (hr : givenB ⟨n, o, h, d⟩ c a v = r) (hs : restB ⟨n, o, h, d⟩ c a = s) :
    0 ≤ r.n ∧ 0 ≤ s.n ∧ r.n + s.n = n ∧ okB r ∧ okB s ∧ (r.o = true → s.o = false ∧ o = true ∧ r.h = true ∧ r.d = d) ∧ (s.o = true → r.o = false ∧ o = true ∧ s.h = true ∧ s.d = d) ∧ (r.o = false → s.o = false → o = false)
      ∧ (joinB s r = ⟨n, o, h, d⟩ ∨ r.h = false ∧ s.h = false ∧ o = false ∧ joinB s r = ⟨n, false, false, 0⟩) ∧ (c < 1 → r = ⟨0, false, false, 0⟩) ∧ r.n ≤ max c 0 := by
  have hb := howMany_bd n o h d c a ok.1 (fun e => (ok.2.1 e).1)
  have hc : howManyZ ⟨n, o, h, d⟩ c a ≤ max c 0 := by
    unfold howManyZ clampZ
    have := ok.1
    (repeat' split) <;> simp_all <;> omega
  have hc0 : c < 1 → howManyZ ⟨n, o, h, d⟩ c a = 0 := by omega
  have hall : howManyZ ⟨n, o, h, d⟩ c a = n → o = true → a = false → n = 0 := by
    intro e e1 e2
    have hp := ok.1
    subst e1; subst e2
    unfold howManyZ at e
    simp at e
    have h0 := ok.2.1
    by_cases z : n = 0
    · exact z
    · have := clampZ_in (clampZ c 0 n) 0 (n - 1) (by simp at hp; omega)
      omega
  unfold givenB at hr
  unfold restB at hs
  obtain ⟨k0, k1, k2, k3⟩ := ok
  simp only at k0 k1 k2 k3
  generalize howManyZ ⟨n, o, h, d⟩ c a = g at *
  by_cases z : g = 0
  · subst z
    simp at hr hs
    subst hr hs
    refine ⟨by simp, k0, by simp, by simp [okB], ⟨k0, k1, k2, k3⟩, by simp, fun e => ⟨rfl, e, k2 e, rfl⟩, fun _ e => e, Or.inl ?_, fun _ => rfl, by simp; omega⟩
    cases h
    · have := k3 rfl
      cases o <;> simp [joinB, withV, this]
    · cases o <;> simp [joinB, withV]
  · have hn0 : n ≠ 0 := by omega
    simp only [if_neg z] at hr hs
    have hcc : ¬ c < 1 := fun e => z (hc0 e)
    clear hc0
    by_cases y : g = n
    · have hall' := hall y
      clear hall
      subst y
      simp only [if_true] at hs
      subst hr hs
      clear k1
      have k3' : h = false → d = 0 := k3
      cases o <;> cases h <;> cases a <;> cases v
      all_goals first | (exfalso; have := k2 rfl; contradiction) | (exfalso; exact hn0 (hall' rfl rfl)) | skip
      all_goals (try have k4 := k3' rfl); (try subst k4); clear k3 k3' k2 hall'
      all_goals simp [okB, joinB, withV, hcc, hn0]
      all_goals omega
    · simp only [if_neg y] at hs
      subst hr hs
      clear k1 hall
      have k3' : h = false → d = 0 := k3
      have y' : n - g ≠ 0 := by omega
      cases o <;> cases h <;> cases a <;> cases v
      all_goals first | (exfalso; have := k2 rfl; contradiction) | skip
      all_goals (try have k4 := k3' rfl); (try subst k4); clear k3 k3' k2
      all_goals simp [okB, joinB, withV, hcc, z, y']
      all_goals omega

theorem check_of_ok (b : Bun) (t : Int) (ok : okB b) (h : b.n ≤ t) : checkZ b t = 0 := by
  obtain ⟨k0, k1, k2, k3⟩ := ok
  unfold checkZ
  rw [if_neg (by omega), if_neg (by rintro ⟨e, f⟩; have := k1 e; simp_all), if_neg (by rintro ⟨e, f⟩; have := k2 e; simp_all), if_neg (by rintro ⟨e, f⟩; exact f (k3 e))]
end Go.Proofs.Ytipamgncalcaiaa
