/- More of tokens: what Join and Split leave may be. Nothing of the program. -/
import Derived.Test.YtafccninjjhibaaBunMath2
namespace Go.Proofs.Ytafccninjjhibaa
abbrev bun0 : Bun := ⟨0, false, false, 0⟩
theorem okB_zero : okB bun0 := by simp [okB]
theorem ok_zero {b : Bun} (h : okB b) (hn : b.n = 0) : b = bun0 := by
  obtain ⟨n, o, e, d⟩ := b
  obtain ⟨h0, h1, h2, h3⟩ := h
  simp only at hn h0 h1 h2 h3
  obtain ⟨rfl, rfl⟩ := h1 hn
  rw [h3 rfl, hn]

theorem joinB_n (h b : Bun) : (joinB h b).n = h.n + b.n := by
  unfold joinB withV
  (repeat' split) <;> rfl
theorem joinB_o (h b : Bun) : (joinB h b).o = (h.o || b.o) := by
  unfold joinB withV
  (repeat' split) <;> rfl
theorem joinB_h (h b : Bun) : (joinB h b).h = (h.h || b.h) := by
  unfold joinB withV
  cases h.h <;> cases b.h <;> simp

theorem joinB_ok {h b : Bun} (h1 : okB h) (h2 : okB b) : okB (joinB h b) := by
  obtain ⟨n, o, e, d⟩ := h
  obtain ⟨n', o', e', d'⟩ := b
  obtain ⟨a0, a1, a2, a3⟩ := h1
  obtain ⟨b0, b1, b2, b3⟩ := h2
  simp only at a0 a1 a2 a3 b0 b1 b2 b3
  have z1 : n + n' = 0 → n = 0 := by omega
  have z2 : n + n' = 0 → n' = 0 := by omega
  refine ⟨by rw [joinB_n]; simp only; omega, ?_, ?_, ?_⟩
  · rw [joinB_n, joinB_o, joinB_h]
    intro e0
    simp only at e0 ⊢
    rw [(a1 (z1 e0)).1, (a1 (z1 e0)).2, (b1 (z2 e0)).1, (b1 (z2 e0)).2]
    simp
  · rw [joinB_o, joinB_h]
    intro e0
    simp only at e0 ⊢
    rcases Bool.or_eq_true_iff.1 e0 with e1 | e1
    · rw [a2 e1]; rfl
    · rw [b2 e1]; simp
  · rw [joinB_h]
    intro e0
    simp only at e0
    obtain ⟨e1, e2⟩ := Bool.or_eq_false_iff.1 e0
    subst e1 e2
    simp [joinB, withV]

theorem restB_ok {h : Bun} (k : okB h) (c : Int) (o : Bool) : okB (restB h c o) ∧ (restB h c o).n ≤ h.n := by
  obtain ⟨n, b, e, d⟩ := h
  have := parts_math n b e d c o false k _ _ rfl rfl
  exact ⟨this.2.2.2.2.1, by have := this.1; simp only; omega⟩

theorem restB_zero (c : Int) (o : Bool) : restB bun0 c o = bun0 :=
  ok_zero (restB_ok okB_zero c o).1 (by have h1 := (restB_ok okB_zero c o).1.1; have h2 := (restB_ok okB_zero c o).2; simp only at h2; omega)

end Go.Proofs.Ytafccninjjhibaa
