/- A region that draws its order, walked by hand: which operation is taken next is said in the text. Nothing of the program. -/
import Derived.Test.YtmdioofpghbjbaaOver
import Derived.Deep.RegionHeld3
namespace Go.Proofs.Ytmdioofpghbjbaa

section
variable {P : Program} {ops : Array Oper} {Q : Exit → Act → World → Prop} {md : Region.Mode} {S : World → Prop}

/-- An operation whose guard says no. -/
theorem hand_skip {i : Nat} {d : Option Tmp} {fuel : Nat} {listed : Array Bool} {a : Act} {w : World} (hi : ((ops[i]?).map fun o => (o.dst, Region.wanted o (yielded ops a.tmps))) = some (d, false))
    (hs : Region.noSelect ops = true) (hf : Region.free md ops listed i = true) (hr : (Region.ready md ops listed).contains i = true) (hQ : ∀ c a w, Q (.panic c) (a.put d undef) w → Q (.panic c) a w) (hS : S w)
    (h : wpAnyH P md ops Q S fuel (listed.setIfInBounds i true) (a.put d undef) w) : wpAnyH P md ops Q S (fuel + 1) listed a w := by
  cases e : ops[i]? with
  | none => simp [e] at hi
  | some o =>
    simp [e] at hi
    obtain ⟨rfl, hw⟩ := hi
    exact wpAnyH_take e hs hf hr hQ (.inr ⟨hw, rfl⟩) hS h

/-- One that yields its value in every world that meets S. -/
theorem hand_take {i : Nat} {d : Option Tmp} {v : Value} {fuel : Nat} {listed : Array Bool} {a : Act} {w : World} (hi : ((ops[i]?).map fun o => (o.dst, Region.wanted o (yielded ops a.tmps))) = some (d, true))
    (hs : Region.noSelect ops = true) (hf : Region.free md ops listed i = true) (hr : (Region.ready md ops listed).contains i = true) (hQ : ∀ c a w, Q (.panic c) (a.put d v) w → Q (.panic c) a w)
    (hy : ∀ o, ops[i]? = some o → ∀ w, S w → (execOp a.eval o).run P w = .ok (.value v) w) (hS : S w)
    (h : wpAnyH P md ops Q S fuel (listed.setIfInBounds i true) (a.put d v) w) : wpAnyH P md ops Q S (fuel + 1) listed a w := by
  cases e : ops[i]? with
  | none => simp [e] at hi
  | some o =>
    simp [e] at hi
    obtain ⟨rfl, hw⟩ := hi
    exact wpAnyH_take e hs hf hr hQ (.inl ⟨hw, hy o e⟩) hS h

/-- The one that comes up now. -/
theorem hand_call {i : Nat} {fuel : Nat} {listed : Array Bool} {a : Act} {w : World} (hi : ((ops[i]?).map fun o => Region.wanted o (yielded ops a.tmps)) = some true) (hr : Region.ready md ops listed = [i])
    (h : ∀ o, ops[i]? = some o → ∀ K' : Act → World → Prop, Shut (∀ a w, S w → (S w → wpAnyH P md ops Q S fuel (listed.setIfInBounds i true) a w) → K' a w) → Oper.wp P o a w K' Q) : wpAnyH P md ops Q S (fuel + 1) listed a w := by
  cases e : ops[i]? with
  | none => simp [e] at hi
  | some o =>
    simp [e] at hi
    refine wpAnyH_ready hr (by simp) (AllReadyH.cons e (fun K hK => ?_) AllReadyH.nil)
    rw [if_pos hi]
    exact h o e K hK

/-- Two may come up now. -/
theorem hand_two {i j : Nat} {fuel : Nat} {listed : Array Bool} {a : Act} {w : World} (hi : ((ops[i]?).map fun o => Region.wanted o (yielded ops a.tmps)) = some true) (hj : ((ops[j]?).map fun o => Region.wanted o (yielded ops a.tmps)) = some true) (hr : Region.ready md ops listed = [i, j])
    (h : ∀ o, ops[i]? = some o → ∀ K' : Act → World → Prop, Shut (∀ a w, S w → (S w → wpAnyH P md ops Q S fuel (listed.setIfInBounds i true) a w) → K' a w) → Oper.wp P o a w K' Q)
    (h' : ∀ o, ops[j]? = some o → ∀ K' : Act → World → Prop, Shut (∀ a w, S w → (S w → wpAnyH P md ops Q S fuel (listed.setIfInBounds j true) a w) → K' a w) → Oper.wp P o a w K' Q) : wpAnyH P md ops Q S (fuel + 1) listed a w := by
  cases e : ops[i]? with
  | none => simp [e] at hi
  | some o =>
    cases e' : ops[j]? with
    | none => simp [e'] at hj
    | some o' =>
      simp [e] at hi
      simp [e'] at hj
      refine wpAnyH_ready hr (by simp) (AllReadyH.cons e (fun K hK => ?_) (AllReadyH.cons e' (fun K hK => ?_) AllReadyH.nil))
      · rw [if_pos hi]
        exact h o e K hK
      · rw [if_pos hj]
        exact h' o' e' K hK
end

section
variable {P : Program} {w w2 : World} {o : Oper} {a : Act} {Q : Exit → Act → World → Prop} {K : Act → World → Prop}

/-- A look-up, by its run. -/
theorem wp_look {t : TypeId} {mv kv v : Value} (m x : Operand) (ho : o.op = Op.lookup t m x false) (hm : a.eval m = mv) (hx : a.eval x = kv) (hr : (Instr.lookup t mv kv false).run P w = .ok v w) (h : K (a.put o.dst v) w) : o.wp P a w K Q := by
  unfold Oper.wp
  simp [execOp, ho, hm, hx, hr, Result.andThen]
  exact h

/-- A store into a map, by its run. -/
theorem wp_upd {t : TypeId} {mv kv vv : Value} (m x v : Operand) (ho : o.op = Op.mapUpdate t m x v) (hm : a.eval m = mv) (hx : a.eval x = kv) (hv : a.eval v = vv) (hr : (Instr.mapUpdate t mv kv vv).run P w = .ok () w2) (h : K (a.put o.dst undef) w2) : o.wp P a w K Q := by
  unfold Oper.wp
  simp [execOp, ho, hm, hx, hv, hr, Result.andThen]
  exact h
end
end Go.Proofs.Ytmdioofpghbjbaa
