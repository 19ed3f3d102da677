/- Two operations of a region with a last one may come up now (beside Hand2). Nothing of the program. -/
import Derived.Test.YtlfdahcbkdiifaaHand2
namespace Go.Proofs.Ytlfdahcbkdiifaa
section
variable {P : Program} {ops : Array Oper} {Q : Exit → Act → World → Prop} {md : Region.Mode} {S : World → Prop} {L : Nat}
theorem last_two {i j : Nat} {fuel : Nat} {listed : Array Bool} {a : Act} {w : World} (hi : ((ops[i]?).map fun o => Region.wanted o (yielded ops a.tmps)) = some true) (hj : ((ops[j]?).map fun o => Region.wanted o (yielded ops a.tmps)) = some true) (hr : Region.ready md ops listed = [i, j])
    (h : ∀ o, ops[i]? = some o → ∀ K' : Act → World → Prop, Shut (∀ a w, (i ≠ L → S w) → ((i ≠ L → S w) → wpAnyL P md ops Q S L fuel (listed.setIfInBounds i true) a w) → K' a w) → Oper.wp P o a w K' Q)
    (h' : ∀ o, ops[j]? = some o → ∀ K' : Act → World → Prop, Shut (∀ a w, (j ≠ L → S w) → ((j ≠ L → S w) → wpAnyL P md ops Q S L fuel (listed.setIfInBounds j true) a w) → K' a w) → Oper.wp P o a w K' Q) : wpAnyL P md ops Q S L (fuel + 1) listed a w := by
  cases e : ops[i]? with
  | none => simp [e] at hi
  | some o =>
    cases e' : ops[j]? with
    | none => simp [e'] at hj
    | some o' =>
      simp [e] at hi
      simp [e'] at hj
      refine ⟨fun h0 => (by rw [hr] at h0; cases h0), fun k hk => ?_⟩
      rw [hr] at hk
      simp only [List.mem_cons, List.not_mem_nil, or_false] at hk
      rcases hk with rfl | rfl
      · exact wpOp_wanted e hi (h o e _ (fun a w hS hK => ⟨hS, hK hS⟩))
      · exact wpOp_wanted e' hj (h' o' e' _ (fun a w hS hK => ⟨hS, hK hS⟩))
end
end Go.Proofs.Ytlfdahcbkdiifaa
