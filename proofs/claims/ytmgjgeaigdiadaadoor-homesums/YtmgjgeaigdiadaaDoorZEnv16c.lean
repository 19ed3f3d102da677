/- layer 16: Env16c, put together. -/
import Derived.Test.YtmgjgeaigdiadaaDoorB43
namespace Go.Proofs.YtmgjgeaigdiadaaDoor
open Go.ChangeShapes Go.WideShapes Go.ChangeAt Go.RowKit
set_option linter.unusedSimpArgs false
set_option linter.unusedVariables false
set_option maxRecDepth 10000
attribute [local go_sem, local simp] over_const setCell_drewN alloc_drewN Over.cell Over.frozen lt_s1 lt_s2 lt_s3 le_s0 le_s1 le_s2 le_s3 eq_s0 eq_s1 eq_s2 qe_s0
structure Hoz (w V : World) (p : Nat) (B : Bh) (F : Nat → Prop) (c : Cf) (N : Nat) (D : Hm) (K : List (Nat × Obj)) : Prop where
  a : Hone w V p B F c N D
  x : Bz w V (Fh p B F) K
theorem Hdz.one {w V : World} {p : Nat} {B : Bh} {F : Nat → Prop} {q : Nat} {Bq : Bd} {G : Nat → Prop} {c : Cf} {N : Nat} {D : Hm} {K : List (Nat × Obj)} (h : Hdz w V p B F q Bq G c N D K) : Hoz w V p B F c N D K :=
  ⟨h.d.a, fun x hx => by
    obtain ⟨q1, q2, q3, q4⟩ := h.x x hx
    exact ⟨q1, q2, fun e => q3 (.inl e), q4⟩⟩
section
variable {w V V' : World} {p : Nat} {B : Bh} {F F2 : Nat → Prop} {c : Cf} {N M : Nat} {D D2 : Hm} {K : List (Nat × Obj)}
theorem Hoz.below (h : Hoz w V p B F c N D K) (hb : Below V.heap.size V V') : Hoz w V' p B F c N D K := ⟨h.a.below hb, h.x.step (Step.of_below hb)⟩
theorem Hoz.new (h : Hoz w V p B F c N D K) (o : Obj) : Hoz w (V.alloc o) p B F c N D ((V.heap.size, o) :: K) := by
  have h2 := h.below (V' := V.alloc o) ((Below.refl _ _).alloc (Nat.le_refl _) _)
  refine ⟨h2.a, fun x hx => ?_⟩
  rcases List.mem_cons.1 hx with rfl | hx
  · exact ⟨h.a.bel.size, by simp, fun e => by have := h.a.n.lt _ e; omega, heap_alloc_new _ _⟩
  · exact h2.x x hx
theorem Hoz.step (h : Hoz w V p B F c N D K) (hn : HmIs V' p B F2 c M D2) (hs : Step (Fh p B F) (Fh p B F2) V V') : Hoz w V' p B F2 c M D2 K := ⟨h.a.step hn hs, h.x.step hs⟩
theorem Hoz.head {k : Nat} {cs : Array Value} {T : TypeId} (h : Hoz w V p B F c N D ((k, .cells cs T (0, 0)) :: K)) (hk : ∀ x ∈ K, x.1 ≠ k) (i : Nat) (u : Value) : Hoz w (V.setCell ⟨k, i, none⟩ u) p B F c N D ((k, .cells (cs.setIfInBounds i u) T (0, 0)) :: K) := by
  obtain ⟨h1, h2, h3, h4⟩ := h.x (k, .cells cs T (0, 0)) (by simp)
  have hf : FrS (· = k) V (V.setCell ⟨k, i, none⟩ u) := wrK (FrS.refl _ _) u
  refine ⟨h.a.frk hf h1 h3, fun x hx => ?_⟩
  rcases List.mem_cons.1 hx with rfl | hx
  · exact ⟨h1, by simpa using h2, h3, heap_setCell_same _ _ _ _ _ _ h4⟩
  · obtain ⟨q1, q2, q3, q4⟩ := h.x x (by simp [hx])
    exact ⟨q1, by simpa using q2, q3, (Below.heap_setCell _ _ _ _ (hk x hx)).trans q4⟩
theorem Hoz.frs {Fx : Nat → Prop} (h : Hoz w V p B F c N D K) (hf : FrS Fx V V') (h0 : ∀ i, Fx i → w.heap.size ≤ i) (hF : ∀ b, Fh p B F b → ¬ Fx b) (hK : ∀ x ∈ K, ¬ Fx x.1) : Hoz w V' p B F c N D K :=
  ⟨⟨h.a.n.fr hf hF, h.a.lo, h.a.bel.trans (hf.below h0 h.a.bel.size)⟩, fun x hx => by
    obtain ⟨q1, q2, q3, q4⟩ := h.x x hx
    exact ⟨q1, Nat.lt_of_lt_of_le q2 hf.size, q3, (hf.block _ q2 (hK x hx)).trans q4⟩⟩
theorem Hoz.sub {K' : List (Nat × Obj)} (h : Hoz w V p B F c N D K) (hK : ∀ x ∈ K', x ∈ K) : Hoz w V p B F c N D K' := ⟨h.a, fun x hx => h.x x (hK x hx)⟩
end
end Go.Proofs.YtmgjgeaigdiadaaDoor
