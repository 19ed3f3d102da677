/- layer 16: Hand Hand2 Hand3, put together. -/
import Derived.Test.YtmgjgeaigdiadaaDoorB04
import Derived.Deep.RegionHeld3
namespace Go.Proofs.YtmgjgeaigdiadaaDoor
section
variable {P : Program} {ops : Array Oper} {Q : Exit → Act → World → Prop} {md : Region.Mode} {S : World → Prop}
theorem hand_skip {i : Nat} {d : Option Tmp} {fuel : Nat} {listed : Array Bool} {a : Act} {w : World} (hi : ((ops[i]?).map fun o => (o.dst, Region.wanted o (yielded ops a.tmps))) = some (d, false))
    (hs : Region.noSelect ops = true) (hf : Region.free md ops listed i = true) (hr : (Region.ready md ops listed).contains i = true) (hQ : ∀ c a w, Q (.panic c) (a.put d undef) w → Q (.panic c) a w) (hS : S w)
    (h : wpAnyH P md ops Q S fuel (listed.setIfInBounds i true) (a.put d undef) w) : wpAnyH P md ops Q S (fuel + 1) listed a w := by
  cases e : ops[i]? with
  | none => simp [e] at hi
  | some o =>
    simp [e] at hi
    obtain ⟨rfl, hw⟩ := hi
    exact wpAnyH_take e hs hf hr hQ (.inr ⟨hw, rfl⟩) hS h
theorem hand_take {i : Nat} {d : Option Tmp} {v : Value} {fuel : Nat} {listed : Array Bool} {a : Act} {w : World} (hi : ((ops[i]?).map fun o => (o.dst, Region.wanted o (yielded ops a.tmps))) = some (d, true))
    (hs : Region.noSelect ops = true) (hf : Region.free md ops listed i = true) (hr : (Region.ready md ops listed).contains i = true) (hQ : ∀ c a w, Q (.panic c) (a.put d v) w → Q (.panic c) a w)
    (hy : ∀ o, ops[i]? = some o → ∀ w, S w → (execOp a.eval o).run P w = .ok (.value v) w) (hS : S w)
    (h : wpAnyH P md ops Q S fuel (listed.setIfInBounds i true) (a.put d v) w) : wpAnyH P md ops Q S (fuel + 1) listed a w := by
  cases e : ops[i]? with
  | none => simp [e] at hi
  | some o =>
    simp [e] at hi
    obtain ⟨rfl, hw⟩ := hi
    exact wpAnyH_take e hs hf hr hQ (.inl ⟨hw, hy o e⟩) hS h
theorem hand_call {i : Nat} {fuel : Nat} {listed : Array Bool} {a : Act} {w : World} (hi : ((ops[i]?).map fun o => Region.wanted o (yielded ops a.tmps)) = some true) (hr : Region.ready md ops listed = [i])
    (h : ∀ o, ops[i]? = some o → ∀ K' : Act → World → Prop, Shut (∀ a w, S w → (S w → wpAnyH P md ops Q S fuel (listed.setIfInBounds i true) a w) → K' a w) → Oper.wp P o a w K' Q) : wpAnyH P md ops Q S (fuel + 1) listed a w := by
  cases e : ops[i]? with
  | none => simp [e] at hi
  | some o =>
    simp [e] at hi
    refine wpAnyH_ready hr (by simp) (AllReadyH.cons e (fun K hK => ?_) AllReadyH.nil)
    rw [if_pos hi]
    exact h o e K hK
theorem hand_two {i j : Nat} {fuel : Nat} {listed : Array Bool} {a : Act} {w : World} (hi : ((ops[i]?).map fun o => Region.wanted o (yielded ops a.tmps)) = some true) (hj : ((ops[j]?).map fun o => Region.wanted o (yielded ops a.tmps)) = some true) (hr : Region.ready md ops listed = [i, j])
    (h : ∀ o, ops[i]? = some o → ∀ K' : Act → World → Prop, Shut (∀ a w, S w → (S w → wpAnyH P md ops Q S fuel (listed.setIfInBounds i true) a w) → K' a w) → Oper.wp P o a w K' Q)
    (h' : ∀ o, ops[j]? = some o → ∀ K' : Act → World → Prop, Shut (∀ a w, S w → (S w → wpAnyH P md ops Q S fuel (listed.setIfInBounds j true) a w) → K' a w) → Oper.wp P o a w K' Q) : wpAnyH P md ops Q S (fuel + 1) listed a w := by
  cases e : ops[i]? with
  | none => simp [e] at hi
  | some o =>
    cases e' : ops[j]? with
    | none => simp [e'] at hj
    | some o' =>
      simp [e] at hi
      simp [e'] at hj
      refine wpAnyH_ready hr (by simp) (AllReadyH.cons e (fun K hK => ?_) (AllReadyH.cons e' (fun K hK => ?_) AllReadyH.nil))
      · rw [if_pos hi]
        exact h o e K hK
      · rw [if_pos hj]
        exact h' o' e' K hK
end
theorem za {α : Type} {x : List α} {i : Nat} {v : α} : x.toArray.setIfInBounds i v = (x.set i v).toArray := by simp
theorem zb {α : Type} {x y : α} {l : List α} : (x :: l).set 0 y = y :: l := rfl
theorem zc {α : Type} {x y : α} {l : List α} {n : Nat} : (x :: l).set (n + 1) y = x :: l.set n y := rfl
section
variable {P : Program} {ops : Array Oper} {Q : Exit → Act → World → Prop} {md : Region.Mode} {S : World → Prop} {fuel : Nat} {listed l' : Array Bool} {a a' : Act} {w : World} {v : Value} {o o' : Oper}
theorem hTk (i d : Nat) (hS : S w) (h : wpAnyH P md ops Q S fuel l' a' w) (ho : ops[i]? = some o := by rfl) (hy : ∀ w, S w → (execOp a.eval o).run P w = .ok (.value v) w := by intro wz hSw; (try dsimp only at hSw); go_simp; (try with_reducible rfl))
    (hd : o.dst = some d := by rfl) (hw : Region.wanted o (yielded ops a.tmps) = true := by kernel_rfl) (hs : Region.noSelect ops = true := by kernel_rfl) (hf : Region.free md ops listed i = true := by kernel_rfl) (hr : (Region.ready md ops listed).contains i = true := by kernel_rfl)
    (hQ : ∀ c a w, Q (.panic c) (a.put (some d) v) w → Q (.panic c) a w := by exact fun _ _ _ h => h) (hl : listed.setIfInBounds i true = l' := by (try simp only [za, zb, zc]); rfl) (ha : a.put (some d) v = a' := by (try simp only [Act.put, za, zb, zc]); rfl) : wpAnyH P md ops Q S (fuel + 1) listed a w := by
  subst hl ha
  exact hand_take (i := i) (d := some d) (v := v) (by rw [ho]; simp [hw, hd]) hs hf hr hQ (fun o' ho' w hw' => by rw [ho] at ho'; cases ho'; exact hy w hw') hS h
theorem hVl (i d : Nat) (v : Value) (hS : S w) (hy : ∀ w, S w → (execOp a.eval o).run P w = .ok (.value v) w) (h : wpAnyH P md ops Q S fuel l' a' w) (ho : ops[i]? = some o := by rfl)
    (hd : o.dst = some d := by rfl) (hw : Region.wanted o (yielded ops a.tmps) = true := by kernel_rfl) (hs : Region.noSelect ops = true := by kernel_rfl) (hf : Region.free md ops listed i = true := by kernel_rfl) (hr : (Region.ready md ops listed).contains i = true := by kernel_rfl)
    (hQ : ∀ c a w, Q (.panic c) (a.put (some d) v) w → Q (.panic c) a w := by exact fun _ _ _ h => h) (hl : listed.setIfInBounds i true = l' := by (try simp only [za, zb, zc]); rfl) (ha : a.put (some d) v = a' := by (try simp only [Act.put, za, zb, zc]); rfl) : wpAnyH P md ops Q S (fuel + 1) listed a w :=
  hTk i d hS h ho hy hd hw hs hf hr hQ hl ha
theorem hSk (i d : Nat) (hS : S w) (h : wpAnyH P md ops Q S fuel l' a' w) (ho : ((ops[i]?).map fun o => (o.dst, Region.wanted o (yielded ops a.tmps))) = some (some d, false) := by rfl) (hs : Region.noSelect ops = true := by kernel_rfl) (hf : Region.free md ops listed i = true := by kernel_rfl)
    (hr : (Region.ready md ops listed).contains i = true := by kernel_rfl) (hQ : ∀ c a w, Q (.panic c) (a.put (some d) undef) w → Q (.panic c) a w := by exact fun _ _ _ h => h) (hl : listed.setIfInBounds i true = l' := by (try simp only [za, zb, zc]); rfl) (ha : a.put (some d) undef = a' := by (try simp only [Act.put, za, zb, zc]); rfl) :
    wpAnyH P md ops Q S (fuel + 1) listed a w := by
  subst hl ha
  exact hand_skip ho hs hf hr hQ hS h
theorem hNo (i : Nat) (h : ∀ K' : Act → World → Prop, Shut (∀ a w, S w → (S w → wpAnyH P md ops Q S fuel l' a w) → K' a w) → Oper.wp P o a w K' Q) (ho : ops[i]? = some o := by simp; rfl) (hw : Region.wanted o (yielded ops a.tmps) = true := by kernel_rfl) (hr : Region.ready md ops listed = [i] := by kernel_rfl)
    (hl : listed.setIfInBounds i true = l' := by (try simp only [za, zb, zc]); rfl) : wpAnyH P md ops Q S (fuel + 1) listed a w := by
  subst hl
  exact hand_call (i := i) (by rw [ho]; simp [hw]) hr fun o' ho' => by rw [ho] at ho'; cases ho'; exact h
theorem hTwo {l1 l2 : Array Bool} (i j : Nat) (h : ∀ K' : Act → World → Prop, Shut (∀ a w, S w → (S w → wpAnyH P md ops Q S fuel l1 a w) → K' a w) → Oper.wp P o a w K' Q) (h' : ∀ K' : Act → World → Prop, Shut (∀ a w, S w → (S w → wpAnyH P md ops Q S fuel l2 a w) → K' a w) → Oper.wp P o' a w K' Q)
    (ho : ops[i]? = some o := by simp; rfl) (ho' : ops[j]? = some o' := by simp; rfl) (hw : Region.wanted o (yielded ops a.tmps) = true := by kernel_rfl) (hw' : Region.wanted o' (yielded ops a.tmps) = true := by kernel_rfl) (hr : Region.ready md ops listed = [i, j] := by kernel_rfl)
    (hl : listed.setIfInBounds i true = l1 := by (try simp only [za, zb, zc]); rfl) (hl' : listed.setIfInBounds j true = l2 := by (try simp only [za, zb, zc]); rfl) : wpAnyH P md ops Q S (fuel + 1) listed a w := by
  subst hl hl'
  exact hand_two (i := i) (j := j) (by rw [ho]; simp [hw]) (by rw [ho']; simp [hw']) hr (fun o2 h2 => by rw [ho] at h2; cases h2; exact h) (fun o2 h2 => by rw [ho'] at h2; cases h2; exact h')
end
section
variable {P : Program} {w w2 : World} {o : Oper} {a : Act} {Q : Exit → Act → World → Prop} {K : Act → World → Prop}
theorem wp_look {t : TypeId} {mv kv v : Value} (m x : Operand) (ho : o.op = Op.lookup t m x false) (hm : a.eval m = mv) (hx : a.eval x = kv) (hr : (Instr.lookup t mv kv false).run P w = .ok v w) (h : K (a.put o.dst v) w) : o.wp P a w K Q := by
  unfold Oper.wp
  simp [execOp, ho, hm, hx, hr, Result.andThen]
  exact h
theorem wp_upd {t : TypeId} {mv kv vv : Value} (m x v : Operand) (ho : o.op = Op.mapUpdate t m x v) (hm : a.eval m = mv) (hx : a.eval x = kv) (hv : a.eval v = vv) (hr : (Instr.mapUpdate t mv kv vv).run P w = .ok () w2) (h : K (a.put o.dst undef) w2) : o.wp P a w K Q := by
  unfold Oper.wp
  simp [execOp, ho, hm, hx, hv, hr, Result.andThen]
  exact h
end
def wpAnyL (P : Program) (md : Region.Mode) (ops : Array Oper) (Q : Exit → Act → World → Prop) (S : World → Prop) (L : Nat) : Nat → Array Bool → Act → World → Prop
  | 0, listed, a, w => Region.ready md ops listed = [] ∧ Q .normal a w
  | n + 1, listed, a, w => (Region.ready md ops listed = [] → Q .normal a w) ∧
    ∀ i ∈ Region.ready md ops listed, wpOp P ops Q i (fun a' w' => (i ≠ L → S w') ∧ wpAnyL P md ops Q S L n (listed.setIfInBounds i true) a' w') a w
def waits (md : Region.Mode) (ops : Array Oper) (L i : Nat) : Bool :=
  match ops[L]? with
  | some o => o.after.any fun e => Region.binds md e && e.on == i
  | none => false
section
variable {P : Program} {ops : Array Oper} {Q : Exit → Act → World → Prop} {md : Region.Mode} {S : World → Prop} {L : Nat}
theorem any_of_last : ∀ (n : Nat) (listed : Array Bool) (a : Act) (w : World), wpAnyL P md ops Q S L n listed a w → wpAny P md ops Q n listed a w
  | 0, _, _, _, h => h
  | n + 1, _, _, _, h => ⟨h.1, fun i hi => wpOp_mono (fun a' w' h' => any_of_last n _ a' w' h'.2) (h.2 i hi)⟩
theorem not_ready {listed : Array Bool} {i j : Nat} (hr : i ∈ Region.ready md ops listed) (hw : waits md ops j i = true) : ¬ j ∈ Region.ready md ops listed := by
  intro hj
  obtain ⟨_, oj, hoj, hall⟩ := mem_ready.1 hj
  unfold waits at hw
  rw [hoj] at hw
  obtain ⟨e, he, hb⟩ := Array.any_eq_true'.1 hw
  simp only [Bool.and_eq_true, beq_iff_eq] at hb
  have h1 := hall e he hb.1
  have h0 := (mem_ready.1 hr).1
  rw [hb.2] at h1
  rcases Nat.lt_or_ge i listed.size with h' | h'
  · simp [h'] at h0 h1
    rw [h0] at h1
    cases h1
  · simp [Array.getElem?_eq_none h'] at h1
theorem last_first {i : Nat} {oi : Oper} {v : Value} (hi : ops[i]? = some oi) (hsel : ∀ (j : Nat) (o : Oper) cs b, ops[j]? = some o → o.op ≠ .select cs b) (hQ : ∀ c a w, Q (.panic c) (a.put oi.dst v) w → Q (.panic c) a w) (hw : waits md ops L i = true) :
    ∀ (n : Nat) (listed : Array Bool) (a : Act) (w : World),
      (∀ j oj, ops[j]? = some oj → j ≠ i → listed.getD j true = false → (∀ e ∈ oj.after, Region.binds md e = true → e.on ≠ i) → oi.apart ops oj = true) →
      i ∈ Region.ready md ops listed → YieldsIf P ops S oi v a → S w →
      wpAnyL P md ops Q S L n (listed.setIfInBounds i true) (a.put oi.dst v) w → wpAnyL P md ops Q S L (n + 1) listed a w := by
  intro n
  induction n with
  | zero =>
    intro listed a w _ hr hy hS H
    refine ⟨fun h => (by rw [h] at hr; cases hr), fun j hj => ?_⟩
    by_cases c : j = i
    · subst c; exact hy.wpOp hi hS ⟨fun _ => hS, H⟩
    · have := ready_mono hj c
      rw [H.1] at this
      cases this
  | succ n ih =>
    intro listed a w hfree hr hy hS H
    refine ⟨fun h => (by rw [h] at hr; cases hr), fun j hj => ?_⟩
    by_cases c : j = i
    · subst c; exact hy.wpOp hi hS ⟨fun _ => hS, H⟩
    · have hjL : j ≠ L := fun e => not_ready hr hw (e ▸ hj)
      have h1 := H.2 j (ready_mono hj c)
      obtain ⟨hjun, oj, hoj, hall⟩ := mem_ready.1 hj
      have hnot : ∀ e ∈ oj.after, Region.binds md e = true → e.on ≠ i := fun e he hb heq => by
        refine not_ready hr (j := j) ?_ hj
        unfold waits
        rw [hoj]
        exact Array.any_eq_true'.2 ⟨e, he, by simp [hb, heq]⟩
      have h2 := wpOp_putIf hoj (hfree j oj hoj c hjun hnot) (fun cs b => hsel i oi cs b hi) (fun cs b => hsel j oj cs b hoj) hQ hy h1
      have hfree' : ∀ k ok, ops[k]? = some ok → k ≠ i → (listed.setIfInBounds j true).getD k true = false → (∀ e ∈ ok.after, Region.binds md e = true → e.on ≠ i) → oi.apart ops ok = true := fun k ok hk hki hun hno => by
        refine hfree k ok hk hki ?_ hno
        by_cases d : j = k
        · subst d; exact hjun
        · rw [getD_set_ne true d] at hun; exact hun
      refine wpOp_mono (fun a' w' h3 => ⟨h3.2.1, ih (listed.setIfInBounds j true) a' w' hfree' (ready_mono hr (Ne.symm c)) h3.1 (h3.2.1 hjL) ?_⟩) h2
      rw [Array.setIfInBounds_comm _ _ c]
      exact h3.2.2
theorem last_begin {id : Nat} {a : Act} {w : World} (L : Nat) (S : World → Prop) (hm : P.follows .mixedOrders = true) (hS : S w.drew) (h : S w.drew → wpAnyL P .any ops Q S L ops.size (Array.replicate ops.size false) a w.drew) : (Code.region id ops true).wp P Q a w :=
  wp_region_any hm (any_of_last _ _ _ _ (h hS))
theorem last_take {i : Nat} {d : Option Tmp} {v : Value} {fuel : Nat} {listed : Array Bool} {a : Act} {w : World} (hi : ((ops[i]?).map fun o => (o.dst, Region.wanted o (yielded ops a.tmps))) = some (d, true)) (hw : waits md ops L i = true)
    (hs : Region.noSelect ops = true) (hf : Region.free md ops listed i = true) (hr : (Region.ready md ops listed).contains i = true) (hQ : ∀ c a w, Q (.panic c) (a.put d v) w → Q (.panic c) a w)
    (hy : ∀ o, ops[i]? = some o → ∀ w, S w → (execOp a.eval o).run P w = .ok (.value v) w) (hS : S w)
    (h : wpAnyL P md ops Q S L fuel (listed.setIfInBounds i true) (a.put d v) w) : wpAnyL P md ops Q S L (fuel + 1) listed a w := by
  cases e : ops[i]? with
  | none => simp [e] at hi
  | some o =>
    simp [e] at hi
    obtain ⟨rfl, hwt⟩ := hi
    exact last_first e (Region.noSelect_spec hs) hQ hw fuel listed a w (Region.free_spec e hf) (by simpa using hr) (.inl ⟨hwt, hy o e⟩) hS h
theorem last_skip {i : Nat} {d : Option Tmp} {fuel : Nat} {listed : Array Bool} {a : Act} {w : World} (hi : ((ops[i]?).map fun o => (o.dst, Region.wanted o (yielded ops a.tmps))) = some (d, false)) (hw : waits md ops L i = true)
    (hs : Region.noSelect ops = true) (hf : Region.free md ops listed i = true) (hr : (Region.ready md ops listed).contains i = true) (hQ : ∀ c a w, Q (.panic c) (a.put d undef) w → Q (.panic c) a w) (hS : S w)
    (h : wpAnyL P md ops Q S L fuel (listed.setIfInBounds i true) (a.put d undef) w) : wpAnyL P md ops Q S L (fuel + 1) listed a w := by
  cases e : ops[i]? with
  | none => simp [e] at hi
  | some o =>
    simp [e] at hi
    obtain ⟨rfl, hwt⟩ := hi
    exact last_first e (Region.noSelect_spec hs) hQ hw fuel listed a w (Region.free_spec e hf) (by simpa using hr) (.inr ⟨hwt, rfl⟩) hS h
theorem wpOp_wanted {i : Nat} {K : Act → World → Prop} {a : Act} {w : World} {o : Oper} (e : ops[i]? = some o) (hi : Region.wanted o (yielded ops a.tmps) = true) (h : Oper.wp P o a w K Q) : wpOp P ops Q i K a w := by
  unfold wpOp
  simp only [e, hi, if_true]
  exact .inl h
theorem last_call {i : Nat} {fuel : Nat} {listed : Array Bool} {a : Act} {w : World} (hi : ((ops[i]?).map fun o => Region.wanted o (yielded ops a.tmps)) = some true) (hr : Region.ready md ops listed = [i])
    (h : ∀ o, ops[i]? = some o → ∀ K' : Act → World → Prop, Shut (∀ a w, (i ≠ L → S w) → ((i ≠ L → S w) → wpAnyL P md ops Q S L fuel (listed.setIfInBounds i true) a w) → K' a w) → Oper.wp P o a w K' Q) : wpAnyL P md ops Q S L (fuel + 1) listed a w := by
  cases e : ops[i]? with
  | none => simp [e] at hi
  | some o =>
    simp [e] at hi
    refine ⟨fun h0 => (by rw [hr] at h0; cases h0), fun j hj => ?_⟩
    rw [hr] at hj
    obtain rfl : j = i := by simpa using hj
    exact wpOp_wanted e hi (h o e _ (fun a w hS hK => ⟨hS, hK hS⟩))
theorem last_done {listed : Array Bool} {a : Act} {w : World} (hr : Region.ready md ops listed = []) (h : Q .normal a w) : ∀ fuel, wpAnyL P md ops Q S L fuel listed a w
  | 0 => ⟨hr, h⟩
  | n + 1 => ⟨fun _ => h, fun i hi => by rw [hr] at hi; cases hi⟩
end
section
variable {P : Program} {ops : Array Oper} {Q : Exit → Act → World → Prop} {md : Region.Mode} {S : World → Prop} {L fuel : Nat} {listed l' : Array Bool} {a a' : Act} {w : World} {v : Value} {o : Oper}
theorem lTk (i d : Nat) (hS : S w) (h : wpAnyL P md ops Q S L fuel l' a' w) (ho : ops[i]? = some o := by rfl) (hy : ∀ w, S w → (execOp a.eval o).run P w = .ok (.value v) w := by intro wz hSw; (try dsimp only at hSw); go_simp; (try with_reducible rfl))
    (hd : o.dst = some d := by rfl) (hw : Region.wanted o (yielded ops a.tmps) = true := by kernel_rfl) (hL : waits md ops L i = true := by kernel_rfl) (hs : Region.noSelect ops = true := by kernel_rfl) (hf : Region.free md ops listed i = true := by kernel_rfl) (hr : (Region.ready md ops listed).contains i = true := by kernel_rfl)
    (hQ : ∀ c a w, Q (.panic c) (a.put (some d) v) w → Q (.panic c) a w := by exact fun _ _ _ h => h) (hl : listed.setIfInBounds i true = l' := by (try simp only [za, zb, zc]); rfl) (ha : a.put (some d) v = a' := by (try simp only [Act.put, za, zb, zc]); rfl) : wpAnyL P md ops Q S L (fuel + 1) listed a w := by
  subst hl ha
  exact last_take (i := i) (d := some d) (v := v) (by rw [ho]; simp [hw, hd]) hL hs hf hr hQ (fun o' ho' w hw' => by rw [ho] at ho'; cases ho'; exact hy w hw') hS h
theorem lVl (i d : Nat) (v : Value) (hS : S w) (hy : ∀ w, S w → (execOp a.eval o).run P w = .ok (.value v) w) (h : wpAnyL P md ops Q S L fuel l' a' w) (ho : ops[i]? = some o := by rfl)
    (hd : o.dst = some d := by rfl) (hw : Region.wanted o (yielded ops a.tmps) = true := by kernel_rfl) (hL : waits md ops L i = true := by kernel_rfl) (hs : Region.noSelect ops = true := by kernel_rfl) (hf : Region.free md ops listed i = true := by kernel_rfl) (hr : (Region.ready md ops listed).contains i = true := by kernel_rfl)
    (hQ : ∀ c a w, Q (.panic c) (a.put (some d) v) w → Q (.panic c) a w := by exact fun _ _ _ h => h) (hl : listed.setIfInBounds i true = l' := by (try simp only [za, zb, zc]); rfl) (ha : a.put (some d) v = a' := by (try simp only [Act.put, za, zb, zc]); rfl) : wpAnyL P md ops Q S L (fuel + 1) listed a w :=
  lTk i d hS h ho hy hd hw hL hs hf hr hQ hl ha
theorem lNo (i : Nat) (h : ∀ K' : Act → World → Prop, Shut (∀ a w, (i ≠ L → S w) → ((i ≠ L → S w) → wpAnyL P md ops Q S L fuel l' a w) → K' a w) → Oper.wp P o a w K' Q) (ho : ops[i]? = some o := by simp; rfl) (hw : Region.wanted o (yielded ops a.tmps) = true := by kernel_rfl) (hr : Region.ready md ops listed = [i] := by kernel_rfl)
    (hl : listed.setIfInBounds i true = l' := by (try simp only [za, zb, zc]); rfl) : wpAnyL P md ops Q S L (fuel + 1) listed a w := by
  subst hl
  exact last_call (i := i) (by rw [ho]; simp [hw]) hr fun o' ho' => by rw [ho] at ho'; cases ho'; exact h
end
section
variable {P : Program} {ops : Array Oper} {Q : Exit → Act → World → Prop} {md : Region.Mode} {S : World → Prop} {L : Nat}
theorem last_two {i j : Nat} {fuel : Nat} {listed : Array Bool} {a : Act} {w : World} (hi : ((ops[i]?).map fun o => Region.wanted o (yielded ops a.tmps)) = some true) (hj : ((ops[j]?).map fun o => Region.wanted o (yielded ops a.tmps)) = some true) (hr : Region.ready md ops listed = [i, j])
    (h : ∀ o, ops[i]? = some o → ∀ K' : Act → World → Prop, Shut (∀ a w, (i ≠ L → S w) → ((i ≠ L → S w) → wpAnyL P md ops Q S L fuel (listed.setIfInBounds i true) a w) → K' a w) → Oper.wp P o a w K' Q)
    (h' : ∀ o, ops[j]? = some o → ∀ K' : Act → World → Prop, Shut (∀ a w, (j ≠ L → S w) → ((j ≠ L → S w) → wpAnyL P md ops Q S L fuel (listed.setIfInBounds j true) a w) → K' a w) → Oper.wp P o a w K' Q) : wpAnyL P md ops Q S L (fuel + 1) listed a w := by
  cases e : ops[i]? with
  | none => simp [e] at hi
  | some o =>
    cases e' : ops[j]? with
    | none => simp [e'] at hj
    | some o' =>
      simp [e] at hi
      simp [e'] at hj
      refine ⟨fun h0 => (by rw [hr] at h0; cases h0), fun k hk => ?_⟩
      rw [hr] at hk
      simp only [List.mem_cons, List.not_mem_nil, or_false] at hk
      rcases hk with rfl | rfl
      · exact wpOp_wanted e hi (h o e _ (fun a w hS hK => ⟨hS, hK hS⟩))
      · exact wpOp_wanted e' hj (h' o' e' _ (fun a w hS hK => ⟨hS, hK hS⟩))
end
section
variable {P : Program} {ops : Array Oper} {Q : Exit → Act → World → Prop} {md : Region.Mode} {S : World → Prop} {L fuel : Nat} {listed l1 l2 : Array Bool} {a : Act} {w : World} {o o' : Oper}
theorem lTwo (i j : Nat) (h : ∀ K' : Act → World → Prop, Shut (∀ a w, (i ≠ L → S w) → ((i ≠ L → S w) → wpAnyL P md ops Q S L fuel l1 a w) → K' a w) → Oper.wp P o a w K' Q) (h' : ∀ K' : Act → World → Prop, Shut (∀ a w, (j ≠ L → S w) → ((j ≠ L → S w) → wpAnyL P md ops Q S L fuel l2 a w) → K' a w) → Oper.wp P o' a w K' Q)
    (ho : ops[i]? = some o := by simp; rfl) (ho' : ops[j]? = some o' := by simp; rfl) (hw : Region.wanted o (yielded ops a.tmps) = true := by kernel_rfl) (hw' : Region.wanted o' (yielded ops a.tmps) = true := by kernel_rfl) (hr : Region.ready md ops listed = [i, j] := by kernel_rfl)
    (hl : listed.setIfInBounds i true = l1 := by (try simp only [za, zb, zc]); rfl) (hl' : listed.setIfInBounds j true = l2 := by (try simp only [za, zb, zc]); rfl) : wpAnyL P md ops Q S L (fuel + 1) listed a w := by
  subst hl hl'
  exact last_two (i := i) (j := j) (by rw [ho]; simp [hw]) (by rw [ho']; simp [hw']) hr (fun o2 h2 => by rw [ho] at h2; cases h2; exact h) (fun o2 h2 => by rw [ho'] at h2; cases h2; exact h')
end
end Go.Proofs.YtmgjgeaigdiadaaDoor
