/- layer 16: Flat RowsOf, put together. -/
import Derived.WalkKit
import Derived.ProofKit
import Derived.OpenShut
import Derived.Deep.Slices
namespace Go.Proofs.YtmgjgeaigdiadaaDoor
open Go.ChangeShapes Go.WideShapes Go.ChangeAt Go.RowKit
def leafAt (P : Program) : Nat → TypeId → Nat → Option (Option IntKind)
  | 0, _, _ => none
  | f + 1, t, i =>
    match P.underlying t with
    | some .bool => if i = 0 then some none else none
    | some (.int k) => if i = 0 then some (some k) else none
    | some (.struct fs) => fs.toList.findSome? fun fl => if fl.offset ≤ i ∧ i < fl.offset + P.cellsOf fl.type then leafAt P f fl.type (i - fl.offset) else none
    | some (.array n e) => if i / P.cellsOf e < n then leafAt P f e (i - i / P.cellsOf e * P.cellsOf e) else none
    | _ => none
def leafOk : Option IntKind → Value → Prop
  | none, v => ∃ b, v = .bool b
  | some k, v => ∃ n, v = .int k n ∧ (Lit.int k n).wf = true
theorem leaf_of {H : Type} {enc : TypeId × Value → H} {P : Program} {w : World} {base : Nat} {spare : Nat → Bool} {held : Bool} (f : Nat) :
    ∀ (t : TypeId) (i fuel : Nat) (k : Option IntKind) (cs : List Value) (x : DataW H × List MemPlace), leafAt P f t i = some k → DataW.trod enc P w base spare held fuel t cs = some x → ∃ v, cs[i]? = some v ∧ leafOk k v := by
  induction f with
  | zero => intro t i fuel k cs x h; simp [leafAt] at h
  | succ f ih =>
    intro t i fuel k cs x h ht
    unfold leafAt at h
    split at h
    · rename_i hu
      obtain ⟨b, rfl, _⟩ := DataW.trod_bool hu ht
      split at h
      · rename_i hi; subst hi; simp at h; subst h; exact ⟨_, rfl, b, rfl⟩
      · simp at h
    · rename_i k' hu
      obtain ⟨n, rfl, _, hw⟩ := DataW.trod_int hu ht
      split at h
      · rename_i hi; subst hi; simp at h; subst h; exact ⟨_, rfl, n, rfl, hw⟩
      · simp at h
    · rename_i fs hu
      obtain ⟨xs, n, _, rfl, hl, hlen, hf⟩ := DataW.trod_struct hu ht
      obtain ⟨fl, hfl, hc⟩ := List.exists_of_findSome?_eq_some h
      obtain ⟨j, hj⟩ := List.getElem?_of_mem hfl
      have hj' : fs[j]? = some fl := by simpa using hj
      have hx := hf j fl hj'
      have hjl : j < xs.length := by
        rw [hlen]
        have := (Array.getElem?_eq_some_iff.1 hj').1
        exact this
      rw [List.getElem?_eq_getElem hjl] at hx
      split at hc
      · rename_i hb
        obtain ⟨v, hv, ho⟩ := ih _ _ _ _ _ _ hc hx
        refine ⟨v, ?_, ho⟩
        rw [List.getElem?_take] at hv
        split at hv
        · rw [List.getElem?_drop, show fl.offset + (i - fl.offset) = i by omega] at hv
          exact hv
        · simp at hv
      · simp at hc
    · rename_i n e hu
      obtain ⟨xs, m, _, rfl, hl, hlen, hf⟩ := DataW.trod_array hu ht
      split at h
      · rename_i hi
        have hx := hf _ hi
        rw [List.getElem?_eq_getElem (by rw [hlen]; exact hi)] at hx
        obtain ⟨v, hv, ho⟩ := ih _ _ _ _ _ _ h hx
        refine ⟨v, ?_, ho⟩
        rw [List.getElem?_take] at hv
        split at hv
        · rw [List.getElem?_drop, show i / P.cellsOf e * P.cellsOf e + (i - i / P.cellsOf e * P.cellsOf e) = i from Nat.add_sub_cancel' (Nat.div_mul_le_self _ _)] at hv
          exact hv
        · simp at hv
      · simp at h
    · simp at h
def allLeaf : List (Option IntKind) → List Value → Prop
  | [], [] => True
  | k :: ks, v :: vs => leafOk k v ∧ allLeaf ks vs
  | _, _ => False
theorem allLeaf_of (ks : List (Option IntKind)) : ∀ cs : List Value, cs.length = ks.length → (∀ (i : Nat) (k : Option IntKind), ks[i]? = some k → ∃ v, cs[i]? = some v ∧ leafOk k v) → allLeaf ks cs := by
  induction ks with
  | nil => intro cs hl _; cases cs with
    | nil => trivial
    | cons => simp at hl
  | cons k ks ih =>
    intro cs hl h
    cases cs with
    | nil => simp at hl
    | cons v vs =>
      refine ⟨?_, ih vs (by simpa using hl) fun i k' hk => by simpa using h (i + 1) k' (by simpa using hk)⟩
      obtain ⟨v', hv, ho⟩ := h 0 k rfl
      simp at hv; subst hv; exact ho
theorem allLeaf_int {k : IntKind} {ks : List (Option IntKind)} {cs : List Value} (h : allLeaf (some k :: ks) cs) : ∃ n vs, cs = .int k n :: vs ∧ (Lit.int k n).wf = true ∧ allLeaf ks vs := by
  cases cs with
  | nil => exact absurd h (by simp [allLeaf])
  | cons v vs => obtain ⟨⟨n, rfl, hw⟩, h2⟩ := h; exact ⟨n, vs, rfl, hw, h2⟩
theorem allLeaf_bool {ks : List (Option IntKind)} {cs : List Value} (h : allLeaf (none :: ks) cs) : ∃ b vs, cs = .bool b :: vs ∧ allLeaf ks vs := by
  cases cs with
  | nil => exact absurd h (by simp [allLeaf])
  | cons v vs => obtain ⟨⟨b, rfl⟩, h2⟩ := h; exact ⟨b, vs, rfl, h2⟩
theorem allLeaf_nil {cs : List Value} (h : allLeaf [] cs) : cs = [] := by
  cases cs with
  | nil => rfl
  | cons => exact absurd h (by simp [allLeaf])
def flatB (P : Program) (t : TypeId) (ks : List (Option IntKind)) : Bool :=
  decide (P.cellsOf t = ks.length) && (List.range ks.length).all fun i => decide (leafAt P 8 t i = ks[i]?)
theorem allLeaf_trod {H : Type} {enc : TypeId × Value → H} {P : Program} {w : World} {base : Nat} {spare : Nat → Bool} {held : Bool} {t : TypeId} {fuel : Nat} {cs : List Value} {x : DataW H × List MemPlace}
    (ks : List (Option IntKind)) (hk : flatB P t ks = true) (hl : cs.length = P.cellsOf t) (h : DataW.trod enc P w base spare held fuel t cs = some x) : allLeaf ks cs := by
  simp only [flatB, Bool.and_eq_true, decide_eq_true_eq, List.all_eq_true, List.mem_range] at hk
  refine allLeaf_of ks cs (hl.trans hk.1) fun i k hi => ?_
  have hlt : i < ks.length := (List.getElem?_eq_some_iff.1 hi).1
  exact leaf_of 8 t i fuel k cs x ((hk.2 i hlt).trans hi) h
theorem open_flat {H : Type} {enc : TypeId × Value → H} {P : Program} {w : World} {base b0 : Nat} {r : Reach} {spare : Nat → Bool} {held : Bool} {t : TypeId} {v : Value} {d : DataW H} {p : List MemPlace}
    (ks : List (Option IntKind)) (hk : flatB P t ks = true) (hs : (∃ fs, P.underlying t = some (.struct fs)) ∨ ∃ n e, P.underlying t = some (.array n e))
    (hv : Value.okWide P w r b0 t v) (h : DataW.Trod enc P w base spare held t v d p) : ∃ cs, v = .agg cs ∧ allLeaf ks cs.toList := by
  have hc : ∃ cs, v = .agg cs ∧ cs.size = P.cellsOf t := by
    rcases hs with ⟨fs, hs⟩ | ⟨n, e, hs⟩
    · exact okWide_struct hs hv
    · simp only [Value.okWide, hs] at hv
      obtain ⟨cs, h1, h2, _⟩ := hv
      exact ⟨cs, h1, h2⟩
  obtain ⟨cs, rfl, hsz⟩ := hc
  obtain ⟨fuel, hf⟩ := h
  exact ⟨cs, rfl, allLeaf_trod ks hk (by simpa [Value.cells] using hsz) hf⟩
theorem agg_of {cs : Array Value} {l : List Value} (h : cs.toList = l) : cs = l.toArray := by rw [← h]
theorem flatB_cells {P : Program} {e : TypeId} {ks : List (Option IntKind)} (hk : flatB P e ks = true) : P.cellsOf e = ks.length := by
  simp only [flatB, Bool.and_eq_true, decide_eq_true_eq] at hk
  exact hk.1
theorem open_rows {H : Type} {enc : TypeId × Value → H} {P : Program} {w : World} {base b0 : Nat} {r : Reach} {spare : Nat → Bool} {held : Bool} {t e : TypeId} {v : Value} {d : DataW H} {p : List MemPlace}
    (ks : List (Option IntKind)) (hk : flatB P e ks = true) (h0 : 0 < ks.length) (ht : P.underlying t = some (.slice e)) (hv : Value.okWide P w r b0 t v) (h : DataW.Trod enc P w base spare held t v d p) :
    ∃ (ao : Option Addr) (len cap : Nat), v = .slice ao len cap ∧ len ≤ cap ∧ cap ≤ maxLen ∧ (len = 0 ∨ ∃ (b off : Nat) (R : Nat → List Value), ao = some ⟨b, off, none⟩ ∧
      ∀ i, i < len → allLeaf ks (R i) ∧ ∀ j, j < ks.length → w.cell? ⟨b, off + i * ks.length + j, none⟩ = (R i)[j]?) := by
  have hc := flatB_cells hk
  obtain ⟨ao, len, cap, rfl⟩ := okWide_slice ht hv
  obtain ⟨fuel, hf⟩ := h
  rcases Go.Deep.open_slice ht hf with ⟨hcs, _⟩ | ⟨a, len', cap', m, n, D, Pl, hcs, _, hl, hm, hmm, _, hx⟩
  · simp [Value.cells] at hcs
    obtain ⟨rfl, rfl, rfl⟩ := hcs
    exact ⟨none, 0, 0, rfl, Nat.le_refl _, Nat.zero_le _, Or.inl rfl⟩
  · simp [Value.cells] at hcs
    obtain ⟨rfl, rfl, rfl⟩ := hcs
    refine ⟨some a, len, cap, rfl, hl, hm, ?_⟩
    by_cases hz : len = 0
    · exact Or.inl hz
    · right
      have hlm : len ≤ m := by rw [hmm]; split <;> omega
      have row : ∀ i, i < len → ∃ R : List Value, allLeaf ks R ∧ ∀ j, j < ks.length → w.cell? ((a.add (i * ks.length)).add j) = R[j]? := by
        intro i hi
        obtain ⟨cs', h1, h2⟩ := hx i (by omega)
        obtain ⟨_, h3, h4⟩ := World.cells?_some h1
        refine ⟨cs', allLeaf_trod ks hk h3 h2, fun j hj => ?_⟩
        rw [hc] at h4
        exact h4 j hj
      obtain ⟨R, hR⟩ := Go.Deep.choose_lt row
      obtain ⟨b, off, spot⟩ := a
      have hsp : spot = none := by
        obtain ⟨hal, h5⟩ := hR 0 (by omega)
        have h6 := h5 0 h0
        obtain ⟨v0, hv0⟩ : ∃ v0, (R 0)[0]? = some v0 := by
          cases ks with
          | nil => simp at h0
          | cons k ks' =>
            cases k with
            | none => obtain ⟨_, _, e1, _⟩ := allLeaf_bool hal; exact ⟨_, by rw [e1]; rfl⟩
            | some k => obtain ⟨_, _, e1, _⟩ := allLeaf_int hal; exact ⟨_, by rw [e1]; rfl⟩
        rw [hv0] at h6
        simpa [Addr.add] using World.cell?_spot h6
      subst hsp
      refine ⟨b, off, R, rfl, fun i hi => ⟨(hR i hi).1, fun j hj => ?_⟩⟩
      have := (hR i hi).2 j hj
      rw [Go.Deep.add_add, Go.WideShapes.add_plain, ← Nat.add_assoc] at this
      exact this
end Go.Proofs.YtmgjgeaigdiadaaDoor
