/- layer 16: LaidFlat, put together. -/
import Derived.WalkKit
import Derived.ProofKit
import Derived.OpenShut
import Derived.LaidMore
import Derived.MakeChecks
import Derived.FnData
namespace Go.Proofs.YtmgjgeaigdiadaaDoor
open Go.ChangeShapes Go.WideShapes Go.ChangeAt Go.RowKit
def litAt {H : Type} (P : Program) : Nat → TypeId → Nat → DataW H → Option Value
  | 0, _, _, _ => none
  | f + 1, t, i, d =>
    match P.underlying t, d with
    | some .bool, .lit (.bool b) => if i = 0 then some (.bool b) else none
    | some (.int _), .lit (.int k n) => if i = 0 then some (.int k n) else none
    | some (.struct fs), .agg xs => (List.range fs.size).findSome? fun j => fs[j]?.bind fun fl => if fl.offset ≤ i ∧ i < fl.offset + P.cellsOf fl.type then xs[j]?.bind (litAt P f fl.type (i - fl.offset)) else none
    | some (.array n e), .agg xs => if i / P.cellsOf e < n then xs[i / P.cellsOf e]?.bind (litAt P f e (i - i / P.cellsOf e * P.cellsOf e)) else none
    | _, _ => none
theorem lit_of {H : Type} {enc : TypeId × Value → H} {P : Program} {w : World} {base : Nat} {spare : Nat → Bool} {held : Bool} (f : Nat) :
    ∀ (t : TypeId) (i fuel : Nat) (v : Value) (cs : List Value) (x : DataW H × List MemPlace), litAt P f t i x.1 = some v → DataW.trod enc P w base spare held fuel t cs = some x → cs[i]? = some v := by
  induction f with
  | zero => intro t i fuel v cs x h; simp [litAt] at h
  | succ f ih =>
    intro t i fuel v cs x h ht
    unfold litAt at h
    split at h
    · rename_i b hu hx
      obtain ⟨b', rfl, rfl⟩ := DataW.trod_bool hu ht
      simp at hx; subst hx
      split at h
      · rename_i hi; subst hi; simpa using h
      · simp at h
    · rename_i k0 k n hu hx
      obtain ⟨n', rfl, rfl, _⟩ := DataW.trod_int hu ht
      simp at hx; obtain ⟨rfl, rfl⟩ := hx
      split at h
      · rename_i hi; subst hi; simpa using h
      · simp at h
    · rename_i fs ds hu hx
      obtain ⟨xs, n, _, rfl, hl, hlen, hf⟩ := DataW.trod_struct hu ht
      obtain ⟨j, hj, hc⟩ := List.exists_of_findSome?_eq_some h
      obtain ⟨fl, hfl, hc⟩ := Option.bind_eq_some_iff.1 hc
      split at hc
      · rename_i hb
        obtain ⟨d, hd, hc⟩ := Option.bind_eq_some_iff.1 hc
        simp at hx
        subst hx
        rw [List.getElem?_map] at hd
        obtain ⟨y, hy, rfl⟩ := Option.map_eq_some_iff.1 hd
        have hv := ih _ _ _ _ _ _ hc ((hf j fl hfl).trans hy)
        rw [List.getElem?_take] at hv
        split at hv
        · rw [List.getElem?_drop, show fl.offset + (i - fl.offset) = i by omega] at hv
          exact hv
        · simp at hv
      · simp at hc
    · rename_i n e ds hu hx
      obtain ⟨xs, m, _, rfl, hl, hlen, hf⟩ := DataW.trod_array hu ht
      split at h
      · rename_i hi
        obtain ⟨d, hd, hc⟩ := Option.bind_eq_some_iff.1 h
        simp at hx
        subst hx
        rw [List.getElem?_map] at hd
        obtain ⟨y, hy, rfl⟩ := Option.map_eq_some_iff.1 hd
        have hv := ih _ _ _ _ _ _ hc ((hf _ hi).trans hy)
        rw [List.getElem?_take] at hv
        split at hv
        · rw [List.getElem?_drop, show i / P.cellsOf e * P.cellsOf e + (i - i / P.cellsOf e * P.cellsOf e) = i from Nat.add_sub_cancel' (Nat.div_mul_le_self _ _)] at hv
          exact hv
        · simp at hv
      · simp at h
    · simp at h
theorem laid_cells {P : Program} {W : World} {name : String} {d : DataW Unit} {rest : List (String × DataW Unit)} {g : Nat} {t : TypeId} (hg : P.globalNamed name = some g) (ht : (P.globals[g]?).map (·.type) = some t)
    (h : laidMet P ((name, d) :: rest) W) (L : List Value) (hL : (List.range L.length).map (fun i => litAt P 8 t i d) = L.map some) : ∀ (i : Nat) v, L[i]? = some v → W.cell? ⟨g, i, none⟩ = some v := by
  obtain ⟨ps, ⟨g0, t0, cs0, f0, p0, q0, hg0, ht0, hv0, hd0, _, _⟩, _, _⟩ := h
  obtain rfl := Option.some.inj (hg.symm.trans hg0)
  obtain rfl := Option.some.inj (ht.symm.trans ht0)
  intro i v hi
  have hlt : i < L.length := (List.getElem?_eq_some_iff.1 hi).1
  have hl := congrArg (fun l => l[i]?) hL
  simp only [List.getElem?_map, List.getElem?_range hlt, Option.map_some, hi] at hl
  have := lit_of 8 _ i _ v _ _ (Option.some.inj hl) hd0
  rw [World.var?_cell hg0 hv0 i]
  simpa using this
end Go.Proofs.YtmgjgeaigdiadaaDoor
