/- layer 16: MapBase, put together. -/
import Derived.Test.YtmgjgeaigdiadaaDoorRows
import Derived.Test.YtmgjgeaigdiadaaDoorB04
import Derived.Maps.RangeWalk
import Derived.Maps.OwnSet
import Derived.Maps.Ext
import Derived.Deep.Upon
namespace Go.Proofs.YtmgjgeaigdiadaaDoor
open Go.ChangeShapes Go.WideShapes Go.ChangeAt Go.RowKit
set_option linter.unusedSimpArgs false
set_option linter.unusedVariables false
set_option maxRecDepth 10000
attribute [local go_sem, local simp] over_const setCell_drewN alloc_drewN Over.cell Over.frozen lt_s1 lt_s2 lt_s3 le_s0 le_s1 le_s2 le_s3 eq_s0 eq_s1 eq_s2 qe_s0
open Go.Maps (Keyed)
def heldR (v : Value) : Option (DataW Value × List MemPlace) := some (.held v, [])
theorem law : Keyed Tryd.prog 3 := Maps.int_keyed Tryd.underlying3
theorem ownsMap_carry {H : Type} {w w' : World} {P : Program} {t : TypeId} {R : Value → Option (DataW H × List MemPlace)} {b n : Nat} {D : DataW H} (h : w.ownsMap P t R b n D) (e : w'.heap[b]? = w.heap[b]?) : w'.ownsMap P t R b n D := by
  obtain ⟨es, clock, hb, F, hs, hD⟩ := h
  exact ⟨es, clock, e.trans hb, F, hs, hD⟩
theorem ownsMap_size {H : Type} {w : World} {P : Program} {t : TypeId} {R : Value → Option (DataW H × List MemPlace)} {b n : Nat} {D : DataW H} (h : w.ownsMap P t R b n D) {n' : Nat} (hn : Maps.size D ≤ n') : w.ownsMap P t R b n' D := by
  obtain ⟨es, clock, hb, F, hs, rfl⟩ := h
  refine ⟨es, clock, hb, F, ?_, rfl⟩
  rwa [Maps.size_eq, length_read] at hn
theorem key_wfI {x : Int} (h : I64 x) : (Lit.int .i64 x).wf = true := WalkArith.wf_i64 (by unfold I64 at h; omega)
theorem size_in : ∀ (K : List Int) (es : List (Lit × DataW Value)), es.Pairwise (fun p q => p.1 ≠ q.1) → (∀ p ∈ es, ∃ k ∈ K, p.1 = .int .i64 k) → es.length ≤ K.length
  | [], es, _, h => by
    cases es with
    | nil => simp
    | cons x r => obtain ⟨k, hk, _⟩ := h x (by simp); cases hk
  | a :: K, es, hp, h => by
    have h1 := size_in K (es.filter fun p => !p.1.sameKey (.int .i64 a)) (hp.filter _) (fun p hp' => by
      have h2 := List.mem_filter.1 hp'
      obtain ⟨k, hk, e⟩ := h p h2.1
      refine ⟨k, ?_, e⟩
      rcases List.mem_cons.1 hk with rfl | hk
      · exfalso
        have := h2.2
        rw [e, WideAt.sameKey_self (a := Lit.int .i64 k) trivial] at this
        simp at this
      · exact hk)
    have h2 := Maps.length_strike (k := .int .i64 a) es hp
    simp only [List.length_cons]
    split at h2 <;> omega
def MpIs (w : World) (m : Nat) (z : Value) (K : List Int) (f : Int → Value) : Prop :=
  ∃ D, w.ownsMap Tryd.prog 3 heldR m 2000 D ∧ (∀ kl, Maps.has D kl = true ↔ ∃ k ∈ K, kl = .int .i64 k) ∧ ∀ k, D.atKey (.int .i64 k) (.held z) = .held (f k)
def updV (f : Int → Value) (x : Int) (v : Value) : Int → Value := fun k => if k = x then v else f k
theorem updV_same (f : Int → Value) (x : Int) (v : Value) : updV f x v x = v := if_pos rfl
theorem updV_other (f : Int → Value) {x k : Int} (v : Value) (h : k ≠ x) : updV f x v k = f k := if_neg h
theorem MpIs.lt {w : World} {m : Nat} {z : Value} {K : List Int} {f : Int → Value} (h : MpIs w m z K f) : m < w.heap.size := by
  obtain ⟨D, h, _⟩ := h
  exact h.lt
theorem MpIs.carry {w w' : World} {m : Nat} {z : Value} {K : List Int} {f : Int → Value} (h : MpIs w m z K f) (e : w'.heap[m]? = w.heap[m]?) : MpIs w' m z K f := by
  obtain ⟨D, h1, h2, h3⟩ := h
  exact ⟨D, ownsMap_carry h1 e, h2, h3⟩
theorem MpIs.alike {w : World} {m : Nat} {z : Value} {K K' : List Int} {f g : Int → Value} (h : MpIs w m z K f) (hK : ∀ k, k ∈ K' ↔ k ∈ K) (hf : ∀ k, g k = f k) : MpIs w m z K' g := by
  obtain ⟨D, h1, h2, h3⟩ := h
  refine ⟨D, h1, fun kl => (h2 kl).trans ?_, fun k => by rw [hf]; exact h3 k⟩
  constructor
  · rintro ⟨k, h4, h5⟩; exact ⟨k, (hK k).2 h4, h5⟩
  · rintro ⟨k, h4, h5⟩; exact ⟨k, (hK k).1 h4, h5⟩
theorem MpIs.look {w : World} {m : Nat} {z : Value} {K : List Int} {f : Int → Value} (h : MpIs w m z K f) {t e : TypeId} (ht : Tryd.prog.underlying t = some (.map 3 e)) (hz : ∀ w, (zeroValue e).run Tryd.prog w = .ok z w) {x : Int} (hx : I64 x) :
    ∀ w', w'.heap[m]? = w.heap[m]? → (Instr.lookup t (.map (some m)) (.int .i64 x) false).run Tryd.prog w' = .ok (f x) w' := by
  intro w' e'
  obtain ⟨D, h1, h2, h3⟩ := h
  obtain ⟨u, ps, hrun, hu⟩ := (ownsMap_carry h1 e').lookup law ht (hz w') (zd := .held z) (zp := []) rfl (Maps.keyOf_int_mk Tryd.underlying3 (key_wfI hx))
  rw [h3 x] at hu
  simp [heldR] at hu
  rw [hrun, hu.1]
theorem MpIs.lookOk {w : World} {m : Nat} {z : Value} {K : List Int} {f : Int → Value} (h : MpIs w m z K f) {t e : TypeId} (ht : Tryd.prog.underlying t = some (.map 3 e)) (hz : ∀ w, (zeroValue e).run Tryd.prog w = .ok z w) {x : Int} (hx : I64 x) (o : Bool) (ho : o = true ↔ x ∈ K) :
    ∀ w', w'.heap[m]? = w.heap[m]? → (Instr.lookup t (.map (some m)) (.int .i64 x) true).run Tryd.prog w' = .ok (.tuple #[f x, .bool o]) w' := by
  intro w' e'
  obtain ⟨D, h1, h2, h3⟩ := h
  obtain ⟨u, ps, hrun, hu⟩ := (ownsMap_carry h1 e').look_ok law ht (hz w') (zd := .held z) (zp := []) rfl (Maps.keyOf_int_mk Tryd.underlying3 (key_wfI hx))
  rw [h3 x] at hu
  simp [heldR] at hu
  have e2 : Maps.has D (.int .i64 x) = o := by
    have h4 := h2 (.int .i64 x)
    rw [Bool.eq_iff_iff, h4, ho]
    constructor
    · rintro ⟨k, h5, h6⟩; cases h6; exact h5
    · intro h5; exact ⟨x, h5, rfl⟩
  rw [hrun, hu.1, e2]
theorem mp_new {w : World} {m : Nat} (z : Value) (h : w.ownsMap Tryd.prog 3 heldR m 0 (.map [])) : MpIs w m z [] (fun _ => z) :=
  ⟨.map [], h.mono (by omega), fun kl => by simp [Maps.has], fun k => by simp [DataW.atKey]⟩
theorem mp_put {w : World} {m : Nat} {z : Value} {K : List Int} {f : Int → Value} (h : MpIs w m z K f) {t e : TypeId} (ht : Tryd.prog.underlying t = some (.map 3 e)) {x : Int} (hx : I64 x) (v : Value) {K' : List Int} (hK : ∀ k, k ∈ K' ↔ k = x ∨ k ∈ K) (hl : K'.length ≤ 2000) :
    ∃ w2, (Instr.mapUpdate t (.map (some m)) (.int .i64 x) v).run Tryd.prog w = .ok () w2 ∧ MpIs w2 m z K' (updV f x v) ∧ FrS (· = m) w w2 := by
  obtain ⟨D, h1, h2, h3⟩ := h
  obtain ⟨w2, hrun, hown2, hgr⟩ := h1.update law ht (by decide) (Maps.keyOf_int_mk Tryd.underlying3 (key_wfI hx)) (val := v) (d := .held v) (ps := []) rfl
  have hT := h1.tidy law
  have hkeys : ∀ kl, Maps.has (D.put (.int .i64 x) (.held v)) kl = true ↔ ∃ k ∈ K', kl = .int .i64 k := by
    intro kl
    by_cases c : kl = .int .i64 x
    · subst c
      rw [Maps.has_put_same (k := Lit.int .i64 x) h1.isMap trivial]
      simp only [true_iff]
      exact ⟨x, (hK x).2 (.inl rfl), rfl⟩
    · rw [Maps.has_put_other c, h2]
      constructor
      · rintro ⟨k, h4, h5⟩; exact ⟨k, (hK k).2 (.inr h4), h5⟩
      · rintro ⟨k, h4, h5⟩
        rcases (hK k).1 h4 with rfl | h4
        · exact absurd h5 c
        · exact ⟨k, h4, h5⟩
  have hsz : Maps.size (D.put (.int .i64 x) (.held v)) ≤ 2000 := by
    obtain ⟨es, e, hp⟩ := hT.put (k := .int .i64 x) trivial (.held v)
    have hlit : ∀ p ∈ es, WideAt.IsKeyLit p.1 := by
      obtain ⟨es', e', _, h3⟩ := hown2.entries law
      rw [e] at e'
      cases e'
      exact h3
    rw [e, Maps.size_eq]
    refine Nat.le_trans (size_in K' es hp (fun p hp' => ?_)) hl
    exact (hkeys p.1).1 (by rw [e, Maps.has_eq]; exact List.any_eq_true.2 ⟨p, hp', WideAt.sameKey_self (hlit p hp')⟩)
  refine ⟨w2, hrun, ⟨_, ownsMap_size hown2 hsz, hkeys, fun k => ?_⟩, FrS.grown hgr⟩
  by_cases c : k = x
  · subst c
    rw [updV_same]
    exact Maps.atKey_put_same (k := Lit.int .i64 k) h1.isMap trivial _ _
  · rw [updV_other f v c]
    exact (Maps.atKey_put_other (fun e => c (by cases e; rfl)) _ _).trans (h3 k)
theorem mp_del {w : World} {m : Nat} {z : Value} {K : List Int} {f : Int → Value} (h : MpIs w m z K f) {t e : TypeId} (ht : Tryd.prog.underlying t = some (.map 3 e)) {x : Int} (hx : I64 x) {K' : List Int} (hK : ∀ k, k ∈ K' ↔ k ∈ K ∧ k ≠ x) (ty : TypeId) :
    ∃ w2, (Builtin.delete_ #[t, 3] ty #[.map (some m), .int .i64 x]).run Tryd.prog w = .ok (.tuple #[]) w2 ∧ MpIs w2 m z K' (updV f x z) ∧ FrS (· = m) w w2 := by
  obtain ⟨D, h1, h2, h3⟩ := h
  obtain ⟨w2, hrun, hown2, hgr⟩ := h1.drop law ht (Maps.keyOf_int_mk Tryd.underlying3 (key_wfI hx)) ty
  refine ⟨w2, hrun, ⟨_, hown2, fun kl => ?_, fun k => ?_⟩, FrS.grown hgr.grown⟩
  · by_cases c : kl = .int .i64 x
    · subst c
      rw [Maps.has_del_same]
      simp only [Bool.false_eq_true, false_iff]
      rintro ⟨k, h4, h5⟩
      cases h5
      exact ((hK x).1 h4).2 rfl
    · rw [Maps.has_del_other c, h2]
      constructor
      · rintro ⟨k, h4, h5⟩; exact ⟨k, (hK k).2 ⟨h4, fun e => c (by rw [h5, e])⟩, h5⟩
      · rintro ⟨k, h4, h5⟩; exact ⟨k, ((hK k).1 h4).1, h5⟩
  · by_cases c : k = x
    · subst c
      rw [updV_same]
      exact Maps.atKey_del_same (k := Lit.int .i64 k) _
    · rw [updV_other f z c]
      exact (Maps.atKey_del_other (fun e => c (by cases e; rfl)) _).trans (h3 k)
end Go.Proofs.YtmgjgeaigdiadaaDoor
