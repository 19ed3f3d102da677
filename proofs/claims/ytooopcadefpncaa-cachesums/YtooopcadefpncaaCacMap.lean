/- A cache in memory: a struct, its lines, its map of tokens (layer 9). -/
import Derived.Test.YtooopcadefpncaaLinI
import Derived.Test.YtooopcadefpncaaLnRow
namespace Go.Proofs.Ytooopcadefpncaa
open Go.ChangeShapes Go.WideShapes Go.ChangeAt Go.RowKit
set_option linter.unusedSimpArgs false
set_option linter.unusedVariables false
set_option maxRecDepth 10000

attribute [local go_sem, local simp] over_const setCell_drewN alloc_drewN Over.cell Over.frozen lt_s1 lt_s2 lt_s3 le_s0 le_s1 le_s2 le_s3 eq_s0 eq_s1 eq_s2 qe_s0

open Go.Maps (Keyed)

abbrev bunV (x : Bun) : Value := .agg #[.int .i64 x.n, .bool x.o, .bool x.h, .int .i64 x.d]
abbrev zeroBV : Value := .agg #[.int .i64 0, .bool false, .bool false, .int .i64 0]

theorem zeroBE (w : World) : (zeroValue 31).run Try.prog w = .ok zeroBV w := by kernel_rfl

def I64 (x : Int) : Prop := -9223372036854775808 ≤ x ∧ x ≤ 9223372036854775807

theorem key_wfI {x : Int} (h : I64 x) : (Lit.int .i64 x).wf = true := WalkArith.wf_i64 (by unfold I64 at h; omega)

/-- Few keys, few entries. -/
theorem size_in : ∀ (K : List Int) (es : List (Lit × DataW Value)), es.Pairwise (fun p q => p.1 ≠ q.1) → (∀ p ∈ es, ∃ k ∈ K, p.1 = .int .i64 k) → es.length ≤ K.length
  | [], es, _, h => by
    cases es with
    | nil => simp
    | cons x r => obtain ⟨k, hk, _⟩ := h x (by simp); cases hk
  | a :: K, es, hp, h => by
    have h1 := size_in K (es.filter fun p => !p.1.sameKey (.int .i64 a)) (hp.filter _) (fun p hp' => by
      have h2 := List.mem_filter.1 hp'
      obtain ⟨k, hk, e⟩ := h p h2.1
      refine ⟨k, ?_, e⟩
      rcases List.mem_cons.1 hk with rfl | hk
      · exfalso
        have := h2.2
        rw [e, WideAt.sameKey_self (a := Lit.int .i64 k) trivial] at this
        simp at this
      · exact hk)
    have h2 := Maps.length_strike (k := .int .i64 a) es hp
    simp only [List.length_cons]
    split at h2 <;> omega

/-- The tokens by their blocks: a map in block t, whose keys are among K. -/
structure TkIs (w : World) (t : Nat) (K : List Int) (T : Int → Bun) (D : DataW Value) : Prop where
  own : w.ownsMap Try.prog 3 heldR t 2000 D
  keys : ∀ kl, Maps.has D kl = true → ∃ k ∈ K, kl = .int .i64 k
  val : ∀ k, D.atKey (.int .i64 k) (.held zeroBV) = .held (bunV (T k))

theorem TkIs.carry {w w' : World} {t : Nat} {K : List Int} {T : Int → Bun} {D : DataW Value} (h : TkIs w t K T D) (e : w'.heap[t]? = w.heap[t]?) : TkIs w' t K T D := ⟨ownsMap_carry h.own e, h.keys, h.val⟩

theorem TkIs.mono {w : World} {t : Nat} {K K' : List Int} {T : Int → Bun} {D : DataW Value} (h : TkIs w t K T D) (hk : ∀ x ∈ K, x ∈ K') : TkIs w t K' T D := ⟨h.own, fun kl h1 => by obtain ⟨k, h2, h3⟩ := h.keys kl h1; exact ⟨k, hk k h2, h3⟩, h.val⟩

theorem TkIs.look {w : World} {t : Nat} {K : List Int} {T : Int → Bun} {D : DataW Value} (h : TkIs w t K T D) {x : Int} (hx : I64 x) :
    ∀ w', w'.heap[t]? = w.heap[t]? → (Instr.lookup 60 (.map (some t)) (.int .i64 x) false).run Try.prog w' = .ok (bunV (T x)) w' := by
  intro w' e
  obtain ⟨u, ps, hrun, hu⟩ := (ownsMap_carry h.own e).lookup law Try.underlying60 (zeroBE w') (zd := .held zeroBV) (zp := []) rfl (Maps.keyOf_int_mk Try.underlying3 (key_wfI hx))
  rw [h.val x] at hu
  simp [heldR] at hu
  rw [hrun, hu.1]

theorem tk_new (w : World) (t : Nat) (h : w.ownsMap Try.prog 3 heldR t 2000 (.map [])) : TkIs w t [] (fun _ => bun0) (.map []) :=
  ⟨h, fun kl hk => by simp [Maps.has] at hk, fun k => by simp [DataW.atKey]⟩

theorem tk_put {w : World} {t : Nat} {K K' : List Int} {T : Int → Bun} {D : DataW Value} (h : TkIs w t K T D) {x : Int} (hx : I64 x) (b : Bun) (hK : ∀ k, k ∈ K → k ∈ K') (hxK : x ∈ K') (hl : K'.length ≤ 2000) :
    ∃ w2 D', (Instr.mapUpdate 60 (.map (some t)) (.int .i64 x) (bunV b)).run Try.prog w = .ok () w2 ∧ TkIs w2 t K' (updT T x b) D' ∧ FrS (· = t) w w2 := by
  obtain ⟨w2, hrun, hown2, hgr⟩ := h.own.update law Try.underlying60 (by decide) (Maps.keyOf_int_mk Try.underlying3 (key_wfI hx)) (val := bunV b) (d := .held (bunV b)) (ps := []) rfl
  have hT := h.own.tidy law
  have hkeys : ∀ kl, Maps.has (D.put (.int .i64 x) (.held (bunV b))) kl = true → ∃ k ∈ K', kl = .int .i64 k := by
    intro kl hkl
    by_cases c : kl = .int .i64 x
    · exact ⟨x, hxK, c⟩
    · rw [Maps.has_put_other c] at hkl
      obtain ⟨k, h1, h2⟩ := h.keys kl hkl
      exact ⟨k, hK k h1, h2⟩
  have hsz : Maps.size (D.put (.int .i64 x) (.held (bunV b))) ≤ 2000 := by
    obtain ⟨es, e, hp⟩ := hT.put (k := .int .i64 x) trivial (.held (bunV b))
    have hlit : ∀ p ∈ es, WideAt.IsKeyLit p.1 := by
      obtain ⟨es', e', _, h3⟩ := hown2.entries law
      rw [e] at e'
      cases e'
      exact h3
    rw [e, Maps.size_eq]
    refine Nat.le_trans (size_in K' es hp (fun p hp' => ?_)) hl
    exact hkeys p.1 (by rw [e, Maps.has_eq]; exact List.any_eq_true.2 ⟨p, hp', WideAt.sameKey_self (hlit p hp')⟩)
  refine ⟨w2, _, hrun, ⟨ownsMap_size hown2 hsz, hkeys, fun k => ?_⟩, FrS.grown hgr⟩
  by_cases c : k = x
  · subst c
    rw [updT_same]
    exact Maps.atKey_put_same (k := Lit.int .i64 k) h.own.isMap trivial _ _
  · rw [updT_other b c]
    exact (Maps.atKey_put_other (fun e => c (by cases e; rfl)) _ _).trans (h.val k)

theorem tk_del {w : World} {t : Nat} {K K' : List Int} {T : Int → Bun} {D : DataW Value} (h : TkIs w t K T D) {x : Int} (hx : I64 x) (hK : ∀ k, k ∈ K → k ≠ x → k ∈ K') (ty : TypeId) :
    ∃ w2 D', (Builtin.delete_ #[60, 3] ty #[.map (some t), .int .i64 x]).run Try.prog w = .ok (.tuple #[]) w2 ∧ TkIs w2 t K' (updT T x bun0) D' ∧ FrS (· = t) w w2 := by
  obtain ⟨w2, hrun, hown2, hgr⟩ := h.own.drop law Try.underlying60 (Maps.keyOf_int_mk Try.underlying3 (key_wfI hx)) ty
  refine ⟨w2, _, hrun, ⟨hown2, fun kl hkl => ?_, fun k => ?_⟩, FrS.grown hgr.grown⟩
  · by_cases c : kl = .int .i64 x
    · rw [c, Maps.has_del_same] at hkl; cases hkl
    · rw [Maps.has_del_other c] at hkl
      obtain ⟨k, h1, h2⟩ := h.keys kl hkl
      exact ⟨k, hK k h1 (fun e => c (by rw [h2, e])), h2⟩
  · by_cases c : k = x
    · subst c
      rw [updT_same]
      exact Maps.atKey_del_same (k := Lit.int .i64 k) _
    · rw [updT_other bun0 c]
      exact (Maps.atKey_del_other (fun e => c (by cases e; rfl)) _).trans (h.val k)

/-- Lines in block p, tokens in block t, apart; all of it lies in the blocks of Ft. The map's keys are among K. -/
structure HdIs (w : World) (p t : Nat) (Ft : Nat → Prop) (S W : Int) (A K : List Int) (T : Int → Bun) : Prop where
  ln : ∃ Fl, LnIs w p Fl S W A ∧ (∀ b, Fl b → Ft b) ∧ ¬ Fl t
  tk : ∃ D, TkIs w t K T D
  ft : Ft t
  lt : ∀ b, Ft b → b < w.heap.size

theorem HdIs.carry {w w' : World} {p t : Nat} {Ft : Nat → Prop} {S W : Int} {A K : List Int} {T : Int → Bun} (h : HdIs w p t Ft S W A K T) (hb : ∀ b, Ft b → b < w.heap.size → w'.heap[b]? = w.heap[b]?) : HdIs w' p t Ft S W A K T := by
  obtain ⟨Fl, h1, h2, h3⟩ := h.ln
  obtain ⟨D, h4⟩ := h.tk
  exact ⟨⟨Fl, h1.carry (fun b hb' hl => hb b (h2 b hb') hl), h2, h3⟩, ⟨D, h4.carry (hb t h.ft (h.lt t h.ft))⟩, h.ft, fun b hf => block_lt (h.lt b hf) (hb b hf (h.lt b hf))⟩

/-- A cache in block c. -/
structure CaIs (w : World) (c : Nat) (Ft : Nat → Prop) (S W N : Int) (C : Ca) : Prop where
  inv : CInv S W N C
  fc : Ft c
  lt : ∀ b, Ft b → b < w.heap.size
  at' : ∃ p t Fh, w.cell? ⟨c, 0, none⟩ = some (ptr p) ∧ w.cell? ⟨c, 1, none⟩ = some (.map (some t)) ∧ HdIs w p t Fh S W C.A C.A C.T ∧ (∀ b, Fh b → Ft b) ∧ ¬ Fh c

theorem CaIs.carry {w w' : World} {c : Nat} {Ft : Nat → Prop} {S W N : Int} {C : Ca} (h : CaIs w c Ft S W N C) (hb : ∀ b, Ft b → b < w.heap.size → w'.heap[b]? = w.heap[b]?) : CaIs w' c Ft S W N C := by
  obtain ⟨p, t, Fh, h1, h2, h3, h4, h5⟩ := h.at'
  have ec := hb c h.fc (h.lt c h.fc)
  exact ⟨h.inv, h.fc, fun b hf => block_lt (h.lt b hf) (hb b hf (h.lt b hf)), ⟨p, t, Fh, (World.cell?_of_block (w := w) ec).trans h1, (World.cell?_of_block (w := w) ec).trans h2, h3.carry (fun b hf hl => hb b (h4 b hf) hl), h4, h5⟩⟩

theorem CaIs.fr {w w' : World} {c : Nat} {Ft F : Nat → Prop} {S W N : Int} {C : Ca} (h : CaIs w c Ft S W N C) (hf : FrS F w w') (hd : ∀ b, Ft b → b < w.heap.size → ¬ F b) : CaIs w' c Ft S W N C := h.carry fun b hb hl => hf.block b hl (hd b hb hl)
theorem CaIs.below {w w' : World} {c : Nat} {Ft : Nat → Prop} {S W N : Int} {C : Ca} (h : CaIs w c Ft S W N C) (hf : Below w.heap.size w w') : CaIs w' c Ft S W N C := h.carry fun b _ hl => hf.block b hl
theorem CaIs.alloc {w : World} {c : Nat} {Ft : Nat → Prop} {S W N : Int} {C : Ca} (h : CaIs w c Ft S W N C) (o : Obj) : CaIs (w.alloc o) c Ft S W N C := h.carry fun b _ hl => Below.heap_alloc _ _ _ hl
theorem CaIs.drewN {w : World} {c : Nat} {Ft : Nat → Prop} {S W N : Int} {C : Ca} (h : CaIs w c Ft S W N C) (n : Nat) : CaIs (w.drewN n) c Ft S W N C := h.carry fun _ _ _ => rfl
theorem CaIs.mono {w : World} {c : Nat} {Ft : Nat → Prop} {S W N M : Int} {C : Ca} (h : CaIs w c Ft S W N C) (hN : N ≤ M) : CaIs w c Ft S W M C := ⟨h.inv.mono hN, h.fc, h.lt, h.at'⟩

/-- The struct's cells stay while its lines and tokens change. -/
theorem CaIs.back {w w' : World} {c p t : Nat} {Ft Fh Fh' : Nat → Prop} {S W N N' : Int} {C C' : Ca} (h : CaIs w c Ft S W N C) (c0 : w.cell? ⟨c, 0, none⟩ = some (ptr p)) (c1 : w.cell? ⟨c, 1, none⟩ = some (.map (some t))) (hF : ∀ b, Fh b → Ft b) (hc : ¬ Fh c) (hI : CInv S W N' C') (hn : HdIs w' p t Fh' S W C'.A C'.A C'.T) (hs : Step Fh Fh' w w') :
    ∃ Ft', CaIs w' c Ft' S W N' C' ∧ Step Ft Ft' w w' := by
  have hcl := h.lt c h.fc
  have ec := hs.fr.block c hcl hc
  refine ⟨fun b => Ft b ∨ Fh' b, ⟨hI, .inl h.fc, fun b hb => ?_, ⟨p, t, Fh', (World.cell?_of_block (w := w) ec).trans c0, (World.cell?_of_block (w := w) ec).trans c1, hn, fun b hb => .inr hb, fun e => ?_⟩⟩, ⟨hs.fr.mono (fun i _ hi => hF i hi), fun b hb => ?_⟩⟩
  · rcases hb with hb | hb
    · exact Nat.lt_of_lt_of_le (h.lt b hb) hs.fr.size
    · exact hn.lt b hb
  · rcases hs.new c e with e | e
    · exact hc e
    · omega
  · rcases hb with hb | hb
    · exact .inl hb
    · rcases hs.new b hb with e | e
      · exact .inl (hF b e)
      · exact .inr e
end Go.Proofs.Ytooopcadefpncaa
