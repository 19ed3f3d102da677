/- Tokens, and a block with its tokens, in a block of memory of their own (layer 9). -/
import Derived.Test.YtooopcadefpncaaCacC
namespace Go.Proofs.Ytooopcadefpncaa
open Go.ChangeShapes Go.WideShapes Go.ChangeAt Go.RowKit
set_option linter.unusedSimpArgs false
set_option linter.unusedVariables false
set_option maxRecDepth 10000

attribute [local go_sem, local simp] over_const setCell_drewN alloc_drewN Over.cell Over.frozen lt_s1 lt_s2 lt_s3 le_s0 le_s1 le_s2 le_s3 eq_s0 eq_s1 eq_s2 qe_s0

/-- Tokens in block b, that may be written. -/
structure BunAt (w : World) (b : Nat) (x : Bun) : Prop where
  lt : b < w.heap.size
  c0 : w.cell? ⟨b, 0, none⟩ = some (.int .i64 x.n)
  c1 : w.cell? ⟨b, 1, none⟩ = some (.bool x.o)
  c2 : w.cell? ⟨b, 2, none⟩ = some (.bool x.h)
  c3 : w.cell? ⟨b, 3, none⟩ = some (.int .i64 x.d)
  f0 : w.frozen? ⟨b, 0, none⟩ = false
  f1 : w.frozen? ⟨b, 1, none⟩ = false
  f2 : w.frozen? ⟨b, 2, none⟩ = false
  f3 : w.frozen? ⟨b, 3, none⟩ = false

theorem BunAt.carry {w w' : World} {b : Nat} {x : Bun} (h : BunAt w b x) (e : w'.heap[b]? = w.heap[b]?) : BunAt w' b x :=
  ⟨block_lt h.lt e, keep_cell e h.c0, keep_cell e h.c1, keep_cell e h.c2, keep_cell e h.c3, keep_frozen e h.f0, keep_frozen e h.f1, keep_frozen e h.f2, keep_frozen e h.f3⟩
theorem BunAt.below {w w' : World} {b : Nat} {x : Bun} (h : BunAt w b x) (hb : Below w.heap.size w w') : BunAt w' b x := h.carry (hb.block b h.lt)

/-- A line in block b, that may be written. -/
structure LnAt (w : World) (b : Nat) (l : Ln) : Prop where
  lt : b < w.heap.size
  c0 : w.cell? ⟨b, 0, none⟩ = some (.int .i64 l.b)
  c1 : w.cell? ⟨b, 1, none⟩ = some (.int .i64 l.t.n)
  c2 : w.cell? ⟨b, 2, none⟩ = some (.bool l.t.o)
  c3 : w.cell? ⟨b, 3, none⟩ = some (.bool l.t.h)
  c4 : w.cell? ⟨b, 4, none⟩ = some (.int .i64 l.t.d)
  f0 : w.frozen? ⟨b, 0, none⟩ = false
  f1 : w.frozen? ⟨b, 1, none⟩ = false
  f2 : w.frozen? ⟨b, 2, none⟩ = false
  f3 : w.frozen? ⟨b, 3, none⟩ = false
  f4 : w.frozen? ⟨b, 4, none⟩ = false

theorem LnAt.carry {w w' : World} {b : Nat} {l : Ln} (h : LnAt w b l) (e : w'.heap[b]? = w.heap[b]?) : LnAt w' b l :=
  ⟨block_lt h.lt e, keep_cell e h.c0, keep_cell e h.c1, keep_cell e h.c2, keep_cell e h.c3, keep_cell e h.c4, keep_frozen e h.f0, keep_frozen e h.f1, keep_frozen e h.f2, keep_frozen e h.f3, keep_frozen e h.f4⟩
theorem LnAt.below {w w' : World} {b : Nat} {l : Ln} (h : LnAt w b l) (hb : Below w.heap.size w w') : LnAt w' b l := h.carry (hb.block b h.lt)

theorem HdIs.below {w w' : World} {p t : Nat} {Ft : Nat → Prop} {S W : Int} {A K : List Int} {T : Int → Bun} (h : HdIs w p t Ft S W A K T) (hb : Below w.heap.size w w') : HdIs w' p t Ft S W A K T := h.carry fun b _ hl => hb.block b hl
theorem HdIs.inv {w : World} {p t : Nat} {Ft : Nat → Prop} {S W : Int} {A K : List Int} {T : Int → Bun} (h : HdIs w p t Ft S W A K T) : Inv S W A := by obtain ⟨Fl, h1, _⟩ := h.ln; exact h1.inv
theorem HdIs.quiet {w w' : World} {p t : Nat} {Ft : Nat → Prop} {S W : Int} {A K : List Int} {T : Int → Bun} (h : HdIs w p t Ft S W A K T) (hb : Below w.heap.size w w') : ∃ Ft', HdIs w' p t Ft' S W A K T ∧ Step Ft Ft' w w' := ⟨Ft, h.below hb, Step.of_below hb⟩
theorem HdIs.then {w w0 w' : World} {p t : Nat} {Ft : Nat → Prop} {S W : Int} {A K : List Int} {T : Int → Bun} (h : ∃ Ft', HdIs w0 p t Ft' S W A K T ∧ Step Ft Ft' w w0) (hb : Below w0.heap.size w0 w') : ∃ Ft', HdIs w' p t Ft' S W A K T ∧ Step Ft Ft' w w' := by
  obtain ⟨Ft', h1, h2⟩ := h
  exact ⟨Ft', h1.below hb, h2.trans (Step.of_below hb)⟩
/-- Behind a write into a block of one's own. -/
theorem HdIs.fin {w w0 w' : World} {p t B : Nat} {Ft Ft2 : Nat → Prop} {S W : Int} {A K : List Int} {T : Int → Bun} (h : HdIs w0 p t Ft2 S W A K T ∧ Step Ft Ft2 w w0 ∧ ¬ Ft2 B) (hw : w.heap.size ≤ B) (hf : FrS (· = B) w0 w') : ∃ Ft', HdIs w' p t Ft' S W A K T ∧ Step Ft Ft' w w' := by
  obtain ⟨h1, h2, h3⟩ := h
  refine ⟨Ft2, h1.carry (fun b hb hl => hf.block b hl (fun e => h3 (e ▸ hb))), ⟨h2.fr.trans hf (fun i hi => .inr (by omega)), h2.new⟩⟩
theorem FrS.wr {B : Nat} {a b : World} (h : FrS (· = B) a b) {o : Nat} (u : Value) : FrS (· = B) a (b.setCell ⟨B, o, none⟩ u) := h.setCell (q := ⟨B, o, none⟩) (.inl rfl) u

theorem CaIs.quiet {w w' : World} {c : Nat} {Ft : Nat → Prop} {S W N : Int} {C : Ca} (h : CaIs w c Ft S W N C) (hb : Below w.heap.size w w') : ∃ Ft', CaIs w' c Ft' S W N C ∧ Step Ft Ft' w w' := ⟨Ft, h.below hb, Step.of_below hb⟩
/-- Behind a write into a block of one's own. -/
theorem CaIs.fin {w w0 w' : World} {c B : Nat} {Ft Ft2 : Nat → Prop} {S W N : Int} {C : Ca} (h : CaIs w0 c Ft2 S W N C ∧ Step Ft Ft2 w w0 ∧ ¬ Ft2 B) (hw : w.heap.size ≤ B) (hf : FrS (· = B) w0 w') : ∃ Ft', CaIs w' c Ft' S W N C ∧ Step Ft Ft' w w' := by
  obtain ⟨h1, h2, h3⟩ := h
  refine ⟨Ft2, h1.carry (fun b hb hl => hf.block b hl (fun e => h3 (e ▸ hb))), ⟨h2.fr.trans hf (fun i hi => .inr (by omega)), h2.new⟩⟩

/-- The lines have changed alone. -/
theorem HdIs.turn {w wz w1 : World} {p t : Nat} {Ft Fl Fl1 : Nat → Prop} {S W : Int} {A A' K : List Int} {T : Int → Bun} {D : DataW Value} (h : HdIs w p t Ft S W A K T) (hFl : ∀ b, Fl b → Ft b) (hnt : ¬ Fl t) (hz : Below w.heap.size w wz) (hn1 : LnIs w1 p Fl1 S W A') (hs1 : Step Fl Fl1 wz w1) (hD : TkIs w t K T D) :
    ∃ Ft', HdIs w1 p t Ft' S W A' K T ∧ Step Ft Ft' w w1 := by
  have htl := h.lt t h.ft
  have s1 := hz.size
  exact h.put hFl hnt hz hn1 hs1 (hD.carry ((hs1.keep hnt (by omega)).1.trans (hz.block t htl))) (FrS.refl _ _)

/-- The tokens have changed alone. -/
theorem HdIs.retok {w w1 : World} {p t : Nat} {Ft : Nat → Prop} {S W : Int} {A K K' : List Int} {T T' : Int → Bun} {D : DataW Value} (h : HdIs w p t Ft S W A K T) (hD : TkIs w1 t K' T' D) (hf : FrS (· = t) w w1) :
    ∃ Ft', HdIs w1 p t Ft' S W A K' T' ∧ Step Ft Ft' w w1 := by
  obtain ⟨Fl, hl, hFl, hnt⟩ := h.ln
  exact h.put hFl hnt (Below.refl _ _) hl (Step.refl _ _) hD hf

theorem tk_putE {w : World} {t : Nat} {K K' : List Int} {T : Int → Bun} {D : DataW Value} (h : TkIs w t K T D) {x : Int} (hx : I64 x) (b : Bun) (hK : ∀ k, k ∈ K → k ∈ K') (hxK : x ∈ K') (hl : K'.length ≤ 2000) :
    ∃ w2, (Instr.mapUpdate 60 (.map (some t)) (.int .i64 x) (bunV b)).run Try.prog w = .ok () w2 ∧ ∃ D', TkIs w2 t K' (updT T x b) D' ∧ FrS (· = t) w w2 := by
  obtain ⟨w2, D', h1, h2, h3⟩ := tk_put h hx b hK hxK hl
  exact ⟨w2, h1, D', h2, h3⟩

section
variable {P : Program} {w : World} {o : Oper} {a : Act} {Q : Exit → Act → World → Prop} {K : Act → World → Prop}
/-- A store into a map, whatever world it leaves. -/
theorem wp_updE {R : World → Prop} {t : TypeId} {mv kv vv : Value} (m x v : Operand) (ho : o.op = Op.mapUpdate t m x v) (hm : a.eval m = mv) (hx : a.eval x = kv) (hv : a.eval v = vv) (hr : ∃ w2, (Instr.mapUpdate t mv kv vv).run P w = .ok () w2 ∧ R w2) (h : ∀ w2, R w2 → K (a.put o.dst undef) w2) : o.wp P a w K Q := by
  obtain ⟨w2, h1, h2⟩ := hr
  exact wp_upd m x v ho hm hx hv h1 (h w2 h2)
end
end Go.Proofs.Ytooopcadefpncaa
