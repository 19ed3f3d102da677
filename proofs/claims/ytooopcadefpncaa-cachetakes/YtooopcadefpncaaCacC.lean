/- The contracts of package cache: New, Get, enter, leave (layer 9). -/
import Derived.Test.YtooopcadefpncaaCacMap
import Derived.Test.YtooopcadefpncaaHand2
namespace Go.Proofs.Ytooopcadefpncaa
open Go.ChangeShapes Go.WideShapes Go.ChangeAt Go.RowKit
set_option linter.unusedSimpArgs false
set_option linter.unusedVariables false
set_option maxRecDepth 10000

attribute [local go_sem, local simp] over_const setCell_drewN alloc_drewN Over.cell Over.frozen lt_s1 lt_s2 lt_s3 le_s0 le_s1 le_s2 le_s3 eq_s0 eq_s1 eq_s2 qe_s0

section
variable {P : Program} {w w2 : World} {ops : Array Oper} {rest : List Oper} {o : Oper} {a : Act} {Q : Exit → Act → World → Prop}

theorem wpList_look {t : TypeId} {mv kv v : Value} (hg : o.guard = none) (m x : Operand) (ho : o.op = Op.lookup t m x false) (hm : a.eval m = mv) (hx : a.eval x = kv) (hr : (Instr.lookup t mv kv false).run P w = .ok v w) (h : wpList P ops Q rest (a.put o.dst v) w) : wpList P ops Q (o :: rest) a w :=
  wpList_plain hg fun _ hK => wp_look m x ho hm hx hr (hK _ _ h)

theorem wpList_upd {t : TypeId} {mv kv vv : Value} (hg : o.guard = none) (m x v : Operand) (ho : o.op = Op.mapUpdate t m x v) (hm : a.eval m = mv) (hx : a.eval x = kv) (hv : a.eval v = vv) (hr : (Instr.mapUpdate t mv kv vv).run P w = .ok () w2) (h : wpList P ops Q rest (a.put o.dst undef) w2) : wpList P ops Q (o :: rest) a w :=
  wpList_plain hg fun _ hK => wp_upd m x v ho hm hx hv hr (hK _ _ h)

theorem wpList_del {R : World → Prop} {t k : TypeId} {mv kv : Value} (hg : o.guard = none) (m x : Operand) (ho : o.op = Op.call { callee := Callee.builtin Builtin.delete, args := #[m, x], argTypes := #[t, k] }) (hm : a.eval m = mv) (hx : a.eval x = kv) (hr : ∀ ty, ∃ w2, (Builtin.delete_ #[t, k] ty #[mv, kv]).run P w = .ok (.tuple #[]) w2 ∧ R w2) (h : ∀ w2, R w2 → wpList P ops Q rest (a.put o.dst (.tuple #[])) w2) : wpList P ops Q (o :: rest) a w := by
  refine wpList_plain hg fun K' hK' => ?_
  obtain ⟨w2, hrun, hR⟩ := hr o.type
  unfold Oper.wp
  simp [execOp, ho, resolve, invoke, builtin, hm, hx, hrun, Result.andThen]
  exact hK' _ _ (h w2 hR)
end

theorem keep_cell {w w' : World} {b o : Nat} {v : Option Value} (e : w'.heap[b]? = w.heap[b]?) (h : w.cell? ⟨b, o, none⟩ = v) : w'.cell? ⟨b, o, none⟩ = v := (World.cell?_of_block (w := w) e).trans h
theorem keep_frozen {w w' : World} {b o : Nat} {v : Bool} (e : w'.heap[b]? = w.heap[b]?) (h : w.frozen? ⟨b, o, none⟩ = v) : w'.frozen? ⟨b, o, none⟩ = v := (World.frozen?_of_block (w := w) e).trans h

/-- A block outside stays, and stays outside. -/
theorem Step.keep {F F' : Nat → Prop} {w w' : World} (h : Step F F' w w') {b : Nat} (hb : ¬ F b) (hl : b < w.heap.size) : w'.heap[b]? = w.heap[b]? ∧ ¬ F' b ∧ b < w'.heap.size :=
  ⟨h.fr.block b hl hb, fun e => by rcases h.new b e with e | e; exact hb e; omega, Nat.lt_of_lt_of_le hl h.fr.size⟩

theorem HdIs.put {w wz w1 w2 : World} {p t : Nat} {Ft Fl Fl1 : Nat → Prop} {S W : Int} {A A' K K' : List Int} {T T' : Int → Bun} {D' : DataW Value} (h : HdIs w p t Ft S W A K T) (hFl : ∀ b, Fl b → Ft b) (hnt : ¬ Fl t) (hz : Below w.heap.size w wz) (hn1 : LnIs w1 p Fl1 S W A') (hs1 : Step Fl Fl1 wz w1) (hD2 : TkIs w2 t K' T' D') (hf2 : FrS (· = t) w1 w2) :
    ∃ Ft', HdIs w2 p t Ft' S W A' K' T' ∧ Step Ft Ft' w w2 := by
  have htl := h.lt t h.ft
  have s1 := hz.size
  have ht1 : ¬ Fl1 t := (hs1.keep hnt (by omega)).2.1
  have s2 := hs1.fr.size
  have s3 := hf2.size
  refine ⟨fun b => Ft b ∨ Fl1 b, ⟨⟨Fl1, hn1.fr hf2 (fun b hb _ e => ht1 (e ▸ hb)), fun b hb => .inr hb, ht1⟩, ⟨D', hD2⟩, .inl h.ft, fun b hb => ?_⟩, ⟨((FrS.of_below hz).trans hs1.fr (fun i hi => .inl (hFl i hi))).trans hf2 (fun i hi => .inl (hi ▸ h.ft)), fun b hb => ?_⟩⟩
  · rcases hb with hb | hb
    · have := h.lt b hb; omega
    · have := hn1.lt b hb; omega
  · rcases hb with hb | hb
    · exact .inl hb
    · rcases hs1.new b hb with e | e
      · exact .inl (hFl b e)
      · exact .inr (by omega)

set_option maxHeartbeats 1000000 in
theorem cNew_c (s t : Int) (w : World) : Calls Try.prog 12 #[.int .i64 s, .int .i64 t] w fun e w' => ∃ c Ft, e = .returned (ptr c) ∧ CaIs w' c Ft (clampZ s 1 64) (clampZ t 1 16) 0 ⟨[], fun _ => bun0⟩ ∧ Below w.heap.size w w' ∧ ∀ b, Ft b → w.heap.size ≤ b := by
  have hmm := @run_makeMap Try.prog
  go_enter Try.func12, Try.ntmps12
  go_wp2_with (go_at_call 29; refine (new_c s t w).mono ?_; rintro e w1 ⟨p, Fl, rfl, hn, hb, hF⟩; replace hn := hide hn; replace hb := hide hb)
  go_ret
  have hm : (w1.alloc (.map #[] 0)).ownsMap (H := Value) Try.prog 3 heldR w1.heap.size 0 (.map []) := World.ownsMap_made _ _ _ _
  have hn0 := unhide hn
  have s1 := (unhide hb).size
  have hn2 : LnIs ((w1.alloc (.map #[] 0)).alloc (.cells #[ptr p, .map (some w1.heap.size)] 64)) p Fl (clampZ s 1 64) (clampZ t 1 16) [] := (hn0.alloc _).alloc _
  refine ⟨w1.heap.size + 1, fun b => b = w1.heap.size + 1 ∨ b = w1.heap.size ∨ Fl b, rfl, ⟨CInv.new hn0.inv, .inl rfl, fun b hb => ?_, ⟨p, w1.heap.size, fun b => b = w1.heap.size ∨ Fl b, by simp, by simp, ⟨⟨Fl, hn2, fun b hb => .inr hb, fun e => ?_⟩, ⟨_, tk_new _ _ ((hm.alloc _).mono (by omega))⟩, .inl rfl, fun b hb => ?_⟩, fun b hb => .inr hb, fun e => ?_⟩⟩, ?_, fun b hb => ?_⟩
  · simp; rcases hb with hb | hb | hb
    · omega
    · omega
    · have := hn0.lt b hb; omega
  · have := hn0.lt _ e; omega
  · simp; rcases hb with hb | hb
    · omega
    · have := hn0.lt b hb; omega
  · rcases e with e | e
    · omega
    · have := hn0.lt _ e; omega
  · exact (((unhide hb).alloc s1 _).alloc (by simp; omega) _)
  · rcases hb with hb | hb | hb
    · omega
    · omega
    · exact hF b hb

set_option maxHeartbeats 1000000 in
theorem cGet_c (c : Nat) (Ft : Nat → Prop) (S W N x : Int) (C : Ca) (w : World) (h : CaIs w c Ft S W N C) (hx : I64 x) (r : Bun) (hr : Hid (C.T x = r)) : Calls Try.prog 20 #[ptr c, .int .i64 x] w fun e w' => e = .returned (.agg #[.int .i64 r.n, .bool r.o, .bool r.h, .int .i64 r.d]) ∧ Below w.heap.size w w' := by
  obtain ⟨p, t, Fh, c0, c1, hh, hF, hc⟩ := h.at'
  obtain ⟨D, hD⟩ := hh.tk
  have hlk := hD.look hx
  rw [hr.out] at hlk
  replace hlk := hide hlk
  have hcl := h.lt c h.fc
  have htl := hh.lt t hh.ft
  clear h hh hD
  go_enter Try.func20, Try.ntmps20
  go_wp2_with (at_lookup; refine wpList_look rfl (.tmp 9) (.tmp 10) rfl rfl rfl (unhide hlk _ (Below.heap_alloc _ _ _ htl)) ?_)
  go_returns
  exact ⟨rfl, by go_grown⟩

set_option maxHeartbeats 1000000 in
theorem enter_c (p t : Nat) (Ft : Nat → Prop) (S W x : Int) (A : List Int) (T : Int → Bun) (b : Bun) (w : World) (h : HdIs w p t Ft S W A A T) (hx : I64 x) (ha : okAdd S W A x = true) : Calls Try.prog 56 #[.agg #[ptr p, .map (some t)], .int .i64 x, .agg #[.int .i64 b.n, .bool b.o, .bool b.h, .int .i64 b.d]] w fun e w' => e = .returned (.tuple #[]) ∧ ∃ Ft', HdIs w' p t Ft' S W (A ++ [x]) (A ++ [x]) (updT T x b) ∧ Step Ft Ft' w w' := by
  obtain ⟨Fl, hl, hFl, hnt⟩ := h.ln
  obtain ⟨D, hD⟩ := h.tk
  have htl := h.lt t h.ft
  have hH := hide h
  have e2 : nxAdd S W A x = A ++ [x] := by simp [nxAdd, ha]
  have hlt : ∀ b, Fl b → b < w.heap.size := hl.lt
  replace hl := hide hl
  replace hD := hide hD
  replace ha := hide ha
  replace e2 := hide e2
  clear h
  go_enter Try.func56, Try.ntmps56
  go_wp2_with fail
  go_at_call 53
  refine (add_c p Fl S W x A _ (((unhide hl).alloc _).alloc _) hx.2).mono ?_
  rw [ha.out, e2.out]
  rintro e w1 ⟨rfl, Fl1, hn1, hs1⟩
  have k1 := (hs1.keep (b := w.heap.size) (fun e => by have := hlt _ e; omega) (by first | (simp; done) | (simp; omega))).1
  have k2 := (hs1.keep (b := w.heap.size + 1) (fun e => by have := hlt _ e; omega) (by simp)).1
  have kt := (hs1.keep (b := t) hnt (by simp; omega)).1
  have q1 : w1.cell? ⟨w.heap.size, 1, none⟩ = some (.map (some t)) := keep_cell k1 (by simp [go_sem])
  have y0 : w1.cell? ⟨w.heap.size + 1, 0, none⟩ = some (.int .i64 b.n) := keep_cell k2 (by simp [go_sem])
  have y1 : w1.cell? ⟨w.heap.size + 1, 1, none⟩ = some (.bool b.o) := keep_cell k2 (by simp [go_sem])
  have y2 : w1.cell? ⟨w.heap.size + 1, 2, none⟩ = some (.bool b.h) := keep_cell k2 (by simp [go_sem])
  have y3 : w1.cell? ⟨w.heap.size + 1, 3, none⟩ = some (.int .i64 b.d) := keep_cell k2 (by simp [go_sem])
  have hlen := hn1.inv.len
  obtain ⟨w2, D', hrun, hD2, hf2⟩ := tk_put (K' := A ++ [x]) ((unhide hD).carry (kt.trans ((Below.heap_alloc _ _ _ (by simp; omega)).trans (Below.heap_alloc _ _ _ htl)))) hx b (fun k hk => by simp [hk]) (by simp) (by omega)
  have hfin := hide ((unhide hH).put hFl hnt (((Below.refl _ _).alloc (Nat.le_refl _) _).alloc (by simp) _) hn1 hs1 hD2 hf2)
  replace hrun := hide hrun
  clear hn1 hs1 hD2 hf2 k1 k2 kt
  go_wp2_with (at_mapUpdate; refine wpList_upd rfl (.tmp 11) (.tmp 12) (.tmp 13) rfl rfl rfl rfl (unhide hrun) ?_)
  refine bodyPost_end (v := .tuple #[]) (by simp [results, Try.results56]) rfl ⟨rfl, ?_⟩
  exact unhide hfin

set_option maxHeartbeats 1000000 in
theorem leave_c (p t : Nat) (Ft : Nat → Prop) (S W x : Int) (A : List Int) (T : Int → Bun) (w : World) (h : HdIs w p t Ft S W A A T) (hx : I64 x) : Calls Try.prog 41 #[.agg #[ptr p, .map (some t)], .int .i64 x] w fun e w' => e = .returned (.tuple #[]) ∧ ∃ Ft', HdIs w' p t Ft' S W (A.erase x) (A.erase x) (updT T x bun0) ∧ Step Ft Ft' w w' := by
  obtain ⟨Fl, hl, hFl, hnt⟩ := h.ln
  obtain ⟨D, hD⟩ := h.tk
  have htl := h.lt t h.ft
  have hH := hide h
  have hlt : ∀ b, Fl b → b < w.heap.size := hl.lt
  replace hl := hide hl
  replace hD := hide hD
  clear h
  go_enter Try.func41, Try.ntmps41
  go_wp2_with fail
  go_at_call 52
  refine (remove_c p Fl S W x A _ ((unhide hl).alloc _)).mono ?_
  rintro e w1 ⟨rfl, Fl1, hn1, hs1⟩
  have k1 := (hs1.keep (b := w.heap.size) (fun e => by have := hlt _ e; omega) (by simp)).1
  have kt := (hs1.keep (b := t) hnt (by simp; omega)).1
  have q1 : w1.cell? ⟨w.heap.size, 1, none⟩ = some (.map (some t)) := keep_cell k1 (by simp [go_sem])
  have hdel : Hid (∀ ty, ∃ w2, (Builtin.delete_ #[60, 3] ty #[.map (some t), .int .i64 x]).run Try.prog w1 = .ok (.tuple #[]) w2 ∧ ∃ D', TkIs w2 t (A.erase x) (updT T x bun0) D' ∧ FrS (· = t) w1 w2) :=
    fun ty => by
      obtain ⟨w2, D', q1, q2, q3⟩ := tk_del (K' := A.erase x) ((unhide hD).carry (kt.trans (Below.heap_alloc _ _ _ htl))) hx (fun k hk hne => (List.mem_erase_of_ne hne).2 hk) ty
      exact ⟨w2, q1, D', q2, q3⟩
  replace hn1 := hide hn1
  replace hs1 := hide hs1
  clear k1 kt
  go_wp2_with (at_delete; refine wpList_del rfl (.tmp 9) (.tmp 10) rfl rfl rfl (unhide hdel) ?_; intro w2 hD2; replace hD2 := hide hD2)
  refine bodyPost_end (v := .tuple #[]) (by simp [results, Try.results41]) rfl ⟨rfl, ?_⟩
  obtain ⟨D', h1, h2⟩ := unhide hD2
  exact (unhide hH).put hFl hnt ((Below.refl _ _).alloc (Nat.le_refl _) _) (unhide hn1) (unhide hs1) h1 h2
end Go.Proofs.Ytooopcadefpncaa
