/- layer 15: CacC CacB CacF CacT CacK, put together. -/
import Derived.Test.YtoenjdnccgmhoaaGreatDoorB21
import Derived.Test.YtoenjdnccgmhoaaGreatDoorB22
import Derived.Test.YtoenjdnccgmhoaaGreatDoorB18
import Derived.Test.YtoenjdnccgmhoaaGreatDoorB08
import Derived.Test.YtoenjdnccgmhoaaGreatDoorB25
namespace Go.Proofs.YtoenjdnccgmhoaaGreatDoor
open Go.ChangeShapes Go.WideShapes Go.ChangeAt Go.RowKit
set_option linter.unusedSimpArgs false
set_option linter.unusedVariables false
set_option maxRecDepth 10000
attribute [local go_sem, local simp] over_const setCell_drewN alloc_drewN Over.cell Over.frozen lt_s1 lt_s2 lt_s3 le_s0 le_s1 le_s2 le_s3 eq_s0 eq_s1 eq_s2 qe_s0
theorem HdIs.put {w wz w1 w2 : World} {p t : Nat} {Ft Fl Fl1 : Nat → Prop} {S W : Int} {A A' K K' : List Int} {T T' : Int → Bun} {D' : DataW Value} (h : HdIs w p t Ft S W A K T) (hFl : ∀ b, Fl b → Ft b) (hnt : ¬ Fl t) (hz : Below w.heap.size w wz) (hn1 : LnIs w1 p Fl1 S W A') (hs1 : Step Fl Fl1 wz w1) (hD2 : TkIs w2 t K' T' D') (hf2 : FrS (· = t) w1 w2) :
    ∃ Ft', HdIs w2 p t Ft' S W A' K' T' ∧ Step Ft Ft' w w2 := by
  have htl := h.lt t h.ft
  have s1 := hz.size
  have ht1 : ¬ Fl1 t := (hs1.keep hnt (by omega)).2.1
  have s2 := hs1.fr.size
  have s3 := hf2.size
  refine ⟨fun b => Ft b ∨ Fl1 b, ⟨⟨Fl1, hn1.fr hf2 (fun b hb _ e => ht1 (e ▸ hb)), fun b hb => .inr hb, ht1⟩, ⟨D', hD2⟩, .inl h.ft, fun b hb => ?_⟩, ⟨((FrS.of_below hz).trans hs1.fr (fun i hi => .inl (hFl i hi))).trans hf2 (fun i hi => .inl (hi ▸ h.ft)), fun b hb => ?_⟩⟩
  · rcases hb with hb | hb
    · have := h.lt b hb; omega
    · have := hn1.lt b hb; omega
  · rcases hb with hb | hb
    · exact .inl hb
    · rcases hs1.new b hb with e | e
      · exact .inl (hFl b e)
      · exact .inr (by omega)
set_option maxHeartbeats 1000000 in
theorem cNew_c (s t : Int) (w : World) : Calls Tryz.prog 69 #[.int .i64 s, .int .i64 t] w fun e w' => ∃ c Ft, e = .returned (ptr c) ∧ CaIs w' c Ft (clampZ s 1 64) (clampZ t 1 16) 0 ⟨[], fun _ => bun0⟩ ∧ Below w.heap.size w w' ∧ ∀ b, Ft b → w.heap.size ≤ b := by
  have hmm := @run_makeMap Tryz.prog
  go_enter Tryz.func69, Tryz.ntmps69
  go_wp2_with (go_at_call 114; refine (new_c s t w).mono ?_; rintro e w1 ⟨p, Fl, rfl, hn, hb, hF⟩; replace hn := hide hn; replace hb := hide hb)
  go_ret
  have hm : (w1.alloc (.map #[] 0)).ownsMap (H := Value) Tryz.prog 3 heldR w1.heap.size 0 (.map []) := World.ownsMap_made _ _ _ _
  have hn0 := unhide hn
  have s1 := (unhide hb).size
  have hn2 : LnIs ((w1.alloc (.map #[] 0)).alloc (.cells #[ptr p, .map (some w1.heap.size)] 185)) p Fl (clampZ s 1 64) (clampZ t 1 16) [] := (hn0.alloc _).alloc _
  refine ⟨w1.heap.size + 1, fun b => b = w1.heap.size + 1 ∨ b = w1.heap.size ∨ Fl b, rfl, ⟨CInv.new hn0.inv, .inl rfl, fun b hb => ?_, ⟨p, w1.heap.size, fun b => b = w1.heap.size ∨ Fl b, by simp, by simp, ⟨⟨Fl, hn2, fun b hb => .inr hb, fun e => ?_⟩, ⟨_, tk_new _ _ ((hm.alloc _).mono (by omega))⟩, .inl rfl, fun b hb => ?_⟩, fun b hb => .inr hb, fun e => ?_⟩⟩, ?_, fun b hb => ?_⟩
  · simp; rcases hb with hb | hb | hb
    · omega
    · omega
    · have := hn0.lt b hb; omega
  · have := hn0.lt _ e; omega
  · simp; rcases hb with hb | hb
    · omega
    · have := hn0.lt b hb; omega
  · rcases e with e | e
    · omega
    · have := hn0.lt _ e; omega
  · exact (((unhide hb).alloc s1 _).alloc (by simp; omega) _)
  · rcases hb with hb | hb | hb
    · omega
    · omega
    · exact hF b hb
set_option maxHeartbeats 1000000 in
theorem cGet_c (c : Nat) (Ft : Nat → Prop) (S W N x : Int) (C : Ca) (w : World) (h : CaIs w c Ft S W N C) (hx : I64 x) (r : Bun) (hr : Hid (C.T x = r)) : Calls Tryz.prog 108 #[ptr c, .int .i64 x] w fun e w' => e = .returned (.agg #[.int .i64 r.n, .bool r.o, .bool r.h, .int .i64 r.d]) ∧ Below w.heap.size w w' := by
  obtain ⟨p, t, Fh, c0, c1, hh, hF, hc⟩ := h.at'
  obtain ⟨D, hD⟩ := hh.tk
  have hlk := hD.look hx
  rw [hr.out] at hlk
  replace hlk := hide hlk
  have hcl := h.lt c h.fc
  have htl := hh.lt t hh.ft
  clear h hh hD
  go_enter Tryz.func108, Tryz.ntmps108
  go_wp2_with (at_lookup; refine wpList_look rfl (.tmp 9) (.tmp 10) rfl rfl rfl (unhide hlk _ (Below.heap_alloc _ _ _ htl)) ?_)
  go_returns
  exact ⟨rfl, by go_grown⟩
set_option maxHeartbeats 1000000 in
theorem enter_c (p t : Nat) (Ft : Nat → Prop) (S W x : Int) (A : List Int) (T : Int → Bun) (b : Bun) (w : World) (h : HdIs w p t Ft S W A A T) (hx : I64 x) (ha : okAdd S W A x = true) : Calls Tryz.prog 170 #[.agg #[ptr p, .map (some t)], .int .i64 x, .agg #[.int .i64 b.n, .bool b.o, .bool b.h, .int .i64 b.d]] w fun e w' => e = .returned (.tuple #[]) ∧ ∃ Ft', HdIs w' p t Ft' S W (A ++ [x]) (A ++ [x]) (updT T x b) ∧ Step Ft Ft' w w' := by
  obtain ⟨Fl, hl, hFl, hnt⟩ := h.ln
  obtain ⟨D, hD⟩ := h.tk
  have htl := h.lt t h.ft
  have hH := hide h
  have e2 : nxAdd S W A x = A ++ [x] := by simp [nxAdd, ha]
  have hlt : ∀ b, Fl b → b < w.heap.size := hl.lt
  replace hl := hide hl
  replace hD := hide hD
  replace ha := hide ha
  replace e2 := hide e2
  clear h
  go_enter Tryz.func170, Tryz.ntmps170
  go_wp2_with fail
  go_at_call 148
  refine (add_c p Fl S W x A _ (((unhide hl).alloc _).alloc _) hx.2).mono ?_
  rw [ha.out, e2.out]
  rintro e w1 ⟨rfl, Fl1, hn1, hs1⟩
  have k1 := (hs1.keep (b := w.heap.size) (fun e => by have := hlt _ e; omega) (by first | (simp; done) | (simp; omega))).1
  have k2 := (hs1.keep (b := w.heap.size + 1) (fun e => by have := hlt _ e; omega) (by simp)).1
  have kt := (hs1.keep (b := t) hnt (by simp; omega)).1
  have q1 : w1.cell? ⟨w.heap.size, 1, none⟩ = some (.map (some t)) := keep_cell k1 (by simp [go_sem])
  have y0 : w1.cell? ⟨w.heap.size + 1, 0, none⟩ = some (.int .i64 b.n) := keep_cell k2 (by simp [go_sem])
  have y1 : w1.cell? ⟨w.heap.size + 1, 1, none⟩ = some (.bool b.o) := keep_cell k2 (by simp [go_sem])
  have y2 : w1.cell? ⟨w.heap.size + 1, 2, none⟩ = some (.bool b.h) := keep_cell k2 (by simp [go_sem])
  have y3 : w1.cell? ⟨w.heap.size + 1, 3, none⟩ = some (.int .i64 b.d) := keep_cell k2 (by simp [go_sem])
  have hlen := hn1.inv.len
  obtain ⟨w2, D', hrun, hD2, hf2⟩ := tk_put (K' := A ++ [x]) ((unhide hD).carry (kt.trans ((Below.heap_alloc _ _ _ (by simp; omega)).trans (Below.heap_alloc _ _ _ htl)))) hx b (fun k hk => by simp [hk]) (by simp) (by omega)
  have hfin := hide ((unhide hH).put hFl hnt (((Below.refl _ _).alloc (Nat.le_refl _) _).alloc (by simp) _) hn1 hs1 hD2 hf2)
  replace hrun := hide hrun
  clear hn1 hs1 hD2 hf2 k1 k2 kt
  go_wp2_with (at_mapUpdate; refine wpList_upd rfl (.tmp 11) (.tmp 12) (.tmp 13) rfl rfl rfl rfl (unhide hrun) ?_)
  refine bodyPost_end (v := .tuple #[]) (by simp [results, Tryz.results170]) rfl ⟨rfl, ?_⟩
  exact unhide hfin
set_option maxHeartbeats 1000000 in
theorem leave_c (p t : Nat) (Ft : Nat → Prop) (S W x : Int) (A : List Int) (T : Int → Bun) (w : World) (h : HdIs w p t Ft S W A A T) (hx : I64 x) : Calls Tryz.prog 156 #[.agg #[ptr p, .map (some t)], .int .i64 x] w fun e w' => e = .returned (.tuple #[]) ∧ ∃ Ft', HdIs w' p t Ft' S W (A.erase x) (A.erase x) (updT T x bun0) ∧ Step Ft Ft' w w' := by
  obtain ⟨Fl, hl, hFl, hnt⟩ := h.ln
  obtain ⟨D, hD⟩ := h.tk
  have htl := h.lt t h.ft
  have hH := hide h
  have hlt : ∀ b, Fl b → b < w.heap.size := hl.lt
  replace hl := hide hl
  replace hD := hide hD
  clear h
  go_enter Tryz.func156, Tryz.ntmps156
  go_wp2_with fail
  go_at_call 147
  refine (remove_c p Fl S W x A _ ((unhide hl).alloc _)).mono ?_
  rintro e w1 ⟨rfl, Fl1, hn1, hs1⟩
  have k1 := (hs1.keep (b := w.heap.size) (fun e => by have := hlt _ e; omega) (by simp)).1
  have kt := (hs1.keep (b := t) hnt (by simp; omega)).1
  have q1 : w1.cell? ⟨w.heap.size, 1, none⟩ = some (.map (some t)) := keep_cell k1 (by simp [go_sem])
  have hdel : Hid (∀ ty, ∃ w2, (Builtin.delete_ #[181, 3] ty #[.map (some t), .int .i64 x]).run Tryz.prog w1 = .ok (.tuple #[]) w2 ∧ ∃ D', TkIs w2 t (A.erase x) (updT T x bun0) D' ∧ FrS (· = t) w1 w2) :=
    fun ty => by
      obtain ⟨w2, D', q1, q2, q3⟩ := tk_del (K' := A.erase x) ((unhide hD).carry (kt.trans (Below.heap_alloc _ _ _ htl))) hx (fun k hk hne => (List.mem_erase_of_ne hne).2 hk) ty
      exact ⟨w2, q1, D', q2, q3⟩
  replace hn1 := hide hn1
  replace hs1 := hide hs1
  clear k1 kt
  go_wp2_with (at_delete; refine wpList_del rfl (.tmp 9) (.tmp 10) rfl rfl rfl (unhide hdel) ?_; intro w2 hD2; replace hD2 := hide hD2)
  refine bodyPost_end (v := .tuple #[]) (by simp [results, Tryz.results156]) rfl ⟨rfl, ?_⟩
  obtain ⟨D', h1, h2⟩ := unhide hD2
  exact (unhide hH).put hFl hnt ((Below.refl _ _).alloc (Nat.le_refl _) _) (unhide hn1) (unhide hs1) h1 h2
structure LnAt (w : World) (b : Nat) (l : Ln) : Prop where
  lt : b < w.heap.size
  c0 : w.cell? ⟨b, 0, none⟩ = some (.int .i64 l.b)
  c1 : w.cell? ⟨b, 1, none⟩ = some (.int .i64 l.t.n)
  c2 : w.cell? ⟨b, 2, none⟩ = some (.bool l.t.o)
  c3 : w.cell? ⟨b, 3, none⟩ = some (.bool l.t.h)
  c4 : w.cell? ⟨b, 4, none⟩ = some (.int .i64 l.t.d)
  f0 : w.frozen? ⟨b, 0, none⟩ = false
  f1 : w.frozen? ⟨b, 1, none⟩ = false
  f2 : w.frozen? ⟨b, 2, none⟩ = false
  f3 : w.frozen? ⟨b, 3, none⟩ = false
  f4 : w.frozen? ⟨b, 4, none⟩ = false
theorem LnAt.carry {w w' : World} {b : Nat} {l : Ln} (h : LnAt w b l) (e : w'.heap[b]? = w.heap[b]?) : LnAt w' b l :=
  ⟨block_lt h.lt e, keep_cell e h.c0, keep_cell e h.c1, keep_cell e h.c2, keep_cell e h.c3, keep_cell e h.c4, keep_frozen e h.f0, keep_frozen e h.f1, keep_frozen e h.f2, keep_frozen e h.f3, keep_frozen e h.f4⟩
theorem LnAt.below {w w' : World} {b : Nat} {l : Ln} (h : LnAt w b l) (hb : Below w.heap.size w w') : LnAt w' b l := h.carry (hb.block b h.lt)
theorem HdIs.below {w w' : World} {p t : Nat} {Ft : Nat → Prop} {S W : Int} {A K : List Int} {T : Int → Bun} (h : HdIs w p t Ft S W A K T) (hb : Below w.heap.size w w') : HdIs w' p t Ft S W A K T := h.carry fun b _ hl => hb.block b hl
theorem HdIs.inv {w : World} {p t : Nat} {Ft : Nat → Prop} {S W : Int} {A K : List Int} {T : Int → Bun} (h : HdIs w p t Ft S W A K T) : Inv S W A := by obtain ⟨Fl, h1, _⟩ := h.ln; exact h1.inv
theorem HdIs.quiet {w w' : World} {p t : Nat} {Ft : Nat → Prop} {S W : Int} {A K : List Int} {T : Int → Bun} (h : HdIs w p t Ft S W A K T) (hb : Below w.heap.size w w') : ∃ Ft', HdIs w' p t Ft' S W A K T ∧ Step Ft Ft' w w' := ⟨Ft, h.below hb, Step.of_below hb⟩
theorem HdIs.then {w w0 w' : World} {p t : Nat} {Ft : Nat → Prop} {S W : Int} {A K : List Int} {T : Int → Bun} (h : ∃ Ft', HdIs w0 p t Ft' S W A K T ∧ Step Ft Ft' w w0) (hb : Below w0.heap.size w0 w') : ∃ Ft', HdIs w' p t Ft' S W A K T ∧ Step Ft Ft' w w' := by
  obtain ⟨Ft', h1, h2⟩ := h
  exact ⟨Ft', h1.below hb, h2.trans (Step.of_below hb)⟩
theorem HdIs.fin {w w0 w' : World} {p t B : Nat} {Ft Ft2 : Nat → Prop} {S W : Int} {A K : List Int} {T : Int → Bun} (h : HdIs w0 p t Ft2 S W A K T ∧ Step Ft Ft2 w w0 ∧ ¬ Ft2 B) (hw : w.heap.size ≤ B) (hf : FrS (· = B) w0 w') : ∃ Ft', HdIs w' p t Ft' S W A K T ∧ Step Ft Ft' w w' := by
  obtain ⟨h1, h2, h3⟩ := h
  refine ⟨Ft2, h1.carry (fun b hb hl => hf.block b hl (fun e => h3 (e ▸ hb))), ⟨h2.fr.trans hf (fun i hi => .inr (by omega)), h2.new⟩⟩
theorem CaIs.quiet {w w' : World} {c : Nat} {Ft : Nat → Prop} {S W N : Int} {C : Ca} (h : CaIs w c Ft S W N C) (hb : Below w.heap.size w w') : ∃ Ft', CaIs w' c Ft' S W N C ∧ Step Ft Ft' w w' := ⟨Ft, h.below hb, Step.of_below hb⟩
theorem CaIs.fin {w w0 w' : World} {c B : Nat} {Ft Ft2 : Nat → Prop} {S W N : Int} {C : Ca} (h : CaIs w0 c Ft2 S W N C ∧ Step Ft Ft2 w w0 ∧ ¬ Ft2 B) (hw : w.heap.size ≤ B) (hf : FrS (· = B) w0 w') : ∃ Ft', CaIs w' c Ft' S W N C ∧ Step Ft Ft' w w' := by
  obtain ⟨h1, h2, h3⟩ := h
  refine ⟨Ft2, h1.carry (fun b hb hl => hf.block b hl (fun e => h3 (e ▸ hb))), ⟨h2.fr.trans hf (fun i hi => .inr (by omega)), h2.new⟩⟩
theorem HdIs.turn {w wz w1 : World} {p t : Nat} {Ft Fl Fl1 : Nat → Prop} {S W : Int} {A A' K : List Int} {T : Int → Bun} {D : DataW Value} (h : HdIs w p t Ft S W A K T) (hFl : ∀ b, Fl b → Ft b) (hnt : ¬ Fl t) (hz : Below w.heap.size w wz) (hn1 : LnIs w1 p Fl1 S W A') (hs1 : Step Fl Fl1 wz w1) (hD : TkIs w t K T D) :
    ∃ Ft', HdIs w1 p t Ft' S W A' K T ∧ Step Ft Ft' w w1 := by
  have htl := h.lt t h.ft
  have s1 := hz.size
  exact h.put hFl hnt hz hn1 hs1 (hD.carry ((hs1.keep hnt (by omega)).1.trans (hz.block t htl))) (FrS.refl _ _)
theorem HdIs.retok {w w1 : World} {p t : Nat} {Ft : Nat → Prop} {S W : Int} {A K K' : List Int} {T T' : Int → Bun} {D : DataW Value} (h : HdIs w p t Ft S W A K T) (hD : TkIs w1 t K' T' D) (hf : FrS (· = t) w w1) :
    ∃ Ft', HdIs w1 p t Ft' S W A K' T' ∧ Step Ft Ft' w w1 := by
  obtain ⟨Fl, hl, hFl, hnt⟩ := h.ln
  exact h.put hFl hnt (Below.refl _ _) hl (Step.refl _ _) hD hf
theorem tk_putE {w : World} {t : Nat} {K K' : List Int} {T : Int → Bun} {D : DataW Value} (h : TkIs w t K T D) {x : Int} (hx : I64 x) (b : Bun) (hK : ∀ k, k ∈ K → k ∈ K') (hxK : x ∈ K') (hl : K'.length ≤ 2000) :
    ∃ w2, (Instr.mapUpdate 181 (.map (some t)) (.int .i64 x) (bunV b)).run Tryz.prog w = .ok () w2 ∧ ∃ D', TkIs w2 t K' (updT T x b) D' ∧ FrS (· = t) w w2 := by
  obtain ⟨w2, D', h1, h2, h3⟩ := tk_put h hx b hK hxK hl
  exact ⟨w2, h1, D', h2, h3⟩
structure OpAt (w : World) (b : Nat) (x : Int) (wr : Bool) (v : Int) : Prop where
  lt : b < w.heap.size
  c0 : w.cell? ⟨b, 0, none⟩ = some (.int .i64 x)
  c1 : w.cell? ⟨b, 1, none⟩ = some (.bool wr)
  c2 : w.cell? ⟨b, 2, none⟩ = some (.int .i64 v)
theorem OpAt.carry {w w' : World} {b : Nat} {x : Int} {wr : Bool} {v : Int} (h : OpAt w b x wr v) (e : w'.heap[b]? = w.heap[b]?) : OpAt w' b x wr v := ⟨block_lt h.lt e, keep_cell e h.c0, keep_cell e h.c1, keep_cell e h.c2⟩
theorem OpAt.below {w w' : World} {b : Nat} {x : Int} {wr : Bool} {v : Int} (h : OpAt w b x wr v) (hb : Below w.heap.size w w') : OpAt w' b x wr v := h.carry (hb.block b h.lt)
theorem OpAt.fr {w w' : World} {b : Nat} {x : Int} {wr : Bool} {v : Int} {F : Nat → Prop} (h : OpAt w b x wr v) (hf : FrS F w w') (hn : ¬ F b) : OpAt w' b x wr v := h.carry (hf.block b h.lt hn)
theorem op_new (w : World) (x : Int) (wr : Bool) (v : Int) (T : TypeId) : OpAt (w.alloc (.cells #[.int .i64 x, .bool wr, .int .i64 v] T)) w.heap.size x wr v :=
  ⟨by simp, cell_of_row _ _ _ _ _ _ (heap_alloc_new w _), cell_of_row _ _ _ _ _ _ (heap_alloc_new w _), cell_of_row _ _ _ _ _ _ (heap_alloc_new w _)⟩
structure DoMid (w w3 : World) (B : Nat) (x : Int) (wr : Bool) (v : Int) (b : Bun) : Prop where
  bel : Below w.heap.size w w3
  op : OpAt w3 w.heap.size x wr v
  bun : BunAt w3 B b
  new : w.heap.size < B
theorem DoMid.of {w w2 : World} {B : Nat} {x : Int} {wr : Bool} {v : Int} {b0 : Bun} (hB : Below w.heap.size w w2) (ho : OpAt w2 w.heap.size x wr v) (hb : BunAt w2 B b0) (hn : w.heap.size < B) (b : Bun) : DoMid w (setB w2 B b) B x wr v b := by
  obtain ⟨h1, h2⟩ := set_bun hb b
  exact ⟨hB.trans (h2.below (fun i hi => by omega) hB.size), ho.fr h2 (by omega), h1, hn⟩
theorem belA0 (w : World) (o : Obj) : Below w.heap.size w (w.alloc o) := (Below.refl _ _).alloc (Nat.le_refl _) _
set_option maxHeartbeats 2000000 in
theorem cDo_c (c : Nat) (Ft : Nat → Prop) (S W N x : Int) (wr : Bool) (v t : Int) (C : Ca) (w : World) (h : CaIs w c Ft S W N C) (hx : I64 x) (q : Bool) (r : Int) (C' : Ca) (hq : Hid (okDo C x wr t = q)) (hr : Hid (valDo C x wr v t = r)) (hC : Hid (nxDo C x wr v t = C')) :
    Calls Tryz.prog 74 #[ptr c, .agg #[.int .i64 x, .bool wr, .int .i64 v], .int .i64 t] w fun e w' => e = .returned (.tuple #[.int .i64 r, .bool q]) ∧ ∃ Ft', CaIs w' c Ft' S W N C' ∧ Step Ft Ft' w w' := by
  have hI' := hide (h.inv.dx x wr v t)
  rw [hC.out] at hI'
  have hH := hide h
  have hlt : ∀ b, Ft b → b < w.heap.size := h.lt
  obtain ⟨p, tb, Fh, c0, c1, hh, hF, hc⟩ := h.at'
  have hcl := h.lt c h.fc
  have hlen := h.inv.inv.len
  have hmem : Hid (q = true → x ∈ C.A) := fun e => (okDo_mem h.inv (hq.out.trans e)).1
  obtain ⟨D, hD⟩ := hh.tk
  have htl := hh.lt tb hh.ft
  replace hD := hide hD
  replace hh := hide hh
  have hFhw : ∀ b, Fh b → b < w.heap.size := fun b e => hlt b (hF b e)
  clear h
  obtain ⟨z, hz⟩ : ∃ z, Hid (C.T x = z) := ⟨_, rfl⟩
  obtain ⟨d', hd⟩ : ∃ d', Hid (datDo C x wr v t = d') := ⟨_, rfl⟩
  have hq1 : Hid (canB wr z.n z.h t = q) := by have := hq.out; rw [okDo, hz.out] at this; exact this
  have hd1 : Hid ((if (q && wr) = true then v else z.d) = d') := by have := hd.out; rw [datDo, hz.out, hq.out] at this; exact this
  have hr1 : Hid ((if q = true then d' else 0) = r) := by have := hr.out; rw [valDo, hd.out, hq.out] at this; exact this
  have hC1 := hC.out
  rw [nxDo, hq.out, hz.out, hd.out] at hC1
  replace hC1 := hide hC1
  clear hq hr hC
  go_enter Tryz.func74, Tryz.ntmps74
  go_wp2_with fail
  have ho0 := op_new w x wr v 33
  have hB0 : Below w.heap.size w (w.alloc (.cells #[.int .i64 x, .bool wr, .int .i64 v] 33)) := (Below.refl _ _).alloc (Nat.le_refl _) _
  obtain ⟨wb, hwb⟩ : ∃ wb, (w.alloc (.cells #[.int .i64 x, .bool wr, .int .i64 v] 33)) = wb := ⟨_, rfl⟩
  rw [hwb] at ho0 hB0 ⊢
  clear hwb
  obtain ⟨-, o0, o1, o2⟩ := id ho0
  go_wp2_with fail
  refine wp_region_noPanic ?_
  refine wp_region_held_drew (S := (fun w' => w'.cell? ⟨w.heap.size, 0, none⟩ = some (.int .i64 x) ∧ w'.cell? ⟨w.heap.size, 1, none⟩ = some (.bool wr) ∧ w'.cell? ⟨w.heap.size, 2, none⟩ = some (.int .i64 v))) (by kernel_rfl) ?_ (fun hHeld => ?_)
  · exact ⟨o0, o1, o2⟩
  have ho1 : OpAt wb.drew w.heap.size x wr v := ho0.carry rfl
  have hB1 : Below w.heap.size w wb.drew := hB0.drew
  obtain ⟨wd, hwd⟩ : ∃ wd, wb.drew = wd := ⟨_, rfl⟩
  rw [hwd] at hHeld ho1 hB1 ⊢
  clear hwd ho0 hB0 o0 o1 o2
  refine hTk 0 12 hHeld ?_
  refine hTk 1 13 hHeld ?_
  refine hTk 2 14 hHeld ?_
  refine hTk 3 15 hHeld ?_
  refine hTk 5 17 hHeld ?_
  refine hTwo 4 11 (fun K hK => ?_) fun K hK => ?_
  · go_simp
    go_at_call 108
    refine (cGet_c c Ft S W N x C wd ((unhide hH).below hB1) hx z hz).mono ?_
    rintro e w1 ⟨rfl, hb⟩
    have ho2 := ho1.below hb
    have hB2 := hB1.trans (hb.mono hB1.size)
    clear hb
    refine hK.out _ _ ?_ fun hHeld => ?_
    · exact ⟨ho2.c0, ho2.c1, ho2.c2⟩
    clear hK K
    try simp only [Act.put, za, zb, zc]
    refine hTwo 6 11 (fun K hK => ?_) fun K hK => ?_
    · go_simp
      go_at_call 116
      refine (do_c x wr v z.n z.o z.h z.d t w1 q hq1 d' r hd1 hr1).mono ?_
      rintro e w2 ⟨rfl, hb⟩
      have ho3 := ho2.below hb
      have hB3 := hB2.trans (hb.mono hB2.size)
      clear hb
      refine hK.out _ _ ?_ fun hHeld => ?_
      · exact ⟨ho3.c0, ho3.c1, ho3.c2⟩
      clear hK K
      try simp only [Act.put, za, zb, zc]
      refine hTk 7 11 hHeld ?_
      refine hTk 8 19 hHeld ?_
      refine hTk 9 20 hHeld ?_
      refine hTk 10 21 hHeld ?_
      refine hNo 11 fun K hK => ?_
      go_simp
      have ho4 := ho3.below (belA0 w2 (.cells #[.int .i64 0, .bool false, .bool false, .int .i64 0] 35))
      have hB4 := hB3.alloc hB3.size (.cells #[.int .i64 0, .bool false, .bool false, .int .i64 0] 35)
      have hy := bun_new w2 35
      have hn : w.heap.size < w2.heap.size := ho3.lt
      obtain ⟨B, eB⟩ : ∃ B, w2.heap.size = B := ⟨_, rfl⟩
      obtain ⟨w4, hw4⟩ : ∃ w4, w2.alloc (.cells #[.int .i64 0, .bool false, .bool false, .int .i64 0] 35) = w4 := ⟨_, rfl⟩
      rw [hw4] at ho4 hB4 hy ⊢
      rw [eB] at hy hn ⊢
      clear hw4 eB ho3 hB3
      refine hK.out _ _ ?_ fun hHeld => ?_
      · exact ⟨ho4.c0, ho4.c1, ho4.c2⟩
      clear hK K
      try simp only [Act.put, za, zb, zc]
      obtain ⟨y5, y0, y1, y2, y3, z0, z1, z2, z3⟩ := id hy
      refine hNo 12 fun K hK => ?_
      go_simp
      clear y5 y0 y1 y2 y3 z0 z1 z2 z3
      obtain ⟨w6, hw6⟩ : ∃ w6, setB w4 B ⟨z.n, z.o, z.h, d'⟩ = w6 := ⟨_, rfl⟩
      have M : DoMid w w6 B x wr v ⟨z.n, z.o, z.h, d'⟩ := by rw [← hw6]; exact DoMid.of hB4 ho4 hy hn _
      dsimp only [setB] at hw6
      rw [hw6]
      clear hw6
      refine hK.out _ _ ?_ fun hHeld => ?_
      · exact ⟨M.op.c0, M.op.c1, M.op.c2⟩
      clear hK K
      try simp only [Act.put, za, zb, zc]
      refine hTk 13 9 hHeld ?_
      refine hTk 14 10 hHeld ?_
      refine wpAnyH_done (by kernel_rfl) (NoPanic.normal ?_) _
      clear hHeld
      obtain ⟨M1, ⟨ol, o0, o1, o2⟩, hy, hn⟩ := M
      obtain ⟨y5, y0, y1, y2, y3, -, -, -, -⟩ := id hy
      have c0' := keep_cell (M1.block c hcl) c0
      have c1' := keep_cell (M1.block c hcl) c1
      replace M1 := hide M1
      replace hy := hide hy
      cases q
      · go_wp2_with fail
        refine bodyPost_ret (by simp [results, Tryz.results74, go_sem, *]; done) rfl ⟨rfl, ?_⟩
        obtain rfl : C = C' := by have := hC1.out; simpa using this
        exact (unhide hH).quiet (unhide M1)
      · have hxA : Hid (x ∈ C.A) := unhide hmem rfl
        have hlen2 : Hid ((nxUse C.A x).length ≤ 2000) := by have h1 := (unhide hH).inv.inv.nxUse x; have := h1.len; unfold Hid; omega
        obtain rfl : (⟨nxUse C.A x, updT C.T x ⟨z.n, z.o, z.h, d'⟩⟩ : Ca) = C' := by have := hC1.out; simpa using this
        go_wp2_with fail
        refine wp_region_noPanic ?_
        refine last_begin 8 (fun w' => w'.cell? ⟨c, 1, none⟩ = some (.map (some tb)) ∧ w'.cell? ⟨w.heap.size, 0, none⟩ = some (.int .i64 x) ∧ w'.cell? ⟨B, 0, none⟩ = some (.int .i64 z.n) ∧ w'.cell? ⟨B, 1, none⟩ = some (.bool z.o) ∧ w'.cell? ⟨B, 2, none⟩ = some (.bool z.h) ∧ w'.cell? ⟨B, 3, none⟩ = some (.int .i64 d')) (by kernel_rfl) ?_ fun hHeld => ?_
        · exact ⟨c1', o0, y0, y1, y2, y3⟩
        refine lTk 0 23 hHeld ?_
        refine lTk 1 24 hHeld ?_
        refine lTk 2 25 hHeld ?_
        refine lTk 3 26 hHeld ?_
        refine lTk 4 27 hHeld ?_
        refine lTk 5 28 hHeld ?_
        refine lTk 6 29 hHeld ?_
        refine lTk 7 30 hHeld ?_
        refine lNo 8 fun K hK => ?_
        refine wp_updE (.tmp 27) (.tmp 29) (.tmp 30) rfl rfl rfl rfl (tk_putE (K' := nxUse C.A x) ((unhide hD).carry ((unhide M1).drew.block tb htl)) hx ⟨z.n, z.o, z.h, d'⟩ (fun k hk => mem_nxUse.2 hk) (mem_nxUse.2 (unhide hxA)) (unhide hlen2)) ?_; intro w7 hw7
        refine hK.out _ _ (fun h => absurd rfl h) fun _ => ?_
        clear hK K
        try simp only [Act.put, za, zb, zc]
        refine last_done (by kernel_rfl) (NoPanic.normal ?_) _
        clear hHeld
        obtain ⟨D7, hD7, hf7⟩ := hw7
        obtain ⟨Fh7, hh7, hsh7⟩ := ((unhide hh).below (unhide M1).drew).retok hD7 hf7
        have hdr : Below w6.heap.size w6 w6.drew := (Below.refl _ _).drew
        have s6 := (unhide M1).size
        obtain ⟨k1, k2, k3⟩ := hsh7.keep (b := c) hc (show c < w6.heap.size by omega)
        obtain ⟨a1, a2, a3⟩ := hsh7.keep (b := w.heap.size) (fun e => by have := hFhw _ e; omega) (show w.heap.size < w6.heap.size from ol)
        have q0 : w7.cell? ⟨c, 0, none⟩ = some (ptr p) := keep_cell k1 c0'
        have q1 : w7.cell? ⟨w.heap.size, 0, none⟩ = some (.int .i64 x) := keep_cell a1 o0
        obtain ⟨Fl7, hl7, hFl7, hnt7⟩ := hh7.ln
        replace hl7 := hide hl7
        replace hh7 := hide hh7
        replace hsh7 := hide hsh7
        replace hD7 := hide hD7
        clear hf7 k1 a1 o0 o1 o2 y0 y1 y2 y3 c1'
        go_wp2_with fail
        refine wp_region_noPanic ?_
        refine wp_region_held_drew (S := (fun w' => w'.cell? ⟨c, 0, none⟩ = some (ptr p) ∧ w'.cell? ⟨w.heap.size, 0, none⟩ = some (.int .i64 x))) (by kernel_rfl) ?_ (fun hHeld => ?_)
        · exact ⟨q0, q1⟩
        refine hTk 0 31 hHeld ?_
        refine hTk 1 32 hHeld ?_
        refine hTk 2 33 hHeld ?_
        refine hTk 3 34 hHeld ?_
        refine hTk 4 35 hHeld ?_
        refine hTk 5 36 hHeld ?_
        refine hTk 6 37 hHeld ?_
        refine hNo 7 fun K hK => ?_
        go_simp
        go_at_call 117
        refine (use_c p Fl7 S W x C.A w7.drew ((unhide hl7).below (Below.refl _ _).drew) hx.2).mono ?_
        rintro e w8 ⟨rfl, Fl8, hn8, hs8⟩
        obtain ⟨Fh8, hh8, hsh8⟩ := (unhide hh7).turn hFl7 hnt7 (Below.refl _ _).drew hn8 hs8 (unhide hD7)
        obtain ⟨k1, -, -⟩ := hsh8.keep (b := c) k2 k3
        obtain ⟨a1, -, -⟩ := hsh8.keep (b := w.heap.size) a2 a3
        have q02 := keep_cell k1 q0
        have q12 := keep_cell a1 q1
        obtain ⟨Ft8, hn, hs⟩ := ((unhide hH).below (unhide M1)).back c0' (keep_cell ((unhide M1).block c hcl) c1) hF hc (unhide hI') hh8 (((Step.of_below hdr).trans (unhide hsh7)).trans hsh8)
        have hfin : Hid (∃ Ft', CaIs w8 c Ft' S W N ⟨nxUse C.A x, updT C.T x ⟨z.n, z.o, z.h, d'⟩⟩ ∧ Step Ft Ft' w w8) := ⟨Ft8, hn, (Step.of_below (unhide M1)).trans hs⟩
        clear hn hs hh8 hsh8 hn8 hs8 k1 a1
        refine hK.out _ _ ?_ fun hHeld => ?_
        · exact ⟨q02, q12⟩
        clear hK K
        try simp only [Act.put, za, zb, zc]
        refine wpAnyH_done (by kernel_rfl) (NoPanic.normal ?_) _
        clear hHeld
        go_wp2_with fail
        refine bodyPost_ret (by simp [results, Tryz.results74, go_sem, *]; done) rfl ⟨rfl, ?_⟩
        exact unhide hfin
    · go_simp
      have ho3 := ho2.below (belA0 w1 (.cells #[.int .i64 0, .bool false, .bool false, .int .i64 0] 35))
      have hB3 := hB2.alloc hB2.size (.cells #[.int .i64 0, .bool false, .bool false, .int .i64 0] 35)
      have hy := bun_new w1 35
      have hn : w.heap.size < w1.heap.size := ho2.lt
      obtain ⟨B, eB⟩ : ∃ B, w1.heap.size = B := ⟨_, rfl⟩
      obtain ⟨w4, hw4⟩ : ∃ w4, w1.alloc (.cells #[.int .i64 0, .bool false, .bool false, .int .i64 0] 35) = w4 := ⟨_, rfl⟩
      rw [hw4] at ho3 hB3 hy ⊢
      rw [eB] at hy hn ⊢
      clear hw4 eB ho2 hB2
      refine hK.out _ _ ?_ fun hHeld => ?_
      · exact ⟨ho3.c0, ho3.c1, ho3.c2⟩
      clear hK K
      try simp only [Act.put, za, zb, zc]
      refine hNo 6 fun K hK => ?_
      go_simp
      go_at_call 116
      refine (do_c x wr v z.n z.o z.h z.d t w4 q hq1 d' r hd1 hr1).mono ?_
      rintro e w5 ⟨rfl, hb⟩
      have ho5 := ho3.below hb
      have hB5 := hB3.trans (hb.mono hB3.size)
      replace hy := hy.below hb
      clear hb
      refine hK.out _ _ ?_ fun hHeld => ?_
      · exact ⟨ho5.c0, ho5.c1, ho5.c2⟩
      clear hK K
      try simp only [Act.put, za, zb, zc]
      refine hTk 7 11 hHeld ?_
      refine hTk 8 19 hHeld ?_
      refine hTk 9 20 hHeld ?_
      refine hTk 10 21 hHeld ?_
      obtain ⟨y5, y0, y1, y2, y3, z0, z1, z2, z3⟩ := id hy
      refine hNo 12 fun K hK => ?_
      go_simp
      clear y5 y0 y1 y2 y3 z0 z1 z2 z3
      obtain ⟨w6, hw6⟩ : ∃ w6, setB w5 B ⟨z.n, z.o, z.h, d'⟩ = w6 := ⟨_, rfl⟩
      have M : DoMid w w6 B x wr v ⟨z.n, z.o, z.h, d'⟩ := by rw [← hw6]; exact DoMid.of hB5 ho5 hy hn _
      dsimp only [setB] at hw6
      rw [hw6]
      clear hw6
      refine hK.out _ _ ?_ fun hHeld => ?_
      · exact ⟨M.op.c0, M.op.c1, M.op.c2⟩
      clear hK K
      try simp only [Act.put, za, zb, zc]
      refine hTk 13 9 hHeld ?_
      refine hTk 14 10 hHeld ?_
      refine wpAnyH_done (by kernel_rfl) (NoPanic.normal ?_) _
      clear hHeld
      obtain ⟨M1, ⟨ol, o0, o1, o2⟩, hy, hn⟩ := M
      obtain ⟨y5, y0, y1, y2, y3, -, -, -, -⟩ := id hy
      have c0' := keep_cell (M1.block c hcl) c0
      have c1' := keep_cell (M1.block c hcl) c1
      replace M1 := hide M1
      replace hy := hide hy
      cases q
      · go_wp2_with fail
        refine bodyPost_ret (by simp [results, Tryz.results74, go_sem, *]; done) rfl ⟨rfl, ?_⟩
        obtain rfl : C = C' := by have := hC1.out; simpa using this
        exact (unhide hH).quiet (unhide M1)
      · have hxA : Hid (x ∈ C.A) := unhide hmem rfl
        have hlen2 : Hid ((nxUse C.A x).length ≤ 2000) := by have h1 := (unhide hH).inv.inv.nxUse x; have := h1.len; unfold Hid; omega
        obtain rfl : (⟨nxUse C.A x, updT C.T x ⟨z.n, z.o, z.h, d'⟩⟩ : Ca) = C' := by have := hC1.out; simpa using this
        go_wp2_with fail
        refine wp_region_noPanic ?_
        refine last_begin 8 (fun w' => w'.cell? ⟨c, 1, none⟩ = some (.map (some tb)) ∧ w'.cell? ⟨w.heap.size, 0, none⟩ = some (.int .i64 x) ∧ w'.cell? ⟨B, 0, none⟩ = some (.int .i64 z.n) ∧ w'.cell? ⟨B, 1, none⟩ = some (.bool z.o) ∧ w'.cell? ⟨B, 2, none⟩ = some (.bool z.h) ∧ w'.cell? ⟨B, 3, none⟩ = some (.int .i64 d')) (by kernel_rfl) ?_ fun hHeld => ?_
        · exact ⟨c1', o0, y0, y1, y2, y3⟩
        refine lTk 0 23 hHeld ?_
        refine lTk 1 24 hHeld ?_
        refine lTk 2 25 hHeld ?_
        refine lTk 3 26 hHeld ?_
        refine lTk 4 27 hHeld ?_
        refine lTk 5 28 hHeld ?_
        refine lTk 6 29 hHeld ?_
        refine lTk 7 30 hHeld ?_
        refine lNo 8 fun K hK => ?_
        refine wp_updE (.tmp 27) (.tmp 29) (.tmp 30) rfl rfl rfl rfl (tk_putE (K' := nxUse C.A x) ((unhide hD).carry ((unhide M1).drew.block tb htl)) hx ⟨z.n, z.o, z.h, d'⟩ (fun k hk => mem_nxUse.2 hk) (mem_nxUse.2 (unhide hxA)) (unhide hlen2)) ?_; intro w7 hw7
        refine hK.out _ _ (fun h => absurd rfl h) fun _ => ?_
        clear hK K
        try simp only [Act.put, za, zb, zc]
        refine last_done (by kernel_rfl) (NoPanic.normal ?_) _
        clear hHeld
        obtain ⟨D7, hD7, hf7⟩ := hw7
        obtain ⟨Fh7, hh7, hsh7⟩ := ((unhide hh).below (unhide M1).drew).retok hD7 hf7
        have hdr : Below w6.heap.size w6 w6.drew := (Below.refl _ _).drew
        have s6 := (unhide M1).size
        obtain ⟨k1, k2, k3⟩ := hsh7.keep (b := c) hc (show c < w6.heap.size by omega)
        obtain ⟨a1, a2, a3⟩ := hsh7.keep (b := w.heap.size) (fun e => by have := hFhw _ e; omega) (show w.heap.size < w6.heap.size from ol)
        have q0 : w7.cell? ⟨c, 0, none⟩ = some (ptr p) := keep_cell k1 c0'
        have q1 : w7.cell? ⟨w.heap.size, 0, none⟩ = some (.int .i64 x) := keep_cell a1 o0
        obtain ⟨Fl7, hl7, hFl7, hnt7⟩ := hh7.ln
        replace hl7 := hide hl7
        replace hh7 := hide hh7
        replace hsh7 := hide hsh7
        replace hD7 := hide hD7
        clear hf7 k1 a1 o0 o1 o2 y0 y1 y2 y3 c1'
        go_wp2_with fail
        refine wp_region_noPanic ?_
        refine wp_region_held_drew (S := (fun w' => w'.cell? ⟨c, 0, none⟩ = some (ptr p) ∧ w'.cell? ⟨w.heap.size, 0, none⟩ = some (.int .i64 x))) (by kernel_rfl) ?_ (fun hHeld => ?_)
        · exact ⟨q0, q1⟩
        refine hTk 0 31 hHeld ?_
        refine hTk 1 32 hHeld ?_
        refine hTk 2 33 hHeld ?_
        refine hTk 3 34 hHeld ?_
        refine hTk 4 35 hHeld ?_
        refine hTk 5 36 hHeld ?_
        refine hTk 6 37 hHeld ?_
        refine hNo 7 fun K hK => ?_
        go_simp
        go_at_call 117
        refine (use_c p Fl7 S W x C.A w7.drew ((unhide hl7).below (Below.refl _ _).drew) hx.2).mono ?_
        rintro e w8 ⟨rfl, Fl8, hn8, hs8⟩
        obtain ⟨Fh8, hh8, hsh8⟩ := (unhide hh7).turn hFl7 hnt7 (Below.refl _ _).drew hn8 hs8 (unhide hD7)
        obtain ⟨k1, -, -⟩ := hsh8.keep (b := c) k2 k3
        obtain ⟨a1, -, -⟩ := hsh8.keep (b := w.heap.size) a2 a3
        have q02 := keep_cell k1 q0
        have q12 := keep_cell a1 q1
        obtain ⟨Ft8, hn, hs⟩ := ((unhide hH).below (unhide M1)).back c0' (keep_cell ((unhide M1).block c hcl) c1) hF hc (unhide hI') hh8 (((Step.of_below hdr).trans (unhide hsh7)).trans hsh8)
        have hfin : Hid (∃ Ft', CaIs w8 c Ft' S W N ⟨nxUse C.A x, updT C.T x ⟨z.n, z.o, z.h, d'⟩⟩ ∧ Step Ft Ft' w w8) := ⟨Ft8, hn, (Step.of_below (unhide M1)).trans hs⟩
        clear hn hs hh8 hsh8 hn8 hs8 k1 a1
        refine hK.out _ _ ?_ fun hHeld => ?_
        · exact ⟨q02, q12⟩
        clear hK K
        try simp only [Act.put, za, zb, zc]
        refine wpAnyH_done (by kernel_rfl) (NoPanic.normal ?_) _
        clear hHeld
        go_wp2_with fail
        refine bodyPost_ret (by simp [results, Tryz.results74, go_sem, *]; done) rfl ⟨rfl, ?_⟩
        exact unhide hfin
  · go_simp
    have ho2 := ho1.below (belA0 wd (.cells #[.int .i64 0, .bool false, .bool false, .int .i64 0] 35))
    have hB2 := hB1.alloc hB1.size (.cells #[.int .i64 0, .bool false, .bool false, .int .i64 0] 35)
    have hy := bun_new wd 35
    have hn : w.heap.size < wd.heap.size := ho1.lt
    obtain ⟨B, eB⟩ : ∃ B, wd.heap.size = B := ⟨_, rfl⟩
    obtain ⟨w1, hw1⟩ : ∃ w1, wd.alloc (.cells #[.int .i64 0, .bool false, .bool false, .int .i64 0] 35) = w1 := ⟨_, rfl⟩
    rw [hw1] at ho2 hB2 hy ⊢
    rw [eB] at hy hn ⊢
    clear hw1 eB ho1 hB1
    refine hK.out _ _ ?_ fun hHeld => ?_
    · exact ⟨ho2.c0, ho2.c1, ho2.c2⟩
    clear hK K
    try simp only [Act.put, za, zb, zc]
    refine hNo 4 fun K hK => ?_
    go_simp
    go_at_call 108
    refine (cGet_c c Ft S W N x C w1 ((unhide hH).below hB2) hx z hz).mono ?_
    rintro e w4 ⟨rfl, hb⟩
    have ho3 := ho2.below hb
    have hB3 := hB2.trans (hb.mono hB2.size)
    replace hy := hy.below hb
    clear hb
    refine hK.out _ _ ?_ fun hHeld => ?_
    · exact ⟨ho3.c0, ho3.c1, ho3.c2⟩
    clear hK K
    try simp only [Act.put, za, zb, zc]
    refine hNo 6 fun K hK => ?_
    go_simp
    go_at_call 116
    refine (do_c x wr v z.n z.o z.h z.d t w4 q hq1 d' r hd1 hr1).mono ?_
    rintro e w5 ⟨rfl, hb⟩
    have ho5 := ho3.below hb
    have hB5 := hB3.trans (hb.mono hB3.size)
    replace hy := hy.below hb
    clear hb
    refine hK.out _ _ ?_ fun hHeld => ?_
    · exact ⟨ho5.c0, ho5.c1, ho5.c2⟩
    clear hK K
    try simp only [Act.put, za, zb, zc]
    refine hTk 7 11 hHeld ?_
    refine hTk 8 19 hHeld ?_
    refine hTk 9 20 hHeld ?_
    refine hTk 10 21 hHeld ?_
    obtain ⟨y5, y0, y1, y2, y3, z0, z1, z2, z3⟩ := id hy
    refine hNo 12 fun K hK => ?_
    go_simp
    clear y5 y0 y1 y2 y3 z0 z1 z2 z3
    obtain ⟨w6, hw6⟩ : ∃ w6, setB w5 B ⟨z.n, z.o, z.h, d'⟩ = w6 := ⟨_, rfl⟩
    have M : DoMid w w6 B x wr v ⟨z.n, z.o, z.h, d'⟩ := by rw [← hw6]; exact DoMid.of hB5 ho5 hy hn _
    dsimp only [setB] at hw6
    rw [hw6]
    clear hw6
    refine hK.out _ _ ?_ fun hHeld => ?_
    · exact ⟨M.op.c0, M.op.c1, M.op.c2⟩
    clear hK K
    try simp only [Act.put, za, zb, zc]
    refine hTk 13 9 hHeld ?_
    refine hTk 14 10 hHeld ?_
    refine wpAnyH_done (by kernel_rfl) (NoPanic.normal ?_) _
    clear hHeld
    obtain ⟨M1, ⟨ol, o0, o1, o2⟩, hy, hn⟩ := M
    obtain ⟨y5, y0, y1, y2, y3, -, -, -, -⟩ := id hy
    have c0' := keep_cell (M1.block c hcl) c0
    have c1' := keep_cell (M1.block c hcl) c1
    replace M1 := hide M1
    replace hy := hide hy
    cases q
    · go_wp2_with fail
      refine bodyPost_ret (by simp [results, Tryz.results74, go_sem, *]; done) rfl ⟨rfl, ?_⟩
      obtain rfl : C = C' := by have := hC1.out; simpa using this
      exact (unhide hH).quiet (unhide M1)
    · have hxA : Hid (x ∈ C.A) := unhide hmem rfl
      have hlen2 : Hid ((nxUse C.A x).length ≤ 2000) := by have h1 := (unhide hH).inv.inv.nxUse x; have := h1.len; unfold Hid; omega
      obtain rfl : (⟨nxUse C.A x, updT C.T x ⟨z.n, z.o, z.h, d'⟩⟩ : Ca) = C' := by have := hC1.out; simpa using this
      go_wp2_with fail
      refine wp_region_noPanic ?_
      refine last_begin 8 (fun w' => w'.cell? ⟨c, 1, none⟩ = some (.map (some tb)) ∧ w'.cell? ⟨w.heap.size, 0, none⟩ = some (.int .i64 x) ∧ w'.cell? ⟨B, 0, none⟩ = some (.int .i64 z.n) ∧ w'.cell? ⟨B, 1, none⟩ = some (.bool z.o) ∧ w'.cell? ⟨B, 2, none⟩ = some (.bool z.h) ∧ w'.cell? ⟨B, 3, none⟩ = some (.int .i64 d')) (by kernel_rfl) ?_ fun hHeld => ?_
      · exact ⟨c1', o0, y0, y1, y2, y3⟩
      refine lTk 0 23 hHeld ?_
      refine lTk 1 24 hHeld ?_
      refine lTk 2 25 hHeld ?_
      refine lTk 3 26 hHeld ?_
      refine lTk 4 27 hHeld ?_
      refine lTk 5 28 hHeld ?_
      refine lTk 6 29 hHeld ?_
      refine lTk 7 30 hHeld ?_
      refine lNo 8 fun K hK => ?_
      refine wp_updE (.tmp 27) (.tmp 29) (.tmp 30) rfl rfl rfl rfl (tk_putE (K' := nxUse C.A x) ((unhide hD).carry ((unhide M1).drew.block tb htl)) hx ⟨z.n, z.o, z.h, d'⟩ (fun k hk => mem_nxUse.2 hk) (mem_nxUse.2 (unhide hxA)) (unhide hlen2)) ?_; intro w7 hw7
      refine hK.out _ _ (fun h => absurd rfl h) fun _ => ?_
      clear hK K
      try simp only [Act.put, za, zb, zc]
      refine last_done (by kernel_rfl) (NoPanic.normal ?_) _
      clear hHeld
      obtain ⟨D7, hD7, hf7⟩ := hw7
      obtain ⟨Fh7, hh7, hsh7⟩ := ((unhide hh).below (unhide M1).drew).retok hD7 hf7
      have hdr : Below w6.heap.size w6 w6.drew := (Below.refl _ _).drew
      have s6 := (unhide M1).size
      obtain ⟨k1, k2, k3⟩ := hsh7.keep (b := c) hc (show c < w6.heap.size by omega)
      obtain ⟨a1, a2, a3⟩ := hsh7.keep (b := w.heap.size) (fun e => by have := hFhw _ e; omega) (show w.heap.size < w6.heap.size from ol)
      have q0 : w7.cell? ⟨c, 0, none⟩ = some (ptr p) := keep_cell k1 c0'
      have q1 : w7.cell? ⟨w.heap.size, 0, none⟩ = some (.int .i64 x) := keep_cell a1 o0
      obtain ⟨Fl7, hl7, hFl7, hnt7⟩ := hh7.ln
      replace hl7 := hide hl7
      replace hh7 := hide hh7
      replace hsh7 := hide hsh7
      replace hD7 := hide hD7
      clear hf7 k1 a1 o0 o1 o2 y0 y1 y2 y3 c1'
      go_wp2_with fail
      refine wp_region_noPanic ?_
      refine wp_region_held_drew (S := (fun w' => w'.cell? ⟨c, 0, none⟩ = some (ptr p) ∧ w'.cell? ⟨w.heap.size, 0, none⟩ = some (.int .i64 x))) (by kernel_rfl) ?_ (fun hHeld => ?_)
      · exact ⟨q0, q1⟩
      refine hTk 0 31 hHeld ?_
      refine hTk 1 32 hHeld ?_
      refine hTk 2 33 hHeld ?_
      refine hTk 3 34 hHeld ?_
      refine hTk 4 35 hHeld ?_
      refine hTk 5 36 hHeld ?_
      refine hTk 6 37 hHeld ?_
      refine hNo 7 fun K hK => ?_
      go_simp
      go_at_call 117
      refine (use_c p Fl7 S W x C.A w7.drew ((unhide hl7).below (Below.refl _ _).drew) hx.2).mono ?_
      rintro e w8 ⟨rfl, Fl8, hn8, hs8⟩
      obtain ⟨Fh8, hh8, hsh8⟩ := (unhide hh7).turn hFl7 hnt7 (Below.refl _ _).drew hn8 hs8 (unhide hD7)
      obtain ⟨k1, -, -⟩ := hsh8.keep (b := c) k2 k3
      obtain ⟨a1, -, -⟩ := hsh8.keep (b := w.heap.size) a2 a3
      have q02 := keep_cell k1 q0
      have q12 := keep_cell a1 q1
      obtain ⟨Ft8, hn, hs⟩ := ((unhide hH).below (unhide M1)).back c0' (keep_cell ((unhide M1).block c hcl) c1) hF hc (unhide hI') hh8 (((Step.of_below hdr).trans (unhide hsh7)).trans hsh8)
      have hfin : Hid (∃ Ft', CaIs w8 c Ft' S W N ⟨nxUse C.A x, updT C.T x ⟨z.n, z.o, z.h, d'⟩⟩ ∧ Step Ft Ft' w w8) := ⟨Ft8, hn, (Step.of_below (unhide M1)).trans hs⟩
      clear hn hs hh8 hsh8 hn8 hs8 k1 a1
      refine hK.out _ _ ?_ fun hHeld => ?_
      · exact ⟨q02, q12⟩
      clear hK K
      try simp only [Act.put, za, zb, zc]
      refine wpAnyH_done (by kernel_rfl) (NoPanic.normal ?_) _
      clear hHeld
      go_wp2_with fail
      refine bodyPost_ret (by simp [results, Tryz.results74, go_sem, *]; done) rfl ⟨rfl, ?_⟩
      exact unhide hfin
set_option maxHeartbeats 2000000 in
theorem cTake_c (c : Nat) (Ft : Nat → Prop) (S W N x n : Int) (o d : Bool) (C : Ca) (w : World) (h : CaIs w c Ft S W N C) (hx : I64 x) (hN : N ≤ 9223372036854775807) (g : Bun) (C' : Ca) (hg : Hid (givenB (C.T x) n o d = g)) (hC : Hid (nxTk C x n o = C')) :
    Calls Tryz.prog 127 #[ptr c, .int .i64 x, .int .i64 n, .bool o, .bool d] w fun e w' => e = .returned (.agg #[.int .i64 g.n, .bool g.o, .bool g.h, .int .i64 g.d]) ∧ ∃ Ft', CaIs w' c Ft' S W N C' ∧ Step Ft Ft' w w' := by
  have hI' := hide (h.inv.tk x n o)
  rw [hC.out] at hI'
  have hH := hide h
  have hlt : ∀ b, Ft b → b < w.heap.size := h.lt
  obtain ⟨p, t, Fh, c0, c1, hh, hF, hc⟩ := h.at'
  have hcl := h.lt c h.fc
  have hlen := h.inv.inv.len
  have hz1 := h.inv.le x
  have hzk := hide (h.inv.ok x)
  have hmem := hide (h.inv.mem (x := x))
  clear h
  obtain ⟨D, hD⟩ := hh.tk
  have htl := hh.lt t hh.ft
  replace hD := hide hD
  replace hh := hide hh
  have hFhw : ∀ b, Fh b → b < w.heap.size := fun b e => hlt b (hF b e)
  obtain ⟨z, hz⟩ : ∃ z, Hid (C.T x = z) := ⟨_, rfl⟩
  obtain ⟨s, hs⟩ : ∃ s, Hid (restB z n o = s) := ⟨_, rfl⟩
  have hC1 := hC.out
  rw [nxTk, hz.out, hs.out] at hC1
  rw [hz.out] at hz1 hzk hg hmem
  have hsk := (restB_ok (unhide hzk) n o)
  rw [hs.out] at hsk
  clear hC
  by_cases s0 : s.n = 0
  · rw [if_pos s0] at hC1
    subst hC1
    have e0 := ok_zero hsk.1 s0
    subst e0
    clear hsk s0
    go_enter Tryz.func127, Tryz.ntmps127
    go_wp2_with (first | (go_at_call 108; refine (cGet_c c Ft S W N x C _ ((unhide hH).below (by all_goals exact belEnd)) hx z hz).mono ?_; rintro e w' ⟨rfl, hb⟩; obtain ⟨x1, rfl⟩ := over hb; clear hb; have f1 := x1.upB (w.heap.size); have f2 := x1.upB c) | (go_at_call 155; refine (split_c z.n z.o z.h z.d n o d _ (by omega) (unhide hzk) g _ hg hs).mono ?_; rintro e w' ⟨rfl, hb⟩; obtain ⟨x2, rfl⟩ := over2 hb; clear hb; have g1 := x2.upB (w.heap.size); have g2 := x2.upB c))
    go_at_call 156
    refine (leave_c p t Fh S W x C.A C.T _ ((unhide hh).below (by all_goals exact belEnd)) hx).mono ?_
    rintro e w3 ⟨rfl, Fh3, hh3, hsh3⟩
    obtain ⟨Ft3, hn3, hs3⟩ := ((unhide hH).below (by all_goals exact belEnd)).back (by simp [go_sem, *]) (by simp [go_sem, *]) hF hc (unhide hI') hh3 hsh3
    obtain ⟨k1, k2, k3⟩ := hs3.keep (b := w.heap.size) (fun e => by have := hlt _ e; omega) (by first | (simp; done) | (simp; omega))
    obtain ⟨a1, a2, a3⟩ := hs3.keep (b := x2.w.heap.size) (fun e => by have := hlt _ e; omega) (by first | (simp; done) | (simp; omega))
    have y : BunAt w3 w.heap.size bun0 := ⟨k3, keep_cell k1 (by simp [go_sem, *]), keep_cell k1 (by simp [go_sem, *]), keep_cell k1 (by simp [go_sem, *]), keep_cell k1 (by simp [go_sem, *]), keep_frozen k1 (by simp [go_sem, *]), keep_frozen k1 (by simp [go_sem, *]), keep_frozen k1 (by simp [go_sem, *]), keep_frozen k1 (by simp [go_sem, *])⟩
    have u : BunAt w3 x2.w.heap.size g := ⟨a3, keep_cell a1 (by simp [go_sem, *]), keep_cell a1 (by simp [go_sem, *]), keep_cell a1 (by simp [go_sem, *]), keep_cell a1 (by simp [go_sem, *]), keep_frozen a1 (by simp [go_sem, *]), keep_frozen a1 (by simp [go_sem, *]), keep_frozen a1 (by simp [go_sem, *]), keep_frozen a1 (by simp [go_sem, *])⟩
    have hfin : Hid (CaIs w3 c Ft3 S W N ⟨C.A.erase x, updT C.T x bun0⟩ ∧ Step Ft Ft3 w w3 ∧ ¬ Ft3 w.heap.size) := ⟨hn3, (Step.of_below (by all_goals exact belEnd)).trans hs3, k2⟩
    obtain ⟨y5, y0, y1, y2, y3, z0, z1, z2, z3⟩ := y
    obtain ⟨u5, u0, u1, u2, u3, -, -, -, -⟩ := u
    clear hn3 hs3 hh3 hsh3 k1 k2 k3 a1 a2 a3
    go_wp2_with fail
    refine bodyPost_ret (by simp [results, Tryz.results127, go_sem, *]; done) rfl ⟨rfl, ?_⟩
    refine CaIs.fin (unhide hfin) (by omega) ?_
    repeat' first | with_reducible exact FrS.refl _ _ | refine FrS.wr ?_ _
  · rw [if_neg s0] at hC1
    subst hC1
    have hx' : x ∈ C.A := (unhide hmem).2 (by have := hsk.1.1; have := hsk.2; omega)
    replace hx' := hide hx'
    replace hsk := hide hsk
    go_enter Tryz.func127, Tryz.ntmps127
    go_wp2_with (first | (go_at_call 108; refine (cGet_c c Ft S W N x C _ ((unhide hH).below (by all_goals exact belEnd)) hx z hz).mono ?_; rintro e w' ⟨rfl, hb⟩; obtain ⟨x1, rfl⟩ := over hb; clear hb; have f1 := x1.upB (w.heap.size); have f2 := x1.upB c) | (go_at_call 155; refine (split_c z.n z.o z.h z.d n o d _ (by omega) (unhide hzk) g _ hg hs).mono ?_; rintro e w' ⟨rfl, hb⟩; obtain ⟨x2, rfl⟩ := over2 hb; clear hb; have g1 := x2.upB (w.heap.size); have g2 := x2.upB c; have g3 := x2.upB t))
    go_wp2_with fail
    refine wp_region_noPanic ?_
    refine last_begin 7 (fun w' => w'.cell? ⟨c, 1, none⟩ = some (.map (some t)) ∧ w'.cell? ⟨x2.w.heap.size + 1, 0, none⟩ = some (.int .i64 s.n) ∧ w'.cell? ⟨x2.w.heap.size + 1, 1, none⟩ = some (.bool s.o) ∧ w'.cell? ⟨x2.w.heap.size + 1, 2, none⟩ = some (.bool s.h) ∧ w'.cell? ⟨x2.w.heap.size + 1, 3, none⟩ = some (.int .i64 s.d)) (by kernel_rfl) ?_ fun hHeld => ?_
    · exact ⟨by simp [go_sem, *], by simp [go_sem, *], by simp [go_sem, *], by simp [go_sem, *], by simp [go_sem, *]⟩
    refine lTk 0 32 hHeld ?_
    refine lTk 1 33 hHeld ?_
    refine lTk 2 34 hHeld ?_
    refine lTk 3 35 hHeld ?_
    refine lTk 4 36 hHeld ?_
    refine lTk 5 37 hHeld ?_
    refine lTk 6 38 hHeld ?_
    refine lNo 7 fun K hK => ?_
    refine wp_updE (.tmp 36) (.tmp 37) (.tmp 38) rfl rfl rfl rfl (tk_putE (K' := C.A) ((unhide hD).carry (Below.block (B := w.heap.size) (by all_goals exact belEnd) t htl)) hx s (fun k hk => hk) (unhide hx') (by omega)) ?_; intro w3 hw3
    refine hK.out _ _ (fun h => absurd rfl h) fun _ => ?_
    clear hK K
    try simp only [Act.put, za, zb, zc]
    refine last_done (by kernel_rfl) (NoPanic.normal ?_) _
    clear hHeld
    obtain ⟨D3, hD3, hf3⟩ := hw3
    obtain ⟨Fh3, hh3, hsh3⟩ := ((unhide hh).below (by all_goals exact belEnd)).retok hD3 hf3
    obtain ⟨Ft3, hn3, hs3⟩ := ((unhide hH).below (by all_goals exact belEnd)).back (by simp [go_sem, *]) (by simp [go_sem, *]) hF hc (unhide hI') hh3 hsh3
    obtain ⟨k1, k2, k3⟩ := hs3.keep (b := w.heap.size) (fun e => by have := hlt _ e; omega) (by first | (simp; done) | (simp; omega))
    obtain ⟨a1, a2, a3⟩ := hs3.keep (b := x2.w.heap.size) (fun e => by have := hlt _ e; omega) (by first | (simp; done) | (simp; omega))
    have y : BunAt w3 w.heap.size bun0 := ⟨k3, keep_cell k1 (by simp [go_sem, *]), keep_cell k1 (by simp [go_sem, *]), keep_cell k1 (by simp [go_sem, *]), keep_cell k1 (by simp [go_sem, *]), keep_frozen k1 (by simp [go_sem, *]), keep_frozen k1 (by simp [go_sem, *]), keep_frozen k1 (by simp [go_sem, *]), keep_frozen k1 (by simp [go_sem, *])⟩
    have u : BunAt w3 x2.w.heap.size g := ⟨a3, keep_cell a1 (by simp [go_sem, *]), keep_cell a1 (by simp [go_sem, *]), keep_cell a1 (by simp [go_sem, *]), keep_cell a1 (by simp [go_sem, *]), keep_frozen a1 (by simp [go_sem, *]), keep_frozen a1 (by simp [go_sem, *]), keep_frozen a1 (by simp [go_sem, *]), keep_frozen a1 (by simp [go_sem, *])⟩
    have hfin : Hid (CaIs w3 c Ft3 S W N ⟨C.A, updT C.T x s⟩ ∧ Step Ft Ft3 w w3 ∧ ¬ Ft3 w.heap.size) := ⟨hn3, (Step.of_below (by all_goals exact belEnd)).trans hs3, k2⟩
    obtain ⟨y5, y0, y1, y2, y3, z0, z1, z2, z3⟩ := y
    obtain ⟨u5, u0, u1, u2, u3, -, -, -, -⟩ := u
    clear hn3 hs3 hh3 hsh3 k1 k2 k3 a1 a2 a3 hf3 hD3
    go_wp2_with fail
    refine bodyPost_ret (by simp [results, Tryz.results127, go_sem, *]; done) rfl ⟨rfl, ?_⟩
    refine CaIs.fin (unhide hfin) (by omega) ?_
    repeat' first | with_reducible exact FrS.refl _ _ | refine FrS.wr ?_ _
theorem field_n (w : World) (n : Int) (o h : Bool) (d : Int) : (Instr.field 35 (.agg #[.int .i64 n, .bool o, .bool h, .int .i64 d]) 0).run Tryz.prog w = .ok (.int .i64 n) w := by kernel_rfl
end Go.Proofs.YtoenjdnccgmhoaaGreatDoor
