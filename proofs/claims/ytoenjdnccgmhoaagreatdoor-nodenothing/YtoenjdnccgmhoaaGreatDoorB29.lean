/- layer 15: CacD CacE CacA RcA, put together. -/
import Derived.Test.YtoenjdnccgmhoaaGreatDoorB27
import Derived.Test.YtoenjdnccgmhoaaGreatDoorB25
import Derived.Test.YtoenjdnccgmhoaaGreatDoorB28
import Derived.Test.YtoenjdnccgmhoaaGreatDoorB08
namespace Go.Proofs.YtoenjdnccgmhoaaGreatDoor
open Go.ChangeShapes Go.WideShapes Go.ChangeAt Go.RowKit
set_option linter.unusedSimpArgs false
set_option linter.unusedVariables false
set_option maxRecDepth 10000
attribute [local go_sem, local simp] over_const setCell_drewN alloc_drewN Over.cell Over.frozen lt_s1 lt_s2 lt_s3 le_s0 le_s1 le_s2 le_s3 eq_s0 eq_s1 eq_s2 qe_s0
set_option maxHeartbeats 2000000 in
theorem place_c (p t : Nat) (Ft : Nat → Prop) (S W x q : Int) (C : Ca) (b : Bun) (w : World) (h : HdIs w p t Ft S W C.A C.A C.T) (hx : I64 x) (hxA : x ∉ C.A) (hb : ¬ b.n < 1) (r : Ln) (ok : Bool) (C' : Ca) (hg : Hid (goAb S W C x b q = (r, ok))) (hC : Hid (nxAb S W C x b q = C')) :
    Calls Tryz.prog 153 #[.agg #[ptr p, .map (some t)], .int .i64 x, .agg #[.int .i64 b.n, .bool b.o, .bool b.h, .int .i64 b.d], .int .i64 q] w fun e w' => e = .returned (.tuple #[.agg #[.int .i64 r.b, .int .i64 r.t.n, .bool r.t.o, .bool r.t.h, .int .i64 r.t.d], .bool ok]) ∧ ∃ Ft', HdIs w' p t Ft' S W C'.A C'.A C'.T ∧ Step Ft Ft' w w' := by
  have hH := hide h
  have hI := h.inv
  have hlt : ∀ b, Ft b → b < w.heap.size := h.lt
  obtain ⟨Fl, hl, hFl, hnt⟩ := h.ln
  obtain ⟨D, hD⟩ := h.tk
  have htl := h.lt t h.ft
  replace hl := hide hl
  have hg1 := hg.out
  have hC1 := hC.out
  clear hg hC h
  obtain ⟨⟨v, may⟩, hv⟩ : ∃ z, Hid (vicA S W C.A x q = z) := ⟨_, rfl⟩
  rcases vic_cases hI hxA hv.out with ⟨rfl, rfl, _⟩ | ⟨rfl, rfl, h2⟩ | ⟨rfl, h2, h3, h4, h5⟩
  · simp [goAb, hb, hxA, hv.out] at hg1
    simp [nxAb, hb, hxA, hv.out] at hC1
    obtain ⟨rfl, rfl⟩ := hg1
    subst hC1
    clear hb hxA
    go_enter Tryz.func153, Tryz.ntmps153
    go_wp2_with (go_at_call 169; refine (victim_c p Fl S W x q C.A _ ((((unhide hl).alloc _).alloc _).alloc _)).mono ?_; rw [hv.out]; rintro e w' ⟨rfl, n, rfl⟩)
    go_returns
    refine ⟨rfl, (unhide hH).quiet ?_⟩
    all_goals exact belEnd
  · simp [goAb, hb, hxA, hv.out] at hg1
    simp [nxAb, hb, hxA, hv.out] at hC1
    obtain ⟨rfl, rfl⟩ := hg1
    subst hC1
    clear hb hxA
    replace h2 := hide h2
    go_enter Tryz.func153, Tryz.ntmps153
    go_wp2_with (go_at_call 169; refine (victim_c p Fl S W x q C.A _ ((((unhide hl).alloc _).alloc _).alloc _)).mono ?_; rw [hv.out]; rintro e w' ⟨rfl, n, rfl⟩)
    go_at_call 170
    refine (enter_c p t Ft S W x C.A C.T b _ ((unhide hH).below (by all_goals exact belEnd)) hx (unhide h2)).mono ?_
    rintro e w2 ⟨rfl, Ft2, hn2, hs2⟩
    obtain ⟨k1, k2, k3⟩ := hs2.keep (b := w.heap.size + 1 + 1) (fun e => by have := hlt _ e; omega) (by first | (simp; done) | (simp; omega))
    have y : LnAt w2 (w.heap.size + 1 + 1) ln0 := ⟨k3, keep_cell k1 (by simp [go_sem]), keep_cell k1 (by simp [go_sem]), keep_cell k1 (by simp [go_sem]), keep_cell k1 (by simp [go_sem]), keep_cell k1 (by simp [go_sem]), keep_frozen k1 (by simp [go_sem]), keep_frozen k1 (by simp [go_sem]), keep_frozen k1 (by simp [go_sem]), keep_frozen k1 (by simp [go_sem]), keep_frozen k1 (by simp [go_sem])⟩
    have hfin : Hid (HdIs w2 p t Ft2 S W (C.A ++ [x]) (C.A ++ [x]) (updT C.T x b) ∧ Step Ft Ft2 w w2 ∧ ¬ Ft2 (w.heap.size + 1 + 1)) := ⟨hn2, (Step.of_below (by all_goals exact belEnd)).trans hs2, k2⟩
    obtain ⟨y5, y0, y1, y2, y3, y4, z0, z1, z2, z3, z4⟩ := y
    clear hn2 hs2 k1 k2 k3
    go_wp2_with fail
    refine bodyPost_ret (by simp [results, Tryz.results153, go_sem, *]; done) rfl ⟨rfl, ?_⟩
    refine HdIs.fin (unhide hfin) (by omega) ?_
    repeat' first | with_reducible exact FrS.refl _ _ | refine FrS.wr ?_ _
  · have hvlt : ¬ v < 0 := by omega
    simp [goAb, hb, hxA, hv.out, hvlt] at hg1
    simp [nxAb, hb, hxA, hv.out, hvlt] at hC1
    obtain ⟨rfl, rfl⟩ := hg1
    subst hC1
    have hv64 : I64 v := by have := hI.pos v h3; unfold I64; omega
    clear hb hxA
    have hlk := hide (hD.look hv64)
    replace h5 := hide h5
    clear hD h3 h4
    obtain ⟨z, hz⟩ : ∃ z, Hid (C.T v = z) := ⟨_, rfl⟩
    rw [hz.out] at hlk ⊢
    go_enter Tryz.func153, Tryz.ntmps153
    go_wp2_with (first | (go_at_call 169; refine (victim_c p Fl S W x q C.A _ ((((unhide hl).alloc _).alloc _).alloc _)).mono ?_; rw [hv.out]; rintro e w' ⟨rfl, n, rfl⟩) | (at_lookup; refine wpList_look rfl (.tmp 35) (.tmp 36) rfl rfl rfl (unhide hlk _ ((Below.block (B := w.heap.size) (by all_goals exact belEnd) t htl))) ?_))
    go_at_call 156
    refine (leave_c p t Ft S W v C.A C.T _ ((unhide hH).below (by all_goals exact belEnd)) hv64).mono ?_
    rintro e w2 ⟨rfl, Ft2, hn2, hs2⟩
    obtain ⟨k1, k2, k3⟩ := hs2.keep (b := w.heap.size) (fun e => by have := hlt _ e; omega) (by first | (simp; done) | (simp; omega))
    obtain ⟨a1, a2, a3⟩ := hs2.keep (b := w.heap.size + 1) (fun e => by have := hlt _ e; omega) (by first | (simp; done) | (simp; omega))
    obtain ⟨b1, b2, b3⟩ := hs2.keep (b := w.heap.size + 1 + 1) (fun e => by have := hlt _ e; omega) (by first | (simp; done) | (simp; omega))
    obtain ⟨c1, c2, c3⟩ := hs2.keep (b := w.heap.size + 1 + 1 + 1) (fun e => by have := hlt _ e; omega) (by first | (simp; done) | (simp; omega))
    have q0 : w2.cell? ⟨w.heap.size, 0, none⟩ = some (ptr p) := keep_cell k1 (by simp [go_sem])
    have q1 : w2.cell? ⟨w.heap.size, 1, none⟩ = some (.map (some t)) := keep_cell k1 (by simp [go_sem])
    have u0 : w2.cell? ⟨w.heap.size + 1, 0, none⟩ = some (.int .i64 b.n) := keep_cell a1 (by simp [go_sem])
    have u1 : w2.cell? ⟨w.heap.size + 1, 1, none⟩ = some (.bool b.o) := keep_cell a1 (by simp [go_sem])
    have u2 : w2.cell? ⟨w.heap.size + 1, 2, none⟩ = some (.bool b.h) := keep_cell a1 (by simp [go_sem])
    have u3 : w2.cell? ⟨w.heap.size + 1, 3, none⟩ = some (.int .i64 b.d) := keep_cell a1 (by simp [go_sem])
    have y : Hid (LnAt w2 (w.heap.size + 1 + 1) ln0) := ⟨b3, keep_cell b1 (by simp [go_sem]), keep_cell b1 (by simp [go_sem]), keep_cell b1 (by simp [go_sem]), keep_cell b1 (by simp [go_sem]), keep_cell b1 (by simp [go_sem]), keep_frozen b1 (by simp [go_sem]), keep_frozen b1 (by simp [go_sem]), keep_frozen b1 (by simp [go_sem]), keep_frozen b1 (by simp [go_sem]), keep_frozen b1 (by simp [go_sem])⟩
    have y' : Hid (LnAt w2 (w.heap.size + 1 + 1 + 1) ⟨v, z⟩) := ⟨c3, keep_cell c1 (by simp [go_sem]), keep_cell c1 (by simp [go_sem]), keep_cell c1 (by simp [go_sem]), keep_cell c1 (by simp [go_sem]), keep_cell c1 (by simp [go_sem]), keep_frozen c1 (by simp [go_sem]), keep_frozen c1 (by simp [go_sem]), keep_frozen c1 (by simp [go_sem]), keep_frozen c1 (by simp [go_sem]), keep_frozen c1 (by simp [go_sem])⟩
    have hfin : Hid (HdIs w2 p t Ft2 S W (C.A.erase v) (C.A.erase v) (updT C.T v bun0) ∧ Step Ft Ft2 w w2 ∧ ¬ Ft2 (w.heap.size + 1 + 1) ∧ ¬ Ft2 (w.heap.size + 1 + 1 + 1)) := ⟨hn2, (Step.of_below (by all_goals exact belEnd)).trans hs2, b2, c2⟩
    clear hn2 hs2 k1 k2 k3 a1 a2 a3 b1 b2 b3 c1 c2 c3
    go_wp2_with fail
    go_at_call 170
    refine (enter_c p t Ft2 S W x (C.A.erase v) (updT C.T v bun0) b w2 (unhide hfin).1 hx (unhide h5)).mono ?_
    rintro e w3 ⟨rfl, Ft3, hn3, hs3⟩
    obtain ⟨b1, b2, b3⟩ := hs3.keep (b := w.heap.size + 1 + 1) (unhide hfin).2.2.1 (unhide y).lt
    obtain ⟨c1, c2, c3⟩ := hs3.keep (b := w.heap.size + 1 + 1 + 1) (unhide hfin).2.2.2 (unhide y').lt
    obtain ⟨y5, y0, y1, y2, y3, y4, z0, z1, z2, z3, z4⟩ := (unhide y).carry b1
    obtain ⟨-, v0, v1, v2, v3, v4, -⟩ := (unhide y').carry c1
    have hfin3 : Hid (HdIs w3 p t Ft3 S W (C.A.erase v ++ [x]) (C.A.erase v ++ [x]) (updT (updT C.T v bun0) x b) ∧ Step Ft Ft3 w w3 ∧ ¬ Ft3 (w.heap.size + 1 + 1)) := ⟨hn3, (unhide hfin).2.1.trans hs3, b2⟩
    clear hn3 hs3 hfin y y' q0 q1 u0 u1 u2 u3 b1 b2 b3 c1 c2 c3
    go_wp2_with fail
    refine bodyPost_ret (by simp [results, Tryz.results153, go_sem, *]; done) rfl ⟨rfl, ?_⟩
    refine HdIs.fin (unhide hfin3) (by omega) ?_
    repeat' first | with_reducible exact FrS.refl _ _ | refine FrS.wr ?_ _
set_option maxHeartbeats 2000000 in
theorem cAbsorb_c (c : Nat) (Ft : Nat → Prop) (S W N K x q : Int) (C : Ca) (b : Bun) (w : World) (h : CaIs w c Ft S W N C) (hx : I64 x) (hb : okB b) (hK : b.n ≤ K) (hNK : N + K ≤ 9223372036854775807) (r : Ln) (ok : Bool) (C' : Ca) (hg : Hid (goAb S W C x b q = (r, ok))) (hC : Hid (nxAb S W C x b q = C')) :
    Calls Tryz.prog 123 #[ptr c, .int .i64 x, .agg #[.int .i64 b.n, .bool b.o, .bool b.h, .int .i64 b.d], .int .i64 q] w fun e w' => e = .returned (.tuple #[.agg #[.int .i64 r.b, .int .i64 r.t.n, .bool r.t.o, .bool r.t.h, .int .i64 r.t.d], .bool ok]) ∧ ∃ Ft', CaIs w' c Ft' S W (N + K) C' ∧ Step Ft Ft' w w' := by
  have hI' := hide (h.inv.ab (x := x) (q := q) hb hK hx.2)
  rw [hC.out] at hI'
  have hn0 := h.inv.n0
  have hH := hide h
  have hlt : ∀ b, Ft b → b < w.heap.size := h.lt
  obtain ⟨p, t, Fh, c0, c1, hh, hF, hc⟩ := h.at'
  have hcl := h.lt c h.fc
  have hinv := hide h.inv
  have hlen := h.inv.inv.len
  have hb0 := hb.1
  have hz1 := h.inv.le x
  have hz0 := (h.inv.ok x).1
  clear h
  obtain ⟨Fl, hl, hFl, hnt⟩ := hh.ln
  obtain ⟨D, hD⟩ := hh.tk
  have htl := hh.lt t hh.ft
  have hlk := hide (hD.look hx)
  replace hD := hide hD
  replace hl := hide hl
  replace hh := hide hh
  obtain ⟨z, hz⟩ : ∃ z, Hid (C.T x = z) := ⟨_, rfl⟩
  rw [hz.out] at hlk hz1 hz0
  have hFlw : ∀ b, Fl b → b < w.heap.size := fun b e => hlt b (hF b (hFl b e))
  have hFhw : ∀ b, Fh b → b < w.heap.size := fun b e => hlt b (hF b e)
  by_cases hb1 : b.n < 1
  · have hg1 := hg.out
    have hC1 := hC.out
    simp only [goAb, hb1, if_pos, Prod.mk.injEq] at hg1
    simp only [nxAb, hb1, if_pos] at hC1
    obtain ⟨rfl, rfl⟩ := hg1
    subst hC1
    clear hg hC hI'
    go_enter Tryz.func123, Tryz.ntmps123
    go_wp2_with fail
    go_returns
    refine ⟨rfl, ((unhide hH).mono (by omega)).quiet ?_⟩
    all_goals exact belEnd
  by_cases hxA : x ∈ C.A
  · have hg1 := hg.out
    have hC1 := hC.out
    simp only [goAb, hb1, if_neg, if_pos hxA, Prod.mk.injEq, not_false_eq_true] at hg1
    simp only [nxAb, hb1, if_neg, if_pos hxA, not_false_eq_true] at hC1
    obtain ⟨rfl, rfl⟩ := hg1
    subst hC1
    clear hg hC
    have hrem : Hid (okRem C.A x = true) := by simp [Hid, okRem, hxA]
    obtain ⟨j, hj⟩ : ∃ j, Hid (joinB z b = j) := ⟨_, rfl⟩
    rw [hz.out, hj.out] at hI' ⊢
    have hlen2 : (nxUse C.A x).length ≤ 2000 := by have := (unhide hI').inv.len; dsimp only at this; omega
    replace hxA := hide hxA
    go_enter Tryz.func123, Tryz.ntmps123
    go_wp2_with fail
    go_at_call 117
    refine (use_c p Fl S W x C.A _ (((unhide hl).alloc _).alloc _) hx.2).mono ?_
    rw [hrem.out]
    rintro e w1 ⟨rfl, Fl1, hn1, hs1⟩
    obtain ⟨k1, k2, k3⟩ := hs1.keep (b := w.heap.size) (fun e => by have := hFlw _ e; omega) (by first | (simp; done) | (simp; omega))
    obtain ⟨a1, a2, a3⟩ := hs1.keep (b := w.heap.size + 1) (fun e => by have := hFlw _ e; omega) (by first | (simp; done) | (simp; omega))
    obtain ⟨b1, b2, b3⟩ := hs1.keep (b := c) (fun e => hc (hFl _ e)) (by first | (simp; done) | (simp; omega))
    obtain ⟨t1, t2, t3⟩ := hs1.keep (b := t) hnt (by first | (simp; done) | (simp; omega))
    have bx : BunAt w1 w.heap.size b := ⟨k3, keep_cell k1 (by simp [go_sem]), keep_cell k1 (by simp [go_sem]), keep_cell k1 (by simp [go_sem]), keep_cell k1 (by simp [go_sem]), keep_frozen k1 (by simp [go_sem]), keep_frozen k1 (by simp [go_sem]), keep_frozen k1 (by simp [go_sem]), keep_frozen k1 (by simp [go_sem])⟩
    have y : Hid (LnAt w1 (w.heap.size + 1) ln0) := ⟨a3, keep_cell a1 (by simp [go_sem]), keep_cell a1 (by simp [go_sem]), keep_cell a1 (by simp [go_sem]), keep_cell a1 (by simp [go_sem]), keep_cell a1 (by simp [go_sem]), keep_frozen a1 (by simp [go_sem]), keep_frozen a1 (by simp [go_sem]), keep_frozen a1 (by simp [go_sem]), keep_frozen a1 (by simp [go_sem]), keep_frozen a1 (by simp [go_sem])⟩
    have q1 : w1.cell? ⟨c, 1, none⟩ = some (.map (some t)) := keep_cell b1 (by simp [go_sem, *])
    have t4 : w1.heap[t]? = w.heap[t]? := t1.trans ((Below.heap_alloc _ _ _ (by first | (simp; done) | (simp; omega))).trans (Below.heap_alloc _ _ _ htl))
    replace hs1 := hide hs1
    replace hn1 := hide hn1
    obtain ⟨-, u0, u1, u2, u3, -, -, -, -⟩ := id bx
    replace bx := hide bx
    clear k1 k2 k3 a1 a2 b1 b2 t1 t2
    go_wp2_with fail
    refine wp_region_noPanic ?_
    refine last_begin 15 (fun w' => w'.cell? ⟨c, 1, none⟩ = some (.map (some t)) ∧ (Instr.lookup 181 (.map (some t)) (.int .i64 x) false).run Tryz.prog w' = .ok (bunV z) w' ∧ w'.cell? ⟨w.heap.size, 0, none⟩ = some (.int .i64 b.n) ∧ w'.cell? ⟨w.heap.size, 1, none⟩ = some (.bool b.o) ∧ w'.cell? ⟨w.heap.size, 2, none⟩ = some (.bool b.h) ∧ w'.cell? ⟨w.heap.size, 3, none⟩ = some (.int .i64 b.d)) (by kernel_rfl) ?_ fun hHeld => ?_
    · exact ⟨q1, unhide hlk _ t4, u0, u1, u2, u3⟩
    refine lTk 0 21 hHeld ?_
    refine lTk 1 22 hHeld ?_
    refine lTk 2 23 hHeld ?_
    refine lTk 3 24 hHeld ?_
    refine lTk 4 25 hHeld ?_
    refine lTk 5 26 hHeld ?_
    refine lTk 6 27 hHeld ?_
    refine lTk 7 28 hHeld ?_
    refine lTk 8 29 hHeld ?_
    refine lTk 9 30 hHeld ?_
    refine lTk 10 31 hHeld ?_
    refine lTk 11 32 hHeld ?_
    refine lTk 12 33 hHeld ?_
    refine lTk 13 34 hHeld ?_
    refine last_call (i := 14) rfl (by kernel_rfl) ?_
    intro o ho
    simp at ho
    subst ho
    intro K' hK'
    go_simp
    go_at_call 152
    refine (join_c z.n z.o z.h z.d b.n b.o b.h b.d _ (by omega) (by omega) j hj).mono ?_
    rintro e w2 ⟨rfl, hb2⟩
    have hB2 : Below w1.heap.size w1 w2 := ((Below.refl _ _).drew).trans hb2
    have t5 : w2.heap[t]? = w.heap[t]? := (hB2.block t t3).trans t4
    have q2 : w2.cell? ⟨c, 1, none⟩ = some (.map (some t)) := keep_cell (hB2.block c b3) q1
    have bx2 := (unhide bx).below hB2
    refine hK'.out _ _ (fun _ => ⟨q2, unhide hlk _ t5, bx2.c0, bx2.c1, bx2.c2, bx2.c3⟩) (fun hHeld0 => ?_)
    clear hK' K'
    replace hHeld := hHeld0 (by decide)
    clear hHeld0
    try simp only [Act.put, List.setIfInBounds_toArray, List.set_cons_zero, List.set_cons_succ]
    obtain ⟨w3, D', hrun, hD3, hf3⟩ := tk_put (K' := nxUse C.A x) ((unhide hD).carry t5) hx j (fun k hk => mem_nxUse.2 hk) (mem_nxUse.2 (unhide hxA)) hlen2
    refine lNo 15 fun K hK => ?_
    refine wp_upd (.tmp 25) (.tmp 26) (.tmp 35) rfl rfl rfl rfl hrun ?_
    refine hK.out _ _ (fun h => absurd rfl h) fun _ => ?_
    clear hK K
    try simp only [Act.put, za, zb, zc]
    refine last_done (by kernel_rfl) (NoPanic.normal ?_) _
    clear hHeld
    have hW := hide ((unhide hH).alloc (.cells #[.int .i64 b.n, .bool b.o, .bool b.h, .int .i64 b.d] 35) |>.alloc (.cells #[.int .i64 0, .int .i64 0, .bool false, .bool false, .int .i64 0] 68))
    have hhW : HdIs ((w.alloc (.cells #[.int .i64 b.n, .bool b.o, .bool b.h, .int .i64 b.d] 35)).alloc (.cells #[.int .i64 0, .int .i64 0, .bool false, .bool false, .int .i64 0] 68)) p t Fh S W C.A C.A C.T := (unhide hh).below (by all_goals exact belEnd)
    obtain ⟨Fh3, hh3, hsh3⟩ := hhW.put hFl hnt (Below.refl _ _) (unhide hn1) (unhide hs1) hD3 ((FrS.of_below hB2).trans hf3 (fun i hi => .inl hi))
    obtain ⟨Ft3, hn3, hs3⟩ := (unhide hW).back (by simp [go_sem, *]) (by simp [go_sem, *]) hF hc (unhide hI') hh3 hsh3
    obtain ⟨m1, m2, m3⟩ := hs3.keep (b := w.heap.size + 1) (fun e => by have := hlt _ e; omega) (by first | (simp; done) | (simp; omega))
    have hfin : Hid (CaIs w3 c Ft3 S W (N + K) ⟨nxUse C.A x, updT C.T x j⟩ ∧ Step Ft Ft3 w w3 ∧ ¬ Ft3 (w.heap.size + 1)) := ⟨hn3, (Step.of_below (by all_goals exact belEnd)).trans hs3, m2⟩
    have y3 : LnAt w3 (w.heap.size + 1) ln0 := ⟨m3, keep_cell m1 (by simp [go_sem]), keep_cell m1 (by simp [go_sem]), keep_cell m1 (by simp [go_sem]), keep_cell m1 (by simp [go_sem]), keep_cell m1 (by simp [go_sem]), keep_frozen m1 (by simp [go_sem]), keep_frozen m1 (by simp [go_sem]), keep_frozen m1 (by simp [go_sem]), keep_frozen m1 (by simp [go_sem]), keep_frozen m1 (by simp [go_sem])⟩
    obtain ⟨y5, y0, y1, y2, y3, y4, z0, z1, z2, z3, z4⟩ := y3
    clear hn3 hs3 hh3 hsh3 hhW hW hrun hD3 hf3 bx2 m1 m2 m3
    go_wp2_with fail
    refine bodyPost_ret (by simp [results, Tryz.results123, go_sem, *]; done) rfl ⟨rfl, ?_⟩
    refine CaIs.fin (unhide hfin) (by omega) ?_
    repeat' first | with_reducible exact FrS.refl _ _ | refine FrS.wr ?_ _
  · have hrem : Hid (okRem C.A x = false) := by simp [Hid, okRem, hxA]
    have hnx : Hid (nxUse C.A x = C.A) := by simp [Hid, nxUse, hxA]
    replace hxA := hide hxA
    go_enter Tryz.func123, Tryz.ntmps123
    go_wp2_with fail
    go_at_call 117
    refine (use_c p Fl S W x C.A _ (((unhide hl).alloc _).alloc _) hx.2).mono ?_
    rw [hrem.out, hnx.out]
    rintro e w1 ⟨rfl, Fl1, hn1, hs1⟩
    have hW := hide ((unhide hH).alloc (.cells #[.int .i64 b.n, .bool b.o, .bool b.h, .int .i64 b.d] 35) |>.alloc (.cells #[.int .i64 0, .int .i64 0, .bool false, .bool false, .int .i64 0] 68))
    have hhW : HdIs ((w.alloc (.cells #[.int .i64 b.n, .bool b.o, .bool b.h, .int .i64 b.d] 35)).alloc (.cells #[.int .i64 0, .int .i64 0, .bool false, .bool false, .int .i64 0] 68)) p t Fh S W C.A C.A C.T := (unhide hh).below (by all_goals exact belEnd)
    obtain ⟨Fh1, hh1, hsh1⟩ := hhW.turn hFl hnt (Below.refl _ _) hn1 hs1 ((unhide hD).carry ((Below.heap_alloc _ _ _ (by first | (simp; done) | (simp; omega))).trans (Below.heap_alloc _ _ _ htl)))
    obtain ⟨k1, k2, k3⟩ := hsh1.keep (b := w.heap.size) (fun e => by have := hFhw _ e; omega) (by first | (simp; done) | (simp; omega))
    obtain ⟨a1, a2, a3⟩ := hsh1.keep (b := w.heap.size + 1) (fun e => by have := hFhw _ e; omega) (by first | (simp; done) | (simp; omega))
    obtain ⟨b1, b2, b3⟩ := hsh1.keep (b := c) hc (by first | (simp; done) | (simp; omega))
    have bx : BunAt w1 w.heap.size b := ⟨k3, keep_cell k1 (by simp [go_sem]), keep_cell k1 (by simp [go_sem]), keep_cell k1 (by simp [go_sem]), keep_cell k1 (by simp [go_sem]), keep_frozen k1 (by simp [go_sem]), keep_frozen k1 (by simp [go_sem]), keep_frozen k1 (by simp [go_sem]), keep_frozen k1 (by simp [go_sem])⟩
    have y : Hid (LnAt w1 (w.heap.size + 1) ln0) := ⟨a3, keep_cell a1 (by simp [go_sem]), keep_cell a1 (by simp [go_sem]), keep_cell a1 (by simp [go_sem]), keep_cell a1 (by simp [go_sem]), keep_cell a1 (by simp [go_sem]), keep_frozen a1 (by simp [go_sem]), keep_frozen a1 (by simp [go_sem]), keep_frozen a1 (by simp [go_sem]), keep_frozen a1 (by simp [go_sem]), keep_frozen a1 (by simp [go_sem])⟩
    have q0 : w1.cell? ⟨c, 0, none⟩ = some (ptr p) := keep_cell b1 (by simp [go_sem, *])
    have q1 : w1.cell? ⟨c, 1, none⟩ = some (.map (some t)) := keep_cell b1 (by simp [go_sem, *])
    obtain ⟨-, u0, u1, u2, u3, -, -, -, -⟩ := id bx
    replace bx := hide bx
    replace hh1 := hide hh1
    replace hsh1 := hide hsh1
    replace hhW := hide hhW
    clear k1 a1 b1 hn1 hs1
    go_wp2_with fail
    refine wp_region_noPanic ?_
    refine wp_region_held_drew (S := (fun w' => w'.cell? ⟨c, 0, none⟩ = some (ptr p) ∧ w'.cell? ⟨c, 1, none⟩ = some (.map (some t)) ∧ w'.cell? ⟨w.heap.size, 0, none⟩ = some (.int .i64 b.n) ∧ w'.cell? ⟨w.heap.size, 1, none⟩ = some (.bool b.o) ∧ w'.cell? ⟨w.heap.size, 2, none⟩ = some (.bool b.h) ∧ w'.cell? ⟨w.heap.size, 3, none⟩ = some (.int .i64 b.d))) (by kernel_rfl) ?_ (fun hHeld => ?_)
    · exact ⟨q0, q1, u0, u1, u2, u3⟩
    refine hTk 0 37 hHeld ?_
    refine hTk 1 38 hHeld ?_
    refine hTk 2 39 hHeld ?_
    refine hTk 3 40 hHeld ?_
    refine hTk 4 41 hHeld ?_
    refine hTk 5 42 hHeld ?_
    refine hTk 6 43 hHeld ?_
    refine hand_call (i := 7) rfl (by kernel_rfl) ?_
    intro o ho
    simp at ho
    subst ho
    intro K' hK'
    go_simp
    go_at_call 153
    refine (place_c p t Fh1 S W x q C b w1.drew ((unhide hh1).below ((Below.refl _ _).drew)) hx (unhide hxA) (by omega) r ok C' hg hC).mono ?_
    rintro e w2 ⟨rfl, Fh2, hh2, hsh2⟩
    replace hsh2 := (Step.of_below (F := Fh1) ((Below.refl w1.heap.size w1).drew)).trans hsh2
    obtain ⟨j1, j2, j3⟩ := hsh2.keep (b := w.heap.size) k2 k3
    obtain ⟨l1, l2, l3⟩ := hsh2.keep (b := w.heap.size + 1) a2 a3
    obtain ⟨m1, m2, m3⟩ := hsh2.keep (b := c) b2 b3
    have bx2 := (unhide bx).carry j1
    have q02 := keep_cell m1 q0
    have q12 := keep_cell m1 q1
    refine hK'.out _ _ ⟨q02, q12, bx2.c0, bx2.c1, bx2.c2, bx2.c3⟩ (fun hHeld => ?_)
    clear hK' K'
    try simp only [Act.put, List.setIfInBounds_toArray, List.set_cons_zero, List.set_cons_succ]
    obtain ⟨Ft2, hn2, hs2⟩ := (unhide hW).back (by simp [go_sem, *]) (by simp [go_sem, *]) hF hc (unhide hI') hh2 ((unhide hsh1).trans hsh2)
    obtain ⟨n1, n2, n3⟩ := hs2.keep (b := w.heap.size + 1) (fun e => by have := hlt _ e; omega) (by first | (simp; done) | (simp; omega))
    have hfin : Hid (CaIs w2 c Ft2 S W (N + K) C' ∧ Step Ft Ft2 w w2 ∧ ¬ Ft2 (w.heap.size + 1)) := ⟨hn2, (Step.of_below (by all_goals exact belEnd)).trans hs2, n2⟩
    obtain ⟨y5, y0, y1, y2, y3, y4, z0, z1, z2, z3, z4⟩ := (unhide y).carry l1
    clear hn2 hs2 hh2 hsh2 n1 n2 n3 j1 j2 l1 l2 m1 m2
    refine hTk 8 45 hHeld ?_
    refine hTk 9 46 hHeld ?_
    refine hNo 10 fun K hK => ?_
    go_simp
    refine hK.out _ _ ?_ fun hHeld => ?_
    · (have fr : ∀ v0 v1 v2 v3 v4, FrS (· = w.heap.size + 1) w2 (((((w2.setCell ⟨w.heap.size + 1, 0, none⟩ v0).setCell ⟨w.heap.size + 1, 1, none⟩ v1).setCell ⟨w.heap.size + 1, 2, none⟩ v2).setCell ⟨w.heap.size + 1, 3, none⟩ v3).setCell ⟨w.heap.size + 1, 4, none⟩ v4) := by (intro v0 v1 v2 v3 v4; repeat' first | with_reducible exact FrS.refl _ _ | refine FrS.wr ?_ _)); exact ⟨keep_cell ((fr _ _ _ _ _).block c m3 (by omega)) q02, keep_cell ((fr _ _ _ _ _).block c m3 (by omega)) q12, keep_cell ((fr _ _ _ _ _).block _ j3 (by omega)) bx2.c0, keep_cell ((fr _ _ _ _ _).block _ j3 (by omega)) bx2.c1, keep_cell ((fr _ _ _ _ _).block _ j3 (by omega)) bx2.c2, keep_cell ((fr _ _ _ _ _).block _ j3 (by omega)) bx2.c3⟩
    clear hK K
    try simp only [Act.put, za, zb, zc]
    refine hTk 11 9 hHeld ?_
    refine wpAnyH_done (by kernel_rfl) (NoPanic.normal ?_) _
    clear hHeld
    go_wp2_with fail
    refine bodyPost_ret (by simp [results, Tryz.results123, go_sem, *]; done) rfl ⟨rfl, ?_⟩
    refine CaIs.fin (unhide hfin) (by omega) ?_
    repeat' first | with_reducible exact FrS.refl _ _ | refine FrS.wr ?_ _
theorem allC_take {C : Ca} {j : Nat} (hj : j < (listA C.A).length) : (allC C).take (j + 1) = (allC C).take j ++ [⟨(listA C.A)[j], C.T (listA C.A)[j]⟩] := by
  have h : j < (allC C).length := by simpa [allC] using hj
  rw [List.take_succ_eq_append_getElem h]
  simp [allC]
set_option maxHeartbeats 2000000 in
theorem cAll_c (c : Nat) (Ft : Nat → Prop) (S W N : Int) (C : Ca) (w : World) (h : CaIs w c Ft S W N C) : Calls Tryz.prog 62 #[ptr c] w fun e w' => ∃ v g, e = .returned v ∧ w.heap.size ≤ g ∧ OwnL w' v g (allC C) ∧ Below w.heap.size w w' := by
  have hH := hide h
  have hlen := h.inv.inv.len
  have hcl := h.lt c h.fc
  have hpos : Hid (∀ x ∈ listA C.A, I64 x) := fun x hx => by have := h.inv.inv.pos x (mem_listA.1 hx); unfold I64; omega
  obtain ⟨p, t, Fh, c0, c1, hh, hF, hc⟩ := h.at'
  obtain ⟨Fl, hl, hFl, hnt⟩ := hh.ln
  replace hl := hide hl
  have hll := listA_len C.A
  clear h hh
  go_enter Tryz.func62, Tryz.ntmps62
  go_wp2_with fail
  go_at_call 107
  refine (list_c p Fl S W C.A w (unhide hl)).mono ?_
  rintro e w1 ⟨v1, g1, rfl, hg1, hO1, hb1⟩
  have hV1 := hide hO1.view
  have hgl := hO1.lt
  obtain ⟨ao1, cap1, rfl, -⟩ := hO1
  obtain ⟨n, hn⟩ : ∃ n, (listA C.A).length = n := ⟨_, rfl⟩
  rw [hn] at hll hV1 ⊢
  replace hn := hide hn
  replace hb1 := hide hb1
  replace hll := hide hll
  have hn1 : n ≤ 1024 := by have := unhide hll; omega
  go_wp2_with fail
  go_loopw [3, 13] (fun out i wr => ∃ j g : Nat, j ≤ n ∧ i = .int .i64 j ∧ OwnL wr out g ((allC C).take j) ∧ w.heap.size ≤ g ∧ (g = g1 → out = .slice none 0 0) ∧ View wr (.slice ao1 n cap1) g1 (listA C.A) ∧ g1 < wr.heap.size ∧ Below w.heap.size w wr) (fun _ i _ => n - (intOf i).toNat)
  case atStart => exact ⟨0, g1, Nat.zero_le _, rfl, own_nilL hgl, hg1, fun _ => rfl, unhide hV1, hgl, unhide hb1⟩
  case round =>
    obtain ⟨j, g, hj, rfl, hO, hg, hnil, hV, hg1l, hb⟩ := hrel
    have hO' := hide hO
    obtain ⟨ao, cap, rfl, -⟩ := hO
    have hl1 : ((allC C).take j).length = j := by rw [List.length_take, allC_len, ← listA_len, unhide hn]; omega
    rw [hl1] at hO' hnil ⊢
    by_cases hlt : j < n
    · obtain ⟨-, -, -, hc⟩ := view_at hV rfl
      have hlt2 : j < (listA C.A).length := by rw [unhide hn]; exact hlt
      have htk := hide (allC_take hlt2)
      have hx := unhide hpos _ (List.getElem_mem hlt2)
      obtain ⟨o, rfl, hbA, hcell⟩ := hc j hlt2
      generalize (listA C.A)[j] = y at hcell htk hx
      have hlt' : (j : Int) < n := by omega
      obtain ⟨z, hz⟩ : ∃ z, Hid (C.T y = z) := ⟨_, rfl⟩
      rw [hz.out] at htk
      have hca := hide ((unhide hH).below hb)
      replace hV := hide hV
      replace hb := hide hb
      replace hnil := hide hnil
      replace hl1 := hide hl1
      clear hc hV1 hb1
      go_wp2_with fail
      go_at_call 108
      refine ((cGet_c c Ft S W N y C _ ((unhide hH).below (unhide hb)) hx z hz)).mono ?_
      rintro e w2 ⟨rfl, hb2⟩
      have hO2 := hide ((unhide hO').below hb2)
      have hV2 := hide ((unhide hV).below hb2)
      have hgl2 : g1 < w2.heap.size := Nat.lt_of_lt_of_le hg1l hb2.size
      have hb2' := hide ((unhide hb).trans (hb2.mono (unhide hb).size))
      clear hb2 hb hV hO' hcell hca
      go_wp2_with (at_builtin; refine wpList_appL rfl _ _ rfl rfl rfl ((unhide hO2).alloc _) (view_oneL w2 ⟨y, z⟩) (by have := unhide hl1; simp only [List.length_singleton]; omega) (j + 1) (by have := unhide hl1; simp only [List.length_singleton, List.length_append]; omega) ?_; intro ao2 cap2 w3 g2 hown2 hap2; replace hown2 := hide hown2; replace hap2 := hide hap2; go_frame)
      go_roundw
      case rel =>
        have hap := unhide hap2
        have hs := (unhide hb2').size
        have kk : w3.heap[g1]? = w2.heap[g1]? := by
          by_cases e : g = g1
          · exact ((hap.nil (unhide hnil e)).block g1 (by simp; omega)).trans (Below.heap_alloc _ _ _ hgl2)
          · exact (hap.fr.block g1 (by simp; omega) (fun e' => e e'.symm)).trans (Below.heap_alloc _ _ _ hgl2)
        refine ⟨j + 1, g2, by omega, by simp, ?_, ?_, fun e => ?_, (unhide hV2).carry (fun _ _ => kk), ?_, ((unhide hb2').alloc hs _).trans (hap.fr.below (fun i hi => by rw [hi]; exact hg) (by simp; omega))⟩
        · rw [unhide htk]; exact unhide hown2
        · rcases hap.lies with e | e
          · omega
          · simp at e; omega
        · have e2 : g2 = g := by
            rcases hap.lies with e' | e'
            · exact e'
            · simp at e'; omega
          exact hap.keep e2 (unhide hnil (by omega))
        · have := hap.fr.size; simp at this; omega
      case measure => simp [intOf]; omega
    · obtain rfl : j = n := by omega
      rw [List.take_of_length_le (by rw [allC_len, ← listA_len, unhide hn]; exact Nat.le_refl _)] at hO'
      replace hb := hide hb
      clear hV hV1 hb1
      go_wp2_with fail
      go_ret
      exact ⟨_, g, rfl, hg, unhide hO', unhide hb⟩
structure RcAt (w : World) (c p : Nat) (Fr Ft : Nat → Prop) (S W : Int) (A : List Int) (M : List Ln) : Prop where
  c0 : w.cell? ⟨c, 0, none⟩ = some (ptr p)
  f1 : w.frozen? ⟨c, 1, none⟩ = false
  rf : RfIs w p Fr S W A
  sub : ∀ b, Fr b → Ft b
  nc : ¬ Fr c
  tk : ∃ v g, w.cell? ⟨c, 1, none⟩ = some v ∧ OwnL w v g M ∧ Ft g ∧ ¬ Fr g ∧ (g = c → v = .slice none 0 0)
  fc : Ft c
  lt : ∀ b, Ft b → b < w.heap.size
theorem RcAt.carry {w w' : World} {c p : Nat} {Fr Ft : Nat → Prop} {S W : Int} {A : List Int} {M : List Ln} (h : RcAt w c p Fr Ft S W A M) (hb : ∀ b, Ft b → b < w.heap.size → w'.heap[b]? = w.heap[b]?) : RcAt w' c p Fr Ft S W A M := by
  obtain ⟨v, g, h1, h2, h3, h4, h5⟩ := h.tk
  have ec := hb c h.fc (h.lt c h.fc)
  exact ⟨keep_cell ec h.c0, keep_frozen ec h.f1, h.rf.carry (fun b hf hl => hb b (h.sub b hf) hl), h.sub, h.nc, ⟨v, g, keep_cell ec h1, h2.carry (hb g h3 h2.lt), h3, h4, h5⟩, h.fc, fun b hf => block_lt (h.lt b hf) (hb b hf (h.lt b hf))⟩
theorem RcAt.below {w w' : World} {c p : Nat} {Fr Ft : Nat → Prop} {S W : Int} {A : List Int} {M : List Ln} (h : RcAt w c p Fr Ft S W A M) (hf : Below w.heap.size w w') : RcAt w' c p Fr Ft S W A M := h.carry fun b _ hl => hf.block b hl
theorem RcAt.fr {w w' : World} {c p : Nat} {Fr Ft F : Nat → Prop} {S W : Int} {A : List Int} {M : List Ln} (h : RcAt w c p Fr Ft S W A M) (hf : FrS F w w') (hd : ∀ b, Ft b → b < w.heap.size → ¬ F b) : RcAt w' c p Fr Ft S W A M := h.carry fun b hb hl => hf.block b hl (hd b hb hl)
theorem RcAt.lines {w wz w' : World} {c p : Nat} {Fr Fr' Ft : Nat → Prop} {S W : Int} {A A' : List Int} {M : List Ln} (h : RcAt w c p Fr Ft S W A M) (hz : Below w.heap.size w wz) (hn : RfIs w' p Fr' S W A') (hs : Step Fr Fr' wz w') :
    ∃ Ft', RcAt w' c p Fr' Ft' S W A' M ∧ Step Ft Ft' w w' := by
  obtain ⟨v, g, h1, h2, h3, h4, h5⟩ := h.tk
  have hcl := h.lt c h.fc
  have s1 := hz.size
  have kc := (hs.fr.block c (by omega) h.nc).trans (hz.block c hcl)
  have kg := (hs.fr.block g (by have := h2.lt; omega) h4).trans (hz.block g h2.lt)
  refine ⟨fun b => Ft b ∨ Fr' b, ⟨keep_cell kc h.c0, keep_frozen kc h.f1, hn, fun b hb => .inr hb, fun e => ?_, ⟨v, g, keep_cell kc h1, h2.carry kg, .inl h3, fun e => ?_, h5⟩, .inl h.fc, fun b hb => ?_⟩, ⟨(FrS.of_below hz).trans hs.fr (fun i hi => .inl (h.sub i hi)), fun b hb => ?_⟩⟩
  · rcases hs.new c e with e | e
    · exact h.nc e
    · omega
  · rcases hs.new g e with e | e
    · exact h4 e
    · have := h2.lt; omega
  · rcases hb with hb | hb
    · have := h.lt b hb; have := hs.fr.size; omega
    · exact hn.lt b hb
  · rcases hb with hb | hb
    · exact .inl hb
    · rcases hs.new b hb with e | e
      · exact .inl (h.sub b e)
      · exact .inr (by omega)
theorem RcAt.put {w w1 : World} {c p g' : Nat} {Fr Ft : Nat → Prop} {S W : Int} {A : List Int} {M M' : List Ln} {v' : Value} (h : RcAt w c p Fr Ft S W A M) (hb : Below w.heap.size w w1) (hown : OwnL w1 v' g' M') (hg : w.heap.size ≤ g') :
    (∃ v, w1.cell? ⟨c, 1, none⟩ = some v) ∧ w1.frozen? ⟨c, 1, none⟩ = false ∧ ∃ Ft', RcAt (w1.setCell ⟨c, 1, none⟩ v') c p Fr Ft' S W A M' ∧ Step Ft Ft' w (w1.setCell ⟨c, 1, none⟩ v') := by
  obtain ⟨v, g, h1, h2, h3, h4, h5⟩ := h.tk
  have hcl := h.lt c h.fc
  have kc := hb.block c hcl
  have q1 := keep_cell kc h1
  have q0 := keep_cell kc h.c0
  have qf := keep_frozen kc h.f1
  have hs := hb.size
  have hgl := hown.lt
  refine ⟨⟨v, q1⟩, qf, fun b => Ft b ∨ b = g', ⟨(World.cell?_setCell_other _ _ _ _ (by simp)).trans q0, by rw [World.frozen?_setCell]; exact qf, ?_, fun b hb => .inl (h.sub b hb), h.nc, ⟨v', g', World.cell?_setCell_same _ _ _ q1, hown.carry (Below.heap_setCell _ _ _ _ (by dsimp only; omega)), .inr rfl, fun e => by have := h.lt _ (h.sub _ e); omega, fun e => by omega⟩, .inl h.fc, ?_⟩, ⟨(FrS.of_below hb).setCell (.inl h.fc) v', ?_⟩⟩
  · refine (h.rf.below hb).carry (fun b hf hl => Below.heap_setCell _ _ _ _ (fun e => h.nc ?_))
    dsimp only at e
    exact e ▸ hf
  · rintro b (hb' | rfl)
    · rw [World.size_setCell]; have := h.lt b hb'; omega
    · rw [World.size_setCell]; exact hgl
  · rintro b (hb' | rfl)
    · exact .inl hb'
    · exact .inr hg
theorem RcAt.store {w0 w : World} {c p g' : Nat} {Fr Ft0 Ft : Nat → Prop} {S W : Int} {A : List Int} {M M' : List Ln} {v' : Value} (h : RcAt w c p Fr Ft S W A M) (hown : OwnL w v' g' M') (hg : ¬ Ft g') (h0 : Ft0 c) (hs : Step Ft0 Ft w0 w) (hg0 : w0.heap.size ≤ g') :
    ∃ Ft', RcAt (w.setCell ⟨c, 1, none⟩ v') c p Fr Ft' S W A M' ∧ Step Ft0 Ft' w0 (w.setCell ⟨c, 1, none⟩ v') := by
  obtain ⟨v, g, h1, h2, h3, h4, h5⟩ := h.tk
  have hgl := hown.lt
  have hgc : g' ≠ c := fun e => hg (e ▸ h.fc)
  refine ⟨fun b => Ft b ∨ b = g', ⟨(World.cell?_setCell_other _ _ _ _ (by simp)).trans h.c0, by rw [World.frozen?_setCell]; exact h.f1, ?_, fun b hb => .inl (h.sub b hb), h.nc, ⟨v', g', World.cell?_setCell_same _ _ _ h1, hown.carry (Below.heap_setCell _ _ _ _ (by dsimp only; exact hgc)), .inr rfl, fun e => hg (h.sub _ e), fun e => absurd e hgc⟩, .inl h.fc, ?_⟩, ⟨hs.fr.setCell (.inl h0) v', ?_⟩⟩
  · refine h.rf.carry (fun b hf hl => Below.heap_setCell _ _ _ _ (fun e => h.nc ?_))
    dsimp only at e
    exact e ▸ hf
  · rintro b (hb' | rfl)
    · rw [World.size_setCell]; exact h.lt b hb'
    · rw [World.size_setCell]; exact hgl
  · rintro b (hb' | rfl)
    · exact hs.new b hb'
    · exact .inr hg0
set_option maxHeartbeats 1000000 in
theorem rcNew_c (s t : Int) (w : World) : Calls Tryz.prog 72 #[.int .i64 s, .int .i64 t] w fun e w' => ∃ c p Fr Ft, e = .returned (ptr c) ∧ RcAt w' c p Fr Ft (clampZ s 1 64) (clampZ t 1 16) [] [] ∧ Below w.heap.size w w' ∧ ∀ b, Ft b → w.heap.size ≤ b := by
  go_enter Tryz.func72, Tryz.ntmps72
  go_wp2_with (go_at_call 115; refine (rNew_c s t w).mono ?_; rintro e w1 ⟨p, Fr, rfl, hn, hb, hF⟩; replace hn := hide hn; replace hb := hide hb; replace hF := hide hF)
  go_ret
  have hn0 := unhide hn
  have s1 := (unhide hb).size
  have hl := hn0.lt
  refine ⟨w1.heap.size, p, Fr, fun b => b = w1.heap.size ∨ Fr b, rfl, ⟨by simp, by simp, hn0.alloc _, fun b hb => .inr hb, fun e => ?_, ⟨_, w1.heap.size, by simp, own_nilL (by simp), .inl rfl, fun e => ?_, fun _ => rfl⟩, .inl rfl, fun b hb => ?_⟩, (unhide hb).alloc s1 _, fun b hb => ?_⟩
  · have := hl _ e; omega
  · have := hl _ e; omega
  · simp; rcases hb with hb | hb
    · omega
    · have := hl b hb; omega
  · rcases hb with hb | hb
    · omega
    · exact unhide hF b hb
set_option maxHeartbeats 1000000 in
theorem rcGet_c (c p : Nat) (Fr Ft : Nat → Prop) (S W x : Int) (A : List Int) (M : List Ln) (w : World) (h : RcAt w c p Fr Ft S W A M) (hM : M.length ≤ 100000) (r : Bun) (hr : Hid (findL M x = r)) : Calls Tryz.prog 46 #[ptr c, .int .i64 x] w fun e w' => e = .returned (.agg #[.int .i64 r.n, .bool r.o, .bool r.h, .int .i64 r.d]) ∧ Below w.heap.size w w' := by
  obtain ⟨v, g, c1, hO, -, -, -⟩ := h.tk
  have hcl := h.lt c h.fc
  have hv := hide hO.view
  obtain ⟨ao, cap, rfl, -⟩ := hO
  clear h
  go_enter Tryz.func46, Tryz.ntmps46
  go_wp2_with fail
  have hz0 := bun_new w 35
  have hbz : Below w.heap.size w (w.alloc (.cells #[.int .i64 0, .bool false, .bool false, .int .i64 0] 35)) := (Below.refl _ _).alloc (Nat.le_refl _) _
  obtain ⟨w0, hw0⟩ : ∃ w0, w.alloc (.cells #[.int .i64 0, .bool false, .bool false, .int .i64 0] 35) = w0 := ⟨_, rfl⟩
  rw [hw0] at hz0 hbz ⊢
  clear hw0
  have d1 := keep_cell (hbz.block c hcl) c1
  have hcl0 : c < w0.heap.size := Nat.lt_of_lt_of_le hcl hbz.size
  have hv0 := hide ((unhide hv).below hbz)
  obtain ⟨y5, y0, y1, y2, y3, z0, z1, z2, z3⟩ := hz0
  replace hbz := hide hbz
  clear hv c1
  go_loopw [5] (fun i wr => ∃ j : Nat, j ≤ M.length ∧ i = .int .i64 j ∧ wr = w0 ∧ Hid (∀ i (hi : i < M.length), i < j → M[i].b ≠ x)) (fun i _ => M.length - (intOf i).toNat)
  case atStart => exact ⟨0, Nat.zero_le _, rfl, rfl, fun i _ hi => absurd hi (Nat.not_lt_zero _)⟩
  case round =>
    obtain ⟨j, hj, rfl, hwr, ha⟩ := hrel
    rw [hwr]
    clear hwr
    by_cases hlt : j < M.length
    · obtain ⟨-, -, -, hc⟩ := view_atL (unhide hv0) rfl
      obtain ⟨o, rfl, hb, e0, e1, e2, e3, e4⟩ := hc j hlt
      have hfind : Hid (M[j].b = x → findL M x = M[j].t) := fun e => findL_at M x j hlt (fun i hi hij => ha.out i hi hij) e
      obtain ⟨l, hl⟩ : ∃ l, Hid (M[j] = l) := ⟨_, hide rfl⟩
      rw [hl.out] at e0 e1 e2 e3 e4 hfind
      have hlt' : (j : Int) < M.length := by omega
      clear hc
      by_cases e : l.b = x
      · have hr2 : l.t = r := by rw [← hr.out]; exact (unhide hfind e).symm
        subst hr2
        have ee : decide (l.b = x) = true ∧ (l.b == x) = true := by simp [e]
        obtain ⟨ee1, ee2⟩ := ee
        clear e
        go_wp2_with fail
        refine bodyPost_ret (by simp [results, Tryz.results46, go_sem, *]; done) rfl ⟨rfl, ?_⟩
        have hq : ∀ v0 v1 v2 v3, Below w.heap.size w ((((w0.setCell ⟨w.heap.size, 0, none⟩ v0).setCell ⟨w.heap.size, 1, none⟩ v1).setCell ⟨w.heap.size, 2, none⟩ v2).setCell ⟨w.heap.size, 3, none⟩ v3) := fun v0 v1 v2 v3 => ((((unhide hbz).setCell (by simp) v0).setCell (by simp) v1).setCell (by simp) v2).setCell (by simp) v3
        exact hq _ _ _ _
      · have ee : decide (l.b = x) = false ∧ (l.b == x) = false := by simp [e]
        obtain ⟨ee1, ee2⟩ := ee
        have e' := hide e
        clear e
        go_wp2_with fail
        go_roundw
        case rel =>
          refine ⟨j + 1, by omega, by simp, trivial, fun i hi hij => ?_⟩
          by_cases e : i = j
          · subst e; rw [hl.out]; exact unhide e'
          · exact ha.out i hi (by omega)
        case measure => simp [intOf]; omega
    · obtain rfl : j = M.length := by omega
      have hr2 : bun0 = r := by rw [← hr.out]; exact (findL_none M x (fun i hi => ha.out i hi hi)).symm
      subst hr2
      go_wp2_with fail
      refine bodyPost_ret (by simp [results, Tryz.results46, go_sem, *]; done) rfl ⟨rfl, ?_⟩
      have hq : ∀ v0 v1 v2 v3, Below w.heap.size w ((((w0.setCell ⟨w.heap.size, 0, none⟩ v0).setCell ⟨w.heap.size, 1, none⟩ v1).setCell ⟨w.heap.size, 2, none⟩ v2).setCell ⟨w.heap.size, 3, none⟩ v3) := fun v0 v1 v2 v3 => ((((unhide hbz).setCell (by simp) v0).setCell (by simp) v1).setCell (by simp) v2).setCell (by simp) v3
      exact hq _ _ _ _
end Go.Proofs.YtoenjdnccgmhoaaGreatDoor
