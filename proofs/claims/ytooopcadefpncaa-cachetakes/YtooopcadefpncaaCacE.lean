/- The contract of package cache's Absorb (layer 9). -/
import Derived.Test.YtooopcadefpncaaCacD
import Derived.Test.YtooopcadefpncaaBunC
namespace Go.Proofs.Ytooopcadefpncaa
open Go.ChangeShapes Go.WideShapes Go.ChangeAt Go.RowKit
set_option linter.unusedSimpArgs false
set_option linter.unusedVariables false
set_option maxRecDepth 10000

attribute [local go_sem, local simp] over_const setCell_drewN alloc_drewN Over.cell Over.frozen lt_s1 lt_s2 lt_s3 le_s0 le_s1 le_s2 le_s3 eq_s0 eq_s1 eq_s2 qe_s0

set_option maxHeartbeats 2000000 in
theorem cAbsorb_c (c : Nat) (Ft : Nat → Prop) (S W N K x q : Int) (C : Ca) (b : Bun) (w : World) (h : CaIs w c Ft S W N C) (hx : I64 x) (hb : okB b) (hK : b.n ≤ K) (hNK : N + K ≤ 9223372036854775807) (r : Ln) (ok : Bool) (C' : Ca) (hg : Hid (goAb S W C x b q = (r, ok))) (hC : Hid (nxAb S W C x b q = C')) :
    Calls Try.prog 14 #[ptr c, .int .i64 x, .agg #[.int .i64 b.n, .bool b.o, .bool b.h, .int .i64 b.d], .int .i64 q] w fun e w' => e = .returned (.tuple #[.agg #[.int .i64 r.b, .int .i64 r.t.n, .bool r.t.o, .bool r.t.h, .int .i64 r.t.d], .bool ok]) ∧ ∃ Ft', CaIs w' c Ft' S W (N + K) C' ∧ Step Ft Ft' w w' := by
  have hI' := hide (h.inv.ab (x := x) (q := q) hb hK hx.2)
  rw [hC.out] at hI'
  have hn0 := h.inv.n0
  have hH := hide h
  have hlt : ∀ b, Ft b → b < w.heap.size := h.lt
  obtain ⟨p, t, Fh, c0, c1, hh, hF, hc⟩ := h.at'
  have hcl := h.lt c h.fc
  have hinv := hide h.inv
  have hlen := h.inv.inv.len
  have hb0 := hb.1
  have hz1 := h.inv.le x
  have hz0 := (h.inv.ok x).1
  clear h
  obtain ⟨Fl, hl, hFl, hnt⟩ := hh.ln
  obtain ⟨D, hD⟩ := hh.tk
  have htl := hh.lt t hh.ft
  have hlk := hide (hD.look hx)
  replace hD := hide hD
  replace hl := hide hl
  replace hh := hide hh
  obtain ⟨z, hz⟩ : ∃ z, Hid (C.T x = z) := ⟨_, rfl⟩
  rw [hz.out] at hlk hz1 hz0
  have hFlw : ∀ b, Fl b → b < w.heap.size := fun b e => hlt b (hF b (hFl b e))
  have hFhw : ∀ b, Fh b → b < w.heap.size := fun b e => hlt b (hF b e)
  by_cases hb1 : b.n < 1
  · have hg1 := hg.out
    have hC1 := hC.out
    simp only [goAb, hb1, if_pos, Prod.mk.injEq] at hg1
    simp only [nxAb, hb1, if_pos] at hC1
    obtain ⟨rfl, rfl⟩ := hg1
    subst hC1
    clear hg hC hI'
    go_enter Try.func14, Try.ntmps14
    go_wp2_with fail
    go_returns
    refine ⟨rfl, ((unhide hH).mono (by omega)).quiet ?_⟩
    repeat' first | with_reducible exact Below.refl _ _ | with_reducible refine Below.setCell ?_ ?_ _ | with_reducible refine Below.alloc ?_ ?_ _ | with_reducible refine Below.drew ?_ | with_reducible refine belowN ?_ _ | with_reducible refine Over.go _ ?_ ?_ | with_reducible exact Nat.le_refl _ | with_reducible refine Over.sz _ _ ?_ | with_reducible refine le_alloc ?_ | with_reducible refine le_setCell ?_ | with_reducible refine le_drewN ?_ | with_reducible refine le_drew ?_ | omega | (dsimp only; omega)
  by_cases hxA : x ∈ C.A
  · have hg1 := hg.out
    have hC1 := hC.out
    simp only [goAb, hb1, if_neg, if_pos hxA, Prod.mk.injEq, not_false_eq_true] at hg1
    simp only [nxAb, hb1, if_neg, if_pos hxA, not_false_eq_true] at hC1
    obtain ⟨rfl, rfl⟩ := hg1
    subst hC1
    clear hg hC
    have hrem : Hid (okRem C.A x = true) := by simp [Hid, okRem, hxA]
    obtain ⟨j, hj⟩ : ∃ j, Hid (joinB z b = j) := ⟨_, rfl⟩
    rw [hz.out, hj.out] at hI' ⊢
    have hlen2 : (nxUse C.A x).length ≤ 2000 := by have := (unhide hI').inv.len; dsimp only at this; omega
    replace hxA := hide hxA
    go_enter Try.func14, Try.ntmps14
    go_wp2_with fail
    go_at_call 31
    refine (use_c p Fl S W x C.A _ (((unhide hl).alloc _).alloc _) hx.2).mono ?_
    rw [hrem.out]
    rintro e w1 ⟨rfl, Fl1, hn1, hs1⟩
    obtain ⟨k1, k2, k3⟩ := hs1.keep (b := w.heap.size) (fun e => by have := hFlw _ e; omega) (by first | (simp; done) | (simp; omega))
    obtain ⟨a1, a2, a3⟩ := hs1.keep (b := w.heap.size + 1) (fun e => by have := hFlw _ e; omega) (by first | (simp; done) | (simp; omega))
    obtain ⟨b1, b2, b3⟩ := hs1.keep (b := c) (fun e => hc (hFl _ e)) (by first | (simp; done) | (simp; omega))
    obtain ⟨t1, t2, t3⟩ := hs1.keep (b := t) hnt (by first | (simp; done) | (simp; omega))
    have bx : BunAt w1 w.heap.size b := ⟨k3, keep_cell k1 (by simp [go_sem]), keep_cell k1 (by simp [go_sem]), keep_cell k1 (by simp [go_sem]), keep_cell k1 (by simp [go_sem]), keep_frozen k1 (by simp [go_sem]), keep_frozen k1 (by simp [go_sem]), keep_frozen k1 (by simp [go_sem]), keep_frozen k1 (by simp [go_sem])⟩
    have y : Hid (LnAt w1 (w.heap.size + 1) ln0) := ⟨a3, keep_cell a1 (by simp [go_sem]), keep_cell a1 (by simp [go_sem]), keep_cell a1 (by simp [go_sem]), keep_cell a1 (by simp [go_sem]), keep_cell a1 (by simp [go_sem]), keep_frozen a1 (by simp [go_sem]), keep_frozen a1 (by simp [go_sem]), keep_frozen a1 (by simp [go_sem]), keep_frozen a1 (by simp [go_sem]), keep_frozen a1 (by simp [go_sem])⟩
    have q1 : w1.cell? ⟨c, 1, none⟩ = some (.map (some t)) := keep_cell b1 (by simp [go_sem, *])
    have t4 : w1.heap[t]? = w.heap[t]? := t1.trans ((Below.heap_alloc _ _ _ (by first | (simp; done) | (simp; omega))).trans (Below.heap_alloc _ _ _ htl))
    replace hs1 := hide hs1
    replace hn1 := hide hn1
    obtain ⟨-, u0, u1, u2, u3, -, -, -, -⟩ := id bx
    replace bx := hide bx
    clear k1 k2 k3 a1 a2 b1 b2 t1 t2
    go_wp2_with fail
    refine wp_region_noPanic ?_
    refine last_begin 15 (fun w' => w'.cell? ⟨c, 1, none⟩ = some (.map (some t)) ∧ (Instr.lookup 60 (.map (some t)) (.int .i64 x) false).run Try.prog w' = .ok (bunV z) w' ∧ w'.cell? ⟨w.heap.size, 0, none⟩ = some (.int .i64 b.n) ∧ w'.cell? ⟨w.heap.size, 1, none⟩ = some (.bool b.o) ∧ w'.cell? ⟨w.heap.size, 2, none⟩ = some (.bool b.h) ∧ w'.cell? ⟨w.heap.size, 3, none⟩ = some (.int .i64 b.d)) (by kernel_rfl) ?_ (fun hHeld => ?_)
    · exact ⟨q1, unhide hlk _ t4, u0, u1, u2, u3⟩
    refine last_take (i := 0) (d := some 21) (v := ?_) rfl (by kernel_rfl) (by kernel_rfl) (by kernel_rfl) (by kernel_rfl) (fun _ _ _ h => h) ?_ hHeld ?_
    rotate_left
    · intro o ho
      simp at ho
      subst ho
      intro wz hSw
      try dsimp only at hSw
      go_simp
      try with_reducible rfl
    try simp only [Act.put, List.setIfInBounds_toArray, List.set_cons_zero, List.set_cons_succ]
    refine last_take (i := 1) (d := some 22) (v := ?_) rfl (by kernel_rfl) (by kernel_rfl) (by kernel_rfl) (by kernel_rfl) (fun _ _ _ h => h) ?_ hHeld ?_
    rotate_left
    · intro o ho
      simp at ho
      subst ho
      intro wz hSw
      try dsimp only at hSw
      go_simp
      try with_reducible rfl
    try simp only [Act.put, List.setIfInBounds_toArray, List.set_cons_zero, List.set_cons_succ]
    refine last_take (i := 2) (d := some 23) (v := ?_) rfl (by kernel_rfl) (by kernel_rfl) (by kernel_rfl) (by kernel_rfl) (fun _ _ _ h => h) ?_ hHeld ?_
    rotate_left
    · intro o ho
      simp at ho
      subst ho
      intro wz hSw
      try dsimp only at hSw
      go_simp
      try with_reducible rfl
    try simp only [Act.put, List.setIfInBounds_toArray, List.set_cons_zero, List.set_cons_succ]
    refine last_take (i := 3) (d := some 24) (v := ?_) rfl (by kernel_rfl) (by kernel_rfl) (by kernel_rfl) (by kernel_rfl) (fun _ _ _ h => h) ?_ hHeld ?_
    rotate_left
    · intro o ho
      simp at ho
      subst ho
      intro wz hSw
      try dsimp only at hSw
      go_simp
      try with_reducible rfl
    try simp only [Act.put, List.setIfInBounds_toArray, List.set_cons_zero, List.set_cons_succ]
    refine last_take (i := 4) (d := some 25) (v := ?_) rfl (by kernel_rfl) (by kernel_rfl) (by kernel_rfl) (by kernel_rfl) (fun _ _ _ h => h) ?_ hHeld ?_
    rotate_left
    · intro o ho
      simp at ho
      subst ho
      intro wz hSw
      try dsimp only at hSw
      go_simp
      try with_reducible rfl
    try simp only [Act.put, List.setIfInBounds_toArray, List.set_cons_zero, List.set_cons_succ]
    refine last_take (i := 5) (d := some 26) (v := ?_) rfl (by kernel_rfl) (by kernel_rfl) (by kernel_rfl) (by kernel_rfl) (fun _ _ _ h => h) ?_ hHeld ?_
    rotate_left
    · intro o ho
      simp at ho
      subst ho
      intro wz hSw
      try dsimp only at hSw
      go_simp
      try with_reducible rfl
    try simp only [Act.put, List.setIfInBounds_toArray, List.set_cons_zero, List.set_cons_succ]
    refine last_take (i := 6) (d := some 27) (v := ?_) rfl (by kernel_rfl) (by kernel_rfl) (by kernel_rfl) (by kernel_rfl) (fun _ _ _ h => h) ?_ hHeld ?_
    rotate_left
    · intro o ho
      simp at ho
      subst ho
      intro wz hSw
      try dsimp only at hSw
      go_simp
      try with_reducible rfl
    try simp only [Act.put, List.setIfInBounds_toArray, List.set_cons_zero, List.set_cons_succ]
    refine last_take (i := 7) (d := some 28) (v := ?_) rfl (by kernel_rfl) (by kernel_rfl) (by kernel_rfl) (by kernel_rfl) (fun _ _ _ h => h) ?_ hHeld ?_
    rotate_left
    · intro o ho
      simp at ho
      subst ho
      intro wz hSw
      try dsimp only at hSw
      go_simp
      try with_reducible rfl
    try simp only [Act.put, List.setIfInBounds_toArray, List.set_cons_zero, List.set_cons_succ]
    refine last_take (i := 8) (d := some 29) (v := ?_) rfl (by kernel_rfl) (by kernel_rfl) (by kernel_rfl) (by kernel_rfl) (fun _ _ _ h => h) ?_ hHeld ?_
    rotate_left
    · intro o ho
      simp at ho
      subst ho
      intro wz hSw
      try dsimp only at hSw
      go_simp
      try with_reducible rfl
    try simp only [Act.put, List.setIfInBounds_toArray, List.set_cons_zero, List.set_cons_succ]
    refine last_take (i := 9) (d := some 30) (v := ?_) rfl (by kernel_rfl) (by kernel_rfl) (by kernel_rfl) (by kernel_rfl) (fun _ _ _ h => h) ?_ hHeld ?_
    rotate_left
    · intro o ho
      simp at ho
      subst ho
      intro wz hSw
      try dsimp only at hSw
      go_simp
      try with_reducible rfl
    try simp only [Act.put, List.setIfInBounds_toArray, List.set_cons_zero, List.set_cons_succ]
    refine last_take (i := 10) (d := some 31) (v := ?_) rfl (by kernel_rfl) (by kernel_rfl) (by kernel_rfl) (by kernel_rfl) (fun _ _ _ h => h) ?_ hHeld ?_
    rotate_left
    · intro o ho
      simp at ho
      subst ho
      intro wz hSw
      try dsimp only at hSw
      go_simp
      try with_reducible rfl
    try simp only [Act.put, List.setIfInBounds_toArray, List.set_cons_zero, List.set_cons_succ]
    refine last_take (i := 11) (d := some 32) (v := ?_) rfl (by kernel_rfl) (by kernel_rfl) (by kernel_rfl) (by kernel_rfl) (fun _ _ _ h => h) ?_ hHeld ?_
    rotate_left
    · intro o ho
      simp at ho
      subst ho
      intro wz hSw
      try dsimp only at hSw
      go_simp
      try with_reducible rfl
    try simp only [Act.put, List.setIfInBounds_toArray, List.set_cons_zero, List.set_cons_succ]
    refine last_take (i := 12) (d := some 33) (v := ?_) rfl (by kernel_rfl) (by kernel_rfl) (by kernel_rfl) (by kernel_rfl) (fun _ _ _ h => h) ?_ hHeld ?_
    rotate_left
    · intro o ho
      simp at ho
      subst ho
      intro wz hSw
      try dsimp only at hSw
      go_simp
      try with_reducible rfl
    try simp only [Act.put, List.setIfInBounds_toArray, List.set_cons_zero, List.set_cons_succ]
    refine last_take (i := 13) (d := some 34) (v := ?_) rfl (by kernel_rfl) (by kernel_rfl) (by kernel_rfl) (by kernel_rfl) (fun _ _ _ h => h) ?_ hHeld ?_
    rotate_left
    · intro o ho
      simp at ho
      subst ho
      intro wz hSw
      try dsimp only at hSw
      go_simp
      try with_reducible rfl
    try simp only [Act.put, List.setIfInBounds_toArray, List.set_cons_zero, List.set_cons_succ]
    refine last_call (i := 14) rfl (by kernel_rfl) ?_
    intro o ho
    simp at ho
    subst ho
    intro K' hK'
    go_simp
    go_at_call 32
    refine (join_c z.n z.o z.h z.d b.n b.o b.h b.d _ (by omega) (by omega) j hj).mono ?_
    rintro e w2 ⟨rfl, hb2⟩
    have hB2 : Below w1.heap.size w1 w2 := ((Below.refl _ _).drew).trans hb2
    have t5 : w2.heap[t]? = w.heap[t]? := (hB2.block t t3).trans t4
    have q2 : w2.cell? ⟨c, 1, none⟩ = some (.map (some t)) := keep_cell (hB2.block c b3) q1
    have bx2 := (unhide bx).below hB2
    refine hK'.out _ _ (fun _ => ⟨q2, unhide hlk _ t5, bx2.c0, bx2.c1, bx2.c2, bx2.c3⟩) (fun hHeld0 => ?_)
    clear hK' K'
    replace hHeld := hHeld0 (by decide)
    clear hHeld0
    try simp only [Act.put, List.setIfInBounds_toArray, List.set_cons_zero, List.set_cons_succ]
    obtain ⟨w3, D', hrun, hD3, hf3⟩ := tk_put (K' := nxUse C.A x) ((unhide hD).carry t5) hx j (fun k hk => mem_nxUse.2 hk) (mem_nxUse.2 (unhide hxA)) hlen2
    refine last_call (i := 15) rfl (by kernel_rfl) ?_
    intro o ho
    simp at ho
    subst ho
    intro K hK
    refine wp_upd (.tmp 25) (.tmp 26) (.tmp 35) rfl rfl rfl rfl hrun ?_
    refine hK.out _ _ (fun h => absurd rfl h) (fun _ => ?_)
    clear hK K
    try simp only [Act.put, List.setIfInBounds_toArray, List.set_cons_zero, List.set_cons_succ]
    refine last_done (by kernel_rfl) (NoPanic.normal ?_) _
    clear hHeld
    have hW := hide ((unhide hH).alloc (.cells #[.int .i64 b.n, .bool b.o, .bool b.h, .int .i64 b.d] 31) |>.alloc (.cells #[.int .i64 0, .int .i64 0, .bool false, .bool false, .int .i64 0] 37))
    have hhW : HdIs ((w.alloc (.cells #[.int .i64 b.n, .bool b.o, .bool b.h, .int .i64 b.d] 31)).alloc (.cells #[.int .i64 0, .int .i64 0, .bool false, .bool false, .int .i64 0] 37)) p t Fh S W C.A C.A C.T := (unhide hh).below (by repeat' first | with_reducible exact Below.refl _ _ | with_reducible refine Below.setCell ?_ ?_ _ | with_reducible refine Below.alloc ?_ ?_ _ | with_reducible refine Below.drew ?_ | with_reducible refine belowN ?_ _ | with_reducible refine Over.go _ ?_ ?_ | with_reducible exact Nat.le_refl _ | with_reducible refine Over.sz _ _ ?_ | with_reducible refine le_alloc ?_ | with_reducible refine le_setCell ?_ | with_reducible refine le_drewN ?_ | with_reducible refine le_drew ?_ | omega | (dsimp only; omega))
    obtain ⟨Fh3, hh3, hsh3⟩ := hhW.put hFl hnt (Below.refl _ _) (unhide hn1) (unhide hs1) hD3 ((FrS.of_below hB2).trans hf3 (fun i hi => .inl hi))
    obtain ⟨Ft3, hn3, hs3⟩ := (unhide hW).back (by simp [go_sem, *]) (by simp [go_sem, *]) hF hc (unhide hI') hh3 hsh3
    obtain ⟨m1, m2, m3⟩ := hs3.keep (b := w.heap.size + 1) (fun e => by have := hlt _ e; omega) (by first | (simp; done) | (simp; omega))
    have hfin : Hid (CaIs w3 c Ft3 S W (N + K) ⟨nxUse C.A x, updT C.T x j⟩ ∧ Step Ft Ft3 w w3 ∧ ¬ Ft3 (w.heap.size + 1)) := ⟨hn3, (Step.of_below (by repeat' first | with_reducible exact Below.refl _ _ | with_reducible refine Below.setCell ?_ ?_ _ | with_reducible refine Below.alloc ?_ ?_ _ | with_reducible refine Below.drew ?_ | with_reducible refine belowN ?_ _ | with_reducible refine Over.go _ ?_ ?_ | with_reducible exact Nat.le_refl _ | with_reducible refine Over.sz _ _ ?_ | with_reducible refine le_alloc ?_ | with_reducible refine le_setCell ?_ | with_reducible refine le_drewN ?_ | with_reducible refine le_drew ?_ | omega | (dsimp only; omega))).trans hs3, m2⟩
    have y3 : LnAt w3 (w.heap.size + 1) ln0 := ⟨m3, keep_cell m1 (by simp [go_sem]), keep_cell m1 (by simp [go_sem]), keep_cell m1 (by simp [go_sem]), keep_cell m1 (by simp [go_sem]), keep_cell m1 (by simp [go_sem]), keep_frozen m1 (by simp [go_sem]), keep_frozen m1 (by simp [go_sem]), keep_frozen m1 (by simp [go_sem]), keep_frozen m1 (by simp [go_sem]), keep_frozen m1 (by simp [go_sem])⟩
    obtain ⟨y5, y0, y1, y2, y3, y4, z0, z1, z2, z3, z4⟩ := y3
    clear hn3 hs3 hh3 hsh3 hhW hW hrun hD3 hf3 bx2 m1 m2 m3
    go_wp2_with fail
    refine bodyPost_ret (by simp [results, Try.results14, go_sem, *]; done) rfl ⟨rfl, ?_⟩
    refine CaIs.fin (unhide hfin) (by omega) ?_
    repeat' first | with_reducible exact FrS.refl _ _ | refine FrS.wr ?_ _
  · have hrem : Hid (okRem C.A x = false) := by simp [Hid, okRem, hxA]
    have hnx : Hid (nxUse C.A x = C.A) := by simp [Hid, nxUse, hxA]
    replace hxA := hide hxA
    go_enter Try.func14, Try.ntmps14
    go_wp2_with fail
    go_at_call 31
    refine (use_c p Fl S W x C.A _ (((unhide hl).alloc _).alloc _) hx.2).mono ?_
    rw [hrem.out, hnx.out]
    rintro e w1 ⟨rfl, Fl1, hn1, hs1⟩
    have hW := hide ((unhide hH).alloc (.cells #[.int .i64 b.n, .bool b.o, .bool b.h, .int .i64 b.d] 31) |>.alloc (.cells #[.int .i64 0, .int .i64 0, .bool false, .bool false, .int .i64 0] 37))
    have hhW : HdIs ((w.alloc (.cells #[.int .i64 b.n, .bool b.o, .bool b.h, .int .i64 b.d] 31)).alloc (.cells #[.int .i64 0, .int .i64 0, .bool false, .bool false, .int .i64 0] 37)) p t Fh S W C.A C.A C.T := (unhide hh).below (by repeat' first | with_reducible exact Below.refl _ _ | with_reducible refine Below.setCell ?_ ?_ _ | with_reducible refine Below.alloc ?_ ?_ _ | with_reducible refine Below.drew ?_ | with_reducible refine belowN ?_ _ | with_reducible refine Over.go _ ?_ ?_ | with_reducible exact Nat.le_refl _ | with_reducible refine Over.sz _ _ ?_ | with_reducible refine le_alloc ?_ | with_reducible refine le_setCell ?_ | with_reducible refine le_drewN ?_ | with_reducible refine le_drew ?_ | omega | (dsimp only; omega))
    obtain ⟨Fh1, hh1, hsh1⟩ := hhW.turn hFl hnt (Below.refl _ _) hn1 hs1 ((unhide hD).carry ((Below.heap_alloc _ _ _ (by first | (simp; done) | (simp; omega))).trans (Below.heap_alloc _ _ _ htl)))
    obtain ⟨k1, k2, k3⟩ := hsh1.keep (b := w.heap.size) (fun e => by have := hFhw _ e; omega) (by first | (simp; done) | (simp; omega))
    obtain ⟨a1, a2, a3⟩ := hsh1.keep (b := w.heap.size + 1) (fun e => by have := hFhw _ e; omega) (by first | (simp; done) | (simp; omega))
    obtain ⟨b1, b2, b3⟩ := hsh1.keep (b := c) hc (by first | (simp; done) | (simp; omega))
    have bx : BunAt w1 w.heap.size b := ⟨k3, keep_cell k1 (by simp [go_sem]), keep_cell k1 (by simp [go_sem]), keep_cell k1 (by simp [go_sem]), keep_cell k1 (by simp [go_sem]), keep_frozen k1 (by simp [go_sem]), keep_frozen k1 (by simp [go_sem]), keep_frozen k1 (by simp [go_sem]), keep_frozen k1 (by simp [go_sem])⟩
    have y : Hid (LnAt w1 (w.heap.size + 1) ln0) := ⟨a3, keep_cell a1 (by simp [go_sem]), keep_cell a1 (by simp [go_sem]), keep_cell a1 (by simp [go_sem]), keep_cell a1 (by simp [go_sem]), keep_cell a1 (by simp [go_sem]), keep_frozen a1 (by simp [go_sem]), keep_frozen a1 (by simp [go_sem]), keep_frozen a1 (by simp [go_sem]), keep_frozen a1 (by simp [go_sem]), keep_frozen a1 (by simp [go_sem])⟩
    have q0 : w1.cell? ⟨c, 0, none⟩ = some (ptr p) := keep_cell b1 (by simp [go_sem, *])
    have q1 : w1.cell? ⟨c, 1, none⟩ = some (.map (some t)) := keep_cell b1 (by simp [go_sem, *])
    obtain ⟨-, u0, u1, u2, u3, -, -, -, -⟩ := id bx
    replace bx := hide bx
    replace hh1 := hide hh1
    replace hsh1 := hide hsh1
    replace hhW := hide hhW
    clear k1 a1 b1 hn1 hs1
    go_wp2_with fail
    refine wp_region_noPanic ?_
    refine wp_region_held_drew (S := (fun w' => w'.cell? ⟨c, 0, none⟩ = some (ptr p) ∧ w'.cell? ⟨c, 1, none⟩ = some (.map (some t)) ∧ w'.cell? ⟨w.heap.size, 0, none⟩ = some (.int .i64 b.n) ∧ w'.cell? ⟨w.heap.size, 1, none⟩ = some (.bool b.o) ∧ w'.cell? ⟨w.heap.size, 2, none⟩ = some (.bool b.h) ∧ w'.cell? ⟨w.heap.size, 3, none⟩ = some (.int .i64 b.d))) (by kernel_rfl) ?_ (fun hHeld => ?_)
    · exact ⟨q0, q1, u0, u1, u2, u3⟩
    refine hand_take (i := 0) (d := some 37) (v := ?_) rfl (by kernel_rfl) (by kernel_rfl) (by kernel_rfl) (fun _ _ _ h => h) ?_ hHeld ?_
    rotate_left
    · intro o ho
      simp at ho
      subst ho
      intro wz hSw
      try dsimp only at hSw
      go_simp
      try with_reducible rfl
    try simp only [Act.put, List.setIfInBounds_toArray, List.set_cons_zero, List.set_cons_succ]
    refine hand_take (i := 1) (d := some 38) (v := ?_) rfl (by kernel_rfl) (by kernel_rfl) (by kernel_rfl) (fun _ _ _ h => h) ?_ hHeld ?_
    rotate_left
    · intro o ho
      simp at ho
      subst ho
      intro wz hSw
      try dsimp only at hSw
      go_simp
      try with_reducible rfl
    try simp only [Act.put, List.setIfInBounds_toArray, List.set_cons_zero, List.set_cons_succ]
    refine hand_take (i := 2) (d := some 39) (v := ?_) rfl (by kernel_rfl) (by kernel_rfl) (by kernel_rfl) (fun _ _ _ h => h) ?_ hHeld ?_
    rotate_left
    · intro o ho
      simp at ho
      subst ho
      intro wz hSw
      try dsimp only at hSw
      go_simp
      try with_reducible rfl
    try simp only [Act.put, List.setIfInBounds_toArray, List.set_cons_zero, List.set_cons_succ]
    refine hand_take (i := 3) (d := some 40) (v := ?_) rfl (by kernel_rfl) (by kernel_rfl) (by kernel_rfl) (fun _ _ _ h => h) ?_ hHeld ?_
    rotate_left
    · intro o ho
      simp at ho
      subst ho
      intro wz hSw
      try dsimp only at hSw
      go_simp
      try with_reducible rfl
    try simp only [Act.put, List.setIfInBounds_toArray, List.set_cons_zero, List.set_cons_succ]
    refine hand_take (i := 4) (d := some 41) (v := ?_) rfl (by kernel_rfl) (by kernel_rfl) (by kernel_rfl) (fun _ _ _ h => h) ?_ hHeld ?_
    rotate_left
    · intro o ho
      simp at ho
      subst ho
      intro wz hSw
      try dsimp only at hSw
      go_simp
      try with_reducible rfl
    try simp only [Act.put, List.setIfInBounds_toArray, List.set_cons_zero, List.set_cons_succ]
    refine hand_take (i := 5) (d := some 42) (v := ?_) rfl (by kernel_rfl) (by kernel_rfl) (by kernel_rfl) (fun _ _ _ h => h) ?_ hHeld ?_
    rotate_left
    · intro o ho
      simp at ho
      subst ho
      intro wz hSw
      try dsimp only at hSw
      go_simp
      try with_reducible rfl
    try simp only [Act.put, List.setIfInBounds_toArray, List.set_cons_zero, List.set_cons_succ]
    refine hand_take (i := 6) (d := some 43) (v := ?_) rfl (by kernel_rfl) (by kernel_rfl) (by kernel_rfl) (fun _ _ _ h => h) ?_ hHeld ?_
    rotate_left
    · intro o ho
      simp at ho
      subst ho
      intro wz hSw
      try dsimp only at hSw
      go_simp
      try with_reducible rfl
    try simp only [Act.put, List.setIfInBounds_toArray, List.set_cons_zero, List.set_cons_succ]
    refine hand_call (i := 7) rfl (by kernel_rfl) ?_
    intro o ho
    simp at ho
    subst ho
    intro K' hK'
    go_simp
    go_at_call 33
    refine (place_c p t Fh1 S W x q C b w1.drew ((unhide hh1).below ((Below.refl _ _).drew)) hx (unhide hxA) (by omega) r ok C' hg hC).mono ?_
    rintro e w2 ⟨rfl, Fh2, hh2, hsh2⟩
    replace hsh2 := (Step.of_below (F := Fh1) ((Below.refl w1.heap.size w1).drew)).trans hsh2
    obtain ⟨j1, j2, j3⟩ := hsh2.keep (b := w.heap.size) k2 k3
    obtain ⟨l1, l2, l3⟩ := hsh2.keep (b := w.heap.size + 1) a2 a3
    obtain ⟨m1, m2, m3⟩ := hsh2.keep (b := c) b2 b3
    have bx2 := (unhide bx).carry j1
    have q02 := keep_cell m1 q0
    have q12 := keep_cell m1 q1
    refine hK'.out _ _ ⟨q02, q12, bx2.c0, bx2.c1, bx2.c2, bx2.c3⟩ (fun hHeld => ?_)
    clear hK' K'
    try simp only [Act.put, List.setIfInBounds_toArray, List.set_cons_zero, List.set_cons_succ]
    obtain ⟨Ft2, hn2, hs2⟩ := (unhide hW).back (by simp [go_sem, *]) (by simp [go_sem, *]) hF hc (unhide hI') hh2 ((unhide hsh1).trans hsh2)
    obtain ⟨n1, n2, n3⟩ := hs2.keep (b := w.heap.size + 1) (fun e => by have := hlt _ e; omega) (by first | (simp; done) | (simp; omega))
    have hfin : Hid (CaIs w2 c Ft2 S W (N + K) C' ∧ Step Ft Ft2 w w2 ∧ ¬ Ft2 (w.heap.size + 1)) := ⟨hn2, (Step.of_below (by repeat' first | with_reducible exact Below.refl _ _ | with_reducible refine Below.setCell ?_ ?_ _ | with_reducible refine Below.alloc ?_ ?_ _ | with_reducible refine Below.drew ?_ | with_reducible refine belowN ?_ _ | with_reducible refine Over.go _ ?_ ?_ | with_reducible exact Nat.le_refl _ | with_reducible refine Over.sz _ _ ?_ | with_reducible refine le_alloc ?_ | with_reducible refine le_setCell ?_ | with_reducible refine le_drewN ?_ | with_reducible refine le_drew ?_ | omega | (dsimp only; omega))).trans hs2, n2⟩
    obtain ⟨y5, y0, y1, y2, y3, y4, z0, z1, z2, z3, z4⟩ := (unhide y).carry l1
    clear hn2 hs2 hh2 hsh2 n1 n2 n3 j1 j2 l1 l2 m1 m2
    refine hand_take (i := 8) (d := some 45) (v := ?_) rfl (by kernel_rfl) (by kernel_rfl) (by kernel_rfl) (fun _ _ _ h => h) ?_ hHeld ?_
    rotate_left
    · intro o ho
      simp at ho
      subst ho
      intro wz hSw
      try dsimp only at hSw
      go_simp
      try with_reducible rfl
    try simp only [Act.put, List.setIfInBounds_toArray, List.set_cons_zero, List.set_cons_succ]
    refine hand_take (i := 9) (d := some 46) (v := ?_) rfl (by kernel_rfl) (by kernel_rfl) (by kernel_rfl) (fun _ _ _ h => h) ?_ hHeld ?_
    rotate_left
    · intro o ho
      simp at ho
      subst ho
      intro wz hSw
      try dsimp only at hSw
      go_simp
      try with_reducible rfl
    try simp only [Act.put, List.setIfInBounds_toArray, List.set_cons_zero, List.set_cons_succ]
    refine hand_call (i := 10) rfl (by kernel_rfl) ?_
    intro o ho
    simp at ho
    subst ho
    intro K hK
    go_simp
    refine hK.out _ _ ?_ (fun hHeld => ?_)
    · (have fr : ∀ v0 v1 v2 v3 v4, FrS (· = w.heap.size + 1) w2 (((((w2.setCell ⟨w.heap.size + 1, 0, none⟩ v0).setCell ⟨w.heap.size + 1, 1, none⟩ v1).setCell ⟨w.heap.size + 1, 2, none⟩ v2).setCell ⟨w.heap.size + 1, 3, none⟩ v3).setCell ⟨w.heap.size + 1, 4, none⟩ v4) := by (intro v0 v1 v2 v3 v4; repeat' first | with_reducible exact FrS.refl _ _ | refine FrS.wr ?_ _)); exact ⟨keep_cell ((fr _ _ _ _ _).block c m3 (by omega)) q02, keep_cell ((fr _ _ _ _ _).block c m3 (by omega)) q12, keep_cell ((fr _ _ _ _ _).block _ j3 (by omega)) bx2.c0, keep_cell ((fr _ _ _ _ _).block _ j3 (by omega)) bx2.c1, keep_cell ((fr _ _ _ _ _).block _ j3 (by omega)) bx2.c2, keep_cell ((fr _ _ _ _ _).block _ j3 (by omega)) bx2.c3⟩
    clear hK K
    try simp only [Act.put, List.setIfInBounds_toArray, List.set_cons_zero, List.set_cons_succ]
    refine hand_take (i := 11) (d := some 9) (v := ?_) rfl (by kernel_rfl) (by kernel_rfl) (by kernel_rfl) (fun _ _ _ h => h) ?_ hHeld ?_
    rotate_left
    · intro o ho
      simp at ho
      subst ho
      intro wz hSw
      try dsimp only at hSw
      go_simp
      try with_reducible rfl
    try simp only [Act.put, List.setIfInBounds_toArray, List.set_cons_zero, List.set_cons_succ]
    refine wpAnyH_done (by kernel_rfl) (NoPanic.normal ?_) _
    clear hHeld
    go_wp2_with fail
    refine bodyPost_ret (by simp [results, Try.results14, go_sem, *]; done) rfl ⟨rfl, ?_⟩
    refine CaIs.fin (unhide hfin) (by omega) ?_
    repeat' first | with_reducible exact FrS.refl _ _ | refine FrS.wr ?_ _
end Go.Proofs.Ytooopcadefpncaa
