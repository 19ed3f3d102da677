/- layer 15: NdD NdS RnB, put together. -/
import Derived.Test.YtoenjdnccgmhoaaGreatDoorB26
import Derived.Test.YtoenjdnccgmhoaaGreatDoorB27
import Derived.Test.YtoenjdnccgmhoaaGreatDoorB30
import Derived.Test.YtoenjdnccgmhoaaGreatDoorB29
namespace Go.Proofs.YtoenjdnccgmhoaaGreatDoor
open Go.ChangeShapes Go.WideShapes Go.ChangeAt Go.RowKit
set_option linter.unusedSimpArgs false
set_option linter.unusedVariables false
set_option maxRecDepth 10000
attribute [local go_sem, local simp] over_const setCell_drewN alloc_drewN Over.cell Over.frozen lt_s1 lt_s2 lt_s3 le_s0 le_s1 le_s2 le_s3 eq_s0 eq_s1 eq_s2 qe_s0
abbrev outR (v1 v2 : Value) : Obj := .cells #[v1, v2] 44
structure OutP (w : World) (p : Nat) (B : Bk) (Fc Fc' : Nat → Prop) (c : Cf) (id : Int) (N : Nat) (D : Nd) (L : List Lt) (M : List Dn) (v1 v2 : Value) (w' : World) (g1 g2 : Nat) : Prop where
  own : OwnT w' v1 g1 L
  dn : ViewD w' v2 g2 M
  new : w.heap.size ≤ g1
  ne : M ≠ [] → g2 ≠ g1 ∧ w.heap.size ≤ g2
  nd : NdIs w' p B Fc' c id N D
  st : Step (Fa p B Fc) (Fa p B Fc') w w'
  nf1 : ¬ Fa p B Fc' g1
  nf2 : M ≠ [] → ¬ Fa p B Fc' g2
theorem keepF {F F' : Nat → Prop} {w w' : World} (h : Step F F' w w') {b : Nat} {o : Option Obj} (hb : ¬ F b) (hl : b < w.heap.size) (e : w.heap[b]? = o) : w'.heap[b]? = o := (h.keep hb hl).1.trans e
theorem Step.setNew {F F' : Nat → Prop} {w w2 : World} (h : Step F F' w w2) {R : Nat} (hR : w.heap.size ≤ R) (i : Nat) (u : Value) : Step F F' w (w2.setCell ⟨R, i, none⟩ u) := ⟨h.fr.setCell (q := ⟨R, i, none⟩) (.inr hR) u, h.new⟩
set_option maxHeartbeats 2000000 in
theorem ndSettle_c (p : Nat) (B : Bk) (Fc : Nat → Prop) (c : Cf) (id : Int) (N : Nat) (D : Nd) (w : World) (h : NdIs w p B Fc c id N D) (hN1 : N + 2 ≤ 2000) (hop : I64 D.P.op.b) (L : List Lt) (hL : Hid (sttL c id D = L)) (M : List Dn) (hM : Hid (sttN c id D = M)) : Calls Tryz.prog 33 #[ptr p] w fun e w' => ∃ v1 v2, e = .returned (.agg #[v1, v2]) ∧ ∃ Fc' g1 g2, OutP w p B Fc Fc' c id (N + 2) (nxS c id D) L M v1 v2 w' g1 g2 := by
  have hH := hide h
  have hL' := hL.out
  have hM' := hM.out
  obtain ⟨op, hx⟩ : ∃ x, Hid (D.P.op = x) := ⟨_, rfl⟩
  obtain ⟨bu, hbu⟩ : ∃ bu, Hid (D.P.busy = bu) := ⟨_, rfl⟩
  obtain ⟨q, hq⟩ : ∃ q, Hid (okDo D.C op.b op.w c.tt = q) := ⟨_, rfl⟩
  rw [hx.out] at hop
  unfold sttL sttOk at hL'
  unfold sttN sttOk at hM'
  unfold nxS sttOk
  rw [hx.out, hbu.out, hq.out] at hL' hM' ⊢
  have hpl := h.pl
  have c12 := h.at'.c12
  have hFw := hide h.lt
  clear hL hM h
  cases bu
  · simp at hL' hM'
    subst hL' hM'
    simp only [Bool.false_and, Bool.false_eq_true, if_false]
    go_enter Tryz.func33, Tryz.ntmps33
    go_wp2_with (go_at_call 34; refine (pPend_c B.pr c.cu c.ct D.P _ (hH.out.alloc (outR (.slice none 0 0) (.slice none 0 0))).pr op hx false hbu).mono ?_; rintro e w1 ⟨rfl, hb1⟩; obtain ⟨x, rfl⟩ := over hb1; clear hb1; have f1 := x.upB (w.heap.size))
    refine bodyPost_ret (v := .agg #[.slice none 0 0, .slice none 0 0]) (by simp [results, Tryz.results33, go_sem, *]; done) rfl ⟨_, _, rfl, Fc, w.heap.size, w.heap.size, ?_⟩
    refine ⟨own_nilT (by simp; omega), view_nilD _ _, Nat.le_refl _, fun h => absurd rfl h, (hH.out.mono (by omega)).below (by all_goals exact belEnd), Step.of_below (by all_goals exact belEnd), fun e => by have := hFw.out _ e; omega, fun h => absurd rfl h⟩
  · simp only [Bool.true_and] at hL' hM' ⊢
    go_enter Tryz.func33, Tryz.ntmps33
    go_wp2_with (go_at_call 34; refine (pPend_c B.pr c.cu c.ct D.P _ (hH.out.alloc (outR (.slice none 0 0) (.slice none 0 0))).pr op hx true hbu).mono ?_; rintro e w1 ⟨rfl, hb1⟩; obtain ⟨x, rfl⟩ := over hb1; clear hb1; have f1 := x.upB (w.heap.size))
    refine name_world ?_
    intro V hV
    have hB : Hid (Below w.heap.size w V) := by rw [← hV]; exact hide (by all_goals exact belEnd)
    have hk0 : w.heap.size < x.w.heap.size ∧ x.w.heap.size < V.heap.size := by rw [← hV]; exact ⟨f1, by simp⟩
    have hR : V.heap[w.heap.size]? = some (outR (.slice none 0 0) (.slice none 0 0)) := by rw [← hV]; exact (Below.heap_alloc _ _ _ f1).trans ((x.below.block _ (by simp)).trans (heap_alloc_new w _))
    have hkF : ¬ Fa p B Fc x.w.heap.size := fun e => by have := hFw.out _ e; omega
    have hRF : ¬ Fa p B Fc w.heap.size := fun e => by have := hFw.out _ e; omega
    have hkb : V.heap[x.w.heap.size]? = some (opR op) := by rw [← hV]; exact heap_alloc_new x.w _
    obtain ⟨kb, hk⟩ : ∃ kb, x.w.heap.size = kb := ⟨_, rfl⟩
    rw [hk] at hk0 hkF hkb ⊢
    obtain ⟨R, hRe⟩ : ∃ R, Hid (w.heap.size = R) := ⟨_, rfl⟩
    rw [hRe.out] at hk0 hR hRF ⊢
    clear hV hk f1 x c12
    have hN := hide (hH.out.below hB.out)
    obtain ⟨hpV, -, -, a2, -, -, -, -, -, -, -, a10, -, -, -, -⟩ := hN.out.at'
    have o0 : V.cell? ⟨kb, 0, none⟩ = some (.int .i64 op.b) := cell_of_row _ _ _ _ _ _ hkb
    have o1 : V.cell? ⟨kb, 1, none⟩ = some (.bool op.w) := cell_of_row _ _ _ _ _ _ hkb
    have o2 : V.cell? ⟨kb, 2, none⟩ = some (.int .i64 op.v) := cell_of_row _ _ _ _ _ _ hkb
    obtain ⟨rv, hrv⟩ : ∃ rv, Hid (valDo D.C op.b op.w op.v c.tt = rv) := ⟨_, rfl⟩
    obtain ⟨C', hC'⟩ : ∃ C', Hid (nxDo D.C op.b op.w op.v c.tt = C') := ⟨_, rfl⟩
    go_wp2_with fail
    refine wp_region_noPanic ?_
    refine wp_region_held_drew (S := (fun w' => w'.cell? ⟨p, 10, none⟩ = some (ptr B.ca) ∧ w'.cell? ⟨p, 2, none⟩ = some (.int .i64 c.tt) ∧ w'.cell? ⟨kb, 0, none⟩ = some (.int .i64 op.b) ∧ w'.cell? ⟨kb, 1, none⟩ = some (.bool op.w) ∧ w'.cell? ⟨kb, 2, none⟩ = some (.int .i64 op.v))) (by kernel_rfl) ?_ (fun hHeld => ?_)
    · exact ⟨a10, a2, o0, o1, o2⟩
    refine hTk 0 21 hHeld ?_
    refine hTk 1 22 hHeld ?_
    refine hTk 2 23 hHeld ?_
    refine hTk 3 24 hHeld ?_
    refine hTk 4 25 hHeld ?_
    refine hTk 5 26 hHeld ?_
    refine hTk 6 27 hHeld ?_
    refine hTk 7 28 hHeld ?_
    refine hTk 8 29 hHeld ?_
    refine hTk 9 30 hHeld ?_
    refine hNo 10 fun K hK => ?_
    go_simp
    go_at_call 74
    refine (cDo_c B.ca Fc c.cs c.cy (N * 65536) op.b op.w op.v c.tt D.C _ (hN.out.drewN 1).ca hop q rv C' hq hrv hC').mono ?_
    rintro e w2 ⟨rfl, Fc2, hca2, hst2⟩
    obtain ⟨n2, s2⟩ := (hN.out.drewN 1).setC hca2 hst2 (Nat.le_refl N)
    have hR2 := keepF s2 hRF (Nat.lt_trans hk0.1 hk0.2) hR
    have hkb2 := keepF s2 hkF hk0.2 hkb
    have hk2 : ¬ Fa p B Fc2 kb := (s2.keep hkF hk0.2).2.1
    have hR2F : ¬ Fa p B Fc2 R := (s2.keep hRF (Nat.lt_trans hk0.1 hk0.2)).2.1
    have hl2 : kb < w2.heap.size := (s2.keep hkF hk0.2).2.2
    have hS2 : Hid (Step (Fa p B Fc) (Fa p B Fc2) w w2) := hide ((Step.of_below (belowN hB.out 1)).trans s2)
    replace n2 := hide n2
    clear hca2 hst2 s2 hR hkb hkF hRF a2 a10 o0 o1 o2 hN hpV
    obtain ⟨hp2, -, -, a2, -, -, -, -, -, -, a9, a10, -, a12, -, -⟩ := n2.out.at'
    have o0 : w2.cell? ⟨kb, 0, none⟩ = some (.int .i64 op.b) := cell_of_row _ _ _ _ _ _ hkb2
    have o1 : w2.cell? ⟨kb, 1, none⟩ = some (.bool op.w) := cell_of_row _ _ _ _ _ _ hkb2
    have o2 : w2.cell? ⟨kb, 2, none⟩ = some (.int .i64 op.v) := cell_of_row _ _ _ _ _ _ hkb2
    refine hK.out _ _ ?_ fun hHeld => ?_
    · exact ⟨a10, a2, o0, o1, o2⟩
    clear hK K
    try simp only [Act.put, za, zb, zc]
    refine hTk 11 20 hHeld ?_
    refine hTk 12 32 hHeld ?_
    refine hTk 13 33 hHeld ?_
    refine hTk 14 5 hHeld ?_
    refine hTk 15 6 hHeld ?_
    refine wpAnyH_done (by kernel_rfl) (NoPanic.normal ?_) _
    clear hHeld
    cases q
    · simp only [Bool.false_eq_true, if_false] at hL' hM' ⊢
      subst hL' hM'
      have e : C' = D.C := by rw [← hC'.out]; unfold nxDo; rw [hq.out]; simp
      have r0 : w2.cell? ⟨R, 0, none⟩ = some (.slice none 0 0) := cell_of_row _ _ _ _ _ _ hR2
      have r1 : w2.cell? ⟨R, 1, none⟩ = some (.slice none 0 0) := cell_of_row _ _ _ _ _ _ hR2
      have z : ∀ i, w2.frozen? ⟨R, i, none⟩ = false := fun i => frozen_of_row _ _ _ _ _ hR2
      go_wp2_with fail
      refine bodyPost_ret (v := .agg #[.slice none 0 0, .slice none 0 0]) (by simp [results, Tryz.results33, go_sem, *]; done) rfl ⟨_, _, rfl, Fc2, R, R, ?_⟩
      have hs2 := n2.out.pl
      have hRw : w.heap.size ≤ R := by have := hRe.out; omega
      have n2' := n2.out
      rw [e] at n2'
      exact ⟨own_nilT (by simp; omega), view_nilD _ _, hRw, fun h => absurd rfl h, ((n2'.mono (by omega)).setCell _ _ (.inr hR2F)).setCell _ _ (.inr hR2F), (hS2.out.setNew hRw _ _).setNew hRw _ _, hR2F, fun h => absurd rfl h⟩
    · simp only [if_true] at hL' hM' ⊢
      obtain ⟨nu, hnu⟩ : ∃ nu, Hid (numF D.P = nu) := ⟨_, rfl⟩
      rw [hnu.out, hrv.out] at hM'
      have hkk := n2.out.pk
      have hPk : D.P.k < 100000 := by have : D.P.k ≤ N := hkk; omega
      go_wp2_with (go_at_call 75; refine (pFin_c B.pr c.cu c.ct D.P _ n2.out.pr hPk nu hnu true hbu).mono ?_; rintro e w3 ⟨rfl, hp3, hf3⟩; replace hp3 := hide hp3; replace hf3 := hide hf3)
      obtain ⟨n3, s3⟩ := n2.out.setP (M := N + 1) hp3.out hf3.out (Nat.le_succ N) (by have := nxF_k D.P; omega)
      have hst : (⟨C', D.T, nxF D.P, D.A, D.O⟩ : Nd) = sttD c D := by unfold sttD; rw [hx.out, hC'.out]
      have n3' : NdIs w3 p B Fc2 c id (N + 1) (sttD c D) := by rw [← hst]; exact n3
      clear hst n3
      have hR3 := keepF s3 hR2F (by omega) hR2
      have hkb3 := keepF s3 hk2 hl2 hkb2
      have hk3 := (s3.keep hk2 hl2).2.1
      have hR3F := (s3.keep hR2F (by omega)).2.1
      have hl3 := (s3.keep hk2 hl2).2.2
      have hS3 : Hid (Step (Fa p B Fc) (Fa p B Fc2) w w3) := hide (hS2.out.trans s3)
      replace n3' := hide n3'
      clear s3 hp3 hf3 hR2 hkb2 hk2 hR2F hl2 hS2 n2 a2 a9 a10 a12 o0 o1 o2 hp2
      obtain ⟨hp3, -, -, -, -, -, -, -, -, -, a9, -, -, -, -, -⟩ := n3'.out.at'
      have o0 : w3.cell? ⟨kb, 0, none⟩ = some (.int .i64 op.b) := cell_of_row _ _ _ _ _ _ hkb3
      have o1 : w3.cell? ⟨kb, 1, none⟩ = some (.bool op.w) := cell_of_row _ _ _ _ _ _ hkb3
      have o2 : w3.cell? ⟨kb, 2, none⟩ = some (.int .i64 op.v) := cell_of_row _ _ _ _ _ _ hkb3
      go_wp2_with fail
      refine wp_region_noPanic ?_
      refine wp_region_held_drew (S := (fun w' => w'.cell? ⟨p, 9, none⟩ = some (.int .i64 id) ∧ w'.cell? ⟨kb, 0, none⟩ = some (.int .i64 op.b) ∧ w'.cell? ⟨kb, 1, none⟩ = some (.bool op.w) ∧ w'.cell? ⟨kb, 2, none⟩ = some (.int .i64 op.v))) (by kernel_rfl) ?_ (fun hHeld => ?_)
      · exact ⟨a9, o0, o1, o2⟩
      refine hTk 0 45 hHeld ?_
      refine hTk 1 46 hHeld ?_
      refine hTk 2 47 hHeld ?_
      refine hTk 4 49 hHeld ?_
      refine hTk 5 50 hHeld ?_
      refine hTk 6 51 hHeld ?_
      refine hTk 7 52 hHeld ?_
      refine hTk 8 53 hHeld ?_
      refine hTk 9 54 hHeld ?_
      refine hTk 10 55 hHeld ?_
      refine hTk 11 56 hHeld ?_
      refine hTwo 3 12 (fun K hK => ?_) fun K hK => ?_
      · go_simp
        go_at_call 76
        refine (ndEnd_c p B Fc2 c id (N + 1) (sttD c D) op.b _ (n3'.out.drewN 1) hop (by omega) L (hide hL')).mono ?_
        rintro e w4 ⟨v4, rfl, g4, hE⟩
        obtain ⟨ao4, cap4, e4, -⟩ := _root_.id hE.own
        subst e4
        have hs4 := hE.st.fr.size
        have hg4 := hE.new
        have S4 := hE.st
        have l3 : R < (w3.drewN 1).heap.size := Nat.lt_trans hk0.1 hl3
        have hR4 := keepF S4 hR3F l3 hR3
        have hkb4 := keepF S4 hk3 hl3 hkb3
        have hR5F := (S4.keep hR3F l3).2.1
        have hl4 := (S4.keep hk3 hl3).2.2
        have hlR : R < w4.heap.size := Nat.lt_trans hk0.1 hl4
        have y9 := hE.nd.at'.c9
        have y0 : w4.cell? ⟨kb, 0, none⟩ = some (.int .i64 op.b) := cell_of_row _ _ _ _ _ _ hkb4
        have y1 : w4.cell? ⟨kb, 1, none⟩ = some (.bool op.w) := cell_of_row _ _ _ _ _ _ hkb4
        have y2 : w4.cell? ⟨kb, 2, none⟩ = some (.int .i64 op.v) := cell_of_row _ _ _ _ _ _ hkb4
        refine hK.out _ _ ?_ fun hHeld => ?_
        · exact ⟨y9, y0, y1, y2⟩
        clear hK K
        try simp only [Act.put, za, zb, zc]
        refine hNo 12 fun K hK => ?_
        go_simp
        have n5 := hide (hE.nd.alloc (.cells #[.int .i64 id, .int .i64 nu, .int .i64 op.b, .bool op.w, .int .i64 op.v, .int .i64 rv, .int .i64 0] 76))
        have hS5 : Hid (Step (Fa p B Fc) (Fa p B Fc2) w (w4.alloc (.cells #[.int .i64 id, .int .i64 nu, .int .i64 op.b, .bool op.w, .int .i64 op.v, .int .i64 rv, .int .i64 0] 76))) := hide ((hS3.out.trans ((Step.of_below (belowN (Below.refl _ _) 1)).trans S4)).trans (Step.of_below ((Below.refl _ _).alloc (Nat.le_refl _) _)))
        have ow5 := hide (hE.own.alloc (.cells #[.int .i64 id, .int .i64 nu, .int .i64 op.b, .bool op.w, .int .i64 op.v, .int .i64 rv, .int .i64 0] 76))
        have dn5 := hide (own_oneD w4 ⟨id, nu, op.b, op.w, op.v, rv, 0⟩).view
        have hR5 := (Below.heap_alloc w4 (.cells #[.int .i64 id, .int .i64 nu, .int .i64 op.b, .bool op.w, .int .i64 op.v, .int .i64 rv, .int .i64 0] 76) _ hlR).trans hR4
        have hkb5 := (Below.heap_alloc w4 (.cells #[.int .i64 id, .int .i64 nu, .int .i64 op.b, .bool op.w, .int .i64 op.v, .int .i64 rv, .int .i64 0] 76) _ hl4).trans hkb4
        have hg4' : w3.heap.size ≤ g4 := hg4
        have hgd : w3.heap.size ≤ w4.heap.size ∧ w4.heap.size ≠ g4 := ⟨hs4, by have := hE.own.lt; omega⟩
        have hg4F := hE.nf
        have hgdF : ¬ Fa p B Fc2 w4.heap.size := fun e => by have := hE.nd.lt _ e; omega
        dsimp only at dn5
        obtain ⟨w5, hw5⟩ : ∃ w5, w4.alloc (.cells #[.int .i64 id, .int .i64 nu, .int .i64 op.b, .bool op.w, .int .i64 op.v, .int .i64 rv, .int .i64 0] 76) = w5 := ⟨_, rfl⟩
        rw [hw5] at n5 hS5 ow5 dn5 hR5 hkb5 ⊢
        obtain ⟨gd, hgdE⟩ : ∃ gd, w4.heap.size = gd := ⟨_, rfl⟩
        rw [hgdE] at dn5 hgd hgdF ⊢
        clear hw5 hgdE hE S4 hR4 hkb4 y9 y0 y1 y2 hl4 hlR hs4 hg4 a9 o0 o1 o2
        have q9 := n5.out.at'.c9
        have p0 : w5.cell? ⟨kb, 0, none⟩ = some (.int .i64 op.b) := cell_of_row _ _ _ _ _ _ hkb5
        have p1 : w5.cell? ⟨kb, 1, none⟩ = some (.bool op.w) := cell_of_row _ _ _ _ _ _ hkb5
        have p2 : w5.cell? ⟨kb, 2, none⟩ = some (.int .i64 op.v) := cell_of_row _ _ _ _ _ _ hkb5
        have r0 : w5.cell? ⟨R, 0, none⟩ = some (.slice none 0 0) := cell_of_row _ _ _ _ _ _ hR5
        have r1 : w5.cell? ⟨R, 1, none⟩ = some (.slice none 0 0) := cell_of_row _ _ _ _ _ _ hR5
        have z : ∀ i, w5.frozen? ⟨R, i, none⟩ = false := fun i => frozen_of_row _ _ _ _ _ hR5
        have hp5 := n5.out.pl
        have hkR : kb ≠ R := by omega
        have hpR : p ≠ R := by have := hRe.out; omega
        refine hK.out _ _ ?_ fun hHeld => ?_
        · exact ⟨q9, p0, p1, p2⟩
        clear hK K
        try simp only [Act.put, za, zb, zc]
        refine hTk 13 58 hHeld ?_
        refine hNo 14 fun K hK => ?_
        go_simp
        refine hK.out _ _ ?_ fun hHeld => ?_
        · exact ⟨by simp [go_sem, *], by simp [go_sem, *], by simp [go_sem, *], by simp [go_sem, *]⟩
        clear hK K
        try simp only [Act.put, za, zb, zc]
        refine wpAnyH_done (by kernel_rfl) (NoPanic.normal ?_) _
        clear hHeld
        go_wp2_with fail
        refine bodyPost_ret (v := .agg #[.slice ao4 L.length cap4, .slice (some ⟨gd, 0, none⟩) 1 1]) (by simp [results, Tryz.results33, go_sem, *]; done) rfl ⟨_, _, rfl, Fc2, g4, gd, ?_⟩
        have hRw : w.heap.size ≤ R := by have := hRe.out; omega
        have hw3 : w.heap.size ≤ w3.heap.size := hS3.out.fr.size
        have hF : FrS (· = R) w5 ((w5.setCell ⟨R, 0, none⟩ (.slice ao4 L.length cap4)).setCell ⟨R, 1, none⟩ (.slice (some ⟨gd, 0, none⟩) 1 1)) := wrP (wrP (FrS.refl _ _) _) _
        exact ⟨ow5.out.fr hF (by omega), by rw [← hM']; exact dn5.out.fr hF (fun _ => by omega), by omega, fun _ => ⟨by omega, by omega⟩, (n5.out.setCell _ _ (.inr hR5F)).setCell _ _ (.inr hR5F), (hS5.out.setNew hRw _ _).setNew hRw _ _, hg4F, fun _ => hgdF⟩
      · go_simp
        have n4 := hide ((n3'.out.drewN 1).alloc (.cells #[.int .i64 id, .int .i64 nu, .int .i64 op.b, .bool op.w, .int .i64 op.v, .int .i64 rv, .int .i64 0] 76))
        have S4 : Hid (Step (Fa p B Fc2) (Fa p B Fc2) w3 ((w3.drewN 1).alloc (.cells #[.int .i64 id, .int .i64 nu, .int .i64 op.b, .bool op.w, .int .i64 op.v, .int .i64 rv, .int .i64 0] 76))) := hide ((Step.of_below (belowN (Below.refl _ _) 1)).trans (Step.of_below ((Below.refl _ _).alloc (Nat.le_refl _) _)))
        have dn4 := hide (own_oneD (w3.drewN 1) ⟨id, nu, op.b, op.w, op.v, rv, 0⟩).view
        have hs4' : w3.heap.size < ((w3.drewN 1).alloc (.cells #[.int .i64 id, .int .i64 nu, .int .i64 op.b, .bool op.w, .int .i64 op.v, .int .i64 rv, .int .i64 0] 76)).heap.size := by simp
        dsimp only at dn4
        obtain ⟨w4z, hw4⟩ : ∃ w4, (w3.drewN 1).alloc (.cells #[.int .i64 id, .int .i64 nu, .int .i64 op.b, .bool op.w, .int .i64 op.v, .int .i64 rv, .int .i64 0] 76) = w4 := ⟨_, rfl⟩
        have hw4' : (w3.alloc (.cells #[.int .i64 id, .int .i64 nu, .int .i64 op.b, .bool op.w, .int .i64 op.v, .int .i64 rv, .int .i64 0] 76)).drew = w4z := hw4
        rw [hw4] at n4 S4 dn4 hs4'
        rw [hw4']
        obtain ⟨gd, hgdE⟩ : ∃ gd, Hid (w3.heap.size = gd) := ⟨_, rfl⟩
        have dn4' : Hid (ViewD w4z (.slice (some ⟨gd, 0, none⟩) 1 1) gd [⟨id, nu, op.b, op.w, op.v, rv, 0⟩]) := by rw [← hgdE.out]; exact dn4
        rw [hgdE.out]
        have l3 : R < w3.heap.size := Nat.lt_trans hk0.1 hl3
        have hR4 := keepF S4.out hR3F l3 hR3
        have hkb4 := keepF S4.out hk3 hl3 hkb3
        have hR4F := (S4.out.keep hR3F l3).2.1
        have hk4F := (S4.out.keep hk3 hl3).2.1
        have hl4 := (S4.out.keep hk3 hl3).2.2
        have hgF : ¬ Fa p B Fc2 gd := fun e => by have := n3'.out.lt _ e; have := hgdE.out; omega
        have y9 := n4.out.at'.c9
        have y0 : w4z.cell? ⟨kb, 0, none⟩ = some (.int .i64 op.b) := cell_of_row _ _ _ _ _ _ hkb4
        have y1 : w4z.cell? ⟨kb, 1, none⟩ = some (.bool op.w) := cell_of_row _ _ _ _ _ _ hkb4
        have y2 : w4z.cell? ⟨kb, 2, none⟩ = some (.int .i64 op.v) := cell_of_row _ _ _ _ _ _ hkb4
        clear hw4 hw4' dn4 a9 o0 o1 o2
        refine hK.out _ _ ?_ fun hHeld => ?_
        · exact ⟨y9, y0, y1, y2⟩
        clear hK K
        try simp only [Act.put, za, zb, zc]
        refine hNo 3 fun K hK => ?_
        go_simp
        go_at_call 76
        refine (ndEnd_c p B Fc2 c id (N + 1) (sttD c D) op.b _ n4.out hop (by omega) L (hide hL')).mono ?_
        rintro e w5 ⟨v4, rfl, g4, hE⟩
        obtain ⟨ao4, cap4, e4, -⟩ := _root_.id hE.own
        subst e4
        have n5 := hide hE.nd
        have hS5 : Hid (Step (Fa p B Fc) (Fa p B Fc2) w w5) := hide ((hS3.out.trans S4.out).trans hE.st)
        have ow5 := hide hE.own
        have hgl : gd < w4z.heap.size := by have := hgdE.out; omega
        have dn5 : Hid (ViewD w5 (.slice (some ⟨gd, 0, none⟩) 1 1) gd [⟨id, nu, op.b, op.w, op.v, rv, 0⟩]) := hide (dn4'.out.fr hE.st.fr (fun _ => hgF))
        have lR4 : R < w4z.heap.size := Nat.lt_trans hk0.1 hl4
        have hR5 := keepF hE.st hR4F lR4 hR4
        have hkb5 := keepF hE.st hk4F hl4 hkb4
        have hR5F := (hE.st.keep hR4F lR4).2.1
        have hg4' : w3.heap.size ≤ g4 := by have := hE.new; have := S4.out.fr.size; omega
        have hgd : w3.heap.size ≤ gd ∧ gd ≠ g4 := ⟨by have := hgdE.out; omega, by have := hE.new; omega⟩
        have hg4F := hE.nf
        have hgdF := hgF
        clear hE hR4 hkb4 y9 y0 y1 y2 n4 S4 dn4' hR4F hk4F
        have q9 := n5.out.at'.c9
        have p0 : w5.cell? ⟨kb, 0, none⟩ = some (.int .i64 op.b) := cell_of_row _ _ _ _ _ _ hkb5
        have p1 : w5.cell? ⟨kb, 1, none⟩ = some (.bool op.w) := cell_of_row _ _ _ _ _ _ hkb5
        have p2 : w5.cell? ⟨kb, 2, none⟩ = some (.int .i64 op.v) := cell_of_row _ _ _ _ _ _ hkb5
        have r0 : w5.cell? ⟨R, 0, none⟩ = some (.slice none 0 0) := cell_of_row _ _ _ _ _ _ hR5
        have r1 : w5.cell? ⟨R, 1, none⟩ = some (.slice none 0 0) := cell_of_row _ _ _ _ _ _ hR5
        have z : ∀ i, w5.frozen? ⟨R, i, none⟩ = false := fun i => frozen_of_row _ _ _ _ _ hR5
        have hp5 := n5.out.pl
        have hkR : kb ≠ R := by omega
        have hpR : p ≠ R := by have := hRe.out; omega
        refine hK.out _ _ ?_ fun hHeld => ?_
        · exact ⟨q9, p0, p1, p2⟩
        clear hK K
        try simp only [Act.put, za, zb, zc]
        refine hTk 13 58 hHeld ?_
        refine hNo 14 fun K hK => ?_
        go_simp
        refine hK.out _ _ ?_ fun hHeld => ?_
        · exact ⟨by simp [go_sem, *], by simp [go_sem, *], by simp [go_sem, *], by simp [go_sem, *]⟩
        clear hK K
        try simp only [Act.put, za, zb, zc]
        refine wpAnyH_done (by kernel_rfl) (NoPanic.normal ?_) _
        clear hHeld
        go_wp2_with fail
        refine bodyPost_ret (v := .agg #[.slice ao4 L.length cap4, .slice (some ⟨gd, 0, none⟩) 1 1]) (by simp [results, Tryz.results33, go_sem, *]; done) rfl ⟨_, _, rfl, Fc2, g4, gd, ?_⟩
        have hRw : w.heap.size ≤ R := by have := hRe.out; omega
        have hw3 : w.heap.size ≤ w3.heap.size := hS3.out.fr.size
        have hF : FrS (· = R) w5 ((w5.setCell ⟨R, 0, none⟩ (.slice ao4 L.length cap4)).setCell ⟨R, 1, none⟩ (.slice (some ⟨gd, 0, none⟩) 1 1)) := wrP (wrP (FrS.refl _ _) _) _
        exact ⟨ow5.out.fr hF (by omega), by rw [← hM']; exact dn5.out.fr hF (fun _ => by omega), by omega, fun _ => ⟨by omega, by omega⟩, (n5.out.setCell _ _ (.inr hR5F)).setCell _ _ (.inr hR5F), (hS5.out.setNew hRw _ _).setNew hRw _ _, hg4F, fun _ => hgdF⟩
set_option maxHeartbeats 2000000 in
theorem ndSettleNo_c (p : Nat) (B : Bk) (Fc : Nat → Prop) (c : Cf) (id : Int) (N : Nat) (D : Nd) (w : World) (h : NdIs w p B Fc c id N D) (hop : I64 D.P.op.b) (hno : sttOk c D = false) : Calls Tryz.prog 33 #[ptr p] w fun e w' => e = .returned (.agg #[.slice none 0 0, .slice none 0 0]) ∧ ∃ Fc', NdIs w' p B Fc' c id N D ∧ Step (Fa p B Fc) (Fa p B Fc') w w' := by
  have hH := hide h
  obtain ⟨op, hx⟩ : ∃ x, Hid (D.P.op = x) := ⟨_, rfl⟩
  obtain ⟨bu, hbu⟩ : ∃ bu, Hid (D.P.busy = bu) := ⟨_, rfl⟩
  obtain ⟨q, hq⟩ : ∃ q, Hid (okDo D.C op.b op.w c.tt = q) := ⟨_, rfl⟩
  rw [hx.out] at hop
  unfold sttOk at hno
  rw [hx.out, hbu.out, hq.out] at hno
  have hpl := h.pl
  have c12 := h.at'.c12
  have hFw := hide h.lt
  clear h
  cases bu
  · clear hno
    go_enter Tryz.func33, Tryz.ntmps33
    go_wp2_with (go_at_call 34; refine (pPend_c B.pr c.cu c.ct D.P _ (hH.out.alloc (outR (.slice none 0 0) (.slice none 0 0))).pr op hx false hbu).mono ?_; rintro e w1 ⟨rfl, hb1⟩; obtain ⟨x, rfl⟩ := over hb1; clear hb1; have f1 := x.upB (w.heap.size))
    refine bodyPost_ret (v := .agg #[.slice none 0 0, .slice none 0 0]) (by simp [results, Tryz.results33, go_sem, *]; done) rfl ⟨rfl, Fc, ?_, ?_⟩
    · exact hH.out.below (by all_goals exact belEnd)
    · exact Step.of_below (by all_goals exact belEnd)
  · obtain rfl : q = false := by simpa using hno
    clear hno
    go_enter Tryz.func33, Tryz.ntmps33
    go_wp2_with (go_at_call 34; refine (pPend_c B.pr c.cu c.ct D.P _ (hH.out.alloc (outR (.slice none 0 0) (.slice none 0 0))).pr op hx true hbu).mono ?_; rintro e w1 ⟨rfl, hb1⟩; obtain ⟨x, rfl⟩ := over hb1; clear hb1; have f1 := x.upB (w.heap.size))
    refine name_world ?_
    intro V hV
    have hB : Hid (Below w.heap.size w V) := by rw [← hV]; exact hide (by all_goals exact belEnd)
    have hk0 : w.heap.size < x.w.heap.size ∧ x.w.heap.size < V.heap.size := by rw [← hV]; exact ⟨f1, by simp⟩
    have hR : V.heap[w.heap.size]? = some (outR (.slice none 0 0) (.slice none 0 0)) := by rw [← hV]; exact (Below.heap_alloc _ _ _ f1).trans ((x.below.block _ (by simp)).trans (heap_alloc_new w _))
    have hkF : ¬ Fa p B Fc x.w.heap.size := fun e => by have := hFw.out _ e; omega
    have hRF : ¬ Fa p B Fc w.heap.size := fun e => by have := hFw.out _ e; omega
    have hkb : V.heap[x.w.heap.size]? = some (opR op) := by rw [← hV]; exact heap_alloc_new x.w _
    obtain ⟨kb, hk⟩ : ∃ kb, x.w.heap.size = kb := ⟨_, rfl⟩
    rw [hk] at hk0 hkF hkb ⊢
    obtain ⟨R, hRe⟩ : ∃ R, Hid (w.heap.size = R) := ⟨_, rfl⟩
    rw [hRe.out] at hk0 hR hRF ⊢
    clear hV hk f1 x c12
    have hN := hide (hH.out.below hB.out)
    obtain ⟨hpV, -, -, a2, -, -, -, -, -, -, -, a10, -, -, -, -⟩ := hN.out.at'
    have o0 : V.cell? ⟨kb, 0, none⟩ = some (.int .i64 op.b) := cell_of_row _ _ _ _ _ _ hkb
    have o1 : V.cell? ⟨kb, 1, none⟩ = some (.bool op.w) := cell_of_row _ _ _ _ _ _ hkb
    have o2 : V.cell? ⟨kb, 2, none⟩ = some (.int .i64 op.v) := cell_of_row _ _ _ _ _ _ hkb
    obtain ⟨rv, hrv⟩ : ∃ rv, Hid (valDo D.C op.b op.w op.v c.tt = rv) := ⟨_, rfl⟩
    obtain ⟨C', hC'⟩ : ∃ C', Hid (nxDo D.C op.b op.w op.v c.tt = C') := ⟨_, rfl⟩
    go_wp2_with fail
    refine wp_region_noPanic ?_
    refine wp_region_held_drew (S := (fun w' => w'.cell? ⟨p, 10, none⟩ = some (ptr B.ca) ∧ w'.cell? ⟨p, 2, none⟩ = some (.int .i64 c.tt) ∧ w'.cell? ⟨kb, 0, none⟩ = some (.int .i64 op.b) ∧ w'.cell? ⟨kb, 1, none⟩ = some (.bool op.w) ∧ w'.cell? ⟨kb, 2, none⟩ = some (.int .i64 op.v))) (by kernel_rfl) ?_ (fun hHeld => ?_)
    · exact ⟨a10, a2, o0, o1, o2⟩
    refine hTk 0 21 hHeld ?_
    refine hTk 1 22 hHeld ?_
    refine hTk 2 23 hHeld ?_
    refine hTk 3 24 hHeld ?_
    refine hTk 4 25 hHeld ?_
    refine hTk 5 26 hHeld ?_
    refine hTk 6 27 hHeld ?_
    refine hTk 7 28 hHeld ?_
    refine hTk 8 29 hHeld ?_
    refine hTk 9 30 hHeld ?_
    refine hNo 10 fun K hK => ?_
    go_simp
    go_at_call 74
    refine (cDo_c B.ca Fc c.cs c.cy (N * 65536) op.b op.w op.v c.tt D.C _ (hN.out.drewN 1).ca hop false rv C' hq hrv hC').mono ?_
    rintro e w2 ⟨rfl, Fc2, hca2, hst2⟩
    obtain ⟨n2, s2⟩ := (hN.out.drewN 1).setC hca2 hst2 (Nat.le_refl N)
    have hR2 := keepF s2 hRF (Nat.lt_trans hk0.1 hk0.2) hR
    have hkb2 := keepF s2 hkF hk0.2 hkb
    have hk2 : ¬ Fa p B Fc2 kb := (s2.keep hkF hk0.2).2.1
    have hR2F : ¬ Fa p B Fc2 R := (s2.keep hRF (Nat.lt_trans hk0.1 hk0.2)).2.1
    have hl2 : kb < w2.heap.size := (s2.keep hkF hk0.2).2.2
    have hS2 : Hid (Step (Fa p B Fc) (Fa p B Fc2) w w2) := hide ((Step.of_below (belowN hB.out 1)).trans s2)
    replace n2 := hide n2
    clear hca2 hst2 s2 hR hkb hkF hRF a2 a10 o0 o1 o2 hN hpV
    obtain ⟨hp2, -, -, a2, -, -, -, -, -, -, a9, a10, -, a12, -, -⟩ := n2.out.at'
    have o0 : w2.cell? ⟨kb, 0, none⟩ = some (.int .i64 op.b) := cell_of_row _ _ _ _ _ _ hkb2
    have o1 : w2.cell? ⟨kb, 1, none⟩ = some (.bool op.w) := cell_of_row _ _ _ _ _ _ hkb2
    have o2 : w2.cell? ⟨kb, 2, none⟩ = some (.int .i64 op.v) := cell_of_row _ _ _ _ _ _ hkb2
    refine hK.out _ _ ?_ fun hHeld => ?_
    · exact ⟨a10, a2, o0, o1, o2⟩
    clear hK K
    try simp only [Act.put, za, zb, zc]
    refine hTk 11 20 hHeld ?_
    refine hTk 12 32 hHeld ?_
    refine hTk 13 33 hHeld ?_
    refine hTk 14 5 hHeld ?_
    refine hTk 15 6 hHeld ?_
    refine wpAnyH_done (by kernel_rfl) (NoPanic.normal ?_) _
    clear hHeld
    have e : C' = D.C := by rw [← hC'.out]; unfold nxDo; rw [hq.out]; simp
    have r0 : w2.cell? ⟨R, 0, none⟩ = some (.slice none 0 0) := cell_of_row _ _ _ _ _ _ hR2
    have r1 : w2.cell? ⟨R, 1, none⟩ = some (.slice none 0 0) := cell_of_row _ _ _ _ _ _ hR2
    have z : ∀ i, w2.frozen? ⟨R, i, none⟩ = false := fun i => frozen_of_row _ _ _ _ _ hR2
    go_wp2_with fail
    refine bodyPost_ret (v := .agg #[.slice none 0 0, .slice none 0 0]) (by simp [results, Tryz.results33, go_sem, *]; done) rfl ⟨rfl, Fc2, ?_, ?_⟩
    · have n2' := n2.out
      rw [e] at n2'
      exact (n2'.setCell _ _ (.inr hR2F)).setCell _ _ (.inr hR2F)
    · have hRw : w.heap.size ≤ R := by have := hRe.out; omega
      exact (hS2.out.setNew hRw _ _).setNew hRw _ _
set_option maxHeartbeats 4000000 in
theorem rnNewB_c (c : Cf) (id : Int) (w : World) : Calls Tryz.prog 30 #[.agg #[.int .i64 c.n, .int .i64 c.bl, .int .i64 c.tt, .int .i64 c.cs, .int .i64 c.cy, .int .i64 c.cc, .int .i64 c.cu, .int .i64 c.ct, .int .i64 c.cp], .int .i64 id] w fun e w' => ∃ q, e = .returned (ptr q) ∧ Below w.heap.size w w' := by
  go_enter Tryz.func30, Tryz.ntmps30
  go_upto_region 1 with fail
  refine name_world ?_
  intro V hV
  have hB : Hid (Below w.heap.size w V) := by rw [← hV]; exact hide (by all_goals exact belEnd)
  have kc0 : V.heap[w.heap.size]? = some (cfR c) := by rw [← hV]; exact heap_alloc_new w _
  have hkl : w.heap.size < V.heap.size := by rw [← hV]; simp
  obtain ⟨kc, hke⟩ : ∃ kc, w.heap.size = kc := ⟨_, rfl⟩
  rw [hke] at kc0 hkl ⊢
  replace hke := hide hke
  clear hV
  go_wp2_with fail
  refine wp_region_noPanic ?_
  refine wp_region_held_drew (S := (fun w' => w'.cell? ⟨kc, 0, none⟩ = some (.int .i64 c.n) ∧ w'.cell? ⟨kc, 1, none⟩ = some (.int .i64 c.bl) ∧ w'.cell? ⟨kc, 2, none⟩ = some (.int .i64 c.tt) ∧ w'.cell? ⟨kc, 3, none⟩ = some (.int .i64 c.cs) ∧ w'.cell? ⟨kc, 4, none⟩ = some (.int .i64 c.cy) ∧ w'.cell? ⟨kc, 5, none⟩ = some (.int .i64 c.cc) ∧ w'.cell? ⟨kc, 6, none⟩ = some (.int .i64 c.cu) ∧ w'.cell? ⟨kc, 7, none⟩ = some (.int .i64 c.ct) ∧ w'.cell? ⟨kc, 8, none⟩ = some (.int .i64 c.cp))) (by kernel_rfl) ?_ (fun hHeld => ?_)
  · exact cf_at kc0
  refine hTk 0 5 hHeld ?_
  refine hTk 1 6 hHeld ?_
  refine hTk 2 7 hHeld ?_
  refine hTk 3 8 hHeld ?_
  refine hTk 4 9 hHeld ?_
  refine hTk 5 10 hHeld ?_
  refine hTk 7 12 hHeld ?_
  refine hTk 9 14 hHeld ?_
  refine hTk 10 15 hHeld ?_
  refine hTk 11 16 hHeld ?_
  refine hTk 12 17 hHeld ?_
  refine hTk 13 18 hHeld ?_
  replace hB : Hid (Below w.heap.size w V.drew) := hide hB.out.drew
  replace hkl : kc < V.drew.heap.size := hkl
  obtain ⟨W0, hw0⟩ : ∃ W0, V.drew = W0 := ⟨_, rfl⟩
  replace kc0 : V.drew.heap[kc]? = some (cfR c) := kc0
  rw [hw0] at hHeld hB hkl kc0 ⊢
  clear hw0
  refine hThree 6 8 14 (fun K hK => ?_) (fun K hK => ?_) fun K hK => ?_
  · go_simp
    go_at_call 72
    refine (rcNew_c c.cs c.cy _).mono ?_
    rintro e W1 ⟨q1, q2, q3, q4, rfl, -, hb0, -⟩
    have hBz : Hid (Below w.heap.size w W1) := hide (hB.out.trans (hb0.mono hB.out.size))
    replace hB := hBz
    clear hBz
    replace kc0 := (hb0.block _ hkl).trans kc0
    replace hkl := Nat.lt_of_lt_of_le hkl hb0.size
    clear hb0
    refine hK.out _ _ ?_ fun hHeld => ?_
    · exact cf_at kc0
    clear hK K
    try simp only [Act.put, za, zb, zc]
    refine hTwo 8 14 (fun K hK => ?_) fun K hK => ?_
    · go_simp
      have hb0 : Below W1.heap.size W1 (W1.alloc (.cells #[.slice none 0 0, .slice none 0 0] 144)) := (Below.refl _ _).alloc (Nat.le_refl _) _
      obtain ⟨W2, ew⟩ : ∃ W, W1.alloc (.cells #[.slice none 0 0, .slice none 0 0] 144) = W := ⟨_, rfl⟩
      rw [ew] at hb0
      rw [ew]
      clear ew
      have hBz : Hid (Below w.heap.size w W2) := hide (hB.out.trans (hb0.mono hB.out.size))
      replace hB := hBz
      clear hBz
      replace kc0 := (hb0.block _ hkl).trans kc0
      replace hkl := Nat.lt_of_lt_of_le hkl hb0.size
      clear hb0
      refine hK.out _ _ ?_ fun hHeld => ?_
      · exact cf_at kc0
      clear hK K
      try simp only [Act.put, za, zb, zc]
      refine hNo 14 fun K hK => ?_
      go_simp
      have hb0 : Below W2.heap.size W2 (W2.alloc (.cells #[.int .i64 c.cu, .int .i64 c.ct, .int .i64 0, .int .i64 0, .bool false, .int .i64 0, .bool false, .int .i64 0, .int .i64 0, .bool false] 106)) := (Below.refl _ _).alloc (Nat.le_refl _) _
      obtain ⟨W3, ew⟩ : ∃ W, W2.alloc (.cells #[.int .i64 c.cu, .int .i64 c.ct, .int .i64 0, .int .i64 0, .bool false, .int .i64 0, .bool false, .int .i64 0, .int .i64 0, .bool false] 106) = W := ⟨_, rfl⟩
      rw [ew] at hb0
      rw [ew]
      clear ew
      have hBz : Hid (Below w.heap.size w W3) := hide (hB.out.trans (hb0.mono hB.out.size))
      replace hB := hBz
      clear hBz
      replace kc0 := (hb0.block _ hkl).trans kc0
      replace hkl := Nat.lt_of_lt_of_le hkl hb0.size
      clear hb0
      refine hK.out _ _ ?_ fun hHeld => ?_
      · exact cf_at kc0
      clear hK K
      try simp only [Act.put, za, zb, zc]
      refine hTk 15 20 hHeld ?_
      clear hHeld
      refine hNo 16 fun K hK => ?_
      go_simp
      refine hK.out _ _ ?_ fun hHeld => ?_
      · exact cf_at ((Below.heap_alloc _ _ _ hkl).trans kc0)
      clear hK K
      try simp only [Act.put, za, zb, zc]
      refine hTk 17 4 hHeld ?_
      refine wpAnyH_done (by kernel_rfl) (NoPanic.normal ?_) _
      clear hHeld
      go_wp2_with fail
      go_ret
      exact ⟨_, rfl, hB.out.alloc hB.out.size _⟩
    · go_simp
      have hb0 : Below W1.heap.size W1 (W1.alloc (.cells #[.int .i64 c.cu, .int .i64 c.ct, .int .i64 0, .int .i64 0, .bool false, .int .i64 0, .bool false, .int .i64 0, .int .i64 0, .bool false] 106)) := (Below.refl _ _).alloc (Nat.le_refl _) _
      obtain ⟨W2, ew⟩ : ∃ W, W1.alloc (.cells #[.int .i64 c.cu, .int .i64 c.ct, .int .i64 0, .int .i64 0, .bool false, .int .i64 0, .bool false, .int .i64 0, .int .i64 0, .bool false] 106) = W := ⟨_, rfl⟩
      rw [ew] at hb0
      rw [ew]
      clear ew
      have hBz : Hid (Below w.heap.size w W2) := hide (hB.out.trans (hb0.mono hB.out.size))
      replace hB := hBz
      clear hBz
      replace kc0 := (hb0.block _ hkl).trans kc0
      replace hkl := Nat.lt_of_lt_of_le hkl hb0.size
      clear hb0
      refine hK.out _ _ ?_ fun hHeld => ?_
      · exact cf_at kc0
      clear hK K
      try simp only [Act.put, za, zb, zc]
      refine hNo 8 fun K hK => ?_
      go_simp
      have hb0 : Below W2.heap.size W2 (W2.alloc (.cells #[.slice none 0 0, .slice none 0 0] 144)) := (Below.refl _ _).alloc (Nat.le_refl _) _
      obtain ⟨W3, ew⟩ : ∃ W, W2.alloc (.cells #[.slice none 0 0, .slice none 0 0] 144) = W := ⟨_, rfl⟩
      rw [ew] at hb0
      rw [ew]
      clear ew
      have hBz : Hid (Below w.heap.size w W3) := hide (hB.out.trans (hb0.mono hB.out.size))
      replace hB := hBz
      clear hBz
      replace kc0 := (hb0.block _ hkl).trans kc0
      replace hkl := Nat.lt_of_lt_of_le hkl hb0.size
      clear hb0
      refine hK.out _ _ ?_ fun hHeld => ?_
      · exact cf_at kc0
      clear hK K
      try simp only [Act.put, za, zb, zc]
      refine hTk 15 20 hHeld ?_
      clear hHeld
      refine hNo 16 fun K hK => ?_
      go_simp
      refine hK.out _ _ ?_ fun hHeld => ?_
      · exact cf_at ((Below.heap_alloc _ _ _ hkl).trans kc0)
      clear hK K
      try simp only [Act.put, za, zb, zc]
      refine hTk 17 4 hHeld ?_
      refine wpAnyH_done (by kernel_rfl) (NoPanic.normal ?_) _
      clear hHeld
      go_wp2_with fail
      go_ret
      exact ⟨_, rfl, hB.out.alloc hB.out.size _⟩
  · go_simp
    have hb0 : Below W0.heap.size W0 (W0.alloc (.cells #[.slice none 0 0, .slice none 0 0] 144)) := (Below.refl _ _).alloc (Nat.le_refl _) _
    obtain ⟨W1, ew⟩ : ∃ W, W0.alloc (.cells #[.slice none 0 0, .slice none 0 0] 144) = W := ⟨_, rfl⟩
    rw [ew] at hb0
    rw [ew]
    clear ew
    have hBz : Hid (Below w.heap.size w W1) := hide (hB.out.trans (hb0.mono hB.out.size))
    replace hB := hBz
    clear hBz
    replace kc0 := (hb0.block _ hkl).trans kc0
    replace hkl := Nat.lt_of_lt_of_le hkl hb0.size
    clear hb0
    refine hK.out _ _ ?_ fun hHeld => ?_
    · exact cf_at kc0
    clear hK K
    try simp only [Act.put, za, zb, zc]
    refine hTwo 6 14 (fun K hK => ?_) fun K hK => ?_
    · go_simp
      go_at_call 72
      refine (rcNew_c c.cs c.cy _).mono ?_
      rintro e W2 ⟨q1, q2, q3, q4, rfl, -, hb0, -⟩
      have hBz : Hid (Below w.heap.size w W2) := hide (hB.out.trans (hb0.mono hB.out.size))
      replace hB := hBz
      clear hBz
      replace kc0 := (hb0.block _ hkl).trans kc0
      replace hkl := Nat.lt_of_lt_of_le hkl hb0.size
      clear hb0
      refine hK.out _ _ ?_ fun hHeld => ?_
      · exact cf_at kc0
      clear hK K
      try simp only [Act.put, za, zb, zc]
      refine hNo 14 fun K hK => ?_
      go_simp
      have hb0 : Below W2.heap.size W2 (W2.alloc (.cells #[.int .i64 c.cu, .int .i64 c.ct, .int .i64 0, .int .i64 0, .bool false, .int .i64 0, .bool false, .int .i64 0, .int .i64 0, .bool false] 106)) := (Below.refl _ _).alloc (Nat.le_refl _) _
      obtain ⟨W3, ew⟩ : ∃ W, W2.alloc (.cells #[.int .i64 c.cu, .int .i64 c.ct, .int .i64 0, .int .i64 0, .bool false, .int .i64 0, .bool false, .int .i64 0, .int .i64 0, .bool false] 106) = W := ⟨_, rfl⟩
      rw [ew] at hb0
      rw [ew]
      clear ew
      have hBz : Hid (Below w.heap.size w W3) := hide (hB.out.trans (hb0.mono hB.out.size))
      replace hB := hBz
      clear hBz
      replace kc0 := (hb0.block _ hkl).trans kc0
      replace hkl := Nat.lt_of_lt_of_le hkl hb0.size
      clear hb0
      refine hK.out _ _ ?_ fun hHeld => ?_
      · exact cf_at kc0
      clear hK K
      try simp only [Act.put, za, zb, zc]
      refine hTk 15 20 hHeld ?_
      clear hHeld
      refine hNo 16 fun K hK => ?_
      go_simp
      refine hK.out _ _ ?_ fun hHeld => ?_
      · exact cf_at ((Below.heap_alloc _ _ _ hkl).trans kc0)
      clear hK K
      try simp only [Act.put, za, zb, zc]
      refine hTk 17 4 hHeld ?_
      refine wpAnyH_done (by kernel_rfl) (NoPanic.normal ?_) _
      clear hHeld
      go_wp2_with fail
      go_ret
      exact ⟨_, rfl, hB.out.alloc hB.out.size _⟩
    · go_simp
      have hb0 : Below W1.heap.size W1 (W1.alloc (.cells #[.int .i64 c.cu, .int .i64 c.ct, .int .i64 0, .int .i64 0, .bool false, .int .i64 0, .bool false, .int .i64 0, .int .i64 0, .bool false] 106)) := (Below.refl _ _).alloc (Nat.le_refl _) _
      obtain ⟨W2, ew⟩ : ∃ W, W1.alloc (.cells #[.int .i64 c.cu, .int .i64 c.ct, .int .i64 0, .int .i64 0, .bool false, .int .i64 0, .bool false, .int .i64 0, .int .i64 0, .bool false] 106) = W := ⟨_, rfl⟩
      rw [ew] at hb0
      rw [ew]
      clear ew
      have hBz : Hid (Below w.heap.size w W2) := hide (hB.out.trans (hb0.mono hB.out.size))
      replace hB := hBz
      clear hBz
      replace kc0 := (hb0.block _ hkl).trans kc0
      replace hkl := Nat.lt_of_lt_of_le hkl hb0.size
      clear hb0
      refine hK.out _ _ ?_ fun hHeld => ?_
      · exact cf_at kc0
      clear hK K
      try simp only [Act.put, za, zb, zc]
      refine hNo 6 fun K hK => ?_
      go_simp
      go_at_call 72
      refine (rcNew_c c.cs c.cy _).mono ?_
      rintro e W3 ⟨q1, q2, q3, q4, rfl, -, hb0, -⟩
      have hBz : Hid (Below w.heap.size w W3) := hide (hB.out.trans (hb0.mono hB.out.size))
      replace hB := hBz
      clear hBz
      replace kc0 := (hb0.block _ hkl).trans kc0
      replace hkl := Nat.lt_of_lt_of_le hkl hb0.size
      clear hb0
      refine hK.out _ _ ?_ fun hHeld => ?_
      · exact cf_at kc0
      clear hK K
      try simp only [Act.put, za, zb, zc]
      refine hTk 15 20 hHeld ?_
      clear hHeld
      refine hNo 16 fun K hK => ?_
      go_simp
      refine hK.out _ _ ?_ fun hHeld => ?_
      · exact cf_at ((Below.heap_alloc _ _ _ hkl).trans kc0)
      clear hK K
      try simp only [Act.put, za, zb, zc]
      refine hTk 17 4 hHeld ?_
      refine wpAnyH_done (by kernel_rfl) (NoPanic.normal ?_) _
      clear hHeld
      go_wp2_with fail
      go_ret
      exact ⟨_, rfl, hB.out.alloc hB.out.size _⟩
  · go_simp
    have hb0 : Below W0.heap.size W0 (W0.alloc (.cells #[.int .i64 c.cu, .int .i64 c.ct, .int .i64 0, .int .i64 0, .bool false, .int .i64 0, .bool false, .int .i64 0, .int .i64 0, .bool false] 106)) := (Below.refl _ _).alloc (Nat.le_refl _) _
    obtain ⟨W1, ew⟩ : ∃ W, W0.alloc (.cells #[.int .i64 c.cu, .int .i64 c.ct, .int .i64 0, .int .i64 0, .bool false, .int .i64 0, .bool false, .int .i64 0, .int .i64 0, .bool false] 106) = W := ⟨_, rfl⟩
    rw [ew] at hb0
    rw [ew]
    clear ew
    have hBz : Hid (Below w.heap.size w W1) := hide (hB.out.trans (hb0.mono hB.out.size))
    replace hB := hBz
    clear hBz
    replace kc0 := (hb0.block _ hkl).trans kc0
    replace hkl := Nat.lt_of_lt_of_le hkl hb0.size
    clear hb0
    refine hK.out _ _ ?_ fun hHeld => ?_
    · exact cf_at kc0
    clear hK K
    try simp only [Act.put, za, zb, zc]
    refine hTwo 6 8 (fun K hK => ?_) fun K hK => ?_
    · go_simp
      go_at_call 72
      refine (rcNew_c c.cs c.cy _).mono ?_
      rintro e W2 ⟨q1, q2, q3, q4, rfl, -, hb0, -⟩
      have hBz : Hid (Below w.heap.size w W2) := hide (hB.out.trans (hb0.mono hB.out.size))
      replace hB := hBz
      clear hBz
      replace kc0 := (hb0.block _ hkl).trans kc0
      replace hkl := Nat.lt_of_lt_of_le hkl hb0.size
      clear hb0
      refine hK.out _ _ ?_ fun hHeld => ?_
      · exact cf_at kc0
      clear hK K
      try simp only [Act.put, za, zb, zc]
      refine hNo 8 fun K hK => ?_
      go_simp
      have hb0 : Below W2.heap.size W2 (W2.alloc (.cells #[.slice none 0 0, .slice none 0 0] 144)) := (Below.refl _ _).alloc (Nat.le_refl _) _
      obtain ⟨W3, ew⟩ : ∃ W, W2.alloc (.cells #[.slice none 0 0, .slice none 0 0] 144) = W := ⟨_, rfl⟩
      rw [ew] at hb0
      rw [ew]
      clear ew
      have hBz : Hid (Below w.heap.size w W3) := hide (hB.out.trans (hb0.mono hB.out.size))
      replace hB := hBz
      clear hBz
      replace kc0 := (hb0.block _ hkl).trans kc0
      replace hkl := Nat.lt_of_lt_of_le hkl hb0.size
      clear hb0
      refine hK.out _ _ ?_ fun hHeld => ?_
      · exact cf_at kc0
      clear hK K
      try simp only [Act.put, za, zb, zc]
      refine hTk 15 20 hHeld ?_
      clear hHeld
      refine hNo 16 fun K hK => ?_
      go_simp
      refine hK.out _ _ ?_ fun hHeld => ?_
      · exact cf_at ((Below.heap_alloc _ _ _ hkl).trans kc0)
      clear hK K
      try simp only [Act.put, za, zb, zc]
      refine hTk 17 4 hHeld ?_
      refine wpAnyH_done (by kernel_rfl) (NoPanic.normal ?_) _
      clear hHeld
      go_wp2_with fail
      go_ret
      exact ⟨_, rfl, hB.out.alloc hB.out.size _⟩
    · go_simp
      have hb0 : Below W1.heap.size W1 (W1.alloc (.cells #[.slice none 0 0, .slice none 0 0] 144)) := (Below.refl _ _).alloc (Nat.le_refl _) _
      obtain ⟨W2, ew⟩ : ∃ W, W1.alloc (.cells #[.slice none 0 0, .slice none 0 0] 144) = W := ⟨_, rfl⟩
      rw [ew] at hb0
      rw [ew]
      clear ew
      have hBz : Hid (Below w.heap.size w W2) := hide (hB.out.trans (hb0.mono hB.out.size))
      replace hB := hBz
      clear hBz
      replace kc0 := (hb0.block _ hkl).trans kc0
      replace hkl := Nat.lt_of_lt_of_le hkl hb0.size
      clear hb0
      refine hK.out _ _ ?_ fun hHeld => ?_
      · exact cf_at kc0
      clear hK K
      try simp only [Act.put, za, zb, zc]
      refine hNo 6 fun K hK => ?_
      go_simp
      go_at_call 72
      refine (rcNew_c c.cs c.cy _).mono ?_
      rintro e W3 ⟨q1, q2, q3, q4, rfl, -, hb0, -⟩
      have hBz : Hid (Below w.heap.size w W3) := hide (hB.out.trans (hb0.mono hB.out.size))
      replace hB := hBz
      clear hBz
      replace kc0 := (hb0.block _ hkl).trans kc0
      replace hkl := Nat.lt_of_lt_of_le hkl hb0.size
      clear hb0
      refine hK.out _ _ ?_ fun hHeld => ?_
      · exact cf_at kc0
      clear hK K
      try simp only [Act.put, za, zb, zc]
      refine hTk 15 20 hHeld ?_
      clear hHeld
      refine hNo 16 fun K hK => ?_
      go_simp
      refine hK.out _ _ ?_ fun hHeld => ?_
      · exact cf_at ((Below.heap_alloc _ _ _ hkl).trans kc0)
      clear hK K
      try simp only [Act.put, za, zb, zc]
      refine hTk 17 4 hHeld ?_
      refine wpAnyH_done (by kernel_rfl) (NoPanic.normal ?_) _
      clear hHeld
      go_wp2_with fail
      go_ret
      exact ⟨_, rfl, hB.out.alloc hB.out.size _⟩
end Go.Proofs.YtoenjdnccgmhoaaGreatDoor
