/- layer 15: NdE, put together. -/
import Derived.Test.YtoenjdnccgmhoaaGreatDoorB31
import Derived.Test.YtoenjdnccgmhoaaGreatDoorB27
import Derived.Deep.DeepCutAuto
namespace Go.Proofs.YtoenjdnccgmhoaaGreatDoor
open Go.ChangeShapes Go.WideShapes Go.ChangeAt Go.RowKit
set_option linter.unusedSimpArgs false
set_option linter.unusedVariables false
set_option maxRecDepth 10000
attribute [local go_sem, local simp] over_const setCell_drewN alloc_drewN Over.cell Over.frozen lt_s1 lt_s2 lt_s3 le_s0 le_s1 le_s2 le_s3 eq_s0 eq_s1 eq_s2 qe_s0
abbrev ltR (l : Lt) : Obj := .cells #[.int .i64 l.k, .int .i64 l.a, .int .i64 l.b, .int .i64 l.q, .int .i64 l.s, .int .i64 l.w, .bool l.r, .int .i64 l.n, .bool l.o, .bool l.h, .int .i64 l.d] 37
abbrev dwR (d0 d1 d2 : Int) : Obj := .cells #[.int .i64 d0, .int .i64 d1, .int .i64 d2] 55
structure Bx (w V : World) (F : Nat → Prop) (l : Lt) (d0 d1 d2 : Int) (kl kd R : Nat) : Prop where
  lo1 : w.heap.size ≤ kl
  lo2 : w.heap.size ≤ kd
  lo3 : w.heap.size ≤ R
  ne1 : kl ≠ R
  ne2 : kd ≠ R
  hi1 : kl < V.heap.size
  hi2 : kd < V.heap.size
  hi3 : R < V.heap.size
  nf1 : ¬ F kl
  nf2 : ¬ F kd
  nf3 : ¬ F R
  l : V.heap[kl]? = some (ltR l)
  d : V.heap[kd]? = some (dwR d0 d1 d2)
  r : V.heap[R]? = some (outR (.slice none 0 0) (.slice none 0 0))
theorem Bx.step {w V V' : World} {F F' : Nat → Prop} {l : Lt} {d0 d1 d2 : Int} {kl kd R : Nat} (h : Bx w V F l d0 d1 d2 kl kd R) (s : Step F F' V V') : Bx w V' F' l d0 d1 d2 kl kd R :=
  ⟨h.lo1, h.lo2, h.lo3, h.ne1, h.ne2, (s.keep h.nf1 h.hi1).2.2, (s.keep h.nf2 h.hi2).2.2, (s.keep h.nf3 h.hi3).2.2, (s.keep h.nf1 h.hi1).2.1, (s.keep h.nf2 h.hi2).2.1, (s.keep h.nf3 h.hi3).2.1,
    keepF s h.nf1 h.hi1 h.l, keepF s h.nf2 h.hi2 h.d, keepF s h.nf3 h.hi3 h.r⟩
theorem Bx.below {w V V' : World} {F : Nat → Prop} {l : Lt} {d0 d1 d2 : Int} {kl kd R : Nat} (h : Bx w V F l d0 d1 d2 kl kd R) (s : Below V.heap.size V V') : Bx w V' F l d0 d1 d2 kl kd R := h.step (Step.of_below s)
structure LtAt (w : World) (k : Nat) (l : Lt) : Prop where
  c0 : w.cell? ⟨k, 0, none⟩ = some (.int .i64 l.k)
  c1 : w.cell? ⟨k, 1, none⟩ = some (.int .i64 l.a)
  c2 : w.cell? ⟨k, 2, none⟩ = some (.int .i64 l.b)
  c3 : w.cell? ⟨k, 3, none⟩ = some (.int .i64 l.q)
  c4 : w.cell? ⟨k, 4, none⟩ = some (.int .i64 l.s)
  c5 : w.cell? ⟨k, 5, none⟩ = some (.int .i64 l.w)
  c6 : w.cell? ⟨k, 6, none⟩ = some (.bool l.r)
  c7 : w.cell? ⟨k, 7, none⟩ = some (.int .i64 l.n)
  c8 : w.cell? ⟨k, 8, none⟩ = some (.bool l.o)
  c9 : w.cell? ⟨k, 9, none⟩ = some (.bool l.h)
  c10 : w.cell? ⟨k, 10, none⟩ = some (.int .i64 l.d)
theorem lt_at {w : World} {k : Nat} {l : Lt} (h : w.heap[k]? = some (ltR l)) : LtAt w k l :=
  ⟨cell_of_row _ _ _ _ _ _ h, cell_of_row _ _ _ _ _ _ h, cell_of_row _ _ _ _ _ _ h, cell_of_row _ _ _ _ _ _ h, cell_of_row _ _ _ _ _ _ h, cell_of_row _ _ _ _ _ _ h, cell_of_row _ _ _ _ _ _ h, cell_of_row _ _ _ _ _ _ h, cell_of_row _ _ _ _ _ _ h, cell_of_row _ _ _ _ _ _ h, cell_of_row _ _ _ _ _ _ h⟩
structure OrAt (w : World) (R : Nat) : Prop where
  c0 : w.cell? ⟨R, 0, none⟩ = some (.slice none 0 0)
  c1 : w.cell? ⟨R, 1, none⟩ = some (.slice none 0 0)
  z : ∀ i, w.frozen? ⟨R, i, none⟩ = false
theorem or_at {w : World} {R : Nat} (h : w.heap[R]? = some (outR (.slice none 0 0) (.slice none 0 0))) : OrAt w R := ⟨cell_of_row _ _ _ _ _ _ h, cell_of_row _ _ _ _ _ _ h, fun _ => frozen_of_row _ _ _ _ _ h⟩
theorem bx_new (w : World) (F : Nat → Prop) (hF : ∀ b, F b → b < w.heap.size) (l : Lt) (d0 d1 d2 : Int) : Bx w (((w.alloc (ltR l)).alloc (dwR d0 d1 d2)).alloc (outR (.slice none 0 0) (.slice none 0 0))) F l d0 d1 d2 w.heap.size (w.heap.size + 1) (w.heap.size + 1 + 1) := by
  have h1 := heap_alloc_new w (ltR l)
  have h2 := heap_alloc_new (w.alloc (ltR l)) (dwR d0 d1 d2)
  have h3 := heap_alloc_new ((w.alloc (ltR l)).alloc (dwR d0 d1 d2)) (outR (.slice none 0 0) (.slice none 0 0))
  rw [World.size_alloc] at h2 h3
  rw [World.size_alloc] at h3
  exact ⟨by omega, by omega, by omega, by omega, by omega, by first | (simp; done) | (simp; omega), by first | (simp; done) | (simp; omega), by first | (simp; done) | (simp; omega), fun e => by have := hF _ e; omega, fun e => by have := hF _ e; omega, fun e => by have := hF _ e; omega,
    (Below.heap_alloc _ _ _ (by first | (simp; done) | (simp; omega))).trans ((Below.heap_alloc _ _ _ (by first | (simp; done) | (simp; omega))).trans h1), (Below.heap_alloc _ _ _ (by first | (simp; done) | (simp; omega))).trans h2, h3⟩
theorem out_fin {w w5 : World} {p : Nat} {B : Bk} {Fc Fc' : Nat → Prop} {c : Cf} {id : Int} {N : Nat} {D : Nd} {L : List Lt} {M : List Dn} {v1 v2 : Value} {g1 g2 R : Nat} {l : Lt} {d0 d1 d2 : Int} {kl kd : Nat}
    (hx : Bx w w5 (Fa p B Fc') l d0 d1 d2 kl kd R) (ho : OwnT w5 v1 g1 L) (hd : ViewD w5 v2 g2 M) (h1 : w.heap.size ≤ g1) (h2 : g1 ≠ R) (hm : M ≠ [] → g2 ≠ g1 ∧ w.heap.size ≤ g2 ∧ g2 ≠ R) (hn : NdIs w5 p B Fc' c id N D) (hs : Step (Fa p B Fc) (Fa p B Fc') w w5) (hf1 : ¬ Fa p B Fc' g1) (hf2 : M ≠ [] → ¬ Fa p B Fc' g2) :
    OutP w p B Fc Fc' c id N D L M v1 v2 ((w5.setCell ⟨R, 0, none⟩ v1).setCell ⟨R, 1, none⟩ v2) g1 g2 := by
  have hF : FrS (· = R) w5 ((w5.setCell ⟨R, 0, none⟩ v1).setCell ⟨R, 1, none⟩ v2) := wrP (wrP (FrS.refl _ _) _) _
  exact ⟨ho.fr hF (fun e => h2 e), hd.fr hF (fun e => (hm e).2.2), h1, fun e => ⟨(hm e).1, (hm e).2.1⟩, (hn.setCell _ _ (.inr hx.nf3)).setCell _ _ (.inr hx.nf3), (hs.setNew hx.lo3 _ _).setNew hx.lo3 _ _, hf1, hf2⟩
set_option maxHeartbeats 2000000 in
theorem ndTkDe_c (p : Nat) (B : Bk) (Fc : Nat → Prop) (c : Cf) (id : Int) (N : Nat) (D : Nd) (l : Lt) (d0 d1 d2 : Int) (w : World) (h : NdIs w p B Fc c id N D) (hN1 : N + 1 ≤ 2000) (hb : I64 l.q) (L : List Lt) (hL : Hid (homeL c id 7 l.q l.s = L)) : Calls Tryz.prog 85 #[ptr p, .agg #[.int .i64 l.k, .int .i64 l.a, .int .i64 l.b, .int .i64 l.q, .int .i64 l.s, .int .i64 l.w, .bool l.r, .int .i64 l.n, .bool l.o, .bool l.h, .int .i64 l.d], .agg #[.int .i64 d0, .int .i64 d1, .int .i64 d2]] w fun e w' => ∃ v1 v2, e = .returned (.agg #[v1, v2]) ∧ ∃ Fc' g1 g2, OutP w p B Fc Fc' c id (N + 1) (deD D l) L [] v1 v2 w' g1 g2 := by
  have hH := hide h
  have hFw := hide h.lt
  clear h
  go_enter Tryz.func85, Tryz.ntmps85
  go_wp2_with fail
  refine name_world ?_
  intro V hV
  have hX : Hid (Bx w V (Fa p B Fc) l d0 d1 d2 w.heap.size (w.heap.size + 1) (w.heap.size + 1 + 1)) := by rw [← hV]; exact hide (bx_new w _ hFw.out l d0 d1 d2)
  have hB : Hid (Below w.heap.size w V) := by rw [← hV]; exact hide (by all_goals exact belEnd)
  have hN := hide (hH.out.below hB.out)
  obtain ⟨R, hRe⟩ : ∃ R, Hid (w.heap.size + 1 + 1 = R) := ⟨_, rfl⟩
  obtain ⟨kd, hde⟩ : ∃ kd, Hid (w.heap.size + 1 = kd) := ⟨_, rfl⟩
  obtain ⟨kl, hle⟩ : ∃ kl, Hid (w.heap.size = kl) := ⟨_, rfl⟩
  rw [hRe.out, hde.out, hle.out] at hX
  rw [hRe.out, hde.out, hle.out]
  clear hV
  have A1 := hN.out.at'
  have B1 := lt_at hX.out.l
  have hpV := A1.lt
  have hlV := hX.out.hi1
  go_wp2_with fail
  refine wp_region_noPanic ?_
  refine wp_region_held_drew (S := (fun w' => w'.cell? ⟨p, 11, none⟩ = some (ptr B.tc) ∧ w'.cell? ⟨kl, 3, none⟩ = some (.int .i64 l.q) ∧ w'.cell? ⟨kl, 4, none⟩ = some (.int .i64 l.s))) (by kernel_rfl) ?_ (fun hHeld => ?_)
  · exact ⟨A1.c11, B1.c3, B1.c4⟩
  clear A1 B1
  refine hTk 0 7 hHeld ?_
  refine hTk 1 8 hHeld ?_
  refine hTk 2 9 hHeld ?_
  refine hTk 3 10 hHeld ?_
  refine hTk 4 11 hHeld ?_
  refine hTk 5 12 hHeld ?_
  refine hTk 6 13 hHeld ?_
  refine hTk 7 14 hHeld ?_
  refine hNo 8 fun K hK => ?_
  go_simp
  go_at_call 129
  refine (tDeactivate_c B.tc B.tt B.to N D.T l.q l.s _ (hN.out.drewN 1).tb hb hN1).mono ?_
  rintro e w2 ⟨rfl, ht2, hf2⟩
  obtain ⟨n2, s2⟩ := (hN.out.drewN 1).setT ht2 hf2 (Nat.le_succ N)
  have X2 := (hX.out.below (V' := V.drewN 1) (belowN (Below.refl _ _) 1)).step s2
  have S2 : Hid (Step (Fa p B Fc) (Fa p B Fc) w w2) := hide ((Step.of_below (belowN hB.out 1)).trans s2)
  replace n2 := hide n2
  replace X2 := hide X2
  clear ht2 hf2 s2 hX hB hN
  have A2 := n2.out.at'
  have B2 := lt_at X2.out.l
  obtain ⟨a11, b3, b4⟩ := And.intro A2.c11 (And.intro B2.c3 B2.c4)
  clear A2 B2
  refine hK.out _ _ ?_ fun hHeld => ?_
  · exact ⟨a11, b3, b4⟩
  clear hK K
  try simp only [Act.put, za, zb, zc]
  refine wpAnyH_done (by kernel_rfl) (NoPanic.normal ?_) _
  clear hHeld
  have hp2 := n2.out.pl
  have hl2 := X2.out.hi1
  have hR2 := X2.out.hi3
  go_wp2_with (go_at_call 101; refine (ndHome_c p B Fc c id (N + 1) _ 7 l.q l.s _ n2.out L hL).mono ?_; rintro e w5 ⟨v5, rfl, g5, ho5, hg5, hb5⟩; obtain ⟨ao5, cap5, e5, -⟩ := _root_.id ho5; subst e5; have X5 := hide (X2.out.below hb5); replace ho5 := hide ho5; replace hb5 := hide hb5; obtain ⟨r0, r1, z⟩ := or_at X5.out.r)
  refine bodyPost_ret (v := .agg #[.slice ao5 L.length cap5, .slice none 0 0]) (by simp [results, Tryz.results85, go_sem, *]; done) rfl ⟨_, _, rfl, Fc, g5, g5, ?_⟩
  have hwl := X2.out.lo1
  exact out_fin X5.out ho5.out (view_nilD _ _) (by omega) (by omega) (fun h => absurd rfl h) (n2.out.below hb5.out) (S2.out.trans (Step.of_below hb5.out)) (fun e => by have := n2.out.lt _ e; omega) (fun h => absurd rfl h)
set_option maxHeartbeats 4000000 in
theorem ndTkAs_c (p : Nat) (B : Bk) (Fc : Nat → Prop) (c : Cf) (id : Int) (N : Nat) (D : Nd) (l : Lt) (d0 d1 d2 : Int) (w : World) (h : NdIs w p B Fc c id N D) (hN1 : N + 1 ≤ 2000) (hb : I64 l.q) (L : List Lt) (hL : Hid (ansL c id D l d0 d1 = L)) : Calls Tryz.prog 83 #[ptr p, .agg #[.int .i64 l.k, .int .i64 l.a, .int .i64 l.b, .int .i64 l.q, .int .i64 l.s, .int .i64 l.w, .bool l.r, .int .i64 l.n, .bool l.o, .bool l.h, .int .i64 l.d], .agg #[.int .i64 d0, .int .i64 d1, .int .i64 d2]] w fun e w' => ∃ v1 v2, e = .returned (.agg #[v1, v2]) ∧ ∃ Fc' g1 g2, OutP w p B Fc Fc' c id (N + 1) (nxAns c id D l d0 d1) L [] v1 v2 w' g1 g2 := by
  have hH := hide h
  have hFw := hide h.lt
  have hL' := hL.out
  obtain ⟨a, ha⟩ : ∃ a, Hid (ownA id D l.q = a) := ⟨_, rfl⟩
  obtain ⟨ok, hok⟩ : ∃ ok, Hid (ownB id D l.q = ok) := ⟨_, rfl⟩
  obtain ⟨wt, hwt⟩ : ∃ wt, Hid (waitB D l.q = wt) := ⟨_, rfl⟩
  obtain ⟨t, ht⟩ : ∃ t, Hid (D.C.T l.q = t) := ⟨_, rfl⟩
  obtain ⟨r, hr⟩ : ∃ r, Hid (repZ c.cp t.n t.o l.r d0 d1 = r) := ⟨_, rfl⟩
  obtain ⟨g, hg⟩ : ∃ g, Hid (givenB (D.C.T l.q) r.n r.o r.v = g) := ⟨_, rfl⟩
  obtain ⟨C', hC⟩ : ∃ C', Hid (nxTk D.C l.q r.n r.o = C') := ⟨_, rfl⟩
  have hr2 : ansR c D l d0 d1 = r := by unfold ansR; rw [ht.out, hr.out]
  unfold ansL at hL'
  unfold nxAns gvD
  have hh : heldB id D l.q = (ok && wt) := by unfold heldB; rw [hok.out, hwt.out]
  rw [hr2, hh, hg.out] at hL'
  rw [hr2, hh, hC.out]
  clear h hL hr2 hh
  cases ok
  · simp only [Bool.false_and, Bool.false_eq_true, if_false] at hL' ⊢
    replace hL' := hide hL'
    go_enter Tryz.func83, Tryz.ntmps83
    go_upto_region 1 with fail
    refine name_world ?_
    intro V hV
    have hX : Hid (Bx w V (Fa p B Fc) l d0 d1 d2 w.heap.size (w.heap.size + 1) (w.heap.size + 1 + 1)) := by rw [← hV]; exact hide (bx_new w _ hFw.out l d0 d1 d2)
    have hB : Hid (Below w.heap.size w V) := by rw [← hV]; exact hide (by all_goals exact belEnd)
    have hN := hide (hH.out.below hB.out)
    obtain ⟨R, hRe⟩ : ∃ R, Hid (w.heap.size + 1 + 1 = R) := ⟨_, rfl⟩
    obtain ⟨kd, hde⟩ : ∃ kd, Hid (w.heap.size + 1 = kd) := ⟨_, rfl⟩
    obtain ⟨kl, hle⟩ : ∃ kl, Hid (w.heap.size = kl) := ⟨_, rfl⟩
    rw [hRe.out, hde.out, hle.out] at hX
    rw [hRe.out, hde.out, hle.out]
    clear hV
    obtain ⟨b3, hl1, hl3⟩ := And.intro (lt_at hX.out.l).c3 (And.intro hX.out.hi1 hX.out.hi3)
    go_wp2_with (first | (go_at_call 118; refine (ndOwn_c p B Fc c id N D l.q _ hN.out hb a ha false hok).mono ?_; rintro e w1 ⟨rfl, hb1⟩; obtain ⟨x, rfl⟩ := over hb1; clear hb1; have f1 := x.upB kl; have f2 := x.upB R) | (go_at_call 125; refine (ndWaits_c p B Fc c id N D l.q _ (hN.out.below (by all_goals exact belEnd)) wt hwt).mono ?_; rintro e w2 ⟨rfl, hb2⟩; obtain ⟨y, rfl⟩ := over hb2; clear hb2))
    refine name_world ?_
    intro V2 hV2
    have hB2 : Hid (Below V.heap.size V V2) := by rw [← hV2]; exact hide (by all_goals exact belEnd)
    clear hV2 b3
    have X2 := hide (hX.out.below hB2.out)
    have n2 := hide (hN.out.below hB2.out)
    have S2 : Hid (Step (Fa p B Fc) (Fa p B Fc) w V2) := hide (Step.of_below (hB.out.trans (hB2.out.mono hB.out.size)))
    have A2 := n2.out.at'
    have B2 := lt_at X2.out.l
    obtain ⟨d0e, d1e, d2e⟩ : V2.cell? ⟨kd, 0, none⟩ = some (.int .i64 d0) ∧ V2.cell? ⟨kd, 1, none⟩ = some (.int .i64 d1) ∧ V2.cell? ⟨kd, 2, none⟩ = some (.int .i64 d2) := ⟨cell_of_row _ _ _ _ _ _ X2.out.d, cell_of_row _ _ _ _ _ _ X2.out.d, cell_of_row _ _ _ _ _ _ X2.out.d⟩
    go_wp2_with fail
    refine wp_region_noPanic ?_
    refine wp_region_held_drew (S := (fun w' => w'.cell? ⟨p, 8, none⟩ = some (.int .i64 c.cp) ∧ w'.cell? ⟨p, 10, none⟩ = some (ptr B.ca) ∧ w'.cell? ⟨kl, 3, none⟩ = some (.int .i64 l.q) ∧ w'.cell? ⟨kl, 6, none⟩ = some (.bool l.r) ∧ w'.cell? ⟨kd, 0, none⟩ = some (.int .i64 d0) ∧ w'.cell? ⟨kd, 1, none⟩ = some (.int .i64 d1) ∧ w'.cell? ⟨kd, 2, none⟩ = some (.int .i64 d2))) (by kernel_rfl) ?_ (fun hHeld => ?_)
    · exact ⟨A2.c8, A2.c10, B2.c3, B2.c6, d0e, d1e, d2e⟩
    refine hTk 0 28 hHeld ?_
    refine hTk 1 29 hHeld ?_
    refine hTk 2 30 hHeld ?_
    refine hTk 3 31 hHeld ?_
    refine hTk 4 32 hHeld ?_
    refine hTk 5 33 hHeld ?_
    refine hTk 6 34 hHeld ?_
    refine hTk 7 35 hHeld ?_
    refine hTk 8 36 hHeld ?_
    refine hTk 9 37 hHeld ?_
    refine hTk 10 38 hHeld ?_
    refine hTk 12 40 hHeld ?_
    refine hTk 13 41 hHeld ?_
    refine hTk 14 42 hHeld ?_
    refine hNo 11 fun K hK => ?_
    go_simp
    go_at_call 108
    refine (cGet_c B.ca Fc c.cs c.cy (N * 65536) l.q D.C _ (n2.out.drewN 1).ca hb t ht).mono ?_
    rintro e w3 ⟨rfl, hb3⟩
    have k3 : ∀ b, b < V2.heap.size → w3.heap[b]? = V2.heap[b]? := fun b hb => hb3.block b hb
    have kp := k3 p n2.out.pl
    have kk := k3 kl X2.out.hi1
    have kk2 := k3 kd X2.out.hi2
    refine hK.out _ _ ?_ fun hHeld => ?_
    · exact ⟨keep_cell kp A2.c8, keep_cell kp A2.c10, keep_cell kk B2.c3, keep_cell kk B2.c6, keep_cell kk2 d0e, keep_cell kk2 d1e, keep_cell kk2 d2e⟩
    clear hK K
    try simp only [Act.put, za, zb, zc]
    refine hNo 15 fun K hK => ?_
    go_simp
    go_at_call 126
    refine (reply_c c.cp t.n t.o t.h t.d l.r d0 d1 d2 _ r hr).mono ?_
    rintro e w4 ⟨rfl, hb4⟩
    have hb34 : Below V2.heap.size V2 w4 := (((Below.refl _ _).drew).trans hb3).trans (hb4.mono hb3.size)
    have k4 : ∀ b, b < V2.heap.size → w4.heap[b]? = V2.heap[b]? := fun b hb => hb34.block b hb
    have kp4 := k4 p n2.out.pl
    have kk4 := k4 kl X2.out.hi1
    have kk24 := k4 kd X2.out.hi2
    refine hK.out _ _ ?_ fun hHeld => ?_
    · exact ⟨keep_cell kp4 A2.c8, keep_cell kp4 A2.c10, keep_cell kk4 B2.c3, keep_cell kk4 B2.c6, keep_cell kk24 d0e, keep_cell kk24 d1e, keep_cell kk24 d2e⟩
    clear hK K
    try simp only [Act.put, za, zb, zc]
    have n4 := hide (n2.out.below hb34)
    have X4 := hide (X2.out.below hb34)
    have S4 := hide (S2.out.trans (Step.of_below hb34))
    clear hb34 k4 kp4 kk4 kk24 k3 kp kk kk2 hb3 hb4 A2 B2 d0e d1e d2e n2 X2 S2 hB2
    refine hTk 16 27 hHeld ?_
    refine hTk 17 44 hHeld ?_
    refine hTk 18 45 hHeld ?_
    refine hTk 19 46 hHeld ?_
    refine hTk 20 9 hHeld ?_
    refine hTk 21 10 hHeld ?_
    refine hTk 22 11 hHeld ?_
    refine wpAnyH_done (by kernel_rfl) (NoPanic.normal ?_) _
    clear hHeld
    go_wp2_with fail
    have A4 := n4.out.at'
    have B4 := lt_at X4.out.l
    go_wp2_with fail
    refine wp_region_noPanic ?_
    refine wp_region_held_drew (S := (fun w' => w'.cell? ⟨p, 10, none⟩ = some (ptr B.ca) ∧ w'.cell? ⟨kl, 1, none⟩ = some (.int .i64 l.a) ∧ w'.cell? ⟨kl, 3, none⟩ = some (.int .i64 l.q))) (by kernel_rfl) ?_ (fun hHeld => ?_)
    · exact ⟨A4.c10, B4.c1, B4.c3⟩
    clear A4 B4
    refine hTk 0 47 hHeld ?_
    refine hTk 1 48 hHeld ?_
    refine hTk 2 49 hHeld ?_
    refine hTk 3 50 hHeld ?_
    refine hTk 4 51 hHeld ?_
    refine hTk 5 52 hHeld ?_
    refine hTk 6 53 hHeld ?_
    refine hTk 7 54 hHeld ?_
    refine hTk 8 55 hHeld ?_
    refine hTk 9 56 hHeld ?_
    refine hTk 10 57 hHeld ?_
    refine hTk 11 58 hHeld ?_
    refine hTk 12 59 hHeld ?_
    refine hTk 13 60 hHeld ?_
    refine hNo 14 fun K hK => ?_
    go_simp
    go_at_call 127
    refine (cTake_c B.ca Fc c.cs c.cy (N * 65536) l.q r.n r.o r.v D.C _ (n4.out.drewN 1).ca hb (by omega) g C' hg hC).mono ?_
    rintro e w6 ⟨rfl, Fc6, hca6, hst6⟩
    obtain ⟨n3, s3⟩ := (n4.out.drewN 1).setC hca6 hst6 (Nat.le_refl N)
    have X3 := hide ((X4.out.below (V' := w4.drewN 1) (belowN (Below.refl _ _) 1)).step s3)
    have S3 := hide ((S4.out.trans (Step.of_below (belowN (Below.refl _ _) 1))).trans s3)
    replace n3 := hide n3
    clear hca6 hst6 s3 n4 X4 S4
    have A3 := n3.out.at'
    have B3 := lt_at X3.out.l
    obtain ⟨a10, b1, b3⟩ := And.intro A3.c10 (And.intro B3.c1 B3.c3)
    clear A3 B3
    refine hK.out _ _ ?_ fun hHeld => ?_
    · exact ⟨a10, b1, b3⟩
    clear hK K
    try simp only [Act.put, za, zb, zc]
    clear a10 b1 b3
    refine hNo 15 fun K hK => ?_
    go_simp
    go_at_call 122
    refine (ndSend_c p B Fc6 c id N _ l.a l.q g _ n3.out L hL').mono ?_
    rintro e w5 ⟨v5, rfl, g5, ho5, hg5, hb5⟩
    obtain ⟨ao5, cap5, e5, -⟩ := _root_.id ho5
    subst e5
    have X5 := hide (X3.out.below hb5)
    have n5 := hide (n3.out.below hb5)
    replace ho5 := hide ho5
    replace hb5 := hide hb5
    have A5 := n5.out.at'
    have B5 := lt_at X5.out.l
    obtain ⟨a10, b1, b3⟩ := And.intro A5.c10 (And.intro B5.c1 B5.c3)
    obtain ⟨r0, r1, z⟩ := or_at X5.out.r
    have hpR : p ≠ R := fun e => X5.out.nf3 (e ▸ .inr (.inl rfl))
    have hkR := X5.out.ne1
    have hR5 := X5.out.hi3
    have hp5 := n5.out.pl
    have hl5 := X5.out.hi1
    clear A5 B5
    refine hK.out _ _ ?_ fun hHeld => ?_
    · exact ⟨a10, b1, b3⟩
    clear hK K
    try simp only [Act.put, za, zb, zc]
    refine hTk 16 63 hHeld ?_
    refine hNo 17 fun K hK => ?_
    go_simp
    refine hK.out _ _ ?_ fun hHeld => ?_
    · exact ⟨by simp [go_sem, *], by simp [go_sem, *], by simp [go_sem, *]⟩
    clear hK K
    try simp only [Act.put, za, zb, zc]
    refine wpAnyH_done (by kernel_rfl) (NoPanic.normal ?_) _
    clear hHeld
    go_wp2_with fail
    refine bodyPost_ret (v := .agg #[.slice ao5 L.length cap5, .slice none 0 0]) (by simp [results, Tryz.results83, go_sem, *]; done) rfl ⟨_, _, rfl, Fc6, g5, g5, ?_⟩
    have hlo := X3.out.lo1
    have hls := X3.out.hi1
    have hlr := X3.out.hi3
    exact out_fin X5.out ho5.out (view_nilD _ _) (by omega) (by omega) (fun h => absurd rfl h) (n5.out.mono (Nat.le_succ N)) (S3.out.trans (Step.of_below hb5.out)) (fun e => by have := n3.out.lt _ e; omega) (fun h => absurd rfl h)
  · cases wt
    · simp only [Bool.true_and, Bool.false_eq_true, if_false] at hL' ⊢
      replace hL' := hide hL'
      go_enter Tryz.func83, Tryz.ntmps83
      go_upto_region 1 with fail
      refine name_world ?_
      intro V hV
      have hX : Hid (Bx w V (Fa p B Fc) l d0 d1 d2 w.heap.size (w.heap.size + 1) (w.heap.size + 1 + 1)) := by rw [← hV]; exact hide (bx_new w _ hFw.out l d0 d1 d2)
      have hB : Hid (Below w.heap.size w V) := by rw [← hV]; exact hide (by all_goals exact belEnd)
      have hN := hide (hH.out.below hB.out)
      obtain ⟨R, hRe⟩ : ∃ R, Hid (w.heap.size + 1 + 1 = R) := ⟨_, rfl⟩
      obtain ⟨kd, hde⟩ : ∃ kd, Hid (w.heap.size + 1 = kd) := ⟨_, rfl⟩
      obtain ⟨kl, hle⟩ : ∃ kl, Hid (w.heap.size = kl) := ⟨_, rfl⟩
      rw [hRe.out, hde.out, hle.out] at hX
      rw [hRe.out, hde.out, hle.out]
      clear hV
      obtain ⟨b3, hl1, hl3⟩ := And.intro (lt_at hX.out.l).c3 (And.intro hX.out.hi1 hX.out.hi3)
      go_wp2_with (first | (go_at_call 118; refine (ndOwn_c p B Fc c id N D l.q _ hN.out hb a ha true hok).mono ?_; rintro e w1 ⟨rfl, hb1⟩; obtain ⟨x, rfl⟩ := over hb1; clear hb1; have f1 := x.upB kl; have f2 := x.upB R) | (go_at_call 125; refine (ndWaits_c p B Fc c id N D l.q _ (hN.out.below (by all_goals exact belEnd)) false hwt).mono ?_; rintro e w2 ⟨rfl, hb2⟩; obtain ⟨y, rfl⟩ := over hb2; clear hb2))
      refine name_world ?_
      intro V2 hV2
      have hB2 : Hid (Below V.heap.size V V2) := by rw [← hV2]; exact hide (by all_goals exact belEnd)
      clear hV2 b3
      have X2 := hide (hX.out.below hB2.out)
      have n2 := hide (hN.out.below hB2.out)
      have S2 : Hid (Step (Fa p B Fc) (Fa p B Fc) w V2) := hide (Step.of_below (hB.out.trans (hB2.out.mono hB.out.size)))
      have A2 := n2.out.at'
      have B2 := lt_at X2.out.l
      obtain ⟨d0e, d1e, d2e⟩ : V2.cell? ⟨kd, 0, none⟩ = some (.int .i64 d0) ∧ V2.cell? ⟨kd, 1, none⟩ = some (.int .i64 d1) ∧ V2.cell? ⟨kd, 2, none⟩ = some (.int .i64 d2) := ⟨cell_of_row _ _ _ _ _ _ X2.out.d, cell_of_row _ _ _ _ _ _ X2.out.d, cell_of_row _ _ _ _ _ _ X2.out.d⟩
      go_wp2_with fail
      refine wp_region_noPanic ?_
      refine wp_region_held_drew (S := (fun w' => w'.cell? ⟨p, 8, none⟩ = some (.int .i64 c.cp) ∧ w'.cell? ⟨p, 10, none⟩ = some (ptr B.ca) ∧ w'.cell? ⟨kl, 3, none⟩ = some (.int .i64 l.q) ∧ w'.cell? ⟨kl, 6, none⟩ = some (.bool l.r) ∧ w'.cell? ⟨kd, 0, none⟩ = some (.int .i64 d0) ∧ w'.cell? ⟨kd, 1, none⟩ = some (.int .i64 d1) ∧ w'.cell? ⟨kd, 2, none⟩ = some (.int .i64 d2))) (by kernel_rfl) ?_ (fun hHeld => ?_)
      · exact ⟨A2.c8, A2.c10, B2.c3, B2.c6, d0e, d1e, d2e⟩
      refine hTk 0 28 hHeld ?_
      refine hTk 1 29 hHeld ?_
      refine hTk 2 30 hHeld ?_
      refine hTk 3 31 hHeld ?_
      refine hTk 4 32 hHeld ?_
      refine hTk 5 33 hHeld ?_
      refine hTk 6 34 hHeld ?_
      refine hTk 7 35 hHeld ?_
      refine hTk 8 36 hHeld ?_
      refine hTk 9 37 hHeld ?_
      refine hTk 10 38 hHeld ?_
      refine hTk 12 40 hHeld ?_
      refine hTk 13 41 hHeld ?_
      refine hTk 14 42 hHeld ?_
      refine hNo 11 fun K hK => ?_
      go_simp
      go_at_call 108
      refine (cGet_c B.ca Fc c.cs c.cy (N * 65536) l.q D.C _ (n2.out.drewN 1).ca hb t ht).mono ?_
      rintro e w3 ⟨rfl, hb3⟩
      have k3 : ∀ b, b < V2.heap.size → w3.heap[b]? = V2.heap[b]? := fun b hb => hb3.block b hb
      have kp := k3 p n2.out.pl
      have kk := k3 kl X2.out.hi1
      have kk2 := k3 kd X2.out.hi2
      refine hK.out _ _ ?_ fun hHeld => ?_
      · exact ⟨keep_cell kp A2.c8, keep_cell kp A2.c10, keep_cell kk B2.c3, keep_cell kk B2.c6, keep_cell kk2 d0e, keep_cell kk2 d1e, keep_cell kk2 d2e⟩
      clear hK K
      try simp only [Act.put, za, zb, zc]
      refine hNo 15 fun K hK => ?_
      go_simp
      go_at_call 126
      refine (reply_c c.cp t.n t.o t.h t.d l.r d0 d1 d2 _ r hr).mono ?_
      rintro e w4 ⟨rfl, hb4⟩
      have hb34 : Below V2.heap.size V2 w4 := (((Below.refl _ _).drew).trans hb3).trans (hb4.mono hb3.size)
      have k4 : ∀ b, b < V2.heap.size → w4.heap[b]? = V2.heap[b]? := fun b hb => hb34.block b hb
      have kp4 := k4 p n2.out.pl
      have kk4 := k4 kl X2.out.hi1
      have kk24 := k4 kd X2.out.hi2
      refine hK.out _ _ ?_ fun hHeld => ?_
      · exact ⟨keep_cell kp4 A2.c8, keep_cell kp4 A2.c10, keep_cell kk4 B2.c3, keep_cell kk4 B2.c6, keep_cell kk24 d0e, keep_cell kk24 d1e, keep_cell kk24 d2e⟩
      clear hK K
      try simp only [Act.put, za, zb, zc]
      have n4 := hide (n2.out.below hb34)
      have X4 := hide (X2.out.below hb34)
      have S4 := hide (S2.out.trans (Step.of_below hb34))
      clear hb34 k4 kp4 kk4 kk24 k3 kp kk kk2 hb3 hb4 A2 B2 d0e d1e d2e n2 X2 S2 hB2
      refine hTk 16 27 hHeld ?_
      refine hTk 17 44 hHeld ?_
      refine hTk 18 45 hHeld ?_
      refine hTk 19 46 hHeld ?_
      refine hTk 20 9 hHeld ?_
      refine hTk 21 10 hHeld ?_
      refine hTk 22 11 hHeld ?_
      refine wpAnyH_done (by kernel_rfl) (NoPanic.normal ?_) _
      clear hHeld
      go_wp2_with fail
      have A4 := n4.out.at'
      have B4 := lt_at X4.out.l
      go_wp2_with fail
      refine wp_region_noPanic ?_
      refine wp_region_held_drew (S := (fun w' => w'.cell? ⟨p, 10, none⟩ = some (ptr B.ca) ∧ w'.cell? ⟨kl, 1, none⟩ = some (.int .i64 l.a) ∧ w'.cell? ⟨kl, 3, none⟩ = some (.int .i64 l.q))) (by kernel_rfl) ?_ (fun hHeld => ?_)
      · exact ⟨A4.c10, B4.c1, B4.c3⟩
      clear A4 B4
      refine hTk 0 47 hHeld ?_
      refine hTk 1 48 hHeld ?_
      refine hTk 2 49 hHeld ?_
      refine hTk 3 50 hHeld ?_
      refine hTk 4 51 hHeld ?_
      refine hTk 5 52 hHeld ?_
      refine hTk 6 53 hHeld ?_
      refine hTk 7 54 hHeld ?_
      refine hTk 8 55 hHeld ?_
      refine hTk 9 56 hHeld ?_
      refine hTk 10 57 hHeld ?_
      refine hTk 11 58 hHeld ?_
      refine hTk 12 59 hHeld ?_
      refine hTk 13 60 hHeld ?_
      refine hNo 14 fun K hK => ?_
      go_simp
      go_at_call 127
      refine (cTake_c B.ca Fc c.cs c.cy (N * 65536) l.q r.n r.o r.v D.C _ (n4.out.drewN 1).ca hb (by omega) g C' hg hC).mono ?_
      rintro e w6 ⟨rfl, Fc6, hca6, hst6⟩
      obtain ⟨n3, s3⟩ := (n4.out.drewN 1).setC hca6 hst6 (Nat.le_refl N)
      have X3 := hide ((X4.out.below (V' := w4.drewN 1) (belowN (Below.refl _ _) 1)).step s3)
      have S3 := hide ((S4.out.trans (Step.of_below (belowN (Below.refl _ _) 1))).trans s3)
      replace n3 := hide n3
      clear hca6 hst6 s3 n4 X4 S4
      have A3 := n3.out.at'
      have B3 := lt_at X3.out.l
      obtain ⟨a10, b1, b3⟩ := And.intro A3.c10 (And.intro B3.c1 B3.c3)
      clear A3 B3
      refine hK.out _ _ ?_ fun hHeld => ?_
      · exact ⟨a10, b1, b3⟩
      clear hK K
      try simp only [Act.put, za, zb, zc]
      clear a10 b1 b3
      refine hNo 15 fun K hK => ?_
      go_simp
      go_at_call 122
      refine (ndSend_c p B Fc6 c id N _ l.a l.q g _ n3.out L hL').mono ?_
      rintro e w5 ⟨v5, rfl, g5, ho5, hg5, hb5⟩
      obtain ⟨ao5, cap5, e5, -⟩ := _root_.id ho5
      subst e5
      have X5 := hide (X3.out.below hb5)
      have n5 := hide (n3.out.below hb5)
      replace ho5 := hide ho5
      replace hb5 := hide hb5
      have A5 := n5.out.at'
      have B5 := lt_at X5.out.l
      obtain ⟨a10, b1, b3⟩ := And.intro A5.c10 (And.intro B5.c1 B5.c3)
      obtain ⟨r0, r1, z⟩ := or_at X5.out.r
      have hpR : p ≠ R := fun e => X5.out.nf3 (e ▸ .inr (.inl rfl))
      have hkR := X5.out.ne1
      have hR5 := X5.out.hi3
      have hp5 := n5.out.pl
      have hl5 := X5.out.hi1
      clear A5 B5
      refine hK.out _ _ ?_ fun hHeld => ?_
      · exact ⟨a10, b1, b3⟩
      clear hK K
      try simp only [Act.put, za, zb, zc]
      refine hTk 16 63 hHeld ?_
      refine hNo 17 fun K hK => ?_
      go_simp
      refine hK.out _ _ ?_ fun hHeld => ?_
      · exact ⟨by simp [go_sem, *], by simp [go_sem, *], by simp [go_sem, *]⟩
      clear hK K
      try simp only [Act.put, za, zb, zc]
      refine wpAnyH_done (by kernel_rfl) (NoPanic.normal ?_) _
      clear hHeld
      go_wp2_with fail
      refine bodyPost_ret (v := .agg #[.slice ao5 L.length cap5, .slice none 0 0]) (by simp [results, Tryz.results83, go_sem, *]; done) rfl ⟨_, _, rfl, Fc6, g5, g5, ?_⟩
      have hlo := X3.out.lo1
      have hls := X3.out.hi1
      have hlr := X3.out.hi3
      exact out_fin X5.out ho5.out (view_nilD _ _) (by omega) (by omega) (fun h => absurd rfl h) (n5.out.mono (Nat.le_succ N)) (S3.out.trans (Step.of_below hb5.out)) (fun e => by have := n3.out.lt _ e; omega) (fun h => absurd rfl h)
    · simp only [Bool.true_and, if_true] at hL' ⊢
      subst hL'
      go_enter Tryz.func83, Tryz.ntmps83
      go_upto_region 1 with fail
      refine name_world ?_
      intro V hV
      have hX : Hid (Bx w V (Fa p B Fc) l d0 d1 d2 w.heap.size (w.heap.size + 1) (w.heap.size + 1 + 1)) := by rw [← hV]; exact hide (bx_new w _ hFw.out l d0 d1 d2)
      have hB : Hid (Below w.heap.size w V) := by rw [← hV]; exact hide (by all_goals exact belEnd)
      have hN := hide (hH.out.below hB.out)
      obtain ⟨R, hRe⟩ : ∃ R, Hid (w.heap.size + 1 + 1 = R) := ⟨_, rfl⟩
      obtain ⟨kd, hde⟩ : ∃ kd, Hid (w.heap.size + 1 = kd) := ⟨_, rfl⟩
      obtain ⟨kl, hle⟩ : ∃ kl, Hid (w.heap.size = kl) := ⟨_, rfl⟩
      rw [hRe.out, hde.out, hle.out] at hX
      rw [hRe.out, hde.out, hle.out]
      clear hV
      obtain ⟨b3, hl1, hl3⟩ := And.intro (lt_at hX.out.l).c3 (And.intro hX.out.hi1 hX.out.hi3)
      obtain ⟨r0, r1, z⟩ := or_at hX.out.r
      go_wp2_with (first | (go_at_call 118; refine (ndOwn_c p B Fc c id N D l.q _ hN.out hb a ha true hok).mono ?_; rintro e w1 ⟨rfl, hb1⟩; obtain ⟨x, rfl⟩ := over hb1; clear hb1; have f1 := x.upB kl; have f2 := x.upB R) | (go_at_call 125; refine (ndWaits_c p B Fc c id N D l.q _ (hN.out.below (by all_goals exact belEnd)) true hwt).mono ?_; rintro e w2 ⟨rfl, hb2⟩; obtain ⟨y, rfl⟩ := over hb2; clear hb2))
      have hB2 : Below V.heap.size V y.w := by all_goals exact belEnd
      have X2 := hX.out.below hB2
      clear r0 r1 z
      obtain ⟨r0, r1, z⟩ := or_at X2.r
      have hyR := X2.hi3
      refine bodyPost_ret (v := .agg #[.slice none 0 0, .slice none 0 0]) (by simp [results, Tryz.results83, go_sem, *]; done) rfl ⟨_, _, rfl, Fc, w.heap.size, w.heap.size, ?_⟩
      have hlo := X2.lo1
      have hls := X2.hi1
      exact out_fin X2 (own_nilT (by omega)) (view_nilD _ _) (Nat.le_refl _) (by have := hRe.out; omega) (fun h => absurd rfl h) ((hN.out.mono (Nat.le_succ N)).below hB2) (Step.of_below (hB.out.trans (hB2.mono hB.out.size))) (fun e => by have := hFw.out _ e; omega) (fun h => absurd rfl h)
end Go.Proofs.YtoenjdnccgmhoaaGreatDoor
