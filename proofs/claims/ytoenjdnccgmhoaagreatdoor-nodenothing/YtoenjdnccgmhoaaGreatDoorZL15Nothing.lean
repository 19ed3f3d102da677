/- layer 15: Env15 Tell15 L15Nothing, put together. -/
import Derived.Test.YtoenjdnccgmhoaaGreatDoorB38
import Derived.Test.YtoenjdnccgmhoaaGreatDoorB43
import Derived.Test.YtoenjdnccgmhoaaGreatDoorB45
import Derived.Deep.WholeRow
import Derived.Test.YtoenjdnccgmhoaaGreatDoorZRnP
import Derived.Test.YtoenjdnccgmhoaaGreatDoorB20
namespace Go.Proofs.YtoenjdnccgmhoaaGreatDoor
open Go.ChangeShapes Go.WideShapes Go.ChangeAt Go.RowKit
set_option linter.unusedSimpArgs false
set_option linter.unusedVariables false
set_option maxRecDepth 10000
attribute [local go_sem, local simp] over_const setCell_drewN alloc_drewN Over.cell Over.frozen lt_s1 lt_s2 lt_s3 le_s0 le_s1 le_s2 le_s3 eq_s0 eq_s1 eq_s2 qe_s0
theorem At5.low {w V : World} {p : Nat} {B : Bk} {Fc F : Nat → Prop} {c : Cf} {id : Int} {N : Nat} {D : Nd} {K : List (Nat × Obj)} (h : At5 w V p B Fc F c id N D K) (hlo : ∀ x, Fa p B Fc x → w.heap.size ≤ x) : Below w.heap.size w V := h.s.belowW (Below.refl _ _) hlo
theorem acts_at {w : World} {k : Nat} {x : Ac} (h : w.heap[k]? = some (actsO x)) : w.cell? ⟨k, 0, none⟩ = some (.int .i64 x.k) ∧ w.cell? ⟨k, 1, none⟩ = some (.int .i64 x.op.b) ∧ w.cell? ⟨k, 2, none⟩ = some (.bool x.op.w) ∧ w.cell? ⟨k, 3, none⟩ = some (.int .i64 x.op.v) ∧ w.cell? ⟨k, 4, none⟩ = some (.int .i64 x.l.k) ∧ w.cell? ⟨k, 5, none⟩ = some (.int .i64 x.l.a) ∧ w.cell? ⟨k, 6, none⟩ = some (.int .i64 x.l.b) ∧ w.cell? ⟨k, 7, none⟩ = some (.int .i64 x.l.q) ∧ w.cell? ⟨k, 8, none⟩ = some (.int .i64 x.l.s) ∧ w.cell? ⟨k, 9, none⟩ = some (.int .i64 x.l.w) ∧ w.cell? ⟨k, 10, none⟩ = some (.bool x.l.r) ∧ w.cell? ⟨k, 11, none⟩ = some (.int .i64 x.l.n) ∧ w.cell? ⟨k, 12, none⟩ = some (.bool x.l.o) ∧ w.cell? ⟨k, 13, none⟩ = some (.bool x.l.h) ∧ w.cell? ⟨k, 14, none⟩ = some (.int .i64 x.l.d) ∧ w.cell? ⟨k, 15, none⟩ = some (.int .i64 x.d0) ∧ w.cell? ⟨k, 16, none⟩ = some (.int .i64 x.d1) ∧ w.cell? ⟨k, 17, none⟩ = some (.int .i64 x.d2) := by
  refine ⟨?_, ?_, ?_, ?_, ?_, ?_, ?_, ?_, ?_, ?_, ?_, ?_, ?_, ?_, ?_, ?_, ?_, ?_⟩ <;> exact cell_of_row _ _ _ _ _ _ h
structure One (w V : World) (p : Nat) (B : Bk) (F : Nat → Prop) (c : Cf) (id : Int) (N : Nat) (D : Nd) : Prop where
  n : NdIs V p B F c id N D
  lo : ∀ b, Fa p B F b → w.heap.size ≤ b
  bel : Below w.heap.size w V
section
variable {w V V' : World} {p : Nat} {B : Bk} {F F2 : Nat → Prop} {c : Cf} {id : Int} {N M : Nat} {D D2 : Nd}
theorem One.below (h : One w V p B F c id N D) (hb : Below V.heap.size V V') : One w V' p B F c id N D := ⟨h.n.below hb, h.lo, h.bel.trans (hb.mono h.bel.size)⟩
theorem One.step (h : One w V p B F c id N D) (hn : NdIs V' p B F2 c id M D2) (hs : Step (Fa p B F) (Fa p B F2) V V') : One w V' p B F2 c id M D2 := ⟨hn, hs.lo h.lo h.bel.size, hs.belowW h.bel h.lo⟩
theorem One.alloc (h : One w V p B F c id N D) (o : Obj) : One w (V.alloc o) p B F c id N D := h.below ((Below.refl _ _).alloc (Nat.le_refl _) _)
end
def actC (x : Ac) : List Value := [.int .i64 x.k, .int .i64 x.op.b, .bool x.op.w, .int .i64 x.op.v, .int .i64 x.l.k, .int .i64 x.l.a, .int .i64 x.l.b, .int .i64 x.l.q, .int .i64 x.l.s, .int .i64 x.l.w, .bool x.l.r, .int .i64 x.l.n, .bool x.l.o, .bool x.l.h, .int .i64 x.l.d, .int .i64 x.d0, .int .i64 x.d1, .int .i64 x.d2]
theorem i64_0 : I64 0 := ⟨by decide, by decide⟩
theorem field_p1 (w : World) (a d : Option Addr) (n c m e : Nat) (b y : Bool) (x z : Int) : (Instr.field 62 (.agg #[.slice a n c, .bool b, .int .i64 x, .bool y, .int .i64 z, .slice d m e]) 1).run Tryz.prog w = .ok (.bool b) w := by kernel_rfl
theorem nt_iss (c : Cf) (id : Int) (op : Op3) : isOk c nd0 op = (decide (0 ≤ op.b) && decide (op.b < c.bl)) ∧ isOk c (nxIs c id nd0 op) op = false ∧ (nxIs c id nd0 op).P.busy = (decide (0 ≤ op.b) && decide (op.b < c.bl)) := by
  have h1 : isOk c nd0 op = (decide (0 ≤ op.b) && decide (op.b < c.bl)) := by unfold isOk; simp [nd0]
  refine ⟨h1, ?_⟩
  cases e : isOk c nd0 op
  · have h2 : nxIs c id nd0 op = nd0 := by unfold nxIs; rw [e]; rfl
    rw [h2]
    exact ⟨e, by rw [← h1, e]; rfl⟩
  · have hb : (isD c nd0 op).P.busy = true := by unfold isD nxI nd0; simp
    have hs : sttOk c (isD c nd0 op) = false := by unfold sttOk okDo canB isD nd0; simp
    have h2 : nxIs c id nd0 op = isD c nd0 op := by unfold nxIs nxS; rw [e, if_pos rfl, hs, if_neg (by decide)]
    rw [h2]
    exact ⟨by unfold isOk; rw [hb]; simp, by rw [← h1, e]; exact hb⟩
theorem isL_no {c : Cf} {id : Int} {D : Nd} {op : Op3} {d0 d1 : Int} (h : isOk c D op = false) : isL c id D op d0 d1 = [] ∧ nxIs c id D op = D := by unfold isL nxIs; rw [h]; exact ⟨rfl, rfl⟩
theorem tk_no {c : Cf} {id : Int} {D : Nd} {l : Lt} {d0 d1 : Int} (h : tkOk c id l = false) : tkL c id D l d0 d1 = [] ∧ tkN c id D l = [] ∧ nxTake c id D l d0 d1 = D := by unfold tkL tkN nxTake; rw [h]; exact ⟨rfl, rfl, rfl⟩
set_option maxHeartbeats 4000000 in
theorem nothingNo_walk (c : Cf) (id : Int) (y : Ac) (w : World) (hT : Hid (Tab w)) (hno : ¬ (cfgZ c.n c.bl c.tt c.cs c.cy c.cc c.cu c.ct c.cp = 0 ∧ nodeB id c.n = true ∧ (0 : Nat) ≤ 200)) : Calls Tryz.prog 8 #[.agg #[.int .i64 c.n, .int .i64 c.bl, .int .i64 c.tt, .int .i64 c.cs, .int .i64 c.cy, .int .i64 c.cc, .int .i64 c.cu, .int .i64 c.ct, .int .i64 c.cp], .int .i64 id, .agg (actC y).toArray] w fun e w' => e = .returned (.bool true) ∧ Below w.heap.size w w' := by
  replace hno := hide hno
  dsimp only [actC]
  go_enter Tryz.func8, Tryz.ntmps8
  go_upto_region 1 with fail
  refine name_world ?_
  intro V hV
  have hB : Hid (Below w.heap.size w V) := by rw [← hV]; exact hide (by all_goals exact belEnd)
  have hX : Hid (V.heap[w.heap.size]? = some (cfR c) ∧ V.heap[w.heap.size + 1]? = some (actsO y)) := by
    have h1 := heap_alloc_new w (cfR c)
    have h2 := heap_alloc_new (w.alloc (cfR c)) (actsO y)
    simp only [World.size_alloc] at h2
    rw [← hV]
    exact hide ⟨(Below.heap_alloc _ _ _ (by first | (simp; done) | (simp; omega))).trans h1, h2⟩
  clear hV
  obtain ⟨ka, hka⟩ : ∃ k, Hid (w.heap.size + 1 = k) := ⟨_, hide rfl⟩
  obtain ⟨kc, hkc⟩ : ∃ k, Hid (w.heap.size = k) := ⟨_, hide rfl⟩
  rw [hka.out, hkc.out] at hX
  rw [hka.out, hkc.out]
  obtain ⟨xc, xa⟩ := hX.out
  obtain ⟨c0, c1, c2, c3, c4, c5, c6, c7, c8⟩ := cf_at xc
  have lc : kc < V.heap.size := ob_lt xc
  have la : ka < V.heap.size := ob_lt xa
  go_wp2_with (first | (go_at_call 11; refine (madeNo_c c id none 0 0 _ hno.out (by decide)).mono ?_; rintro e w1 ⟨rfl, hb1⟩; obtain ⟨x, rfl⟩ := over hb1; clear hb1; have f1 := x.upB kc; have f2 := x.upB ka) | (go_at_call 12; refine (awake15_c _ (hide (hT.out.lowB (hB.out.trans (Below.mono (B := V.heap.size) (by all_goals exact belEnd) hB.out.size))))).mono ?_; rintro e w2 ⟨rfl, hb2⟩; obtain ⟨z, rfl⟩ := over2 hb2; clear hb2))
  go_ret
  refine ⟨rfl, ?_⟩
  exact hB.out.trans (Below.mono (B := V.heap.size) (by all_goals exact belEnd) hB.out.size)
set_option maxHeartbeats 8000000 in
theorem nothingOk_walk (c : Cf) (id : Int) (y : Ac) (w : World) (hT : Hid (Tab w)) (hlk : Hid (I64 y.l.k)) (h0 : Hid (cfgZ c.n c.bl c.tt c.cs c.cy c.cc c.cu c.ct c.cp = 0)) (h1 : Hid (nodeB id c.n = true)) : Calls Tryz.prog 8 #[.agg #[.int .i64 c.n, .int .i64 c.bl, .int .i64 c.tt, .int .i64 c.cs, .int .i64 c.cy, .int .i64 c.cc, .int .i64 c.cu, .int .i64 c.ct, .int .i64 c.cp], .int .i64 id, .agg (actC y).toArray] w fun e w' => e = .returned (.bool true) ∧ Below w.heap.size w w' := by
  dsimp only [actC]
  go_enter Tryz.func8, Tryz.ntmps8
  go_upto_region 1 with fail
  refine name_world ?_
  intro V hV
  have hB : Hid (Below w.heap.size w V) := by rw [← hV]; exact hide (by all_goals exact belEnd)
  have hX : Hid (V.heap[w.heap.size]? = some (cfR c) ∧ V.heap[w.heap.size + 1]? = some (actsO y)) := by
    have h1 := heap_alloc_new w (cfR c)
    have h2 := heap_alloc_new (w.alloc (cfR c)) (actsO y)
    simp only [World.size_alloc] at h2
    rw [← hV]
    exact hide ⟨(Below.heap_alloc _ _ _ (by first | (simp; done) | (simp; omega))).trans h1, h2⟩
  clear hV
  obtain ⟨ka, hka⟩ : ∃ k, Hid (w.heap.size + 1 = k) := ⟨_, hide rfl⟩
  obtain ⟨kc, hkc⟩ : ∃ k, Hid (w.heap.size = k) := ⟨_, hide rfl⟩
  rw [hka.out, hkc.out] at hX
  rw [hka.out, hkc.out]
  obtain ⟨xc, xa⟩ := hX.out
  obtain ⟨c0, c1, c2, c3, c4, c5, c6, c7, c8⟩ := cf_at xc
  have lc : kc < V.heap.size := ob_lt xc
  have la : ka < V.heap.size := ob_lt xa
  go_upto_region 2 with (go_at_call 11; refine (madeZ_c c id none 0 0 _ h0 h1 (by decide)).mono ?_; rintro e w1 ⟨p, q, rfl, B, Fc, hn1, hlo1, ⟨n0, hn0, hz1⟩, hb1⟩; replace hn0 := hide hn0; clear c0 c1 c2 c3 c4 c5 c6 c7 c8; replace hn1 := hide hn1; replace hlo1 := hide hlo1; replace hz1 := hide hz1; replace hb1 := hide hb1)
  have hB1 : Hid (Below w.heap.size w w1) := hide (hB.out.trans (hb1.out.mono hB.out.size))
  have hlo : Hid (∀ x, Fa p B Fc x → w.heap.size ≤ x) := hide (fun x hx => Nat.le_trans hB.out.size (hlo1.out x hx))
  have Q1 : Hid (At5 w w1 p B Fc Fc c id 0 nd0 [(ka, actsO y), (kc, cfR c)]) := hide ⟨hn1.out, fun x hx => by
    have e2 := hka.out
    have e3 := hkc.out
    have nf : ∀ k, k < V.heap.size → ¬ Fa p B Fc k := fun k hk e => by have := hlo1.out k e; omega
    simp only [List.mem_cons, List.not_mem_nil, or_false] at hx
    rcases hx with rfl | rfl
    · exact ⟨by dsimp only; omega, Nat.lt_of_lt_of_le la hb1.out.size, nf _ la, (hb1.out.block _ la).trans xa⟩
    · exact ⟨by dsimp only; omega, Nat.lt_of_lt_of_le lc hb1.out.size, nf _ lc, (hb1.out.block _ lc).trans xc⟩, Step.of_below hB1.out⟩
  clear hn1 hlo1 hb1 xc xa lc la hX
  go_wp2_with fail
  go_at_call 12
  refine (awake15_c _ (hide (hT.out.lowB hB1.out))).mono ?_
  rintro e w2 ⟨rfl, hb2⟩
  have Q2 := hide (Q1.out.below hb2)
  have hz2 := hide (hz1.out.below hb2)
  clear hb2 Q1 hz1 hB1
  obtain ⟨lc, xc⟩ := bz_get Q2.out.x (k := kc) (o := cfR c) (by simp)
  obtain ⟨c0, c1, c2, c3, c4, c5, c6, c7, c8⟩ := cf_at xc
  obtain ⟨la, xa⟩ := bz_get Q2.out.x (k := ka) (o := actsO y) (by simp)
  obtain ⟨a0, a1, a2, a3, a4, a5, a6, a7, a8, a9, a10, a11, a12, a13, a14, a15, a16, a17⟩ := acts_at xa
  clear xc xa
  obtain ⟨z, hz⟩ : ∃ z, Hid (letterZ c.n c.bl c.tt ⟨y.l.k, y.l.a, y.l.b, y.l.q, y.l.s, y.l.w, y.l.r, ⟨y.l.n, y.l.o, y.l.h, y.l.d⟩⟩ = z) := ⟨_, hide rfl⟩
  have hzl : lerr c y.l = z := hz.out
  by_cases ez : z = 0
  · subst ez
    by_cases eb : y.l.b = id
    · obtain ⟨m1, m2, m3⟩ := cmpT eb
      replace eb := hide eb
      clear hzl
      go_upto_region 8 with (go_at_call 27; refine (refCheck_c c.n c.bl c.tt c.cs c.cy c.cc c.cu c.ct c.cp y.l.k y.l.a y.l.b y.l.q y.l.s y.l.w y.l.r y.l.n y.l.o y.l.h y.l.d _ 0 hz).mono ?_; rintro e w7 ⟨rfl, hb7⟩; replace Q2 := hide (Q2.out.below hb7); clear hb7 c0 c1 c2 c3 c4 c5 c6 c7 c8 a0 a1 a2 a3 a4 a5 a6 a7 a8 a9 a10 a11 a12 a13 a14 a15 a16 a17 lc la; obtain ⟨lc, xc⟩ := bz_get Q2.out.x (k := kc) (o := cfR c) (by simp); obtain ⟨c0, c1, c2, c3, c4, c5, c6, c7, c8⟩ := cf_at xc; obtain ⟨la, xa⟩ := bz_get Q2.out.x (k := ka) (o := actsO y) (by simp); obtain ⟨a0, a1, a2, a3, a4, a5, a6, a7, a8, a9, a10, a11, a12, a13, a14, a15, a16, a17⟩ := acts_at xa; clear xc xa)
      clear c0 c1 c2 c3 c4 c5 c6 c7 c8 a0 a1 a2 a3 a4 a5 a6 a7 a8 a9 a10 a11 a12 a13 a14 a15 a16 a17 lc la
      as_aux_lemma =>
        obtain ⟨b1, hb1⟩ : ∃ b1, Hid (decide (0 ≤ y.op.b) = b1) := ⟨_, hide rfl⟩
        obtain ⟨b2, hb2⟩ : ∃ b2, Hid (decide (y.op.b < c.bl) = b2) := ⟨_, hide rfl⟩
        obtain ⟨i1, i2, i3⟩ := nt_iss c id y.op
        rw [hb1.out, hb2.out] at i1 i3
        obtain ⟨D1, hD1⟩ : ∃ D1, nxIs c id nd0 y.op = D1 := ⟨_, rfl⟩
        rw [hD1] at i2 i3
        obtain ⟨L1, hL1⟩ : ∃ L, Hid (isL c id nd0 y.op y.d0 y.d1 = L) := ⟨_, hide rfl⟩
        obtain ⟨M1, hM1⟩ : ∃ L, Hid (isN c id nd0 y.op = L) := ⟨_, hide rfl⟩
        obtain ⟨M2, hM2⟩ : ∃ L, Hid (isN c id D1 y.op = L) := ⟨_, hide rfl⟩
        have hL2 := hide (isL_no (id := id) (d0 := y.d0) (d1 := y.d1) i2).1
        have hD2 := hide (isL_no (id := id) (d0 := 0) (d1 := 0) i2).2
        replace i1 := hide i1
        replace i2 := hide i2
        obtain ⟨op8, hop8⟩ : ∃ x, Hid (D1.P.op = x) := ⟨_, hide rfl⟩
        obtain ⟨Ls8, hLs8⟩ : ∃ x, Hid (allC D1.C = x) := ⟨_, hide rfl⟩
        obtain ⟨As8, hAs8⟩ : ∃ x, Hid (D1.T.A = x) := ⟨_, hide rfl⟩
        have hfp := field_p1
        obtain ⟨lc, xc⟩ := bz_get Q2.out.x (k := kc) (o := cfR c) (by simp)
        obtain ⟨c0, c1, c2, c3, c4, c5, c6, c7, c8⟩ := cf_at xc
        obtain ⟨la, xa⟩ := bz_get Q2.out.x (k := ka) (o := actsO y) (by simp)
        obtain ⟨a0, a1, a2, a3, a4, a5, a6, a7, a8, a9, a10, a11, a12, a13, a14, a15, a16, a17⟩ := acts_at xa
        clear xc xa
        go_wp2_with fail
        go_at_call 15
        refine (ndIssue_c p B _ c id _ nd0 y.op y.d0 y.d1 y.d2 _ Q2.out.n (by decide) (b1 && b2) i1 L1 hL1 M1 hM1).mono ?_
        rintro e w5 ⟨v1, v2, rfl, F5, g1, g2, hO⟩
        obtain ⟨u1, u2, e1, -⟩ := _root_.id hO.own
        obtain ⟨u3, u4, e2, -⟩ := _root_.id hO.dn
        subst e1 e2
        have hnd := hO.nd
        rw [hD1] at hnd
        have Q5 := hide ((Q2.out.step hnd hO.st).new (outR (.slice u1 L1.length u2) (.slice u3 M1.length u4)))
        clear hO hnd
        clear c0 c1 c2 c3 c4 c5 c6 c7 c8 a0 a1 a2 a3 a4 a5 a6 a7 a8 a9 a10 a11 a12 a13 a14 a15 a16 a17 lc la
        go_upto_region 9 with fail
        obtain ⟨V5, hV5⟩ : ∃ V, w5.alloc (outR (.slice u1 L1.length u2) (.slice u3 M1.length u4)) = V := ⟨_, rfl⟩
        rw [hV5] at Q5
        dsimp only [outR] at hV5
        rw [hV5]
        clear hV5
        replace Q5 := hide (Q5.out.sub (K' := [(ka, actsO y), (kc, cfR c)]) (fun x hx => List.mem_cons_of_mem _ hx))
        obtain ⟨lc, xc⟩ := bz_get Q5.out.x (k := kc) (o := cfR c) (by simp)
        obtain ⟨c0, c1, c2, c3, c4, c5, c6, c7, c8⟩ := cf_at xc
        obtain ⟨la, xa⟩ := bz_get Q5.out.x (k := ka) (o := actsO y) (by simp)
        obtain ⟨a0, a1, a2, a3, a4, a5, a6, a7, a8, a9, a10, a11, a12, a13, a14, a15, a16, a17⟩ := acts_at xa
        clear xc xa
        go_wp2_with fail
        go_at_call 15
        refine (ndIssue_c p B _ c id _ D1 y.op y.d0 y.d1 y.d2 _ Q5.out.n (by decide) false i2 [] hL2 M2 hM2).mono ?_
        rintro e w6 ⟨v3, v4, rfl, F6, g3, g4, hO⟩
        obtain ⟨u5, u6, e1, -⟩ := _root_.id hO.own
        obtain ⟨u7, u8, e2, -⟩ := _root_.id hO.dn
        have e1' : v3 = .slice u5 0 u6 := e1
        subst e1' e2
        clear e1
        have hnd := hO.nd
        rw [hD2.out] at hnd
        have Q8 := hide ((Q5.out.step hnd hO.st).new (outR (.slice u5 0 u6) (.slice u7 M2.length u8)))
        clear hO hnd Q5
        clear c0 c1 c2 c3 c4 c5 c6 c7 c8 a0 a1 a2 a3 a4 a5 a6 a7 a8 a9 a10 a11 a12 a13 a14 a15 a16 a17 lc la
        go_upto_region 10 with fail
        obtain ⟨V8, hV8⟩ : ∃ V, w6.alloc (outR (.slice u5 0 u6) (.slice u7 M2.length u8)) = V := ⟨_, rfl⟩
        rw [hV8] at Q8
        dsimp only [outR] at hV8
        rw [hV8]
        clear hV8
        obtain ⟨k8, hk8⟩ : ∃ k, Hid (w6.heap.size = k) := ⟨_, hide rfl⟩
        rw [hk8.out] at Q8
        rw [hk8.out]
        obtain ⟨l8, x8⟩ := bz_get Q8.out.x (k := k8) (o := outR (.slice u5 0 u6) (.slice u7 M2.length u8)) (by simp)
        obtain ⟨r0, r1, -⟩ := out_at x8
        clear x8
        obtain ⟨lc, xc⟩ := bz_get Q8.out.x (k := kc) (o := cfR c) (by simp)
        obtain ⟨c0, c1, c2, c3, c4, c5, c6, c7, c8⟩ := cf_at xc
        obtain ⟨la, xa⟩ := bz_get Q8.out.x (k := ka) (o := actsO y) (by simp)
        obtain ⟨a0, a1, a2, a3, a4, a5, a6, a7, a8, a9, a10, a11, a12, a13, a14, a15, a16, a17⟩ := acts_at xa
        clear xc xa
        cases b1
        · have d1 := hb1.out
          have hbu : Hid (D1.P.busy = false) := hide i3
          clear i3
          go_wp2_with (go_at_call 25; refine (ndPlace_c p B _ c id _ D1 _ Q8.out.n (by omega) false hbu op8 hop8 Ls8 hLs8 As8 hAs8).mono ?_; rintro e w9 ⟨v5, v6, rfl, g5, g6, ho5, ho6, -, -, hb9⟩; obtain ⟨ao5, cap5, e5, -⟩ := _root_.id ho5; subst e5; obtain ⟨ao6, cap6, e6, -⟩ := _root_.id ho6; subst e6; clear ho5 ho6; replace hb9 := hide hb9)
          go_ret
          exact ⟨rfl, (Q8.out.low hlo.out).trans (hb9.out.mono (Q8.out.low hlo.out).size)⟩
        · cases b2
          · have d1 := hb1.out
            have d2 := hb2.out
            have hbu : Hid (D1.P.busy = false) := hide i3
            clear i3
            go_wp2_with (go_at_call 25; refine (ndPlace_c p B _ c id _ D1 _ Q8.out.n (by omega) false hbu op8 hop8 Ls8 hLs8 As8 hAs8).mono ?_; rintro e w9 ⟨v5, v6, rfl, g5, g6, ho5, ho6, -, -, hb9⟩; obtain ⟨ao5, cap5, e5, -⟩ := _root_.id ho5; subst e5; obtain ⟨ao6, cap6, e6, -⟩ := _root_.id ho6; subst e6; clear ho5 ho6; replace hb9 := hide hb9)
            go_ret
            exact ⟨rfl, (Q8.out.low hlo.out).trans (hb9.out.mono (Q8.out.low hlo.out).size)⟩
          · have d1 := hb1.out
            have d2 := hb2.out
            have hbu : Hid (D1.P.busy = true) := hide i3
            clear i3
            go_wp2_with (go_at_call 25; refine (ndPlace_c p B _ c id _ D1 _ Q8.out.n (by omega) true hbu op8 hop8 Ls8 hLs8 As8 hAs8).mono ?_; rintro e w9 ⟨v5, v6, rfl, g5, g6, ho5, ho6, -, -, hb9⟩; obtain ⟨ao5, cap5, e5, -⟩ := _root_.id ho5; subst e5; obtain ⟨ao6, cap6, e6, -⟩ := _root_.id ho6; subst e6; clear ho5 ho6; replace hb9 := hide hb9)
            go_ret
            exact ⟨rfl, (Q8.out.low hlo.out).trans (hb9.out.mono (Q8.out.low hlo.out).size)⟩
    · have htk : tkOk c id y.l = false := by unfold tkOk; rw [hzl]; simp [eb]
      obtain ⟨m1, m2, m3⟩ := cmpF eb
      replace eb := hide eb
      clear hzl
      as_aux_lemma =>
        go_upto_region 5 with (go_at_call 27; refine (refCheck_c c.n c.bl c.tt c.cs c.cy c.cc c.cu c.ct c.cp y.l.k y.l.a y.l.b y.l.q y.l.s y.l.w y.l.r y.l.n y.l.o y.l.h y.l.d _ 0 hz).mono ?_; rintro e w7 ⟨rfl, hb7⟩; have Q4 := hide (Q2.out.below hb7); have hz4 := hide (hz2.out.below hb7); clear hb7 c0 c1 c2 c3 c4 c5 c6 c7 c8 a0 a1 a2 a3 a4 a5 a6 a7 a8 a9 a10 a11 a12 a13 a14 a15 a16 a17 lc la; obtain ⟨lc, xc⟩ := bz_get Q4.out.x (k := kc) (o := cfR c) (by simp); obtain ⟨c0, c1, c2, c3, c4, c5, c6, c7, c8⟩ := cf_at xc; obtain ⟨la, xa⟩ := bz_get Q4.out.x (k := ka) (o := actsO y) (by simp); obtain ⟨a0, a1, a2, a3, a4, a5, a6, a7, a8, a9, a10, a11, a12, a13, a14, a15, a16, a17⟩ := acts_at xa; clear xc xa)
        clear Q2 hz2
        have hn := tk_no (c := c) (id := id) (D := nd0) (l := y.l) (d0 := y.d0) (d1 := y.d1) htk
        obtain ⟨op7, hop7⟩ : ∃ x, Hid (nd0.P.op = x) := ⟨_, hide rfl⟩
        go_wp2_with fail
        go_at_call 17
        refine (ndTake_c p B _ c id _ nd0 y.l y.d0 y.d1 y.d2 _ Q4.out.n (hide (hT.out.lowB (Q4.out.low hlo.out))) (by decide) hlk.out i64_0 [] (hide hn.1) [] (hide hn.2.1)).mono ?_
        rintro e w5 ⟨v1, v2, rfl, F5, g1, g2, hO⟩
        obtain ⟨u1, u2, e1, -⟩ := _root_.id hO.own
        obtain ⟨u3, u4, e2, -⟩ := _root_.id hO.dn
        have e1' : v1 = .slice u1 0 u2 := e1
        have e2' : v2 = .slice u3 0 u4 := e2
        subst e1' e2'
        clear e1 e2
        have hnd := hO.nd
        rw [hn.2.2] at hnd
        have Q5 := hide ((Q4.out.step hnd hO.st).new (outR (.slice u1 0 u2) (.slice u3 0 u4)))
        have hz5 := hide ((hz4.out.fr hO.st.fr hn0.out).below (w' := w5.alloc (outR (.slice u1 0 u2) (.slice u3 0 u4))) ((Below.refl _ _).alloc (Nat.le_refl _) _))
        clear hn hnd hO hz4 Q4
        clear c0 c1 c2 c3 c4 c5 c6 c7 c8 a0 a1 a2 a3 a4 a5 a6 a7 a8 a9 a10 a11 a12 a13 a14 a15 a16 a17 lc la
        go_upto_region 6 with fail
        obtain ⟨V5, hV5⟩ : ∃ V, w5.alloc (outR (.slice u1 0 u2) (.slice u3 0 u4)) = V := ⟨_, rfl⟩
        rw [hV5] at Q5 hz5
        dsimp only [outR] at hV5
        rw [hV5]
        clear hV5
        obtain ⟨k5, hk5⟩ : ∃ k, Hid (w5.heap.size = k) := ⟨_, hide rfl⟩
        rw [hk5.out] at Q5
        rw [hk5.out]
        obtain ⟨l5, x5⟩ := bz_get Q5.out.x (k := k5) (o := outR (.slice u1 0 u2) (.slice u3 0 u4)) (by simp)
        obtain ⟨r0, r1, -⟩ := out_at x5
        clear x5
        obtain ⟨bu, hbu⟩ : ∃ x, Hid (nd0.P.busy = x) := ⟨_, hide rfl⟩
        have hbf : bu = false := hbu.out.symm
        have hopz : op7 = op30 := hop7.out.symm
        subst hbf hopz
        have hall : allC nd0.C = [] := allC_nil
        go_wp2_with fail
        go_at_call 25
        refine (ndPlace_c p B _ c id _ nd0 _ Q5.out.n (by decide) false hbu op30 hop7 [] (hide hall) [] (hide rfl)).mono ?_
        rintro e w6 ⟨v5, v6, rfl, g5, g6, ho5, ho6, -, -, hb6⟩
        obtain ⟨ao5, cap5, e5, -⟩ := _root_.id ho5
        obtain ⟨ao6, cap6, e6, -⟩ := _root_.id ho6
        subst e5 e6
        have Q6 := hide (Q5.out.below hb6)
        have hz6 := hide (hz5.out.below hb6)
        replace ho5 := hide ho5
        replace ho6 := hide ho6
        clear hb6 hz5 Q5 hall r0 r1 l5
        go_wp2_with fail
        go_at_call 26
        refine (rnPlaceZ_c q c id _ n0 hz6.out).mono ?_
        rintro e w7 ⟨v7, v8, rfl, g7, g8, ho7, ho8, hb7⟩
        obtain ⟨ao7, cap7, e7, -⟩ := _root_.id ho7
        obtain ⟨ao8, cap8, e8, -⟩ := _root_.id ho8
        subst e7 e8
        have Q7 := hide (Q6.out.below hb7)
        have q5 := hide (ho5.out.below hb7)
        have q6 := hide (ho6.out.below hb7)
        replace ho7 := hide ho7
        replace ho8 := hide ho8
        clear hb7 Q6 hz6
        go_wp2_with fail
        go_at_call 24
        refine (sameP_c _ _ _ _ false op30 g5 g7 g6 g8 [] [] _ q5.out.view ho7.out.view q6.out.view ho8.out.view).mono ?_
        rintro e w8 ⟨rfl, hb8⟩
        have Q9 := hide (Q7.out.below hb8)
        clear hb8 Q7 q5 q6 ho7 ho8 ho5 ho6
        go_upto_region 8 with fail
        replace Q9 := hide (Q9.out.sub (K' := [(ka, actsO y), (kc, cfR c)]) (fun x hx => List.mem_cons_of_mem _ hx))
        as_aux_lemma =>
          obtain ⟨b1, hb1⟩ : ∃ b1, Hid (decide (0 ≤ y.op.b) = b1) := ⟨_, hide rfl⟩
          obtain ⟨b2, hb2⟩ : ∃ b2, Hid (decide (y.op.b < c.bl) = b2) := ⟨_, hide rfl⟩
          obtain ⟨i1, i2, i3⟩ := nt_iss c id y.op
          rw [hb1.out, hb2.out] at i1 i3
          obtain ⟨D1, hD1⟩ : ∃ D1, nxIs c id nd0 y.op = D1 := ⟨_, rfl⟩
          rw [hD1] at i2 i3
          obtain ⟨L1, hL1⟩ : ∃ L, Hid (isL c id nd0 y.op y.d0 y.d1 = L) := ⟨_, hide rfl⟩
          obtain ⟨M1, hM1⟩ : ∃ L, Hid (isN c id nd0 y.op = L) := ⟨_, hide rfl⟩
          obtain ⟨M2, hM2⟩ : ∃ L, Hid (isN c id D1 y.op = L) := ⟨_, hide rfl⟩
          have hL2 := hide (isL_no (id := id) (d0 := y.d0) (d1 := y.d1) i2).1
          have hD2 := hide (isL_no (id := id) (d0 := 0) (d1 := 0) i2).2
          replace i1 := hide i1
          replace i2 := hide i2
          obtain ⟨op8, hop8⟩ : ∃ x, Hid (D1.P.op = x) := ⟨_, hide rfl⟩
          obtain ⟨Ls8, hLs8⟩ : ∃ x, Hid (allC D1.C = x) := ⟨_, hide rfl⟩
          obtain ⟨As8, hAs8⟩ : ∃ x, Hid (D1.T.A = x) := ⟨_, hide rfl⟩
          have hfp := field_p1
          obtain ⟨lc, xc⟩ := bz_get Q9.out.x (k := kc) (o := cfR c) (by simp)
          obtain ⟨c0, c1, c2, c3, c4, c5, c6, c7, c8⟩ := cf_at xc
          obtain ⟨la, xa⟩ := bz_get Q9.out.x (k := ka) (o := actsO y) (by simp)
          obtain ⟨a0, a1, a2, a3, a4, a5, a6, a7, a8, a9, a10, a11, a12, a13, a14, a15, a16, a17⟩ := acts_at xa
          clear xc xa
          go_wp2_with fail
          go_at_call 15
          refine (ndIssue_c p B _ c id _ nd0 y.op y.d0 y.d1 y.d2 _ Q9.out.n (by decide) (b1 && b2) i1 L1 hL1 M1 hM1).mono ?_
          rintro e w5 ⟨v1, v2, rfl, F5, g1, g2, hO⟩
          obtain ⟨u1, u2, e1, -⟩ := _root_.id hO.own
          obtain ⟨u3, u4, e2, -⟩ := _root_.id hO.dn
          subst e1 e2
          have hnd := hO.nd
          rw [hD1] at hnd
          have Q5 := hide ((Q9.out.step hnd hO.st).new (outR (.slice u1 L1.length u2) (.slice u3 M1.length u4)))
          clear hO hnd
          clear c0 c1 c2 c3 c4 c5 c6 c7 c8 a0 a1 a2 a3 a4 a5 a6 a7 a8 a9 a10 a11 a12 a13 a14 a15 a16 a17 lc la
          go_upto_region 9 with fail
          obtain ⟨V5, hV5⟩ : ∃ V, w5.alloc (outR (.slice u1 L1.length u2) (.slice u3 M1.length u4)) = V := ⟨_, rfl⟩
          rw [hV5] at Q5
          dsimp only [outR] at hV5
          rw [hV5]
          clear hV5
          replace Q5 := hide (Q5.out.sub (K' := [(ka, actsO y), (kc, cfR c)]) (fun x hx => List.mem_cons_of_mem _ hx))
          obtain ⟨lc, xc⟩ := bz_get Q5.out.x (k := kc) (o := cfR c) (by simp)
          obtain ⟨c0, c1, c2, c3, c4, c5, c6, c7, c8⟩ := cf_at xc
          obtain ⟨la, xa⟩ := bz_get Q5.out.x (k := ka) (o := actsO y) (by simp)
          obtain ⟨a0, a1, a2, a3, a4, a5, a6, a7, a8, a9, a10, a11, a12, a13, a14, a15, a16, a17⟩ := acts_at xa
          clear xc xa
          go_wp2_with fail
          go_at_call 15
          refine (ndIssue_c p B _ c id _ D1 y.op y.d0 y.d1 y.d2 _ Q5.out.n (by decide) false i2 [] hL2 M2 hM2).mono ?_
          rintro e w6 ⟨v3, v4, rfl, F6, g3, g4, hO⟩
          obtain ⟨u5, u6, e1, -⟩ := _root_.id hO.own
          obtain ⟨u7, u8, e2, -⟩ := _root_.id hO.dn
          have e1' : v3 = .slice u5 0 u6 := e1
          subst e1' e2
          clear e1
          have hnd := hO.nd
          rw [hD2.out] at hnd
          have Q8 := hide ((Q5.out.step hnd hO.st).new (outR (.slice u5 0 u6) (.slice u7 M2.length u8)))
          clear hO hnd Q5
          clear c0 c1 c2 c3 c4 c5 c6 c7 c8 a0 a1 a2 a3 a4 a5 a6 a7 a8 a9 a10 a11 a12 a13 a14 a15 a16 a17 lc la
          go_upto_region 10 with fail
          obtain ⟨V8, hV8⟩ : ∃ V, w6.alloc (outR (.slice u5 0 u6) (.slice u7 M2.length u8)) = V := ⟨_, rfl⟩
          rw [hV8] at Q8
          dsimp only [outR] at hV8
          rw [hV8]
          clear hV8
          obtain ⟨k8, hk8⟩ : ∃ k, Hid (w6.heap.size = k) := ⟨_, hide rfl⟩
          rw [hk8.out] at Q8
          rw [hk8.out]
          obtain ⟨l8, x8⟩ := bz_get Q8.out.x (k := k8) (o := outR (.slice u5 0 u6) (.slice u7 M2.length u8)) (by simp)
          obtain ⟨r0, r1, -⟩ := out_at x8
          clear x8
          obtain ⟨lc, xc⟩ := bz_get Q8.out.x (k := kc) (o := cfR c) (by simp)
          obtain ⟨c0, c1, c2, c3, c4, c5, c6, c7, c8⟩ := cf_at xc
          obtain ⟨la, xa⟩ := bz_get Q8.out.x (k := ka) (o := actsO y) (by simp)
          obtain ⟨a0, a1, a2, a3, a4, a5, a6, a7, a8, a9, a10, a11, a12, a13, a14, a15, a16, a17⟩ := acts_at xa
          clear xc xa
          cases b1
          · have d1 := hb1.out
            have hbu : Hid (D1.P.busy = false) := hide i3
            clear i3
            go_wp2_with (go_at_call 25; refine (ndPlace_c p B _ c id _ D1 _ Q8.out.n (by omega) false hbu op8 hop8 Ls8 hLs8 As8 hAs8).mono ?_; rintro e w9 ⟨v5, v6, rfl, g5, g6, ho5, ho6, -, -, hb9⟩; obtain ⟨ao5, cap5, e5, -⟩ := _root_.id ho5; subst e5; obtain ⟨ao6, cap6, e6, -⟩ := _root_.id ho6; subst e6; clear ho5 ho6; replace hb9 := hide hb9)
            go_ret
            exact ⟨rfl, (Q8.out.low hlo.out).trans (hb9.out.mono (Q8.out.low hlo.out).size)⟩
          · cases b2
            · have d1 := hb1.out
              have d2 := hb2.out
              have hbu : Hid (D1.P.busy = false) := hide i3
              clear i3
              go_wp2_with (go_at_call 25; refine (ndPlace_c p B _ c id _ D1 _ Q8.out.n (by omega) false hbu op8 hop8 Ls8 hLs8 As8 hAs8).mono ?_; rintro e w9 ⟨v5, v6, rfl, g5, g6, ho5, ho6, -, -, hb9⟩; obtain ⟨ao5, cap5, e5, -⟩ := _root_.id ho5; subst e5; obtain ⟨ao6, cap6, e6, -⟩ := _root_.id ho6; subst e6; clear ho5 ho6; replace hb9 := hide hb9)
              go_ret
              exact ⟨rfl, (Q8.out.low hlo.out).trans (hb9.out.mono (Q8.out.low hlo.out).size)⟩
            · have d1 := hb1.out
              have d2 := hb2.out
              have hbu : Hid (D1.P.busy = true) := hide i3
              clear i3
              go_wp2_with (go_at_call 25; refine (ndPlace_c p B _ c id _ D1 _ Q8.out.n (by omega) true hbu op8 hop8 Ls8 hLs8 As8 hAs8).mono ?_; rintro e w9 ⟨v5, v6, rfl, g5, g6, ho5, ho6, -, -, hb9⟩; obtain ⟨ao5, cap5, e5, -⟩ := _root_.id ho5; subst e5; obtain ⟨ao6, cap6, e6, -⟩ := _root_.id ho6; subst e6; clear ho5 ho6; replace hb9 := hide hb9)
              go_ret
              exact ⟨rfl, (Q8.out.low hlo.out).trans (hb9.out.mono (Q8.out.low hlo.out).size)⟩
  · have htk : tkOk c id y.l = false := by unfold tkOk; rw [hzl]; simp [ez]
    obtain ⟨m1, m2, m3⟩ := cmpF ez
    replace ez := hide ez
    clear hzl
    as_aux_lemma =>
      go_upto_region 5 with (go_at_call 27; refine (refCheck_c c.n c.bl c.tt c.cs c.cy c.cc c.cu c.ct c.cp y.l.k y.l.a y.l.b y.l.q y.l.s y.l.w y.l.r y.l.n y.l.o y.l.h y.l.d _ z hz).mono ?_; rintro e w7 ⟨rfl, hb7⟩; have Q4 := hide (Q2.out.below hb7); have hz4 := hide (hz2.out.below hb7); clear hb7 c0 c1 c2 c3 c4 c5 c6 c7 c8 a0 a1 a2 a3 a4 a5 a6 a7 a8 a9 a10 a11 a12 a13 a14 a15 a16 a17 lc la; obtain ⟨lc, xc⟩ := bz_get Q4.out.x (k := kc) (o := cfR c) (by simp); obtain ⟨c0, c1, c2, c3, c4, c5, c6, c7, c8⟩ := cf_at xc; obtain ⟨la, xa⟩ := bz_get Q4.out.x (k := ka) (o := actsO y) (by simp); obtain ⟨a0, a1, a2, a3, a4, a5, a6, a7, a8, a9, a10, a11, a12, a13, a14, a15, a16, a17⟩ := acts_at xa; clear xc xa)
      clear Q2 hz2
      have hn := tk_no (c := c) (id := id) (D := nd0) (l := y.l) (d0 := y.d0) (d1 := y.d1) htk
      obtain ⟨op7, hop7⟩ : ∃ x, Hid (nd0.P.op = x) := ⟨_, hide rfl⟩
      go_wp2_with fail
      go_at_call 17
      refine (ndTake_c p B _ c id _ nd0 y.l y.d0 y.d1 y.d2 _ Q4.out.n (hide (hT.out.lowB (Q4.out.low hlo.out))) (by decide) hlk.out i64_0 [] (hide hn.1) [] (hide hn.2.1)).mono ?_
      rintro e w5 ⟨v1, v2, rfl, F5, g1, g2, hO⟩
      obtain ⟨u1, u2, e1, -⟩ := _root_.id hO.own
      obtain ⟨u3, u4, e2, -⟩ := _root_.id hO.dn
      have e1' : v1 = .slice u1 0 u2 := e1
      have e2' : v2 = .slice u3 0 u4 := e2
      subst e1' e2'
      clear e1 e2
      have hnd := hO.nd
      rw [hn.2.2] at hnd
      have Q5 := hide ((Q4.out.step hnd hO.st).new (outR (.slice u1 0 u2) (.slice u3 0 u4)))
      have hz5 := hide ((hz4.out.fr hO.st.fr hn0.out).below (w' := w5.alloc (outR (.slice u1 0 u2) (.slice u3 0 u4))) ((Below.refl _ _).alloc (Nat.le_refl _) _))
      clear hn hnd hO hz4 Q4
      clear c0 c1 c2 c3 c4 c5 c6 c7 c8 a0 a1 a2 a3 a4 a5 a6 a7 a8 a9 a10 a11 a12 a13 a14 a15 a16 a17 lc la
      go_upto_region 6 with fail
      obtain ⟨V5, hV5⟩ : ∃ V, w5.alloc (outR (.slice u1 0 u2) (.slice u3 0 u4)) = V := ⟨_, rfl⟩
      rw [hV5] at Q5 hz5
      dsimp only [outR] at hV5
      rw [hV5]
      clear hV5
      obtain ⟨k5, hk5⟩ : ∃ k, Hid (w5.heap.size = k) := ⟨_, hide rfl⟩
      rw [hk5.out] at Q5
      rw [hk5.out]
      obtain ⟨l5, x5⟩ := bz_get Q5.out.x (k := k5) (o := outR (.slice u1 0 u2) (.slice u3 0 u4)) (by simp)
      obtain ⟨r0, r1, -⟩ := out_at x5
      clear x5
      obtain ⟨bu, hbu⟩ : ∃ x, Hid (nd0.P.busy = x) := ⟨_, hide rfl⟩
      have hbf : bu = false := hbu.out.symm
      have hopz : op7 = op30 := hop7.out.symm
      subst hbf hopz
      have hall : allC nd0.C = [] := allC_nil
      go_wp2_with fail
      go_at_call 25
      refine (ndPlace_c p B _ c id _ nd0 _ Q5.out.n (by decide) false hbu op30 hop7 [] (hide hall) [] (hide rfl)).mono ?_
      rintro e w6 ⟨v5, v6, rfl, g5, g6, ho5, ho6, -, -, hb6⟩
      obtain ⟨ao5, cap5, e5, -⟩ := _root_.id ho5
      obtain ⟨ao6, cap6, e6, -⟩ := _root_.id ho6
      subst e5 e6
      have Q6 := hide (Q5.out.below hb6)
      have hz6 := hide (hz5.out.below hb6)
      replace ho5 := hide ho5
      replace ho6 := hide ho6
      clear hb6 hz5 Q5 hall r0 r1 l5
      go_wp2_with fail
      go_at_call 26
      refine (rnPlaceZ_c q c id _ n0 hz6.out).mono ?_
      rintro e w7 ⟨v7, v8, rfl, g7, g8, ho7, ho8, hb7⟩
      obtain ⟨ao7, cap7, e7, -⟩ := _root_.id ho7
      obtain ⟨ao8, cap8, e8, -⟩ := _root_.id ho8
      subst e7 e8
      have Q7 := hide (Q6.out.below hb7)
      have q5 := hide (ho5.out.below hb7)
      have q6 := hide (ho6.out.below hb7)
      replace ho7 := hide ho7
      replace ho8 := hide ho8
      clear hb7 Q6 hz6
      go_wp2_with fail
      go_at_call 24
      refine (sameP_c _ _ _ _ false op30 g5 g7 g6 g8 [] [] _ q5.out.view ho7.out.view q6.out.view ho8.out.view).mono ?_
      rintro e w8 ⟨rfl, hb8⟩
      have Q9 := hide (Q7.out.below hb8)
      clear hb8 Q7 q5 q6 ho7 ho8 ho5 ho6
      go_upto_region 8 with fail
      replace Q9 := hide (Q9.out.sub (K' := [(ka, actsO y), (kc, cfR c)]) (fun x hx => List.mem_cons_of_mem _ hx))
      as_aux_lemma =>
        obtain ⟨b1, hb1⟩ : ∃ b1, Hid (decide (0 ≤ y.op.b) = b1) := ⟨_, hide rfl⟩
        obtain ⟨b2, hb2⟩ : ∃ b2, Hid (decide (y.op.b < c.bl) = b2) := ⟨_, hide rfl⟩
        obtain ⟨i1, i2, i3⟩ := nt_iss c id y.op
        rw [hb1.out, hb2.out] at i1 i3
        obtain ⟨D1, hD1⟩ : ∃ D1, nxIs c id nd0 y.op = D1 := ⟨_, rfl⟩
        rw [hD1] at i2 i3
        obtain ⟨L1, hL1⟩ : ∃ L, Hid (isL c id nd0 y.op y.d0 y.d1 = L) := ⟨_, hide rfl⟩
        obtain ⟨M1, hM1⟩ : ∃ L, Hid (isN c id nd0 y.op = L) := ⟨_, hide rfl⟩
        obtain ⟨M2, hM2⟩ : ∃ L, Hid (isN c id D1 y.op = L) := ⟨_, hide rfl⟩
        have hL2 := hide (isL_no (id := id) (d0 := y.d0) (d1 := y.d1) i2).1
        have hD2 := hide (isL_no (id := id) (d0 := 0) (d1 := 0) i2).2
        replace i1 := hide i1
        replace i2 := hide i2
        obtain ⟨op8, hop8⟩ : ∃ x, Hid (D1.P.op = x) := ⟨_, hide rfl⟩
        obtain ⟨Ls8, hLs8⟩ : ∃ x, Hid (allC D1.C = x) := ⟨_, hide rfl⟩
        obtain ⟨As8, hAs8⟩ : ∃ x, Hid (D1.T.A = x) := ⟨_, hide rfl⟩
        have hfp := field_p1
        obtain ⟨lc, xc⟩ := bz_get Q9.out.x (k := kc) (o := cfR c) (by simp)
        obtain ⟨c0, c1, c2, c3, c4, c5, c6, c7, c8⟩ := cf_at xc
        obtain ⟨la, xa⟩ := bz_get Q9.out.x (k := ka) (o := actsO y) (by simp)
        obtain ⟨a0, a1, a2, a3, a4, a5, a6, a7, a8, a9, a10, a11, a12, a13, a14, a15, a16, a17⟩ := acts_at xa
        clear xc xa
        go_wp2_with fail
        go_at_call 15
        refine (ndIssue_c p B _ c id _ nd0 y.op y.d0 y.d1 y.d2 _ Q9.out.n (by decide) (b1 && b2) i1 L1 hL1 M1 hM1).mono ?_
        rintro e w5 ⟨v1, v2, rfl, F5, g1, g2, hO⟩
        obtain ⟨u1, u2, e1, -⟩ := _root_.id hO.own
        obtain ⟨u3, u4, e2, -⟩ := _root_.id hO.dn
        subst e1 e2
        have hnd := hO.nd
        rw [hD1] at hnd
        have Q5 := hide ((Q9.out.step hnd hO.st).new (outR (.slice u1 L1.length u2) (.slice u3 M1.length u4)))
        clear hO hnd
        clear c0 c1 c2 c3 c4 c5 c6 c7 c8 a0 a1 a2 a3 a4 a5 a6 a7 a8 a9 a10 a11 a12 a13 a14 a15 a16 a17 lc la
        go_upto_region 9 with fail
        obtain ⟨V5, hV5⟩ : ∃ V, w5.alloc (outR (.slice u1 L1.length u2) (.slice u3 M1.length u4)) = V := ⟨_, rfl⟩
        rw [hV5] at Q5
        dsimp only [outR] at hV5
        rw [hV5]
        clear hV5
        replace Q5 := hide (Q5.out.sub (K' := [(ka, actsO y), (kc, cfR c)]) (fun x hx => List.mem_cons_of_mem _ hx))
        obtain ⟨lc, xc⟩ := bz_get Q5.out.x (k := kc) (o := cfR c) (by simp)
        obtain ⟨c0, c1, c2, c3, c4, c5, c6, c7, c8⟩ := cf_at xc
        obtain ⟨la, xa⟩ := bz_get Q5.out.x (k := ka) (o := actsO y) (by simp)
        obtain ⟨a0, a1, a2, a3, a4, a5, a6, a7, a8, a9, a10, a11, a12, a13, a14, a15, a16, a17⟩ := acts_at xa
        clear xc xa
        go_wp2_with fail
        go_at_call 15
        refine (ndIssue_c p B _ c id _ D1 y.op y.d0 y.d1 y.d2 _ Q5.out.n (by decide) false i2 [] hL2 M2 hM2).mono ?_
        rintro e w6 ⟨v3, v4, rfl, F6, g3, g4, hO⟩
        obtain ⟨u5, u6, e1, -⟩ := _root_.id hO.own
        obtain ⟨u7, u8, e2, -⟩ := _root_.id hO.dn
        have e1' : v3 = .slice u5 0 u6 := e1
        subst e1' e2
        clear e1
        have hnd := hO.nd
        rw [hD2.out] at hnd
        have Q8 := hide ((Q5.out.step hnd hO.st).new (outR (.slice u5 0 u6) (.slice u7 M2.length u8)))
        clear hO hnd Q5
        clear c0 c1 c2 c3 c4 c5 c6 c7 c8 a0 a1 a2 a3 a4 a5 a6 a7 a8 a9 a10 a11 a12 a13 a14 a15 a16 a17 lc la
        go_upto_region 10 with fail
        obtain ⟨V8, hV8⟩ : ∃ V, w6.alloc (outR (.slice u5 0 u6) (.slice u7 M2.length u8)) = V := ⟨_, rfl⟩
        rw [hV8] at Q8
        dsimp only [outR] at hV8
        rw [hV8]
        clear hV8
        obtain ⟨k8, hk8⟩ : ∃ k, Hid (w6.heap.size = k) := ⟨_, hide rfl⟩
        rw [hk8.out] at Q8
        rw [hk8.out]
        obtain ⟨l8, x8⟩ := bz_get Q8.out.x (k := k8) (o := outR (.slice u5 0 u6) (.slice u7 M2.length u8)) (by simp)
        obtain ⟨r0, r1, -⟩ := out_at x8
        clear x8
        obtain ⟨lc, xc⟩ := bz_get Q8.out.x (k := kc) (o := cfR c) (by simp)
        obtain ⟨c0, c1, c2, c3, c4, c5, c6, c7, c8⟩ := cf_at xc
        obtain ⟨la, xa⟩ := bz_get Q8.out.x (k := ka) (o := actsO y) (by simp)
        obtain ⟨a0, a1, a2, a3, a4, a5, a6, a7, a8, a9, a10, a11, a12, a13, a14, a15, a16, a17⟩ := acts_at xa
        clear xc xa
        cases b1
        · have d1 := hb1.out
          have hbu : Hid (D1.P.busy = false) := hide i3
          clear i3
          go_wp2_with (go_at_call 25; refine (ndPlace_c p B _ c id _ D1 _ Q8.out.n (by omega) false hbu op8 hop8 Ls8 hLs8 As8 hAs8).mono ?_; rintro e w9 ⟨v5, v6, rfl, g5, g6, ho5, ho6, -, -, hb9⟩; obtain ⟨ao5, cap5, e5, -⟩ := _root_.id ho5; subst e5; obtain ⟨ao6, cap6, e6, -⟩ := _root_.id ho6; subst e6; clear ho5 ho6; replace hb9 := hide hb9)
          go_ret
          exact ⟨rfl, (Q8.out.low hlo.out).trans (hb9.out.mono (Q8.out.low hlo.out).size)⟩
        · cases b2
          · have d1 := hb1.out
            have d2 := hb2.out
            have hbu : Hid (D1.P.busy = false) := hide i3
            clear i3
            go_wp2_with (go_at_call 25; refine (ndPlace_c p B _ c id _ D1 _ Q8.out.n (by omega) false hbu op8 hop8 Ls8 hLs8 As8 hAs8).mono ?_; rintro e w9 ⟨v5, v6, rfl, g5, g6, ho5, ho6, -, -, hb9⟩; obtain ⟨ao5, cap5, e5, -⟩ := _root_.id ho5; subst e5; obtain ⟨ao6, cap6, e6, -⟩ := _root_.id ho6; subst e6; clear ho5 ho6; replace hb9 := hide hb9)
            go_ret
            exact ⟨rfl, (Q8.out.low hlo.out).trans (hb9.out.mono (Q8.out.low hlo.out).size)⟩
          · have d1 := hb1.out
            have d2 := hb2.out
            have hbu : Hid (D1.P.busy = true) := hide i3
            clear i3
            go_wp2_with (go_at_call 25; refine (ndPlace_c p B _ c id _ D1 _ Q8.out.n (by omega) true hbu op8 hop8 Ls8 hLs8 As8 hAs8).mono ?_; rintro e w9 ⟨v5, v6, rfl, g5, g6, ho5, ho6, -, -, hb9⟩; obtain ⟨ao5, cap5, e5, -⟩ := _root_.id ho5; subst e5; obtain ⟨ao6, cap6, e6, -⟩ := _root_.id ho6; subst e6; clear ho5 ho6; replace hb9 := hide hb9)
            go_ret
            exact ⟨rfl, (Q8.out.low hlo.out).trans (hb9.out.mono (Q8.out.low hlo.out).size)⟩
theorem NodeNothing_walk (n bl tt cs cy cc cu ct cp : Int) (id : Int) (yk ob : Int) (ow : Bool) (ov lk la lb lq ls lw : Int) (lr : Bool) (ln : Int) (lo lh : Bool) (ld d0 d1 d2 : Int) (w : World) (hT : Hid (Tab w)) (hlk : I64 lk) : Calls Tryz.prog 8 #[.agg #[.int .i64 n, .int .i64 bl, .int .i64 tt, .int .i64 cs, .int .i64 cy, .int .i64 cc, .int .i64 cu, .int .i64 ct, .int .i64 cp], .int .i64 id, .agg #[.int .i64 yk, .int .i64 ob, .bool ow, .int .i64 ov, .int .i64 lk, .int .i64 la, .int .i64 lb, .int .i64 lq, .int .i64 ls, .int .i64 lw, .bool lr, .int .i64 ln, .bool lo, .bool lh, .int .i64 ld, .int .i64 d0, .int .i64 d1, .int .i64 d2]] w fun e w' => e = .returned (.bool true) ∧ Below w.heap.size w w' := by
  by_cases h : cfgZ n bl tt cs cy cc cu ct cp = 0 ∧ nodeB id n = true
  · exact nothingOk_walk ⟨n, bl, tt, cs, cy, cc, cu, ct, cp⟩ id ⟨yk, ⟨ob, ow, ov⟩, ⟨lk, la, lb, lq, ls, lw, lr, ln, lo, lh, ld⟩, d0, d1, d2⟩ w hT (hide hlk) (hide h.1) (hide h.2)
  · exact nothingNo_walk ⟨n, bl, tt, cs, cy, cc, cu, ct, cp⟩ id ⟨yk, ⟨ob, ow, ov⟩, ⟨lk, la, lb, lq, ls, lw, lr, ln, lo, lh, ld⟩, d0, d1, d2⟩ w hT (fun e => h ⟨e.1, e.2.1⟩)
end Go.Proofs.YtoenjdnccgmhoaaGreatDoor
