/- layer 15: L15Loads, put together. -/
import Derived.Test.YtoenjdnccgmhoaaGreatDoorB43
import Derived.Test.YtoenjdnccgmhoaaGreatDoorB44
namespace Go.Proofs.YtoenjdnccgmhoaaGreatDoor
open Go.ChangeShapes Go.WideShapes Go.ChangeAt Go.RowKit
set_option linter.unusedSimpArgs false
set_option linter.unusedVariables false
set_option maxRecDepth 10000
attribute [local go_sem, local simp] over_const setCell_drewN alloc_drewN Over.cell Over.frozen lt_s1 lt_s2 lt_s3 le_s0 le_s1 le_s2 le_s3 eq_s0 eq_s1 eq_s2 qe_s0
theorem field_pl (w : World) (a d : Option Addr) (n c m e : Nat) (b y : Bool) (x z : Int) : (Instr.field 62 (.agg #[.slice a n c, .bool b, .int .i64 x, .bool y, .int .i64 z, .slice d m e]) 1).run Tryz.prog w = .ok (.bool b) w := by kernel_rfl
set_option maxHeartbeats 8000000 in
theorem loadsNo_walk (c : Cf) (op : Op3) (b : Bun) (w : World) (hT : Hid (Tab w)) (hno : ¬ (cfgZ c.n c.bl c.tt c.cs c.cy c.cc c.cu c.ct c.cp = 0 ∧ nodeB 0 c.n = true ∧ (0 : Nat) ≤ 200)) : Calls Tryz.prog 9 #[.agg #[.int .i64 c.n, .int .i64 c.bl, .int .i64 c.tt, .int .i64 c.cs, .int .i64 c.cy, .int .i64 c.cc, .int .i64 c.cu, .int .i64 c.ct, .int .i64 c.cp], .agg #[.int .i64 op.b, .bool op.w, .int .i64 op.v], .agg #[.int .i64 b.n, .bool b.o, .bool b.h, .int .i64 b.d]] w fun e w' => e = .returned (.bool true) ∧ Below w.heap.size w w' := by
  replace hno := hide hno
  go_enter Tryz.func9, Tryz.ntmps9
  go_upto_region 1 with fail
  refine name_world ?_
  intro V hV
  have hB : Hid (Below w.heap.size w V) := by rw [← hV]; exact hide (by all_goals exact belEnd)
  have hX : Hid (V.heap[w.heap.size]? = some (cfR c) ∧ V.heap[w.heap.size + 1]? = some (opR op) ∧ V.heap[w.heap.size + 1 + 1]? = some (bunR b) ∧ V.heap.size = w.heap.size + 1 + 1 + 1) := by
    have h1 := heap_alloc_new w (cfR c)
    have h2 := heap_alloc_new (w.alloc (cfR c)) (opR op)
    have h3 := heap_alloc_new ((w.alloc (cfR c)).alloc (opR op)) (bunR b)
    simp only [World.size_alloc] at h2 h3
    rw [← hV]
    exact hide ⟨(Below.heap_alloc _ _ _ (by first | (simp; done) | (simp; omega))).trans ((Below.heap_alloc _ _ _ (by first | (simp; done) | (simp; omega))).trans h1), (Below.heap_alloc _ _ _ (by first | (simp; done) | (simp; omega))).trans h2, h3, by simp⟩
  clear hV
  obtain ⟨kb, hkb⟩ : ∃ k, Hid (w.heap.size + 1 + 1 = k) := ⟨_, hide rfl⟩
  obtain ⟨ko, hko⟩ : ∃ k, Hid (w.heap.size + 1 = k) := ⟨_, hide rfl⟩
  obtain ⟨kc, hkc⟩ : ∃ k, Hid (w.heap.size = k) := ⟨_, hide rfl⟩
  rw [hkb.out, hko.out, hkc.out] at hX
  rw [hkb.out, hko.out, hkc.out]
  obtain ⟨xc, xo, xb, xs⟩ := hX.out
  replace xs := hide xs
  obtain ⟨c0, c1, c2, c3, c4, c5, c6, c7, c8⟩ := cf_at xc
  have o0 : V.cell? ⟨ko, 0, none⟩ = some (.int .i64 op.b) := cell_of_row _ _ _ _ _ _ xo
  have o1 : V.cell? ⟨ko, 1, none⟩ = some (.bool op.w) := cell_of_row _ _ _ _ _ _ xo
  have o2 : V.cell? ⟨ko, 2, none⟩ = some (.int .i64 op.v) := cell_of_row _ _ _ _ _ _ xo
  have b0 : V.cell? ⟨kb, 0, none⟩ = some (.int .i64 b.n) := cell_of_row _ _ _ _ _ _ xb
  have b1 : V.cell? ⟨kb, 1, none⟩ = some (.bool b.o) := cell_of_row _ _ _ _ _ _ xb
  have b2 : V.cell? ⟨kb, 2, none⟩ = some (.bool b.h) := cell_of_row _ _ _ _ _ _ xb
  have b3 : V.cell? ⟨kb, 3, none⟩ = some (.int .i64 b.d) := cell_of_row _ _ _ _ _ _ xb
  have lc : kc < V.heap.size := (Array.getElem?_eq_some_iff.1 xc).1
  have lo : ko < V.heap.size := (Array.getElem?_eq_some_iff.1 xo).1
  have lb : kb < V.heap.size := (Array.getElem?_eq_some_iff.1 xb).1
  go_wp2_with (first | (go_at_call 11; refine (madeNo_c c 0 none 0 0 _ hno.out (by decide)).mono ?_; rintro e w1 ⟨rfl, hb1⟩; obtain ⟨x, rfl⟩ := over hb1; clear hb1; have f1 := x.upB kc; have f2 := x.upB ko; have f3 := x.upB kb) | (go_at_call 12; refine (awake15_c _ (hide (hT.out.lowB (hB.out.trans (Below.mono (B := V.heap.size) (by all_goals exact belEnd) hB.out.size))))).mono ?_; rintro e w2 ⟨rfl, hb2⟩; obtain ⟨y, rfl⟩ := over hb2; clear hb2))
  go_ret
  refine ⟨rfl, ?_⟩
  exact hB.out.trans (Below.mono (B := V.heap.size) (by all_goals exact belEnd) hB.out.size)
set_option maxHeartbeats 8000000 in
theorem loadsOk_walk (c : Cf) (op : Op3) (b : Bun) (w : World) (hT : Hid (Tab w)) (h0 : Hid (cfgZ c.n c.bl c.tt c.cs c.cy c.cc c.cu c.ct c.cp = 0)) (h1 : Hid (nodeB 0 c.n = true)) : Calls Tryz.prog 9 #[.agg #[.int .i64 c.n, .int .i64 c.bl, .int .i64 c.tt, .int .i64 c.cs, .int .i64 c.cy, .int .i64 c.cc, .int .i64 c.cu, .int .i64 c.ct, .int .i64 c.cp], .agg #[.int .i64 op.b, .bool op.w, .int .i64 op.v], .agg #[.int .i64 b.n, .bool b.o, .bool b.h, .int .i64 b.d]] w fun e w' => e = .returned (.bool true) ∧ Below w.heap.size w w' := by
  have hcf := cfOk_of h0.out h1.out
  obtain ⟨z, hz⟩ : ∃ z, Hid (letterZ c.n c.bl c.tt ⟨1, c.n, 0, op.b, 0, 0, false, ⟨b.n, b.o, b.h, b.d⟩⟩ = z) := ⟨_, hide rfl⟩
  go_enter Tryz.func9, Tryz.ntmps9
  go_upto_region 1 with fail
  refine name_world ?_
  intro V hV
  have hB : Hid (Below w.heap.size w V) := by rw [← hV]; exact hide (by all_goals exact belEnd)
  have hX : Hid (V.heap[w.heap.size]? = some (cfR c) ∧ V.heap[w.heap.size + 1]? = some (opR op) ∧ V.heap[w.heap.size + 1 + 1]? = some (bunR b) ∧ V.heap.size = w.heap.size + 1 + 1 + 1) := by
    have h1 := heap_alloc_new w (cfR c)
    have h2 := heap_alloc_new (w.alloc (cfR c)) (opR op)
    have h3 := heap_alloc_new ((w.alloc (cfR c)).alloc (opR op)) (bunR b)
    simp only [World.size_alloc] at h2 h3
    rw [← hV]
    exact hide ⟨(Below.heap_alloc _ _ _ (by first | (simp; done) | (simp; omega))).trans ((Below.heap_alloc _ _ _ (by first | (simp; done) | (simp; omega))).trans h1), (Below.heap_alloc _ _ _ (by first | (simp; done) | (simp; omega))).trans h2, h3, by simp⟩
  clear hV
  obtain ⟨kb, hkb⟩ : ∃ k, Hid (w.heap.size + 1 + 1 = k) := ⟨_, hide rfl⟩
  obtain ⟨ko, hko⟩ : ∃ k, Hid (w.heap.size + 1 = k) := ⟨_, hide rfl⟩
  obtain ⟨kc, hkc⟩ : ∃ k, Hid (w.heap.size = k) := ⟨_, hide rfl⟩
  rw [hkb.out, hko.out, hkc.out] at hX
  rw [hkb.out, hko.out, hkc.out]
  obtain ⟨xc, xo, xb, xs⟩ := hX.out
  replace xs := hide xs
  obtain ⟨c0, c1, c2, c3, c4, c5, c6, c7, c8⟩ := cf_at xc
  have o0 : V.cell? ⟨ko, 0, none⟩ = some (.int .i64 op.b) := cell_of_row _ _ _ _ _ _ xo
  have o1 : V.cell? ⟨ko, 1, none⟩ = some (.bool op.w) := cell_of_row _ _ _ _ _ _ xo
  have o2 : V.cell? ⟨ko, 2, none⟩ = some (.int .i64 op.v) := cell_of_row _ _ _ _ _ _ xo
  have b0 : V.cell? ⟨kb, 0, none⟩ = some (.int .i64 b.n) := cell_of_row _ _ _ _ _ _ xb
  have b1 : V.cell? ⟨kb, 1, none⟩ = some (.bool b.o) := cell_of_row _ _ _ _ _ _ xb
  have b2 : V.cell? ⟨kb, 2, none⟩ = some (.bool b.h) := cell_of_row _ _ _ _ _ _ xb
  have b3 : V.cell? ⟨kb, 3, none⟩ = some (.int .i64 b.d) := cell_of_row _ _ _ _ _ _ xb
  have lc : kc < V.heap.size := (Array.getElem?_eq_some_iff.1 xc).1
  have lo : ko < V.heap.size := (Array.getElem?_eq_some_iff.1 xo).1
  have lb : kb < V.heap.size := (Array.getElem?_eq_some_iff.1 xb).1
  go_upto_region 3 with (go_at_call 11; refine (madeOk_c c 0 none 0 0 _ h0 h1 (by decide)).mono ?_; rintro e w1 ⟨p, q, rfl, B, Fc, hn1, hlo1, hb1⟩; have kx : Hid (w1.heap[kc]? = some (cfR c) ∧ w1.heap[ko]? = some (opR op) ∧ w1.heap[kb]? = some (bunR b)) := hide ⟨(hb1.block _ lc).trans xc, (hb1.block _ lo).trans xo, (hb1.block _ lb).trans xb⟩; clear c0 c1 c2 c3 c4 c5 c6 c7 c8 o0 o1 o2 b0 b1 b2 b3; obtain ⟨c0, c1, c2, c3, c4, c5, c6, c7, c8⟩ := cf_at kx.out.1; have o0 : w1.cell? ⟨ko, 0, none⟩ = some (.int .i64 op.b) := cell_of_row _ _ _ _ _ _ kx.out.2.1; have b0 : w1.cell? ⟨kb, 0, none⟩ = some (.int .i64 b.n) := cell_of_row _ _ _ _ _ _ kx.out.2.2; have b1 : w1.cell? ⟨kb, 1, none⟩ = some (.bool b.o) := cell_of_row _ _ _ _ _ _ kx.out.2.2; have b2 : w1.cell? ⟨kb, 2, none⟩ = some (.bool b.h) := cell_of_row _ _ _ _ _ _ kx.out.2.2; have b3 : w1.cell? ⟨kb, 3, none⟩ = some (.int .i64 b.d) := cell_of_row _ _ _ _ _ _ kx.out.2.2; have hsz := hide hb1.size; have lc1 := Nat.lt_of_lt_of_le lc hb1.size; have lo1 := Nat.lt_of_lt_of_le lo hb1.size; have lb1 := Nat.lt_of_lt_of_le lb hb1.size; replace hn1 := hide hn1; replace hlo1 := hide hlo1; replace hb1 := hide hb1)
  refine name_world ?_
  intro V2 hV2
  have hB1 : Hid (Below w.heap.size w w1) := hide (hB.out.trans (hb1.out.mono hB.out.size))
  have hlo : Hid (∀ x, Fa p B Fc x → w.heap.size ≤ x) := hide (fun x hx => Nat.le_trans hB.out.size (hlo1.out x hx))
  have Q1 : Hid (At5 w w1 p B Fc Fc c 0 0 nd0 [(kb, bunR b), (ko, opR op), (kc, cfR c)]) := hide ⟨hn1.out, fun x hx => by
      have e1 := hkb.out
      have e2 := hko.out
      have e3 := hkc.out
      have nf : ∀ k, k < V.heap.size → ¬ Fa p B Fc k := fun k hk e => by have := hlo1.out k e; omega
      simp only [List.mem_cons, List.not_mem_nil, or_false] at hx
      rcases hx with rfl | rfl | rfl
      · exact ⟨by dsimp only; omega, lb1, nf _ lb, kx.out.2.2⟩
      · exact ⟨by dsimp only; omega, lo1, nf _ lo, kx.out.2.1⟩
      · exact ⟨by dsimp only; omega, lc1, nf _ lc, kx.out.1⟩, Step.of_below hB1.out⟩
  have Q2 : Hid (At5 w V2 p B Fc Fc c 0 0 nd0 [(w1.heap.size, ltR (ltLd c op b)), (kb, bunR b), (ko, opR op), (kc, cfR c)]) := by rw [← hV2]; exact hide (Q1.out.new (ltR (ltLd c op b)))
  obtain ⟨kl, hkl⟩ : ∃ k, Hid (w1.heap.size = k) := ⟨_, hide rfl⟩
  rw [hkl.out] at Q2
  rw [hkl.out]
  clear hV2 Q1 hn1 hlo1 hb1 kx c0 c1 c2 c3 c4 c5 c6 c7 c8 o0 b0 b1 b2 b3 xc xo xb lc lo lb lc1 lo1 lb1 hsz hX
  have hBV2 := hide (Q2.out.s.belowW (Below.refl _ _) hlo.out)
  go_wp2_with fail
  go_at_call 12
  refine (awake15_c _ (hide (hT.out.lowB hBV2.out))).mono ?_
  rintro e w3 ⟨rfl, hb3⟩
  have Q3 := hide (Q2.out.below hb3)
  clear hb3 hBV2
  obtain ⟨lc, xc⟩ := bz_get Q3.out.x (k := kc) (o := cfR c) (by simp)
  obtain ⟨lo, xo⟩ := bz_get Q3.out.x (k := ko) (o := opR op) (by simp)
  obtain ⟨lb, xb⟩ := bz_get Q3.out.x (k := kb) (o := bunR b) (by simp)
  obtain ⟨ll, xl⟩ := bz_get Q3.out.x (k := kl) (o := ltR (ltLd c op b)) (by simp)
  obtain ⟨c0, c1, c2, c3, c4, c5, c6, c7, c8⟩ := cf_at xc
  have o0 : w3.cell? ⟨ko, 0, none⟩ = some (.int .i64 op.b) := cell_of_row _ _ _ _ _ _ xo
  have o1 : w3.cell? ⟨ko, 1, none⟩ = some (.bool op.w) := cell_of_row _ _ _ _ _ _ xo
  have o2 : w3.cell? ⟨ko, 2, none⟩ = some (.int .i64 op.v) := cell_of_row _ _ _ _ _ _ xo
  have b0 : w3.cell? ⟨kb, 0, none⟩ = some (.int .i64 b.n) := cell_of_row _ _ _ _ _ _ xb
  have b1 : w3.cell? ⟨kb, 1, none⟩ = some (.bool b.o) := cell_of_row _ _ _ _ _ _ xb
  have b2 : w3.cell? ⟨kb, 2, none⟩ = some (.bool b.h) := cell_of_row _ _ _ _ _ _ xb
  have b3 : w3.cell? ⟨kb, 3, none⟩ = some (.int .i64 b.d) := cell_of_row _ _ _ _ _ _ xb
  obtain ⟨l0, l1, l2, l3, l4, l5, l6, l7, l8, l9, l10⟩ := lt_at xl
  dsimp only at l0 l1 l2 l3 l4 l5 l6 l7 l8 l9 l10
  clear xc xo xb xl
  go_wp2_with fail
  go_at_call 27
  refine (refCheck_c c.n c.bl c.tt c.cs c.cy c.cc c.cu c.ct c.cp 1 c.n 0 op.b 0 0 false b.n b.o b.h b.d _ z hz).mono ?_
  rintro e w4 ⟨rfl, hb4⟩
  have Q4 := hide (Q3.out.below hb4)
  clear hb4
  clear c0 c1 c2 c3 c4 c5 c6 c7 c8 o0 o1 o2 b0 b1 b2 b3 l0 l1 l2 l3 l4 l5 l6 l7 l8 l9 l10 lc lo lb ll
  obtain ⟨lc, xc⟩ := bz_get Q4.out.x (k := kc) (o := cfR c) (by simp)
  obtain ⟨lo, xo⟩ := bz_get Q4.out.x (k := ko) (o := opR op) (by simp)
  obtain ⟨lb, xb⟩ := bz_get Q4.out.x (k := kb) (o := bunR b) (by simp)
  obtain ⟨ll, xl⟩ := bz_get Q4.out.x (k := kl) (o := ltR (ltLd c op b)) (by simp)
  obtain ⟨c0, c1, c2, c3, c4, c5, c6, c7, c8⟩ := cf_at xc
  have o0 : w4.cell? ⟨ko, 0, none⟩ = some (.int .i64 op.b) := cell_of_row _ _ _ _ _ _ xo
  have o1 : w4.cell? ⟨ko, 1, none⟩ = some (.bool op.w) := cell_of_row _ _ _ _ _ _ xo
  have o2 : w4.cell? ⟨ko, 2, none⟩ = some (.int .i64 op.v) := cell_of_row _ _ _ _ _ _ xo
  have b0 : w4.cell? ⟨kb, 0, none⟩ = some (.int .i64 b.n) := cell_of_row _ _ _ _ _ _ xb
  have b1 : w4.cell? ⟨kb, 1, none⟩ = some (.bool b.o) := cell_of_row _ _ _ _ _ _ xb
  have b2 : w4.cell? ⟨kb, 2, none⟩ = some (.bool b.h) := cell_of_row _ _ _ _ _ _ xb
  have b3 : w4.cell? ⟨kb, 3, none⟩ = some (.int .i64 b.d) := cell_of_row _ _ _ _ _ _ xb
  obtain ⟨l0, l1, l2, l3, l4, l5, l6, l7, l8, l9, l10⟩ := lt_at xl
  dsimp only at l0 l1 l2 l3 l4 l5 l6 l7 l8 l9 l10
  clear xc xo xb xl
  by_cases ez : z = 0
  · have hl : lerr c (ltLd c op b) = 0 := hz.out.trans ez
    obtain ⟨hok, hL, hM, hbu⟩ := ld_take hcf hl
    have hq := lerr_q hl
    have hiss := (ld_iss (c := c) (op := op) hq.1 hq.2.1).2
    have hop5 : I64 (nxIs c 0 nd0 op).P.op.b := by rw [hiss]; have := hcf.b1; have := hq.2.1; have := hq.1; dsimp only at *; exact ⟨by show -9223372036854775808 ≤ op.b; omega, by show op.b ≤ 9223372036854775807; omega⟩
    subst ez
    replace hok := hide hok
    replace hL := hide hL
    replace hM := hide hM
    replace hbu := hide hbu
    replace hop5 := hide hop5
    clear hl hq hiss
    obtain ⟨L1, hL1⟩ : ∃ L, Hid (isL c 0 nd0 op 0 0 = L) := ⟨_, hide rfl⟩
    obtain ⟨M1, hM1⟩ : ∃ L, Hid (isN c 0 nd0 op = L) := ⟨_, hide rfl⟩
    obtain ⟨M2, hM2⟩ : ∃ L, Hid (tkN c 0 (nxIs c 0 nd0 op) (ltLd c op b) = L) := ⟨_, hide rfl⟩
    go_wp2_with fail
    go_at_call 15
    refine (ndIssue_c p B Fc c 0 0 nd0 op 0 0 0 _ Q4.out.n (by decide) true hok L1 hL1 M1 hM1).mono ?_
    rintro e w5 ⟨v1, v2, rfl, Fc5, g1, g2, hO⟩
    have Q5 := hide (Q4.out.step hO.nd hO.st)
    clear hO hL1 hM1
    clear c0 c1 c2 c3 c4 c5 c6 c7 c8 o0 o1 o2 b0 b1 b2 b3 l0 l1 l2 l3 l4 l5 l6 l7 l8 l9 l10 lc lo lb ll
    obtain ⟨lc, xc⟩ := bz_get Q5.out.x (k := kc) (o := cfR c) (by simp)
    obtain ⟨lo, xo⟩ := bz_get Q5.out.x (k := ko) (o := opR op) (by simp)
    obtain ⟨lb, xb⟩ := bz_get Q5.out.x (k := kb) (o := bunR b) (by simp)
    obtain ⟨ll, xl⟩ := bz_get Q5.out.x (k := kl) (o := ltR (ltLd c op b)) (by simp)
    obtain ⟨c0, c1, c2, c3, c4, c5, c6, c7, c8⟩ := cf_at xc
    have o0 : w5.cell? ⟨ko, 0, none⟩ = some (.int .i64 op.b) := cell_of_row _ _ _ _ _ _ xo
    have o1 : w5.cell? ⟨ko, 1, none⟩ = some (.bool op.w) := cell_of_row _ _ _ _ _ _ xo
    have o2 : w5.cell? ⟨ko, 2, none⟩ = some (.int .i64 op.v) := cell_of_row _ _ _ _ _ _ xo
    have b0 : w5.cell? ⟨kb, 0, none⟩ = some (.int .i64 b.n) := cell_of_row _ _ _ _ _ _ xb
    have b1 : w5.cell? ⟨kb, 1, none⟩ = some (.bool b.o) := cell_of_row _ _ _ _ _ _ xb
    have b2 : w5.cell? ⟨kb, 2, none⟩ = some (.bool b.h) := cell_of_row _ _ _ _ _ _ xb
    have b3 : w5.cell? ⟨kb, 3, none⟩ = some (.int .i64 b.d) := cell_of_row _ _ _ _ _ _ xb
    obtain ⟨l0, l1, l2, l3, l4, l5, l6, l7, l8, l9, l10⟩ := lt_at xl
    dsimp only at l0 l1 l2 l3 l4 l5 l6 l7 l8 l9 l10
    clear xc xo xb xl
    have hBV5 := hide (Q5.out.s.belowW (Below.refl _ _) hlo.out)
    go_wp2_with fail
    go_at_call 17
    refine (ndTake_c p B Fc5 c 0 _ _ (ltLd c op b) 0 0 0 _ Q5.out.n (hide (hT.out.lowB hBV5.out)) (by decide) (i64_of_small (x := 1) (by decide) (by decide)) hop5.out _ hL M2 hM2).mono ?_
    rintro e w6 ⟨v3, v4, rfl, Fc6, g3, g4, hO⟩
    obtain ⟨ao3, cap3, e3, -⟩ := id hO.own
    obtain ⟨ao4, cap4, e4, -⟩ := id hO.dn
    have e3' : v3 = .slice ao3 0 cap3 := e3
    subst e3' e4
    clear e3
    have Q6 := hide ((Q5.out.step hO.nd hO.st).new (outR (.slice ao3 0 cap3) (.slice ao4 M2.length cap4)))
    have dn6 := hide (hO.dn.alloc (outR (.slice ao3 0 cap3) (.slice ao4 M2.length cap4)))
    clear hO hBV5
    clear c0 c1 c2 c3 c4 c5 c6 c7 c8 o0 o1 o2 b0 b1 b2 b3 l0 l1 l2 l3 l4 l5 l6 l7 l8 l9 l10 lc lo lb ll
    go_upto_region 7 with fail
    obtain ⟨k6, hk6⟩ : ∃ k, Hid (w6.heap.size = k) := ⟨_, hide rfl⟩
    rw [hk6.out] at Q6
    rw [hk6.out]
    obtain ⟨V6, hV6⟩ : ∃ V, w6.alloc (outR (.slice ao3 0 cap3) (.slice ao4 M2.length cap4)) = V := ⟨_, rfl⟩
    rw [hV6] at Q6 dn6
    dsimp only [outR] at hV6
    rw [hV6]
    clear hV6
    obtain ⟨lc, xc⟩ := bz_get Q6.out.x (k := kc) (o := cfR c) (by simp)
    obtain ⟨lo, xo⟩ := bz_get Q6.out.x (k := ko) (o := opR op) (by simp)
    obtain ⟨lb, xb⟩ := bz_get Q6.out.x (k := kb) (o := bunR b) (by simp)
    obtain ⟨ll, xl⟩ := bz_get Q6.out.x (k := kl) (o := ltR (ltLd c op b)) (by simp)
    obtain ⟨c0, c1, c2, c3, c4, c5, c6, c7, c8⟩ := cf_at xc
    have o0 : V6.cell? ⟨ko, 0, none⟩ = some (.int .i64 op.b) := cell_of_row _ _ _ _ _ _ xo
    have o1 : V6.cell? ⟨ko, 1, none⟩ = some (.bool op.w) := cell_of_row _ _ _ _ _ _ xo
    have o2 : V6.cell? ⟨ko, 2, none⟩ = some (.int .i64 op.v) := cell_of_row _ _ _ _ _ _ xo
    have b0 : V6.cell? ⟨kb, 0, none⟩ = some (.int .i64 b.n) := cell_of_row _ _ _ _ _ _ xb
    have b1 : V6.cell? ⟨kb, 1, none⟩ = some (.bool b.o) := cell_of_row _ _ _ _ _ _ xb
    have b2 : V6.cell? ⟨kb, 2, none⟩ = some (.bool b.h) := cell_of_row _ _ _ _ _ _ xb
    have b3 : V6.cell? ⟨kb, 3, none⟩ = some (.int .i64 b.d) := cell_of_row _ _ _ _ _ _ xb
    obtain ⟨l0, l1, l2, l3, l4, l5, l6, l7, l8, l9, l10⟩ := lt_at xl
    dsimp only at l0 l1 l2 l3 l4 l5 l6 l7 l8 l9 l10
    clear xc xo xb xl
    obtain ⟨m, hm⟩ : ∃ m, Hid (mayLd c op b = m) := ⟨_, hide rfl⟩
    rw [hm.out] at hbu hM
    go_cut [12] (fun s wx => s = .bool m ∧ wx = V6)
    case first =>
      obtain ⟨bh, hbh⟩ : ∃ x, Hid (b.h = x) := ⟨_, hide rfl⟩
      obtain ⟨ow, how⟩ : ∃ x, Hid (op.w = x) := ⟨_, hide rfl⟩
      rw [hbh.out] at b2
      rw [how.out] at o1
      have hm' := hm.out
      unfold mayLd at hm'
      rw [hbh.out, how.out] at hm'
      cases bh
      · obtain rfl : m = false := by rw [← hm']; simp
        clear hm'
        go_wp2_with fail
        go_meet
        exact ⟨rfl, rfl⟩
      · cases ow
        · obtain rfl : m = true := by rw [← hm']; simp
          clear hm'
          go_wp2_with fail
          go_meet
          exact ⟨rfl, rfl⟩
        · by_cases et : b.n = c.tt
          · obtain ⟨t1, t2, t3⟩ := cmpT et
            obtain rfl : m = true := by rw [← hm']; simp [t1]
            clear hm'
            replace et := hide et
            go_wp2_with fail
            go_meet
            exact ⟨rfl, rfl⟩
          · obtain ⟨t1, t2, t3⟩ := cmpF et
            obtain rfl : m = false := by rw [← hm']; simp [t1]
            clear hm'
            replace et := hide et
            go_wp2_with fail
            go_meet
            exact ⟨rfl, rfl⟩
    case rest =>
      obtain ⟨rfl, hwc⟩ := hcut
      subst hwc
      obtain ⟨k8, o8⟩ := bz_get Q6.out.x (k := k6) (o := outR (.slice ao3 0 cap3) (.slice ao4 M2.length cap4)) (by simp)
      obtain ⟨x0, x1, -⟩ := out_at o8
      clear o8
      obtain ⟨opz, hopz⟩ : ∃ x, Hid ((nxTake c 0 (nxIs c 0 nd0 op) (ltLd c op b) 0 0).P.op = x) := ⟨_, hide rfl⟩
      obtain ⟨As, hAs⟩ : ∃ x, Hid ((nxTake c 0 (nxIs c 0 nd0 op) (ltLd c op b) 0 0).T.A = x) := ⟨_, hide rfl⟩
      obtain ⟨Cs, hCs⟩ : ∃ x, Hid (allC (nxTake c 0 (nxIs c 0 nd0 op) (ltLd c op b) 0 0).C = x) := ⟨_, hide rfl⟩
      have hfp := field_pl
      have hw6 := hide (Q6.out.s.belowW (Below.refl _ _) hlo.out)
      have hlM : M2 = (if m = true then [⟨0, 1, op.b, op.w, op.v, if op.w = true then op.v else b.d, 0⟩] else []) := hM2.out.symm.trans hM.out
      cases m
      · obtain rfl : M2 = [] := hlM
        go_wp2_with (go_at_call 25; refine (ndPlace_c p B Fc6 c 0 _ _ _ Q6.out.n (by decide) (!false) hbu opz hopz Cs hCs As hAs).mono ?_; rintro e w9 ⟨v5, v6, rfl, g5, g6, ho5, ho6, hg5, hg6, hb9⟩; obtain ⟨ao5, cap5, e5, -⟩ := id ho5; subst e5; obtain ⟨ao6, cap6, e6, -⟩ := id ho6; subst e6; obtain ⟨q8, o9⟩ := bz_get (Q6.out.below hb9).x (k := k6) (o := outR (.slice ao3 0 cap3) (.slice ao4 ([] : List Dn).length cap4)) (by simp); obtain ⟨y0, y1, -⟩ := out_at o9; clear o9 ho5 ho6 hg5 hg6; replace hb9 := hide hb9)
        go_ret
        exact ⟨rfl, hw6.out.trans (hb9.out.mono hw6.out.size)⟩
      · obtain ⟨ow, how⟩ : ∃ x, Hid (op.w = x) := ⟨_, hide rfl⟩
        rw [how.out] at hlM o1
        obtain ⟨u, hu⟩ : ∃ u, Hid ((if ow = true then op.v else b.d) = u) := ⟨_, hide rfl⟩
        rw [hu.out, if_pos rfl] at hlM
        subst hlM
        cases ow
        · obtain rfl : b.d = u := hu.out
          go_wp2_with (go_at_call 25; refine (ndPlace_c p B Fc6 c 0 _ _ _ Q6.out.n (by decide) (!true) hbu opz hopz Cs hCs As hAs).mono ?_; rintro e w9 ⟨v5, v6, rfl, g5, g6, ho5, ho6, hg5, hg6, hb9⟩; obtain ⟨ao5, cap5, e5, -⟩ := id ho5; subst e5; obtain ⟨ao6, cap6, e6, -⟩ := id ho6; subst e6; have Q9 := hide (Q6.out.below hb9); obtain ⟨q8, o9⟩ := bz_get Q9.out.x (k := k6) (o := outR (.slice ao3 0 cap3) (.slice ao4 1 cap4)) (by simp); obtain ⟨y0, y1, -⟩ := out_at o9; obtain ⟨lo9, xo9⟩ := bz_get Q9.out.x (k := ko) (o := opR op) (by simp); have p0 : w9.cell? ⟨ko, 0, none⟩ = some (.int .i64 op.b) := cell_of_row _ _ _ _ _ _ xo9; have p1 : w9.cell? ⟨ko, 1, none⟩ = some (.bool op.w) := cell_of_row _ _ _ _ _ _ xo9; have p2 : w9.cell? ⟨ko, 2, none⟩ = some (.int .i64 op.v) := cell_of_row _ _ _ _ _ _ xo9; rw [how.out] at p1; obtain ⟨lb9, xb9⟩ := bz_get Q9.out.x (k := kb) (o := bunR b) (by simp); have p3 : w9.cell? ⟨kb, 3, none⟩ = some (.int .i64 b.d) := cell_of_row _ _ _ _ _ _ xb9; have dn9 := hide (dn6.out.carry (fun _ h1 => hb9.block _ h1)); clear o9 ho5 ho6 hg5 hg6 xo9 xb9; replace hb9 := hide hb9)
          go_at_call 23
          refine (doneD_c _ _ g4 w9.heap.size [⟨0, 1, op.b, false, op.v, b.d, 0⟩] _ ?_ ?_).mono ?_
          · exact dn9.out.alloc _
          · exact view_oneD w9 ⟨0, 1, op.b, false, op.v, b.d, 0⟩
          rintro e w10 ⟨rfl, n10, rfl⟩
          go_wp2_with fail
          go_ret
          exact ⟨rfl, belowN ((hw6.out.trans (hb9.out.mono hw6.out.size)).alloc (hw6.out.trans (hb9.out.mono hw6.out.size)).size _) _⟩
        · obtain rfl : op.v = u := hu.out
          go_wp2_with (go_at_call 25; refine (ndPlace_c p B Fc6 c 0 _ _ _ Q6.out.n (by decide) (!true) hbu opz hopz Cs hCs As hAs).mono ?_; rintro e w9 ⟨v5, v6, rfl, g5, g6, ho5, ho6, hg5, hg6, hb9⟩; obtain ⟨ao5, cap5, e5, -⟩ := id ho5; subst e5; obtain ⟨ao6, cap6, e6, -⟩ := id ho6; subst e6; have Q9 := hide (Q6.out.below hb9); obtain ⟨q8, o9⟩ := bz_get Q9.out.x (k := k6) (o := outR (.slice ao3 0 cap3) (.slice ao4 1 cap4)) (by simp); obtain ⟨y0, y1, -⟩ := out_at o9; obtain ⟨lo9, xo9⟩ := bz_get Q9.out.x (k := ko) (o := opR op) (by simp); have p0 : w9.cell? ⟨ko, 0, none⟩ = some (.int .i64 op.b) := cell_of_row _ _ _ _ _ _ xo9; have p1 : w9.cell? ⟨ko, 1, none⟩ = some (.bool op.w) := cell_of_row _ _ _ _ _ _ xo9; have p2 : w9.cell? ⟨ko, 2, none⟩ = some (.int .i64 op.v) := cell_of_row _ _ _ _ _ _ xo9; rw [how.out] at p1; obtain ⟨lb9, xb9⟩ := bz_get Q9.out.x (k := kb) (o := bunR b) (by simp); have p3 : w9.cell? ⟨kb, 3, none⟩ = some (.int .i64 b.d) := cell_of_row _ _ _ _ _ _ xb9; have dn9 := hide (dn6.out.carry (fun _ h1 => hb9.block _ h1)); clear o9 ho5 ho6 hg5 hg6 xo9 xb9; replace hb9 := hide hb9)
          go_at_call 23
          refine (doneD_c _ _ g4 w9.heap.size [⟨0, 1, op.b, true, op.v, op.v, 0⟩] _ ?_ ?_).mono ?_
          · exact dn9.out.alloc _
          · exact view_oneD w9 ⟨0, 1, op.b, true, op.v, op.v, 0⟩
          rintro e w10 ⟨rfl, n10, rfl⟩
          go_wp2_with fail
          go_ret
          exact ⟨rfl, belowN ((hw6.out.trans (hb9.out.mono hw6.out.size)).alloc (hw6.out.trans (hb9.out.mono hw6.out.size)).size _) _⟩
  · obtain ⟨e1, e2, e3⟩ := cmpF ez
    replace ez := hide ez
    have hBV4 := hide (Q4.out.s.belowW (Below.refl _ _) hlo.out)
    go_wp2_with (go_at_call 12; refine (awake15_c _ (hide (hT.out.lowB hBV4.out))).mono ?_; rintro e w5 ⟨rfl, hb5⟩; replace hb5 := hide hb5)
    go_ret
    exact ⟨rfl, hBV4.out.trans (hb5.out.mono hBV4.out.size)⟩
theorem NodeLoads_walk (n bl tt cs cy cc cu ct cp : Int) (ob : Int) (ow : Bool) (ov : Int) (xn : Int) (xo xh : Bool) (xd : Int) (w : World) (hT : Hid (Tab w)) : Calls Tryz.prog 9 #[.agg #[.int .i64 n, .int .i64 bl, .int .i64 tt, .int .i64 cs, .int .i64 cy, .int .i64 cc, .int .i64 cu, .int .i64 ct, .int .i64 cp], .agg #[.int .i64 ob, .bool ow, .int .i64 ov], .agg #[.int .i64 xn, .bool xo, .bool xh, .int .i64 xd]] w fun e w' => e = .returned (.bool true) ∧ Below w.heap.size w w' := by
  by_cases h : cfgZ n bl tt cs cy cc cu ct cp = 0 ∧ nodeB 0 n = true
  · exact loadsOk_walk ⟨n, bl, tt, cs, cy, cc, cu, ct, cp⟩ ⟨ob, ow, ov⟩ ⟨xn, xo, xh, xd⟩ w hT (hide h.1) (hide h.2)
  · exact loadsNo_walk ⟨n, bl, tt, cs, cy, cc, cu, ct, cp⟩ ⟨ob, ow, ov⟩ ⟨xn, xo, xh, xd⟩ w hT (fun h2 => h ⟨h2.1, h2.2.1⟩)
end Go.Proofs.YtoenjdnccgmhoaaGreatDoor
