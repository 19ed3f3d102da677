/- layer 15: L15Gives, put together. -/
import Derived.Test.YtoenjdnccgmhoaaGreatDoorB43
import Derived.Test.YtoenjdnccgmhoaaGreatDoorZGvMath
import Derived.Test.YtoenjdnccgmhoaaGreatDoorZEnv15
namespace Go.Proofs.YtoenjdnccgmhoaaGreatDoor
open Go.ChangeShapes Go.WideShapes Go.ChangeAt Go.RowKit
set_option linter.unusedSimpArgs false
set_option linter.unusedVariables false
set_option maxRecDepth 10000
attribute [local go_sem, local simp] over_const setCell_drewN alloc_drewN Over.cell Over.frozen lt_s1 lt_s2 lt_s3 le_s0 le_s1 le_s2 le_s3 eq_s0 eq_s1 eq_s2 qe_s0
set_option maxHeartbeats 8000000 in
theorem givesNo_walk (c : Cf) (op : Op3) (ao : Option Addr) (n cap : Nat) (w : World) (hT : Hid (Tab w)) (hn : n ≤ 9223372036854775807) (hno : ¬ (cfgZ c.n c.bl c.tt c.cs c.cy c.cc c.cu c.ct c.cp = 0 ∧ nodeB 0 c.n = true ∧ n ≤ 200)) : Calls Tryz.prog 5 #[.agg #[.int .i64 c.n, .int .i64 c.bl, .int .i64 c.tt, .int .i64 c.cs, .int .i64 c.cy, .int .i64 c.cc, .int .i64 c.cu, .int .i64 c.ct, .int .i64 c.cp], .agg #[.int .i64 op.b, .bool op.w, .int .i64 op.v], .slice ao n cap] w fun e w' => e = .returned (.bool true) ∧ Below w.heap.size w w' := by
  replace hno := hide hno
  replace hn := hide hn
  go_enter Tryz.func5, Tryz.ntmps5
  go_upto_region 1 with fail
  refine name_world ?_
  intro V hV
  have hB : Hid (Below w.heap.size w V) := by rw [← hV]; exact hide (by all_goals exact belEnd)
  have hX : Hid (V.heap[w.heap.size]? = some (cfR c) ∧ V.heap[w.heap.size + 1]? = some (opR op) ∧ V.heap.size = w.heap.size + 1 + 1) := by
    have h1 := heap_alloc_new w (cfR c)
    have h2 := heap_alloc_new (w.alloc (cfR c)) (opR op)
    simp only [World.size_alloc] at h2
    rw [← hV]
    exact hide ⟨(Below.heap_alloc _ _ _ (by first | (simp; done) | (simp; omega))).trans h1, h2, by simp⟩
  clear hV
  obtain ⟨ko, hko⟩ : ∃ k, Hid (w.heap.size + 1 = k) := ⟨_, hide rfl⟩
  obtain ⟨kc, hkc⟩ : ∃ k, Hid (w.heap.size = k) := ⟨_, hide rfl⟩
  rw [hko.out, hkc.out] at hX
  rw [hko.out, hkc.out]
  obtain ⟨xc, xo, xs⟩ := hX.out
  replace xs := hide xs
  obtain ⟨c0, c1, c2, c3, c4, c5, c6, c7, c8⟩ := cf_at xc
  have o0 : V.cell? ⟨ko, 0, none⟩ = some (.int .i64 op.b) := cell_of_row _ _ _ _ _ _ xo
  have o1 : V.cell? ⟨ko, 1, none⟩ = some (.bool op.w) := cell_of_row _ _ _ _ _ _ xo
  have o2 : V.cell? ⟨ko, 2, none⟩ = some (.int .i64 op.v) := cell_of_row _ _ _ _ _ _ xo
  have lc : kc < V.heap.size := (Array.getElem?_eq_some_iff.1 xc).1
  have lo : ko < V.heap.size := (Array.getElem?_eq_some_iff.1 xo).1
  go_wp2_with (first | (go_at_call 11; refine (madeNo_c c 0 ao n cap _ hno.out hn.out).mono ?_; rintro e w1 ⟨rfl, hb1⟩; obtain ⟨x, rfl⟩ := over hb1; clear hb1; have f1 := x.upB kc; have f2 := x.upB ko) | (go_at_call 12; refine (awake15_c _ (hide (hT.out.lowB (hB.out.trans (Below.mono (B := V.heap.size) (by all_goals exact belEnd) hB.out.size))))).mono ?_; rintro e w2 ⟨rfl, hb2⟩; obtain ⟨y, rfl⟩ := over2 hb2; clear hb2))
  go_ret
  refine ⟨rfl, ?_⟩
  exact hB.out.trans (Below.mono (B := V.heap.size) (by all_goals exact belEnd) hB.out.size)
set_option maxHeartbeats 8000000 in
theorem givesOk_walk (c : Cf) (op : Op3) (ao : Option Addr) (cap : Nat) (A : List Ac) (w : World) (hT : Hid (Tab w)) (h1' : ActsAt w.heap.size w (.slice ao A.length cap) A) (hl : A.length ≤ 200) (h0 : Hid (cfgZ c.n c.bl c.tt c.cs c.cy c.cc c.cu c.ct c.cp = 0)) (h1 : Hid (nodeB 0 c.n = true)) : Calls Tryz.prog 5 #[.agg #[.int .i64 c.n, .int .i64 c.bl, .int .i64 c.tt, .int .i64 c.cs, .int .i64 c.cy, .int .i64 c.cc, .int .i64 c.cu, .int .i64 c.ct, .int .i64 c.cp], .agg #[.int .i64 op.b, .bool op.w, .int .i64 op.v], .slice ao A.length cap] w fun e w' => e = .returned (.bool true) ∧ Below w.heap.size w w' := by
  have hcf := hide (cfOk_of h0.out h1.out)
  have hA := hide h1'
  have hlen := hide hl
  have hma : A.length ≤ 9223372036854775807 := by omega
  clear h1' hl
  go_enter Tryz.func5, Tryz.ntmps5
  go_upto_region 1 with fail
  refine name_world ?_
  intro V hV
  have hB : Hid (Below w.heap.size w V) := by rw [← hV]; exact hide (by all_goals exact belEnd)
  have hX : Hid (V.heap[w.heap.size]? = some (cfR c) ∧ V.heap[w.heap.size + 1]? = some (opR op) ∧ V.heap.size = w.heap.size + 1 + 1) := by
    have h1 := heap_alloc_new w (cfR c)
    have h2 := heap_alloc_new (w.alloc (cfR c)) (opR op)
    simp only [World.size_alloc] at h2
    rw [← hV]
    exact hide ⟨(Below.heap_alloc _ _ _ (by first | (simp; done) | (simp; omega))).trans h1, h2, by simp⟩
  clear hV
  obtain ⟨ko, hko⟩ : ∃ k, Hid (w.heap.size + 1 = k) := ⟨_, hide rfl⟩
  obtain ⟨kc, hkc⟩ : ∃ k, Hid (w.heap.size = k) := ⟨_, hide rfl⟩
  rw [hko.out, hkc.out] at hX
  rw [hko.out, hkc.out]
  obtain ⟨xc, xo, xs⟩ := hX.out
  replace xs := hide xs
  obtain ⟨c0, c1, c2, c3, c4, c5, c6, c7, c8⟩ := cf_at xc
  have o0 : V.cell? ⟨ko, 0, none⟩ = some (.int .i64 op.b) := cell_of_row _ _ _ _ _ _ xo
  have o1 : V.cell? ⟨ko, 1, none⟩ = some (.bool op.w) := cell_of_row _ _ _ _ _ _ xo
  have o2 : V.cell? ⟨ko, 2, none⟩ = some (.int .i64 op.v) := cell_of_row _ _ _ _ _ _ xo
  have lc : kc < V.heap.size := (Array.getElem?_eq_some_iff.1 xc).1
  have lo : ko < V.heap.size := (Array.getElem?_eq_some_iff.1 xo).1
  go_upto_region 2 with (go_at_call 11; refine (madeOk_c c 0 ao A.length cap _ h0 h1 hlen.out).mono ?_; rintro e w1 ⟨p, q, rfl, B, Fc, hn1, hlo1, hb1⟩; clear c0 c1 c2 c3 c4 c5 c6 c7 c8 o0 o1 o2; replace hn1 := hide hn1; replace hlo1 := hide hlo1; replace hb1 := hide hb1)
  have hB1 : Hid (Below w.heap.size w w1) := hide (hB.out.trans (hb1.out.mono hB.out.size))
  have hlo : Hid (∀ x, Fa p B Fc x → w.heap.size ≤ x) := hide (fun x hx => Nat.le_trans hB.out.size (hlo1.out x hx))
  have Q1 : Hid (At5 w w1 p B Fc Fc c 0 0 nd0 [(ko, opR op), (kc, cfR c)]) := hide ⟨hn1.out, fun x hx => by
      have e2 := hko.out
      have e3 := hkc.out
      have nf : ∀ k, k < V.heap.size → ¬ Fa p B Fc k := fun k hk e => by have := hlo1.out k e; omega
      simp only [List.mem_cons, List.not_mem_nil, or_false] at hx
      rcases hx with rfl | rfl
      · exact ⟨by dsimp only; omega, Nat.lt_of_lt_of_le lo hb1.out.size, nf _ lo, (hb1.out.block _ lo).trans xo⟩
      · exact ⟨by dsimp only; omega, Nat.lt_of_lt_of_le lc hb1.out.size, nf _ lc, (hb1.out.block _ lc).trans xc⟩, Step.of_below hB1.out⟩
  clear hn1 hlo1 hb1 xc xo lc lo hX
  go_wp2_with fail
  go_at_call 12
  refine (awake15_c _ (hide (hT.out.lowB hB1.out))).mono ?_
  rintro e w2 ⟨rfl, hb2⟩
  have Q2 := hide (Q1.out.below hb2)
  clear hb2 Q1
  obtain ⟨lc, xc⟩ := bz_get Q2.out.x (k := kc) (o := cfR c) (by simp)
  obtain ⟨lo, xo⟩ := bz_get Q2.out.x (k := ko) (o := opR op) (by simp)
  obtain ⟨c0, c1, c2, c3, c4, c5, c6, c7, c8⟩ := cf_at xc
  have o0 : w2.cell? ⟨ko, 0, none⟩ = some (.int .i64 op.b) := cell_of_row _ _ _ _ _ _ xo
  have o1 : w2.cell? ⟨ko, 1, none⟩ = some (.bool op.w) := cell_of_row _ _ _ _ _ _ xo
  have o2 : w2.cell? ⟨ko, 2, none⟩ = some (.int .i64 op.v) := cell_of_row _ _ _ _ _ _ xo
  clear xc xo
  by_cases g1 : op.b < 0
  · have d1 : decide (op.b < 0) = true := by simpa using g1
    replace g1 := hide g1
    have hBV2 := hide (Q2.out.low hlo.out)
    go_wp2_with (go_at_call 12; refine (awake15_c _ (hide (hT.out.lowB hBV2.out))).mono ?_; rintro e w5 ⟨rfl, hb5⟩; replace hb5 := hide hb5)
    go_ret
    exact ⟨rfl, hBV2.out.trans (hb5.out.mono hBV2.out.size)⟩
  have d1 : decide (op.b < 0) = false := by simpa using g1
  replace g1 := hide g1
  by_cases g2 : c.bl ≤ op.b
  · have d2 : decide (c.bl ≤ op.b) = true := by simpa using g2
    replace g2 := hide g2
    have hBV2 := hide (Q2.out.low hlo.out)
    go_wp2_with (go_at_call 12; refine (awake15_c _ (hide (hT.out.lowB hBV2.out))).mono ?_; rintro e w5 ⟨rfl, hb5⟩; replace hb5 := hide hb5)
    go_ret
    exact ⟨rfl, hBV2.out.trans (hb5.out.mono hBV2.out.size)⟩
  have d2 : decide (c.bl ≤ op.b) = false := by simpa using g2
  replace g2 := hide g2
  by_cases g3 : c.tt < 2
  · have d3 : decide (c.tt < 2) = true := by simpa using g3
    replace g3 := hide g3
    have hBV2 := hide (Q2.out.low hlo.out)
    go_wp2_with (go_at_call 12; refine (awake15_c _ (hide (hT.out.lowB hBV2.out))).mono ?_; rintro e w5 ⟨rfl, hb5⟩; replace hb5 := hide hb5)
    go_ret
    exact ⟨rfl, hBV2.out.trans (hb5.out.mono hBV2.out.size)⟩
  have d3 : decide (c.tt < 2) = false := by simpa using g3
  have k0 : Hid (0 ≤ op.b) := hide (by have := g1.out; omega)
  have k1 : Hid (op.b < c.bl) := hide (by have := g2.out; omega)
  have k2 : Hid (2 ≤ c.tt) := hide (by omega)
  have hop : Hid (I64 op.b) := hide (i64_op hcf.out k0.out k1.out)
  replace g3 := hide g3
  have gi := hide (gv_iss (c := c) k0.out k1.out)
  obtain ⟨L1, hL1⟩ : ∃ L, Hid (isL c 0 nd0 op 0 0 = L) := ⟨_, hide rfl⟩
  obtain ⟨M1, hM1⟩ : ∃ L, Hid (isN c 0 nd0 op = L) := ⟨_, hide rfl⟩
  go_wp2_with fail
  go_at_call 15
  refine (ndIssue_c p B Fc c 0 0 nd0 op 0 0 0 _ Q2.out.n (by decide) true (hide gi.out.1) L1 hL1 M1 hM1).mono ?_
  rintro e w3 ⟨v1, v2, rfl, Fc3, g4, g5, hO⟩
  have hnd := hO.nd
  rw [gi.out.2] at hnd
  have Q3 := hide (Q2.out.step hnd hO.st)
  clear hO hnd Q2 hL1 hM1 d1 d2 d3 gi
  clear c0 c1 c2 c3 c4 c5 c6 c7 c8 o0 o1 o2 lc lo
  obtain ⟨lc, xc⟩ := bz_get Q3.out.x (k := kc) (o := cfR c) (by simp)
  obtain ⟨lo, xo⟩ := bz_get Q3.out.x (k := ko) (o := opR op) (by simp)
  obtain ⟨c0, c1, c2, c3, c4, c5, c6, c7, c8⟩ := cf_at xc
  have o0 : w3.cell? ⟨ko, 0, none⟩ = some (.int .i64 op.b) := cell_of_row _ _ _ _ _ _ xo
  have o1 : w3.cell? ⟨ko, 1, none⟩ = some (.bool op.w) := cell_of_row _ _ _ _ _ _ xo
  have o2 : w3.cell? ⟨ko, 2, none⟩ = some (.int .i64 op.v) := cell_of_row _ _ _ _ _ _ xo
  clear xc xo
  have hB3 := hide (Q3.out.low hlo.out)
  obtain ⟨L2, hL2⟩ : ∃ L, Hid (tkL c 0 (ndG1 c op) (ltGa c op) 0 0 = L) := ⟨_, hide rfl⟩
  obtain ⟨M2, hM2⟩ : ∃ L, Hid (tkN c 0 (ndG1 c op) (ltGa c op) = L) := ⟨_, hide rfl⟩
  go_wp2_with fail
  go_at_call 17
  refine (ndTake_c p B _ c 0 _ (ndG1 c op) (ltGa c op) 0 0 0 _ Q3.out.n (hide (hT.out.lowB hB3.out)) (by decide) (i64_of_small (x := 4) (by decide) (by decide)) hop.out L2 hL2 M2 hM2).mono ?_
  rintro e w4 ⟨v3, v4, rfl, Fc4, g6, g7, hO⟩
  have hnd := hO.nd
  rw [gv_act hcf.out k0.out k1.out] at hnd
  have Q4 := hide (Q3.out.step hnd hO.st)
  clear hO hnd Q3 hL2 hM2
  clear c0 c1 c2 c3 c4 c5 c6 c7 c8 o0 o1 o2 lc lo
  obtain ⟨lc, xc⟩ := bz_get Q4.out.x (k := kc) (o := cfR c) (by simp)
  obtain ⟨lo, xo⟩ := bz_get Q4.out.x (k := ko) (o := opR op) (by simp)
  obtain ⟨c0, c1, c2, c3, c4, c5, c6, c7, c8⟩ := cf_at xc
  have o0 : w4.cell? ⟨ko, 0, none⟩ = some (.int .i64 op.b) := cell_of_row _ _ _ _ _ _ xo
  have o1 : w4.cell? ⟨ko, 1, none⟩ = some (.bool op.w) := cell_of_row _ _ _ _ _ _ xo
  have o2 : w4.cell? ⟨ko, 2, none⟩ = some (.int .i64 op.v) := cell_of_row _ _ _ _ _ _ xo
  clear xc xo
  have hB4 := hide (Q4.out.low hlo.out)
  obtain ⟨L3, hL3⟩ : ∃ L, Hid (tkL c 0 (ndG2 c op) (ltGt c op) 0 0 = L) := ⟨_, hide rfl⟩
  obtain ⟨M3, hM3⟩ : ∃ L, Hid (tkN c 0 (ndG2 c op) (ltGt c op) = L) := ⟨_, hide rfl⟩
  go_wp2_with fail
  go_at_call 17
  refine (ndTake_c p B _ c 0 _ (ndG2 c op) (ltGt c op) 0 0 0 _ Q4.out.n (hide (hT.out.lowB hB4.out)) (by decide) (i64_of_small (x := 1) (by decide) (by decide)) hop.out L3 hL3 M3 hM3).mono ?_
  rintro e w5 ⟨v5, v6, rfl, Fc5, g8, g9, hO⟩
  have hnd := hO.nd
  rw [gv_tok hcf.out k0.out k1.out k2.out] at hnd
  have Q5 := hide (Q4.out.step hnd hO.st)
  clear hO hnd Q4 hL3 hM3
  clear c0 c1 c2 c3 c4 c5 c6 c7 c8 o0 o1 o2 lc lo
  go_wp2_with fail
  go_loopw [68] (fun i wr => ∃ (j N : Nat) (F : Nat → Prop), j ≤ A.length ∧ i = .int .i64 j ∧ N ≤ 8 + 3 * j ∧ At5 w wr p B Fc F c 0 N (ndG3 c op) [(ko, opR op), (kc, cfR c)]) (fun i _ => A.length - (intOf i).toNat)
  case atStart => exact ⟨0, _, _, Nat.zero_le _, rfl, by omega, Q5.out⟩
  case round =>
    clear Q5
    obtain ⟨j, N, F, hj, rfl, hN, Q6⟩ := hrel
    replace Q6 := hide Q6
    replace hN := hide hN
    have hB6 := hide (Q6.out.low hlo.out)
    by_cases hlt : j < A.length
    · have hlt' : (j : Int) < A.length := by omega
      have hN6 : Hid (N + 3 ≤ 2000) := hide (by have := hN.out; have := hlen.out; omega)
      obtain ⟨b, o', rfl, hbB, hbl, hra⟩ := acts_range (hA.out.below hB6.out) hlt
      obtain ⟨y, hy⟩ : ∃ y, A[j] = y := ⟨_, rfl⟩
      rw [hy] at hra
      clear hy
      as_aux_lemma =>
        go_upto_region 9 with fail
        go_step
        go_step
        go_step
        go_step
        refine wpList_load_mid (by rfl) _ _ (by rfl) b (o' + j * 18) (by rfl) (actC y) _ hra Tryz.underlying40 (by rfl) (by exact infoAc) ?_
        clear hra
        go_step
        go_step
        go_step
        refine wpList_store_new _ _ (by rfl) (by rfl) (by rfl) (by rfl) (by exact infoAc) (by rfl) (actC_one y) ?_
        obtain ⟨V7, hV7⟩ : ∃ V, wr.alloc (.cells (actC y).toArray 40) = V := ⟨_, rfl⟩
        have Q7 : Hid (At5 w V7 p B Fc F c 0 N (ndG3 c op) [(wr.heap.size, actsO y), (ko, opR op), (kc, cfR c)]) := by rw [← hV7]; exact hide (Q6.out.new (actsO y))
        rw [hV7]
        clear hV7
        obtain ⟨ka, hka⟩ : ∃ k, Hid (wr.heap.size = k) := ⟨_, hide rfl⟩
        rw [hka.out] at Q7
        rw [hka.out]
        clear Q6
        go_upto_region 10 with fail
        as_aux_lemma =>
          obtain ⟨lc, xc⟩ := bz_get Q7.out.x (k := kc) (o := cfR c) (by simp)
          obtain ⟨lo, xo⟩ := bz_get Q7.out.x (k := ko) (o := opR op) (by simp)
          obtain ⟨c0, c1, c2, c3, c4, c5, c6, c7, c8⟩ := cf_at xc
          have o0 : V7.cell? ⟨ko, 0, none⟩ = some (.int .i64 op.b) := cell_of_row _ _ _ _ _ _ xo
          have o1 : V7.cell? ⟨ko, 1, none⟩ = some (.bool op.w) := cell_of_row _ _ _ _ _ _ xo
          have o2 : V7.cell? ⟨ko, 2, none⟩ = some (.int .i64 op.v) := cell_of_row _ _ _ _ _ _ xo
          clear xc xo
          obtain ⟨la, xa⟩ := bz_get Q7.out.x (k := ka) (o := actsO y) (by simp)
          obtain ⟨-, -, a2, -, -, -, -, -, -, -, -, -, -, -, -, a15, a16, a17⟩ := acts_at xa
          clear xa
          have hB7 := hide (Q7.out.low hlo.out)
          obtain ⟨M, hM⟩ : ∃ L, Hid (tkN c 0 (ndG3 c op) (ltGs op y.op.w) = L) := ⟨_, hide rfl⟩
          go_wp2_with fail
          go_at_call 17
          refine (ndTake_c p B _ c 0 _ (ndG3 c op) (ltGs op y.op.w) y.d0 y.d1 y.d2 _ Q7.out.n (hide (hT.out.lowB hB7.out)) hN6.out (i64_of_small (x := 2) (by decide) (by decide)) hop.out [] (hide (gv_ask _ _ _).2) M hM).mono ?_
          rintro e w8 ⟨v1, v2, rfl, F8, g10, g11, hO⟩
          have hnd := hO.nd
          rw [(gv_ask _ _ _).1] at hnd
          obtain ⟨ao3, cap3, e3, -⟩ := _root_.id hO.own
          obtain ⟨ao4, cap4, e4, -⟩ := _root_.id hO.dn
          have e3' : v1 = .slice ao3 0 cap3 := e3
          subst e3' e4
          clear e3
          have Q8 := hide ((Q7.out.step hnd hO.st).new (outR (.slice ao3 0 cap3) (.slice ao4 M.length cap4)))
          clear hO hnd a2 a15 a16 a17 la Q7
          clear c0 c1 c2 c3 c4 c5 c6 c7 c8 o0 o1 o2 lc lo
          as_aux_lemma =>
            go_upto_region 11 with fail
            obtain ⟨V8, hV8⟩ : ∃ V, w8.alloc (outR (.slice ao3 0 cap3) (.slice ao4 M.length cap4)) = V := ⟨_, rfl⟩
            rw [hV8] at Q8
            dsimp only [outR] at hV8
            rw [hV8]
            clear hV8
            obtain ⟨k8, hk8⟩ : ∃ k, Hid (w8.heap.size = k) := ⟨_, hide rfl⟩
            rw [hk8.out] at Q8
            rw [hk8.out]
            obtain ⟨lc, xc⟩ := bz_get Q8.out.x (k := kc) (o := cfR c) (by simp)
            obtain ⟨lo, xo⟩ := bz_get Q8.out.x (k := ko) (o := opR op) (by simp)
            obtain ⟨c0, c1, c2, c3, c4, c5, c6, c7, c8⟩ := cf_at xc
            have o0 : V8.cell? ⟨ko, 0, none⟩ = some (.int .i64 op.b) := cell_of_row _ _ _ _ _ _ xo
            have o1 : V8.cell? ⟨ko, 1, none⟩ = some (.bool op.w) := cell_of_row _ _ _ _ _ _ xo
            have o2 : V8.cell? ⟨ko, 2, none⟩ = some (.int .i64 op.v) := cell_of_row _ _ _ _ _ _ xo
            clear xc xo
            obtain ⟨l8, o8⟩ := bz_get Q8.out.x (k := k8) (o := outR (.slice ao3 0 cap3) (.slice ao4 M.length cap4)) (by simp)
            obtain ⟨x0, x1, -⟩ := out_at o8
            clear o8
            by_cases cn : 1 < c.n
            · have d1 : decide (1 < c.n) = true := by simpa using cn
              replace cn := hide cn
              go_wp2_with fail
              go_roundw
              case rel => exact ⟨j + 1, N + 3, F8, by omega, by simp, by have := hN.out; omega, Q8.out.sub (fun x hx => List.mem_cons_of_mem _ (List.mem_cons_of_mem _ hx))⟩
              case measure => simp [intOf]; omega
            · have d1 : decide (1 < c.n) = false := by simpa using cn
              replace cn := hide cn
              go_wp2_with fail
              go_roundw
              case rel => exact ⟨j + 1, N + 3, F8, by omega, by simp, by have := hN.out; omega, Q8.out.sub (fun x hx => List.mem_cons_of_mem _ (List.mem_cons_of_mem _ hx))⟩
              case measure => simp [intOf]; omega
    · obtain rfl : j = A.length := by omega
      as_aux_lemma =>
        go_wp2_with fail
        go_at_call 25
        refine (ndPlace_c p B F c 0 N _ _ Q6.out.n (by have := hN.out; have := hlen.out; omega) true (hide rfl) op (hide rfl) _ (hide gv_all) [⟨op.b, 0, 1⟩] (hide rfl)).mono ?_
        rintro e w9 ⟨v5, v6, rfl, g12, g13, ho5, ho6, hg5, hg6, hb9⟩
        have hB9 := hide (hB6.out.trans (hb9.mono hB6.out.size))
        obtain ⟨ao5, cap5, e5, -⟩ := _root_.id ho5
        obtain ⟨ao6, cap6, e6, -⟩ := _root_.id ho6
        subst e5 e6
        obtain ⟨-, -, -, k5⟩ := view_atL ho5.view rfl
        obtain ⟨o5, rfl, hl5, -, x1, -⟩ := k5 0 (by simp)
        have x1' : w9.cell? ⟨g12, o5 + 1, none⟩ = some (.int .i64 1) := by simpa [bun1] using x1
        clear x1 k5 ho5 ho6 hg5 hg6
        replace hb9 := hide hb9
        go_wp2_with fail
        go_ret
        refine ⟨rfl, ?_⟩
        exact hB9.out.alloc hB9.out.size _
theorem NodeGives_walk (n bl tt cs cy cc cu ct cp : Int) (ob : Int) (ow : Bool) (ov : Int) (v : Value) (A : List Ac) (w : World) (hT : Hid (Tab w)) (h1 : ActsAt w.heap.size w v A) : Calls Tryz.prog 5 #[.agg #[.int .i64 n, .int .i64 bl, .int .i64 tt, .int .i64 cs, .int .i64 cy, .int .i64 cc, .int .i64 cu, .int .i64 ct, .int .i64 cp], .agg #[.int .i64 ob, .bool ow, .int .i64 ov], v] w fun e w' => e = .returned (.bool true) ∧ Below w.heap.size w w' := by
  obtain ⟨ao, cap, rfl, hlc, hmx, -⟩ := _root_.id h1
  by_cases h : cfgZ n bl tt cs cy cc cu ct cp = 0 ∧ nodeB 0 n = true ∧ A.length ≤ 200
  · exact givesOk_walk ⟨n, bl, tt, cs, cy, cc, cu, ct, cp⟩ ⟨ob, ow, ov⟩ ao cap A w hT h1 h.2.2 (hide h.1) (hide h.2.1)
  · exact givesNo_walk ⟨n, bl, tt, cs, cy, cc, cu, ct, cp⟩ ⟨ob, ow, ov⟩ ao A.length cap w hT (by unfold maxLen at hmx; omega) h
end Go.Proofs.YtoenjdnccgmhoaaGreatDoor
