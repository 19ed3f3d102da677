/- layer 15: L15Sums, put together. -/
import Derived.Test.YtoenjdnccgmhoaaGreatDoorB43
import Derived.Test.YtoenjdnccgmhoaaGreatDoorZSmMath
import Derived.Test.YtoenjdnccgmhoaaGreatDoorZSumMap
namespace Go.Proofs.YtoenjdnccgmhoaaGreatDoor
open Go.ChangeShapes Go.WideShapes Go.ChangeAt Go.RowKit
set_option linter.unusedSimpArgs false
set_option linter.unusedVariables false
set_option maxRecDepth 10000
attribute [local go_sem, local simp] over_const setCell_drewN alloc_drewN Over.cell Over.frozen lt_s1 lt_s2 lt_s3 le_s0 le_s1 le_s2 le_s3 eq_s0 eq_s1 eq_s2 qe_s0
theorem field_p0 (w : World) (a d : Option Addr) (n c m e : Nat) (b y : Bool) (x z : Int) : (Instr.field 62 (.agg #[.slice a n c, .bool b, .int .i64 x, .bool y, .int .i64 z, .slice d m e]) 0).run Tryz.prog w = .ok (.slice a n c) w := by kernel_rfl
set_option maxHeartbeats 4000000 in
theorem sumsNo_walk (c : Cf) (id : Int) (ao : Option Addr) (n cap : Nat) (w : World) (hT : Hid (Tab w)) (hn : n ≤ 9223372036854775807) (hno : ¬ (cfgZ c.n c.bl c.tt c.cs c.cy c.cc c.cu c.ct c.cp = 0 ∧ nodeB id c.n = true ∧ n ≤ 200)) : Calls Tryz.prog 4 #[.agg #[.int .i64 c.n, .int .i64 c.bl, .int .i64 c.tt, .int .i64 c.cs, .int .i64 c.cy, .int .i64 c.cc, .int .i64 c.cu, .int .i64 c.ct, .int .i64 c.cp], .int .i64 id, .slice ao n cap] w fun e w' => e = .returned (.bool true) ∧ Below w.heap.size w w' := by
  replace hno := hide hno
  replace hn := hide hn
  go_enter Tryz.func4, Tryz.ntmps4
  go_upto_region 1 with fail
  refine name_world ?_
  intro V hV
  have hB : Hid (Below w.heap.size w V) := by rw [← hV]; exact hide (by all_goals exact belEnd)
  have hX : Hid (V.heap[w.heap.size]? = some (cfR c)) := by rw [← hV]; exact hide (heap_alloc_new w (cfR c))
  clear hV
  obtain ⟨kc, hkc⟩ : ∃ k, Hid (w.heap.size = k) := ⟨_, hide rfl⟩
  rw [hkc.out] at hX
  rw [hkc.out]
  obtain ⟨c0, c1, c2, c3, c4, c5, c6, c7, c8⟩ := cf_at hX.out
  have lc : kc < V.heap.size := (Array.getElem?_eq_some_iff.1 hX.out).1
  go_wp2_with (first | (go_at_call 11; refine (madeNo_c c id ao n cap _ hno.out hn.out).mono ?_; rintro e w1 ⟨rfl, hb1⟩; obtain ⟨x, rfl⟩ := over hb1; clear hb1; have f1 := x.upB kc) | (go_at_call 12; refine (awake15_c _ (hide (hT.out.lowB (hB.out.trans (Below.mono (B := V.heap.size) (by all_goals exact belEnd) hB.out.size))))).mono ?_; rintro e w2 ⟨rfl, hb2⟩; obtain ⟨y, rfl⟩ := over2 hb2; clear hb2))
  go_ret
  refine ⟨rfl, ?_⟩
  exact hB.out.trans (Below.mono (B := V.heap.size) (by all_goals exact belEnd) hB.out.size)
set_option maxHeartbeats 8000000 in
theorem sumsOk_walk (c : Cf) (id : Int) (ao : Option Addr) (cap : Nat) (A : List Ac) (w : World) (hT : Hid (Tab w)) (hA : Hid (ActsAt w.heap.size w (.slice ao A.length cap) A)) (hlen : Hid (A.length ≤ 200)) (h0 : Hid (cfgZ c.n c.bl c.tt c.cs c.cy c.cc c.cu c.ct c.cp = 0)) (h1 : Hid (nodeB id c.n = true)) : Calls Tryz.prog 4 #[.agg #[.int .i64 c.n, .int .i64 c.bl, .int .i64 c.tt, .int .i64 c.cs, .int .i64 c.cy, .int .i64 c.cc, .int .i64 c.cu, .int .i64 c.ct, .int .i64 c.cp], .int .i64 id, .slice ao A.length cap] w fun e w' => e = .returned (.bool true) ∧ Below w.heap.size w w' := by
  have hcf := hide (cfOk_of h0.out h1.out)
  have hma : A.length ≤ 9223372036854775807 := by have := hlen.out; omega
  have hAI := hide (acts_i64 hA.out)
  have hAS := hide (acts_i64q hA.out)
  go_enter Tryz.func4, Tryz.ntmps4
  go_upto_region 1 with fail
  refine name_world ?_
  intro V hV
  have hB : Hid (Below w.heap.size w V) := by rw [← hV]; exact hide (by all_goals exact belEnd)
  have hX : Hid (V.heap[w.heap.size]? = some (cfR c)) := by rw [← hV]; exact hide (heap_alloc_new w (cfR c))
  clear hV
  obtain ⟨kc, hkc⟩ : ∃ k, Hid (w.heap.size = k) := ⟨_, hide rfl⟩
  rw [hkc.out] at hX
  rw [hkc.out]
  obtain ⟨c0, c1, c2, c3, c4, c5, c6, c7, c8⟩ := cf_at hX.out
  have lc : kc < V.heap.size := (Array.getElem?_eq_some_iff.1 hX.out).1
  go_upto_region 2 with (go_at_call 11; refine (madeOk_c c id ao A.length cap _ h0 h1 hlen.out).mono ?_; rintro e w1 ⟨p, q0, rfl, B, Fc, hn1, hlo1, hb1⟩; clear c0 c1 c2 c3 c4 c5 c6 c7 c8; replace hn1 := hide hn1; replace hlo1 := hide hlo1; replace hb1 := hide hb1)
  have hB1 : Hid (Below w.heap.size w w1) := hide (hB.out.trans (hb1.out.mono hB.out.size))
  have hlo : Hid (∀ x, Fa p B Fc x → w.heap.size ≤ x) := hide (fun x hx => Nat.le_trans hB.out.size (hlo1.out x hx))
  have Q1 : Hid (At5 w w1 p B Fc Fc c id 0 nd0 [(kc, cfR c)]) := hide ⟨hn1.out, fun x hx => by
    obtain rfl : x = (kc, cfR c) := by simpa using hx
    have e3 := hkc.out
    exact ⟨by dsimp only; omega, Nat.lt_of_lt_of_le lc hb1.out.size, fun e => by have := hlo1.out kc e; omega, (hb1.out.block _ lc).trans hX.out⟩, Step.of_below hB1.out⟩
  clear hn1 hlo1 hb1 lc hX hB
  go_wp2_with fail
  go_at_call 12
  refine (awake15_c _ (hide (hT.out.lowB hB1.out))).mono ?_
  rintro e w2 ⟨rfl, hb2⟩
  have Q2 := hide (Q1.out.below hb2)
  clear hb2 Q1 hB1
  have hmm := @run_makeMap Tryz.prog
  have own0 : w2.alloc (.map #[] 0) |>.ownsMap Tryz.prog 3 heldR w2.heap.size 0 (.map []) := World.ownsMap_made _ _ _ _
  have tl3 := hide (ms_new own0)
  have Q3 := hide (Q2.out.below ((Below.refl _ _).alloc (Nat.le_refl _) (.map #[] 0)))
  have hm3 : Hid (¬ Fa p B Fc w2.heap.size) := hide (fun e => by have := Q2.out.n.lt _ e; omega)
  have hmw : Hid (w.heap.size ≤ w2.heap.size ∧ w2.heap.size ≠ kc) := hide ⟨(Q2.out.low hlo.out).size, by have := (bz_get Q2.out.x (k := kc) (o := cfR c) (by simp)).1; omega⟩
  clear own0 Q2
  obtain ⟨m, hme⟩ : ∃ m, Hid (w2.heap.size = m) := ⟨_, hide rfl⟩
  rw [hme.out] at tl3 hm3 hmw
  go_wp2_with fail
  obtain ⟨w3, hw3⟩ : ∃ W, w2.alloc (.map #[] 0) = W := ⟨_, rfl⟩
  rw [hw3] at tl3 Q3
  rw [hw3, hme.out]
  clear hw3
  go_loopw [38] (fun i wr => ∃ (j N : Nat) (F : Nat → Prop) (D : Nd), j ≤ A.length ∧ i = .int .i64 j ∧ N ≤ 3 * j ∧ At5 w wr p B Fc F c id N D [(kc, cfR c)] ∧ MsIs wr m (fun y => (D.C.T y).n) ∧ ¬ Fa p B F m ∧ SInv c D ∧ I64 D.P.op.b) (fun i _ => A.length - (intOf i).toNat)
  case atStart => exact ⟨0, 0, Fc, nd0, Nat.zero_le _, rfl, by omega, Q3.out, tl3.out.alike (fun _ => rfl), hm3.out, sm_0 hcf.out, i64_0⟩
  case round =>
    clear Q3 tl3 hm3
    obtain ⟨j, N, F, D, hj, rfl, hN, Q3, tl3, hm3, hSI, hop⟩ := hrel
    obtain ⟨wo, hwo⟩ : ∃ wo, wo = wr := ⟨_, rfl⟩
    subst hwo
    replace Q3 := hide Q3
    replace tl3 := hide tl3
    replace hm3 := hide hm3
    replace hSI := hide hSI
    replace hN := hide hN
    replace hop := hide hop
    have hB3 := hide (Q3.out.low hlo.out)
    have hCI := hide (hide Q3.out.n.ca.inv)
    by_cases hlt : j < A.length
    · have hlt' : (j : Int) < A.length := by omega
      obtain ⟨b, o', rfl, hbB, hbl, hra⟩ := acts_range (hA.out.below hB3.out) hlt
      obtain ⟨y, hy⟩ : ∃ y, A[j] = y := ⟨_, rfl⟩
      have hym : y ∈ A := by rw [← hy]; exact List.getElem_mem hlt
      obtain ⟨hy1, hy2⟩ := hAI.out y hym
      have hy3 := hide (hAS.out y hym)
      rw [hy] at hra
      obtain ⟨L, hL⟩ : ∃ L, Hid (doL c id D y = L) := ⟨_, hide rfl⟩
      obtain ⟨M, hM⟩ : ∃ L, Hid (doN c id D y = L) := ⟨_, hide rfl⟩
      have hN6 : Hid (N + 3 ≤ 2000) := hide (by have := hN.out; have := hlen.out; omega)
      have hop2 : Hid (I64 (nxN c id D y).P.op.b) := hide (nxN_op hop.out hy1)
      replace hy2 := hide hy2
      clear hy hym hy1
      as_aux_lemma =>
        go_upto_region 7 with fail
        go_step
        go_step
        go_step
        go_step
        refine wpList_load_mid (by rfl) _ _ (by rfl) b (o' + j * 18) (by rfl) (actC y) _ hra Tryz.underlying40 (by rfl) (by exact infoAc) ?_
        clear hra
        go_step
        go_step
        go_step
        refine wpList_store_new _ _ (by rfl) (by rfl) (by rfl) (by rfl) (by exact infoAc) (by rfl) (actC_one y) ?_
        obtain ⟨V7, hV7⟩ : ∃ V, wo.alloc (.cells (actC y).toArray 40) = V := ⟨_, rfl⟩
        have Q7 : Hid (At5 w V7 p B Fc F c id N D [(wo.heap.size, actsO y), (kc, cfR c)]) := by rw [← hV7]; exact hide (Q3.out.new (actsO y))
        have tl7 : Hid (MsIs V7 m (fun y => (D.C.T y).n)) := by rw [← hV7]; exact hide (tl3.out.below ((Below.refl _ _).alloc (Nat.le_refl _) _))
        have hkam : Hid (wo.heap.size < V7.heap.size ∧ kc < wo.heap.size ∧ m < wo.heap.size) := hide ⟨by rw [← hV7]; simp, (bz_get Q3.out.x (k := kc) (o := cfR c) (by simp)).1, tl3.out.lt⟩
        rw [hV7]
        clear hV7 Q3 tl3
        obtain ⟨ka, hka⟩ : ∃ k, Hid (wo.heap.size = k) := ⟨_, hide rfl⟩
        rw [hka.out] at Q7 hkam
        rw [hka.out]
        go_upto_region 9 with fail
        obtain ⟨V8, hV8⟩ : ∃ V, V7.alloc (outR (.slice none 0 0) (.slice none 0 0)) = V := ⟨_, rfl⟩
        have Q8 : Hid (At5 w V8 p B Fc F c id N D [(V7.heap.size, outR (.slice none 0 0) (.slice none 0 0)), (ka, actsO y), (kc, cfR c)]) := by rw [← hV8]; exact hide (Q7.out.new _)
        have tl8 : Hid (MsIs V8 m (fun y => (D.C.T y).n)) := by rw [← hV8]; exact hide (tl7.out.below ((Below.refl _ _).alloc (Nat.le_refl _) _))
        dsimp only [outR] at hV8
        rw [hV8]
        clear hV8 Q7 tl7
        obtain ⟨kx, hkx⟩ : ∃ k, Hid (V7.heap.size = k) := ⟨_, hide rfl⟩
        rw [hkx.out] at Q8 hkam
        rw [hkx.out]
        have hne : Hid (ka ≠ kx ∧ kc ≠ kx) := hide (by have := hkam.out; omega)
        have hne2 : Hid (m ≠ kx) := hide (by have := hkam.out; omega)
        have hm8 := hm3
        have hT8 := hide (hT.out.lowB (Q8.out.low hlo.out))
        clear hm3
        obtain ⟨lc, xc⟩ := bz_get Q8.out.x (k := kc) (o := cfR c) (by simp)
        obtain ⟨c0, c1, c2, c3, c4, c5, c6, c7, c8⟩ := cf_at xc
        obtain ⟨la, xa⟩ := bz_get Q8.out.x (k := ka) (o := actsO y) (by simp)
        obtain ⟨a0, a1, a2, a3, a4, a5, a6, a7, a8, a9, a10, a11, a12, a13, a14, a15, a16, a17⟩ := acts_at xa
        obtain ⟨lx, xx⟩ := bz_get Q8.out.x (k := kx) (o := (outR (.slice none 0 0) (.slice none 0 0))) (by simp)
        obtain ⟨x0, x1, xz⟩ := out_at xx
        clear xc xa xx
        by_cases k1 : y.k = 1
        · have hL1 : Hid (isL c id D y.op y.d0 y.d1 = L) := hide (by rw [← hL.out]; unfold doL; rw [if_pos k1])
          have hM1 : Hid (isN c id D y.op = M) := hide (by rw [← hM.out]; unfold doN; rw [if_pos k1])
          have hDE : nxIs c id D y.op = nxN c id D y := by unfold nxN; rw [if_pos k1]
          have hS0 := sm_is hcf.out hSI.out (op := y.op) (d0 := y.d0) (d1 := y.d1)
          rw [hL1.out, hDE] at hS0
          obtain ⟨cm, hcme⟩ : ∃ cm : Int → Int, cm = fun _ => 0 := ⟨_, rfl⟩
          have hcm : Hid (∀ x, 0 ≤ cm x ∧ cm x ≤ 65536) := hide (fun x => by rw [hcme]; exact ⟨by simp, by simp⟩)
          rw [← hcme] at hS0
          have hS := hide hS0
          obtain ⟨ok, hok⟩ : ∃ ok, Hid (isOk c D y.op = ok) := ⟨_, hide rfl⟩
          rw [k1] at a0
          replace k1 := hide k1
          replace hDE := hide hDE
          clear hS0
          go_wp2_with fail
          go_at_call 15
          refine (ndIssue_c p B F c id N D y.op y.d0 y.d1 y.d2 _ Q8.out.n (by have := hN6.out; omega) ok hok L hL1 M hM1).mono ?_
          rintro e w5 ⟨v1, v2, rfl, F5, g1, g2, hO⟩
          obtain ⟨b1, c1', e1, -⟩ := _root_.id hO.own
          obtain ⟨b2, c2', e2, -⟩ := _root_.id hO.dn
          subst e1 e2
          have Q5 := hide ((Q8.out.step hO.nd hO.st).step (hO.nd.mono (show _ ≤ N + 3 by omega)) (Step.refl _ _))
          have vT5 := hide hO.own.view
          have hgm : Hid (g1 ≠ m ∧ g1 ≠ kx) := hide (by have := hO.new; have := tl8.out.lt; have := lx; omega)
          have tl5 := hide (tl8.out.fr hO.st.fr hm8.out)
          have hm5 := hide (hO.st.keep hm8.out tl8.out.lt).2.1
          clear hO
          clear c0 c1 c2 c3 c4 c5 c6 c7 c8 a0 a1 a2 a3 a4 a5 a6 a7 a8 a9 a10 a11 a12 a13 a14 a15 a16 a17 lc la lx x0 x1 xz
          obtain ⟨lc, xc⟩ := bz_get Q5.out.x (k := kc) (o := cfR c) (by simp)
          obtain ⟨c0, c1, c2, c3, c4, c5, c6, c7, c8⟩ := cf_at xc
          obtain ⟨la, xa⟩ := bz_get Q5.out.x (k := ka) (o := actsO y) (by simp)
          obtain ⟨a0, a1, a2, a3, a4, a5, a6, a7, a8, a9, a10, a11, a12, a13, a14, a15, a16, a17⟩ := acts_at xa
          obtain ⟨lx, xx⟩ := bz_get Q5.out.x (k := kx) (o := (outR (.slice none 0 0) (.slice none 0 0))) (by simp)
          obtain ⟨x0, x1, xz⟩ := out_at xx
          clear xc xa xx
          go_upto_region 19 with fail
          refine name_world ?_
          intro W6 hW6
          have Q6 : Hid (At5 w W6 p B Fc F5 c id (N + 3) (nxIs c id D y.op) [(kx, outR (.slice b1 L.length c1') (.slice b2 M.length c2')), (ka, actsO y), (kc, cfR c)]) := by rw [← hW6]; exact hide (out_two Q5.out hne.out.1 hne.out.2)
          have hF6 : FrS (· = kx) w5 W6 := by rw [← hW6]; exact wrP (wrP (FrS.refl _ _) _) _
          have vT6 := hide (vT5.out.fr hF6 (fun _ e => hgm.out.2 e))
          have tl6 := hide (tl5.out.fr hF6 (fun e => hne2.out e))
          clear hW6 hF6 Q5 vT5 tl5
          clear c0 c1 c2 c3 c4 c5 c6 c7 c8 a0 a1 a2 a3 a4 a5 a6 a7 a8 a9 a10 a11 a12 a13 a14 a15 a16 a17 lc la lx x0 x1 xz
          have hm6 := hm5
          replace tl6 := hide (tl6.out.alike (g := fun x => (D.C.T x).n + cm x) (fun x => by rw [hcme]; simp))
          have hnn : Hid (∀ x, 0 ≤ ((nxN c id D y).C.T x).n) := hide (fun x => by have := (Q6.out.n.ca.inv.ok x).1; rw [hDE.out] at this; exact this)
          replace hcme := hide hcme
          as_aux_lemma =>
            obtain ⟨D6, hD6⟩ : ∃ D6, nxN c id D y = D6 := ⟨_, rfl⟩
            rw [hD6] at hS hnn hop2
            rw [hDE.out, hD6] at Q6
            clear hD6
            have vT7 := hide vT6.out
            have hgm7 : Hid (g1 ≠ m) := hide hgm.out.1
            obtain ⟨lx, xx⟩ := bz_get Q6.out.x (k := kx) (o := outR (.slice b1 L.length c1') (.slice b2 M.length c2')) (by simp)
            obtain ⟨x0, x1, xz⟩ := out_at xx
            have hLm : L.length ≤ 9223372036854775807 := by
              obtain ⟨_, _, _, q1, q2, _⟩ := vT7.out
              unfold maxLen at q2
              omega
            clear xx
            go_wp2_with fail
            go_loopw [121] (fun i wr => ∃ t : Nat, t ≤ L.length ∧ i = .int .i64 t ∧ At5 w wr p B Fc F5 c id (N + 3) D6 [(kc, cfR c)] ∧ ViewT wr (.slice b1 L.length c1') g1 L ∧ MsIs wr m (fun y => (D.C.T y).n + cm y - smL (L.take t) y)) (fun i _ => L.length - (intOf i).toNat)
            case atStart => exact ⟨0, Nat.zero_le _, rfl, Q6.out.sub (fun x hx => List.mem_cons_of_mem _ (List.mem_cons_of_mem _ hx)), vT7.out, tl6.out.alike (fun y => by rw [show L.take 0 = [] from rfl, smL_nil]; omega)⟩
            case round =>
              clear Q6 vT6 vT7 tl6 x0 x1 xz lx
              obtain ⟨t, ht, rfl, Q7, vT7, tl7⟩ := hrel
              replace Q7 := hide Q7
              replace vT7 := hide vT7
              replace tl7 := hide tl7
              by_cases hlt : t < L.length
              · have hlt' : (t : Int) < L.length := by omega
                obtain ⟨o1, rfl, hgl, hra⟩ := lt_range vT7.out hlt
                have hst := hide (smL_step L hlt)
                obtain ⟨l, hl⟩ : ∃ l, L[t] = l := ⟨_, rfl⟩
                have hgl2 := hide (hS.out.2.1 l (by rw [← hl]; exact List.getElem_mem hlt))
                rw [hl] at hra hst
                clear hl
                go_upto_region 21 with fail
                go_step
                go_step
                go_step
                go_step
                refine wpList_load_mid (by rfl) _ _ (by rfl) g1 (o1 + t * 11) (by rfl) (ltC l) _ hra Tryz.underlying37 (by rfl) (by exact infoLt) ?_
                clear hra
                go_step
                go_step
                go_step
                refine wpList_store_new _ _ (by rfl) (by rfl) (by rfl) (by rfl) (by exact infoLt) (by rfl) (ltC_one l) ?_
                obtain ⟨V9, hV9⟩ : ∃ V, wr.alloc (.cells (ltC l).toArray 37) = V := ⟨_, rfl⟩
                have Q9 : Hid (At5 w V9 p B Fc F5 c id (N + 3) D6 [(wr.heap.size, ltR l), (kc, cfR c)]) := by rw [← hV9]; exact hide (Q7.out.new (ltR l))
                have vT9 : Hid (ViewT V9 (.slice (some ⟨g1, o1, none⟩) L.length c1') g1 L) := by rw [← hV9]; exact hide (vT7.out.alloc _)
                have tl9 : Hid (MsIs V9 m (fun y => (D.C.T y).n + cm y - smL (L.take t) y)) := by rw [← hV9]; exact hide (tl7.out.below ((Below.refl _ _).alloc (Nat.le_refl _) _))
                have hkl2 : Hid (wr.heap.size ≠ m) := hide (by have := tl7.out.lt; omega)
                rw [hV9]
                clear hV9 Q7 vT7 tl7
                obtain ⟨kl, hkl⟩ : ∃ k, Hid (wr.heap.size = k) := ⟨_, hide rfl⟩
                rw [hkl.out] at Q9 hkl2
                rw [hkl.out]
                obtain ⟨ll, xl⟩ := bz_get Q9.out.x (k := kl) (o := ltR l) (by simp)
                obtain ⟨l0, l1, l2, l3, l4, l5, l6, l7, l8, l9, l10⟩ := lt_at xl
                obtain ⟨lc, xc⟩ := bz_get Q9.out.x (k := kc) (o := cfR c) (by simp)
                obtain ⟨c0, c1, c2, c3, c4, c5, c6, c7, c8⟩ := cf_at xc
                clear xl xc
                have hz : Hid (letterZ c.n c.bl c.tt ⟨l.k, l.a, l.b, l.q, l.s, l.w, l.r, ⟨l.n, l.o, l.h, l.d⟩⟩ = 0) := hide hgl2.out.1
                obtain ⟨m1, m2, m3⟩ := cmpT hgl2.out.2
                obtain ⟨iq0, iq1⟩ : Hid (0 ≤ l.q) ∧ Hid (l.q < 64) := by have := lerr_q hgl2.out.1; have := hcf.out.b1; exact ⟨hide (by omega), hide (by omega)⟩
                have iq : Hid (I64 l.q) := hide (by have := iq0.out; have := iq1.out; exact ⟨by omega, by omega⟩)
                go_upto_region 24 with (go_at_call 27; refine (refCheck_c c.n c.bl c.tt c.cs c.cy c.cc c.cu c.ct c.cp l.k l.a l.b l.q l.s l.w l.r l.n l.o l.h l.d _ 0 hz).mono ?_; rintro e w7 ⟨rfl, hb7⟩; replace Q9 := hide (Q9.out.below hb7); replace vT9 := hide (vT9.out.below hb7); replace tl9 := hide (tl9.out.below hb7); clear hb7 l0 l1 l2 l3 l4 l5 l6 l7 l8 l9 l10 c0 c1 c2 c3 c4 c5 c6 c7 c8 ll lc; obtain ⟨ll, xl⟩ := bz_get Q9.out.x (k := kl) (o := ltR l) (by simp); obtain ⟨l0, l1, l2, l3, l4, l5, l6, l7, l8, l9, l10⟩ := lt_at xl; clear xl)
                obtain ⟨fq, hfq⟩ : ∃ x, Hid ((D.C.T l.q).n + cm l.q - smL (L.take t) l.q = x) := ⟨_, hide rfl⟩
                have lk := ms_look tl9.out iq.out
                try dsimp only at lk
                rw [hfq.out] at lk
                have hw : wrap64 (fq - l.n) = fq - l.n := by
                  have a1 := hfq.out
                  have a2 := smL_take hS.out.2.1 t l.q
                  have a3 := hS.out.2.2 l.q
                  have a4 := hcm.out l.q
                  have a5 := (hCI.out).out.ok l.q
                  have a6 := hSI.out.t l.q
                  have a7 := hcf.out.t1
                  have a8 := gl_n hgl2.out
                  have a9 := hS.out.1.t l.q
                  have a10 := hnn.out l.q
                  have a11 := a5.1
                  unfold wrap64
                  omega
                obtain ⟨fv, hfv⟩ : ∃ x, Hid (fq - l.n = x) := ⟨_, hide rfl⟩
                replace hw : wrap64 (fq - l.n) = fv := hw.trans hfv.out
                obtain ⟨w2, r2, tl2, f2⟩ := ms_put tl9.out iq0.out iq1.out fv
                have Q2 := hide (Q9.out.frk f2 hmw.out.1 hm6.out (fun x hx => by
                  simp only [List.mem_cons, List.not_mem_nil, or_false] at hx
                  rcases hx with rfl | rfl
                  · exact hkl2.out
                  · exact fun e => hmw.out.2 e.symm))
                have vT2 := hide (vT9.out.fr f2 (fun _ e => hgm7.out e))
                replace tl2 := hide tl2
                clear f2
                go_wp2_with fail
                go_roundw
                case rel => exact ⟨t + 1, by omega, by simp, Q2.out.sub (fun x hx => List.mem_cons_of_mem _ hx), vT2.out, tl2.out.alike (fun y => by
                  rw [hst.out y]
                  by_cases e : l.q = y
                  · subst e
                    rw [if_pos rfl, if_pos rfl]
                    have := hfq.out; have := hfv.out; omega
                  · rw [if_neg e, if_neg (fun q => e q.symm)]; omega)⟩
                case measure => simp [intOf]; omega
              · obtain rfl : t = L.length := by omega
                have et : L.take L.length = L := List.take_of_length_le (Nat.le_refl _)
                have tl8 := hide (tl7.out.alike (g := fun y => (D6.C.T y).n) (fun y => by rw [et]; exact hS.out.2.2 y))
                have hSI6 := hide hS.out.1
                clear tl7 vT7 et hS
                obtain ⟨wp, hwp⟩ : ∃ wp, wp = wr := ⟨_, rfl⟩
                subst hwp
                as_aux_lemma =>
                  have own2 : (wp.alloc (.map #[] 0)).ownsMap Tryz.prog 3 heldR wp.heap.size 0 (.map []) := World.ownsMap_made _ _ _ _
                  have al9 := hide (ms_new own2)
                  have Q9 := hide (Q7.out.below ((Below.refl _ _).alloc (Nat.le_refl _) (.map #[] 0)))
                  have tl9 := hide (tl8.out.below ((Below.refl _ _).alloc (Nat.le_refl _) (.map #[] 0)))
                  have hm2F : Hid (¬ Fa p B F5 wp.heap.size) := hide (fun e => by have := Q7.out.n.lt _ e; omega)
                  have hm2w : Hid (w.heap.size ≤ wp.heap.size ∧ wp.heap.size ≠ kc ∧ wp.heap.size ≠ m ∧ wp.heap.size < (wp.alloc (.map #[] 0)).heap.size) := hide ⟨(Q7.out.low hlo.out).size, by have := (bz_get Q7.out.x (k := kc) (o := cfR c) (by simp)).1; omega, by have := tl8.out.lt; omega, by simp⟩
                  clear own2 Q7 tl8
                  obtain ⟨Ls, hLs⟩ : ∃ x, Hid (allC D6.C = x) := ⟨_, hide rfl⟩
                  obtain ⟨bu, hbu⟩ : ∃ x, Hid (D6.P.busy = x) := ⟨_, hide rfl⟩
                  obtain ⟨op, hop6⟩ : ∃ x, Hid (D6.P.op = x) := ⟨_, hide rfl⟩
                  obtain ⟨As, hAs⟩ : ∃ x, Hid (D6.T.A = x) := ⟨_, hide rfl⟩
                  have hfp := field_p0
                  go_wp2_with fail
                  obtain ⟨Wq, hWq⟩ : ∃ W, wp.alloc (.map #[] 0) = W := ⟨_, rfl⟩
                  rw [hWq] at al9 Q9 tl9 hm2w
                  rw [hWq]
                  clear hWq
                  obtain ⟨m2, hm2⟩ : ∃ k, Hid (wp.heap.size = k) := ⟨_, hide rfl⟩
                  rw [hm2.out] at al9 hm2F hm2w
                  rw [hm2.out]
                  go_at_call 25
                  refine (ndPlace_c p B _ c id _ D6 _ Q9.out.n (by have := hN6.out; omega) bu hbu op hop6 Ls hLs As hAs).mono ?_
                  rintro e w10 ⟨v5, v6, rfl, g5, g6, ho5, ho6, hg5, -, hb10⟩
                  obtain ⟨ao5, cap5, e5, -⟩ := _root_.id ho5
                  obtain ⟨ao6, cap6, e6, -⟩ := _root_.id ho6
                  subst e5 e6
                  have hg5m : Hid (g5 ≠ m ∧ g5 ≠ m2) := hide (by have := tl9.out.lt; have := hm2w.out; omega)
                  have Q10 := hide (Q9.out.below hb10)
                  have tl10 := hide (tl9.out.below hb10)
                  have al10 := hide (al9.out.below hb10)
                  have vL10 := hide ho5.view
                  have hLm5 : Ls.length ≤ 9223372036854775807 := by
                    obtain ⟨_, _, _, q1, q2, _⟩ := ho5
                    unfold maxLen at q2
                    omega
                  clear ho5 ho6 hg5 hb10 Q9 tl9 al9
                  go_wp2_with fail
                  go_loopw [149] (fun i wr => ∃ t : Nat, t ≤ Ls.length ∧ i = .int .i64 t ∧ At5 w wr p B Fc F5 c id (N + 3) D6 [(kc, cfR c)] ∧ ViewL wr (.slice ao5 Ls.length cap5) g5 Ls ∧ MsIs wr m (fun y => (D6.C.T y).n) ∧ MsIs wr m2 (allF (Ls.take t))) (fun i _ => Ls.length - (intOf i).toNat)
                  case atStart => exact ⟨0, Nat.zero_le _, rfl, Q10.out, vL10.out, tl10.out, al10.out⟩
                  case round =>
                    clear Q10 vL10 tl10 al10 hlt
                    obtain ⟨t, ht, rfl, Q7, vT7, tl7, al7⟩ := hrel
                    replace Q7 := hide Q7
                    replace vT7 := hide vT7
                    replace tl7 := hide tl7
                    replace al7 := hide al7
                    by_cases hlt : t < Ls.length
                    · have hlt' : (t : Int) < Ls.length := by omega
                      obtain ⟨-, -, -, k5⟩ := view_atL vT7.out rfl
                      obtain ⟨o5, rfl, hl5, d0, d1, d2, d3, d4⟩ := k5 t hlt
                      have hst := hide (allF_step Ls hlt)
                      have hlb : Ls[t].b ∈ D6.C.A := by
                        have := hLs.out
                        subst this
                        exact allC_at hlt
                      obtain ⟨l, hl⟩ : ∃ l, Ls[t] = l := ⟨_, rfl⟩
                      rw [hl] at d0 d1 d2 d3 d4 hst hlb
                      have hbr := hSI6.out.r _ hlb
                      have hb64 : l.b < 64 := by have := hcf.out.b1; omega
                      have Q8 := hide (Q7.out.below (V' := wr.alloc (.cells #[.int .i64 l.b, .int .i64 l.t.n, .bool l.t.o, .bool l.t.h, .int .i64 l.t.d] 68)) ((Below.refl _ _).alloc (Nat.le_refl _) _))
                      have vT8 := hide (vT7.out.alloc (.cells #[.int .i64 l.b, .int .i64 l.t.n, .bool l.t.o, .bool l.t.h, .int .i64 l.t.d] 68))
                      have tl8 := hide (tl7.out.below (w' := wr.alloc (.cells #[.int .i64 l.b, .int .i64 l.t.n, .bool l.t.o, .bool l.t.h, .int .i64 l.t.d] 68)) ((Below.refl _ _).alloc (Nat.le_refl _) _))
                      have al8 := hide (al7.out.below (w' := wr.alloc (.cells #[.int .i64 l.b, .int .i64 l.t.n, .bool l.t.o, .bool l.t.h, .int .i64 l.t.d] 68)) ((Below.refl _ _).alloc (Nat.le_refl _) _))
                      obtain ⟨w2, r2, al2, f2⟩ := ms_put al8.out hbr.1 hb64 l.t.n
                      have Q2 := hide (Q8.out.frk f2 hm2w.out.1 hm2F.out (fun x hx => by
                        obtain rfl : x = (kc, cfR c) := by simpa using hx
                        exact fun e => hm2w.out.2.1 e.symm))
                      have vT2 := hide (vT8.out.fr f2 (fun _ e => hg5m.out.2 e))
                      have tl2 := hide (tl8.out.fr f2 (fun e => hm2w.out.2.2.1 e.symm))
                      replace al2 := hide al2
                      clear f2 k5 hl hlb hbr hb64 Q8 vT8 tl8 al8 Q7 vT7 tl7 al7
                      go_wp2_with fail
                      go_roundw
                      case rel => exact ⟨t + 1, by omega, by simp, Q2.out, vT2.out, tl2.out, by rw [hst.out]; exact al2.out⟩
                      case measure => simp [intOf]; omega
                    · obtain rfl : t = Ls.length := by omega
                      have al8 := hide (al7.out.alike (g := fun y => (D6.C.T y).n) (fun y => by rw [List.take_of_length_le (Nat.le_refl _), ← hLs.out]; exact (allF_all Q7.out.n.ca.inv y).symm))
                      obtain ⟨wq, hwq⟩ : ∃ wq, wq = wr := ⟨_, rfl⟩
                      subst hwq
                      obtain ⟨lc, xc⟩ := bz_get Q7.out.x (k := kc) (o := cfR c) (by simp)
                      obtain ⟨c0, c1, c2, c3, c4, c5, c6, c7, c8⟩ := cf_at xc
                      have hbl : c.bl ≤ 64 := hcf.out.b1
                      have hbl0 : 1 ≤ c.bl := hcf.out.b0
                      clear xc vT7 al7 ht
                      go_wp2_with fail
                      clear c0 c1 c2 c3 c4 c5 c6 c7 c8 lc
                      go_loopw [162] (fun i wr => ∃ t : Nat, (t : Int) ≤ c.bl ∧ i = .int .i64 t ∧ wr = wq) (fun i _ => c.bl.toNat - (intOf i).toNat)
                      case atStart => exact ⟨0, by omega, rfl, rfl⟩
                      case round =>
                        obtain ⟨t, ht, rfl, rfl⟩ := hrel
                        by_cases hlt4 : (t : Int) < c.bl
                        · have lk1 := ms_look al8.out (x := (t : Int)) ⟨by omega, by omega⟩
                          have lk2 := ms_look tl7.out (x := (t : Int)) ⟨by omega, by omega⟩
                          try dsimp only at lk1 lk2
                          obtain ⟨fv, hfv⟩ : ∃ x, Hid ((D6.C.T (t : Int)).n = x) := ⟨_, hide rfl⟩
                          rw [hfv.out] at lk1 lk2
                          go_wp2_with fail
                          go_roundw
                          case rel => exact ⟨t + 1, by omega, by simp, by simp⟩
                          case measure => simp [intOf]; omega
                        · go_wp2_with fail
                          go_roundw
                          case rel => exact ⟨j + 1, N + 3, F5, D6, by omega, by simp, by have := hN.out; omega, Q7.out, tl7.out, hm6.out, hSI6.out, hop2.out⟩
                          case measure => simp [intOf]; omega
        obtain ⟨n1, n2, n3⟩ := cmpF k1
        by_cases k2 : y.k = 2
        · have hL1 : Hid (tkL c id D y.l y.d0 y.d1 = L) := hide (by rw [← hL.out]; unfold doL; rw [if_neg k1, if_pos k2])
          have hM1 : Hid (tkN c id D y.l = M) := hide (by rw [← hM.out]; unfold doN; rw [if_neg k1, if_pos k2])
          have hDE : nxTake c id D y.l y.d0 y.d1 = nxN c id D y := by unfold nxN; rw [if_neg k1, if_pos k2]
          rw [k2] at a0
          replace k1 := hide k1
          replace k2 := hide k2
          replace hDE := hide hDE
          clear n1 n2 n3
          obtain ⟨fq, hfq⟩ : ∃ x, Hid ((D.C.T y.l.q).n = x) := ⟨_, hide rfl⟩
          have hfb : Hid (0 ≤ fq ∧ fq ≤ 65536) := hide (by have := (hCI.out.out.ok y.l.q).1; have := hSI.out.t y.l.q; have := hcf.out.t1; have := hfq.out; omega)
          have lk := ms_look tl8.out hy3.out
          try dsimp only at lk
          rw [hfq.out] at lk
          obtain ⟨sk, hsk⟩ : ∃ x, Hid (skipX c fq y.l = x) := ⟨_, hide rfl⟩
          go_upto_region 13 with fail
          go_cut [83] (fun s wx => s = .bool sk ∧ wx = V8)
          case first =>
            have hk' := hsk.out
            unfold skipX at hk'
            by_cases q1 : y.l.k = 1
            · obtain ⟨m1, m2, m3⟩ := cmpT q1
              rw [m1, Bool.true_and] at hk'
              obtain ⟨oo, hoo⟩ : ∃ x, Hid (y.l.o = x) := ⟨_, hide rfl⟩
              rw [hoo.out] at a12 hk'
              replace q1 := hide q1
              cases oo
              · rw [Bool.false_or] at hk'
                obtain ⟨mx, hmx⟩ : ∃ x, (if y.l.n < 0 then 0 else y.l.n) = x := ⟨_, rfl⟩
                have hmx2 : max y.l.n 0 = mx := by rw [← hmx]; split <;> omega
                obtain ⟨mn, hmn⟩ : ∃ x, min mx 1048576 = x := ⟨_, rfl⟩
                rw [hmx2, hmn] at hk'
                have hmn2 : (if 1048576 < mx then 1048576 else mx) = mn := by rw [← hmn]; split <;> omega
                have hmn3 : (if mx < 1048576 then mx else 1048576) = mn := by rw [← hmn]; split <;> omega
                have hb0 : Hid (0 ≤ mn ∧ mn ≤ 1048576) := hide (by rw [← hmx] at hmn2; rw [← hmn2]; split <;> split at * <;> omega)
                have hw : wrap64 (fq + mn) = fq + mn := by have := hb0.out; have := hfb.out; unfold wrap64; omega
                obtain ⟨su, hsu⟩ : ∃ x, Hid (fq + mn = x) := ⟨_, hide rfl⟩
                rw [hsu.out] at hk'
                replace hw : wrap64 (fq + mn) = su := hw.trans hsu.out
                by_cases g : c.tt < su
                · have d1 : decide (c.tt < su) = true := by simpa using g
                  obtain rfl : true = sk := by rw [← hk', d1]
                  replace g := hide g
                  clear hk'
                  go_wp2_with fail
                  go_meet
                  exact ⟨rfl, rfl⟩
                · have d1 : decide (c.tt < su) = false := by simpa using g
                  obtain rfl : false = sk := by rw [← hk', d1]
                  replace g := hide g
                  clear hk'
                  go_wp2_with fail
                  go_meet
                  exact ⟨rfl, rfl⟩
              · obtain rfl : true = sk := by rw [← hk']; rfl
                clear hk'
                go_wp2_with fail
                go_meet
                exact ⟨rfl, rfl⟩
            · obtain ⟨m1, m2, m3⟩ := cmpF q1
              obtain rfl : false = sk := by rw [← hk', m1]; rfl
              replace q1 := hide q1
              clear hk'
              go_wp2_with fail
              go_meet
              exact ⟨rfl, rfl⟩
          case rest =>
            obtain ⟨rfl, hwc⟩ := hcut
            subst hwc
            cases sk
            · have hS0 := sm_take (d0 := y.d0) (d1 := y.d1) hcf.out hSI.out hCI.out.out (l := y.l) (fun q1 => skip_room (by rw [hfq.out]; exact hsk.out) q1 (by rw [hfq.out]; exact hfb.out.1) (by have := hcf.out.t1; omega))
              rw [hL1.out, hDE.out] at hS0
              obtain ⟨z, hz⟩ : ∃ z, Hid (letterZ c.n c.bl c.tt ⟨y.l.k, y.l.a, y.l.b, y.l.q, y.l.s, y.l.w, y.l.r, ⟨y.l.n, y.l.o, y.l.h, y.l.d⟩⟩ = z) := ⟨_, hide rfl⟩
              have hz2 : lerr c y.l = z := hz.out
              obtain ⟨tk, htk⟩ : ∃ x, Hid (tkOk c id y.l = x) := ⟨_, hide rfl⟩
              have hln : Hid (tkOk c id y.l = true → 0 ≤ y.l.n ∧ y.l.n ≤ c.tt) := hide (fun e => by
                unfold tkOk at e
                simp only [Bool.and_eq_true, decide_eq_true_eq] at e
                by_cases q : y.l.k = 1
                · have := lerr_tok e.1 q; omega
                · have := (lerr_way e.1).2.2.2.2 q; have := hcf.out.t0; have := hcf.out.n0; omega)
              obtain ⟨cm, hcme⟩ : ∃ cm : Int → Int, cm = cmX c id y.l := ⟨_, rfl⟩
              rw [← hcme] at hS0
              have hS := hide hS0
              have hcm : Hid (∀ x, 0 ≤ cm x ∧ cm x ≤ 65536) := hide (fun x => by
                rw [hcme]
                unfold cmX
                have := hcf.out.t1
                split
                · rename_i e; have := hln.out e.1; omega
                · omega)
              clear lk hS0
              go_upto_region 14 with fail
              go_cut [95] (fun s wx => s = .bool tk ∧ At5 w wx p B Fc F c id N D [(kx, outR (.slice none 0 0) (.slice none 0 0)), (ka, actsO y), (kc, cfR c)] ∧ MsIs wx m (fun x => (D.C.T x).n))
              case first =>
                have ht' := htk.out
                unfold tkOk at ht'
                rw [hz2] at ht'
                by_cases ez : z = 0
                · subst ez
                  by_cases eb : y.l.b = id
                  · obtain ⟨m1, m2, m3⟩ := cmpT eb
                    obtain rfl : true = tk := by rw [← ht', m1]; rfl
                    replace eb := hide eb
                    clear ht' hz2
                    go_wp2_with (go_at_call 27; refine (refCheck_c c.n c.bl c.tt c.cs c.cy c.cc c.cu c.ct c.cp y.l.k y.l.a y.l.b y.l.q y.l.s y.l.w y.l.r y.l.n y.l.o y.l.h y.l.d _ 0 hz).mono ?_; rintro e w7 ⟨rfl, hb7⟩; replace Q8 := hide (Q8.out.below hb7); replace tl8 := hide (tl8.out.below hb7); clear hb7 a0 a1 a2 a3 a4 a5 a6 a7 a8 a9 a10 a11 a12 a13 a14 a15 a16 a17 la; obtain ⟨la, xa⟩ := bz_get Q8.out.x (k := ka) (o := actsO y) (by simp); obtain ⟨a0, a1, a2, a3, a4, a5, a6, a7, a8, a9, a10, a11, a12, a13, a14, a15, a16, a17⟩ := acts_at xa; clear xa)
                    go_meet
                    exact ⟨rfl, Q8.out, tl8.out⟩
                  · obtain ⟨m1, m2, m3⟩ := cmpF eb
                    obtain rfl : false = tk := by rw [← ht', m1]; rfl
                    replace eb := hide eb
                    clear ht' hz2
                    go_wp2_with (go_at_call 27; refine (refCheck_c c.n c.bl c.tt c.cs c.cy c.cc c.cu c.ct c.cp y.l.k y.l.a y.l.b y.l.q y.l.s y.l.w y.l.r y.l.n y.l.o y.l.h y.l.d _ 0 hz).mono ?_; rintro e w7 ⟨rfl, hb7⟩; replace Q8 := hide (Q8.out.below hb7); replace tl8 := hide (tl8.out.below hb7); clear hb7 a0 a1 a2 a3 a4 a5 a6 a7 a8 a9 a10 a11 a12 a13 a14 a15 a16 a17 la; obtain ⟨la, xa⟩ := bz_get Q8.out.x (k := ka) (o := actsO y) (by simp); obtain ⟨a0, a1, a2, a3, a4, a5, a6, a7, a8, a9, a10, a11, a12, a13, a14, a15, a16, a17⟩ := acts_at xa; clear xa)
                    go_meet
                    exact ⟨rfl, Q8.out, tl8.out⟩
                · obtain ⟨m1, m2, m3⟩ := cmpF ez
                  obtain rfl : false = tk := by rw [← ht', m1]; rfl
                  replace ez := hide ez
                  clear ht' hz2
                  go_wp2_with (go_at_call 27; refine (refCheck_c c.n c.bl c.tt c.cs c.cy c.cc c.cu c.ct c.cp y.l.k y.l.a y.l.b y.l.q y.l.s y.l.w y.l.r y.l.n y.l.o y.l.h y.l.d _ z hz).mono ?_; rintro e w7 ⟨rfl, hb7⟩; replace Q8 := hide (Q8.out.below hb7); replace tl8 := hide (tl8.out.below hb7); clear hb7)
                  go_meet
                  exact ⟨rfl, Q8.out, tl8.out⟩
              case rest =>
                clear c0 c1 c2 c3 c4 c5 c6 c7 c8 a0 a1 a2 a3 a4 a5 a6 a7 a8 a9 a10 a11 a12 a13 a14 a15 a16 a17 lc la lx x0 x1 xz
                clear Q8 tl8 hT8
                obtain ⟨rfl, Q8, tl8⟩ := hcut
                replace Q8 := hide Q8
                replace tl8 := hide tl8
                obtain ⟨lc, xc⟩ := bz_get Q8.out.x (k := kc) (o := cfR c) (by simp)
                obtain ⟨c0, c1, c2, c3, c4, c5, c6, c7, c8⟩ := cf_at xc
                obtain ⟨la, xa⟩ := bz_get Q8.out.x (k := ka) (o := actsO y) (by simp)
                obtain ⟨a0, a1, a2, a3, a4, a5, a6, a7, a8, a9, a10, a11, a12, a13, a14, a15, a16, a17⟩ := acts_at xa
                obtain ⟨lx, xx⟩ := bz_get Q8.out.x (k := kx) (o := (outR (.slice none 0 0) (.slice none 0 0))) (by simp)
                obtain ⟨x0, x1, xz⟩ := out_at xx
                clear xc xa xx
                cases tk
                · go_wp2_with fail
                  go_at_call 17
                  refine (ndTake_c p B F c id N D y.l y.d0 y.d1 y.d2 _ Q8.out.n (hide (hT.out.lowB (Q8.out.low hlo.out))) hN6.out hy2 hop.out L hL1 M hM1).mono ?_
                  rintro e w5 ⟨v1, v2, rfl, F5, g1, g2, hO⟩
                  obtain ⟨b1, c1', e1, -⟩ := _root_.id hO.own
                  obtain ⟨b2, c2', e2, -⟩ := _root_.id hO.dn
                  subst e1 e2
                  have Q5 := hide ((Q8.out.step hO.nd hO.st).step (hO.nd.mono (show _ ≤ N + 3 by omega)) (Step.refl _ _))
                  have vT5 := hide hO.own.view
                  have hgm : Hid (g1 ≠ m ∧ g1 ≠ kx) := hide (by have := hO.new; have := tl8.out.lt; have := lx; omega)
                  have tl5 := hide (tl8.out.fr hO.st.fr hm8.out)
                  have hm5 := hide (hO.st.keep hm8.out tl8.out.lt).2.1
                  clear hO
                  clear c0 c1 c2 c3 c4 c5 c6 c7 c8 a0 a1 a2 a3 a4 a5 a6 a7 a8 a9 a10 a11 a12 a13 a14 a15 a16 a17 lc la lx x0 x1 xz
                  obtain ⟨lc, xc⟩ := bz_get Q5.out.x (k := kc) (o := cfR c) (by simp)
                  obtain ⟨c0, c1, c2, c3, c4, c5, c6, c7, c8⟩ := cf_at xc
                  obtain ⟨la, xa⟩ := bz_get Q5.out.x (k := ka) (o := actsO y) (by simp)
                  obtain ⟨a0, a1, a2, a3, a4, a5, a6, a7, a8, a9, a10, a11, a12, a13, a14, a15, a16, a17⟩ := acts_at xa
                  obtain ⟨lx, xx⟩ := bz_get Q5.out.x (k := kx) (o := (outR (.slice none 0 0) (.slice none 0 0))) (by simp)
                  obtain ⟨x0, x1, xz⟩ := out_at xx
                  clear xc xa xx
                  go_upto_region 19 with fail
                  refine name_world ?_
                  intro W6 hW6
                  have Q6 : Hid (At5 w W6 p B Fc F5 c id (N + 3) (nxTake c id D y.l y.d0 y.d1) [(kx, outR (.slice b1 L.length c1') (.slice b2 M.length c2')), (ka, actsO y), (kc, cfR c)]) := by rw [← hW6]; exact hide (out_two Q5.out hne.out.1 hne.out.2)
                  have hF6 : FrS (· = kx) w5 W6 := by rw [← hW6]; exact wrP (wrP (FrS.refl _ _) _) _
                  have vT6 := hide (vT5.out.fr hF6 (fun _ e => hgm.out.2 e))
                  have tl6 := hide (tl5.out.fr hF6 (fun e => hne2.out e))
                  clear hW6 hF6 Q5 vT5 tl5
                  clear c0 c1 c2 c3 c4 c5 c6 c7 c8 a0 a1 a2 a3 a4 a5 a6 a7 a8 a9 a10 a11 a12 a13 a14 a15 a16 a17 lc la lx x0 x1 xz
                  have hm6 := hm5
                  replace tl6 := hide (tl6.out.alike (g := fun x => (D.C.T x).n + cm x) (fun x => by rw [hcme]; unfold cmX; rw [htk.out]; simp))
                  have hnn : Hid (∀ x, 0 ≤ ((nxN c id D y).C.T x).n) := hide (fun x => by have := (Q6.out.n.ca.inv.ok x).1; rw [hDE.out] at this; exact this)
                  replace hcme := hide hcme
                  as_aux_lemma =>
                    obtain ⟨D6, hD6⟩ : ∃ D6, nxN c id D y = D6 := ⟨_, rfl⟩
                    rw [hD6] at hS hnn hop2
                    rw [hDE.out, hD6] at Q6
                    clear hD6
                    have vT7 := hide vT6.out
                    have hgm7 : Hid (g1 ≠ m) := hide hgm.out.1
                    obtain ⟨lx, xx⟩ := bz_get Q6.out.x (k := kx) (o := outR (.slice b1 L.length c1') (.slice b2 M.length c2')) (by simp)
                    obtain ⟨x0, x1, xz⟩ := out_at xx
                    have hLm : L.length ≤ 9223372036854775807 := by
                      obtain ⟨_, _, _, q1, q2, _⟩ := vT7.out
                      unfold maxLen at q2
                      omega
                    clear xx
                    go_wp2_with fail
                    go_loopw [121] (fun i wr => ∃ t : Nat, t ≤ L.length ∧ i = .int .i64 t ∧ At5 w wr p B Fc F5 c id (N + 3) D6 [(kc, cfR c)] ∧ ViewT wr (.slice b1 L.length c1') g1 L ∧ MsIs wr m (fun y => (D.C.T y).n + cm y - smL (L.take t) y)) (fun i _ => L.length - (intOf i).toNat)
                    case atStart => exact ⟨0, Nat.zero_le _, rfl, Q6.out.sub (fun x hx => List.mem_cons_of_mem _ (List.mem_cons_of_mem _ hx)), vT7.out, tl6.out.alike (fun y => by rw [show L.take 0 = [] from rfl, smL_nil]; omega)⟩
                    case round =>
                      clear Q6 vT6 vT7 tl6 x0 x1 xz lx
                      obtain ⟨t, ht, rfl, Q7, vT7, tl7⟩ := hrel
                      replace Q7 := hide Q7
                      replace vT7 := hide vT7
                      replace tl7 := hide tl7
                      by_cases hlt : t < L.length
                      · have hlt' : (t : Int) < L.length := by omega
                        obtain ⟨o1, rfl, hgl, hra⟩ := lt_range vT7.out hlt
                        have hst := hide (smL_step L hlt)
                        obtain ⟨l, hl⟩ : ∃ l, L[t] = l := ⟨_, rfl⟩
                        have hgl2 := hide (hS.out.2.1 l (by rw [← hl]; exact List.getElem_mem hlt))
                        rw [hl] at hra hst
                        clear hl
                        go_upto_region 21 with fail
                        go_step
                        go_step
                        go_step
                        go_step
                        refine wpList_load_mid (by rfl) _ _ (by rfl) g1 (o1 + t * 11) (by rfl) (ltC l) _ hra Tryz.underlying37 (by rfl) (by exact infoLt) ?_
                        clear hra
                        go_step
                        go_step
                        go_step
                        refine wpList_store_new _ _ (by rfl) (by rfl) (by rfl) (by rfl) (by exact infoLt) (by rfl) (ltC_one l) ?_
                        obtain ⟨V9, hV9⟩ : ∃ V, wr.alloc (.cells (ltC l).toArray 37) = V := ⟨_, rfl⟩
                        have Q9 : Hid (At5 w V9 p B Fc F5 c id (N + 3) D6 [(wr.heap.size, ltR l), (kc, cfR c)]) := by rw [← hV9]; exact hide (Q7.out.new (ltR l))
                        have vT9 : Hid (ViewT V9 (.slice (some ⟨g1, o1, none⟩) L.length c1') g1 L) := by rw [← hV9]; exact hide (vT7.out.alloc _)
                        have tl9 : Hid (MsIs V9 m (fun y => (D.C.T y).n + cm y - smL (L.take t) y)) := by rw [← hV9]; exact hide (tl7.out.below ((Below.refl _ _).alloc (Nat.le_refl _) _))
                        have hkl2 : Hid (wr.heap.size ≠ m) := hide (by have := tl7.out.lt; omega)
                        rw [hV9]
                        clear hV9 Q7 vT7 tl7
                        obtain ⟨kl, hkl⟩ : ∃ k, Hid (wr.heap.size = k) := ⟨_, hide rfl⟩
                        rw [hkl.out] at Q9 hkl2
                        rw [hkl.out]
                        obtain ⟨ll, xl⟩ := bz_get Q9.out.x (k := kl) (o := ltR l) (by simp)
                        obtain ⟨l0, l1, l2, l3, l4, l5, l6, l7, l8, l9, l10⟩ := lt_at xl
                        obtain ⟨lc, xc⟩ := bz_get Q9.out.x (k := kc) (o := cfR c) (by simp)
                        obtain ⟨c0, c1, c2, c3, c4, c5, c6, c7, c8⟩ := cf_at xc
                        clear xl xc
                        have hz : Hid (letterZ c.n c.bl c.tt ⟨l.k, l.a, l.b, l.q, l.s, l.w, l.r, ⟨l.n, l.o, l.h, l.d⟩⟩ = 0) := hide hgl2.out.1
                        obtain ⟨m1, m2, m3⟩ := cmpT hgl2.out.2
                        obtain ⟨iq0, iq1⟩ : Hid (0 ≤ l.q) ∧ Hid (l.q < 64) := by have := lerr_q hgl2.out.1; have := hcf.out.b1; exact ⟨hide (by omega), hide (by omega)⟩
                        have iq : Hid (I64 l.q) := hide (by have := iq0.out; have := iq1.out; exact ⟨by omega, by omega⟩)
                        go_upto_region 24 with (go_at_call 27; refine (refCheck_c c.n c.bl c.tt c.cs c.cy c.cc c.cu c.ct c.cp l.k l.a l.b l.q l.s l.w l.r l.n l.o l.h l.d _ 0 hz).mono ?_; rintro e w7 ⟨rfl, hb7⟩; replace Q9 := hide (Q9.out.below hb7); replace vT9 := hide (vT9.out.below hb7); replace tl9 := hide (tl9.out.below hb7); clear hb7 l0 l1 l2 l3 l4 l5 l6 l7 l8 l9 l10 c0 c1 c2 c3 c4 c5 c6 c7 c8 ll lc; obtain ⟨ll, xl⟩ := bz_get Q9.out.x (k := kl) (o := ltR l) (by simp); obtain ⟨l0, l1, l2, l3, l4, l5, l6, l7, l8, l9, l10⟩ := lt_at xl; clear xl)
                        obtain ⟨fq, hfq⟩ : ∃ x, Hid ((D.C.T l.q).n + cm l.q - smL (L.take t) l.q = x) := ⟨_, hide rfl⟩
                        have lk := ms_look tl9.out iq.out
                        try dsimp only at lk
                        rw [hfq.out] at lk
                        have hw : wrap64 (fq - l.n) = fq - l.n := by
                          have a1 := hfq.out
                          have a2 := smL_take hS.out.2.1 t l.q
                          have a3 := hS.out.2.2 l.q
                          have a4 := hcm.out l.q
                          have a5 := (hCI.out).out.ok l.q
                          have a6 := hSI.out.t l.q
                          have a7 := hcf.out.t1
                          have a8 := gl_n hgl2.out
                          have a9 := hS.out.1.t l.q
                          have a10 := hnn.out l.q
                          have a11 := a5.1
                          unfold wrap64
                          omega
                        obtain ⟨fv, hfv⟩ : ∃ x, Hid (fq - l.n = x) := ⟨_, hide rfl⟩
                        replace hw : wrap64 (fq - l.n) = fv := hw.trans hfv.out
                        obtain ⟨w2, r2, tl2, f2⟩ := ms_put tl9.out iq0.out iq1.out fv
                        have Q2 := hide (Q9.out.frk f2 hmw.out.1 hm6.out (fun x hx => by
                          simp only [List.mem_cons, List.not_mem_nil, or_false] at hx
                          rcases hx with rfl | rfl
                          · exact hkl2.out
                          · exact fun e => hmw.out.2 e.symm))
                        have vT2 := hide (vT9.out.fr f2 (fun _ e => hgm7.out e))
                        replace tl2 := hide tl2
                        clear f2
                        go_wp2_with fail
                        go_roundw
                        case rel => exact ⟨t + 1, by omega, by simp, Q2.out.sub (fun x hx => List.mem_cons_of_mem _ hx), vT2.out, tl2.out.alike (fun y => by
                          rw [hst.out y]
                          by_cases e : l.q = y
                          · subst e
                            rw [if_pos rfl, if_pos rfl]
                            have := hfq.out; have := hfv.out; omega
                          · rw [if_neg e, if_neg (fun q => e q.symm)]; omega)⟩
                        case measure => simp [intOf]; omega
                      · obtain rfl : t = L.length := by omega
                        have et : L.take L.length = L := List.take_of_length_le (Nat.le_refl _)
                        have tl8 := hide (tl7.out.alike (g := fun y => (D6.C.T y).n) (fun y => by rw [et]; exact hS.out.2.2 y))
                        have hSI6 := hide hS.out.1
                        clear tl7 vT7 et hS
                        obtain ⟨wp, hwp⟩ : ∃ wp, wp = wr := ⟨_, rfl⟩
                        subst hwp
                        as_aux_lemma =>
                          have own2 : (wp.alloc (.map #[] 0)).ownsMap Tryz.prog 3 heldR wp.heap.size 0 (.map []) := World.ownsMap_made _ _ _ _
                          have al9 := hide (ms_new own2)
                          have Q9 := hide (Q7.out.below ((Below.refl _ _).alloc (Nat.le_refl _) (.map #[] 0)))
                          have tl9 := hide (tl8.out.below ((Below.refl _ _).alloc (Nat.le_refl _) (.map #[] 0)))
                          have hm2F : Hid (¬ Fa p B F5 wp.heap.size) := hide (fun e => by have := Q7.out.n.lt _ e; omega)
                          have hm2w : Hid (w.heap.size ≤ wp.heap.size ∧ wp.heap.size ≠ kc ∧ wp.heap.size ≠ m ∧ wp.heap.size < (wp.alloc (.map #[] 0)).heap.size) := hide ⟨(Q7.out.low hlo.out).size, by have := (bz_get Q7.out.x (k := kc) (o := cfR c) (by simp)).1; omega, by have := tl8.out.lt; omega, by simp⟩
                          clear own2 Q7 tl8
                          obtain ⟨Ls, hLs⟩ : ∃ x, Hid (allC D6.C = x) := ⟨_, hide rfl⟩
                          obtain ⟨bu, hbu⟩ : ∃ x, Hid (D6.P.busy = x) := ⟨_, hide rfl⟩
                          obtain ⟨op, hop6⟩ : ∃ x, Hid (D6.P.op = x) := ⟨_, hide rfl⟩
                          obtain ⟨As, hAs⟩ : ∃ x, Hid (D6.T.A = x) := ⟨_, hide rfl⟩
                          have hfp := field_p0
                          go_wp2_with fail
                          obtain ⟨Wq, hWq⟩ : ∃ W, wp.alloc (.map #[] 0) = W := ⟨_, rfl⟩
                          rw [hWq] at al9 Q9 tl9 hm2w
                          rw [hWq]
                          clear hWq
                          obtain ⟨m2, hm2⟩ : ∃ k, Hid (wp.heap.size = k) := ⟨_, hide rfl⟩
                          rw [hm2.out] at al9 hm2F hm2w
                          rw [hm2.out]
                          go_at_call 25
                          refine (ndPlace_c p B _ c id _ D6 _ Q9.out.n (by have := hN6.out; omega) bu hbu op hop6 Ls hLs As hAs).mono ?_
                          rintro e w10 ⟨v5, v6, rfl, g5, g6, ho5, ho6, hg5, -, hb10⟩
                          obtain ⟨ao5, cap5, e5, -⟩ := _root_.id ho5
                          obtain ⟨ao6, cap6, e6, -⟩ := _root_.id ho6
                          subst e5 e6
                          have hg5m : Hid (g5 ≠ m ∧ g5 ≠ m2) := hide (by have := tl9.out.lt; have := hm2w.out; omega)
                          have Q10 := hide (Q9.out.below hb10)
                          have tl10 := hide (tl9.out.below hb10)
                          have al10 := hide (al9.out.below hb10)
                          have vL10 := hide ho5.view
                          have hLm5 : Ls.length ≤ 9223372036854775807 := by
                            obtain ⟨_, _, _, q1, q2, _⟩ := ho5
                            unfold maxLen at q2
                            omega
                          clear ho5 ho6 hg5 hb10 Q9 tl9 al9
                          go_wp2_with fail
                          go_loopw [149] (fun i wr => ∃ t : Nat, t ≤ Ls.length ∧ i = .int .i64 t ∧ At5 w wr p B Fc F5 c id (N + 3) D6 [(kc, cfR c)] ∧ ViewL wr (.slice ao5 Ls.length cap5) g5 Ls ∧ MsIs wr m (fun y => (D6.C.T y).n) ∧ MsIs wr m2 (allF (Ls.take t))) (fun i _ => Ls.length - (intOf i).toNat)
                          case atStart => exact ⟨0, Nat.zero_le _, rfl, Q10.out, vL10.out, tl10.out, al10.out⟩
                          case round =>
                            clear Q10 vL10 tl10 al10 hlt
                            obtain ⟨t, ht, rfl, Q7, vT7, tl7, al7⟩ := hrel
                            replace Q7 := hide Q7
                            replace vT7 := hide vT7
                            replace tl7 := hide tl7
                            replace al7 := hide al7
                            by_cases hlt : t < Ls.length
                            · have hlt' : (t : Int) < Ls.length := by omega
                              obtain ⟨-, -, -, k5⟩ := view_atL vT7.out rfl
                              obtain ⟨o5, rfl, hl5, d0, d1, d2, d3, d4⟩ := k5 t hlt
                              have hst := hide (allF_step Ls hlt)
                              have hlb : Ls[t].b ∈ D6.C.A := by
                                have := hLs.out
                                subst this
                                exact allC_at hlt
                              obtain ⟨l, hl⟩ : ∃ l, Ls[t] = l := ⟨_, rfl⟩
                              rw [hl] at d0 d1 d2 d3 d4 hst hlb
                              have hbr := hSI6.out.r _ hlb
                              have hb64 : l.b < 64 := by have := hcf.out.b1; omega
                              have Q8 := hide (Q7.out.below (V' := wr.alloc (.cells #[.int .i64 l.b, .int .i64 l.t.n, .bool l.t.o, .bool l.t.h, .int .i64 l.t.d] 68)) ((Below.refl _ _).alloc (Nat.le_refl _) _))
                              have vT8 := hide (vT7.out.alloc (.cells #[.int .i64 l.b, .int .i64 l.t.n, .bool l.t.o, .bool l.t.h, .int .i64 l.t.d] 68))
                              have tl8 := hide (tl7.out.below (w' := wr.alloc (.cells #[.int .i64 l.b, .int .i64 l.t.n, .bool l.t.o, .bool l.t.h, .int .i64 l.t.d] 68)) ((Below.refl _ _).alloc (Nat.le_refl _) _))
                              have al8 := hide (al7.out.below (w' := wr.alloc (.cells #[.int .i64 l.b, .int .i64 l.t.n, .bool l.t.o, .bool l.t.h, .int .i64 l.t.d] 68)) ((Below.refl _ _).alloc (Nat.le_refl _) _))
                              obtain ⟨w2, r2, al2, f2⟩ := ms_put al8.out hbr.1 hb64 l.t.n
                              have Q2 := hide (Q8.out.frk f2 hm2w.out.1 hm2F.out (fun x hx => by
                                obtain rfl : x = (kc, cfR c) := by simpa using hx
                                exact fun e => hm2w.out.2.1 e.symm))
                              have vT2 := hide (vT8.out.fr f2 (fun _ e => hg5m.out.2 e))
                              have tl2 := hide (tl8.out.fr f2 (fun e => hm2w.out.2.2.1 e.symm))
                              replace al2 := hide al2
                              clear f2 k5 hl hlb hbr hb64 Q8 vT8 tl8 al8 Q7 vT7 tl7 al7
                              go_wp2_with fail
                              go_roundw
                              case rel => exact ⟨t + 1, by omega, by simp, Q2.out, vT2.out, tl2.out, by rw [hst.out]; exact al2.out⟩
                              case measure => simp [intOf]; omega
                            · obtain rfl : t = Ls.length := by omega
                              have al8 := hide (al7.out.alike (g := fun y => (D6.C.T y).n) (fun y => by rw [List.take_of_length_le (Nat.le_refl _), ← hLs.out]; exact (allF_all Q7.out.n.ca.inv y).symm))
                              obtain ⟨wq, hwq⟩ : ∃ wq, wq = wr := ⟨_, rfl⟩
                              subst hwq
                              obtain ⟨lc, xc⟩ := bz_get Q7.out.x (k := kc) (o := cfR c) (by simp)
                              obtain ⟨c0, c1, c2, c3, c4, c5, c6, c7, c8⟩ := cf_at xc
                              have hbl : c.bl ≤ 64 := hcf.out.b1
                              have hbl0 : 1 ≤ c.bl := hcf.out.b0
                              clear xc vT7 al7 ht
                              go_wp2_with fail
                              clear c0 c1 c2 c3 c4 c5 c6 c7 c8 lc
                              go_loopw [162] (fun i wr => ∃ t : Nat, (t : Int) ≤ c.bl ∧ i = .int .i64 t ∧ wr = wq) (fun i _ => c.bl.toNat - (intOf i).toNat)
                              case atStart => exact ⟨0, by omega, rfl, rfl⟩
                              case round =>
                                obtain ⟨t, ht, rfl, rfl⟩ := hrel
                                by_cases hlt4 : (t : Int) < c.bl
                                · have lk1 := ms_look al8.out (x := (t : Int)) ⟨by omega, by omega⟩
                                  have lk2 := ms_look tl7.out (x := (t : Int)) ⟨by omega, by omega⟩
                                  try dsimp only at lk1 lk2
                                  obtain ⟨fv, hfv⟩ : ∃ x, Hid ((D6.C.T (t : Int)).n = x) := ⟨_, hide rfl⟩
                                  rw [hfv.out] at lk1 lk2
                                  go_wp2_with fail
                                  go_roundw
                                  case rel => exact ⟨t + 1, by omega, by simp, by simp⟩
                                  case measure => simp [intOf]; omega
                                · go_wp2_with fail
                                  go_roundw
                                  case rel => exact ⟨j + 1, N + 3, F5, D6, by omega, by simp, by have := hN.out; omega, Q7.out, tl7.out, hm6.out, hSI6.out, hop2.out⟩
                                  case measure => simp [intOf]; omega
                · have he : lerr c y.l = 0 := by
                    have e := htk.out
                    unfold tkOk at e
                    simp only [Bool.and_eq_true, decide_eq_true_eq] at e
                    exact e.1
                  have hq0 := lerr_q he
                  have hq64 : y.l.q < 64 := by have := hcf.out.b1; omega
                  have hl := hln.out htk.out
                  have hw : wrap64 (fq + y.l.n) = fq + y.l.n := by have := hfb.out; have := hcf.out.t1; unfold wrap64; omega
                  obtain ⟨fv, hfv⟩ : ∃ x, Hid (fq + y.l.n = x) := ⟨_, hide rfl⟩
                  replace hw : wrap64 (fq + y.l.n) = fv := hw.trans hfv.out
                  have lk := ms_look tl8.out hy3.out
                  try dsimp only at lk
                  rw [hfq.out] at lk
                  obtain ⟨w2, r2, tl2, f2⟩ := ms_put tl8.out hq0.1 hq64 fv
                  have Q2 := hide (Q8.out.frk f2 hmw.out.1 hm8.out (fun x hx => by
                    simp only [List.mem_cons, List.not_mem_nil, or_false] at hx
                    rcases hx with rfl | rfl | rfl
                    · exact fun e => hne2.out e.symm
                    · exact fun e => by have := hkam.out; dsimp only at e; omega
                    · exact fun e => hmw.out.2 e.symm))
                  replace tl2 := hide tl2
                  clear f2 he hq0 hq64 hl
                  go_upto_region 16 with fail
                  clear lk r2 hw
                  clear c0 c1 c2 c3 c4 c5 c6 c7 c8 a0 a1 a2 a3 a4 a5 a6 a7 a8 a9 a10 a11 a12 a13 a14 a15 a16 a17 lc la lx x0 x1 xz
                  clear Q8 tl8
                  have Q8 := Q2
                  have tl8 := tl2
                  clear Q2 tl2
                  obtain ⟨lc, xc⟩ := bz_get Q8.out.x (k := kc) (o := cfR c) (by simp)
                  obtain ⟨c0, c1, c2, c3, c4, c5, c6, c7, c8⟩ := cf_at xc
                  obtain ⟨la, xa⟩ := bz_get Q8.out.x (k := ka) (o := actsO y) (by simp)
                  obtain ⟨a0, a1, a2, a3, a4, a5, a6, a7, a8, a9, a10, a11, a12, a13, a14, a15, a16, a17⟩ := acts_at xa
                  obtain ⟨lx, xx⟩ := bz_get Q8.out.x (k := kx) (o := (outR (.slice none 0 0) (.slice none 0 0))) (by simp)
                  obtain ⟨x0, x1, xz⟩ := out_at xx
                  clear xc xa xx
                  go_wp2_with fail
                  go_at_call 17
                  refine (ndTake_c p B F c id N D y.l y.d0 y.d1 y.d2 _ Q8.out.n (hide (hT.out.lowB (Q8.out.low hlo.out))) hN6.out hy2 hop.out L hL1 M hM1).mono ?_
                  rintro e w5 ⟨v1, v2, rfl, F5, g1, g2, hO⟩
                  obtain ⟨b1, c1', e1, -⟩ := _root_.id hO.own
                  obtain ⟨b2, c2', e2, -⟩ := _root_.id hO.dn
                  subst e1 e2
                  have Q5 := hide ((Q8.out.step hO.nd hO.st).step (hO.nd.mono (show _ ≤ N + 3 by omega)) (Step.refl _ _))
                  have vT5 := hide hO.own.view
                  have hgm : Hid (g1 ≠ m ∧ g1 ≠ kx) := hide (by have := hO.new; have := tl8.out.lt; have := lx; omega)
                  have tl5 := hide (tl8.out.fr hO.st.fr hm8.out)
                  have hm5 := hide (hO.st.keep hm8.out tl8.out.lt).2.1
                  clear hO
                  clear c0 c1 c2 c3 c4 c5 c6 c7 c8 a0 a1 a2 a3 a4 a5 a6 a7 a8 a9 a10 a11 a12 a13 a14 a15 a16 a17 lc la lx x0 x1 xz
                  obtain ⟨lc, xc⟩ := bz_get Q5.out.x (k := kc) (o := cfR c) (by simp)
                  obtain ⟨c0, c1, c2, c3, c4, c5, c6, c7, c8⟩ := cf_at xc
                  obtain ⟨la, xa⟩ := bz_get Q5.out.x (k := ka) (o := actsO y) (by simp)
                  obtain ⟨a0, a1, a2, a3, a4, a5, a6, a7, a8, a9, a10, a11, a12, a13, a14, a15, a16, a17⟩ := acts_at xa
                  obtain ⟨lx, xx⟩ := bz_get Q5.out.x (k := kx) (o := (outR (.slice none 0 0) (.slice none 0 0))) (by simp)
                  obtain ⟨x0, x1, xz⟩ := out_at xx
                  clear xc xa xx
                  go_upto_region 19 with fail
                  refine name_world ?_
                  intro W6 hW6
                  have Q6 : Hid (At5 w W6 p B Fc F5 c id (N + 3) (nxTake c id D y.l y.d0 y.d1) [(kx, outR (.slice b1 L.length c1') (.slice b2 M.length c2')), (ka, actsO y), (kc, cfR c)]) := by rw [← hW6]; exact hide (out_two Q5.out hne.out.1 hne.out.2)
                  have hF6 : FrS (· = kx) w5 W6 := by rw [← hW6]; exact wrP (wrP (FrS.refl _ _) _) _
                  have vT6 := hide (vT5.out.fr hF6 (fun _ e => hgm.out.2 e))
                  have tl6 := hide (tl5.out.fr hF6 (fun e => hne2.out e))
                  clear hW6 hF6 Q5 vT5 tl5
                  clear c0 c1 c2 c3 c4 c5 c6 c7 c8 a0 a1 a2 a3 a4 a5 a6 a7 a8 a9 a10 a11 a12 a13 a14 a15 a16 a17 lc la lx x0 x1 xz
                  have hm6 := hm5
                  replace tl6 := hide (tl6.out.alike (g := fun x => (D.C.T x).n + cm x) (fun x => by rw [hcme]; unfold cmX; rw [htk.out]; have := hfv.out; have := hfq.out; by_cases e : y.l.q = x; subst e; simp; omega; rw [if_neg (fun q => e q.2), if_neg (fun q => e q.symm)]; omega))
                  have hnn : Hid (∀ x, 0 ≤ ((nxN c id D y).C.T x).n) := hide (fun x => by have := (Q6.out.n.ca.inv.ok x).1; rw [hDE.out] at this; exact this)
                  replace hcme := hide hcme
                  as_aux_lemma =>
                    obtain ⟨D6, hD6⟩ : ∃ D6, nxN c id D y = D6 := ⟨_, rfl⟩
                    rw [hD6] at hS hnn hop2
                    rw [hDE.out, hD6] at Q6
                    clear hD6
                    have vT7 := hide vT6.out
                    have hgm7 : Hid (g1 ≠ m) := hide hgm.out.1
                    obtain ⟨lx, xx⟩ := bz_get Q6.out.x (k := kx) (o := outR (.slice b1 L.length c1') (.slice b2 M.length c2')) (by simp)
                    obtain ⟨x0, x1, xz⟩ := out_at xx
                    have hLm : L.length ≤ 9223372036854775807 := by
                      obtain ⟨_, _, _, q1, q2, _⟩ := vT7.out
                      unfold maxLen at q2
                      omega
                    clear xx
                    go_wp2_with fail
                    go_loopw [121] (fun i wr => ∃ t : Nat, t ≤ L.length ∧ i = .int .i64 t ∧ At5 w wr p B Fc F5 c id (N + 3) D6 [(kc, cfR c)] ∧ ViewT wr (.slice b1 L.length c1') g1 L ∧ MsIs wr m (fun y => (D.C.T y).n + cm y - smL (L.take t) y)) (fun i _ => L.length - (intOf i).toNat)
                    case atStart => exact ⟨0, Nat.zero_le _, rfl, Q6.out.sub (fun x hx => List.mem_cons_of_mem _ (List.mem_cons_of_mem _ hx)), vT7.out, tl6.out.alike (fun y => by rw [show L.take 0 = [] from rfl, smL_nil]; omega)⟩
                    case round =>
                      clear Q6 vT6 vT7 tl6 x0 x1 xz lx
                      obtain ⟨t, ht, rfl, Q7, vT7, tl7⟩ := hrel
                      replace Q7 := hide Q7
                      replace vT7 := hide vT7
                      replace tl7 := hide tl7
                      by_cases hlt : t < L.length
                      · have hlt' : (t : Int) < L.length := by omega
                        obtain ⟨o1, rfl, hgl, hra⟩ := lt_range vT7.out hlt
                        have hst := hide (smL_step L hlt)
                        obtain ⟨l, hl⟩ : ∃ l, L[t] = l := ⟨_, rfl⟩
                        have hgl2 := hide (hS.out.2.1 l (by rw [← hl]; exact List.getElem_mem hlt))
                        rw [hl] at hra hst
                        clear hl
                        go_upto_region 21 with fail
                        go_step
                        go_step
                        go_step
                        go_step
                        refine wpList_load_mid (by rfl) _ _ (by rfl) g1 (o1 + t * 11) (by rfl) (ltC l) _ hra Tryz.underlying37 (by rfl) (by exact infoLt) ?_
                        clear hra
                        go_step
                        go_step
                        go_step
                        refine wpList_store_new _ _ (by rfl) (by rfl) (by rfl) (by rfl) (by exact infoLt) (by rfl) (ltC_one l) ?_
                        obtain ⟨V9, hV9⟩ : ∃ V, wr.alloc (.cells (ltC l).toArray 37) = V := ⟨_, rfl⟩
                        have Q9 : Hid (At5 w V9 p B Fc F5 c id (N + 3) D6 [(wr.heap.size, ltR l), (kc, cfR c)]) := by rw [← hV9]; exact hide (Q7.out.new (ltR l))
                        have vT9 : Hid (ViewT V9 (.slice (some ⟨g1, o1, none⟩) L.length c1') g1 L) := by rw [← hV9]; exact hide (vT7.out.alloc _)
                        have tl9 : Hid (MsIs V9 m (fun y => (D.C.T y).n + cm y - smL (L.take t) y)) := by rw [← hV9]; exact hide (tl7.out.below ((Below.refl _ _).alloc (Nat.le_refl _) _))
                        have hkl2 : Hid (wr.heap.size ≠ m) := hide (by have := tl7.out.lt; omega)
                        rw [hV9]
                        clear hV9 Q7 vT7 tl7
                        obtain ⟨kl, hkl⟩ : ∃ k, Hid (wr.heap.size = k) := ⟨_, hide rfl⟩
                        rw [hkl.out] at Q9 hkl2
                        rw [hkl.out]
                        obtain ⟨ll, xl⟩ := bz_get Q9.out.x (k := kl) (o := ltR l) (by simp)
                        obtain ⟨l0, l1, l2, l3, l4, l5, l6, l7, l8, l9, l10⟩ := lt_at xl
                        obtain ⟨lc, xc⟩ := bz_get Q9.out.x (k := kc) (o := cfR c) (by simp)
                        obtain ⟨c0, c1, c2, c3, c4, c5, c6, c7, c8⟩ := cf_at xc
                        clear xl xc
                        have hz : Hid (letterZ c.n c.bl c.tt ⟨l.k, l.a, l.b, l.q, l.s, l.w, l.r, ⟨l.n, l.o, l.h, l.d⟩⟩ = 0) := hide hgl2.out.1
                        obtain ⟨m1, m2, m3⟩ := cmpT hgl2.out.2
                        obtain ⟨iq0, iq1⟩ : Hid (0 ≤ l.q) ∧ Hid (l.q < 64) := by have := lerr_q hgl2.out.1; have := hcf.out.b1; exact ⟨hide (by omega), hide (by omega)⟩
                        have iq : Hid (I64 l.q) := hide (by have := iq0.out; have := iq1.out; exact ⟨by omega, by omega⟩)
                        go_upto_region 24 with (go_at_call 27; refine (refCheck_c c.n c.bl c.tt c.cs c.cy c.cc c.cu c.ct c.cp l.k l.a l.b l.q l.s l.w l.r l.n l.o l.h l.d _ 0 hz).mono ?_; rintro e w7 ⟨rfl, hb7⟩; replace Q9 := hide (Q9.out.below hb7); replace vT9 := hide (vT9.out.below hb7); replace tl9 := hide (tl9.out.below hb7); clear hb7 l0 l1 l2 l3 l4 l5 l6 l7 l8 l9 l10 c0 c1 c2 c3 c4 c5 c6 c7 c8 ll lc; obtain ⟨ll, xl⟩ := bz_get Q9.out.x (k := kl) (o := ltR l) (by simp); obtain ⟨l0, l1, l2, l3, l4, l5, l6, l7, l8, l9, l10⟩ := lt_at xl; clear xl)
                        obtain ⟨fq, hfq⟩ : ∃ x, Hid ((D.C.T l.q).n + cm l.q - smL (L.take t) l.q = x) := ⟨_, hide rfl⟩
                        have lk := ms_look tl9.out iq.out
                        try dsimp only at lk
                        rw [hfq.out] at lk
                        have hw : wrap64 (fq - l.n) = fq - l.n := by
                          have a1 := hfq.out
                          have a2 := smL_take hS.out.2.1 t l.q
                          have a3 := hS.out.2.2 l.q
                          have a4 := hcm.out l.q
                          have a5 := (hCI.out).out.ok l.q
                          have a6 := hSI.out.t l.q
                          have a7 := hcf.out.t1
                          have a8 := gl_n hgl2.out
                          have a9 := hS.out.1.t l.q
                          have a10 := hnn.out l.q
                          have a11 := a5.1
                          unfold wrap64
                          omega
                        obtain ⟨fv, hfv⟩ : ∃ x, Hid (fq - l.n = x) := ⟨_, hide rfl⟩
                        replace hw : wrap64 (fq - l.n) = fv := hw.trans hfv.out
                        obtain ⟨w2, r2, tl2, f2⟩ := ms_put tl9.out iq0.out iq1.out fv
                        have Q2 := hide (Q9.out.frk f2 hmw.out.1 hm6.out (fun x hx => by
                          simp only [List.mem_cons, List.not_mem_nil, or_false] at hx
                          rcases hx with rfl | rfl
                          · exact hkl2.out
                          · exact fun e => hmw.out.2 e.symm))
                        have vT2 := hide (vT9.out.fr f2 (fun _ e => hgm7.out e))
                        replace tl2 := hide tl2
                        clear f2
                        go_wp2_with fail
                        go_roundw
                        case rel => exact ⟨t + 1, by omega, by simp, Q2.out.sub (fun x hx => List.mem_cons_of_mem _ hx), vT2.out, tl2.out.alike (fun y => by
                          rw [hst.out y]
                          by_cases e : l.q = y
                          · subst e
                            rw [if_pos rfl, if_pos rfl]
                            have := hfq.out; have := hfv.out; omega
                          · rw [if_neg e, if_neg (fun q => e q.symm)]; omega)⟩
                        case measure => simp [intOf]; omega
                      · obtain rfl : t = L.length := by omega
                        have et : L.take L.length = L := List.take_of_length_le (Nat.le_refl _)
                        have tl8 := hide (tl7.out.alike (g := fun y => (D6.C.T y).n) (fun y => by rw [et]; exact hS.out.2.2 y))
                        have hSI6 := hide hS.out.1
                        clear tl7 vT7 et hS
                        obtain ⟨wp, hwp⟩ : ∃ wp, wp = wr := ⟨_, rfl⟩
                        subst hwp
                        as_aux_lemma =>
                          have own2 : (wp.alloc (.map #[] 0)).ownsMap Tryz.prog 3 heldR wp.heap.size 0 (.map []) := World.ownsMap_made _ _ _ _
                          have al9 := hide (ms_new own2)
                          have Q9 := hide (Q7.out.below ((Below.refl _ _).alloc (Nat.le_refl _) (.map #[] 0)))
                          have tl9 := hide (tl8.out.below ((Below.refl _ _).alloc (Nat.le_refl _) (.map #[] 0)))
                          have hm2F : Hid (¬ Fa p B F5 wp.heap.size) := hide (fun e => by have := Q7.out.n.lt _ e; omega)
                          have hm2w : Hid (w.heap.size ≤ wp.heap.size ∧ wp.heap.size ≠ kc ∧ wp.heap.size ≠ m ∧ wp.heap.size < (wp.alloc (.map #[] 0)).heap.size) := hide ⟨(Q7.out.low hlo.out).size, by have := (bz_get Q7.out.x (k := kc) (o := cfR c) (by simp)).1; omega, by have := tl8.out.lt; omega, by simp⟩
                          clear own2 Q7 tl8
                          obtain ⟨Ls, hLs⟩ : ∃ x, Hid (allC D6.C = x) := ⟨_, hide rfl⟩
                          obtain ⟨bu, hbu⟩ : ∃ x, Hid (D6.P.busy = x) := ⟨_, hide rfl⟩
                          obtain ⟨op, hop6⟩ : ∃ x, Hid (D6.P.op = x) := ⟨_, hide rfl⟩
                          obtain ⟨As, hAs⟩ : ∃ x, Hid (D6.T.A = x) := ⟨_, hide rfl⟩
                          have hfp := field_p0
                          go_wp2_with fail
                          obtain ⟨Wq, hWq⟩ : ∃ W, wp.alloc (.map #[] 0) = W := ⟨_, rfl⟩
                          rw [hWq] at al9 Q9 tl9 hm2w
                          rw [hWq]
                          clear hWq
                          obtain ⟨m2, hm2⟩ : ∃ k, Hid (wp.heap.size = k) := ⟨_, hide rfl⟩
                          rw [hm2.out] at al9 hm2F hm2w
                          rw [hm2.out]
                          go_at_call 25
                          refine (ndPlace_c p B _ c id _ D6 _ Q9.out.n (by have := hN6.out; omega) bu hbu op hop6 Ls hLs As hAs).mono ?_
                          rintro e w10 ⟨v5, v6, rfl, g5, g6, ho5, ho6, hg5, -, hb10⟩
                          obtain ⟨ao5, cap5, e5, -⟩ := _root_.id ho5
                          obtain ⟨ao6, cap6, e6, -⟩ := _root_.id ho6
                          subst e5 e6
                          have hg5m : Hid (g5 ≠ m ∧ g5 ≠ m2) := hide (by have := tl9.out.lt; have := hm2w.out; omega)
                          have Q10 := hide (Q9.out.below hb10)
                          have tl10 := hide (tl9.out.below hb10)
                          have al10 := hide (al9.out.below hb10)
                          have vL10 := hide ho5.view
                          have hLm5 : Ls.length ≤ 9223372036854775807 := by
                            obtain ⟨_, _, _, q1, q2, _⟩ := ho5
                            unfold maxLen at q2
                            omega
                          clear ho5 ho6 hg5 hb10 Q9 tl9 al9
                          go_wp2_with fail
                          go_loopw [149] (fun i wr => ∃ t : Nat, t ≤ Ls.length ∧ i = .int .i64 t ∧ At5 w wr p B Fc F5 c id (N + 3) D6 [(kc, cfR c)] ∧ ViewL wr (.slice ao5 Ls.length cap5) g5 Ls ∧ MsIs wr m (fun y => (D6.C.T y).n) ∧ MsIs wr m2 (allF (Ls.take t))) (fun i _ => Ls.length - (intOf i).toNat)
                          case atStart => exact ⟨0, Nat.zero_le _, rfl, Q10.out, vL10.out, tl10.out, al10.out⟩
                          case round =>
                            clear Q10 vL10 tl10 al10 hlt
                            obtain ⟨t, ht, rfl, Q7, vT7, tl7, al7⟩ := hrel
                            replace Q7 := hide Q7
                            replace vT7 := hide vT7
                            replace tl7 := hide tl7
                            replace al7 := hide al7
                            by_cases hlt : t < Ls.length
                            · have hlt' : (t : Int) < Ls.length := by omega
                              obtain ⟨-, -, -, k5⟩ := view_atL vT7.out rfl
                              obtain ⟨o5, rfl, hl5, d0, d1, d2, d3, d4⟩ := k5 t hlt
                              have hst := hide (allF_step Ls hlt)
                              have hlb : Ls[t].b ∈ D6.C.A := by
                                have := hLs.out
                                subst this
                                exact allC_at hlt
                              obtain ⟨l, hl⟩ : ∃ l, Ls[t] = l := ⟨_, rfl⟩
                              rw [hl] at d0 d1 d2 d3 d4 hst hlb
                              have hbr := hSI6.out.r _ hlb
                              have hb64 : l.b < 64 := by have := hcf.out.b1; omega
                              have Q8 := hide (Q7.out.below (V' := wr.alloc (.cells #[.int .i64 l.b, .int .i64 l.t.n, .bool l.t.o, .bool l.t.h, .int .i64 l.t.d] 68)) ((Below.refl _ _).alloc (Nat.le_refl _) _))
                              have vT8 := hide (vT7.out.alloc (.cells #[.int .i64 l.b, .int .i64 l.t.n, .bool l.t.o, .bool l.t.h, .int .i64 l.t.d] 68))
                              have tl8 := hide (tl7.out.below (w' := wr.alloc (.cells #[.int .i64 l.b, .int .i64 l.t.n, .bool l.t.o, .bool l.t.h, .int .i64 l.t.d] 68)) ((Below.refl _ _).alloc (Nat.le_refl _) _))
                              have al8 := hide (al7.out.below (w' := wr.alloc (.cells #[.int .i64 l.b, .int .i64 l.t.n, .bool l.t.o, .bool l.t.h, .int .i64 l.t.d] 68)) ((Below.refl _ _).alloc (Nat.le_refl _) _))
                              obtain ⟨w2, r2, al2, f2⟩ := ms_put al8.out hbr.1 hb64 l.t.n
                              have Q2 := hide (Q8.out.frk f2 hm2w.out.1 hm2F.out (fun x hx => by
                                obtain rfl : x = (kc, cfR c) := by simpa using hx
                                exact fun e => hm2w.out.2.1 e.symm))
                              have vT2 := hide (vT8.out.fr f2 (fun _ e => hg5m.out.2 e))
                              have tl2 := hide (tl8.out.fr f2 (fun e => hm2w.out.2.2.1 e.symm))
                              replace al2 := hide al2
                              clear f2 k5 hl hlb hbr hb64 Q8 vT8 tl8 al8 Q7 vT7 tl7 al7
                              go_wp2_with fail
                              go_roundw
                              case rel => exact ⟨t + 1, by omega, by simp, Q2.out, vT2.out, tl2.out, by rw [hst.out]; exact al2.out⟩
                              case measure => simp [intOf]; omega
                            · obtain rfl : t = Ls.length := by omega
                              have al8 := hide (al7.out.alike (g := fun y => (D6.C.T y).n) (fun y => by rw [List.take_of_length_le (Nat.le_refl _), ← hLs.out]; exact (allF_all Q7.out.n.ca.inv y).symm))
                              obtain ⟨wq, hwq⟩ : ∃ wq, wq = wr := ⟨_, rfl⟩
                              subst hwq
                              obtain ⟨lc, xc⟩ := bz_get Q7.out.x (k := kc) (o := cfR c) (by simp)
                              obtain ⟨c0, c1, c2, c3, c4, c5, c6, c7, c8⟩ := cf_at xc
                              have hbl : c.bl ≤ 64 := hcf.out.b1
                              have hbl0 : 1 ≤ c.bl := hcf.out.b0
                              clear xc vT7 al7 ht
                              go_wp2_with fail
                              clear c0 c1 c2 c3 c4 c5 c6 c7 c8 lc
                              go_loopw [162] (fun i wr => ∃ t : Nat, (t : Int) ≤ c.bl ∧ i = .int .i64 t ∧ wr = wq) (fun i _ => c.bl.toNat - (intOf i).toNat)
                              case atStart => exact ⟨0, by omega, rfl, rfl⟩
                              case round =>
                                obtain ⟨t, ht, rfl, rfl⟩ := hrel
                                by_cases hlt4 : (t : Int) < c.bl
                                · have lk1 := ms_look al8.out (x := (t : Int)) ⟨by omega, by omega⟩
                                  have lk2 := ms_look tl7.out (x := (t : Int)) ⟨by omega, by omega⟩
                                  try dsimp only at lk1 lk2
                                  obtain ⟨fv, hfv⟩ : ∃ x, Hid ((D6.C.T (t : Int)).n = x) := ⟨_, hide rfl⟩
                                  rw [hfv.out] at lk1 lk2
                                  go_wp2_with fail
                                  go_roundw
                                  case rel => exact ⟨t + 1, by omega, by simp, by simp⟩
                                  case measure => simp [intOf]; omega
                                · go_wp2_with fail
                                  go_roundw
                                  case rel => exact ⟨j + 1, N + 3, F5, D6, by omega, by simp, by have := hN.out; omega, Q7.out, tl7.out, hm6.out, hSI6.out, hop2.out⟩
                                  case measure => simp [intOf]; omega
            · clear lk
              go_wp2_with fail
              go_roundw
              case rel => exact ⟨j + 1, N, F, D, by omega, by simp, by have := hN.out; omega, Q8.out.sub (fun x hx => List.mem_cons_of_mem _ (List.mem_cons_of_mem _ hx)), tl8.out, hm8.out, hSI.out, hop.out⟩
              case measure => simp [intOf]; omega
        obtain ⟨n4, n5, n6⟩ := cmpF k2
        obtain ⟨cm, hcme⟩ : ∃ cm : Int → Int, cm = fun _ => 0 := ⟨_, rfl⟩
        have hcm : Hid (∀ x, 0 ≤ cm x ∧ cm x ≤ 65536) := hide (fun x => by rw [hcme]; exact ⟨by simp, by simp⟩)
        by_cases k3 : y.k = 3
        · have hL1 : Hid (tiL c id D y.d0 y.d1 = L) := hide (by rw [← hL.out]; unfold doL; rw [if_neg k1, if_neg k2, if_pos k3])
          have hM1 : [] = M := by rw [← hM.out]; unfold doN; rw [if_neg k1, if_neg k2]
          have hDE : nxTi c D = nxN c id D y := by unfold nxN; rw [if_neg k1, if_neg k2, if_pos k3]
          have hS0 := sm_ti hcf.out hSI.out (d0 := y.d0) (d1 := y.d1)
          rw [hL1.out, hDE, ← hcme] at hS0
          have hS := hide hS0
          rw [k3] at a0
          replace k1 := hide k1
          replace k2 := hide k2
          replace k3 := hide k3
          replace hDE := hide hDE
          replace hM1 := hide hM1
          clear n1 n2 n3 n4 n5 n6 hS0
          go_wp2_with fail
          go_at_call 19
          refine (ndTick_c p B F c id N D y.d0 y.d1 y.d2 _ Q8.out.n (by have := hN6.out; omega) hop.out L hL1).mono ?_
          rintro e w5 ⟨v1, v2, rfl, g1, g2, hO⟩
          rw [hM1.out] at hO
          obtain ⟨b1, c1', e1, -⟩ := _root_.id hO.own
          obtain ⟨b2, c2', e2, -⟩ := _root_.id hO.dn
          subst e1 e2
          have Q5 := hide ((Q8.out.step hO.nd hO.st).step (hO.nd.mono (show _ ≤ N + 3 by omega)) (Step.refl _ _))
          have vT5 := hide hO.own.view
          have hgm : Hid (g1 ≠ m ∧ g1 ≠ kx) := hide (by have := hO.new; have := tl8.out.lt; have := lx; omega)
          have tl5 := hide (tl8.out.fr hO.st.fr hm8.out)
          have hm5 := hide (hO.st.keep hm8.out tl8.out.lt).2.1
          clear hO
          clear c0 c1 c2 c3 c4 c5 c6 c7 c8 a0 a1 a2 a3 a4 a5 a6 a7 a8 a9 a10 a11 a12 a13 a14 a15 a16 a17 lc la lx x0 x1 xz
          obtain ⟨lc, xc⟩ := bz_get Q5.out.x (k := kc) (o := cfR c) (by simp)
          obtain ⟨c0, c1, c2, c3, c4, c5, c6, c7, c8⟩ := cf_at xc
          obtain ⟨la, xa⟩ := bz_get Q5.out.x (k := ka) (o := actsO y) (by simp)
          obtain ⟨a0, a1, a2, a3, a4, a5, a6, a7, a8, a9, a10, a11, a12, a13, a14, a15, a16, a17⟩ := acts_at xa
          obtain ⟨lx, xx⟩ := bz_get Q5.out.x (k := kx) (o := (outR (.slice none 0 0) (.slice none 0 0))) (by simp)
          obtain ⟨x0, x1, xz⟩ := out_at xx
          clear xc xa xx
          go_upto_region 19 with fail
          refine name_world ?_
          intro W6 hW6
          have Q6 : Hid (At5 w W6 p B Fc F c id (N + 3) (nxTi c D) [(kx, outR (.slice b1 L.length c1') (.slice b2 M.length c2')), (ka, actsO y), (kc, cfR c)]) := by rw [← hW6]; exact hide (out_two Q5.out hne.out.1 hne.out.2)
          have hF6 : FrS (· = kx) w5 W6 := by rw [← hW6]; exact wrP (wrP (FrS.refl _ _) _) _
          have vT6 := hide (vT5.out.fr hF6 (fun _ e => hgm.out.2 e))
          have tl6 := hide (tl5.out.fr hF6 (fun e => hne2.out e))
          clear hW6 hF6 Q5 vT5 tl5
          clear c0 c1 c2 c3 c4 c5 c6 c7 c8 a0 a1 a2 a3 a4 a5 a6 a7 a8 a9 a10 a11 a12 a13 a14 a15 a16 a17 lc la lx x0 x1 xz
          have hm6 := hm5
          replace tl6 := hide (tl6.out.alike (g := fun x => (D.C.T x).n + cm x) (fun x => by rw [hcme]; simp))
          have hnn : Hid (∀ x, 0 ≤ ((nxN c id D y).C.T x).n) := hide (fun x => by have := (Q6.out.n.ca.inv.ok x).1; rw [hDE.out] at this; exact this)
          replace hcme := hide hcme
          as_aux_lemma =>
            obtain ⟨D6, hD6⟩ : ∃ D6, nxN c id D y = D6 := ⟨_, rfl⟩
            rw [hD6] at hS hnn hop2
            rw [hDE.out, hD6] at Q6
            clear hD6
            have vT7 := hide vT6.out
            have hgm7 : Hid (g1 ≠ m) := hide hgm.out.1
            obtain ⟨lx, xx⟩ := bz_get Q6.out.x (k := kx) (o := outR (.slice b1 L.length c1') (.slice b2 M.length c2')) (by simp)
            obtain ⟨x0, x1, xz⟩ := out_at xx
            have hLm : L.length ≤ 9223372036854775807 := by
              obtain ⟨_, _, _, q1, q2, _⟩ := vT7.out
              unfold maxLen at q2
              omega
            clear xx
            go_wp2_with fail
            go_loopw [121] (fun i wr => ∃ t : Nat, t ≤ L.length ∧ i = .int .i64 t ∧ At5 w wr p B Fc F c id (N + 3) D6 [(kc, cfR c)] ∧ ViewT wr (.slice b1 L.length c1') g1 L ∧ MsIs wr m (fun y => (D.C.T y).n + cm y - smL (L.take t) y)) (fun i _ => L.length - (intOf i).toNat)
            case atStart => exact ⟨0, Nat.zero_le _, rfl, Q6.out.sub (fun x hx => List.mem_cons_of_mem _ (List.mem_cons_of_mem _ hx)), vT7.out, tl6.out.alike (fun y => by rw [show L.take 0 = [] from rfl, smL_nil]; omega)⟩
            case round =>
              clear Q6 vT6 vT7 tl6 x0 x1 xz lx
              obtain ⟨t, ht, rfl, Q7, vT7, tl7⟩ := hrel
              replace Q7 := hide Q7
              replace vT7 := hide vT7
              replace tl7 := hide tl7
              by_cases hlt : t < L.length
              · have hlt' : (t : Int) < L.length := by omega
                obtain ⟨o1, rfl, hgl, hra⟩ := lt_range vT7.out hlt
                have hst := hide (smL_step L hlt)
                obtain ⟨l, hl⟩ : ∃ l, L[t] = l := ⟨_, rfl⟩
                have hgl2 := hide (hS.out.2.1 l (by rw [← hl]; exact List.getElem_mem hlt))
                rw [hl] at hra hst
                clear hl
                go_upto_region 21 with fail
                go_step
                go_step
                go_step
                go_step
                refine wpList_load_mid (by rfl) _ _ (by rfl) g1 (o1 + t * 11) (by rfl) (ltC l) _ hra Tryz.underlying37 (by rfl) (by exact infoLt) ?_
                clear hra
                go_step
                go_step
                go_step
                refine wpList_store_new _ _ (by rfl) (by rfl) (by rfl) (by rfl) (by exact infoLt) (by rfl) (ltC_one l) ?_
                obtain ⟨V9, hV9⟩ : ∃ V, wr.alloc (.cells (ltC l).toArray 37) = V := ⟨_, rfl⟩
                have Q9 : Hid (At5 w V9 p B Fc F c id (N + 3) D6 [(wr.heap.size, ltR l), (kc, cfR c)]) := by rw [← hV9]; exact hide (Q7.out.new (ltR l))
                have vT9 : Hid (ViewT V9 (.slice (some ⟨g1, o1, none⟩) L.length c1') g1 L) := by rw [← hV9]; exact hide (vT7.out.alloc _)
                have tl9 : Hid (MsIs V9 m (fun y => (D.C.T y).n + cm y - smL (L.take t) y)) := by rw [← hV9]; exact hide (tl7.out.below ((Below.refl _ _).alloc (Nat.le_refl _) _))
                have hkl2 : Hid (wr.heap.size ≠ m) := hide (by have := tl7.out.lt; omega)
                rw [hV9]
                clear hV9 Q7 vT7 tl7
                obtain ⟨kl, hkl⟩ : ∃ k, Hid (wr.heap.size = k) := ⟨_, hide rfl⟩
                rw [hkl.out] at Q9 hkl2
                rw [hkl.out]
                obtain ⟨ll, xl⟩ := bz_get Q9.out.x (k := kl) (o := ltR l) (by simp)
                obtain ⟨l0, l1, l2, l3, l4, l5, l6, l7, l8, l9, l10⟩ := lt_at xl
                obtain ⟨lc, xc⟩ := bz_get Q9.out.x (k := kc) (o := cfR c) (by simp)
                obtain ⟨c0, c1, c2, c3, c4, c5, c6, c7, c8⟩ := cf_at xc
                clear xl xc
                have hz : Hid (letterZ c.n c.bl c.tt ⟨l.k, l.a, l.b, l.q, l.s, l.w, l.r, ⟨l.n, l.o, l.h, l.d⟩⟩ = 0) := hide hgl2.out.1
                obtain ⟨m1, m2, m3⟩ := cmpT hgl2.out.2
                obtain ⟨iq0, iq1⟩ : Hid (0 ≤ l.q) ∧ Hid (l.q < 64) := by have := lerr_q hgl2.out.1; have := hcf.out.b1; exact ⟨hide (by omega), hide (by omega)⟩
                have iq : Hid (I64 l.q) := hide (by have := iq0.out; have := iq1.out; exact ⟨by omega, by omega⟩)
                go_upto_region 24 with (go_at_call 27; refine (refCheck_c c.n c.bl c.tt c.cs c.cy c.cc c.cu c.ct c.cp l.k l.a l.b l.q l.s l.w l.r l.n l.o l.h l.d _ 0 hz).mono ?_; rintro e w7 ⟨rfl, hb7⟩; replace Q9 := hide (Q9.out.below hb7); replace vT9 := hide (vT9.out.below hb7); replace tl9 := hide (tl9.out.below hb7); clear hb7 l0 l1 l2 l3 l4 l5 l6 l7 l8 l9 l10 c0 c1 c2 c3 c4 c5 c6 c7 c8 ll lc; obtain ⟨ll, xl⟩ := bz_get Q9.out.x (k := kl) (o := ltR l) (by simp); obtain ⟨l0, l1, l2, l3, l4, l5, l6, l7, l8, l9, l10⟩ := lt_at xl; clear xl)
                obtain ⟨fq, hfq⟩ : ∃ x, Hid ((D.C.T l.q).n + cm l.q - smL (L.take t) l.q = x) := ⟨_, hide rfl⟩
                have lk := ms_look tl9.out iq.out
                try dsimp only at lk
                rw [hfq.out] at lk
                have hw : wrap64 (fq - l.n) = fq - l.n := by
                  have a1 := hfq.out
                  have a2 := smL_take hS.out.2.1 t l.q
                  have a3 := hS.out.2.2 l.q
                  have a4 := hcm.out l.q
                  have a5 := (hCI.out).out.ok l.q
                  have a6 := hSI.out.t l.q
                  have a7 := hcf.out.t1
                  have a8 := gl_n hgl2.out
                  have a9 := hS.out.1.t l.q
                  have a10 := hnn.out l.q
                  have a11 := a5.1
                  unfold wrap64
                  omega
                obtain ⟨fv, hfv⟩ : ∃ x, Hid (fq - l.n = x) := ⟨_, hide rfl⟩
                replace hw : wrap64 (fq - l.n) = fv := hw.trans hfv.out
                obtain ⟨w2, r2, tl2, f2⟩ := ms_put tl9.out iq0.out iq1.out fv
                have Q2 := hide (Q9.out.frk f2 hmw.out.1 hm6.out (fun x hx => by
                  simp only [List.mem_cons, List.not_mem_nil, or_false] at hx
                  rcases hx with rfl | rfl
                  · exact hkl2.out
                  · exact fun e => hmw.out.2 e.symm))
                have vT2 := hide (vT9.out.fr f2 (fun _ e => hgm7.out e))
                replace tl2 := hide tl2
                clear f2
                go_wp2_with fail
                go_roundw
                case rel => exact ⟨t + 1, by omega, by simp, Q2.out.sub (fun x hx => List.mem_cons_of_mem _ hx), vT2.out, tl2.out.alike (fun y => by
                  rw [hst.out y]
                  by_cases e : l.q = y
                  · subst e
                    rw [if_pos rfl, if_pos rfl]
                    have := hfq.out; have := hfv.out; omega
                  · rw [if_neg e, if_neg (fun q => e q.symm)]; omega)⟩
                case measure => simp [intOf]; omega
              · obtain rfl : t = L.length := by omega
                have et : L.take L.length = L := List.take_of_length_le (Nat.le_refl _)
                have tl8 := hide (tl7.out.alike (g := fun y => (D6.C.T y).n) (fun y => by rw [et]; exact hS.out.2.2 y))
                have hSI6 := hide hS.out.1
                clear tl7 vT7 et hS
                obtain ⟨wp, hwp⟩ : ∃ wp, wp = wr := ⟨_, rfl⟩
                subst hwp
                as_aux_lemma =>
                  have own2 : (wp.alloc (.map #[] 0)).ownsMap Tryz.prog 3 heldR wp.heap.size 0 (.map []) := World.ownsMap_made _ _ _ _
                  have al9 := hide (ms_new own2)
                  have Q9 := hide (Q7.out.below ((Below.refl _ _).alloc (Nat.le_refl _) (.map #[] 0)))
                  have tl9 := hide (tl8.out.below ((Below.refl _ _).alloc (Nat.le_refl _) (.map #[] 0)))
                  have hm2F : Hid (¬ Fa p B F wp.heap.size) := hide (fun e => by have := Q7.out.n.lt _ e; omega)
                  have hm2w : Hid (w.heap.size ≤ wp.heap.size ∧ wp.heap.size ≠ kc ∧ wp.heap.size ≠ m ∧ wp.heap.size < (wp.alloc (.map #[] 0)).heap.size) := hide ⟨(Q7.out.low hlo.out).size, by have := (bz_get Q7.out.x (k := kc) (o := cfR c) (by simp)).1; omega, by have := tl8.out.lt; omega, by simp⟩
                  clear own2 Q7 tl8
                  obtain ⟨Ls, hLs⟩ : ∃ x, Hid (allC D6.C = x) := ⟨_, hide rfl⟩
                  obtain ⟨bu, hbu⟩ : ∃ x, Hid (D6.P.busy = x) := ⟨_, hide rfl⟩
                  obtain ⟨op, hop6⟩ : ∃ x, Hid (D6.P.op = x) := ⟨_, hide rfl⟩
                  obtain ⟨As, hAs⟩ : ∃ x, Hid (D6.T.A = x) := ⟨_, hide rfl⟩
                  have hfp := field_p0
                  go_wp2_with fail
                  obtain ⟨Wq, hWq⟩ : ∃ W, wp.alloc (.map #[] 0) = W := ⟨_, rfl⟩
                  rw [hWq] at al9 Q9 tl9 hm2w
                  rw [hWq]
                  clear hWq
                  obtain ⟨m2, hm2⟩ : ∃ k, Hid (wp.heap.size = k) := ⟨_, hide rfl⟩
                  rw [hm2.out] at al9 hm2F hm2w
                  rw [hm2.out]
                  go_at_call 25
                  refine (ndPlace_c p B _ c id _ D6 _ Q9.out.n (by have := hN6.out; omega) bu hbu op hop6 Ls hLs As hAs).mono ?_
                  rintro e w10 ⟨v5, v6, rfl, g5, g6, ho5, ho6, hg5, -, hb10⟩
                  obtain ⟨ao5, cap5, e5, -⟩ := _root_.id ho5
                  obtain ⟨ao6, cap6, e6, -⟩ := _root_.id ho6
                  subst e5 e6
                  have hg5m : Hid (g5 ≠ m ∧ g5 ≠ m2) := hide (by have := tl9.out.lt; have := hm2w.out; omega)
                  have Q10 := hide (Q9.out.below hb10)
                  have tl10 := hide (tl9.out.below hb10)
                  have al10 := hide (al9.out.below hb10)
                  have vL10 := hide ho5.view
                  have hLm5 : Ls.length ≤ 9223372036854775807 := by
                    obtain ⟨_, _, _, q1, q2, _⟩ := ho5
                    unfold maxLen at q2
                    omega
                  clear ho5 ho6 hg5 hb10 Q9 tl9 al9
                  go_wp2_with fail
                  go_loopw [149] (fun i wr => ∃ t : Nat, t ≤ Ls.length ∧ i = .int .i64 t ∧ At5 w wr p B Fc F c id (N + 3) D6 [(kc, cfR c)] ∧ ViewL wr (.slice ao5 Ls.length cap5) g5 Ls ∧ MsIs wr m (fun y => (D6.C.T y).n) ∧ MsIs wr m2 (allF (Ls.take t))) (fun i _ => Ls.length - (intOf i).toNat)
                  case atStart => exact ⟨0, Nat.zero_le _, rfl, Q10.out, vL10.out, tl10.out, al10.out⟩
                  case round =>
                    clear Q10 vL10 tl10 al10 hlt
                    obtain ⟨t, ht, rfl, Q7, vT7, tl7, al7⟩ := hrel
                    replace Q7 := hide Q7
                    replace vT7 := hide vT7
                    replace tl7 := hide tl7
                    replace al7 := hide al7
                    by_cases hlt : t < Ls.length
                    · have hlt' : (t : Int) < Ls.length := by omega
                      obtain ⟨-, -, -, k5⟩ := view_atL vT7.out rfl
                      obtain ⟨o5, rfl, hl5, d0, d1, d2, d3, d4⟩ := k5 t hlt
                      have hst := hide (allF_step Ls hlt)
                      have hlb : Ls[t].b ∈ D6.C.A := by
                        have := hLs.out
                        subst this
                        exact allC_at hlt
                      obtain ⟨l, hl⟩ : ∃ l, Ls[t] = l := ⟨_, rfl⟩
                      rw [hl] at d0 d1 d2 d3 d4 hst hlb
                      have hbr := hSI6.out.r _ hlb
                      have hb64 : l.b < 64 := by have := hcf.out.b1; omega
                      have Q8 := hide (Q7.out.below (V' := wr.alloc (.cells #[.int .i64 l.b, .int .i64 l.t.n, .bool l.t.o, .bool l.t.h, .int .i64 l.t.d] 68)) ((Below.refl _ _).alloc (Nat.le_refl _) _))
                      have vT8 := hide (vT7.out.alloc (.cells #[.int .i64 l.b, .int .i64 l.t.n, .bool l.t.o, .bool l.t.h, .int .i64 l.t.d] 68))
                      have tl8 := hide (tl7.out.below (w' := wr.alloc (.cells #[.int .i64 l.b, .int .i64 l.t.n, .bool l.t.o, .bool l.t.h, .int .i64 l.t.d] 68)) ((Below.refl _ _).alloc (Nat.le_refl _) _))
                      have al8 := hide (al7.out.below (w' := wr.alloc (.cells #[.int .i64 l.b, .int .i64 l.t.n, .bool l.t.o, .bool l.t.h, .int .i64 l.t.d] 68)) ((Below.refl _ _).alloc (Nat.le_refl _) _))
                      obtain ⟨w2, r2, al2, f2⟩ := ms_put al8.out hbr.1 hb64 l.t.n
                      have Q2 := hide (Q8.out.frk f2 hm2w.out.1 hm2F.out (fun x hx => by
                        obtain rfl : x = (kc, cfR c) := by simpa using hx
                        exact fun e => hm2w.out.2.1 e.symm))
                      have vT2 := hide (vT8.out.fr f2 (fun _ e => hg5m.out.2 e))
                      have tl2 := hide (tl8.out.fr f2 (fun e => hm2w.out.2.2.1 e.symm))
                      replace al2 := hide al2
                      clear f2 k5 hl hlb hbr hb64 Q8 vT8 tl8 al8 Q7 vT7 tl7 al7
                      go_wp2_with fail
                      go_roundw
                      case rel => exact ⟨t + 1, by omega, by simp, Q2.out, vT2.out, tl2.out, by rw [hst.out]; exact al2.out⟩
                      case measure => simp [intOf]; omega
                    · obtain rfl : t = Ls.length := by omega
                      have al8 := hide (al7.out.alike (g := fun y => (D6.C.T y).n) (fun y => by rw [List.take_of_length_le (Nat.le_refl _), ← hLs.out]; exact (allF_all Q7.out.n.ca.inv y).symm))
                      obtain ⟨wq, hwq⟩ : ∃ wq, wq = wr := ⟨_, rfl⟩
                      subst hwq
                      obtain ⟨lc, xc⟩ := bz_get Q7.out.x (k := kc) (o := cfR c) (by simp)
                      obtain ⟨c0, c1, c2, c3, c4, c5, c6, c7, c8⟩ := cf_at xc
                      have hbl : c.bl ≤ 64 := hcf.out.b1
                      have hbl0 : 1 ≤ c.bl := hcf.out.b0
                      clear xc vT7 al7 ht
                      go_wp2_with fail
                      clear c0 c1 c2 c3 c4 c5 c6 c7 c8 lc
                      go_loopw [162] (fun i wr => ∃ t : Nat, (t : Int) ≤ c.bl ∧ i = .int .i64 t ∧ wr = wq) (fun i _ => c.bl.toNat - (intOf i).toNat)
                      case atStart => exact ⟨0, by omega, rfl, rfl⟩
                      case round =>
                        obtain ⟨t, ht, rfl, rfl⟩ := hrel
                        by_cases hlt4 : (t : Int) < c.bl
                        · have lk1 := ms_look al8.out (x := (t : Int)) ⟨by omega, by omega⟩
                          have lk2 := ms_look tl7.out (x := (t : Int)) ⟨by omega, by omega⟩
                          try dsimp only at lk1 lk2
                          obtain ⟨fv, hfv⟩ : ∃ x, Hid ((D6.C.T (t : Int)).n = x) := ⟨_, hide rfl⟩
                          rw [hfv.out] at lk1 lk2
                          go_wp2_with fail
                          go_roundw
                          case rel => exact ⟨t + 1, by omega, by simp, by simp⟩
                          case measure => simp [intOf]; omega
                        · go_wp2_with fail
                          go_roundw
                          case rel => exact ⟨j + 1, N + 3, F, D6, by omega, by simp, by have := hN.out; omega, Q7.out, tl7.out, hm6.out, hSI6.out, hop2.out⟩
                          case measure => simp [intOf]; omega
        · obtain ⟨n7, n8, n9⟩ := cmpF k3
          have hL1 : L = [] := by rw [← hL.out]; unfold doL; rw [if_neg k1, if_neg k2, if_neg k3]
          have hM1 : M = [] := by rw [← hM.out]; unfold doN; rw [if_neg k1, if_neg k2]
          have hDE : nxN c id D y = D := by unfold nxN; rw [if_neg k1, if_neg k2, if_neg k3]
          have hS : Hid (SOk c id D (nxN c id D y) cm L) := hide (by rw [hDE, hL1, hcme]; exact SOk.nil hSI.out)
          replace k1 := hide k1
          replace k2 := hide k2
          replace k3 := hide k3
          have hDE2 : Hid (D = nxN c id D y) := hide hDE.symm
          clear hDE
          go_upto_region 19 with fail
          have vv : ViewT V8 (.slice none 0 0) ka [] := (own_nilT la).view
          clear c0 c1 c2 c3 c4 c5 c6 c7 c8 a0 a1 a2 a3 a4 a5 a6 a7 a8 a9 a10 a11 a12 a13 a14 a15 a16 a17 lc la lx x0 x1 xz
          obtain ⟨b1, c1', b2, c2', g1, vT, hgm', Q⟩ : ∃ (b1 : Option Addr) (c1' : Nat) (b2 : Option Addr) (c2' : Nat) (g1 : Nat), ViewT V8 (.slice b1 L.length c1') g1 L ∧ (g1 ≠ m ∧ g1 ≠ kx) ∧ At5 w V8 p B Fc F c id (N + 3) D [(kx, outR (.slice b1 L.length c1') (.slice b2 M.length c2')), (ka, actsO y), (kc, cfR c)] := by
            refine ⟨none, 0, none, 0, ka, ?_, ⟨by have := hkam.out; omega, hne.out.1⟩, ?_⟩
            · rw [hL1]; exact vv
            · rw [hL1, hM1]; exact Q8.out.step (Q8.out.n.mono (by omega)) (Step.refl _ _)
          have vT6 := hide vT
          have hgm := hide hgm'
          have Q6 := hide Q
          have tl6 := hide (tl8.out.alike (g := fun x => (D.C.T x).n + cm x) (fun x => by rw [hcme]; simp))
          have hm6 := hm8
          have hnn : Hid (∀ x, 0 ≤ ((nxN c id D y).C.T x).n) := hide (fun x => by rw [← hDE2.out]; exact (Q6.out.n.ca.inv.ok x).1)
          replace hcme := hide hcme
          replace hL1 := hide hL1
          replace hM1 := hide hM1
          clear vv vT hgm' Q Q8 tl8 hm8 n1 n2 n3 n4 n5 n6 n7 n8 n9
          as_aux_lemma =>
            obtain ⟨D6, hD6⟩ : ∃ D6, nxN c id D y = D6 := ⟨_, rfl⟩
            rw [hD6] at hS hnn hop2
            rw [hDE2.out, hD6] at Q6
            clear hD6
            have vT7 := hide vT6.out
            have hgm7 : Hid (g1 ≠ m) := hide hgm.out.1
            obtain ⟨lx, xx⟩ := bz_get Q6.out.x (k := kx) (o := outR (.slice b1 L.length c1') (.slice b2 M.length c2')) (by simp)
            obtain ⟨x0, x1, xz⟩ := out_at xx
            have hLm : L.length ≤ 9223372036854775807 := by
              obtain ⟨_, _, _, q1, q2, _⟩ := vT7.out
              unfold maxLen at q2
              omega
            clear xx
            go_wp2_with fail
            go_loopw [121] (fun i wr => ∃ t : Nat, t ≤ L.length ∧ i = .int .i64 t ∧ At5 w wr p B Fc F c id (N + 3) D6 [(kc, cfR c)] ∧ ViewT wr (.slice b1 L.length c1') g1 L ∧ MsIs wr m (fun y => (D.C.T y).n + cm y - smL (L.take t) y)) (fun i _ => L.length - (intOf i).toNat)
            case atStart => exact ⟨0, Nat.zero_le _, rfl, Q6.out.sub (fun x hx => List.mem_cons_of_mem _ (List.mem_cons_of_mem _ hx)), vT7.out, tl6.out.alike (fun y => by rw [show L.take 0 = [] from rfl, smL_nil]; omega)⟩
            case round =>
              clear Q6 vT6 vT7 tl6 x0 x1 xz lx
              obtain ⟨t, ht, rfl, Q7, vT7, tl7⟩ := hrel
              replace Q7 := hide Q7
              replace vT7 := hide vT7
              replace tl7 := hide tl7
              by_cases hlt : t < L.length
              · have hlt' : (t : Int) < L.length := by omega
                obtain ⟨o1, rfl, hgl, hra⟩ := lt_range vT7.out hlt
                have hst := hide (smL_step L hlt)
                obtain ⟨l, hl⟩ : ∃ l, L[t] = l := ⟨_, rfl⟩
                have hgl2 := hide (hS.out.2.1 l (by rw [← hl]; exact List.getElem_mem hlt))
                rw [hl] at hra hst
                clear hl
                go_upto_region 21 with fail
                go_step
                go_step
                go_step
                go_step
                refine wpList_load_mid (by rfl) _ _ (by rfl) g1 (o1 + t * 11) (by rfl) (ltC l) _ hra Tryz.underlying37 (by rfl) (by exact infoLt) ?_
                clear hra
                go_step
                go_step
                go_step
                refine wpList_store_new _ _ (by rfl) (by rfl) (by rfl) (by rfl) (by exact infoLt) (by rfl) (ltC_one l) ?_
                obtain ⟨V9, hV9⟩ : ∃ V, wr.alloc (.cells (ltC l).toArray 37) = V := ⟨_, rfl⟩
                have Q9 : Hid (At5 w V9 p B Fc F c id (N + 3) D6 [(wr.heap.size, ltR l), (kc, cfR c)]) := by rw [← hV9]; exact hide (Q7.out.new (ltR l))
                have vT9 : Hid (ViewT V9 (.slice (some ⟨g1, o1, none⟩) L.length c1') g1 L) := by rw [← hV9]; exact hide (vT7.out.alloc _)
                have tl9 : Hid (MsIs V9 m (fun y => (D.C.T y).n + cm y - smL (L.take t) y)) := by rw [← hV9]; exact hide (tl7.out.below ((Below.refl _ _).alloc (Nat.le_refl _) _))
                have hkl2 : Hid (wr.heap.size ≠ m) := hide (by have := tl7.out.lt; omega)
                rw [hV9]
                clear hV9 Q7 vT7 tl7
                obtain ⟨kl, hkl⟩ : ∃ k, Hid (wr.heap.size = k) := ⟨_, hide rfl⟩
                rw [hkl.out] at Q9 hkl2
                rw [hkl.out]
                obtain ⟨ll, xl⟩ := bz_get Q9.out.x (k := kl) (o := ltR l) (by simp)
                obtain ⟨l0, l1, l2, l3, l4, l5, l6, l7, l8, l9, l10⟩ := lt_at xl
                obtain ⟨lc, xc⟩ := bz_get Q9.out.x (k := kc) (o := cfR c) (by simp)
                obtain ⟨c0, c1, c2, c3, c4, c5, c6, c7, c8⟩ := cf_at xc
                clear xl xc
                have hz : Hid (letterZ c.n c.bl c.tt ⟨l.k, l.a, l.b, l.q, l.s, l.w, l.r, ⟨l.n, l.o, l.h, l.d⟩⟩ = 0) := hide hgl2.out.1
                obtain ⟨m1, m2, m3⟩ := cmpT hgl2.out.2
                obtain ⟨iq0, iq1⟩ : Hid (0 ≤ l.q) ∧ Hid (l.q < 64) := by have := lerr_q hgl2.out.1; have := hcf.out.b1; exact ⟨hide (by omega), hide (by omega)⟩
                have iq : Hid (I64 l.q) := hide (by have := iq0.out; have := iq1.out; exact ⟨by omega, by omega⟩)
                go_upto_region 24 with (go_at_call 27; refine (refCheck_c c.n c.bl c.tt c.cs c.cy c.cc c.cu c.ct c.cp l.k l.a l.b l.q l.s l.w l.r l.n l.o l.h l.d _ 0 hz).mono ?_; rintro e w7 ⟨rfl, hb7⟩; replace Q9 := hide (Q9.out.below hb7); replace vT9 := hide (vT9.out.below hb7); replace tl9 := hide (tl9.out.below hb7); clear hb7 l0 l1 l2 l3 l4 l5 l6 l7 l8 l9 l10 c0 c1 c2 c3 c4 c5 c6 c7 c8 ll lc; obtain ⟨ll, xl⟩ := bz_get Q9.out.x (k := kl) (o := ltR l) (by simp); obtain ⟨l0, l1, l2, l3, l4, l5, l6, l7, l8, l9, l10⟩ := lt_at xl; clear xl)
                obtain ⟨fq, hfq⟩ : ∃ x, Hid ((D.C.T l.q).n + cm l.q - smL (L.take t) l.q = x) := ⟨_, hide rfl⟩
                have lk := ms_look tl9.out iq.out
                try dsimp only at lk
                rw [hfq.out] at lk
                have hw : wrap64 (fq - l.n) = fq - l.n := by
                  have a1 := hfq.out
                  have a2 := smL_take hS.out.2.1 t l.q
                  have a3 := hS.out.2.2 l.q
                  have a4 := hcm.out l.q
                  have a5 := (hCI.out).out.ok l.q
                  have a6 := hSI.out.t l.q
                  have a7 := hcf.out.t1
                  have a8 := gl_n hgl2.out
                  have a9 := hS.out.1.t l.q
                  have a10 := hnn.out l.q
                  have a11 := a5.1
                  unfold wrap64
                  omega
                obtain ⟨fv, hfv⟩ : ∃ x, Hid (fq - l.n = x) := ⟨_, hide rfl⟩
                replace hw : wrap64 (fq - l.n) = fv := hw.trans hfv.out
                obtain ⟨w2, r2, tl2, f2⟩ := ms_put tl9.out iq0.out iq1.out fv
                have Q2 := hide (Q9.out.frk f2 hmw.out.1 hm6.out (fun x hx => by
                  simp only [List.mem_cons, List.not_mem_nil, or_false] at hx
                  rcases hx with rfl | rfl
                  · exact hkl2.out
                  · exact fun e => hmw.out.2 e.symm))
                have vT2 := hide (vT9.out.fr f2 (fun _ e => hgm7.out e))
                replace tl2 := hide tl2
                clear f2
                go_wp2_with fail
                go_roundw
                case rel => exact ⟨t + 1, by omega, by simp, Q2.out.sub (fun x hx => List.mem_cons_of_mem _ hx), vT2.out, tl2.out.alike (fun y => by
                  rw [hst.out y]
                  by_cases e : l.q = y
                  · subst e
                    rw [if_pos rfl, if_pos rfl]
                    have := hfq.out; have := hfv.out; omega
                  · rw [if_neg e, if_neg (fun q => e q.symm)]; omega)⟩
                case measure => simp [intOf]; omega
              · obtain rfl : t = L.length := by omega
                have et : L.take L.length = L := List.take_of_length_le (Nat.le_refl _)
                have tl8 := hide (tl7.out.alike (g := fun y => (D6.C.T y).n) (fun y => by rw [et]; exact hS.out.2.2 y))
                have hSI6 := hide hS.out.1
                clear tl7 vT7 et hS
                obtain ⟨wp, hwp⟩ : ∃ wp, wp = wr := ⟨_, rfl⟩
                subst hwp
                as_aux_lemma =>
                  have own2 : (wp.alloc (.map #[] 0)).ownsMap Tryz.prog 3 heldR wp.heap.size 0 (.map []) := World.ownsMap_made _ _ _ _
                  have al9 := hide (ms_new own2)
                  have Q9 := hide (Q7.out.below ((Below.refl _ _).alloc (Nat.le_refl _) (.map #[] 0)))
                  have tl9 := hide (tl8.out.below ((Below.refl _ _).alloc (Nat.le_refl _) (.map #[] 0)))
                  have hm2F : Hid (¬ Fa p B F wp.heap.size) := hide (fun e => by have := Q7.out.n.lt _ e; omega)
                  have hm2w : Hid (w.heap.size ≤ wp.heap.size ∧ wp.heap.size ≠ kc ∧ wp.heap.size ≠ m ∧ wp.heap.size < (wp.alloc (.map #[] 0)).heap.size) := hide ⟨(Q7.out.low hlo.out).size, by have := (bz_get Q7.out.x (k := kc) (o := cfR c) (by simp)).1; omega, by have := tl8.out.lt; omega, by simp⟩
                  clear own2 Q7 tl8
                  obtain ⟨Ls, hLs⟩ : ∃ x, Hid (allC D6.C = x) := ⟨_, hide rfl⟩
                  obtain ⟨bu, hbu⟩ : ∃ x, Hid (D6.P.busy = x) := ⟨_, hide rfl⟩
                  obtain ⟨op, hop6⟩ : ∃ x, Hid (D6.P.op = x) := ⟨_, hide rfl⟩
                  obtain ⟨As, hAs⟩ : ∃ x, Hid (D6.T.A = x) := ⟨_, hide rfl⟩
                  have hfp := field_p0
                  go_wp2_with fail
                  obtain ⟨Wq, hWq⟩ : ∃ W, wp.alloc (.map #[] 0) = W := ⟨_, rfl⟩
                  rw [hWq] at al9 Q9 tl9 hm2w
                  rw [hWq]
                  clear hWq
                  obtain ⟨m2, hm2⟩ : ∃ k, Hid (wp.heap.size = k) := ⟨_, hide rfl⟩
                  rw [hm2.out] at al9 hm2F hm2w
                  rw [hm2.out]
                  go_at_call 25
                  refine (ndPlace_c p B _ c id _ D6 _ Q9.out.n (by have := hN6.out; omega) bu hbu op hop6 Ls hLs As hAs).mono ?_
                  rintro e w10 ⟨v5, v6, rfl, g5, g6, ho5, ho6, hg5, -, hb10⟩
                  obtain ⟨ao5, cap5, e5, -⟩ := _root_.id ho5
                  obtain ⟨ao6, cap6, e6, -⟩ := _root_.id ho6
                  subst e5 e6
                  have hg5m : Hid (g5 ≠ m ∧ g5 ≠ m2) := hide (by have := tl9.out.lt; have := hm2w.out; omega)
                  have Q10 := hide (Q9.out.below hb10)
                  have tl10 := hide (tl9.out.below hb10)
                  have al10 := hide (al9.out.below hb10)
                  have vL10 := hide ho5.view
                  have hLm5 : Ls.length ≤ 9223372036854775807 := by
                    obtain ⟨_, _, _, q1, q2, _⟩ := ho5
                    unfold maxLen at q2
                    omega
                  clear ho5 ho6 hg5 hb10 Q9 tl9 al9
                  go_wp2_with fail
                  go_loopw [149] (fun i wr => ∃ t : Nat, t ≤ Ls.length ∧ i = .int .i64 t ∧ At5 w wr p B Fc F c id (N + 3) D6 [(kc, cfR c)] ∧ ViewL wr (.slice ao5 Ls.length cap5) g5 Ls ∧ MsIs wr m (fun y => (D6.C.T y).n) ∧ MsIs wr m2 (allF (Ls.take t))) (fun i _ => Ls.length - (intOf i).toNat)
                  case atStart => exact ⟨0, Nat.zero_le _, rfl, Q10.out, vL10.out, tl10.out, al10.out⟩
                  case round =>
                    clear Q10 vL10 tl10 al10 hlt
                    obtain ⟨t, ht, rfl, Q7, vT7, tl7, al7⟩ := hrel
                    replace Q7 := hide Q7
                    replace vT7 := hide vT7
                    replace tl7 := hide tl7
                    replace al7 := hide al7
                    by_cases hlt : t < Ls.length
                    · have hlt' : (t : Int) < Ls.length := by omega
                      obtain ⟨-, -, -, k5⟩ := view_atL vT7.out rfl
                      obtain ⟨o5, rfl, hl5, d0, d1, d2, d3, d4⟩ := k5 t hlt
                      have hst := hide (allF_step Ls hlt)
                      have hlb : Ls[t].b ∈ D6.C.A := by
                        have := hLs.out
                        subst this
                        exact allC_at hlt
                      obtain ⟨l, hl⟩ : ∃ l, Ls[t] = l := ⟨_, rfl⟩
                      rw [hl] at d0 d1 d2 d3 d4 hst hlb
                      have hbr := hSI6.out.r _ hlb
                      have hb64 : l.b < 64 := by have := hcf.out.b1; omega
                      have Q8 := hide (Q7.out.below (V' := wr.alloc (.cells #[.int .i64 l.b, .int .i64 l.t.n, .bool l.t.o, .bool l.t.h, .int .i64 l.t.d] 68)) ((Below.refl _ _).alloc (Nat.le_refl _) _))
                      have vT8 := hide (vT7.out.alloc (.cells #[.int .i64 l.b, .int .i64 l.t.n, .bool l.t.o, .bool l.t.h, .int .i64 l.t.d] 68))
                      have tl8 := hide (tl7.out.below (w' := wr.alloc (.cells #[.int .i64 l.b, .int .i64 l.t.n, .bool l.t.o, .bool l.t.h, .int .i64 l.t.d] 68)) ((Below.refl _ _).alloc (Nat.le_refl _) _))
                      have al8 := hide (al7.out.below (w' := wr.alloc (.cells #[.int .i64 l.b, .int .i64 l.t.n, .bool l.t.o, .bool l.t.h, .int .i64 l.t.d] 68)) ((Below.refl _ _).alloc (Nat.le_refl _) _))
                      obtain ⟨w2, r2, al2, f2⟩ := ms_put al8.out hbr.1 hb64 l.t.n
                      have Q2 := hide (Q8.out.frk f2 hm2w.out.1 hm2F.out (fun x hx => by
                        obtain rfl : x = (kc, cfR c) := by simpa using hx
                        exact fun e => hm2w.out.2.1 e.symm))
                      have vT2 := hide (vT8.out.fr f2 (fun _ e => hg5m.out.2 e))
                      have tl2 := hide (tl8.out.fr f2 (fun e => hm2w.out.2.2.1 e.symm))
                      replace al2 := hide al2
                      clear f2 k5 hl hlb hbr hb64 Q8 vT8 tl8 al8 Q7 vT7 tl7 al7
                      go_wp2_with fail
                      go_roundw
                      case rel => exact ⟨t + 1, by omega, by simp, Q2.out, vT2.out, tl2.out, by rw [hst.out]; exact al2.out⟩
                      case measure => simp [intOf]; omega
                    · obtain rfl : t = Ls.length := by omega
                      have al8 := hide (al7.out.alike (g := fun y => (D6.C.T y).n) (fun y => by rw [List.take_of_length_le (Nat.le_refl _), ← hLs.out]; exact (allF_all Q7.out.n.ca.inv y).symm))
                      obtain ⟨wq, hwq⟩ : ∃ wq, wq = wr := ⟨_, rfl⟩
                      subst hwq
                      obtain ⟨lc, xc⟩ := bz_get Q7.out.x (k := kc) (o := cfR c) (by simp)
                      obtain ⟨c0, c1, c2, c3, c4, c5, c6, c7, c8⟩ := cf_at xc
                      have hbl : c.bl ≤ 64 := hcf.out.b1
                      have hbl0 : 1 ≤ c.bl := hcf.out.b0
                      clear xc vT7 al7 ht
                      go_wp2_with fail
                      clear c0 c1 c2 c3 c4 c5 c6 c7 c8 lc
                      go_loopw [162] (fun i wr => ∃ t : Nat, (t : Int) ≤ c.bl ∧ i = .int .i64 t ∧ wr = wq) (fun i _ => c.bl.toNat - (intOf i).toNat)
                      case atStart => exact ⟨0, by omega, rfl, rfl⟩
                      case round =>
                        obtain ⟨t, ht, rfl, rfl⟩ := hrel
                        by_cases hlt4 : (t : Int) < c.bl
                        · have lk1 := ms_look al8.out (x := (t : Int)) ⟨by omega, by omega⟩
                          have lk2 := ms_look tl7.out (x := (t : Int)) ⟨by omega, by omega⟩
                          try dsimp only at lk1 lk2
                          obtain ⟨fv, hfv⟩ : ∃ x, Hid ((D6.C.T (t : Int)).n = x) := ⟨_, hide rfl⟩
                          rw [hfv.out] at lk1 lk2
                          go_wp2_with fail
                          go_roundw
                          case rel => exact ⟨t + 1, by omega, by simp, by simp⟩
                          case measure => simp [intOf]; omega
                        · go_wp2_with fail
                          go_roundw
                          case rel => exact ⟨j + 1, N + 3, F, D6, by omega, by simp, by have := hN.out; omega, Q7.out, tl7.out, hm6.out, hSI6.out, hop2.out⟩
                          case measure => simp [intOf]; omega
    · obtain rfl : j = A.length := by omega
      go_wp2_with fail
      go_ret
      exact ⟨rfl, hB3.out⟩
theorem NodeSums_walk (n bl tt cs cy cc cu ct cp : Int) (id : Int) (v : Value) (A : List Ac) (w : World) (hT : Hid (Tab w)) (h1 : ActsAt w.heap.size w v A) : Calls Tryz.prog 4 #[.agg #[.int .i64 n, .int .i64 bl, .int .i64 tt, .int .i64 cs, .int .i64 cy, .int .i64 cc, .int .i64 cu, .int .i64 ct, .int .i64 cp], .int .i64 id, v] w fun e w' => e = .returned (.bool true) ∧ Below w.heap.size w w' := by
  obtain ⟨ao, cap, rfl, hlc, hmx, hcs⟩ := _root_.id h1
  by_cases h : cfgZ n bl tt cs cy cc cu ct cp = 0 ∧ nodeB id n = true ∧ A.length ≤ 200
  · exact sumsOk_walk ⟨n, bl, tt, cs, cy, cc, cu, ct, cp⟩ id ao cap A w hT (hide h1) (hide h.2.2) (hide h.1) (hide h.2.1)
  · exact sumsNo_walk ⟨n, bl, tt, cs, cy, cc, cu, ct, cp⟩ id ao A.length cap w hT (by unfold maxLen at hmx; omega) h
end Go.Proofs.YtoenjdnccgmhoaaGreatDoor
