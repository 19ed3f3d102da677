/- layer 15: L15Ends, put together. -/
import Derived.Test.YtoenjdnccgmhoaaGreatDoorB43
import Derived.Test.YtoenjdnccgmhoaaGreatDoorZEnMath
import Derived.Test.YtoenjdnccgmhoaaGreatDoorZPairMap
namespace Go.Proofs.YtoenjdnccgmhoaaGreatDoor
open Go.ChangeShapes Go.WideShapes Go.ChangeAt Go.RowKit
set_option linter.unusedSimpArgs false
set_option linter.unusedVariables false
set_option maxRecDepth 10000
attribute [local go_sem, local simp] over_const setCell_drewN alloc_drewN Over.cell Over.frozen lt_s1 lt_s2 lt_s3 le_s0 le_s1 le_s2 le_s3 eq_s0 eq_s1 eq_s2 qe_s0
theorem out_two {w5 : World} {w : World} {p : Nat} {B : Bk} {Fc F : Nat → Prop} {c : Cf} {id : Int} {N : Nat} {D : Nd} {k ka kc : Nat} {x : Ac} {v1 v2 : Value} (h : At5 w w5 p B Fc F c id N D [(k, outR (.slice none 0 0) (.slice none 0 0)), (ka, actsO x), (kc, cfR c)]) (h1 : ka ≠ k) (h2 : kc ≠ k) :
    At5 w ((w5.setCell ⟨k, 0, none⟩ v1).setCell ⟨k, 1, none⟩ v2) p B Fc F c id N D [(k, outR v1 v2), (ka, actsO x), (kc, cfR c)] := by
  have e1 := h.fill (k := k) (cs := #[.slice none 0 0, .slice none 0 0]) (T := 44) (by simp) 0 v1 [(k, outR v1 (.slice none 0 0)), (ka, actsO x), (kc, cfR c)] (fun y hy hn => by
    simp only [List.mem_cons, List.not_mem_nil, or_false] at hy ⊢
    rcases hy with rfl | rfl | rfl
    · exact absurd rfl hn
    · exact .inr (.inl rfl)
    · exact .inr (.inr rfl)) (fun y hy hn => by
    simp only [List.mem_cons, List.not_mem_nil, or_false] at hy
    rcases hy with rfl | rfl | rfl
    · rfl
    · exact absurd hn h1
    · exact absurd hn h2)
  exact e1.fill (k := k) (cs := #[v1, .slice none 0 0]) (T := 44) (by simp) 1 v2 [(k, outR v1 v2), (ka, actsO x), (kc, cfR c)] (fun y hy hn => by
    simp only [List.mem_cons, List.not_mem_nil, or_false] at hy ⊢
    rcases hy with rfl | rfl | rfl
    · exact absurd rfl hn
    · exact .inr (.inl rfl)
    · exact .inr (.inr rfl)) (fun y hy hn => by
    simp only [List.mem_cons, List.not_mem_nil, or_false] at hy
    rcases hy with rfl | rfl | rfl
    · rfl
    · exact absurd hn h1
    · exact absurd hn h2)
set_option maxHeartbeats 4000000 in
theorem endsNo_walk (c : Cf) (id : Int) (ao : Option Addr) (n cap : Nat) (w : World) (hT : Hid (Tab w)) (hn : n ≤ 9223372036854775807) (hno : ¬ (cfgZ c.n c.bl c.tt c.cs c.cy c.cc c.cu c.ct c.cp = 0 ∧ nodeB id c.n = true ∧ n ≤ 200)) : Calls Tryz.prog 7 #[.agg #[.int .i64 c.n, .int .i64 c.bl, .int .i64 c.tt, .int .i64 c.cs, .int .i64 c.cy, .int .i64 c.cc, .int .i64 c.cu, .int .i64 c.ct, .int .i64 c.cp], .int .i64 id, .slice ao n cap] w fun e w' => e = .returned (.bool true) ∧ Below w.heap.size w w' := by
  replace hno := hide hno
  replace hn := hide hn
  go_enter Tryz.func7, Tryz.ntmps7
  go_upto_region 1 with fail
  refine name_world ?_
  intro V hV
  have hB : Hid (Below w.heap.size w V) := by rw [← hV]; exact hide (by all_goals exact belEnd)
  have hX : Hid (V.heap[w.heap.size]? = some (cfR c)) := by rw [← hV]; exact hide (heap_alloc_new w (cfR c))
  clear hV
  obtain ⟨kc, hkc⟩ : ∃ k, Hid (w.heap.size = k) := ⟨_, hide rfl⟩
  rw [hkc.out] at hX
  rw [hkc.out]
  obtain ⟨c0, c1, c2, c3, c4, c5, c6, c7, c8⟩ := cf_at hX.out
  have lc : kc < V.heap.size := (Array.getElem?_eq_some_iff.1 hX.out).1
  go_wp2_with (first | (go_at_call 11; refine (madeNo_c c id ao n cap _ hno.out hn.out).mono ?_; rintro e w1 ⟨rfl, hb1⟩; obtain ⟨x, rfl⟩ := over hb1; clear hb1; have f1 := x.upB kc) | (go_at_call 12; refine (awake15_c _ (hide (hT.out.lowB (hB.out.trans (Below.mono (B := V.heap.size) (by all_goals exact belEnd) hB.out.size))))).mono ?_; rintro e w2 ⟨rfl, hb2⟩; obtain ⟨y, rfl⟩ := over2 hb2; clear hb2))
  go_ret
  refine ⟨rfl, ?_⟩
  exact hB.out.trans (Below.mono (B := V.heap.size) (by all_goals exact belEnd) hB.out.size)
set_option maxHeartbeats 8000000 in
theorem endsOk_walk (c : Cf) (id : Int) (ao : Option Addr) (cap : Nat) (A : List Ac) (w : World) (hT : Hid (Tab w)) (hA : Hid (ActsAt w.heap.size w (.slice ao A.length cap) A)) (hlen : Hid (A.length ≤ 200)) (h0 : Hid (cfgZ c.n c.bl c.tt c.cs c.cy c.cc c.cu c.ct c.cp = 0)) (h1 : Hid (nodeB id c.n = true)) : Calls Tryz.prog 7 #[.agg #[.int .i64 c.n, .int .i64 c.bl, .int .i64 c.tt, .int .i64 c.cs, .int .i64 c.cy, .int .i64 c.cc, .int .i64 c.cu, .int .i64 c.ct, .int .i64 c.cp], .int .i64 id, .slice ao A.length cap] w fun e w' => e = .returned (.bool true) ∧ Below w.heap.size w w' := by
  have hcf := hide (cfOk_of h0.out h1.out)
  have hma : A.length ≤ 9223372036854775807 := by have := hlen.out; omega
  have hAI := hide (acts_i64 hA.out)
  have hAS := hide (acts_i64s hA.out)
  go_enter Tryz.func7, Tryz.ntmps7
  go_upto_region 1 with fail
  refine name_world ?_
  intro V hV
  have hB : Hid (Below w.heap.size w V) := by rw [← hV]; exact hide (by all_goals exact belEnd)
  have hX : Hid (V.heap[w.heap.size]? = some (cfR c)) := by rw [← hV]; exact hide (heap_alloc_new w (cfR c))
  clear hV
  obtain ⟨kc, hkc⟩ : ∃ k, Hid (w.heap.size = k) := ⟨_, hide rfl⟩
  rw [hkc.out] at hX
  rw [hkc.out]
  obtain ⟨c0, c1, c2, c3, c4, c5, c6, c7, c8⟩ := cf_at hX.out
  have lc : kc < V.heap.size := (Array.getElem?_eq_some_iff.1 hX.out).1
  go_upto_region 2 with (go_at_call 11; refine (madeOk_c c id ao A.length cap _ h0 h1 hlen.out).mono ?_; rintro e w1 ⟨p, q0, rfl, B, Fc, hn1, hlo1, hb1⟩; clear c0 c1 c2 c3 c4 c5 c6 c7 c8; replace hn1 := hide hn1; replace hlo1 := hide hlo1; replace hb1 := hide hb1)
  have hB1 : Hid (Below w.heap.size w w1) := hide (hB.out.trans (hb1.out.mono hB.out.size))
  have hlo : Hid (∀ x, Fa p B Fc x → w.heap.size ≤ x) := hide (fun x hx => Nat.le_trans hB.out.size (hlo1.out x hx))
  have Q1 : Hid (At5 w w1 p B Fc Fc c id 0 nd0 [(kc, cfR c)]) := hide ⟨hn1.out, fun x hx => by
    obtain rfl : x = (kc, cfR c) := by simpa using hx
    have e3 := hkc.out
    exact ⟨by dsimp only; omega, Nat.lt_of_lt_of_le lc hb1.out.size, fun e => by have := hlo1.out kc e; omega, (hb1.out.block _ lc).trans hX.out⟩, Step.of_below hB1.out⟩
  clear hn1 hlo1 hb1 lc hX hB
  go_wp2_with fail
  go_at_call 12
  refine (awake15_c _ (hide (hT.out.lowB hB1.out))).mono ?_
  rintro e w2 ⟨rfl, hb2⟩
  have Q2 := hide (Q1.out.below hb2)
  clear hb2 Q1 hB1
  have hmm := @run_makeMap Tryz.prog
  have own0 : w2.alloc (.map #[] 0) |>.ownsMap Tryz.prog 73 heldR w2.heap.size 0 (.map []) := World.ownsMap_made _ _ _ _
  have tl3 := hide (tl_new own0)
  have Q3 := hide (Q2.out.below ((Below.refl _ _).alloc (Nat.le_refl _) (.map #[] 0)))
  have hm3 : Hid (¬ Fa p B Fc w2.heap.size) := hide (fun e => by have := Q2.out.n.lt _ e; omega)
  have hmw : Hid (w.heap.size ≤ w2.heap.size ∧ w2.heap.size ≠ kc) := hide ⟨(Q2.out.low hlo.out).size, by have := (bz_get Q2.out.x (k := kc) (o := cfR c) (by simp)).1; omega⟩
  clear own0 Q2
  obtain ⟨m, hme⟩ : ∃ m, Hid (w2.heap.size = m) := ⟨_, hide rfl⟩
  rw [hme.out] at tl3 hm3 hmw
  have i0 : Hid (EInv nd0 []) := hide ⟨i64_0, fun a ha => absurd ha (by simp [nd0]), fun p hp => absurd hp (by simp)⟩
  go_wp2_with fail
  obtain ⟨w3, hw3⟩ : ∃ W, w2.alloc (.map #[] 0) = W := ⟨_, rfl⟩
  rw [hw3] at tl3 Q3
  rw [hw3, hme.out]
  clear hw3
  go_loopw [35] (fun i wr => ∃ (j N : Nat) (F : Nat → Prop) (D : Nd) (K : List (Int × Int)), j ≤ A.length ∧ i = .int .i64 j ∧ N ≤ 3 * j ∧ K.length ≤ j ∧ At5 w wr p B Fc F c id N D [(kc, cfR c)] ∧ TlIs wr m K ∧ ¬ Fa p B F m ∧ EInv D K) (fun i _ => A.length - (intOf i).toNat)
  case atStart => exact ⟨0, 0, Fc, nd0, [], Nat.zero_le _, rfl, by omega, by simp, Q3.out, tl3.out, hm3.out, i0.out⟩
  case round =>
    clear Q3 tl3 hm3 i0
    obtain ⟨j, N, F, D, K, hj, rfl, hN, hK, Q3, tl3, hm3, hI⟩ := hrel
    obtain ⟨wo, hwo⟩ : ∃ wo, wo = wr := ⟨_, rfl⟩
    subst hwo
    replace Q3 := hide Q3
    replace tl3 := hide tl3
    replace hm3 := hide hm3
    replace hI := hide hI
    replace hN := hide hN
    replace hK := hide hK
    have hB3 := hide (Q3.out.low hlo.out)
    by_cases hlt : j < A.length
    · have hlt' : (j : Int) < A.length := by omega
      obtain ⟨b, o', rfl, hbB, hbl, hra⟩ := acts_range (hA.out.below hB3.out) hlt
      obtain ⟨y, hy⟩ : ∃ y, A[j] = y := ⟨_, rfl⟩
      have hym : y ∈ A := by rw [← hy]; exact List.getElem_mem hlt
      obtain ⟨hy1, hy2⟩ := hAI.out y hym
      have hy3 := hAS.out y hym
      rw [hy] at hra
      have hE := en_do (x := y) hcf.out hI.out hy1 hy3
      obtain ⟨L, hL⟩ : ∃ L, Hid (doL c id D y = L) := ⟨_, hide rfl⟩
      obtain ⟨M, hM⟩ : ∃ L, Hid (doN c id D y = L) := ⟨_, hide rfl⟩
      rw [hL.out] at hE
      have hEO := hide hE.1
      have hak0 := hide hE.2
      have hak1 : Hid (ackN L ≤ 1) := hide (by rw [hE.2]; unfold ackX; split <;> omega)
      have hK2 : Hid (K.length + 1 ≤ 2000) := hide (by have := hK.out; have := hlen.out; omega)
      have hN6 : Hid (N + 3 ≤ 2000) := hide (by have := hN.out; have := hlen.out; omega)
      have hop : Hid (I64 D.P.op.b) := hide hI.out.op
      replace hy2 := hide hy2
      clear hy hym hy1 hy3 hE hI
      as_aux_lemma =>
        go_upto_region 7 with fail
        go_step
        go_step
        go_step
        go_step
        refine wpList_load_mid (by rfl) _ _ (by rfl) b (o' + j * 18) (by rfl) (actC y) _ hra Tryz.underlying40 (by rfl) (by exact infoAc) ?_
        clear hra
        go_step
        go_step
        go_step
        refine wpList_store_new _ _ (by rfl) (by rfl) (by rfl) (by rfl) (by exact infoAc) (by rfl) (actC_one y) ?_
        obtain ⟨V7, hV7⟩ : ∃ V, wo.alloc (.cells (actC y).toArray 40) = V := ⟨_, rfl⟩
        have Q7 : Hid (At5 w V7 p B Fc F c id N D [(wo.heap.size, actsO y), (kc, cfR c)]) := by rw [← hV7]; exact hide (Q3.out.new (actsO y))
        have tl7 : Hid (TlIs V7 m K) := by rw [← hV7]; exact hide (tl3.out.below ((Below.refl _ _).alloc (Nat.le_refl _) _))
        have hkam : Hid (wo.heap.size < V7.heap.size ∧ kc < wo.heap.size ∧ m < wo.heap.size) := hide ⟨by rw [← hV7]; simp, (bz_get Q3.out.x (k := kc) (o := cfR c) (by simp)).1, tl3.out.lt⟩
        rw [hV7]
        clear hV7 Q3 tl3
        obtain ⟨ka, hka⟩ : ∃ k, Hid (wo.heap.size = k) := ⟨_, hide rfl⟩
        rw [hka.out] at Q7 hkam
        rw [hka.out]
        go_upto_region 9 with fail
        obtain ⟨V8, hV8⟩ : ∃ V, V7.alloc (outR (.slice none 0 0) (.slice none 0 0)) = V := ⟨_, rfl⟩
        have Q8 : Hid (At5 w V8 p B Fc F c id N D [(V7.heap.size, outR (.slice none 0 0) (.slice none 0 0)), (ka, actsO y), (kc, cfR c)]) := by rw [← hV8]; exact hide (Q7.out.new _)
        have tl8 : Hid (TlIs V8 m K) := by rw [← hV8]; exact hide (tl7.out.below ((Below.refl _ _).alloc (Nat.le_refl _) _))
        dsimp only [outR] at hV8
        rw [hV8]
        clear hV8 Q7 tl7
        obtain ⟨kx, hkx⟩ : ∃ k, Hid (V7.heap.size = k) := ⟨_, hide rfl⟩
        rw [hkx.out] at Q8 hkam
        rw [hkx.out]
        have hne : Hid (ka ≠ kx ∧ kc ≠ kx) := hide (by have := hkam.out; omega)
        have hne2 : Hid (m ≠ kx) := hide (by have := hkam.out; omega)
        have hm8 := hm3
        have hT8 := hide (hT.out.lowB (Q8.out.low hlo.out))
        clear hm3
        obtain ⟨lc, xc⟩ := bz_get Q8.out.x (k := kc) (o := cfR c) (by simp)
        obtain ⟨c0, c1, c2, c3, c4, c5, c6, c7, c8⟩ := cf_at xc
        obtain ⟨la, xa⟩ := bz_get Q8.out.x (k := ka) (o := actsO y) (by simp)
        obtain ⟨a0, a1, a2, a3, a4, a5, a6, a7, a8, a9, a10, a11, a12, a13, a14, a15, a16, a17⟩ := acts_at xa
        obtain ⟨lx, xx⟩ := bz_get Q8.out.x (k := kx) (o := (outR (.slice none 0 0) (.slice none 0 0))) (by simp)
        obtain ⟨x0, x1, xz⟩ := out_at xx
        clear xc xa xx
        by_cases k1 : y.k = 1
        · have hL1 : Hid (isL c id D y.op y.d0 y.d1 = L) := hide (by rw [← hL.out]; unfold doL; rw [if_pos k1])
          have hM1 : Hid (isN c id D y.op = M) := hide (by rw [← hM.out]; unfold doN; rw [if_pos k1])
          have hDE : nxIs c id D y.op = nxN c id D y := by unfold nxN; rw [if_pos k1]
          have hak : Hid (ackN L = 0) := hide (by rw [hak0.out]; unfold ackX; rw [if_neg (by rw [k1]; rintro ⟨e, -⟩; exact absurd e (by decide))])
          obtain ⟨ok, hok⟩ : ∃ ok, Hid (isOk c D y.op = ok) := ⟨_, hide rfl⟩
          rw [k1] at a0
          replace k1 := hide k1
          replace hDE := hide hDE
          go_wp2_with fail
          go_at_call 15
          refine (ndIssue_c p B F c id N D y.op y.d0 y.d1 y.d2 _ Q8.out.n (by have := hN6.out; omega) ok hok L hL1 M hM1).mono ?_
          rintro e w5 ⟨v1, v2, rfl, F5, g1, g2, hO⟩
          obtain ⟨b1, c1', e1, -⟩ := _root_.id hO.own
          obtain ⟨b2, c2', e2, -⟩ := _root_.id hO.dn
          subst e1 e2
          have Q5 := hide ((Q8.out.step hO.nd hO.st).step (hO.nd.mono (show _ ≤ N + 3 by omega)) (Step.refl _ _))
          have vT5 := hide hO.own.view
          have hgm : Hid (g1 ≠ m ∧ g1 ≠ kx) := hide (by have := hO.new; have := tl8.out.lt; have := lx; omega)
          have tl5 := hide (tl8.out.fr hO.st.fr hm8.out)
          have hm5 := hide (hO.st.keep hm8.out tl8.out.lt).2.1
          clear hO
          clear c0 c1 c2 c3 c4 c5 c6 c7 c8 a0 a1 a2 a3 a4 a5 a6 a7 a8 a9 a10 a11 a12 a13 a14 a15 a16 a17 lc la lx x0 x1 xz
          obtain ⟨lc, xc⟩ := bz_get Q5.out.x (k := kc) (o := cfR c) (by simp)
          obtain ⟨c0, c1, c2, c3, c4, c5, c6, c7, c8⟩ := cf_at xc
          obtain ⟨la, xa⟩ := bz_get Q5.out.x (k := ka) (o := actsO y) (by simp)
          obtain ⟨a0, a1, a2, a3, a4, a5, a6, a7, a8, a9, a10, a11, a12, a13, a14, a15, a16, a17⟩ := acts_at xa
          obtain ⟨lx, xx⟩ := bz_get Q5.out.x (k := kx) (o := (outR (.slice none 0 0) (.slice none 0 0))) (by simp)
          obtain ⟨x0, x1, xz⟩ := out_at xx
          clear xc xa xx
          go_upto_region 19 with fail
          refine name_world ?_
          intro W6 hW6
          have Q6 : Hid (At5 w W6 p B Fc F5 c id (N + 3) (nxIs c id D y.op) [(kx, outR (.slice b1 L.length c1') (.slice b2 M.length c2')), (ka, actsO y), (kc, cfR c)]) := by rw [← hW6]; exact hide (out_two Q5.out hne.out.1 hne.out.2)
          have hF6 : FrS (· = kx) w5 W6 := by rw [← hW6]; exact wrP (wrP (FrS.refl _ _) _) _
          have vT6 := hide (vT5.out.fr hF6 (fun _ e => hgm.out.2 e))
          have tl6 := hide (tl5.out.fr hF6 (fun e => hne2.out e))
          clear hW6 hF6 Q5 vT5 tl5
          clear c0 c1 c2 c3 c4 c5 c6 c7 c8 a0 a1 a2 a3 a4 a5 a6 a7 a8 a9 a10 a11 a12 a13 a14 a15 a16 a17 lc la lx x0 x1 xz
          have hm6 := hm5
          as_aux_lemma =>
            obtain ⟨D6, hD6⟩ : ∃ D6, nxN c id D y = D6 := ⟨_, rfl⟩
            rw [hD6] at hEO
            rw [hDE.out, hD6] at Q6
            clear hD6
            have vT7 := hide vT6.out
            have hgm7 : Hid (g1 ≠ m) := hide hgm.out.1
            obtain ⟨lx, xx⟩ := bz_get Q6.out.x (k := kx) (o := outR (.slice b1 L.length c1') (.slice b2 M.length c2')) (by simp)
            obtain ⟨x0, x1, xz⟩ := out_at xx
            have hLm : L.length ≤ 9223372036854775807 := by
              obtain ⟨_, _, _, q1, q2, _⟩ := vT7.out
              unfold maxLen at q2
              omega
            clear xx
            go_wp2_with fail
            go_loopw [14, 87] (fun ak i wr => ∃ t : Nat, t ≤ L.length ∧ i = .int .i64 t ∧ ak = .int .i64 ((ackN L : Int) - (ackN (L.take t) : Int)) ∧ At5 w wr p B Fc F5 c id (N + 3) D6 [(kc, cfR c)] ∧ ViewT wr (.slice b1 L.length c1') g1 L ∧ TlIs wr m (dnL (L.take t) ++ K)) (fun _ i _ => L.length - (intOf i).toNat)
            case atStart => exact ⟨0, Nat.zero_le _, rfl, by rw [show ackN (L.take 0) = 0 from rfl, hak.out]; rfl, Q6.out.sub (fun x hx => List.mem_cons_of_mem _ (List.mem_cons_of_mem _ hx)), vT7.out, tl6.out⟩
            case round =>
              clear Q6 vT6 vT7 tl6 x0 x1 xz lx
              obtain ⟨t, ht, rfl, rfl, Q7, vT7, tl7⟩ := hrel
              replace Q7 := hide Q7
              replace vT7 := hide vT7
              replace tl7 := hide tl7
              by_cases hlt : t < L.length
              · have hlt' : (t : Int) < L.length := by omega
                obtain ⟨o1, rfl, hgl, hra⟩ := lt_range vT7.out hlt
                have hst := ackN_step L hlt
                have hdn := dnL_step L hlt
                have hat := hide (fun h5 => dnL_at hEO.out.1 hlt h5)
                have hle := ackN_le L (t + 1)
                obtain ⟨l, hl⟩ : ∃ l, L[t] = l := ⟨_, rfl⟩
                rw [hl] at hra hst hdn hat
                obtain ⟨a, ha⟩ : ∃ a, Hid ((ackN L : Int) - (ackN (L.take t) : Int) = a) := ⟨_, hide rfl⟩
                rw [ha.out]
                replace hst := hide hst
                replace hdn := hide hdn
                replace hle := hide hle
                clear hl
                go_upto_region 21 with fail
                go_step
                go_step
                go_step
                go_step
                refine wpList_load_mid (by rfl) _ _ (by rfl) g1 (o1 + t * 11) (by rfl) (ltC l) _ hra Tryz.underlying37 (by rfl) (by exact infoLt) ?_
                clear hra
                go_step
                go_step
                go_step
                refine wpList_store_new _ _ (by rfl) (by rfl) (by rfl) (by rfl) (by exact infoLt) (by rfl) (ltC_one l) ?_
                obtain ⟨V9, hV9⟩ : ∃ V, wr.alloc (.cells (ltC l).toArray 37) = V := ⟨_, rfl⟩
                have Q9 : Hid (At5 w V9 p B Fc F5 c id (N + 3) D6 [(wr.heap.size, ltR l), (kc, cfR c)]) := by rw [← hV9]; exact hide (Q7.out.new (ltR l))
                have vT9 : Hid (ViewT V9 (.slice (some ⟨g1, o1, none⟩) L.length c1') g1 L) := by rw [← hV9]; exact hide (vT7.out.alloc _)
                have tl9 : Hid (TlIs V9 m (dnL (L.take t) ++ K)) := by rw [← hV9]; exact hide (tl7.out.below ((Below.refl _ _).alloc (Nat.le_refl _) _))
                have hkl2 : Hid (wr.heap.size ≠ m) := hide (by have := tl7.out.lt; omega)
                rw [hV9]
                clear hV9 Q7 vT7 tl7
                obtain ⟨kl, hkl⟩ : ∃ k, Hid (wr.heap.size = k) := ⟨_, hide rfl⟩
                rw [hkl.out] at Q9 hkl2
                rw [hkl.out]
                obtain ⟨ll, xl⟩ := bz_get Q9.out.x (k := kl) (o := ltR l) (by simp)
                obtain ⟨l0, l1, l2, l3, l4, l5, l6, l7, l8, l9, l10⟩ := lt_at xl
                clear xl
                by_cases k7 : l.k = 7
                · rw [if_pos k7] at hst
                  rw [if_neg (show ¬ l.k = 5 by omega)] at hdn
                  rw [k7] at l0
                  have hw : wrap64 (a - 1) = a - 1 := by have := ha.out; have := hst.out; have := hle.out; have := hak1.out; unfold wrap64; omega
                  replace k7 := hide k7
                  go_wp2_with fail
                  go_roundw
                  case rel => exact ⟨t + 1, by omega, by simp, by rw [hst.out, hw, ← ha.out]; simp; omega, Q9.out.sub (fun x hx => List.mem_cons_of_mem _ hx), vT9.out, by rw [hdn.out, List.append_nil]; exact tl9.out⟩
                  case measure => simp [intOf]; omega
                · rw [if_neg k7] at hst
                  obtain ⟨d1, d2, d3⟩ := cmpF k7
                  replace k7 := hide k7
                  by_cases k5 : l.k = 5
                  · rw [if_pos k5] at hdn
                    rw [k5] at l0
                    obtain ⟨q1, q2⟩ := hat.out k5
                    obtain ⟨i1, i2, i3⟩ := hEO.out.2.2 (l.q, l.s) (by rw [q2]; simp)
                    rw [q1, List.nil_append] at tl9
                    rw [q1, List.nil_append] at hdn
                    have lk := tl_look tl9.out i1 i2 i3
                    obtain ⟨w2, r2, tl2, f2⟩ := tl_put tl9.out i1 i2 hK2.out
                    dsimp only [pairV] at lk r2
                    have Q2 := hide (Q9.out.frk f2 hmw.out.1 hm6.out (fun x hx => by
                      simp only [List.mem_cons, List.not_mem_nil, or_false] at hx
                      rcases hx with rfl | rfl
                      · exact hkl2.out
                      · exact fun e => hmw.out.2 e.symm))
                    have vT2 := hide (vT9.out.fr f2 (fun _ e => hgm7.out e))
                    replace tl2 := hide tl2
                    replace k5 := hide k5
                    replace i1 := hide i1
                    replace i2 := hide i2
                    clear q1 q2 i3 f2
                    go_wp2_with fail
                    go_roundw
                    case rel => exact ⟨t + 1, by omega, by simp, by rw [hst.out, Nat.add_zero, ha.out], Q2.out.sub (fun x hx => List.mem_cons_of_mem _ hx), vT2.out, by rw [hdn.out]; exact tl2.out⟩
                    case measure => simp [intOf]; omega
                  · rw [if_neg k5] at hdn
                    obtain ⟨d4, d5, d6⟩ := cmpF k5
                    replace k5 := hide k5
                    go_wp2_with fail
                    go_roundw
                    case rel => exact ⟨t + 1, by omega, by simp, by rw [hst.out, Nat.add_zero, ha.out], Q9.out.sub (fun x hx => List.mem_cons_of_mem _ hx), vT9.out, by rw [hdn.out, List.append_nil]; exact tl9.out⟩
                    case measure => simp [intOf]; omega
              · obtain rfl : t = L.length := by omega
                have et : L.take L.length = L := List.take_of_length_le (Nat.le_refl _)
                rw [et] at tl7
                have e0 : (ackN L : Int) - (ackN (L.take L.length) : Int) = 0 := by rw [et]; omega
                rw [e0]
                replace e0 := hide e0
                go_wp2_with fail
                go_roundw
                case rel => exact ⟨j + 1, N + 3, F5, D6, dnL L ++ K, by omega, by simp, by have := hN.out; omega, by have := hK.out; have := hEO.out.1; simp only [List.length_append]; omega, Q7.out, tl7.out, hm6.out, hEO.out.2.1⟩
                case measure => simp [intOf]; omega
        obtain ⟨n1, n2, n3⟩ := cmpF k1
        by_cases k2 : y.k = 2
        · have hL1 : Hid (tkL c id D y.l y.d0 y.d1 = L) := hide (by rw [← hL.out]; unfold doL; rw [if_neg k1, if_pos k2])
          have hM1 : Hid (tkN c id D y.l = M) := hide (by rw [← hM.out]; unfold doN; rw [if_neg k1, if_pos k2])
          have hDE : nxTake c id D y.l y.d0 y.d1 = nxN c id D y := by unfold nxN; rw [if_neg k1, if_pos k2]
          have hakx : Hid (ackN L = if y.l.k = 6 ∧ y.l.b = id ∧ lerr c y.l = 0 then 1 else 0) := hide (by
            rw [hak0.out]
            unfold ackX
            by_cases e : y.l.k = 6 ∧ y.l.b = id ∧ lerr c y.l = 0
            · rw [if_pos e, if_pos ⟨k2, e⟩]
            · rw [if_neg e, if_neg (fun q => e q.2)])
          rw [k2] at a0
          replace k1 := hide k1
          replace k2 := hide k2
          replace hDE := hide hDE
          clear n1 n2 n3
          go_wp2_with fail
          go_at_call 17
          refine (ndTake_c p B F c id N D y.l y.d0 y.d1 y.d2 _ Q8.out.n hT8 hN6.out hy2 hop.out L hL1 M hM1).mono ?_
          rintro e w5 ⟨v1, v2, rfl, F5, g1, g2, hO⟩
          obtain ⟨b1, c1', e1, -⟩ := _root_.id hO.own
          obtain ⟨b2, c2', e2, -⟩ := _root_.id hO.dn
          subst e1 e2
          have Q5 := hide ((Q8.out.step hO.nd hO.st).step (hO.nd.mono (show _ ≤ N + 3 by omega)) (Step.refl _ _))
          have vT5 := hide hO.own.view
          have hgm : Hid (g1 ≠ m ∧ g1 ≠ kx) := hide (by have := hO.new; have := tl8.out.lt; have := lx; omega)
          have tl5 := hide (tl8.out.fr hO.st.fr hm8.out)
          have hm5 := hide (hO.st.keep hm8.out tl8.out.lt).2.1
          clear hO
          clear c0 c1 c2 c3 c4 c5 c6 c7 c8 a0 a1 a2 a3 a4 a5 a6 a7 a8 a9 a10 a11 a12 a13 a14 a15 a16 a17 lc la lx x0 x1 xz
          obtain ⟨lc, xc⟩ := bz_get Q5.out.x (k := kc) (o := cfR c) (by simp)
          obtain ⟨c0, c1, c2, c3, c4, c5, c6, c7, c8⟩ := cf_at xc
          obtain ⟨la, xa⟩ := bz_get Q5.out.x (k := ka) (o := actsO y) (by simp)
          obtain ⟨a0, a1, a2, a3, a4, a5, a6, a7, a8, a9, a10, a11, a12, a13, a14, a15, a16, a17⟩ := acts_at xa
          obtain ⟨lx, xx⟩ := bz_get Q5.out.x (k := kx) (o := (outR (.slice none 0 0) (.slice none 0 0))) (by simp)
          obtain ⟨x0, x1, xz⟩ := out_at xx
          clear xc xa xx
          go_upto_region 15 with fail
          refine name_world ?_
          intro W6 hW6
          have Q6 : Hid (At5 w W6 p B Fc F5 c id (N + 3) (nxTake c id D y.l y.d0 y.d1) [(kx, outR (.slice b1 L.length c1') (.slice b2 M.length c2')), (ka, actsO y), (kc, cfR c)]) := by rw [← hW6]; exact hide (out_two Q5.out hne.out.1 hne.out.2)
          have hF6 : FrS (· = kx) w5 W6 := by rw [← hW6]; exact wrP (wrP (FrS.refl _ _) _) _
          have vT6 := hide (vT5.out.fr hF6 (fun _ e => hgm.out.2 e))
          have tl6 := hide (tl5.out.fr hF6 (fun e => hne2.out e))
          clear hW6 hF6 Q5 vT5 tl5
          clear c0 c1 c2 c3 c4 c5 c6 c7 c8 a0 a1 a2 a3 a4 a5 a6 a7 a8 a9 a10 a11 a12 a13 a14 a15 a16 a17 lc la lx x0 x1 xz
          have hm6 := hm5
          have hT6 := hide (hT.out.lowB (Q6.out.low hlo.out))
          obtain ⟨lc, xc⟩ := bz_get Q6.out.x (k := kc) (o := cfR c) (by simp)
          obtain ⟨c0, c1, c2, c3, c4, c5, c6, c7, c8⟩ := cf_at xc
          obtain ⟨la, xa⟩ := bz_get Q6.out.x (k := ka) (o := actsO y) (by simp)
          obtain ⟨a0, a1, a2, a3, a4, a5, a6, a7, a8, a9, a10, a11, a12, a13, a14, a15, a16, a17⟩ := acts_at xa
          obtain ⟨lx, xx⟩ := bz_get Q6.out.x (k := kx) (o := (outR (.slice b1 L.length c1') (.slice b2 M.length c2'))) (by simp)
          obtain ⟨x0, x1, xz⟩ := out_at xx
          clear xc xa xx
          by_cases q6 : y.l.k = 6
          · by_cases qb : y.l.b = id
            · obtain ⟨z, hz⟩ : ∃ z, Hid (letterZ c.n c.bl c.tt ⟨y.l.k, y.l.a, y.l.b, y.l.q, y.l.s, y.l.w, y.l.r, ⟨y.l.n, y.l.o, y.l.h, y.l.d⟩⟩ = z) := ⟨_, hide rfl⟩
              have hz2 : lerr c y.l = z := hz.out
              obtain ⟨m1, m2, m3⟩ := cmpT q6
              obtain ⟨m4, m5, m6⟩ := cmpT qb
              by_cases ez : z = 0
              · have hak : Hid (ackN L = 1) := hide (by rw [hakx.out, if_pos ⟨q6, qb, hz2.trans ez⟩])
                subst ez
                replace q6 := hide q6
                replace qb := hide qb
                clear hz2
                go_upto_region 19 with (go_at_call 27; refine (refCheck_c c.n c.bl c.tt c.cs c.cy c.cc c.cu c.ct c.cp y.l.k y.l.a y.l.b y.l.q y.l.s y.l.w y.l.r y.l.n y.l.o y.l.h y.l.d _ 0 hz).mono ?_; rintro e w7 ⟨rfl, hb7⟩; replace Q6 := hide (Q6.out.below hb7); replace vT6 := hide (vT6.out.below hb7); replace tl6 := hide (tl6.out.below hb7); clear hb7; clear c0 c1 c2 c3 c4 c5 c6 c7 c8 a0 a1 a2 a3 a4 a5 a6 a7 a8 a9 a10 a11 a12 a13 a14 a15 a16 a17 lc la lx x0 x1 xz)
                as_aux_lemma =>
                  obtain ⟨D6, hD6⟩ : ∃ D6, nxN c id D y = D6 := ⟨_, rfl⟩
                  rw [hD6] at hEO
                  rw [hDE.out, hD6] at Q6
                  clear hD6
                  have vT7 := hide vT6.out
                  have hgm7 : Hid (g1 ≠ m) := hide hgm.out.1
                  obtain ⟨lx, xx⟩ := bz_get Q6.out.x (k := kx) (o := outR (.slice b1 L.length c1') (.slice b2 M.length c2')) (by simp)
                  obtain ⟨x0, x1, xz⟩ := out_at xx
                  have hLm : L.length ≤ 9223372036854775807 := by
                    obtain ⟨_, _, _, q1, q2, _⟩ := vT7.out
                    unfold maxLen at q2
                    omega
                  clear xx
                  go_wp2_with fail
                  go_loopw [14, 87] (fun ak i wr => ∃ t : Nat, t ≤ L.length ∧ i = .int .i64 t ∧ ak = .int .i64 ((ackN L : Int) - (ackN (L.take t) : Int)) ∧ At5 w wr p B Fc F5 c id (N + 3) D6 [(kc, cfR c)] ∧ ViewT wr (.slice b1 L.length c1') g1 L ∧ TlIs wr m (dnL (L.take t) ++ K)) (fun _ i _ => L.length - (intOf i).toNat)
                  case atStart => exact ⟨0, Nat.zero_le _, rfl, by rw [show ackN (L.take 0) = 0 from rfl, hak.out]; rfl, Q6.out.sub (fun x hx => List.mem_cons_of_mem _ (List.mem_cons_of_mem _ hx)), vT7.out, tl6.out⟩
                  case round =>
                    clear Q6 vT6 vT7 tl6 x0 x1 xz lx
                    obtain ⟨t, ht, rfl, rfl, Q7, vT7, tl7⟩ := hrel
                    replace Q7 := hide Q7
                    replace vT7 := hide vT7
                    replace tl7 := hide tl7
                    by_cases hlt : t < L.length
                    · have hlt' : (t : Int) < L.length := by omega
                      obtain ⟨o1, rfl, hgl, hra⟩ := lt_range vT7.out hlt
                      have hst := ackN_step L hlt
                      have hdn := dnL_step L hlt
                      have hat := hide (fun h5 => dnL_at hEO.out.1 hlt h5)
                      have hle := ackN_le L (t + 1)
                      obtain ⟨l, hl⟩ : ∃ l, L[t] = l := ⟨_, rfl⟩
                      rw [hl] at hra hst hdn hat
                      obtain ⟨a, ha⟩ : ∃ a, Hid ((ackN L : Int) - (ackN (L.take t) : Int) = a) := ⟨_, hide rfl⟩
                      rw [ha.out]
                      replace hst := hide hst
                      replace hdn := hide hdn
                      replace hle := hide hle
                      clear hl
                      go_upto_region 21 with fail
                      go_step
                      go_step
                      go_step
                      go_step
                      refine wpList_load_mid (by rfl) _ _ (by rfl) g1 (o1 + t * 11) (by rfl) (ltC l) _ hra Tryz.underlying37 (by rfl) (by exact infoLt) ?_
                      clear hra
                      go_step
                      go_step
                      go_step
                      refine wpList_store_new _ _ (by rfl) (by rfl) (by rfl) (by rfl) (by exact infoLt) (by rfl) (ltC_one l) ?_
                      obtain ⟨V9, hV9⟩ : ∃ V, wr.alloc (.cells (ltC l).toArray 37) = V := ⟨_, rfl⟩
                      have Q9 : Hid (At5 w V9 p B Fc F5 c id (N + 3) D6 [(wr.heap.size, ltR l), (kc, cfR c)]) := by rw [← hV9]; exact hide (Q7.out.new (ltR l))
                      have vT9 : Hid (ViewT V9 (.slice (some ⟨g1, o1, none⟩) L.length c1') g1 L) := by rw [← hV9]; exact hide (vT7.out.alloc _)
                      have tl9 : Hid (TlIs V9 m (dnL (L.take t) ++ K)) := by rw [← hV9]; exact hide (tl7.out.below ((Below.refl _ _).alloc (Nat.le_refl _) _))
                      have hkl2 : Hid (wr.heap.size ≠ m) := hide (by have := tl7.out.lt; omega)
                      rw [hV9]
                      clear hV9 Q7 vT7 tl7
                      obtain ⟨kl, hkl⟩ : ∃ k, Hid (wr.heap.size = k) := ⟨_, hide rfl⟩
                      rw [hkl.out] at Q9 hkl2
                      rw [hkl.out]
                      obtain ⟨ll, xl⟩ := bz_get Q9.out.x (k := kl) (o := ltR l) (by simp)
                      obtain ⟨l0, l1, l2, l3, l4, l5, l6, l7, l8, l9, l10⟩ := lt_at xl
                      clear xl
                      by_cases k7 : l.k = 7
                      · rw [if_pos k7] at hst
                        rw [if_neg (show ¬ l.k = 5 by omega)] at hdn
                        rw [k7] at l0
                        have hw : wrap64 (a - 1) = a - 1 := by have := ha.out; have := hst.out; have := hle.out; have := hak1.out; unfold wrap64; omega
                        replace k7 := hide k7
                        go_wp2_with fail
                        go_roundw
                        case rel => exact ⟨t + 1, by omega, by simp, by rw [hst.out, hw, ← ha.out]; simp; omega, Q9.out.sub (fun x hx => List.mem_cons_of_mem _ hx), vT9.out, by rw [hdn.out, List.append_nil]; exact tl9.out⟩
                        case measure => simp [intOf]; omega
                      · rw [if_neg k7] at hst
                        obtain ⟨d1, d2, d3⟩ := cmpF k7
                        replace k7 := hide k7
                        by_cases k5 : l.k = 5
                        · rw [if_pos k5] at hdn
                          rw [k5] at l0
                          obtain ⟨q1, q2⟩ := hat.out k5
                          obtain ⟨i1, i2, i3⟩ := hEO.out.2.2 (l.q, l.s) (by rw [q2]; simp)
                          rw [q1, List.nil_append] at tl9
                          rw [q1, List.nil_append] at hdn
                          have lk := tl_look tl9.out i1 i2 i3
                          obtain ⟨w2, r2, tl2, f2⟩ := tl_put tl9.out i1 i2 hK2.out
                          dsimp only [pairV] at lk r2
                          have Q2 := hide (Q9.out.frk f2 hmw.out.1 hm6.out (fun x hx => by
                            simp only [List.mem_cons, List.not_mem_nil, or_false] at hx
                            rcases hx with rfl | rfl
                            · exact hkl2.out
                            · exact fun e => hmw.out.2 e.symm))
                          have vT2 := hide (vT9.out.fr f2 (fun _ e => hgm7.out e))
                          replace tl2 := hide tl2
                          replace k5 := hide k5
                          replace i1 := hide i1
                          replace i2 := hide i2
                          clear q1 q2 i3 f2
                          go_wp2_with fail
                          go_roundw
                          case rel => exact ⟨t + 1, by omega, by simp, by rw [hst.out, Nat.add_zero, ha.out], Q2.out.sub (fun x hx => List.mem_cons_of_mem _ hx), vT2.out, by rw [hdn.out]; exact tl2.out⟩
                          case measure => simp [intOf]; omega
                        · rw [if_neg k5] at hdn
                          obtain ⟨d4, d5, d6⟩ := cmpF k5
                          replace k5 := hide k5
                          go_wp2_with fail
                          go_roundw
                          case rel => exact ⟨t + 1, by omega, by simp, by rw [hst.out, Nat.add_zero, ha.out], Q9.out.sub (fun x hx => List.mem_cons_of_mem _ hx), vT9.out, by rw [hdn.out, List.append_nil]; exact tl9.out⟩
                          case measure => simp [intOf]; omega
                    · obtain rfl : t = L.length := by omega
                      have et : L.take L.length = L := List.take_of_length_le (Nat.le_refl _)
                      rw [et] at tl7
                      have e0 : (ackN L : Int) - (ackN (L.take L.length) : Int) = 0 := by rw [et]; omega
                      rw [e0]
                      replace e0 := hide e0
                      go_wp2_with fail
                      go_roundw
                      case rel => exact ⟨j + 1, N + 3, F5, D6, dnL L ++ K, by omega, by simp, by have := hN.out; omega, by have := hK.out; have := hEO.out.1; simp only [List.length_append]; omega, Q7.out, tl7.out, hm6.out, hEO.out.2.1⟩
                      case measure => simp [intOf]; omega
              · have hak : Hid (ackN L = 0) := hide (by rw [hakx.out, if_neg (fun e => ez (hz2.symm.trans e.2.2))])
                obtain ⟨m7, m8, m9⟩ := cmpF ez
                replace ez := hide ez
                replace q6 := hide q6
                replace qb := hide qb
                clear hz2
                go_upto_region 19 with (go_at_call 27; refine (refCheck_c c.n c.bl c.tt c.cs c.cy c.cc c.cu c.ct c.cp y.l.k y.l.a y.l.b y.l.q y.l.s y.l.w y.l.r y.l.n y.l.o y.l.h y.l.d _ z hz).mono ?_; rintro e w7 ⟨rfl, hb7⟩; replace Q6 := hide (Q6.out.below hb7); replace vT6 := hide (vT6.out.below hb7); replace tl6 := hide (tl6.out.below hb7); clear hb7; clear c0 c1 c2 c3 c4 c5 c6 c7 c8 a0 a1 a2 a3 a4 a5 a6 a7 a8 a9 a10 a11 a12 a13 a14 a15 a16 a17 lc la lx x0 x1 xz)
                as_aux_lemma =>
                  obtain ⟨D6, hD6⟩ : ∃ D6, nxN c id D y = D6 := ⟨_, rfl⟩
                  rw [hD6] at hEO
                  rw [hDE.out, hD6] at Q6
                  clear hD6
                  have vT7 := hide vT6.out
                  have hgm7 : Hid (g1 ≠ m) := hide hgm.out.1
                  obtain ⟨lx, xx⟩ := bz_get Q6.out.x (k := kx) (o := outR (.slice b1 L.length c1') (.slice b2 M.length c2')) (by simp)
                  obtain ⟨x0, x1, xz⟩ := out_at xx
                  have hLm : L.length ≤ 9223372036854775807 := by
                    obtain ⟨_, _, _, q1, q2, _⟩ := vT7.out
                    unfold maxLen at q2
                    omega
                  clear xx
                  go_wp2_with fail
                  go_loopw [14, 87] (fun ak i wr => ∃ t : Nat, t ≤ L.length ∧ i = .int .i64 t ∧ ak = .int .i64 ((ackN L : Int) - (ackN (L.take t) : Int)) ∧ At5 w wr p B Fc F5 c id (N + 3) D6 [(kc, cfR c)] ∧ ViewT wr (.slice b1 L.length c1') g1 L ∧ TlIs wr m (dnL (L.take t) ++ K)) (fun _ i _ => L.length - (intOf i).toNat)
                  case atStart => exact ⟨0, Nat.zero_le _, rfl, by rw [show ackN (L.take 0) = 0 from rfl, hak.out]; rfl, Q6.out.sub (fun x hx => List.mem_cons_of_mem _ (List.mem_cons_of_mem _ hx)), vT7.out, tl6.out⟩
                  case round =>
                    clear Q6 vT6 vT7 tl6 x0 x1 xz lx
                    obtain ⟨t, ht, rfl, rfl, Q7, vT7, tl7⟩ := hrel
                    replace Q7 := hide Q7
                    replace vT7 := hide vT7
                    replace tl7 := hide tl7
                    by_cases hlt : t < L.length
                    · have hlt' : (t : Int) < L.length := by omega
                      obtain ⟨o1, rfl, hgl, hra⟩ := lt_range vT7.out hlt
                      have hst := ackN_step L hlt
                      have hdn := dnL_step L hlt
                      have hat := hide (fun h5 => dnL_at hEO.out.1 hlt h5)
                      have hle := ackN_le L (t + 1)
                      obtain ⟨l, hl⟩ : ∃ l, L[t] = l := ⟨_, rfl⟩
                      rw [hl] at hra hst hdn hat
                      obtain ⟨a, ha⟩ : ∃ a, Hid ((ackN L : Int) - (ackN (L.take t) : Int) = a) := ⟨_, hide rfl⟩
                      rw [ha.out]
                      replace hst := hide hst
                      replace hdn := hide hdn
                      replace hle := hide hle
                      clear hl
                      go_upto_region 21 with fail
                      go_step
                      go_step
                      go_step
                      go_step
                      refine wpList_load_mid (by rfl) _ _ (by rfl) g1 (o1 + t * 11) (by rfl) (ltC l) _ hra Tryz.underlying37 (by rfl) (by exact infoLt) ?_
                      clear hra
                      go_step
                      go_step
                      go_step
                      refine wpList_store_new _ _ (by rfl) (by rfl) (by rfl) (by rfl) (by exact infoLt) (by rfl) (ltC_one l) ?_
                      obtain ⟨V9, hV9⟩ : ∃ V, wr.alloc (.cells (ltC l).toArray 37) = V := ⟨_, rfl⟩
                      have Q9 : Hid (At5 w V9 p B Fc F5 c id (N + 3) D6 [(wr.heap.size, ltR l), (kc, cfR c)]) := by rw [← hV9]; exact hide (Q7.out.new (ltR l))
                      have vT9 : Hid (ViewT V9 (.slice (some ⟨g1, o1, none⟩) L.length c1') g1 L) := by rw [← hV9]; exact hide (vT7.out.alloc _)
                      have tl9 : Hid (TlIs V9 m (dnL (L.take t) ++ K)) := by rw [← hV9]; exact hide (tl7.out.below ((Below.refl _ _).alloc (Nat.le_refl _) _))
                      have hkl2 : Hid (wr.heap.size ≠ m) := hide (by have := tl7.out.lt; omega)
                      rw [hV9]
                      clear hV9 Q7 vT7 tl7
                      obtain ⟨kl, hkl⟩ : ∃ k, Hid (wr.heap.size = k) := ⟨_, hide rfl⟩
                      rw [hkl.out] at Q9 hkl2
                      rw [hkl.out]
                      obtain ⟨ll, xl⟩ := bz_get Q9.out.x (k := kl) (o := ltR l) (by simp)
                      obtain ⟨l0, l1, l2, l3, l4, l5, l6, l7, l8, l9, l10⟩ := lt_at xl
                      clear xl
                      by_cases k7 : l.k = 7
                      · rw [if_pos k7] at hst
                        rw [if_neg (show ¬ l.k = 5 by omega)] at hdn
                        rw [k7] at l0
                        have hw : wrap64 (a - 1) = a - 1 := by have := ha.out; have := hst.out; have := hle.out; have := hak1.out; unfold wrap64; omega
                        replace k7 := hide k7
                        go_wp2_with fail
                        go_roundw
                        case rel => exact ⟨t + 1, by omega, by simp, by rw [hst.out, hw, ← ha.out]; simp; omega, Q9.out.sub (fun x hx => List.mem_cons_of_mem _ hx), vT9.out, by rw [hdn.out, List.append_nil]; exact tl9.out⟩
                        case measure => simp [intOf]; omega
                      · rw [if_neg k7] at hst
                        obtain ⟨d1, d2, d3⟩ := cmpF k7
                        replace k7 := hide k7
                        by_cases k5 : l.k = 5
                        · rw [if_pos k5] at hdn
                          rw [k5] at l0
                          obtain ⟨q1, q2⟩ := hat.out k5
                          obtain ⟨i1, i2, i3⟩ := hEO.out.2.2 (l.q, l.s) (by rw [q2]; simp)
                          rw [q1, List.nil_append] at tl9
                          rw [q1, List.nil_append] at hdn
                          have lk := tl_look tl9.out i1 i2 i3
                          obtain ⟨w2, r2, tl2, f2⟩ := tl_put tl9.out i1 i2 hK2.out
                          dsimp only [pairV] at lk r2
                          have Q2 := hide (Q9.out.frk f2 hmw.out.1 hm6.out (fun x hx => by
                            simp only [List.mem_cons, List.not_mem_nil, or_false] at hx
                            rcases hx with rfl | rfl
                            · exact hkl2.out
                            · exact fun e => hmw.out.2 e.symm))
                          have vT2 := hide (vT9.out.fr f2 (fun _ e => hgm7.out e))
                          replace tl2 := hide tl2
                          replace k5 := hide k5
                          replace i1 := hide i1
                          replace i2 := hide i2
                          clear q1 q2 i3 f2
                          go_wp2_with fail
                          go_roundw
                          case rel => exact ⟨t + 1, by omega, by simp, by rw [hst.out, Nat.add_zero, ha.out], Q2.out.sub (fun x hx => List.mem_cons_of_mem _ hx), vT2.out, by rw [hdn.out]; exact tl2.out⟩
                          case measure => simp [intOf]; omega
                        · rw [if_neg k5] at hdn
                          obtain ⟨d4, d5, d6⟩ := cmpF k5
                          replace k5 := hide k5
                          go_wp2_with fail
                          go_roundw
                          case rel => exact ⟨t + 1, by omega, by simp, by rw [hst.out, Nat.add_zero, ha.out], Q9.out.sub (fun x hx => List.mem_cons_of_mem _ hx), vT9.out, by rw [hdn.out, List.append_nil]; exact tl9.out⟩
                          case measure => simp [intOf]; omega
                    · obtain rfl : t = L.length := by omega
                      have et : L.take L.length = L := List.take_of_length_le (Nat.le_refl _)
                      rw [et] at tl7
                      have e0 : (ackN L : Int) - (ackN (L.take L.length) : Int) = 0 := by rw [et]; omega
                      rw [e0]
                      replace e0 := hide e0
                      go_wp2_with fail
                      go_roundw
                      case rel => exact ⟨j + 1, N + 3, F5, D6, dnL L ++ K, by omega, by simp, by have := hN.out; omega, by have := hK.out; have := hEO.out.1; simp only [List.length_append]; omega, Q7.out, tl7.out, hm6.out, hEO.out.2.1⟩
                      case measure => simp [intOf]; omega
            · have hak : Hid (ackN L = 0) := hide (by rw [hakx.out, if_neg (fun e => qb e.2.1)])
              obtain ⟨m1, m2, m3⟩ := cmpT q6
              obtain ⟨m4, m5, m6⟩ := cmpF qb
              replace q6 := hide q6
              replace qb := hide qb
              go_upto_region 19 with fail
              clear c0 c1 c2 c3 c4 c5 c6 c7 c8 a0 a1 a2 a3 a4 a5 a6 a7 a8 a9 a10 a11 a12 a13 a14 a15 a16 a17 lc la lx x0 x1 xz
              as_aux_lemma =>
                obtain ⟨D6, hD6⟩ : ∃ D6, nxN c id D y = D6 := ⟨_, rfl⟩
                rw [hD6] at hEO
                rw [hDE.out, hD6] at Q6
                clear hD6
                have vT7 := hide vT6.out
                have hgm7 : Hid (g1 ≠ m) := hide hgm.out.1
                obtain ⟨lx, xx⟩ := bz_get Q6.out.x (k := kx) (o := outR (.slice b1 L.length c1') (.slice b2 M.length c2')) (by simp)
                obtain ⟨x0, x1, xz⟩ := out_at xx
                have hLm : L.length ≤ 9223372036854775807 := by
                  obtain ⟨_, _, _, q1, q2, _⟩ := vT7.out
                  unfold maxLen at q2
                  omega
                clear xx
                go_wp2_with fail
                go_loopw [14, 87] (fun ak i wr => ∃ t : Nat, t ≤ L.length ∧ i = .int .i64 t ∧ ak = .int .i64 ((ackN L : Int) - (ackN (L.take t) : Int)) ∧ At5 w wr p B Fc F5 c id (N + 3) D6 [(kc, cfR c)] ∧ ViewT wr (.slice b1 L.length c1') g1 L ∧ TlIs wr m (dnL (L.take t) ++ K)) (fun _ i _ => L.length - (intOf i).toNat)
                case atStart => exact ⟨0, Nat.zero_le _, rfl, by rw [show ackN (L.take 0) = 0 from rfl, hak.out]; rfl, Q6.out.sub (fun x hx => List.mem_cons_of_mem _ (List.mem_cons_of_mem _ hx)), vT7.out, tl6.out⟩
                case round =>
                  clear Q6 vT6 vT7 tl6 x0 x1 xz lx
                  obtain ⟨t, ht, rfl, rfl, Q7, vT7, tl7⟩ := hrel
                  replace Q7 := hide Q7
                  replace vT7 := hide vT7
                  replace tl7 := hide tl7
                  by_cases hlt : t < L.length
                  · have hlt' : (t : Int) < L.length := by omega
                    obtain ⟨o1, rfl, hgl, hra⟩ := lt_range vT7.out hlt
                    have hst := ackN_step L hlt
                    have hdn := dnL_step L hlt
                    have hat := hide (fun h5 => dnL_at hEO.out.1 hlt h5)
                    have hle := ackN_le L (t + 1)
                    obtain ⟨l, hl⟩ : ∃ l, L[t] = l := ⟨_, rfl⟩
                    rw [hl] at hra hst hdn hat
                    obtain ⟨a, ha⟩ : ∃ a, Hid ((ackN L : Int) - (ackN (L.take t) : Int) = a) := ⟨_, hide rfl⟩
                    rw [ha.out]
                    replace hst := hide hst
                    replace hdn := hide hdn
                    replace hle := hide hle
                    clear hl
                    go_upto_region 21 with fail
                    go_step
                    go_step
                    go_step
                    go_step
                    refine wpList_load_mid (by rfl) _ _ (by rfl) g1 (o1 + t * 11) (by rfl) (ltC l) _ hra Tryz.underlying37 (by rfl) (by exact infoLt) ?_
                    clear hra
                    go_step
                    go_step
                    go_step
                    refine wpList_store_new _ _ (by rfl) (by rfl) (by rfl) (by rfl) (by exact infoLt) (by rfl) (ltC_one l) ?_
                    obtain ⟨V9, hV9⟩ : ∃ V, wr.alloc (.cells (ltC l).toArray 37) = V := ⟨_, rfl⟩
                    have Q9 : Hid (At5 w V9 p B Fc F5 c id (N + 3) D6 [(wr.heap.size, ltR l), (kc, cfR c)]) := by rw [← hV9]; exact hide (Q7.out.new (ltR l))
                    have vT9 : Hid (ViewT V9 (.slice (some ⟨g1, o1, none⟩) L.length c1') g1 L) := by rw [← hV9]; exact hide (vT7.out.alloc _)
                    have tl9 : Hid (TlIs V9 m (dnL (L.take t) ++ K)) := by rw [← hV9]; exact hide (tl7.out.below ((Below.refl _ _).alloc (Nat.le_refl _) _))
                    have hkl2 : Hid (wr.heap.size ≠ m) := hide (by have := tl7.out.lt; omega)
                    rw [hV9]
                    clear hV9 Q7 vT7 tl7
                    obtain ⟨kl, hkl⟩ : ∃ k, Hid (wr.heap.size = k) := ⟨_, hide rfl⟩
                    rw [hkl.out] at Q9 hkl2
                    rw [hkl.out]
                    obtain ⟨ll, xl⟩ := bz_get Q9.out.x (k := kl) (o := ltR l) (by simp)
                    obtain ⟨l0, l1, l2, l3, l4, l5, l6, l7, l8, l9, l10⟩ := lt_at xl
                    clear xl
                    by_cases k7 : l.k = 7
                    · rw [if_pos k7] at hst
                      rw [if_neg (show ¬ l.k = 5 by omega)] at hdn
                      rw [k7] at l0
                      have hw : wrap64 (a - 1) = a - 1 := by have := ha.out; have := hst.out; have := hle.out; have := hak1.out; unfold wrap64; omega
                      replace k7 := hide k7
                      go_wp2_with fail
                      go_roundw
                      case rel => exact ⟨t + 1, by omega, by simp, by rw [hst.out, hw, ← ha.out]; simp; omega, Q9.out.sub (fun x hx => List.mem_cons_of_mem _ hx), vT9.out, by rw [hdn.out, List.append_nil]; exact tl9.out⟩
                      case measure => simp [intOf]; omega
                    · rw [if_neg k7] at hst
                      obtain ⟨d1, d2, d3⟩ := cmpF k7
                      replace k7 := hide k7
                      by_cases k5 : l.k = 5
                      · rw [if_pos k5] at hdn
                        rw [k5] at l0
                        obtain ⟨q1, q2⟩ := hat.out k5
                        obtain ⟨i1, i2, i3⟩ := hEO.out.2.2 (l.q, l.s) (by rw [q2]; simp)
                        rw [q1, List.nil_append] at tl9
                        rw [q1, List.nil_append] at hdn
                        have lk := tl_look tl9.out i1 i2 i3
                        obtain ⟨w2, r2, tl2, f2⟩ := tl_put tl9.out i1 i2 hK2.out
                        dsimp only [pairV] at lk r2
                        have Q2 := hide (Q9.out.frk f2 hmw.out.1 hm6.out (fun x hx => by
                          simp only [List.mem_cons, List.not_mem_nil, or_false] at hx
                          rcases hx with rfl | rfl
                          · exact hkl2.out
                          · exact fun e => hmw.out.2 e.symm))
                        have vT2 := hide (vT9.out.fr f2 (fun _ e => hgm7.out e))
                        replace tl2 := hide tl2
                        replace k5 := hide k5
                        replace i1 := hide i1
                        replace i2 := hide i2
                        clear q1 q2 i3 f2
                        go_wp2_with fail
                        go_roundw
                        case rel => exact ⟨t + 1, by omega, by simp, by rw [hst.out, Nat.add_zero, ha.out], Q2.out.sub (fun x hx => List.mem_cons_of_mem _ hx), vT2.out, by rw [hdn.out]; exact tl2.out⟩
                        case measure => simp [intOf]; omega
                      · rw [if_neg k5] at hdn
                        obtain ⟨d4, d5, d6⟩ := cmpF k5
                        replace k5 := hide k5
                        go_wp2_with fail
                        go_roundw
                        case rel => exact ⟨t + 1, by omega, by simp, by rw [hst.out, Nat.add_zero, ha.out], Q9.out.sub (fun x hx => List.mem_cons_of_mem _ hx), vT9.out, by rw [hdn.out, List.append_nil]; exact tl9.out⟩
                        case measure => simp [intOf]; omega
                  · obtain rfl : t = L.length := by omega
                    have et : L.take L.length = L := List.take_of_length_le (Nat.le_refl _)
                    rw [et] at tl7
                    have e0 : (ackN L : Int) - (ackN (L.take L.length) : Int) = 0 := by rw [et]; omega
                    rw [e0]
                    replace e0 := hide e0
                    go_wp2_with fail
                    go_roundw
                    case rel => exact ⟨j + 1, N + 3, F5, D6, dnL L ++ K, by omega, by simp, by have := hN.out; omega, by have := hK.out; have := hEO.out.1; simp only [List.length_append]; omega, Q7.out, tl7.out, hm6.out, hEO.out.2.1⟩
                    case measure => simp [intOf]; omega
          · have hak : Hid (ackN L = 0) := hide (by rw [hakx.out, if_neg (fun e => q6 e.1)])
            obtain ⟨m1, m2, m3⟩ := cmpF q6
            replace q6 := hide q6
            go_upto_region 19 with fail
            clear c0 c1 c2 c3 c4 c5 c6 c7 c8 a0 a1 a2 a3 a4 a5 a6 a7 a8 a9 a10 a11 a12 a13 a14 a15 a16 a17 lc la lx x0 x1 xz
            as_aux_lemma =>
              obtain ⟨D6, hD6⟩ : ∃ D6, nxN c id D y = D6 := ⟨_, rfl⟩
              rw [hD6] at hEO
              rw [hDE.out, hD6] at Q6
              clear hD6
              have vT7 := hide vT6.out
              have hgm7 : Hid (g1 ≠ m) := hide hgm.out.1
              obtain ⟨lx, xx⟩ := bz_get Q6.out.x (k := kx) (o := outR (.slice b1 L.length c1') (.slice b2 M.length c2')) (by simp)
              obtain ⟨x0, x1, xz⟩ := out_at xx
              have hLm : L.length ≤ 9223372036854775807 := by
                obtain ⟨_, _, _, q1, q2, _⟩ := vT7.out
                unfold maxLen at q2
                omega
              clear xx
              go_wp2_with fail
              go_loopw [14, 87] (fun ak i wr => ∃ t : Nat, t ≤ L.length ∧ i = .int .i64 t ∧ ak = .int .i64 ((ackN L : Int) - (ackN (L.take t) : Int)) ∧ At5 w wr p B Fc F5 c id (N + 3) D6 [(kc, cfR c)] ∧ ViewT wr (.slice b1 L.length c1') g1 L ∧ TlIs wr m (dnL (L.take t) ++ K)) (fun _ i _ => L.length - (intOf i).toNat)
              case atStart => exact ⟨0, Nat.zero_le _, rfl, by rw [show ackN (L.take 0) = 0 from rfl, hak.out]; rfl, Q6.out.sub (fun x hx => List.mem_cons_of_mem _ (List.mem_cons_of_mem _ hx)), vT7.out, tl6.out⟩
              case round =>
                clear Q6 vT6 vT7 tl6 x0 x1 xz lx
                obtain ⟨t, ht, rfl, rfl, Q7, vT7, tl7⟩ := hrel
                replace Q7 := hide Q7
                replace vT7 := hide vT7
                replace tl7 := hide tl7
                by_cases hlt : t < L.length
                · have hlt' : (t : Int) < L.length := by omega
                  obtain ⟨o1, rfl, hgl, hra⟩ := lt_range vT7.out hlt
                  have hst := ackN_step L hlt
                  have hdn := dnL_step L hlt
                  have hat := hide (fun h5 => dnL_at hEO.out.1 hlt h5)
                  have hle := ackN_le L (t + 1)
                  obtain ⟨l, hl⟩ : ∃ l, L[t] = l := ⟨_, rfl⟩
                  rw [hl] at hra hst hdn hat
                  obtain ⟨a, ha⟩ : ∃ a, Hid ((ackN L : Int) - (ackN (L.take t) : Int) = a) := ⟨_, hide rfl⟩
                  rw [ha.out]
                  replace hst := hide hst
                  replace hdn := hide hdn
                  replace hle := hide hle
                  clear hl
                  go_upto_region 21 with fail
                  go_step
                  go_step
                  go_step
                  go_step
                  refine wpList_load_mid (by rfl) _ _ (by rfl) g1 (o1 + t * 11) (by rfl) (ltC l) _ hra Tryz.underlying37 (by rfl) (by exact infoLt) ?_
                  clear hra
                  go_step
                  go_step
                  go_step
                  refine wpList_store_new _ _ (by rfl) (by rfl) (by rfl) (by rfl) (by exact infoLt) (by rfl) (ltC_one l) ?_
                  obtain ⟨V9, hV9⟩ : ∃ V, wr.alloc (.cells (ltC l).toArray 37) = V := ⟨_, rfl⟩
                  have Q9 : Hid (At5 w V9 p B Fc F5 c id (N + 3) D6 [(wr.heap.size, ltR l), (kc, cfR c)]) := by rw [← hV9]; exact hide (Q7.out.new (ltR l))
                  have vT9 : Hid (ViewT V9 (.slice (some ⟨g1, o1, none⟩) L.length c1') g1 L) := by rw [← hV9]; exact hide (vT7.out.alloc _)
                  have tl9 : Hid (TlIs V9 m (dnL (L.take t) ++ K)) := by rw [← hV9]; exact hide (tl7.out.below ((Below.refl _ _).alloc (Nat.le_refl _) _))
                  have hkl2 : Hid (wr.heap.size ≠ m) := hide (by have := tl7.out.lt; omega)
                  rw [hV9]
                  clear hV9 Q7 vT7 tl7
                  obtain ⟨kl, hkl⟩ : ∃ k, Hid (wr.heap.size = k) := ⟨_, hide rfl⟩
                  rw [hkl.out] at Q9 hkl2
                  rw [hkl.out]
                  obtain ⟨ll, xl⟩ := bz_get Q9.out.x (k := kl) (o := ltR l) (by simp)
                  obtain ⟨l0, l1, l2, l3, l4, l5, l6, l7, l8, l9, l10⟩ := lt_at xl
                  clear xl
                  by_cases k7 : l.k = 7
                  · rw [if_pos k7] at hst
                    rw [if_neg (show ¬ l.k = 5 by omega)] at hdn
                    rw [k7] at l0
                    have hw : wrap64 (a - 1) = a - 1 := by have := ha.out; have := hst.out; have := hle.out; have := hak1.out; unfold wrap64; omega
                    replace k7 := hide k7
                    go_wp2_with fail
                    go_roundw
                    case rel => exact ⟨t + 1, by omega, by simp, by rw [hst.out, hw, ← ha.out]; simp; omega, Q9.out.sub (fun x hx => List.mem_cons_of_mem _ hx), vT9.out, by rw [hdn.out, List.append_nil]; exact tl9.out⟩
                    case measure => simp [intOf]; omega
                  · rw [if_neg k7] at hst
                    obtain ⟨d1, d2, d3⟩ := cmpF k7
                    replace k7 := hide k7
                    by_cases k5 : l.k = 5
                    · rw [if_pos k5] at hdn
                      rw [k5] at l0
                      obtain ⟨q1, q2⟩ := hat.out k5
                      obtain ⟨i1, i2, i3⟩ := hEO.out.2.2 (l.q, l.s) (by rw [q2]; simp)
                      rw [q1, List.nil_append] at tl9
                      rw [q1, List.nil_append] at hdn
                      have lk := tl_look tl9.out i1 i2 i3
                      obtain ⟨w2, r2, tl2, f2⟩ := tl_put tl9.out i1 i2 hK2.out
                      dsimp only [pairV] at lk r2
                      have Q2 := hide (Q9.out.frk f2 hmw.out.1 hm6.out (fun x hx => by
                        simp only [List.mem_cons, List.not_mem_nil, or_false] at hx
                        rcases hx with rfl | rfl
                        · exact hkl2.out
                        · exact fun e => hmw.out.2 e.symm))
                      have vT2 := hide (vT9.out.fr f2 (fun _ e => hgm7.out e))
                      replace tl2 := hide tl2
                      replace k5 := hide k5
                      replace i1 := hide i1
                      replace i2 := hide i2
                      clear q1 q2 i3 f2
                      go_wp2_with fail
                      go_roundw
                      case rel => exact ⟨t + 1, by omega, by simp, by rw [hst.out, Nat.add_zero, ha.out], Q2.out.sub (fun x hx => List.mem_cons_of_mem _ hx), vT2.out, by rw [hdn.out]; exact tl2.out⟩
                      case measure => simp [intOf]; omega
                    · rw [if_neg k5] at hdn
                      obtain ⟨d4, d5, d6⟩ := cmpF k5
                      replace k5 := hide k5
                      go_wp2_with fail
                      go_roundw
                      case rel => exact ⟨t + 1, by omega, by simp, by rw [hst.out, Nat.add_zero, ha.out], Q9.out.sub (fun x hx => List.mem_cons_of_mem _ hx), vT9.out, by rw [hdn.out, List.append_nil]; exact tl9.out⟩
                      case measure => simp [intOf]; omega
                · obtain rfl : t = L.length := by omega
                  have et : L.take L.length = L := List.take_of_length_le (Nat.le_refl _)
                  rw [et] at tl7
                  have e0 : (ackN L : Int) - (ackN (L.take L.length) : Int) = 0 := by rw [et]; omega
                  rw [e0]
                  replace e0 := hide e0
                  go_wp2_with fail
                  go_roundw
                  case rel => exact ⟨j + 1, N + 3, F5, D6, dnL L ++ K, by omega, by simp, by have := hN.out; omega, by have := hK.out; have := hEO.out.1; simp only [List.length_append]; omega, Q7.out, tl7.out, hm6.out, hEO.out.2.1⟩
                  case measure => simp [intOf]; omega
        obtain ⟨n4, n5, n6⟩ := cmpF k2
        have hak : Hid (ackN L = 0) := hide (by rw [hak0.out]; unfold ackX; rw [if_neg (fun e => k2 e.1)])
        by_cases k3 : y.k = 3
        · have hL1 : Hid (tiL c id D y.d0 y.d1 = L) := hide (by rw [← hL.out]; unfold doL; rw [if_neg k1, if_neg k2, if_pos k3])
          have hM1 : [] = M := by rw [← hM.out]; unfold doN; rw [if_neg k1, if_neg k2]
          have hDE : nxTi c D = nxN c id D y := by unfold nxN; rw [if_neg k1, if_neg k2, if_pos k3]
          rw [k3] at a0
          replace k1 := hide k1
          replace k2 := hide k2
          replace k3 := hide k3
          replace hDE := hide hDE
          replace hM1 := hide hM1
          clear n1 n2 n3 n4 n5 n6
          go_wp2_with fail
          go_at_call 19
          refine (ndTick_c p B F c id N D y.d0 y.d1 y.d2 _ Q8.out.n (by have := hN6.out; omega) hop.out L hL1).mono ?_
          rintro e w5 ⟨v1, v2, rfl, g1, g2, hO⟩
          rw [hM1.out] at hO
          obtain ⟨b1, c1', e1, -⟩ := _root_.id hO.own
          obtain ⟨b2, c2', e2, -⟩ := _root_.id hO.dn
          subst e1 e2
          have Q5 := hide ((Q8.out.step hO.nd hO.st).step (hO.nd.mono (show _ ≤ N + 3 by omega)) (Step.refl _ _))
          have vT5 := hide hO.own.view
          have hgm : Hid (g1 ≠ m ∧ g1 ≠ kx) := hide (by have := hO.new; have := tl8.out.lt; have := lx; omega)
          have tl5 := hide (tl8.out.fr hO.st.fr hm8.out)
          have hm5 := hide (hO.st.keep hm8.out tl8.out.lt).2.1
          clear hO
          clear c0 c1 c2 c3 c4 c5 c6 c7 c8 a0 a1 a2 a3 a4 a5 a6 a7 a8 a9 a10 a11 a12 a13 a14 a15 a16 a17 lc la lx x0 x1 xz
          obtain ⟨lc, xc⟩ := bz_get Q5.out.x (k := kc) (o := cfR c) (by simp)
          obtain ⟨c0, c1, c2, c3, c4, c5, c6, c7, c8⟩ := cf_at xc
          obtain ⟨la, xa⟩ := bz_get Q5.out.x (k := ka) (o := actsO y) (by simp)
          obtain ⟨a0, a1, a2, a3, a4, a5, a6, a7, a8, a9, a10, a11, a12, a13, a14, a15, a16, a17⟩ := acts_at xa
          obtain ⟨lx, xx⟩ := bz_get Q5.out.x (k := kx) (o := (outR (.slice none 0 0) (.slice none 0 0))) (by simp)
          obtain ⟨x0, x1, xz⟩ := out_at xx
          clear xc xa xx
          go_upto_region 19 with fail
          refine name_world ?_
          intro W6 hW6
          have Q6 : Hid (At5 w W6 p B Fc F c id (N + 3) (nxTi c D) [(kx, outR (.slice b1 L.length c1') (.slice b2 M.length c2')), (ka, actsO y), (kc, cfR c)]) := by rw [← hW6]; exact hide (out_two Q5.out hne.out.1 hne.out.2)
          have hF6 : FrS (· = kx) w5 W6 := by rw [← hW6]; exact wrP (wrP (FrS.refl _ _) _) _
          have vT6 := hide (vT5.out.fr hF6 (fun _ e => hgm.out.2 e))
          have tl6 := hide (tl5.out.fr hF6 (fun e => hne2.out e))
          clear hW6 hF6 Q5 vT5 tl5
          clear c0 c1 c2 c3 c4 c5 c6 c7 c8 a0 a1 a2 a3 a4 a5 a6 a7 a8 a9 a10 a11 a12 a13 a14 a15 a16 a17 lc la lx x0 x1 xz
          have hm6 := hm5
          as_aux_lemma =>
            obtain ⟨D6, hD6⟩ : ∃ D6, nxN c id D y = D6 := ⟨_, rfl⟩
            rw [hD6] at hEO
            rw [hDE.out, hD6] at Q6
            clear hD6
            have vT7 := hide vT6.out
            have hgm7 : Hid (g1 ≠ m) := hide hgm.out.1
            obtain ⟨lx, xx⟩ := bz_get Q6.out.x (k := kx) (o := outR (.slice b1 L.length c1') (.slice b2 M.length c2')) (by simp)
            obtain ⟨x0, x1, xz⟩ := out_at xx
            have hLm : L.length ≤ 9223372036854775807 := by
              obtain ⟨_, _, _, q1, q2, _⟩ := vT7.out
              unfold maxLen at q2
              omega
            clear xx
            go_wp2_with fail
            go_loopw [14, 87] (fun ak i wr => ∃ t : Nat, t ≤ L.length ∧ i = .int .i64 t ∧ ak = .int .i64 ((ackN L : Int) - (ackN (L.take t) : Int)) ∧ At5 w wr p B Fc F c id (N + 3) D6 [(kc, cfR c)] ∧ ViewT wr (.slice b1 L.length c1') g1 L ∧ TlIs wr m (dnL (L.take t) ++ K)) (fun _ i _ => L.length - (intOf i).toNat)
            case atStart => exact ⟨0, Nat.zero_le _, rfl, by rw [show ackN (L.take 0) = 0 from rfl, hak.out]; rfl, Q6.out.sub (fun x hx => List.mem_cons_of_mem _ (List.mem_cons_of_mem _ hx)), vT7.out, tl6.out⟩
            case round =>
              clear Q6 vT6 vT7 tl6 x0 x1 xz lx
              obtain ⟨t, ht, rfl, rfl, Q7, vT7, tl7⟩ := hrel
              replace Q7 := hide Q7
              replace vT7 := hide vT7
              replace tl7 := hide tl7
              by_cases hlt : t < L.length
              · have hlt' : (t : Int) < L.length := by omega
                obtain ⟨o1, rfl, hgl, hra⟩ := lt_range vT7.out hlt
                have hst := ackN_step L hlt
                have hdn := dnL_step L hlt
                have hat := hide (fun h5 => dnL_at hEO.out.1 hlt h5)
                have hle := ackN_le L (t + 1)
                obtain ⟨l, hl⟩ : ∃ l, L[t] = l := ⟨_, rfl⟩
                rw [hl] at hra hst hdn hat
                obtain ⟨a, ha⟩ : ∃ a, Hid ((ackN L : Int) - (ackN (L.take t) : Int) = a) := ⟨_, hide rfl⟩
                rw [ha.out]
                replace hst := hide hst
                replace hdn := hide hdn
                replace hle := hide hle
                clear hl
                go_upto_region 21 with fail
                go_step
                go_step
                go_step
                go_step
                refine wpList_load_mid (by rfl) _ _ (by rfl) g1 (o1 + t * 11) (by rfl) (ltC l) _ hra Tryz.underlying37 (by rfl) (by exact infoLt) ?_
                clear hra
                go_step
                go_step
                go_step
                refine wpList_store_new _ _ (by rfl) (by rfl) (by rfl) (by rfl) (by exact infoLt) (by rfl) (ltC_one l) ?_
                obtain ⟨V9, hV9⟩ : ∃ V, wr.alloc (.cells (ltC l).toArray 37) = V := ⟨_, rfl⟩
                have Q9 : Hid (At5 w V9 p B Fc F c id (N + 3) D6 [(wr.heap.size, ltR l), (kc, cfR c)]) := by rw [← hV9]; exact hide (Q7.out.new (ltR l))
                have vT9 : Hid (ViewT V9 (.slice (some ⟨g1, o1, none⟩) L.length c1') g1 L) := by rw [← hV9]; exact hide (vT7.out.alloc _)
                have tl9 : Hid (TlIs V9 m (dnL (L.take t) ++ K)) := by rw [← hV9]; exact hide (tl7.out.below ((Below.refl _ _).alloc (Nat.le_refl _) _))
                have hkl2 : Hid (wr.heap.size ≠ m) := hide (by have := tl7.out.lt; omega)
                rw [hV9]
                clear hV9 Q7 vT7 tl7
                obtain ⟨kl, hkl⟩ : ∃ k, Hid (wr.heap.size = k) := ⟨_, hide rfl⟩
                rw [hkl.out] at Q9 hkl2
                rw [hkl.out]
                obtain ⟨ll, xl⟩ := bz_get Q9.out.x (k := kl) (o := ltR l) (by simp)
                obtain ⟨l0, l1, l2, l3, l4, l5, l6, l7, l8, l9, l10⟩ := lt_at xl
                clear xl
                by_cases k7 : l.k = 7
                · rw [if_pos k7] at hst
                  rw [if_neg (show ¬ l.k = 5 by omega)] at hdn
                  rw [k7] at l0
                  have hw : wrap64 (a - 1) = a - 1 := by have := ha.out; have := hst.out; have := hle.out; have := hak1.out; unfold wrap64; omega
                  replace k7 := hide k7
                  go_wp2_with fail
                  go_roundw
                  case rel => exact ⟨t + 1, by omega, by simp, by rw [hst.out, hw, ← ha.out]; simp; omega, Q9.out.sub (fun x hx => List.mem_cons_of_mem _ hx), vT9.out, by rw [hdn.out, List.append_nil]; exact tl9.out⟩
                  case measure => simp [intOf]; omega
                · rw [if_neg k7] at hst
                  obtain ⟨d1, d2, d3⟩ := cmpF k7
                  replace k7 := hide k7
                  by_cases k5 : l.k = 5
                  · rw [if_pos k5] at hdn
                    rw [k5] at l0
                    obtain ⟨q1, q2⟩ := hat.out k5
                    obtain ⟨i1, i2, i3⟩ := hEO.out.2.2 (l.q, l.s) (by rw [q2]; simp)
                    rw [q1, List.nil_append] at tl9
                    rw [q1, List.nil_append] at hdn
                    have lk := tl_look tl9.out i1 i2 i3
                    obtain ⟨w2, r2, tl2, f2⟩ := tl_put tl9.out i1 i2 hK2.out
                    dsimp only [pairV] at lk r2
                    have Q2 := hide (Q9.out.frk f2 hmw.out.1 hm6.out (fun x hx => by
                      simp only [List.mem_cons, List.not_mem_nil, or_false] at hx
                      rcases hx with rfl | rfl
                      · exact hkl2.out
                      · exact fun e => hmw.out.2 e.symm))
                    have vT2 := hide (vT9.out.fr f2 (fun _ e => hgm7.out e))
                    replace tl2 := hide tl2
                    replace k5 := hide k5
                    replace i1 := hide i1
                    replace i2 := hide i2
                    clear q1 q2 i3 f2
                    go_wp2_with fail
                    go_roundw
                    case rel => exact ⟨t + 1, by omega, by simp, by rw [hst.out, Nat.add_zero, ha.out], Q2.out.sub (fun x hx => List.mem_cons_of_mem _ hx), vT2.out, by rw [hdn.out]; exact tl2.out⟩
                    case measure => simp [intOf]; omega
                  · rw [if_neg k5] at hdn
                    obtain ⟨d4, d5, d6⟩ := cmpF k5
                    replace k5 := hide k5
                    go_wp2_with fail
                    go_roundw
                    case rel => exact ⟨t + 1, by omega, by simp, by rw [hst.out, Nat.add_zero, ha.out], Q9.out.sub (fun x hx => List.mem_cons_of_mem _ hx), vT9.out, by rw [hdn.out, List.append_nil]; exact tl9.out⟩
                    case measure => simp [intOf]; omega
              · obtain rfl : t = L.length := by omega
                have et : L.take L.length = L := List.take_of_length_le (Nat.le_refl _)
                rw [et] at tl7
                have e0 : (ackN L : Int) - (ackN (L.take L.length) : Int) = 0 := by rw [et]; omega
                rw [e0]
                replace e0 := hide e0
                go_wp2_with fail
                go_roundw
                case rel => exact ⟨j + 1, N + 3, F, D6, dnL L ++ K, by omega, by simp, by have := hN.out; omega, by have := hK.out; have := hEO.out.1; simp only [List.length_append]; omega, Q7.out, tl7.out, hm6.out, hEO.out.2.1⟩
                case measure => simp [intOf]; omega
        · obtain ⟨n7, n8, n9⟩ := cmpF k3
          have hL1 : L = [] := by rw [← hL.out]; unfold doL; rw [if_neg k1, if_neg k2, if_neg k3]
          have hM1 : M = [] := by rw [← hM.out]; unfold doN; rw [if_neg k1, if_neg k2]
          have hDE : D = nxN c id D y := by unfold nxN; rw [if_neg k1, if_neg k2, if_neg k3]
          replace k1 := hide k1
          replace k2 := hide k2
          replace k3 := hide k3
          replace hDE := hide hDE
          go_upto_region 19 with fail
          have vv : ViewT V8 (.slice none 0 0) ka [] := (own_nilT la).view
          clear c0 c1 c2 c3 c4 c5 c6 c7 c8 a0 a1 a2 a3 a4 a5 a6 a7 a8 a9 a10 a11 a12 a13 a14 a15 a16 a17 lc la lx x0 x1 xz
          obtain ⟨b1, c1', b2, c2', g1, vT, hgm', Q⟩ : ∃ (b1 : Option Addr) (c1' : Nat) (b2 : Option Addr) (c2' : Nat) (g1 : Nat), ViewT V8 (.slice b1 L.length c1') g1 L ∧ (g1 ≠ m ∧ g1 ≠ kx) ∧ At5 w V8 p B Fc F c id (N + 3) D [(kx, outR (.slice b1 L.length c1') (.slice b2 M.length c2')), (ka, actsO y), (kc, cfR c)] := by
            refine ⟨none, 0, none, 0, ka, ?_, ⟨by have := hkam.out; omega, hne.out.1⟩, ?_⟩
            · rw [hL1]; exact vv
            · rw [hL1, hM1]; exact Q8.out.step (Q8.out.n.mono (by omega)) (Step.refl _ _)
          have vT6 := hide vT
          have hgm := hide hgm'
          have Q6 := hide Q
          have tl6 := tl8
          have hm6 := hm8
          replace hL1 := hide hL1
          replace hM1 := hide hM1
          clear vv vT hgm' Q Q8 tl8 hm8 n1 n2 n3 n4 n5 n6 n7 n8 n9
          as_aux_lemma =>
            obtain ⟨D6, hD6⟩ : ∃ D6, nxN c id D y = D6 := ⟨_, rfl⟩
            rw [hD6] at hEO
            rw [hDE.out, hD6] at Q6
            clear hD6
            have vT7 := hide vT6.out
            have hgm7 : Hid (g1 ≠ m) := hide hgm.out.1
            obtain ⟨lx, xx⟩ := bz_get Q6.out.x (k := kx) (o := outR (.slice b1 L.length c1') (.slice b2 M.length c2')) (by simp)
            obtain ⟨x0, x1, xz⟩ := out_at xx
            have hLm : L.length ≤ 9223372036854775807 := by
              obtain ⟨_, _, _, q1, q2, _⟩ := vT7.out
              unfold maxLen at q2
              omega
            clear xx
            go_wp2_with fail
            go_loopw [14, 87] (fun ak i wr => ∃ t : Nat, t ≤ L.length ∧ i = .int .i64 t ∧ ak = .int .i64 ((ackN L : Int) - (ackN (L.take t) : Int)) ∧ At5 w wr p B Fc F c id (N + 3) D6 [(kc, cfR c)] ∧ ViewT wr (.slice b1 L.length c1') g1 L ∧ TlIs wr m (dnL (L.take t) ++ K)) (fun _ i _ => L.length - (intOf i).toNat)
            case atStart => exact ⟨0, Nat.zero_le _, rfl, by rw [show ackN (L.take 0) = 0 from rfl, hak.out]; rfl, Q6.out.sub (fun x hx => List.mem_cons_of_mem _ (List.mem_cons_of_mem _ hx)), vT7.out, tl6.out⟩
            case round =>
              clear Q6 vT6 vT7 tl6 x0 x1 xz lx
              obtain ⟨t, ht, rfl, rfl, Q7, vT7, tl7⟩ := hrel
              replace Q7 := hide Q7
              replace vT7 := hide vT7
              replace tl7 := hide tl7
              by_cases hlt : t < L.length
              · have hlt' : (t : Int) < L.length := by omega
                obtain ⟨o1, rfl, hgl, hra⟩ := lt_range vT7.out hlt
                have hst := ackN_step L hlt
                have hdn := dnL_step L hlt
                have hat := hide (fun h5 => dnL_at hEO.out.1 hlt h5)
                have hle := ackN_le L (t + 1)
                obtain ⟨l, hl⟩ : ∃ l, L[t] = l := ⟨_, rfl⟩
                rw [hl] at hra hst hdn hat
                obtain ⟨a, ha⟩ : ∃ a, Hid ((ackN L : Int) - (ackN (L.take t) : Int) = a) := ⟨_, hide rfl⟩
                rw [ha.out]
                replace hst := hide hst
                replace hdn := hide hdn
                replace hle := hide hle
                clear hl
                go_upto_region 21 with fail
                go_step
                go_step
                go_step
                go_step
                refine wpList_load_mid (by rfl) _ _ (by rfl) g1 (o1 + t * 11) (by rfl) (ltC l) _ hra Tryz.underlying37 (by rfl) (by exact infoLt) ?_
                clear hra
                go_step
                go_step
                go_step
                refine wpList_store_new _ _ (by rfl) (by rfl) (by rfl) (by rfl) (by exact infoLt) (by rfl) (ltC_one l) ?_
                obtain ⟨V9, hV9⟩ : ∃ V, wr.alloc (.cells (ltC l).toArray 37) = V := ⟨_, rfl⟩
                have Q9 : Hid (At5 w V9 p B Fc F c id (N + 3) D6 [(wr.heap.size, ltR l), (kc, cfR c)]) := by rw [← hV9]; exact hide (Q7.out.new (ltR l))
                have vT9 : Hid (ViewT V9 (.slice (some ⟨g1, o1, none⟩) L.length c1') g1 L) := by rw [← hV9]; exact hide (vT7.out.alloc _)
                have tl9 : Hid (TlIs V9 m (dnL (L.take t) ++ K)) := by rw [← hV9]; exact hide (tl7.out.below ((Below.refl _ _).alloc (Nat.le_refl _) _))
                have hkl2 : Hid (wr.heap.size ≠ m) := hide (by have := tl7.out.lt; omega)
                rw [hV9]
                clear hV9 Q7 vT7 tl7
                obtain ⟨kl, hkl⟩ : ∃ k, Hid (wr.heap.size = k) := ⟨_, hide rfl⟩
                rw [hkl.out] at Q9 hkl2
                rw [hkl.out]
                obtain ⟨ll, xl⟩ := bz_get Q9.out.x (k := kl) (o := ltR l) (by simp)
                obtain ⟨l0, l1, l2, l3, l4, l5, l6, l7, l8, l9, l10⟩ := lt_at xl
                clear xl
                by_cases k7 : l.k = 7
                · rw [if_pos k7] at hst
                  rw [if_neg (show ¬ l.k = 5 by omega)] at hdn
                  rw [k7] at l0
                  have hw : wrap64 (a - 1) = a - 1 := by have := ha.out; have := hst.out; have := hle.out; have := hak1.out; unfold wrap64; omega
                  replace k7 := hide k7
                  go_wp2_with fail
                  go_roundw
                  case rel => exact ⟨t + 1, by omega, by simp, by rw [hst.out, hw, ← ha.out]; simp; omega, Q9.out.sub (fun x hx => List.mem_cons_of_mem _ hx), vT9.out, by rw [hdn.out, List.append_nil]; exact tl9.out⟩
                  case measure => simp [intOf]; omega
                · rw [if_neg k7] at hst
                  obtain ⟨d1, d2, d3⟩ := cmpF k7
                  replace k7 := hide k7
                  by_cases k5 : l.k = 5
                  · rw [if_pos k5] at hdn
                    rw [k5] at l0
                    obtain ⟨q1, q2⟩ := hat.out k5
                    obtain ⟨i1, i2, i3⟩ := hEO.out.2.2 (l.q, l.s) (by rw [q2]; simp)
                    rw [q1, List.nil_append] at tl9
                    rw [q1, List.nil_append] at hdn
                    have lk := tl_look tl9.out i1 i2 i3
                    obtain ⟨w2, r2, tl2, f2⟩ := tl_put tl9.out i1 i2 hK2.out
                    dsimp only [pairV] at lk r2
                    have Q2 := hide (Q9.out.frk f2 hmw.out.1 hm6.out (fun x hx => by
                      simp only [List.mem_cons, List.not_mem_nil, or_false] at hx
                      rcases hx with rfl | rfl
                      · exact hkl2.out
                      · exact fun e => hmw.out.2 e.symm))
                    have vT2 := hide (vT9.out.fr f2 (fun _ e => hgm7.out e))
                    replace tl2 := hide tl2
                    replace k5 := hide k5
                    replace i1 := hide i1
                    replace i2 := hide i2
                    clear q1 q2 i3 f2
                    go_wp2_with fail
                    go_roundw
                    case rel => exact ⟨t + 1, by omega, by simp, by rw [hst.out, Nat.add_zero, ha.out], Q2.out.sub (fun x hx => List.mem_cons_of_mem _ hx), vT2.out, by rw [hdn.out]; exact tl2.out⟩
                    case measure => simp [intOf]; omega
                  · rw [if_neg k5] at hdn
                    obtain ⟨d4, d5, d6⟩ := cmpF k5
                    replace k5 := hide k5
                    go_wp2_with fail
                    go_roundw
                    case rel => exact ⟨t + 1, by omega, by simp, by rw [hst.out, Nat.add_zero, ha.out], Q9.out.sub (fun x hx => List.mem_cons_of_mem _ hx), vT9.out, by rw [hdn.out, List.append_nil]; exact tl9.out⟩
                    case measure => simp [intOf]; omega
              · obtain rfl : t = L.length := by omega
                have et : L.take L.length = L := List.take_of_length_le (Nat.le_refl _)
                rw [et] at tl7
                have e0 : (ackN L : Int) - (ackN (L.take L.length) : Int) = 0 := by rw [et]; omega
                rw [e0]
                replace e0 := hide e0
                go_wp2_with fail
                go_roundw
                case rel => exact ⟨j + 1, N + 3, F, D6, dnL L ++ K, by omega, by simp, by have := hN.out; omega, by have := hK.out; have := hEO.out.1; simp only [List.length_append]; omega, Q7.out, tl7.out, hm6.out, hEO.out.2.1⟩
                case measure => simp [intOf]; omega
    · obtain rfl : j = A.length := by omega
      go_wp2_with fail
      go_ret
      exact ⟨rfl, hB3.out⟩
theorem NodeEnds_walk (n bl tt cs cy cc cu ct cp : Int) (id : Int) (v : Value) (A : List Ac) (w : World) (hT : Hid (Tab w)) (h1 : ActsAt w.heap.size w v A) : Calls Tryz.prog 7 #[.agg #[.int .i64 n, .int .i64 bl, .int .i64 tt, .int .i64 cs, .int .i64 cy, .int .i64 cc, .int .i64 cu, .int .i64 ct, .int .i64 cp], .int .i64 id, v] w fun e w' => e = .returned (.bool true) ∧ Below w.heap.size w w' := by
  obtain ⟨ao, cap, rfl, hlc, hmx, hcs⟩ := _root_.id h1
  by_cases h : cfgZ n bl tt cs cy cc cu ct cp = 0 ∧ nodeB id n = true ∧ A.length ≤ 200
  · exact endsOk_walk ⟨n, bl, tt, cs, cy, cc, cu, ct, cp⟩ id ao cap A w hT (hide h1) (hide h.2.2) (hide h.1) (hide h.2.1)
  · exact endsNo_walk ⟨n, bl, tt, cs, cy, cc, cu, ct, cp⟩ id ao A.length cap w hT (by unfold maxLen at hmx; omega) h
end Go.Proofs.YtoenjdnccgmhoaaGreatDoor
