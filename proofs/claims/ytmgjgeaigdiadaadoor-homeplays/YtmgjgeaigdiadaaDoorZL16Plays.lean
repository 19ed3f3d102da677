/- layer 16: L16Plays, put together. -/
import Derived.Test.YtmgjgeaigdiadaaDoorB43
import Derived.Test.YtmgjgeaigdiadaaDoorB18
import Derived.Test.YtmgjgeaigdiadaaDoorB24
import Derived.Test.YtmgjgeaigdiadaaDoorB16
import Derived.Test.YtmgjgeaigdiadaaDoorB22
namespace Go.Proofs.YtmgjgeaigdiadaaDoor
open Go.ChangeShapes Go.WideShapes Go.ChangeAt Go.RowKit
set_option linter.unusedSimpArgs false
set_option linter.unusedVariables false
set_option maxRecDepth 10000
attribute [local go_sem, local simp] over_const setCell_drewN alloc_drewN Over.cell Over.frozen lt_s1 lt_s2 lt_s3 le_s0 le_s1 le_s2 le_s3 eq_s0 eq_s1 eq_s2 qe_s0
set_option maxHeartbeats 4000000 in
theorem playsNo_walk (c : Cf) (ao : Option Addr) (n cap : Nat) (ask : Int) (w : World) (hT : Hid (Tab w)) (hn : n ≤ 9223372036854775807) (hno : ¬ (cfgZ c.n c.bl c.tt c.cs c.cy c.cc c.cu c.ct c.cp = 0 ∧ n ≤ 200)) : Calls Tryd.prog 3 #[.agg #[.int .i64 c.n, .int .i64 c.bl, .int .i64 c.tt, .int .i64 c.cs, .int .i64 c.cy, .int .i64 c.cc, .int .i64 c.cu, .int .i64 c.ct, .int .i64 c.cp], .slice ao n cap, .int .i64 ask] w fun e w' => e = .returned (.bool true) ∧ Below w.heap.size w w' := by
  obtain ⟨z, hz⟩ : ∃ z, Hid (cfgZ c.n c.bl c.tt c.cs c.cy c.cc c.cu c.ct c.cp = z) := ⟨_, rfl⟩
  have hno' := hide hno
  have hz' := hz.out
  rw [hz'] at hno
  clear hz'
  have hn' := hide hn
  by_cases ez : z = 0
  · subst ez
    have hn2 : (200 : Int) < n := by
      have : ¬ n ≤ 200 := fun e => hno ⟨rfl, e⟩
      omega
    clear hno
    go_enter Tryd.func3, Tryd.ntmps3
    go_upto_region 1 with fail
    refine name_world ?_
    intro V hV
    have hB : Hid (Below w.heap.size w V) := by rw [← hV]; exact hide (by all_goals exact belEnd)
    have hX : Hid (V.heap[w.heap.size]? = some (cfR c)) := by rw [← hV]; exact hide (heap_alloc_new w (cfR c))
    clear hV
    obtain ⟨kc, hkc⟩ : ∃ k, Hid (w.heap.size = k) := ⟨_, hide rfl⟩
    rw [hkc.out] at hX
    rw [hkc.out]
    obtain ⟨c0, c1, c2, c3, c4, c5, c6, c7, c8⟩ := cf_at hX.out
    have lc : kc < V.heap.size := (Array.getElem?_eq_some_iff.1 hX.out).1
    go_wp2_with (first | (go_at_call 9; refine (madeNo_c c ao n cap _ hno'.out hn'.out).mono ?_; rintro e w1 ⟨rfl, hb1⟩; obtain ⟨x, rfl⟩ := over hb1; clear hb1; have f1 := x.upB kc) | (go_at_call 10; refine (awake16_c _ (hide (hT.out.lowH (hB.out.trans (Below.mono (B := V.heap.size) (by all_goals exact belEnd) hB.out.size))))).mono ?_; rintro e w2 ⟨rfl, hb2⟩; obtain ⟨y, rfl⟩ := over2 hb2; clear hb2; have f2 := y.upB kc) | (go_at_call 11; refine (refConfig_c c.n c.bl c.tt c.cs c.cy c.cc c.cu c.ct c.cp _ 0 hz).mono ?_; rintro e w3 ⟨rfl, hb3⟩; obtain ⟨y3, rfl⟩ := over2 hb3; clear hb3))
    go_ret
    refine ⟨rfl, ?_⟩
    exact hB.out.trans (Below.mono (B := V.heap.size) (by all_goals exact belEnd) hB.out.size)
  · obtain ⟨e1, e2, e3⟩ := cmpF ez
    replace ez := hide ez
    clear hno
    go_enter Tryd.func3, Tryd.ntmps3
    go_upto_region 1 with fail
    refine name_world ?_
    intro V hV
    have hB : Hid (Below w.heap.size w V) := by rw [← hV]; exact hide (by all_goals exact belEnd)
    have hX : Hid (V.heap[w.heap.size]? = some (cfR c)) := by rw [← hV]; exact hide (heap_alloc_new w (cfR c))
    clear hV
    obtain ⟨kc, hkc⟩ : ∃ k, Hid (w.heap.size = k) := ⟨_, hide rfl⟩
    rw [hkc.out] at hX
    rw [hkc.out]
    obtain ⟨c0, c1, c2, c3, c4, c5, c6, c7, c8⟩ := cf_at hX.out
    have lc : kc < V.heap.size := (Array.getElem?_eq_some_iff.1 hX.out).1
    go_wp2_with (first | (go_at_call 9; refine (madeNo_c c ao n cap _ hno'.out hn'.out).mono ?_; rintro e w1 ⟨rfl, hb1⟩; obtain ⟨x, rfl⟩ := over hb1; clear hb1; have f1 := x.upB kc) | (go_at_call 10; refine (awake16_c _ (hide (hT.out.lowH (hB.out.trans (Below.mono (B := V.heap.size) (by all_goals exact belEnd) hB.out.size))))).mono ?_; rintro e w2 ⟨rfl, hb2⟩; obtain ⟨y, rfl⟩ := over2 hb2; clear hb2; have f2 := y.upB kc) | (go_at_call 11; refine (refConfig_c c.n c.bl c.tt c.cs c.cy c.cc c.cu c.ct c.cp _ z hz).mono ?_; rintro e w3 ⟨rfl, hb3⟩; obtain ⟨y3, rfl⟩ := over2 hb3; clear hb3))
    go_ret
    refine ⟨rfl, ?_⟩
    exact hB.out.trans (Below.mono (B := V.heap.size) (by all_goals exact belEnd) hB.out.size)
set_option maxHeartbeats 8000000 in
theorem playsOk_walk (c : Cf) (ao : Option Addr) (cap : Nat) (A : List Ac) (ask : Int) (w : World) (hT : Hid (Tab w)) (hA : Hid (ActsAt w.heap.size w (.slice ao A.length cap) A)) (hlen : Hid (A.length ≤ 200)) (h0 : Hid (cfgZ c.n c.bl c.tt c.cs c.cy c.cc c.cu c.ct c.cp = 0)) : Calls Tryd.prog 3 #[.agg #[.int .i64 c.n, .int .i64 c.bl, .int .i64 c.tt, .int .i64 c.cs, .int .i64 c.cy, .int .i64 c.cc, .int .i64 c.cu, .int .i64 c.ct, .int .i64 c.cp], .slice ao A.length cap, .int .i64 ask] w fun e w' => e = .returned (.bool true) ∧ Below w.heap.size w w' := by
  have hma : A.length ≤ 9223372036854775807 := by have := hlen.out; omega
  have hAI := hide (acts_i64 hA.out)
  go_enter Tryd.func3, Tryd.ntmps3
  go_upto_region 1 with fail
  refine name_world ?_
  intro V hV
  have hB : Hid (Below w.heap.size w V) := by rw [← hV]; exact hide (by all_goals exact belEnd)
  have hX : Hid (V.heap[w.heap.size]? = some (cfR c)) := by rw [← hV]; exact hide (heap_alloc_new w (cfR c))
  clear hV
  obtain ⟨kc, hkc⟩ : ∃ k, Hid (w.heap.size = k) := ⟨_, hide rfl⟩
  rw [hkc.out] at hX
  rw [hkc.out]
  obtain ⟨c0, c1, c2, c3, c4, c5, c6, c7, c8⟩ := cf_at hX.out
  have lc : kc < V.heap.size := (Array.getElem?_eq_some_iff.1 hX.out).1
  go_upto_region 2 with (go_at_call 9; refine (madeOk_c c _ A.length _ _ h0 hlen.out).mono ?_; rintro e w1 ⟨p, q, rfl, B, F, Bq, G, hd1⟩; replace hd1 := hide hd1; clear c0 c1 c2 c3 c4 c5 c6 c7 c8 lc)
  have P1 : Hid (Hdz w w1 p B F q Bq G c 0 (hm0 c) [(kc, cfR c)]) := hide (made_hdz hB.out hd1.out hX.out (by rw [hkc.out]; exact Nat.le_refl _))
  clear hd1 hX hB
  go_wp2_with fail
  go_at_call 10
  refine (awake16_c _ (hide (hT.out.lowH P1.out.d.a.bel))).mono ?_
  rintro e w2 ⟨rfl, hb2⟩
  have P2 := hide (P1.out.below hb2)
  clear hb2 P1
  go_wp2_with fail
  go_loopw [7, 43] (fun hv i wr => ∃ (j p : Nat) (B : Bh) (F : Nat → Prop) (Bq : Bd) (G : Nat → Prop) (N : Nat) (D : Hm), hv = ptr p ∧ i = .int .i64 j ∧ j ≤ A.length ∧ N ≤ j * 3 ∧ Hdz w wr p B F q Bq G c N D [(kc, cfR c)]) (fun _ i _ => A.length - (intOf i).toNat)
  case atStart => exact ⟨0, _, _, _, _, _, 0, _, rfl, rfl, Nat.zero_le _, Nat.zero_le _, P2.out⟩
  case round =>
    clear P2
    obtain ⟨j, p, B, F, Bq, G, N, D, rfl, rfl, hj, hN, Q6⟩ := hrel
    replace Q6 := hide Q6
    replace hN := hide hN
    by_cases hlt : j < A.length
    · have hlt' : (j : Int) < A.length := by omega
      have hN6 : Hid (N + 8 ≤ 100000) := hide (by have := hN.out; have := hlen.out; omega)
      obtain ⟨b, o', rfl, hbB, hbl, hra⟩ := acts_range (hA.out.below Q6.out.d.a.bel) hlt
      obtain ⟨y, hy⟩ : ∃ y, A[j] = y := ⟨_, rfl⟩
      have hyk : Hid (I64 y.l.k) := hide (by rw [← hy]; exact hAI.out _ (List.getElem_mem hlt))
      rw [hy] at hra
      clear hy
      · skip
        go_upto_region 6 with fail
        go_step
        go_step
        go_step
        go_step
        refine wpList_load_mid (by rfl) _ _ (by rfl) b (o' + j * 15) (by rfl) (actC y) _ hra Tryd.underlying37 (by rfl) (by exact infoAc) ?_
        clear hra
        go_step
        go_step
        go_step
        refine wpList_store_new _ _ (by rfl) (by rfl) (by rfl) (by rfl) (by exact infoAc) (by rfl) (actC_one y) ?_
        obtain ⟨V7, hV7⟩ : ∃ V, wr.alloc (.cells (actC y).toArray 37) = V := ⟨_, rfl⟩
        have Q7 : Hid (Hdz w V7 p B F q Bq G c N D [(wr.heap.size, actsO y), (kc, cfR c)]) := by rw [← hV7]; exact hide (Q6.out.new (actsO y))
        rw [hV7]
        clear hV7
        obtain ⟨ka, hka⟩ : ∃ k, Hid (wr.heap.size = k) := ⟨_, hide rfl⟩
        rw [hka.out] at Q7
        rw [hka.out]
        clear Q6
        obtain ⟨a0, a1, a2, a3, a4, a5, a6, a7, a8, a9, a10, a11, a12, a13, a14⟩ := acts_at (bz_get Q7.out.x (k := ka) (o := actsO y) (by simp)).2
        have a14' := hide a14
        clear a14
        go_upto_region 7 with fail
        go_wp2_with fail
        refine wp_region_noPanic ?_
        refine wp_region_held_drew (S := (fun w' => w'.cell? ⟨ka, 0, none⟩ = some (.int .i64 y.l.k) ∧ w'.cell? ⟨ka, 1, none⟩ = some (.int .i64 y.l.a) ∧ w'.cell? ⟨ka, 2, none⟩ = some (.int .i64 y.l.b) ∧ w'.cell? ⟨ka, 3, none⟩ = some (.int .i64 y.l.q) ∧ w'.cell? ⟨ka, 4, none⟩ = some (.int .i64 y.l.s) ∧ w'.cell? ⟨ka, 5, none⟩ = some (.int .i64 y.l.w) ∧ w'.cell? ⟨ka, 6, none⟩ = some (.bool y.l.r) ∧ w'.cell? ⟨ka, 7, none⟩ = some (.int .i64 y.l.n) ∧ w'.cell? ⟨ka, 8, none⟩ = some (.bool y.l.o) ∧ w'.cell? ⟨ka, 9, none⟩ = some (.bool y.l.h) ∧ w'.cell? ⟨ka, 10, none⟩ = some (.int .i64 y.l.d) ∧ w'.cell? ⟨ka, 11, none⟩ = some (.int .i64 y.d0) ∧ w'.cell? ⟨ka, 12, none⟩ = some (.int .i64 y.d1) ∧ w'.cell? ⟨ka, 13, none⟩ = some (.int .i64 y.d2))) (by kernel_rfl) ?_ (fun hHeld => ?_)
        · exact ⟨a0, a1, a2, a3, a4, a5, a6, a7, a8, a9, a10, a11, a12, a13⟩
        clear a0 a1 a2 a3 a4 a5 a6 a7 a8 a9 a10 a11 a12 a13
        refine hTk 0 47 hHeld ?_
        refine hTk 1 48 hHeld ?_
        refine hTk 2 49 hHeld ?_
        refine hTk 3 50 hHeld ?_
        refine hTk 4 51 hHeld ?_
        refine hTk 6 53 hHeld ?_
        refine hTk 7 54 hHeld ?_
        refine hTk 8 55 hHeld ?_
        refine hTk 9 56 hHeld ?_
        refine hTk 10 57 hHeld ?_
        have Q8 : Hid (Hdz w V7.drew p B F q Bq G c N D [(ka, actsO y), (kc, cfR c)]) := hide (Q7.out.below (belowN (Below.refl _ _) 1))
        obtain ⟨w8, hw8⟩ : ∃ W, V7.drew = W := ⟨_, rfl⟩
        rw [hw8] at hHeld Q8 ⊢
        clear hw8 Q7 a14'
        obtain ⟨L, hL⟩ : ∃ L, Hid (htL c D y.l y.d0 y.d1 = L) := ⟨_, rfl⟩
        obtain ⟨D2, hD2⟩ : ∃ L, Hid (nxHT c D y.l y.d0 y.d1 = L) := ⟨_, rfl⟩
        refine hNo 5 fun K hK => ?_
        go_simp
        go_at_call 13
        refine (hmTake_c p B F c N D y.l y.d0 y.d1 y.d2 _ Q8.out.d.a.n (hide (hT.out.lowH Q8.out.d.a.bel)) (hide (Q8.out.d.a.no0 hT.out)) (by have := hN6.out; omega) hyk.out L hL).mono ?_
        rintro e w9 ⟨v9, rfl, F9, g9, hO⟩
        rw [hD2.out] at hO
        have Q9 := hide (Q8.out.prog hO.nd hO.st)
        have ow9 := hide hO.own
        have nf9 := hide (Q8.out.d.nf hO.new)
        clear hO Q8
        obtain ⟨a0, a1, a2, a3, a4, a5, a6, a7, a8, a9, a10, a11, a12, a13, a14⟩ := acts_at (bz_get Q9.out.x (k := ka) (o := actsO y) (by simp)).2
        refine hK.out _ _ ?_ fun hHeld => ?_
        · exact ⟨a0, a1, a2, a3, a4, a5, a6, a7, a8, a9, a10, a11, a12, a13⟩
        clear hK K
        try simp only [Act.put, za, zb, zc]
        clear a0 a1 a2 a3 a4 a5 a6 a7 a8 a9 a10 a11 a12 a13 a14
        refine hNo 11 fun K hK => ?_
        go_simp
        go_at_call 14
        refine (rhTake_c q Bq G c N D y.l y.d0 y.d1 y.d2 _ Q9.out.d (by have := hN6.out; omega) L hL).mono ?_
        rintro e w10 ⟨v10, rfl, Bq2, G2, g10, hR⟩
        rw [hD2.out] at hR
        have Q10 := hide (Q9.out.doc hR.nd hR.st)
        replace ow9 := hide (Q9.out.keepT hR.st ow9.out nf9.out)
        have ow10 := hide hR.own
        clear hR Q9 nf9
        obtain ⟨a0, a1, a2, a3, a4, a5, a6, a7, a8, a9, a10, a11, a12, a13, a14⟩ := acts_at (bz_get Q10.out.x (k := ka) (o := actsO y) (by simp)).2
        refine hK.out _ _ ?_ fun hHeld => ?_
        · exact ⟨a0, a1, a2, a3, a4, a5, a6, a7, a8, a9, a10, a11, a12, a13⟩
        clear hK K
        try simp only [Act.put, za, zb, zc]
        refine hNo 12 fun K hK => ?_
        go_simp
        go_at_call 12
        refine (sameT_c _ _ g9 g10 L _ ow9.out.view ow10.out.view).mono ?_
        rintro e w11 ⟨rfl, n11, rfl⟩
        refine hK.out _ _ ?_ fun hHeld => ?_
        · exact ⟨a0, a1, a2, a3, a4, a5, a6, a7, a8, a9, a10, a11, a12, a13⟩
        clear hK K
        try simp only [Act.put, za, zb, zc]
        refine hTk 13 60 hHeld ?_
        refine wpAnyH_done (by kernel_rfl) (NoPanic.normal ?_) _
        clear hHeld
        have Q11 := hide (Q10.out.below (V' := w10.drewN n11) (belowN (Below.refl _ _) n11))
        obtain ⟨w11, hw11⟩ : ∃ W, w10.drewN n11 = W := ⟨_, rfl⟩
        rw [hw11] at Q11 ⊢
        clear hw11 Q10 ow9 ow10 hL hD2 D a0 a1 a2 a3 a4 a5 a6 a7 a8 a9 a10 a11 a12 a13 a14
        obtain ⟨a, ha⟩ : ∃ x, Hid (atCur D2.L ask = x) := ⟨_, rfl⟩
        obtain ⟨ok, hok⟩ : ∃ x, Hid (okCur D2.L ask = x) := ⟨_, rfl⟩
        go_wp2_with fail
        go_at_call 15
        refine (hmCur_c p B F9 c (N + 1) D2 ask _ Q11.out.d.a.n a ha ok hok).mono ?_
        rintro e w12 ⟨rfl, hb12⟩
        have Q12a := hide (Q11.out.below hb12)
        have q10 := Q12a.out.d.d.at'.c10
        have hql := Q12a.out.d.d.pl
        have Q12 := hide (Q12a.out.new (resO a))
        clear hb12 Q11
        go_wp2_with fail
        go_at_call 16
        refine (dCur_c Bq2.qa Bq2.qh _ (N + 1) D2.L G2 ask _ Q12.out.d.d.arb (by have := hN6.out; omega) a ha ok hok).mono ?_
        rintro e w13 ⟨rfl, hb13⟩
        have Q13 := hide ((Q12.out.below hb13).new (resO a))
        obtain ⟨k1, hk1⟩ : ∃ k, Hid (w12.heap.size = k) := ⟨_, hide rfl⟩
        obtain ⟨k2, hk2⟩ : ∃ k, Hid (w13.heap.size = k) := ⟨_, hide rfl⟩
        rw [hk1.out, hk2.out] at Q13
        clear hb13 Q12 Q12a q10 hql
        go_upto_region 11 with fail
        rw [hk1.out, hk2.out]
        obtain ⟨V14, hV14⟩ : ∃ V, w13.alloc (resO a) = V := ⟨_, rfl⟩
        rw [hV14] at Q13
        dsimp only [resO] at hV14
        rw [hV14]
        clear hV14
        obtain ⟨ao3, cap3, hm0⟩ := Q13.out.d.d.mem2
        obtain ⟨n3, hn3⟩ : ∃ n, Hid (D2.M.length = n) := ⟨_, hide rfl⟩
        rw [hn3.out] at hm0
        have hM9 := hide hm0
        have hB14 : Hid (Below V14.heap.size V14 V14) := hide (Below.refl _ _)
        clear hm0
        obtain ⟨z0, z1, z2, y0, y1, y2, q9, q10⟩ : V14.cell? ⟨k1, 0, none⟩ = some (.int .i64 a.b) ∧ V14.cell? ⟨k1, 1, none⟩ = some (.int .i64 a.n) ∧ V14.cell? ⟨k1, 2, none⟩ = some (.int .i64 a.s) ∧ V14.cell? ⟨k2, 0, none⟩ = some (.int .i64 a.b) ∧ V14.cell? ⟨k2, 1, none⟩ = some (.int .i64 a.n) ∧ V14.cell? ⟨k2, 2, none⟩ = some (.int .i64 a.s) ∧ V14.cell? ⟨q, 9, none⟩ = some (.slice ao3 n3 cap3) ∧ V14.cell? ⟨q, 10, none⟩ = some (ptr Bq2.qa) := by
          have y := (bz_get Q13.out.x (k := k1) (o := resO a) (by simp)).2
          have z := (bz_get Q13.out.x (k := k2) (o := resO a) (by simp)).2
          exact ⟨cell_of_row _ _ _ _ _ _ y, cell_of_row _ _ _ _ _ _ y, cell_of_row _ _ _ _ _ _ y, cell_of_row _ _ _ _ _ _ z, cell_of_row _ _ _ _ _ _ z, cell_of_row _ _ _ _ _ _ z, (hM9.out V14 hB14.out).1, Q13.out.d.d.at'.c10⟩
        go_wp2_with fail
        refine wp_region_noPanic ?_
        refine wp_region_held_drew (S := (fun w' => w'.cell? ⟨k1, 0, none⟩ = some (.int .i64 a.b) ∧ w'.cell? ⟨k1, 1, none⟩ = some (.int .i64 a.n) ∧ w'.cell? ⟨k1, 2, none⟩ = some (.int .i64 a.s) ∧ w'.cell? ⟨k2, 0, none⟩ = some (.int .i64 a.b) ∧ w'.cell? ⟨k2, 1, none⟩ = some (.int .i64 a.n) ∧ w'.cell? ⟨k2, 2, none⟩ = some (.int .i64 a.s) ∧ w'.cell? ⟨q, 9, none⟩ = some (.slice ao3 n3 cap3) ∧ w'.cell? ⟨q, 10, none⟩ = some (ptr Bq2.qa))) (by kernel_rfl) ?_ (fun hHeld => ?_)
        · exact ⟨z0, z1, z2, y0, y1, y2, q9, q10⟩
        clear z0 z1 z2 y0 y1 y2 q9 q10
        refine hTk 0 76 hHeld ?_
        refine hTk 1 77 hHeld ?_
        refine hVl 2 78 (.bool false) hHeld (fun wz hSw => ?_) ?_
        · try dsimp only at hSw
          go_simp
        refine hTk 3 79 hHeld ?_
        refine hTk 4 80 hHeld ?_
        refine hTk 5 81 hHeld ?_
        refine hVl 6 82 (.bool false) hHeld (fun wz hSw => ?_) ?_
        · try dsimp only at hSw
          go_simp
        refine hTk 7 83 hHeld ?_
        refine hTk 8 84 hHeld ?_
        refine hTk 9 85 hHeld ?_
        refine hTk 11 87 hHeld ?_
        refine hTk 12 88 hHeld ?_
        refine hTk 13 89 hHeld ?_
        refine hTk 14 90 hHeld ?_
        have Q14 := hide (Q13.out.below (V' := V14.drew) (belowN (Below.refl _ _) 1))
        replace hB14 : Hid (Below V14.heap.size V14 V14.drew) := hide (hB14.out.drew)
        obtain ⟨w14, hw14⟩ : ∃ W, V14.drew = W := ⟨_, rfl⟩
        rw [hw14] at hHeld Q14 hB14 ⊢
        clear hw14 Q13
        refine hNo 10 fun K hK => ?_
        go_simp
        go_at_call 18
        refine (hmAll_c p B F9 c (N + 1) D2 _ Q14.out.d.a.n n3 hn3).mono ?_
        rintro e w15 ⟨rfl, ho15, hb15⟩
        have Q15 := hide (Q14.out.below hb15)
        replace hB14 := hide (hB14.out.trans (hb15.mono hB14.out.size))
        obtain ⟨g15, hg15⟩ : ∃ k, w14.heap.size = k := ⟨_, rfl⟩
        rw [hg15] at ho15 ⊢
        have ow15 := hide ho15
        clear hb15 Q14 hg15 ho15
        obtain ⟨z0, z1, z2, y0, y1, y2, q9, q10⟩ : w15.cell? ⟨k1, 0, none⟩ = some (.int .i64 a.b) ∧ w15.cell? ⟨k1, 1, none⟩ = some (.int .i64 a.n) ∧ w15.cell? ⟨k1, 2, none⟩ = some (.int .i64 a.s) ∧ w15.cell? ⟨k2, 0, none⟩ = some (.int .i64 a.b) ∧ w15.cell? ⟨k2, 1, none⟩ = some (.int .i64 a.n) ∧ w15.cell? ⟨k2, 2, none⟩ = some (.int .i64 a.s) ∧ w15.cell? ⟨q, 9, none⟩ = some (.slice ao3 n3 cap3) ∧ w15.cell? ⟨q, 10, none⟩ = some (ptr Bq2.qa) := by
          have y := (bz_get Q15.out.x (k := k1) (o := resO a) (by simp)).2
          have z := (bz_get Q15.out.x (k := k2) (o := resO a) (by simp)).2
          exact ⟨cell_of_row _ _ _ _ _ _ y, cell_of_row _ _ _ _ _ _ y, cell_of_row _ _ _ _ _ _ y, cell_of_row _ _ _ _ _ _ z, cell_of_row _ _ _ _ _ _ z, cell_of_row _ _ _ _ _ _ z, (hM9.out w15 hB14.out).1, Q15.out.d.d.at'.c10⟩
        refine hK.out _ _ ?_ fun hHeld => ?_
        · exact ⟨z0, z1, z2, y0, y1, y2, q9, q10⟩
        clear hK K
        try simp only [Act.put, za, zb, zc]
        clear z0 z1 z2 y0 y1 y2 q9 q10
        refine hNo 15 fun K hK => ?_
        go_simp
        go_at_call 17
        refine (sameB_c _ _ g15 Bq2.mg D2.M _ ow15.out.view (hM9.out w15 hB14.out).2).mono ?_
        rintro e w16 ⟨rfl, n16, rfl⟩
        have Q16 := hide (Q15.out.below (V' := w15.drewN n16) (belowN (Below.refl _ _) n16))
        replace hB14 : Hid (Below V14.heap.size V14 (w15.drewN n16)) := hide (belowN hB14.out n16)
        obtain ⟨w16, hw16⟩ : ∃ W, w15.drewN n16 = W := ⟨_, rfl⟩
        rw [hw16] at Q16 hB14 ⊢
        clear hw16 Q15 ow15
        obtain ⟨z0, z1, z2, y0, y1, y2, q9, q10⟩ : w16.cell? ⟨k1, 0, none⟩ = some (.int .i64 a.b) ∧ w16.cell? ⟨k1, 1, none⟩ = some (.int .i64 a.n) ∧ w16.cell? ⟨k1, 2, none⟩ = some (.int .i64 a.s) ∧ w16.cell? ⟨k2, 0, none⟩ = some (.int .i64 a.b) ∧ w16.cell? ⟨k2, 1, none⟩ = some (.int .i64 a.n) ∧ w16.cell? ⟨k2, 2, none⟩ = some (.int .i64 a.s) ∧ w16.cell? ⟨q, 9, none⟩ = some (.slice ao3 n3 cap3) ∧ w16.cell? ⟨q, 10, none⟩ = some (ptr Bq2.qa) := by
          have y := (bz_get Q16.out.x (k := k1) (o := resO a) (by simp)).2
          have z := (bz_get Q16.out.x (k := k2) (o := resO a) (by simp)).2
          exact ⟨cell_of_row _ _ _ _ _ _ y, cell_of_row _ _ _ _ _ _ y, cell_of_row _ _ _ _ _ _ y, cell_of_row _ _ _ _ _ _ z, cell_of_row _ _ _ _ _ _ z, cell_of_row _ _ _ _ _ _ z, (hM9.out w16 hB14.out).1, Q16.out.d.d.at'.c10⟩
        refine hK.out _ _ ?_ fun hHeld => ?_
        · exact ⟨z0, z1, z2, y0, y1, y2, q9, q10⟩
        clear hK K
        try simp only [Act.put, za, zb, zc]
        clear z0 z1 z2 y0 y1 y2 q9 q10
        refine hVl 16 92 (.bool false) hHeld (fun wz hSw => ?_) ?_
        · try dsimp only at hSw
          go_simp
        refine hTk 17 93 hHeld ?_
        refine hTk 18 94 hHeld ?_
        refine hTk 19 95 hHeld ?_
        refine hTk 20 96 hHeld ?_
        refine hTk 22 98 hHeld ?_
        refine hTk 23 99 hHeld ?_
        refine hTk 24 100 hHeld ?_
        refine hTk 25 101 hHeld ?_
        refine hTk 26 102 hHeld ?_
        obtain ⟨Ws, hWs⟩ : ∃ x, wtsQ D2.L ask = x := ⟨_, rfl⟩
        refine hNo 21 fun K hK => ?_
        go_simp
        go_at_call 20
        refine (hmWait_c p B F9 c (N + 1) D2 ask _ Q16.out.d.a.n (by have := hN6.out; omega)).mono ?_
        rintro e w17 ⟨v17, rfl, ob, hW, -, hb17⟩
        rw [hWs] at hW
        obtain ⟨g17, hv17⟩ := hW.view
        have Q17 := hide (Q16.out.below hb17)
        replace hB14 := hide (hB14.out.trans (hb17.mono hB14.out.size))
        replace hv17 := hide hv17
        clear hb17 Q16 hW
        obtain ⟨z0, z1, z2, y0, y1, y2, q9, q10⟩ : w17.cell? ⟨k1, 0, none⟩ = some (.int .i64 a.b) ∧ w17.cell? ⟨k1, 1, none⟩ = some (.int .i64 a.n) ∧ w17.cell? ⟨k1, 2, none⟩ = some (.int .i64 a.s) ∧ w17.cell? ⟨k2, 0, none⟩ = some (.int .i64 a.b) ∧ w17.cell? ⟨k2, 1, none⟩ = some (.int .i64 a.n) ∧ w17.cell? ⟨k2, 2, none⟩ = some (.int .i64 a.s) ∧ w17.cell? ⟨q, 9, none⟩ = some (.slice ao3 n3 cap3) ∧ w17.cell? ⟨q, 10, none⟩ = some (ptr Bq2.qa) := by
          have y := (bz_get Q17.out.x (k := k1) (o := resO a) (by simp)).2
          have z := (bz_get Q17.out.x (k := k2) (o := resO a) (by simp)).2
          exact ⟨cell_of_row _ _ _ _ _ _ y, cell_of_row _ _ _ _ _ _ y, cell_of_row _ _ _ _ _ _ y, cell_of_row _ _ _ _ _ _ z, cell_of_row _ _ _ _ _ _ z, cell_of_row _ _ _ _ _ _ z, (hM9.out w17 hB14.out).1, Q17.out.d.d.at'.c10⟩
        refine hK.out _ _ ?_ fun hHeld => ?_
        · exact ⟨z0, z1, z2, y0, y1, y2, q9, q10⟩
        clear hK K
        try simp only [Act.put, za, zb, zc]
        clear z0 z1 z2 y0 y1 y2 q9 q10
        refine hNo 27 fun K hK => ?_
        go_simp
        go_at_call 21
        refine (dWait_c Bq2.qa Bq2.qh _ (N + 1) D2.L G2 ask _ Q17.out.d.d.arb (by have := hN6.out; omega)).mono ?_
        rintro e w18 ⟨v18, rfl, g18, hv18, hb18⟩
        rw [hWs] at hv18
        have Q18 := hide (Q17.out.below hb18)
        replace hB14 := hide (hB14.out.trans (hb18.mono hB14.out.size))
        replace hv17 := hide (hv17.out.below hb18)
        replace hv18 := hide hv18
        clear hb18 Q17 hWs
        obtain ⟨z0, z1, z2, y0, y1, y2, q9, q10⟩ : w18.cell? ⟨k1, 0, none⟩ = some (.int .i64 a.b) ∧ w18.cell? ⟨k1, 1, none⟩ = some (.int .i64 a.n) ∧ w18.cell? ⟨k1, 2, none⟩ = some (.int .i64 a.s) ∧ w18.cell? ⟨k2, 0, none⟩ = some (.int .i64 a.b) ∧ w18.cell? ⟨k2, 1, none⟩ = some (.int .i64 a.n) ∧ w18.cell? ⟨k2, 2, none⟩ = some (.int .i64 a.s) ∧ w18.cell? ⟨q, 9, none⟩ = some (.slice ao3 n3 cap3) ∧ w18.cell? ⟨q, 10, none⟩ = some (ptr Bq2.qa) := by
          have y := (bz_get Q18.out.x (k := k1) (o := resO a) (by simp)).2
          have z := (bz_get Q18.out.x (k := k2) (o := resO a) (by simp)).2
          exact ⟨cell_of_row _ _ _ _ _ _ y, cell_of_row _ _ _ _ _ _ y, cell_of_row _ _ _ _ _ _ y, cell_of_row _ _ _ _ _ _ z, cell_of_row _ _ _ _ _ _ z, cell_of_row _ _ _ _ _ _ z, (hM9.out w18 hB14.out).1, Q18.out.d.d.at'.c10⟩
        refine hK.out _ _ ?_ fun hHeld => ?_
        · exact ⟨z0, z1, z2, y0, y1, y2, q9, q10⟩
        clear hK K
        try simp only [Act.put, za, zb, zc]
        clear z0 z1 z2 y0 y1 y2 q9 q10
        refine hNo 28 fun K hK => ?_
        go_simp
        go_at_call 19
        refine (ints_c _ _ g17 g18 Ws Ws _ hv17.out hv18.out).mono ?_
        rintro e w19 ⟨e19, n19, rfl⟩
        rw [show decide (Ws = Ws) = true by simp] at e19
        subst e19
        have Q19 := hide (Q18.out.below (V' := w18.drewN n19) (belowN (Below.refl _ _) n19))
        replace hB14 : Hid (Below V14.heap.size V14 (w18.drewN n19)) := hide (belowN hB14.out n19)
        obtain ⟨w19, hw19⟩ : ∃ W, w18.drewN n19 = W := ⟨_, rfl⟩
        rw [hw19] at Q19 hB14 ⊢
        clear hw19 Q18 hv17 hv18
        obtain ⟨z0, z1, z2, y0, y1, y2, q9, q10⟩ : w19.cell? ⟨k1, 0, none⟩ = some (.int .i64 a.b) ∧ w19.cell? ⟨k1, 1, none⟩ = some (.int .i64 a.n) ∧ w19.cell? ⟨k1, 2, none⟩ = some (.int .i64 a.s) ∧ w19.cell? ⟨k2, 0, none⟩ = some (.int .i64 a.b) ∧ w19.cell? ⟨k2, 1, none⟩ = some (.int .i64 a.n) ∧ w19.cell? ⟨k2, 2, none⟩ = some (.int .i64 a.s) ∧ w19.cell? ⟨q, 9, none⟩ = some (.slice ao3 n3 cap3) ∧ w19.cell? ⟨q, 10, none⟩ = some (ptr Bq2.qa) := by
          have y := (bz_get Q19.out.x (k := k1) (o := resO a) (by simp)).2
          have z := (bz_get Q19.out.x (k := k2) (o := resO a) (by simp)).2
          exact ⟨cell_of_row _ _ _ _ _ _ y, cell_of_row _ _ _ _ _ _ y, cell_of_row _ _ _ _ _ _ y, cell_of_row _ _ _ _ _ _ z, cell_of_row _ _ _ _ _ _ z, cell_of_row _ _ _ _ _ _ z, (hM9.out w19 hB14.out).1, Q19.out.d.d.at'.c10⟩
        refine hK.out _ _ ?_ fun hHeld => ?_
        · exact ⟨z0, z1, z2, y0, y1, y2, q9, q10⟩
        clear hK K
        try simp only [Act.put, za, zb, zc]
        clear z0 z1 z2 y0 y1 y2 q9 q10
        refine hVl 29 105 (.bool false) hHeld (fun wz hSw => ?_) ?_
        · try dsimp only at hSw
          go_simp
        refine hTk 30 106 hHeld ?_
        refine wpAnyH_done (by kernel_rfl) (NoPanic.normal ?_) _
        clear hHeld
        have Q20 := hide (Q19.out.sub (K' := [(ka, actsO y), (kc, cfR c)]) (by simp))
        clear Q19 hB14 hM9 hn3 ha hok hk1 hk2 hka
        obtain ⟨hka, xka⟩ := bz_get Q20.out.x (k := ka) (o := actsO y) (by simp)
        have a14 := (acts_at xka).2.2.2.2.2.2.2.2.2.2.2.2.2.2
        obtain ⟨hkc2, xkc⟩ := bz_get Q20.out.x (k := kc) (o := cfR c) (by simp)
        have c0 := (cf_at xkc).1
        clear xka xkc
        obtain ⟨cp, hcp⟩ : ∃ x, y.cp = x := ⟨_, rfl⟩
        rw [hcp] at a14
        clear hcp
        cases cp
        · go_wp2_with fail
          go_roundw
          case rel => exact ⟨j + 1, p, B, F9, Bq2, G2, N + 1, D2, rfl, by simp, by omega, by have := hN.out; omega, Q20.out.sub (by simp)⟩
          case measure => simp [intOf]; omega
        · go_wp2_with fail
          go_at_call 22
          refine (hmCopy_c p B F9 c (N + 1) D2 _ Q20.out.d.a.n (by have := hN6.out; omega)).mono ?_
          rintro e w21 ⟨r, rfl, B3, F3, hn21, hl21, hb21⟩
          have T1 := hide (Htri.first Q20.out hn21 hl21 hb21)
          replace c0 := (cf_at (bz_get T1.out.z.x (k := kc) (o := cfR c) (by simp)).2).1
          have hkc3 := (bz_get T1.out.z.x (k := kc) (o := cfR c) (by simp)).1
          clear hn21 hl21 hb21 Q20 a14 hka hkc2
          obtain ⟨L1, hL1⟩ : ∃ L, Hid (htL c D2 ⟨3, 0, c.n, 0, 0, 0, false, 0, false, false, 0⟩ 0 0 = L) := ⟨_, rfl⟩
          obtain ⟨D3, hD3⟩ : ∃ L, Hid (nxHT c D2 ⟨3, 0, c.n, 0, 0, 0, false, 0, false, false, 0⟩ 0 0 = L) := ⟨_, rfl⟩
          go_wp2_with fail
          go_at_call 13
          refine (hmTake_c p B F9 c (N + 1) D2 ⟨3, 0, c.n, 0, 0, 0, false, 0, false, false, 0⟩ 0 0 0 _ T1.out.a.n (hide (hT.out.lowH T1.out.a.bel)) (hide (T1.out.a.no0 hT.out)) (by have := hN6.out; omega) (i64_of_small (x := 3) (by decide) (by decide)) L1 hL1).mono ?_
          rintro e w22 ⟨v22, rfl, F4, g22, hO⟩
          rw [hD3.out] at hO
          have T2 := hide (T1.out.old hO.nd hO.st)
          clear hO T1 c0 hkc3
          have c0 := (cf_at (bz_get T2.out.z.x (k := kc) (o := cfR c) (by simp)).2).1
          have hkc3 := (bz_get T2.out.z.x (k := kc) (o := cfR c) (by simp)).1
          obtain ⟨L2, hL2⟩ : ∃ L, Hid (htL c D3 ⟨1, 0, c.n, 0, 0, 0, false, 1, false, false, 0⟩ 0 0 = L) := ⟨_, rfl⟩
          go_wp2_with fail
          go_at_call 13
          refine (hmTake_c p B F4 c (N + 1 + 1) D3 ⟨1, 0, c.n, 0, 0, 0, false, 1, false, false, 0⟩ 0 0 0 _ T2.out.a.n (hide (hT.out.lowH T2.out.a.bel)) (hide (T2.out.a.no0 hT.out)) (by have := hN6.out; omega) (i64_of_small (x := 1) (by decide) (by decide)) L2 hL2).mono ?_
          rintro e w23 ⟨v23, rfl, F5, g23, hO⟩
          have T3 := hide (T2.out.old hO.nd hO.st)
          clear hO T2 c0 hkc3
          go_wp2_with fail
          go_roundw
          case rel => exact ⟨j + 1, r, B3, F3, Bq2, G2, N + 1, D2, rfl, by simp, by omega, by have := hN.out; omega, T3.out.z.sub (by simp)⟩
          case measure => simp [intOf]; omega
    · obtain rfl : j = A.length := by omega
      go_wp2_with fail
      go_ret
      exact ⟨rfl, Q6.out.d.a.bel⟩
theorem HomePlays_walk (c : Cf) (ao : Option Addr) (n cap : Nat) (ask : Int) (A : List Ac) (w : World) (hT : Hid (Tab w)) (hA : ActsAt w.heap.size w (.slice ao n cap) A) : Calls Tryd.prog 3 #[.agg #[.int .i64 c.n, .int .i64 c.bl, .int .i64 c.tt, .int .i64 c.cs, .int .i64 c.cy, .int .i64 c.cc, .int .i64 c.cu, .int .i64 c.ct, .int .i64 c.cp], .slice ao n cap, .int .i64 ask] w fun e w' => e = .returned (.bool true) ∧ Below w.heap.size w w' := by
  obtain ⟨ao', cap', e, h1, h2, -⟩ := id hA
  simp only [Value.slice.injEq] at e
  obtain ⟨rfl, rfl, rfl⟩ := e
  by_cases hz : cfgZ c.n c.bl c.tt c.cs c.cy c.cc c.cu c.ct c.cp = 0 ∧ A.length ≤ 200
  · exact playsOk_walk c ao cap A ask w hT (hide hA) (hide hz.2) (hide hz.1)
  · exact playsNo_walk c ao A.length cap ask w hT (by unfold maxLen at h2; omega) hz
end Go.Proofs.YtmgjgeaigdiadaaDoor
