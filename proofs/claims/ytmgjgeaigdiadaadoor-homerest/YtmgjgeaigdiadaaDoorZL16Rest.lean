/- layer 16: L16Rest, put together. -/
import Derived.Test.YtmgjgeaigdiadaaDoorB43
import Derived.Test.YtmgjgeaigdiadaaDoorB18
import Derived.Test.YtmgjgeaigdiadaaDoorB22
import Derived.Test.YtmgjgeaigdiadaaDoorZHrMath
namespace Go.Proofs.YtmgjgeaigdiadaaDoor
open Go.ChangeShapes Go.WideShapes Go.ChangeAt Go.RowKit
set_option linter.unusedSimpArgs false
set_option linter.unusedVariables false
set_option maxRecDepth 10000
attribute [local go_sem, local simp] over_const setCell_drewN alloc_drewN Over.cell Over.frozen lt_s1 lt_s2 lt_s3 le_s0 le_s1 le_s2 le_s3 eq_s0 eq_s1 eq_s2 qe_s0
set_option maxHeartbeats 4000000 in
theorem restNo_walk (c : Cf) (ao : Option Addr) (n cap : Nat) (w : World) (hT : Hid (Tab w)) (hn : n ≤ 9223372036854775807) (hno : ¬ (cfgZ c.n c.bl c.tt c.cs c.cy c.cc c.cu c.ct c.cp = 0 ∧ n ≤ 200)) : Calls Tryd.prog 7 #[.agg #[.int .i64 c.n, .int .i64 c.bl, .int .i64 c.tt, .int .i64 c.cs, .int .i64 c.cy, .int .i64 c.cc, .int .i64 c.cu, .int .i64 c.ct, .int .i64 c.cp], .slice ao n cap] w fun e w' => e = .returned (.bool true) ∧ Below w.heap.size w w' := by
  have hno' := hide hno
  have hn' := hide hn
  clear hno hn
  go_enter Tryd.func7, Tryd.ntmps7
  go_upto_region 1 with fail
  refine name_world ?_
  intro V hV
  have hB : Hid (Below w.heap.size w V) := by rw [← hV]; exact hide (by all_goals exact belEnd)
  have hX : Hid (V.heap[w.heap.size]? = some (cfR c)) := by rw [← hV]; exact hide (heap_alloc_new w (cfR c))
  clear hV
  obtain ⟨kc, hkc⟩ : ∃ k, Hid (w.heap.size = k) := ⟨_, hide rfl⟩
  rw [hkc.out] at hX
  rw [hkc.out]
  obtain ⟨c0, c1, c2, c3, c4, c5, c6, c7, c8⟩ := cf_at hX.out
  have lc : kc < V.heap.size := (Array.getElem?_eq_some_iff.1 hX.out).1
  go_wp2_with (first | (go_at_call 9; refine (madeNo_c c ao n cap _ hno'.out hn'.out).mono ?_; rintro e w1 ⟨rfl, hb1⟩; obtain ⟨x, rfl⟩ := over hb1; clear hb1; have f1 := x.upB kc) | (go_at_call 10; refine (awake16_c _ (hide (hT.out.lowH (hB.out.trans (Below.mono (B := V.heap.size) (by all_goals exact belEnd) hB.out.size))))).mono ?_; rintro e w2 ⟨rfl, hb2⟩; obtain ⟨y, rfl⟩ := over2 hb2; clear hb2; have f2 := y.upB kc))
  go_ret
  refine ⟨rfl, ?_⟩
  exact hB.out.trans (Below.mono (B := V.heap.size) (by all_goals exact belEnd) hB.out.size)
set_option maxHeartbeats 8000000 in
theorem restOk_walk (c : Cf) (ao : Option Addr) (cap : Nat) (A : List Ac) (w : World) (hT : Hid (Tab w)) (hA : Hid (ActsAt w.heap.size w (.slice ao A.length cap) A)) (hlen : Hid (A.length ≤ 200)) (h0 : Hid (cfgZ c.n c.bl c.tt c.cs c.cy c.cc c.cu c.ct c.cp = 0)) : Calls Tryd.prog 7 #[.agg #[.int .i64 c.n, .int .i64 c.bl, .int .i64 c.tt, .int .i64 c.cs, .int .i64 c.cy, .int .i64 c.cc, .int .i64 c.cu, .int .i64 c.ct, .int .i64 c.cp], .slice ao A.length cap] w fun e w' => e = .returned (.bool true) ∧ Below w.heap.size w w' := by
  have hma : A.length ≤ 9223372036854775807 := by have := hlen.out; omega
  have hAI := hide (acts_i64 hA.out)
  go_enter Tryd.func7, Tryd.ntmps7
  go_upto_region 1 with fail
  refine name_world ?_
  intro V hV
  have hB : Hid (Below w.heap.size w V) := by rw [← hV]; exact hide (by all_goals exact belEnd)
  have hX : Hid (V.heap[w.heap.size]? = some (cfR c)) := by rw [← hV]; exact hide (heap_alloc_new w (cfR c))
  clear hV
  obtain ⟨kc, hkc⟩ : ∃ k, Hid (w.heap.size = k) := ⟨_, hide rfl⟩
  rw [hkc.out] at hX
  rw [hkc.out]
  obtain ⟨c0, c1, c2, c3, c4, c5, c6, c7, c8⟩ := cf_at hX.out
  have lc : kc < V.heap.size := (Array.getElem?_eq_some_iff.1 hX.out).1
  go_upto_region 2 with (go_at_call 9; refine (madeOk_c c _ A.length _ _ h0 hlen.out).mono ?_; rintro e w1 ⟨p, q, rfl, B, F, Bq, G, hd1⟩; replace hd1 := hide hd1; clear c0 c1 c2 c3 c4 c5 c6 c7 c8 lc)
  have P1 : Hid (Hdz w w1 p B F q Bq G c 0 (hm0 c) [(kc, cfR c)]) := hide (made_hdz hB.out hd1.out hX.out (by rw [hkc.out]; exact Nat.le_refl _))
  clear hd1 hX hB
  go_wp2_with fail
  go_at_call 10
  refine (awake16_c _ (hide (hT.out.lowH P1.out.d.a.bel))).mono ?_
  rintro e w2 ⟨rfl, hb2⟩
  have P2 := hide (P1.out.below hb2)
  clear hb2 P1
  go_wp2_with fail
  go_loopw [29] (fun i wr => ∃ (j : Nat) (F : Nat → Prop) (Bq : Bd) (G : Nat → Prop) (N : Nat) (D : Hm), i = .int .i64 j ∧ j ≤ A.length ∧ N ≤ j * 3 ∧ restL D.L ∧ Hdz w wr p B F q Bq G c N D [(kc, cfR c)]) (fun i _ => A.length - (intOf i).toNat)
  case atStart => exact ⟨0, _, _, _, 0, _, rfl, Nat.zero_le _, Nat.zero_le _, rest_rep _, P2.out⟩
  case round =>
    clear P2
    obtain ⟨j, F, Bq, G, N, D, rfl, hj, hN, hrs, Q6⟩ := hrel
    replace Q6 := hide Q6
    replace hN := hide hN
    replace hrs := hide hrs
    by_cases hlt : j < A.length
    · have hlt' : (j : Int) < A.length := by omega
      have hN6 : Hid (N + 8 ≤ 100000) := hide (by have := hN.out; have := hlen.out; omega)
      obtain ⟨b, o', rfl, hbB, hbl, hra⟩ := acts_range (hA.out.below Q6.out.d.a.bel) hlt
      obtain ⟨y, hy⟩ : ∃ y, A[j] = y := ⟨_, rfl⟩
      have hyk : Hid (I64 y.l.k) := hide (by rw [← hy]; exact hAI.out _ (List.getElem_mem hlt))
      rw [hy] at hra
      clear hy
      · skip
        go_upto_region 6 with fail
        go_step
        go_step
        go_step
        go_step
        refine wpList_load_mid (by rfl) _ _ (by rfl) b (o' + j * 15) (by rfl) (actC y) _ hra Tryd.underlying37 (by rfl) (by exact infoAc) ?_
        clear hra
        go_step
        go_step
        go_step
        refine wpList_store_new _ _ (by rfl) (by rfl) (by rfl) (by rfl) (by exact infoAc) (by rfl) (actC_one y) ?_
        obtain ⟨V7, hV7⟩ : ∃ V, wr.alloc (.cells (actC y).toArray 37) = V := ⟨_, rfl⟩
        have Q7 : Hid (Hdz w V7 p B F q Bq G c N D [(wr.heap.size, actsO y), (kc, cfR c)]) := by rw [← hV7]; exact hide (Q6.out.new (actsO y))
        rw [hV7]
        clear hV7
        obtain ⟨ka, hka⟩ : ∃ k, Hid (wr.heap.size = k) := ⟨_, hide rfl⟩
        rw [hka.out] at Q7
        rw [hka.out]
        clear Q6
        obtain ⟨a0, a1, a2, a3, a4, a5, a6, a7, a8, a9, a10, a11, a12, a13, a14⟩ := acts_at (bz_get Q7.out.x (k := ka) (o := actsO y) (by simp)).2
        have hka2 := (bz_get Q7.out.x (k := ka) (o := actsO y) (by simp)).1
        have Q8 : Hid (Hdz w (V7.alloc (ltR y.l)) p B F q Bq G c N D [(V7.heap.size, ltR y.l), (ka, actsO y), (kc, cfR c)]) := hide (Q7.out.new (ltR y.l))
        obtain ⟨ky, hky0⟩ : ∃ k, Hid (V7.heap.size = k) := ⟨_, hide rfl⟩
        rw [hky0.out] at Q8
        go_upto_region 8 with fail
        rw [hky0.out]
        obtain ⟨V8, hV8⟩ : ∃ V, V7.alloc (ltR y.l) = V := ⟨_, rfl⟩
        rw [hV8] at Q8
        dsimp only [ltR] at hV8
        rw [hV8]
        clear hV8 Q7 a0 a1 a2 a3 a4 a5 a6 a7 a8 a9 a10 a11 a12 a13 a14 hka2 hky0
        obtain ⟨b0, b1, b2, b3, b4, b5, b6, b7, b8, b9, b10⟩ := lt_at (bz_get Q8.out.x (k := ky) (o := ltR y.l) (by simp)).2
        obtain ⟨-, -, -, -, -, -, -, -, -, -, -, a11, a12, a13, -⟩ := acts_at (bz_get Q8.out.x (k := ka) (o := actsO y) (by simp)).2
        have hky := (bz_get Q8.out.x (k := ky) (o := ltR y.l) (by simp)).1
        have hka2 := (bz_get Q8.out.x (k := ka) (o := actsO y) (by simp)).1
        by_cases hk : y.l.k = 1 ∨ y.l.k = 2
        · obtain ⟨s1, s2, s3, s4⟩ := rest_math (c := c) (d0 := y.d0) (d1 := y.d1) hrs.out hk
          obtain ⟨L, hL⟩ : ∃ L, Hid (htL c D y.l y.d0 y.d1 = L) := ⟨_, rfl⟩
          obtain ⟨D2, hD2⟩ : ∃ L, Hid (nxHT c D y.l y.d0 y.d1 = L) := ⟨_, rfl⟩
          have hDL : Hid (D2.L = D.L) := hide (by rw [← hD2.out]; exact s4)
          rw [hL.out] at s1 s2 s3
          clear s4
          have hs1 := hide s1
          have hs3 := hide s3
          have hkk : Hid ((y.l.k = 1 ∧ L = []) ∨ (y.l.k = 2 ∧ L = []) ∨ (y.l.k = 2 ∧ ∃ z : Lt, L = [z] ∧ z.k = 1 ∧ z.b = y.l.a ∧ z.q = y.l.q)) := hide (by
            rcases hk with e | e
            · exact .inl ⟨e, s1 e⟩
            · match L, s2, s3 with
              | [], _, _ => exact .inr (.inl ⟨e, rfl⟩)
              | [z], _, h => exact .inr (.inr ⟨e, z, rfl, h z (by simp)⟩))
          clear s1 s2 s3 hs1 hs3
          clear hk
          rcases hkk.out with ⟨ek, rfl⟩ | ⟨ek, rfl⟩ | ⟨ek, z, rfl, zk, zb, zq⟩
          · obtain ⟨m1, n1, o1⟩ := cmpT ek
            replace ek := hide ek
            go_upto_region 9 with fail
            go_wp2_with fail
            go_at_call 13
            refine (hmTake_c p B F c N D y.l y.d0 y.d1 y.d2 _ Q8.out.d.a.n (hide (hT.out.lowH Q8.out.d.a.bel)) (hide (Q8.out.d.a.no0 hT.out)) (by have := hN6.out; omega) hyk.out _ hL).mono ?_
            rintro e w9 ⟨v9, rfl, F10, g9, hO⟩
            rw [hD2.out] at hO
            obtain ⟨ao9, cap9, e9, -⟩ := _root_.id hO.own
            have e9' : v9 = .slice ao9 0 cap9 := e9
            subst e9'
            have Q9 := hide (Q8.out.prog hO.nd hO.st)
            have ow9 := hide hO.own
            have nf9 := hide (Q8.out.d.nf hO.new)
            clear hO Q8 e9
            clear b0 b1 b2 b3 b4 b5 b6 b7 b8 b9 b10 a11 a12 a13 hky hka2
            obtain ⟨b0, b1, b2, b3, b4, b5, b6, b7, b8, b9, b10⟩ := lt_at (bz_get Q9.out.x (k := ky) (o := ltR y.l) (by simp)).2
            obtain ⟨-, -, -, -, -, -, -, -, -, -, -, a11, a12, a13, -⟩ := acts_at (bz_get Q9.out.x (k := ka) (o := actsO y) (by simp)).2
            have hky := (bz_get Q9.out.x (k := ky) (o := ltR y.l) (by simp)).1
            have hka2 := (bz_get Q9.out.x (k := ka) (o := actsO y) (by simp)).1
            go_wp2_with fail
            go_at_call 14
            refine (rhTake_c q Bq G c N D y.l y.d0 y.d1 y.d2 _ Q9.out.d (by have := hN6.out; omega) _ hL).mono ?_
            rintro e w10 ⟨v10, rfl, Bq2, G2, g10, hR⟩
            rw [hD2.out] at hR
            have Q10 := hide (Q9.out.doc hR.nd hR.st)
            replace ow9 := hide (Q9.out.keepT hR.st ow9.out nf9.out)
            have ow10 := hide hR.own
            clear hR Q9 nf9
            clear b0 b1 b2 b3 b4 b5 b6 b7 b8 b9 b10 a11 a12 a13 hky hka2
            obtain ⟨b0, b1, b2, b3, b4, b5, b6, b7, b8, b9, b10⟩ := lt_at (bz_get Q10.out.x (k := ky) (o := ltR y.l) (by simp)).2
            obtain ⟨-, -, -, -, -, -, -, -, -, -, -, a11, a12, a13, -⟩ := acts_at (bz_get Q10.out.x (k := ka) (o := actsO y) (by simp)).2
            have hky := (bz_get Q10.out.x (k := ky) (o := ltR y.l) (by simp)).1
            have hka2 := (bz_get Q10.out.x (k := ka) (o := actsO y) (by simp)).1
            go_wp2_with fail
            go_at_call 12
            refine (sameT_c _ _ g9 g10 _ _ ow9.out.view ow10.out.view).mono ?_
            rintro e w11 ⟨rfl, n11, rfl⟩
            have Q11 := hide (Q10.out.below (V' := w10.drewN n11) (belowN (Below.refl _ _) n11))
            replace ow9 : Hid (OwnT (w10.drewN n11) (.slice ao9 0 cap9) g9 _) := hide (ow9.out.below (belowN (Below.refl _ _) n11))
            obtain ⟨w11, hw11⟩ : ∃ W, w10.drewN n11 = W := ⟨_, rfl⟩
            rw [hw11] at Q11 ow9 ⊢
            clear hw11 Q10 ow10
            clear b0 b1 b2 b3 b4 b5 b6 b7 b8 b9 b10 a11 a12 a13 hky hka2
            obtain ⟨b0, b1, b2, b3, b4, b5, b6, b7, b8, b9, b10⟩ := lt_at (bz_get Q11.out.x (k := ky) (o := ltR y.l) (by simp)).2
            obtain ⟨-, -, -, -, -, -, -, -, -, -, -, a11, a12, a13, -⟩ := acts_at (bz_get Q11.out.x (k := ka) (o := actsO y) (by simp)).2
            have hky := (bz_get Q11.out.x (k := ky) (o := ltR y.l) (by simp)).1
            have hka2 := (bz_get Q11.out.x (k := ka) (o := actsO y) (by simp)).1
            go_upto_region 13 with fail
            go_wp2_with fail
            refine wp_region_noPanic ?_
            refine wp_region_held_drew (S := (fun _ => True)) (by kernel_rfl) ?_ (fun hHeld => ?_)
            · trivial
            refine hTk 0 72 hHeld ?_
            refine hTk 1 73 hHeld ?_
            refine hVl 2 74 (.bool false) hHeld (fun wz hSw => ?_) ?_
            · try dsimp only at hSw
              go_simp
            refine hTk 3 75 hHeld ?_
            refine hSk 4 76 hHeld ?_
            refine hSk 5 77 hHeld ?_
            refine hSk 6 78 hHeld ?_
            refine hSk 7 79 hHeld ?_
            refine hSk 8 80 hHeld ?_
            refine hSk 9 81 hHeld ?_
            refine hSk 10 82 hHeld ?_
            refine hSk 11 83 hHeld ?_
            refine hSk 12 84 hHeld ?_
            refine hSk 13 85 hHeld ?_
            refine hSk 14 86 hHeld ?_
            refine hSk 15 87 hHeld ?_
            refine hSk 16 88 hHeld ?_
            refine hSk 17 89 hHeld ?_
            refine hSk 18 90 hHeld ?_
            refine hSk 19 91 hHeld ?_
            refine hSk 20 92 hHeld ?_
            refine hSk 21 93 hHeld ?_
            refine hSk 22 94 hHeld ?_
            refine hSk 23 95 hHeld ?_
            refine hSk 24 96 hHeld ?_
            refine hSk 25 97 hHeld ?_
            refine hSk 26 98 hHeld ?_
            refine hTk 27 99 hHeld ?_
            refine wpAnyH_done (by kernel_rfl) (NoPanic.normal ?_) _
            clear hHeld
            have Q12 := hide (Q11.out.below (V' := w11.drew) (belowN (Below.refl _ _) 1))
            clear b0 b1 b2 b3 b4 b5 b6 b7 b8 b9 b10 a11 a12 a13 hky hka2
            go_wp2_with fail
            go_roundw
            case rel => exact ⟨j + 1, F10, Bq2, G2, N + 1, D2, by simp, by omega, by have := hN.out; omega, by rw [hDL.out]; exact hrs.out, Q12.out.sub (by simp)⟩
            case measure => simp [intOf]; omega
          · obtain ⟨m1, n1, o1⟩ := cmpF (show ¬ y.l.k = 1 by omega)
            obtain ⟨m2, n2, o2⟩ := cmpT ek
            replace ek := hide ek
            go_upto_region 9 with fail
            go_wp2_with fail
            go_at_call 13
            refine (hmTake_c p B F c N D y.l y.d0 y.d1 y.d2 _ Q8.out.d.a.n (hide (hT.out.lowH Q8.out.d.a.bel)) (hide (Q8.out.d.a.no0 hT.out)) (by have := hN6.out; omega) hyk.out _ hL).mono ?_
            rintro e w9 ⟨v9, rfl, F10, g9, hO⟩
            rw [hD2.out] at hO
            obtain ⟨ao9, cap9, e9, -⟩ := _root_.id hO.own
            have e9' : v9 = .slice ao9 0 cap9 := e9
            subst e9'
            have Q9 := hide (Q8.out.prog hO.nd hO.st)
            have ow9 := hide hO.own
            have nf9 := hide (Q8.out.d.nf hO.new)
            clear hO Q8 e9
            clear b0 b1 b2 b3 b4 b5 b6 b7 b8 b9 b10 a11 a12 a13 hky hka2
            obtain ⟨b0, b1, b2, b3, b4, b5, b6, b7, b8, b9, b10⟩ := lt_at (bz_get Q9.out.x (k := ky) (o := ltR y.l) (by simp)).2
            obtain ⟨-, -, -, -, -, -, -, -, -, -, -, a11, a12, a13, -⟩ := acts_at (bz_get Q9.out.x (k := ka) (o := actsO y) (by simp)).2
            have hky := (bz_get Q9.out.x (k := ky) (o := ltR y.l) (by simp)).1
            have hka2 := (bz_get Q9.out.x (k := ka) (o := actsO y) (by simp)).1
            go_wp2_with fail
            go_at_call 14
            refine (rhTake_c q Bq G c N D y.l y.d0 y.d1 y.d2 _ Q9.out.d (by have := hN6.out; omega) _ hL).mono ?_
            rintro e w10 ⟨v10, rfl, Bq2, G2, g10, hR⟩
            rw [hD2.out] at hR
            have Q10 := hide (Q9.out.doc hR.nd hR.st)
            replace ow9 := hide (Q9.out.keepT hR.st ow9.out nf9.out)
            have ow10 := hide hR.own
            clear hR Q9 nf9
            clear b0 b1 b2 b3 b4 b5 b6 b7 b8 b9 b10 a11 a12 a13 hky hka2
            obtain ⟨b0, b1, b2, b3, b4, b5, b6, b7, b8, b9, b10⟩ := lt_at (bz_get Q10.out.x (k := ky) (o := ltR y.l) (by simp)).2
            obtain ⟨-, -, -, -, -, -, -, -, -, -, -, a11, a12, a13, -⟩ := acts_at (bz_get Q10.out.x (k := ka) (o := actsO y) (by simp)).2
            have hky := (bz_get Q10.out.x (k := ky) (o := ltR y.l) (by simp)).1
            have hka2 := (bz_get Q10.out.x (k := ka) (o := actsO y) (by simp)).1
            go_wp2_with fail
            go_at_call 12
            refine (sameT_c _ _ g9 g10 _ _ ow9.out.view ow10.out.view).mono ?_
            rintro e w11 ⟨rfl, n11, rfl⟩
            have Q11 := hide (Q10.out.below (V' := w10.drewN n11) (belowN (Below.refl _ _) n11))
            replace ow9 : Hid (OwnT (w10.drewN n11) (.slice ao9 0 cap9) g9 _) := hide (ow9.out.below (belowN (Below.refl _ _) n11))
            obtain ⟨w11, hw11⟩ : ∃ W, w10.drewN n11 = W := ⟨_, rfl⟩
            rw [hw11] at Q11 ow9 ⊢
            clear hw11 Q10 ow10
            clear b0 b1 b2 b3 b4 b5 b6 b7 b8 b9 b10 a11 a12 a13 hky hka2
            obtain ⟨b0, b1, b2, b3, b4, b5, b6, b7, b8, b9, b10⟩ := lt_at (bz_get Q11.out.x (k := ky) (o := ltR y.l) (by simp)).2
            obtain ⟨-, -, -, -, -, -, -, -, -, -, -, a11, a12, a13, -⟩ := acts_at (bz_get Q11.out.x (k := ka) (o := actsO y) (by simp)).2
            have hky := (bz_get Q11.out.x (k := ky) (o := ltR y.l) (by simp)).1
            have hka2 := (bz_get Q11.out.x (k := ka) (o := actsO y) (by simp)).1
            go_upto_region 13 with fail
            go_wp2_with fail
            refine wp_region_noPanic ?_
            refine wp_region_held_drew (S := (fun _ => True)) (by kernel_rfl) ?_ (fun hHeld => ?_)
            · trivial
            refine hTk 0 72 hHeld ?_
            refine hTk 1 73 hHeld ?_
            refine hVl 2 74 (.bool false) hHeld (fun wz hSw => ?_) ?_
            · try dsimp only at hSw
              go_simp
            refine hTk 3 75 hHeld ?_
            refine hSk 4 76 hHeld ?_
            refine hSk 5 77 hHeld ?_
            refine hSk 6 78 hHeld ?_
            refine hSk 7 79 hHeld ?_
            refine hSk 8 80 hHeld ?_
            refine hSk 9 81 hHeld ?_
            refine hSk 10 82 hHeld ?_
            refine hSk 11 83 hHeld ?_
            refine hSk 12 84 hHeld ?_
            refine hSk 13 85 hHeld ?_
            refine hSk 14 86 hHeld ?_
            refine hSk 15 87 hHeld ?_
            refine hSk 16 88 hHeld ?_
            refine hSk 17 89 hHeld ?_
            refine hSk 18 90 hHeld ?_
            refine hSk 19 91 hHeld ?_
            refine hSk 20 92 hHeld ?_
            refine hSk 21 93 hHeld ?_
            refine hSk 22 94 hHeld ?_
            refine hSk 23 95 hHeld ?_
            refine hSk 24 96 hHeld ?_
            refine hSk 25 97 hHeld ?_
            refine hSk 26 98 hHeld ?_
            refine hTk 27 99 hHeld ?_
            refine wpAnyH_done (by kernel_rfl) (NoPanic.normal ?_) _
            clear hHeld
            have Q12 := hide (Q11.out.below (V' := w11.drew) (belowN (Below.refl _ _) 1))
            clear b0 b1 b2 b3 b4 b5 b6 b7 b8 b9 b10 a11 a12 a13 hky hka2
            go_wp2_with fail
            go_roundw
            case rel => exact ⟨j + 1, F10, Bq2, G2, N + 1, D2, by simp, by omega, by have := hN.out; omega, by rw [hDL.out]; exact hrs.out, Q12.out.sub (by simp)⟩
            case measure => simp [intOf]; omega
          · obtain ⟨m1, n1, o1⟩ := cmpF (show ¬ y.l.k = 1 by omega)
            obtain ⟨m2, n2, o2⟩ := cmpT ek
            replace ek := hide ek
            have hz := hide (And.intro zk (And.intro zb zq))
            clear zk zb zq
            go_upto_region 9 with fail
            go_wp2_with fail
            go_at_call 13
            refine (hmTake_c p B F c N D y.l y.d0 y.d1 y.d2 _ Q8.out.d.a.n (hide (hT.out.lowH Q8.out.d.a.bel)) (hide (Q8.out.d.a.no0 hT.out)) (by have := hN6.out; omega) hyk.out _ hL).mono ?_
            rintro e w9 ⟨v9, rfl, F10, g9, hO⟩
            rw [hD2.out] at hO
            obtain ⟨ao9, cap9, e9, -⟩ := _root_.id hO.own
            have e9' : v9 = .slice ao9 1 cap9 := e9
            subst e9'
            have Q9 := hide (Q8.out.prog hO.nd hO.st)
            have ow9 := hide hO.own
            have nf9 := hide (Q8.out.d.nf hO.new)
            clear hO Q8 e9
            clear b0 b1 b2 b3 b4 b5 b6 b7 b8 b9 b10 a11 a12 a13 hky hka2
            obtain ⟨b0, b1, b2, b3, b4, b5, b6, b7, b8, b9, b10⟩ := lt_at (bz_get Q9.out.x (k := ky) (o := ltR y.l) (by simp)).2
            obtain ⟨-, -, -, -, -, -, -, -, -, -, -, a11, a12, a13, -⟩ := acts_at (bz_get Q9.out.x (k := ka) (o := actsO y) (by simp)).2
            have hky := (bz_get Q9.out.x (k := ky) (o := ltR y.l) (by simp)).1
            have hka2 := (bz_get Q9.out.x (k := ka) (o := actsO y) (by simp)).1
            go_wp2_with fail
            go_at_call 14
            refine (rhTake_c q Bq G c N D y.l y.d0 y.d1 y.d2 _ Q9.out.d (by have := hN6.out; omega) _ hL).mono ?_
            rintro e w10 ⟨v10, rfl, Bq2, G2, g10, hR⟩
            rw [hD2.out] at hR
            have Q10 := hide (Q9.out.doc hR.nd hR.st)
            replace ow9 := hide (Q9.out.keepT hR.st ow9.out nf9.out)
            have ow10 := hide hR.own
            clear hR Q9 nf9
            clear b0 b1 b2 b3 b4 b5 b6 b7 b8 b9 b10 a11 a12 a13 hky hka2
            obtain ⟨b0, b1, b2, b3, b4, b5, b6, b7, b8, b9, b10⟩ := lt_at (bz_get Q10.out.x (k := ky) (o := ltR y.l) (by simp)).2
            obtain ⟨-, -, -, -, -, -, -, -, -, -, -, a11, a12, a13, -⟩ := acts_at (bz_get Q10.out.x (k := ka) (o := actsO y) (by simp)).2
            have hky := (bz_get Q10.out.x (k := ky) (o := ltR y.l) (by simp)).1
            have hka2 := (bz_get Q10.out.x (k := ka) (o := actsO y) (by simp)).1
            go_wp2_with fail
            go_at_call 12
            refine (sameT_c _ _ g9 g10 _ _ ow9.out.view ow10.out.view).mono ?_
            rintro e w11 ⟨rfl, n11, rfl⟩
            have Q11 := hide (Q10.out.below (V' := w10.drewN n11) (belowN (Below.refl _ _) n11))
            replace ow9 : Hid (OwnT (w10.drewN n11) (.slice ao9 1 cap9) g9 _) := hide (ow9.out.below (belowN (Below.refl _ _) n11))
            obtain ⟨w11, hw11⟩ : ∃ W, w10.drewN n11 = W := ⟨_, rfl⟩
            rw [hw11] at Q11 ow9 ⊢
            clear hw11 Q10 ow10
            clear b0 b1 b2 b3 b4 b5 b6 b7 b8 b9 b10 a11 a12 a13 hky hka2
            obtain ⟨b0, b1, b2, b3, b4, b5, b6, b7, b8, b9, b10⟩ := lt_at (bz_get Q11.out.x (k := ky) (o := ltR y.l) (by simp)).2
            obtain ⟨-, -, -, -, -, -, -, -, -, -, -, a11, a12, a13, -⟩ := acts_at (bz_get Q11.out.x (k := ka) (o := actsO y) (by simp)).2
            have hky := (bz_get Q11.out.x (k := ky) (o := ltR y.l) (by simp)).1
            have hka2 := (bz_get Q11.out.x (k := ka) (o := actsO y) (by simp)).1
            obtain ⟨-, -, -, kz⟩ := view_atT ow9.out.view rfl
            obtain ⟨oz, rfl, hgz, r0, -, r2, r3, -⟩ := kz 0 (by simp)
            simp only [List.getElem_cons_zero, Nat.zero_mul, Nat.add_zero] at r0 r2 r3
            rw [hz.out.1] at r0
            rw [hz.out.2.1] at r2
            rw [hz.out.2.2] at r3
            clear kz
            go_upto_region 13 with fail
            go_wp2_with fail
            refine wp_region_noPanic ?_
            refine wp_region_held_drew (S := (fun w' => w'.cell? ⟨g9, oz, none⟩ = some (.int .i64 1) ∧ w'.cell? ⟨g9, oz + 2, none⟩ = some (.int .i64 y.l.a) ∧ w'.cell? ⟨g9, oz + 3, none⟩ = some (.int .i64 y.l.q) ∧ w'.cell? ⟨ky, 1, none⟩ = some (.int .i64 y.l.a) ∧ w'.cell? ⟨ky, 3, none⟩ = some (.int .i64 y.l.q))) (by kernel_rfl) ?_ (fun hHeld => ?_)
            · exact ⟨r0, r2, r3, b1, b3⟩
            clear r0 r2 r3
            refine hTk 0 72 hHeld ?_
            refine hTk 1 73 hHeld ?_
            refine hVl 2 74 (.bool true) hHeld (fun wz hSw => ?_) ?_
            · try dsimp only at hSw
              go_simp
            refine hTk 3 75 hHeld ?_
            refine hTk 4 76 hHeld ?_
            refine hTk 5 77 hHeld ?_
            refine hTk 6 78 hHeld ?_
            refine hTk 7 79 hHeld ?_
            refine hVl 8 80 (.bool false) hHeld (fun wz hSw => ?_) ?_
            · try dsimp only at hSw
              go_simp
            refine hTk 9 81 hHeld ?_
            refine hTk 10 82 hHeld ?_
            refine hTk 11 83 hHeld ?_
            refine hTk 12 84 hHeld ?_
            refine hTk 13 85 hHeld ?_
            refine hTk 14 86 hHeld ?_
            refine hTk 15 87 hHeld ?_
            refine hVl 16 88 (.bool false) hHeld (fun wz hSw => ?_) ?_
            · try dsimp only at hSw
              go_simp
            refine hTk 17 89 hHeld ?_
            refine hTk 18 90 hHeld ?_
            refine hTk 19 91 hHeld ?_
            refine hTk 20 92 hHeld ?_
            refine hTk 21 93 hHeld ?_
            refine hTk 22 94 hHeld ?_
            refine hTk 23 95 hHeld ?_
            refine hTk 24 96 hHeld ?_
            refine hVl 25 97 (.bool false) hHeld (fun wz hSw => ?_) ?_
            · try dsimp only at hSw
              go_simp
            refine hTk 26 98 hHeld ?_
            refine hTk 27 99 hHeld ?_
            refine wpAnyH_done (by kernel_rfl) (NoPanic.normal ?_) _
            clear hHeld
            have Q12 := hide (Q11.out.below (V' := w11.drew) (belowN (Below.refl _ _) 1))
            clear b0 b1 b2 b3 b4 b5 b6 b7 b8 b9 b10 a11 a12 a13 hky hka2
            go_wp2_with fail
            go_roundw
            case rel => exact ⟨j + 1, F10, Bq2, G2, N + 1, D2, by simp, by omega, by have := hN.out; omega, by rw [hDL.out]; exact hrs.out, Q12.out.sub (by simp)⟩
            case measure => simp [intOf]; omega
        · obtain ⟨m1, n1, o1⟩ := cmpF (show ¬ y.l.k = 1 by omega)
          obtain ⟨m2, n2, o2⟩ := cmpF (show ¬ y.l.k = 2 by omega)
          replace hk := hide hk
          go_wp2_with fail
          go_roundw
          case rel => exact ⟨j + 1, F, Bq, G, N, D, by simp, by omega, by have := hN.out; omega, hrs.out, Q8.out.sub (by simp)⟩
          case measure => simp [intOf]; omega
    · obtain rfl : j = A.length := by omega
      obtain ⟨ao3, cap3, hm0⟩ := Q6.out.d.d.mem2
      obtain ⟨n3, hn3⟩ : ∃ n, Hid (D.M.length = n) := ⟨_, hide rfl⟩
      rw [hn3.out] at hm0
      have hM9 := hide hm0
      have hB14 : Hid (Below wr.heap.size wr wr) := hide (Below.refl _ _)
      have q9 := (hm0 wr (Below.refl _ _)).1
      clear hm0
      go_upto_region 16 with fail
      go_wp2_with fail
      refine wp_region_noPanic ?_
      refine wp_region_held_drew (S := (fun w' => w'.cell? ⟨q, 9, none⟩ = some (.slice ao3 n3 cap3))) (by kernel_rfl) ?_ (fun hHeld => ?_)
      · exact q9
      clear q9
      refine hTk 0 101 hHeld ?_
      refine hTk 2 103 hHeld ?_
      refine hTk 3 104 hHeld ?_
      refine hTk 4 105 hHeld ?_
      refine hTk 5 106 hHeld ?_
      have Q14 := hide (Q6.out.below (V' := wr.drew) (belowN (Below.refl _ _) 1))
      replace hB14 : Hid (Below wr.heap.size wr wr.drew) := hide (hB14.out.drew)
      obtain ⟨w14, hw14⟩ : ∃ W, wr.drew = W := ⟨_, rfl⟩
      rw [hw14] at hHeld Q14 hB14 ⊢
      clear hw14 Q6
      refine hNo 1 fun K hK => ?_
      go_simp
      go_at_call 18
      refine (hmAll_c p B F c N D _ Q14.out.d.a.n n3 hn3).mono ?_
      rintro e w15 ⟨rfl, ho15, hb15⟩
      have Q15 := hide (Q14.out.below hb15)
      replace hB14 := hide (hB14.out.trans (hb15.mono hB14.out.size))
      obtain ⟨g15, hg15⟩ : ∃ k, w14.heap.size = k := ⟨_, rfl⟩
      rw [hg15] at ho15 ⊢
      have ow15 := hide ho15
      clear hb15 Q14 hg15 ho15
      refine hK.out _ _ ?_ fun hHeld => ?_
      · exact (hM9.out w15 hB14.out).1
      clear hK K
      try simp only [Act.put, za, zb, zc]
      refine hNo 6 fun K hK => ?_
      go_simp
      go_at_call 17
      refine (sameB_c _ _ g15 Bq.mg D.M _ ow15.out.view (hM9.out w15 hB14.out).2).mono ?_
      rintro e w16 ⟨rfl, n16, rfl⟩
      have Q16 := hide (Q15.out.below (V' := w15.drewN n16) (belowN (Below.refl _ _) n16))
      refine hK.out _ _ ?_ fun hHeld => ?_
      · exact (hM9.out _ (belowN hB14.out n16)).1
      clear hK K
      try simp only [Act.put, za, zb, zc]
      refine hTk 7 4 hHeld ?_
      refine wpAnyH_done (by kernel_rfl) (NoPanic.normal ?_) _
      clear hHeld
      go_wp2_with fail
      go_ret
      exact ⟨rfl, Q16.out.d.a.bel⟩
theorem HomeRest_walk (c : Cf) (ao : Option Addr) (n cap : Nat) (A : List Ac) (w : World) (hT : Hid (Tab w)) (hA : ActsAt w.heap.size w (.slice ao n cap) A) : Calls Tryd.prog 7 #[.agg #[.int .i64 c.n, .int .i64 c.bl, .int .i64 c.tt, .int .i64 c.cs, .int .i64 c.cy, .int .i64 c.cc, .int .i64 c.cu, .int .i64 c.ct, .int .i64 c.cp], .slice ao n cap] w fun e w' => e = .returned (.bool true) ∧ Below w.heap.size w w' := by
  obtain ⟨ao', cap', e, h1, h2, -⟩ := id hA
  simp only [Value.slice.injEq] at e
  obtain ⟨rfl, rfl, rfl⟩ := e
  by_cases hz : cfgZ c.n c.bl c.tt c.cs c.cy c.cc c.cu c.ct c.cp = 0 ∧ A.length ≤ 200
  · exact restOk_walk c ao cap A w hT (hide hA) (hide hz.2) (hide hz.1)
  · exact restNo_walk c ao A.length cap w hT (by unfold maxLen at h2; omega) hz
end Go.Proofs.YtmgjgeaigdiadaaDoor
