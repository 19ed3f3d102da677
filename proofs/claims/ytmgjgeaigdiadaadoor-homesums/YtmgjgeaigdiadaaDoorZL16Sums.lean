/- layer 16: L16Sums, put together. -/
import Derived.Test.YtmgjgeaigdiadaaDoorZEnv16c
import Derived.Test.YtmgjgeaigdiadaaDoorB18
import Derived.Test.YtmgjgeaigdiadaaDoorZHsMath
import Derived.Test.YtmgjgeaigdiadaaDoorZThInt
namespace Go.Proofs.YtmgjgeaigdiadaaDoor
open Go.ChangeShapes Go.WideShapes Go.ChangeAt Go.RowKit
set_option linter.unusedSimpArgs false
set_option linter.unusedVariables false
set_option maxRecDepth 10000
attribute [local go_sem, local simp] over_const setCell_drewN alloc_drewN Over.cell Over.frozen lt_s1 lt_s2 lt_s3 le_s0 le_s1 le_s2 le_s3 eq_s0 eq_s1 eq_s2 qe_s0
set_option maxHeartbeats 4000000 in
theorem sumsNo_walk (c : Cf) (ao : Option Addr) (n cap : Nat) (w : World) (hT : Hid (Tab w)) (hn : n ≤ 9223372036854775807) (hno : ¬ (cfgZ c.n c.bl c.tt c.cs c.cy c.cc c.cu c.ct c.cp = 0 ∧ n ≤ 200)) : Calls Tryd.prog 4 #[.agg #[.int .i64 c.n, .int .i64 c.bl, .int .i64 c.tt, .int .i64 c.cs, .int .i64 c.cy, .int .i64 c.cc, .int .i64 c.cu, .int .i64 c.ct, .int .i64 c.cp], .slice ao n cap] w fun e w' => e = .returned (.bool true) ∧ Below w.heap.size w w' := by
  have hno' := hide hno
  have hn' := hide hn
  clear hno hn
  go_enter Tryd.func4, Tryd.ntmps4
  go_upto_region 1 with fail
  refine name_world ?_
  intro V hV
  have hB : Hid (Below w.heap.size w V) := by rw [← hV]; exact hide (by all_goals exact belEnd)
  have hX : Hid (V.heap[w.heap.size]? = some (cfR c)) := by rw [← hV]; exact hide (heap_alloc_new w (cfR c))
  clear hV
  obtain ⟨kc, hkc⟩ : ∃ k, Hid (w.heap.size = k) := ⟨_, hide rfl⟩
  rw [hkc.out] at hX
  rw [hkc.out]
  obtain ⟨c0, c1, c2, c3, c4, c5, c6, c7, c8⟩ := cf_at hX.out
  have lc : kc < V.heap.size := (Array.getElem?_eq_some_iff.1 hX.out).1
  go_wp2_with (first | (go_at_call 9; refine (madeNo_c c ao n cap _ hno'.out hn'.out).mono ?_; rintro e w1 ⟨rfl, hb1⟩; obtain ⟨x, rfl⟩ := over hb1; clear hb1; have f1 := x.upB kc) | (go_at_call 10; refine (awake16_c _ (hide (hT.out.lowH (hB.out.trans (Below.mono (B := V.heap.size) (by all_goals exact belEnd) hB.out.size))))).mono ?_; rintro e w2 ⟨rfl, hb2⟩; obtain ⟨y, rfl⟩ := over2 hb2; clear hb2; have f2 := y.upB kc))
  go_ret
  refine ⟨rfl, ?_⟩
  exact hB.out.trans (Below.mono (B := V.heap.size) (by all_goals exact belEnd) hB.out.size)
theorem ints_snoc (j : Nat) (t : Int) : ints (List.replicate j t) ++ [Value.int .i64 t] = ints (List.replicate (j + 1) t) := by
  rw [List.replicate_succ', ints_append]
  rfl
theorem th_step {w wr w1 : World} {j : Nat} {t : Int} {v v' : Value} {o : Obj} (hown : wr.ownsRow w.heap.size 3 1 v j (ints (List.replicate j t))) (hbel : Below w.heap.size w wr)
    (hown' : w1.ownsRow w.heap.size 3 1 v' (j + 1) (ints (List.replicate j t) ++ [.int .i64 t])) (hg : (wr.alloc o).grownBy w1 v.ownBlock) :
    Hid (w1.ownsRow w.heap.size 3 1 v' (j + 1) (ints (List.replicate (j + 1) t))) ∧ Hid (Below w.heap.size w w1) :=
  ⟨by rw [← ints_snoc]; exact hown', (hbel.alloc hbel.size o).grown hg (by have := hbel.size; simp; omega) (own_ge hown)⟩
theorem one_cells (wr : World) (t : Int) : ∀ (i : Nat) (u : Value), [Value.int .i64 t][i]? = some u → (wr.alloc (Obj.cells #[.int .i64 t] 3)).cell? ((⟨wr.heap.size, 0, none⟩ : Addr).add i) = some u := by
  intro i u hi
  have : i = 0 := by
    have := (List.getElem?_eq_some_iff.1 hi).1
    simp at this
    omega
  subst this
  simp at hi
  subst hi
  simp [Addr.add]
set_option maxHeartbeats 8000000 in
theorem sumsOk_walk (c : Cf) (ao : Option Addr) (cap : Nat) (A : List Ac) (w : World) (hT : Hid (Tab w)) (hA : Hid (ActsAt w.heap.size w (.slice ao A.length cap) A)) (hlen : Hid (A.length ≤ 200)) (h0 : Hid (cfgZ c.n c.bl c.tt c.cs c.cy c.cc c.cu c.ct c.cp = 0)) : Calls Tryd.prog 4 #[.agg #[.int .i64 c.n, .int .i64 c.bl, .int .i64 c.tt, .int .i64 c.cs, .int .i64 c.cy, .int .i64 c.cc, .int .i64 c.cu, .int .i64 c.ct, .int .i64 c.cp], .slice ao A.length cap] w fun e w' => e = .returned (.bool true) ∧ Below w.heap.size w w' := by
  obtain ⟨i0, hi, hz0, hz1, hz2⟩ := info_parts infoI
  have hma : A.length ≤ 9223372036854775807 := by have := hlen.out; omega
  have hAI := hide (acts_i64 hA.out)
  go_enter Tryd.func4, Tryd.ntmps4
  go_upto_region 1 with fail
  refine name_world ?_
  intro V hV
  have hB : Hid (Below w.heap.size w V) := by rw [← hV]; exact hide (by all_goals exact belEnd)
  have hX : Hid (V.heap[w.heap.size]? = some (cfR c)) := by rw [← hV]; exact hide (heap_alloc_new w (cfR c))
  clear hV
  obtain ⟨kc, hkc⟩ : ∃ k, Hid (w.heap.size = k) := ⟨_, hide rfl⟩
  rw [hkc.out] at hX
  rw [hkc.out]
  obtain ⟨c0, c1, c2, c3, c4, c5, c6, c7, c8⟩ := cf_at hX.out
  have lc : kc < V.heap.size := (Array.getElem?_eq_some_iff.1 hX.out).1
  go_upto_region 2 with (go_at_call 9; refine (madeOk_c c _ A.length _ _ h0 hlen.out).mono ?_; rintro e w1 ⟨p, q, rfl, B, F, Bq, G, hd1⟩; replace hd1 := hide hd1; clear c0 c1 c2 c3 c4 c5 c6 c7 c8 lc)
  have P1 : Hid (Hdz w w1 p B F q Bq G c 0 (hm0 c) [(kc, cfR c)]) := hide (made_hdz hB.out hd1.out hX.out (by rw [hkc.out]; exact Nat.le_refl _))
  clear hd1 hX hB
  go_wp2_with fail
  go_at_call 10
  refine (awake16_c _ (hide (hT.out.lowH P1.out.d.a.bel))).mono ?_
  rintro e w2 ⟨rfl, hb2⟩
  have P2 := hide (P1.out.below hb2)
  clear hb2 P1
  have Q2 := hide P2.out.one
  clear P2
  have hok := hide Q2.out.a.n.ok
  obtain ⟨n, hn⟩ : ∃ n, Hid (c.bl.toNat = n) := ⟨_, hide rfl⟩
  have hbl : Hid ((n : Int) = c.bl) := hide (by have := hn.out; have := hok.out.b0; omega)
  have hn1 : Hid (1 ≤ n) := hide (by have := hbl.out; have := hok.out.b0; omega)
  have hn64 : n ≤ 64 := by have := hbl.out; have := hok.out.b1; omega
  obtain ⟨lc, xc⟩ := bz_get Q2.out.x (k := kc) (o := cfR c) (by simp)
  obtain ⟨c0, c1, c2, c3, c4, c5, c6, c7, c8⟩ := cf_at xc
  have c1' : w2.cell? ⟨kc, 1, none⟩ = some (.int .i64 n) := by rw [hbl.out]; exact c1
  clear c0 c1 c3 c4 c5 c6 c7 c8 xc
  have hmn : ¬ (64 : Int) < n := by omega
  have hmn2 : (n : Int) ≤ 64 := by omega
  have hmin : min (n : Int) 64 = n := by omega
  go_wp2_with fail
  go_loopw [8, 34] (fun v i wr => ∃ j : Nat, j ≤ n ∧ i = .int .i64 j ∧ wr.ownsRow w2.heap.size 3 1 v j (ints (List.replicate j c.tt)) ∧ Below w2.heap.size w2 wr) (fun _ i _ => n - (intOf i).toNat)
  case atStart => exact ⟨0, Nat.zero_le _, rfl, World.ownsRow_nil _ _ _ _, Below.refl _ _⟩
  case round =>
    obtain ⟨j, hj, rfl, hown, hbel⟩ := hrel
    have hsz := hbel.size
    have c2' := keep_cell (hbel.block kc lc) c2
    have lc2 := Nat.lt_of_lt_of_le lc hsz
    by_cases hlt : j < n
    · have g1 : (j : Int) < n := by omega
      go_wp2_with (at_builtin; refine wpList_append_own _ rfl _ _ 53 rfl w2.heap.size 3 i0 _ 1 8 Tryd.underlying53 hi hz0 hz1 hz2 rfl (by decide) _ _ _ rfl (hown.alloc _) ⟨wr.heap.size, 0, none⟩ 1 1 [.int .i64 c.tt] rfl rfl (one_cells _ _) (fun u hu => by simp at hu; subst hu; rfl) (by unfold maxLen; omega) (by omega) (by simp; omega) ?_; intro v' w1 hown' hgrow _; have R := th_step hown hbel hown' hgrow; clear hown' hgrow hown hbel)
      go_roundw
      case rel => exact ⟨j + 1, by omega, by simp, R.1, R.2⟩
      case measure => simp [intOf]; omega
    · have g1 : ¬ (j : Int) < n := by omega
      obtain rfl : n = j := by omega
      obtain ⟨g, hO, hg⟩ := own_of_rowI hown hn1.out
      have Q3 := hide (Q2.out.below hbel)
      have th3 : ThIs wr _ g n (cntH (hm0 c)) := ⟨List.replicate n c.tt, by simp, hO, fun i hi => by
        rw [List.getElem_replicate]
        exact (cnt_0 hok.out (by have := hbl.out; simp at hi; omega)).symm⟩
      obtain ⟨oT, capT, e3, -, -, -, -⟩ := th3.at1 (show 0 < n by have := hn1.out; omega)
      subst e3
      have hgw : Hid (w.heap.size ≤ g ∧ g ≠ kc) := hide ⟨Nat.le_trans Q2.out.a.bel.size hg, by omega⟩
      have hgF0 := hide (Q2.out.a.nf hg)
      replace th3 := hide th3
      clear hown hbel c2' lc2 c2 c1' lc Q2 hO hg hsz hlt g1 hj
      go_wp2_with fail
      go_loopw [44] (fun i wo => ∃ (j : Nat) (F : Nat → Prop) (N : Nat) (D : Hm), i = .int .i64 j ∧ j ≤ A.length ∧ N ≤ j ∧ HInv c D ∧ ¬ Fh p B F g ∧ Hoz w wo p B F c N D [(kc, cfR c)] ∧ ThIs wo (.slice (some ⟨g, oT, none⟩) n capT) g n (cntH D)) (fun i _ => A.length - (intOf i).toNat)
      case atStart => exact ⟨0, _, _, _, rfl, Nat.zero_le _, Nat.le_refl _, hs_0 hok.out, hgF0.out, Q3.out, th3.out⟩
      case round =>
        clear Q3 th3 hgF0
        obtain ⟨j, F, N, D, rfl, hj, hN, hHI, hgF, Q6, th6⟩ := hrel
        obtain ⟨wo, hwo⟩ : ∃ wo, wo = wr := ⟨_, rfl⟩
        subst hwo
        replace Q6 := hide Q6
        replace th6 := hide th6
        replace hN := hide hN
        replace hHI := hide hHI
        replace hgF := hide hgF
        by_cases hlt : j < A.length
        · have hlt' : (j : Int) < A.length := by omega
          have hN6 : Hid (N + 8 ≤ 100000) := hide (by have := hN.out; have := hlen.out; omega)
          obtain ⟨b, o', rfl, hbB, hbl2, hra⟩ := acts_range (hA.out.below Q6.out.a.bel) hlt
          obtain ⟨y, hy⟩ : ∃ y, A[j] = y := ⟨_, rfl⟩
          have hyk : Hid (I64 y.l.k) := hide (by rw [← hy]; exact hAI.out _ (List.getElem_mem hlt))
          rw [hy] at hra
          clear hy
          go_upto_region 11 with fail
          go_step
          go_step
          go_step
          go_step
          refine wpList_load_mid (by rfl) _ _ (by rfl) b (o' + j * 15) (by rfl) (actC y) _ hra Tryd.underlying37 (by rfl) (by exact infoAc) ?_
          clear hra
          go_step
          go_step
          go_step
          refine wpList_store_new _ _ (by rfl) (by rfl) (by rfl) (by rfl) (by exact infoAc) (by rfl) (actC_one y) ?_
          obtain ⟨V7, hV7⟩ : ∃ V, wo.alloc (.cells (actC y).toArray 37) = V := ⟨_, rfl⟩
          have Q7 : Hid (Hoz w V7 p B F c N D [(wo.heap.size, actsO y), (kc, cfR c)]) := by rw [← hV7]; exact hide (Q6.out.new (actsO y))
          have th7 : Hid (ThIs V7 (.slice (some ⟨g, oT, none⟩) n capT) g n (cntH D)) := by rw [← hV7]; exact hide (th6.out.below ((Below.refl _ _).alloc (Nat.le_refl _) _))
          have hgl6 := th6.out.lt
          rw [hV7]
          clear hV7 Q6 th6
          obtain ⟨ka, hka⟩ : ∃ k, Hid (wo.heap.size = k) := ⟨_, hide rfl⟩
          rw [hka.out] at Q7 hgl6
          rw [hka.out]
          obtain ⟨a0, a1, a2, a3, a4, a5, a6, a7, a8, a9, a10, a11, a12, a13, a14⟩ := acts_at (bz_get Q7.out.x (k := ka) (o := actsO y) (by simp)).2
          have hka2 := (bz_get Q7.out.x (k := ka) (o := actsO y) (by simp)).1
          have Q8 : Hid (Hoz w (V7.alloc (ltR y.l)) p B F c N D [(V7.heap.size, ltR y.l), (ka, actsO y), (kc, cfR c)]) := hide (Q7.out.new (ltR y.l))
          have th8 : Hid (ThIs (V7.alloc (ltR y.l)) (.slice (some ⟨g, oT, none⟩) n capT) g n (cntH D)) := hide (th7.out.below ((Below.refl _ _).alloc (Nat.le_refl _) _))
          have hgl7 := th7.out.lt
          obtain ⟨ky, hky0⟩ : ∃ k, Hid (V7.heap.size = k) := ⟨_, hide rfl⟩
          rw [hky0.out] at Q8 hgl7
          have hgk : Hid (g < ka ∧ g < ky) := hide ⟨hgl6, hgl7⟩
          clear hgl6 hgl7
          go_upto_region 13 with fail
          rw [hky0.out]
          obtain ⟨V8, hV8⟩ : ∃ V, V7.alloc (ltR y.l) = V := ⟨_, rfl⟩
          rw [hV8] at Q8 th8
          dsimp only [ltR] at hV8
          rw [hV8]
          clear hV8 Q7 th7 a0 a1 a2 a3 a4 a5 a6 a7 a8 a9 a10 a11 a12 a13 a14 hka2 hky0 hka
          obtain ⟨b0, b1, b2, b3, b4, b5, b6, b7, b8, b9, b10⟩ := lt_at (bz_get Q8.out.x (k := ky) (o := ltR y.l) (by simp)).2
          obtain ⟨-, -, -, -, -, -, -, -, -, -, -, a11, a12, a13, -⟩ := acts_at (bz_get Q8.out.x (k := ka) (o := actsO y) (by simp)).2
          have hky := (bz_get Q8.out.x (k := ky) (o := ltR y.l) (by simp)).1
          have hka2 := (bz_get Q8.out.x (k := ka) (o := actsO y) (by simp)).1
          obtain ⟨c0, c1, c2, c3, c4, c5, c6, c7, c8⟩ := cf_at (bz_get Q8.out.x (k := kc) (o := cfR c) (by simp)).2
          have hkc2 := (bz_get Q8.out.x (k := kc) (o := cfR c) (by simp)).1
          obtain ⟨z, hz⟩ : ∃ z, Hid (letterZ c.n c.bl c.tt ⟨y.l.k, y.l.a, y.l.b, y.l.q, y.l.s, y.l.w, y.l.r, ⟨y.l.n, y.l.o, y.l.h, y.l.d⟩⟩ = z) := ⟨_, rfl⟩
          have hcm : Hid (∀ x, 0 ≤ cmH c y.l x ∧ cmH c y.l x ≤ c.tt) := hide (fun x => by
            have t0 := hok.out.t0
            have n0 := hok.out.n0
            unfold cmH
            split
            · rename_i e
              have e1 := e.1
              unfold htOk at e1
              simp only [Bool.and_eq_true, decide_eq_true_eq] at e1
              by_cases k1 : y.l.k = 1
              · have := lerr_tok e1.1 k1; omega
              · have := (lerr_way e1.1).2.2.2.2 k1; omega
            · omega)
          by_cases hto : htOk c y.l = true
          · obtain ⟨ez, eb⟩ : z = 0 ∧ y.l.b = c.n := by
              have h1 := hto
              unfold htOk at h1
              simp only [Bool.and_eq_true, decide_eq_true_eq] at h1
              exact ⟨by rw [← hz.out]; exact h1.1, h1.2⟩
            have hle0 : lerr c y.l = 0 := by rw [← hz.out] at ez; exact ez
            obtain ⟨z1, z2, z3⟩ := cmpT ez
            obtain ⟨f1, f2, f3⟩ := cmpT eb
            obtain ⟨jq, hjq⟩ : ∃ jq : Nat, Hid (y.l.q = jq) := ⟨y.l.q.toNat, hide (by have := lerr_q hle0; omega)⟩
            have hjn : Hid (jq < n) := hide (by have := lerr_q hle0; have := hjq.out; have := hbl.out; omega)
            obtain ⟨fq, hfq⟩ : ∃ x, Hid (cntH D jq = x) := ⟨_, hide rfl⟩
            obtain ⟨fs, hfs⟩ : ∃ x, Hid (fq + y.l.n = x) := ⟨_, hide rfl⟩
            have hln : Hid (0 ≤ y.l.n ∧ y.l.n ≤ c.tt) := hide (by
              have t0 := hok.out.t0
              have n0 := hok.out.n0
              by_cases k1 : y.l.k = 1
              · have := lerr_tok hle0 k1; omega
              · have := (lerr_way hle0).2.2.2.2 k1; omega)
            have hws : Hid (wrap64 (fq + y.l.n) = fs) := hide (by
              have a1 := hfq.out
              have a7 := hok.out.t1
              have a9 := (hHI.out.m.get (by have := hok.out.t0; have := hok.out.n0; omega) jq)
              have a11 := a9.1.1
              have a13 := a9.2
              have a15 := hfs.out
              have a16 := hln.out
              unfold cntH at a1
              unfold wrap64
              omega)
            have hadd : Hid (∀ i : Nat, (if (i : Int) = jq then fs else cntH D i) = cntH D i + cmH c y.l i) := hide (fun i => by
              unfold cmH
              rw [hjq.out]
              by_cases e : (i : Int) = jq
              · rw [if_pos e, if_pos ⟨hto, e.symm⟩, e]
                have := hfq.out; have := hfs.out; omega
              · rw [if_neg e, if_neg (fun q => e q.2.symm)]; omega)
            have htoH := hide hto
            obtain ⟨oo, hoo⟩ : ∃ x, Hid (y.l.o = x) := ⟨_, hide rfl⟩
            replace ez := hide ez
            replace eb := hide eb
            clear hto hle0
            by_cases k1 : y.l.k = 1
            · obtain ⟨m1, n1', o1'⟩ := cmpT k1
              replace k1 := hide k1
              cases oo
              · by_cases hgt : c.tt < fs
                · go_upto_region 14 with (go_at_call 23; refine (refCheck_c c.n c.bl c.tt c.cs c.cy c.cc c.cu c.ct c.cp y.l.k y.l.a y.l.b y.l.q y.l.s y.l.w y.l.r y.l.n y.l.o y.l.h y.l.d _ z hz).mono ?_; rintro e w9 ⟨rfl, hb9⟩; have Q9 := hide (Q8.out.below hb9); have th9 := hide (th8.out.below hb9); clear hb9 Q8 th8; clear b0 b1 b2 b3 b4 b5 b6 b7 b8 b9 b10 a11 a12 a13 hky hka2 c0 c1 c2 c3 c4 c5 c6 c7 c8 hkc2; obtain ⟨b0, b1, b2, b3, b4, b5, b6, b7, b8, b9, b10⟩ := lt_at (bz_get Q9.out.x (k := ky) (o := ltR y.l) (by simp)).2; obtain ⟨-, -, -, -, -, -, -, -, -, -, -, a11, a12, a13, -⟩ := acts_at (bz_get Q9.out.x (k := ka) (o := actsO y) (by simp)).2; have hky := (bz_get Q9.out.x (k := ky) (o := ltR y.l) (by simp)).1; have hka2 := (bz_get Q9.out.x (k := ka) (o := actsO y) (by simp)).1; obtain ⟨c0, c1, c2, c3, c4, c5, c6, c7, c8⟩ := cf_at (bz_get Q9.out.x (k := kc) (o := cfR c) (by simp)).2; have hkc2 := (bz_get Q9.out.x (k := kc) (o := cfR c) (by simp)).1)
                  obtain ⟨o2, cap2, e2, -, -, q0, -⟩ := th9.out.at1 hjn.out
                  cases e2
                  rw [hfq.out] at q0
                  rw [hoo.out] at b8
                  have hjn2 : (jq : Int) < n := by have := hjn.out; omega
                  have x3 : w9.cell? ⟨ky, 3, none⟩ = some (.int .i64 jq) := by rw [← hjq.out]; exact b3
                  go_wp2_with fail
                  refine wp_region_noPanic ?_
                  refine wp_region_held_drew (S := (fun w' => w'.cell? ⟨ky, 0, none⟩ = some (.int .i64 y.l.k) ∧ w'.cell? ⟨ky, 3, none⟩ = some (.int .i64 jq) ∧ w'.cell? ⟨ky, 7, none⟩ = some (.int .i64 y.l.n) ∧ w'.cell? ⟨ky, 8, none⟩ = some (.bool false) ∧ w'.cell? ⟨kc, 2, none⟩ = some (.int .i64 c.tt) ∧ w'.cell? ⟨g, oT + jq, none⟩ = some (.int .i64 fq))) (by kernel_rfl) ?_ (fun hHeld => ?_)
                  · exact ⟨b0, x3, b7, b8, c2, q0⟩
                  clear x3 q0
                  clear b0 b1 b2 b3 b4 b5 b6 b7 b8 b9 b10 a11 a12 a13 hky hka2 c0 c1 c2 c3 c4 c5 c6 c7 c8 hkc2
                  refine hTk 0 61 hHeld ?_
                  refine hTk 1 62 hHeld ?_
                  refine hVl 2 63 (.bool true) hHeld (fun wz hSw => ?_) ?_
                  · try dsimp only at hSw
                    go_simp
                  refine hTk 3 64 hHeld ?_
                  refine hTk 4 65 hHeld ?_
                  refine hTk 5 66 hHeld ?_
                  refine hVl 6 67 (.bool false) hHeld (fun wz hSw => ?_) ?_
                  · try dsimp only at hSw
                    go_simp
                  refine hTk 7 68 hHeld ?_
                  refine hTk 8 69 hHeld ?_
                  refine hTk 9 70 hHeld ?_
                  refine hTk 10 71 hHeld ?_
                  refine hTk 11 72 hHeld ?_
                  refine hTk 12 73 hHeld ?_
                  refine hTk 13 74 hHeld ?_
                  refine hTk 14 75 hHeld ?_
                  refine hTk 15 76 hHeld ?_
                  refine hVl 16 77 (.int .i64 fs) hHeld (fun wz hSw => ?_) ?_
                  · try dsimp only at hSw
                    go_simp; first | done | rw [hws.out] | (have h9 := hws.out; unfold wrap64 at h9; rw [IntKind.wrap_i64]; omega)
                  refine hTk 17 78 hHeld ?_
                  refine hTk 18 79 hHeld ?_
                  refine hVl 19 80 (.bool true) hHeld (fun wz hSw => ?_) ?_
                  · try dsimp only at hSw
                    go_simp
                  refine hTk 20 81 hHeld ?_
                  refine hTk 21 82 hHeld ?_
                  refine wpAnyH_done (by kernel_rfl) (NoPanic.normal ?_) _
                  clear hHeld
                  have Q10 := hide (Q9.out.below (V' := w9.drew) (belowN (Below.refl _ _) 1))
                  have th10 := hide (th9.out.below (w' := w9.drew) (belowN (Below.refl _ _) 1))
                  obtain ⟨w10, hw10⟩ : ∃ W, w9.drew = W := ⟨_, rfl⟩
                  rw [hw10] at Q10 th10 ⊢
                  clear hw10 Q9 th9
                  obtain ⟨b0, b1, b2, b3, b4, b5, b6, b7, b8, b9, b10⟩ := lt_at (bz_get Q10.out.x (k := ky) (o := ltR y.l) (by simp)).2
                  obtain ⟨-, -, -, -, -, -, -, -, -, -, -, a11, a12, a13, -⟩ := acts_at (bz_get Q10.out.x (k := ka) (o := actsO y) (by simp)).2
                  have hky := (bz_get Q10.out.x (k := ky) (o := ltR y.l) (by simp)).1
                  have hka2 := (bz_get Q10.out.x (k := ka) (o := actsO y) (by simp)).1
                  obtain ⟨c0, c1, c2, c3, c4, c5, c6, c7, c8⟩ := cf_at (bz_get Q10.out.x (k := kc) (o := cfR c) (by simp)).2
                  have hkc2 := (bz_get Q10.out.x (k := kc) (o := cfR c) (by simp)).1
                  go_wp2_with fail
                  go_roundw
                  case rel => exact ⟨j + 1, F, N, D, by simp, by omega, by have := hN.out; omega, hHI.out, hgF.out, Q10.out.sub (by simp), th10.out⟩
                  case measure => simp [intOf]; omega
                · have hroom : Hid (htOk c y.l = true → y.l.k = 1 → cntH D y.l.q + y.l.n ≤ c.tt) := hide (fun _ _ => by rw [hjq.out, hfq.out, hfs.out]; omega)
                  go_upto_region 14 with (go_at_call 23; refine (refCheck_c c.n c.bl c.tt c.cs c.cy c.cc c.cu c.ct c.cp y.l.k y.l.a y.l.b y.l.q y.l.s y.l.w y.l.r y.l.n y.l.o y.l.h y.l.d _ z hz).mono ?_; rintro e w9 ⟨rfl, hb9⟩; have Q9 := hide (Q8.out.below hb9); have th9 := hide (th8.out.below hb9); clear hb9 Q8 th8; clear b0 b1 b2 b3 b4 b5 b6 b7 b8 b9 b10 a11 a12 a13 hky hka2 c0 c1 c2 c3 c4 c5 c6 c7 c8 hkc2; obtain ⟨b0, b1, b2, b3, b4, b5, b6, b7, b8, b9, b10⟩ := lt_at (bz_get Q9.out.x (k := ky) (o := ltR y.l) (by simp)).2; obtain ⟨-, -, -, -, -, -, -, -, -, -, -, a11, a12, a13, -⟩ := acts_at (bz_get Q9.out.x (k := ka) (o := actsO y) (by simp)).2; have hky := (bz_get Q9.out.x (k := ky) (o := ltR y.l) (by simp)).1; have hka2 := (bz_get Q9.out.x (k := ka) (o := actsO y) (by simp)).1; obtain ⟨c0, c1, c2, c3, c4, c5, c6, c7, c8⟩ := cf_at (bz_get Q9.out.x (k := kc) (o := cfR c) (by simp)).2; have hkc2 := (bz_get Q9.out.x (k := kc) (o := cfR c) (by simp)).1)
                  obtain ⟨o2, cap2, e2, -, -, q0, -⟩ := th9.out.at1 hjn.out
                  cases e2
                  rw [hfq.out] at q0
                  rw [hoo.out] at b8
                  have hjn2 : (jq : Int) < n := by have := hjn.out; omega
                  have x3 : w9.cell? ⟨ky, 3, none⟩ = some (.int .i64 jq) := by rw [← hjq.out]; exact b3
                  go_wp2_with fail
                  refine wp_region_noPanic ?_
                  refine wp_region_held_drew (S := (fun w' => w'.cell? ⟨ky, 0, none⟩ = some (.int .i64 y.l.k) ∧ w'.cell? ⟨ky, 3, none⟩ = some (.int .i64 jq) ∧ w'.cell? ⟨ky, 7, none⟩ = some (.int .i64 y.l.n) ∧ w'.cell? ⟨ky, 8, none⟩ = some (.bool false) ∧ w'.cell? ⟨kc, 2, none⟩ = some (.int .i64 c.tt) ∧ w'.cell? ⟨g, oT + jq, none⟩ = some (.int .i64 fq))) (by kernel_rfl) ?_ (fun hHeld => ?_)
                  · exact ⟨b0, x3, b7, b8, c2, q0⟩
                  clear x3 q0
                  clear b0 b1 b2 b3 b4 b5 b6 b7 b8 b9 b10 a11 a12 a13 hky hka2 c0 c1 c2 c3 c4 c5 c6 c7 c8 hkc2
                  refine hTk 0 61 hHeld ?_
                  refine hTk 1 62 hHeld ?_
                  refine hVl 2 63 (.bool true) hHeld (fun wz hSw => ?_) ?_
                  · try dsimp only at hSw
                    go_simp
                  refine hTk 3 64 hHeld ?_
                  refine hTk 4 65 hHeld ?_
                  refine hTk 5 66 hHeld ?_
                  refine hVl 6 67 (.bool false) hHeld (fun wz hSw => ?_) ?_
                  · try dsimp only at hSw
                    go_simp
                  refine hTk 7 68 hHeld ?_
                  refine hTk 8 69 hHeld ?_
                  refine hTk 9 70 hHeld ?_
                  refine hTk 10 71 hHeld ?_
                  refine hTk 11 72 hHeld ?_
                  refine hTk 12 73 hHeld ?_
                  refine hTk 13 74 hHeld ?_
                  refine hTk 14 75 hHeld ?_
                  refine hTk 15 76 hHeld ?_
                  refine hVl 16 77 (.int .i64 fs) hHeld (fun wz hSw => ?_) ?_
                  · try dsimp only at hSw
                    go_simp; first | done | rw [hws.out] | (have h9 := hws.out; unfold wrap64 at h9; rw [IntKind.wrap_i64]; omega)
                  refine hTk 17 78 hHeld ?_
                  refine hTk 18 79 hHeld ?_
                  refine hVl 19 80 (.bool false) hHeld (fun wz hSw => ?_) ?_
                  · try dsimp only at hSw
                    go_simp
                  refine hTk 20 81 hHeld ?_
                  refine hTk 21 82 hHeld ?_
                  refine wpAnyH_done (by kernel_rfl) (NoPanic.normal ?_) _
                  clear hHeld
                  have Q10 := hide (Q9.out.below (V' := w9.drew) (belowN (Below.refl _ _) 1))
                  have th10 := hide (th9.out.below (w' := w9.drew) (belowN (Below.refl _ _) 1))
                  obtain ⟨w10, hw10⟩ : ∃ W, w9.drew = W := ⟨_, rfl⟩
                  rw [hw10] at Q10 th10 ⊢
                  clear hw10 Q9 th9
                  obtain ⟨b0, b1, b2, b3, b4, b5, b6, b7, b8, b9, b10⟩ := lt_at (bz_get Q10.out.x (k := ky) (o := ltR y.l) (by simp)).2
                  obtain ⟨-, -, -, -, -, -, -, -, -, -, -, a11, a12, a13, -⟩ := acts_at (bz_get Q10.out.x (k := ka) (o := actsO y) (by simp)).2
                  have hky := (bz_get Q10.out.x (k := ky) (o := ltR y.l) (by simp)).1
                  have hka2 := (bz_get Q10.out.x (k := ka) (o := actsO y) (by simp)).1
                  obtain ⟨c0, c1, c2, c3, c4, c5, c6, c7, c8⟩ := cf_at (bz_get Q10.out.x (k := kc) (o := cfR c) (by simp)).2
                  have hkc2 := (bz_get Q10.out.x (k := kc) (o := cfR c) (by simp)).1
                  have hjn2 : (jq : Int) < n := by have := hjn.out; omega
                  have x3 : w10.cell? ⟨ky, 3, none⟩ = some (.int .i64 jq) := by rw [← hjq.out]; exact b3
                  go_upto_region 15 with fail
                  go_wp2_with fail
                  refine wp_region_noPanic ?_
                  refine wp_region_held_drew (S := (fun w' => w'.cell? ⟨ky, 3, none⟩ = some (.int .i64 jq) ∧ w'.cell? ⟨ky, 7, none⟩ = some (.int .i64 y.l.n))) (by kernel_rfl) ?_ (fun hHeld => ?_)
                  · exact ⟨x3, b7⟩
                  refine hTk 0 83 hHeld ?_
                  refine hTk 1 84 hHeld ?_
                  refine hTk 2 85 hHeld ?_
                  refine hTk 3 86 hHeld ?_
                  refine hTk 5 88 hHeld ?_
                  refine hTk 6 89 hHeld ?_
                  refine hTk 7 90 hHeld ?_
                  have Q11 := hide (Q10.out.below (V' := w10.drew) (belowN (Below.refl _ _) 1))
                  have th11 := hide (th10.out.below (w' := w10.drew) (belowN (Below.refl _ _) 1))
                  obtain ⟨w11, hw11⟩ : ∃ W, w10.drew = W := ⟨_, rfl⟩
                  rw [hw11] at hHeld Q11 th11 ⊢
                  clear hw11 Q10 th10 x3
                  clear b0 b1 b2 b3 b4 b5 b6 b7 b8 b9 b10 a11 a12 a13 hky hka2 c0 c1 c2 c3 c4 c5 c6 c7 c8 hkc2
                  obtain ⟨b0, b1, b2, b3, b4, b5, b6, b7, b8, b9, b10⟩ := lt_at (bz_get Q11.out.x (k := ky) (o := ltR y.l) (by simp)).2
                  obtain ⟨-, -, -, -, -, -, -, -, -, -, -, a11, a12, a13, -⟩ := acts_at (bz_get Q11.out.x (k := ka) (o := actsO y) (by simp)).2
                  have hky := (bz_get Q11.out.x (k := ky) (o := ltR y.l) (by simp)).1
                  have hka2 := (bz_get Q11.out.x (k := ka) (o := actsO y) (by simp)).1
                  obtain ⟨c0, c1, c2, c3, c4, c5, c6, c7, c8⟩ := cf_at (bz_get Q11.out.x (k := kc) (o := cfR c) (by simp)).2
                  have hkc2 := (bz_get Q11.out.x (k := kc) (o := cfR c) (by simp)).1
                  have x3 : w11.cell? ⟨ky, 3, none⟩ = some (.int .i64 jq) := by rw [← hjq.out]; exact b3
                  obtain ⟨o2, cap2, e2, -, hgl, q0, q1⟩ := th11.out.at1 hjn.out
                  cases e2
                  rw [hfq.out] at q0
                  refine hNo 4 fun K hK => ?_
                  go_simp
                  refine hK.out _ _ ?_ fun hHeld => ?_
                  · exact ⟨x3, b7⟩
                  clear hK K
                  try simp only [Act.put, za, zb, zc]
                  refine hVl 8 91 (.int .i64 fs) hHeld (fun wz hSw => ?_) ?_
                  · try dsimp only at hSw
                    go_simp; first | done | rw [hws.out] | (have h9 := hws.out; unfold wrap64 at h9; rw [IntKind.wrap_i64]; omega)
                  refine hTk 9 92 hHeld ?_
                  have kg1 : ky ≠ g := by have := hgk.out; omega
                  have kg2 : g ≠ ky := fun e => kg1 e.symm
                  refine hNo 10 fun K hK => ?_
                  go_simp
                  refine hK.out _ _ ?_ fun hHeld => ?_
                  · exact ⟨by simp [go_sem, *], by simp [go_sem, *]⟩
                  clear hK K
                  try simp only [Act.put, za, zb, zc]
                  refine wpAnyH_done (by kernel_rfl) (NoPanic.normal ?_) _
                  clear hHeld
                  have th12 := hide ((th11.out.put hjn.out fs).alike (f' := fun x => cntH D x + cmH c y.l x) (fun i hi => hadd.out i))
                  have hf12 : FrS (· = g) w11 (w11.setCell ⟨g, oT + jq, none⟩ (.int .i64 fs)) := wrK (FrS.refl _ _) _
                  have Q12 := hide (Q11.out.frs hf12 (fun i e => by rw [e]; exact hgw.out.1) (fun b hb e => hgF.out (e ▸ hb)) (fun x hx e => by
                    have h1 := hgk.out
                    have h2 := hgw.out.2
                    simp only [List.mem_cons, List.not_mem_nil, or_false] at hx
                    rcases hx with rfl | rfl | rfl <;> (dsimp only at e; omega)))
                  obtain ⟨w12, hw12⟩ : ∃ W, w11.setCell ⟨g, oT + jq, none⟩ (.int .i64 fs) = W := ⟨_, rfl⟩
                  rw [hw12] at Q12 th12 ⊢
                  clear hw12 Q11 th11 hf12 x3 q0 q1 kg1 kg2 hgl
                  clear b0 b1 b2 b3 b4 b5 b6 b7 b8 b9 b10 a11 a12 a13 hky hka2 c0 c1 c2 c3 c4 c5 c6 c7 c8 hkc2
                  obtain ⟨b0, b1, b2, b3, b4, b5, b6, b7, b8, b9, b10⟩ := lt_at (bz_get Q12.out.x (k := ky) (o := ltR y.l) (by simp)).2
                  obtain ⟨-, -, -, -, -, -, -, -, -, -, -, a11, a12, a13, -⟩ := acts_at (bz_get Q12.out.x (k := ka) (o := actsO y) (by simp)).2
                  have hky := (bz_get Q12.out.x (k := ky) (o := ltR y.l) (by simp)).1
                  have hka2 := (bz_get Q12.out.x (k := ka) (o := actsO y) (by simp)).1
                  obtain ⟨c0, c1, c2, c3, c4, c5, c6, c7, c8⟩ := cf_at (bz_get Q12.out.x (k := kc) (o := cfR c) (by simp)).2
                  have hkc2 := (bz_get Q12.out.x (k := kc) (o := cfR c) (by simp)).1
                  obtain ⟨L, hL⟩ : ∃ L, Hid (htL c D y.l y.d0 y.d1 = L) := ⟨_, rfl⟩
                  obtain ⟨D2, hD2⟩ : ∃ L, Hid (nxHT c D y.l y.d0 y.d1 = L) := ⟨_, rfl⟩
                  have hS := hs_take (d0 := y.d0) (d1 := y.d1) hok.out hHI.out hroom.out
                  rw [hL.out, hD2.out] at hS
                  obtain ⟨hHI2, hAG, hcnt⟩ := hS
                  replace hHI2 := hide hHI2
                  replace hAG := hide hAG
                  replace hcnt := hide hcnt
                  go_wp2_with fail
                  go_at_call 13
                  refine (hmTake_c p B F c N D y.l y.d0 y.d1 y.d2 _ Q12.out.a.n (hide (hT.out.lowH Q12.out.a.bel)) (hide (Q12.out.a.no0 hT.out)) (by have := hN6.out; omega) hyk.out L hL).mono ?_
                  rintro e w16 ⟨v16, rfl, F16, g16, hO⟩
                  rw [hD2.out] at hO
                  obtain ⟨ao16, cap16, e16, -⟩ := _root_.id hO.own
                  subst e16
                  have Q16 := hide ((Q12.out.step hO.nd hO.st).sub (K' := [(kc, cfR c)]) (by simp))
                  have vT16 := hide hO.own.view
                  have hgL : Hid (g16 ≠ g) := hide (by have := hO.new; have := th12.out.lt; omega)
                  have th16 := hide (th12.out.fr hO.st.fr hgF.out)
                  have hgF2 := hide (hO.st.keep hgF.out th12.out.lt).2.1
                  have hLm : L.length ≤ 9223372036854775807 := by
                    obtain ⟨_, _, _, q1, q2, _⟩ := vT16.out
                    unfold maxLen at q2
                    omega
                  clear hO Q12 th12
                  clear b0 b1 b2 b3 b4 b5 b6 b7 b8 b9 b10 a11 a12 a13 hky hka2 c0 c1 c2 c3 c4 c5 c6 c7 c8 hkc2
                  as_aux_lemma =>
                    go_wp2_with fail
                    go_loopw [99] (fun i wr => ∃ t : Nat, t ≤ L.length ∧ i = .int .i64 t ∧ Hoz w wr p B F16 c (N + 1) D2 [(kc, cfR c)] ∧ ViewT wr (.slice ao16 L.length cap16) g16 L ∧ ThIs wr (.slice (some ⟨g, oT, none⟩) n capT) g n (fun x => cntH D x + cmH c y.l x - smL (L.take t) x)) (fun i _ => L.length - (intOf i).toNat)
                    case atStart => exact ⟨0, Nat.zero_le _, rfl, Q16.out, vT16.out, th16.out.alike (fun i _ => by rw [show L.take 0 = [] from rfl, smL_nil]; omega)⟩
                    case round =>
                      clear Q16 vT16 th16
                      obtain ⟨t, ht, rfl, Q17, vT17, th17⟩ := hrel
                      replace Q17 := hide Q17
                      replace vT17 := hide vT17
                      replace th17 := hide th17
                      by_cases hlt : t < L.length
                      · have hlt' : (t : Int) < L.length := by omega
                        obtain ⟨o1, rfl, hgl, hra⟩ := lt_range vT17.out hlt
                        have hst := hide (smL_step L hlt)
                        obtain ⟨l, hl⟩ : ∃ l, L[t] = l := ⟨_, rfl⟩
                        have hgl2 := hide (hAG.out l (by rw [← hl]; exact List.getElem_mem hlt))
                        rw [hl] at hra hst
                        clear hl
                        go_upto_region 18 with fail
                        go_step
                        go_step
                        go_step
                        go_step
                        refine wpList_load_mid (by rfl) _ _ (by rfl) g16 (o1 + t * 11) (by rfl) (ltC l) _ hra Tryd.underlying34 (by rfl) (by exact infoLt) ?_
                        clear hra
                        go_step
                        go_step
                        go_step
                        refine wpList_store_new _ _ (by rfl) (by rfl) (by rfl) (by rfl) (by exact infoLt) (by rfl) (ltC_one l) ?_
                        obtain ⟨V9, hV9⟩ : ∃ V, wr.alloc (.cells (ltC l).toArray 34) = V := ⟨_, rfl⟩
                        have Q19 : Hid (Hoz w V9 p B F16 c (N + 1) D2 [(wr.heap.size, ltR l), (kc, cfR c)]) := by rw [← hV9]; exact hide (Q17.out.new (ltR l))
                        have vT19 : Hid (ViewT V9 (.slice (some ⟨g16, o1, none⟩) L.length cap16) g16 L) := by rw [← hV9]; exact hide (vT17.out.alloc _)
                        have th19 : Hid (ThIs V9 (.slice (some ⟨g, oT, none⟩) n capT) g n (fun x => cntH D x + cmH c y.l x - smL (L.take t) x)) := by rw [← hV9]; exact hide (th17.out.below ((Below.refl _ _).alloc (Nat.le_refl _) _))
                        have hgz0 := th17.out.lt
                        rw [hV9]
                        clear hV9 Q17 vT17 th17
                        obtain ⟨kz, hkz⟩ : ∃ k, Hid (wr.heap.size = k) := ⟨_, hide rfl⟩
                        rw [hkz.out] at Q19 hgz0
                        rw [hkz.out]
                        have hgz := hide hgz0
                        obtain ⟨ll, xl⟩ := bz_get Q19.out.x (k := kz) (o := ltR l) (by simp)
                        obtain ⟨l0, l1, l2, l3, l4, l5, l6, l7, l8, l9, l10⟩ := lt_at xl
                        obtain ⟨lc, xc⟩ := bz_get Q19.out.x (k := kc) (o := cfR c) (by simp)
                        obtain ⟨c0, c1, c2, c3, c4, c5, c6, c7, c8⟩ := cf_at xc
                        clear xl xc hgz0
                        have hz0 : Hid (letterZ c.n c.bl c.tt ⟨l.k, l.a, l.b, l.q, l.s, l.w, l.r, ⟨l.n, l.o, l.h, l.d⟩⟩ = 0) := hide hgl2.out.1
                        obtain ⟨m1, m2, m3⟩ := cmpT hgl2.out.2
                        obtain ⟨jz, hjz⟩ : ∃ jz : Nat, Hid (l.q = jz) := ⟨l.q.toNat, hide (by have := lerr_q hgl2.out.1; omega)⟩
                        have hjzn : Hid (jz < n) := hide (by have := lerr_q hgl2.out.1; have := hjz.out; have := hbl.out; omega)
                        go_upto_region 21 with (go_at_call 23; refine (refCheck_c c.n c.bl c.tt c.cs c.cy c.cc c.cu c.ct c.cp l.k l.a l.b l.q l.s l.w l.r l.n l.o l.h l.d _ 0 hz0).mono ?_; rintro e w20 ⟨rfl, hb7⟩; have Q20 := hide (Q19.out.below hb7); have vT20 := hide (vT19.out.below hb7); have th20 := hide (th19.out.below hb7); clear hb7 l0 l1 l2 l3 l4 l5 l6 l7 l8 l9 l10 c0 c1 c2 c3 c4 c5 c6 c7 c8 ll lc Q19 vT19 th19; obtain ⟨ll, xl⟩ := bz_get Q20.out.x (k := kz) (o := ltR l) (by simp); obtain ⟨l0, l1, l2, l3, l4, l5, l6, l7, l8, l9, l10⟩ := lt_at xl; obtain ⟨lc, xc⟩ := bz_get Q20.out.x (k := kc) (o := cfR c) (by simp); obtain ⟨c0, c1, c2, c3, c4, c5, c6, c7, c8⟩ := cf_at xc; clear xl xc)
                        clear c0 c1 c2 c3 c4 c5 c6 c7 c8 lc
                        obtain ⟨zq, hzq⟩ : ∃ x, Hid (cntH D jz + cmH c y.l jz - smL (L.take t) jz = x) := ⟨_, hide rfl⟩
                        obtain ⟨zs, hzs⟩ : ∃ x, Hid (zq - l.n = x) := ⟨_, hide rfl⟩
                        have hzw : Hid (wrap64 (zq - l.n) = zs) := hide (by
                          have a1 := hzq.out
                          have a2 := smL_take hAG.out t jz
                          have a3 := hcnt.out jz
                          have a7 := hok.out.t1
                          have a8 := gl_n hgl2.out
                          have a9 := (hHI.out.m.get (by have := hok.out.t0; have := hok.out.n0; omega) jz)
                          have a10 := (hHI2.out.m.get (by have := hok.out.t0; have := hok.out.n0; omega) jz)
                          have a11 := a9.1.1
                          have a12 := a10.1.1
                          have a13 := a9.2
                          have a14 := a10.2
                          have a15 := hzs.out
                          have a16 := hcm.out jz
                          unfold cntH at a1 a3
                          unfold wrap64
                          omega)
                        have hsub : Hid (∀ i : Nat, (if (i : Int) = jz then zs else cntH D i + cmH c y.l i - smL (L.take t) i) = cntH D i + cmH c y.l i - smL (L.take (t + 1)) i) := hide (fun i => by
                          rw [hst.out i, hjz.out]
                          by_cases e : (i : Int) = jz
                          · rw [if_pos e, if_pos e.symm, e]
                            have := hzq.out; have := hzs.out; omega
                          · rw [if_neg e, if_neg (fun q => e q.symm)]; omega)
                        have hjz2 : (jz : Int) < n := by have := hjzn.out; omega
                        have x3 : w20.cell? ⟨kz, 3, none⟩ = some (.int .i64 jz) := by rw [← hjz.out]; exact l3
                        have x7 := l7
                        go_upto_region 21 with fail
                        go_wp2_with fail
                        refine wp_region_noPanic ?_
                        refine wp_region_held_drew (S := (fun w' => w'.cell? ⟨kz, 3, none⟩ = some (.int .i64 jz) ∧ w'.cell? ⟨kz, 7, none⟩ = some (.int .i64 l.n))) (by kernel_rfl) ?_ (fun hHeld => ?_)
                        · exact ⟨x3, x7⟩
                        clear x3 x7 l0 l1 l2 l3 l4 l5 l6 l7 l8 l9 l10 ll
                        refine hTk 0 114 hHeld ?_
                        refine hTk 1 115 hHeld ?_
                        refine hTk 2 116 hHeld ?_
                        refine hTk 3 117 hHeld ?_
                        refine hTk 5 119 hHeld ?_
                        refine hTk 6 120 hHeld ?_
                        refine hTk 7 121 hHeld ?_
                        have Q21 := hide (Q20.out.below (V' := w20.drew) (belowN (Below.refl _ _) 1))
                        have th21 := hide (th20.out.below (w' := w20.drew) (belowN (Below.refl _ _) 1))
                        have vT21 := hide (vT20.out.below (w' := w20.drew) (belowN (Below.refl _ _) 1))
                        obtain ⟨w21, hw21⟩ : ∃ W, w20.drew = W := ⟨_, rfl⟩
                        rw [hw21] at hHeld Q21 th21 vT21 ⊢
                        clear hw21 Q20 th20 vT20
                        obtain ⟨ll, xl⟩ := bz_get Q21.out.x (k := kz) (o := ltR l) (by simp)
                        obtain ⟨-, -, -, l3, -, -, -, l7, -, -, -⟩ := lt_at xl
                        clear xl
                        have x3 : w21.cell? ⟨kz, 3, none⟩ = some (.int .i64 jz) := by rw [← hjz.out]; exact l3
                        obtain ⟨o2, cap2, e2, -, hgl, q0, q1⟩ := th21.out.at1 hjzn.out
                        cases e2
                        rw [hzq.out] at q0
                        refine hNo 4 fun K hK => ?_
                        go_simp
                        refine hK.out _ _ ?_ fun hHeld => ?_
                        · exact ⟨x3, l7⟩
                        clear hK K
                        try simp only [Act.put, za, zb, zc]
                        refine hVl 8 122 (.int .i64 zs) hHeld (fun wz hSw => ?_) ?_
                        · try dsimp only at hSw
                          go_simp; first | done | rw [hzw.out] | (have h9 := hzw.out; unfold wrap64 at h9; rw [IntKind.wrap_i64]; omega)
                        refine hTk 9 123 hHeld ?_
                        have kg1 : kz ≠ g := by have := hgz.out; omega
                        have kg2 : g ≠ kz := fun e => kg1 e.symm
                        refine hNo 10 fun K hK => ?_
                        go_simp
                        refine hK.out _ _ ?_ fun hHeld => ?_
                        · exact ⟨by simp [go_sem, *], by simp [go_sem, *]⟩
                        clear hK K
                        try simp only [Act.put, za, zb, zc]
                        refine wpAnyH_done (by kernel_rfl) (NoPanic.normal ?_) _
                        clear hHeld
                        have th22 := hide ((th21.out.put hjzn.out zs).alike (f' := fun x => cntH D x + cmH c y.l x - smL (L.take (t + 1)) x) (fun i hi => hsub.out i))
                        have hf22 : FrS (· = g) w21 (w21.setCell ⟨g, oT + jz, none⟩ (.int .i64 zs)) := wrK (FrS.refl _ _) _
                        have Q22 := hide (Q21.out.frs hf22 (fun i e => by rw [e]; exact hgw.out.1) (fun b hb e => hgF2.out (e ▸ hb)) (fun x hx e => by
                          have h1 := hgz.out
                          have h2 := hgw.out.2
                          simp only [List.mem_cons, List.not_mem_nil, or_false] at hx
                          rcases hx with rfl | rfl <;> (dsimp only at e; omega)))
                        have vT22 := hide (vT21.out.fr hf22 (fun _ e => hgL.out e))
                        obtain ⟨w22, hw22⟩ : ∃ W, w21.setCell ⟨g, oT + jz, none⟩ (.int .i64 zs) = W := ⟨_, rfl⟩
                        rw [hw22] at Q22 th22 vT22 ⊢
                        clear hw22 Q21 th21 vT21 hf22 x3 q0 q1 kg1 kg2 hgl l3 l7 ll
                        go_wp2_with fail
                        go_roundw
                        case rel => exact ⟨t + 1, by omega, by simp, Q22.out.sub (fun x hx => List.mem_cons_of_mem _ hx), vT22.out, th22.out⟩
                        case measure => simp [intOf]; omega
                      · obtain rfl : t = L.length := by omega
                        have th18 : Hid (ThIs wr (.slice (some ⟨g, oT, none⟩) n capT) g n (cntH D2)) := hide (th17.out.alike (fun i _ => by rw [hcnt.out i, List.take_length]))
                        clear th17 vT17 hlt
                        obtain ⟨lc, xc⟩ := bz_get Q17.out.x (k := kc) (o := cfR c) (by simp)
                        obtain ⟨c0, c1, c2, c3, c4, c5, c6, c7, c8⟩ := cf_at xc
                        have c1' : wr.cell? ⟨kc, 1, none⟩ = some (.int .i64 n) := by rw [hbl.out]; exact c1
                        clear c0 c1 c2 c3 c4 c5 c6 c7 c8 xc
                        have hn3 : Hid (D2.M.length = n) := hide (by have := hHI2.out.ml; have := hbl.out; omega)
                        have hn64 : (n : Int) ≤ 64 := by have := hbl.out; have := hok.out.b1; omega
                        go_wp2_with fail
                        go_at_call 18
                        refine (hmAll_c p B F16 c (N + 1) D2 _ Q17.out.a.n n hn3).mono ?_
                        rintro e w23 ⟨rfl, ho23, hb23⟩
                        have Q23 := hide (Q17.out.below hb23)
                        have th23 := hide (th18.out.below hb23)
                        obtain ⟨gA, hgA⟩ : ∃ k, Hid (wr.heap.size = k) := ⟨_, hide rfl⟩
                        rw [hgA.out] at ho23
                        rw [hgA.out]
                        have hA23 := hide ho23
                        replace c1' := keep_cell (hb23.block kc lc) c1'
                        have lc2 := Nat.lt_of_lt_of_le lc hb23.size
                        clear hb23 Q17 th18 ho23 lc
                        go_wp2_with fail
                        clear c1' lc2
                        go_loopw [134] (fun i wz => ∃ t : Nat, t ≤ n ∧ i = .int .i64 t ∧ Below w23.heap.size w23 wz) (fun i _ => n - (intOf i).toNat)
                        case atStart => exact ⟨0, Nat.zero_le _, rfl, Below.refl _ _⟩
                        case round =>
                          obtain ⟨t, ht, rfl, hbz⟩ := hrel
                          have Q24 := hide (Q23.out.below hbz)
                          have th24 := hide (th23.out.below hbz)
                          have hA24 := hide (hA23.out.below hbz)
                          have hbz' := hide hbz
                          clear hbz
                          by_cases hlt : t < n
                          · have hlt' : (t : Int) < n := by omega
                            obtain ⟨-, -, -, kk⟩ := view_atB hA24.out.view rfl
                            obtain ⟨oA, eA, hlA, k0, k1, k2, k3⟩ := kk t (by have := hn3.out; omega)
                            simp only [Option.some.injEq, Addr.mk.injEq, true_and, and_true] at eA
                            subst eA
                            obtain ⟨bb, hbb⟩ : ∃ x, D2.M[t]'(by have := hn3.out; omega) = x := ⟨_, rfl⟩
                            rw [hbb] at k0 k1 k2 k3
                            have hbn : bb.n = cntH D2 t := by unfold cntH; rw [getM_nat (by have := hn3.out; omega), hbb]
                            rw [hbn] at k0
                            obtain ⟨o2, cap2, e2, -, hgl, q0, q1⟩ := th24.out.at1 hlt
                            cases e2
                            obtain ⟨fn, hfn⟩ : ∃ x, Hid (cntH D2 t = x) := ⟨_, hide rfl⟩
                            rw [hfn.out] at q0 k0
                            simp only [Nat.zero_add] at k0 k1 k2 k3
                            clear kk hbb hbn q1
                            go_upto_region 29 with fail
                            refine name_world ?_
                            intro W29 hW29
                            have hb29 : Hid (Below wr.heap.size wr W29) := by rw [← hW29]; exact hide (by all_goals exact belEnd)
                            have z0 : W29.cell? ⟨wr.heap.size, 0, none⟩ = some (.int .i64 fn) := by rw [← hW29]; simp [go_sem]
                            have y0 : W29.cell? ⟨g, oT + t, none⟩ = some (.int .i64 fn) := keep_cell (hb29.out.block g hgl) q0
                            clear hW29 k0 k1 k2 k3 q0
                            go_wp2_with fail
                            refine wp_region_noPanic ?_
                            refine wp_region_held_drew (S := (fun w' => w'.cell? ⟨wr.heap.size, 0, none⟩ = some (.int .i64 fn) ∧ w'.cell? ⟨g, oT + t, none⟩ = some (.int .i64 fn))) (by kernel_rfl) ?_ (fun hHeld => ?_)
                            · exact ⟨z0, y0⟩
                            refine hTk 0 139 hHeld ?_
                            refine hTk 1 140 hHeld ?_
                            refine hTk 2 141 hHeld ?_
                            refine hTk 3 142 hHeld ?_
                            refine hTk 4 143 hHeld ?_
                            refine hTk 5 144 hHeld ?_
                            refine hVl 6 145 (.bool false) hHeld (fun wz hSw => ?_) ?_
                            · try dsimp only at hSw
                              go_simp
                            refine wpAnyH_done (by kernel_rfl) (NoPanic.normal ?_) _
                            clear hHeld
                            go_wp2_with fail
                            go_roundw
                            case rel => exact ⟨t + 1, by omega, by simp, belowN (hbz'.out.trans (hb29.out.mono hbz'.out.size)) _⟩
                            case measure => simp [intOf]; omega
                          · obtain rfl : t = n := by omega
                            go_wp2_with fail
                            go_roundw
                            case rel => exact ⟨j + 1, F16, N + 1, D2, by simp, by omega, by have := hN.out; omega, hHI2.out, hgF2.out, Q24.out, th24.out⟩
                            case measure => simp [intOf]; omega
              · go_upto_region 14 with (go_at_call 23; refine (refCheck_c c.n c.bl c.tt c.cs c.cy c.cc c.cu c.ct c.cp y.l.k y.l.a y.l.b y.l.q y.l.s y.l.w y.l.r y.l.n y.l.o y.l.h y.l.d _ z hz).mono ?_; rintro e w9 ⟨rfl, hb9⟩; have Q9 := hide (Q8.out.below hb9); have th9 := hide (th8.out.below hb9); clear hb9 Q8 th8; clear b0 b1 b2 b3 b4 b5 b6 b7 b8 b9 b10 a11 a12 a13 hky hka2 c0 c1 c2 c3 c4 c5 c6 c7 c8 hkc2; obtain ⟨b0, b1, b2, b3, b4, b5, b6, b7, b8, b9, b10⟩ := lt_at (bz_get Q9.out.x (k := ky) (o := ltR y.l) (by simp)).2; obtain ⟨-, -, -, -, -, -, -, -, -, -, -, a11, a12, a13, -⟩ := acts_at (bz_get Q9.out.x (k := ka) (o := actsO y) (by simp)).2; have hky := (bz_get Q9.out.x (k := ky) (o := ltR y.l) (by simp)).1; have hka2 := (bz_get Q9.out.x (k := ka) (o := actsO y) (by simp)).1; obtain ⟨c0, c1, c2, c3, c4, c5, c6, c7, c8⟩ := cf_at (bz_get Q9.out.x (k := kc) (o := cfR c) (by simp)).2; have hkc2 := (bz_get Q9.out.x (k := kc) (o := cfR c) (by simp)).1)
                obtain ⟨o2, cap2, e2, -, -, q0, -⟩ := th9.out.at1 hjn.out
                cases e2
                rw [hfq.out] at q0
                rw [hoo.out] at b8
                have hjn2 : (jq : Int) < n := by have := hjn.out; omega
                have x3 : w9.cell? ⟨ky, 3, none⟩ = some (.int .i64 jq) := by rw [← hjq.out]; exact b3
                go_wp2_with fail
                refine wp_region_noPanic ?_
                refine wp_region_held_drew (S := (fun w' => w'.cell? ⟨ky, 0, none⟩ = some (.int .i64 y.l.k) ∧ w'.cell? ⟨ky, 3, none⟩ = some (.int .i64 jq) ∧ w'.cell? ⟨ky, 7, none⟩ = some (.int .i64 y.l.n) ∧ w'.cell? ⟨ky, 8, none⟩ = some (.bool true) ∧ w'.cell? ⟨kc, 2, none⟩ = some (.int .i64 c.tt) ∧ w'.cell? ⟨g, oT + jq, none⟩ = some (.int .i64 fq))) (by kernel_rfl) ?_ (fun hHeld => ?_)
                · exact ⟨b0, x3, b7, b8, c2, q0⟩
                clear x3 q0
                clear b0 b1 b2 b3 b4 b5 b6 b7 b8 b9 b10 a11 a12 a13 hky hka2 c0 c1 c2 c3 c4 c5 c6 c7 c8 hkc2
                refine hTk 0 61 hHeld ?_
                refine hTk 1 62 hHeld ?_
                refine hVl 2 63 (.bool true) hHeld (fun wz hSw => ?_) ?_
                · try dsimp only at hSw
                  go_simp
                refine hTk 3 64 hHeld ?_
                refine hTk 4 65 hHeld ?_
                refine hTk 5 66 hHeld ?_
                refine hVl 6 67 (.bool true) hHeld (fun wz hSw => ?_) ?_
                · try dsimp only at hSw
                  go_simp
                refine hTk 7 68 hHeld ?_
                refine hSk 8 69 hHeld ?_
                refine hSk 9 70 hHeld ?_
                refine hSk 10 71 hHeld ?_
                refine hSk 11 72 hHeld ?_
                refine hSk 12 73 hHeld ?_
                refine hSk 13 74 hHeld ?_
                refine hSk 14 75 hHeld ?_
                refine hSk 15 76 hHeld ?_
                refine hSk 16 77 hHeld ?_
                refine hSk 17 78 hHeld ?_
                refine hSk 18 79 hHeld ?_
                refine hSk 19 80 hHeld ?_
                refine hTk 20 81 hHeld ?_
                refine hTk 21 82 hHeld ?_
                refine wpAnyH_done (by kernel_rfl) (NoPanic.normal ?_) _
                clear hHeld
                have Q10 := hide (Q9.out.below (V' := w9.drew) (belowN (Below.refl _ _) 1))
                have th10 := hide (th9.out.below (w' := w9.drew) (belowN (Below.refl _ _) 1))
                obtain ⟨w10, hw10⟩ : ∃ W, w9.drew = W := ⟨_, rfl⟩
                rw [hw10] at Q10 th10 ⊢
                clear hw10 Q9 th9
                obtain ⟨b0, b1, b2, b3, b4, b5, b6, b7, b8, b9, b10⟩ := lt_at (bz_get Q10.out.x (k := ky) (o := ltR y.l) (by simp)).2
                obtain ⟨-, -, -, -, -, -, -, -, -, -, -, a11, a12, a13, -⟩ := acts_at (bz_get Q10.out.x (k := ka) (o := actsO y) (by simp)).2
                have hky := (bz_get Q10.out.x (k := ky) (o := ltR y.l) (by simp)).1
                have hka2 := (bz_get Q10.out.x (k := ka) (o := actsO y) (by simp)).1
                obtain ⟨c0, c1, c2, c3, c4, c5, c6, c7, c8⟩ := cf_at (bz_get Q10.out.x (k := kc) (o := cfR c) (by simp)).2
                have hkc2 := (bz_get Q10.out.x (k := kc) (o := cfR c) (by simp)).1
                go_wp2_with fail
                go_roundw
                case rel => exact ⟨j + 1, F, N, D, by simp, by omega, by have := hN.out; omega, hHI.out, hgF.out, Q10.out.sub (by simp), th10.out⟩
                case measure => simp [intOf]; omega
            · obtain ⟨m1, n1', o1'⟩ := cmpF k1
              have hroom : Hid (htOk c y.l = true → y.l.k = 1 → cntH D y.l.q + y.l.n ≤ c.tt) := hide (fun _ e => absurd e k1)
              replace k1 := hide k1
              go_upto_region 14 with (go_at_call 23; refine (refCheck_c c.n c.bl c.tt c.cs c.cy c.cc c.cu c.ct c.cp y.l.k y.l.a y.l.b y.l.q y.l.s y.l.w y.l.r y.l.n y.l.o y.l.h y.l.d _ z hz).mono ?_; rintro e w9 ⟨rfl, hb9⟩; have Q9 := hide (Q8.out.below hb9); have th9 := hide (th8.out.below hb9); clear hb9 Q8 th8; clear b0 b1 b2 b3 b4 b5 b6 b7 b8 b9 b10 a11 a12 a13 hky hka2 c0 c1 c2 c3 c4 c5 c6 c7 c8 hkc2; obtain ⟨b0, b1, b2, b3, b4, b5, b6, b7, b8, b9, b10⟩ := lt_at (bz_get Q9.out.x (k := ky) (o := ltR y.l) (by simp)).2; obtain ⟨-, -, -, -, -, -, -, -, -, -, -, a11, a12, a13, -⟩ := acts_at (bz_get Q9.out.x (k := ka) (o := actsO y) (by simp)).2; have hky := (bz_get Q9.out.x (k := ky) (o := ltR y.l) (by simp)).1; have hka2 := (bz_get Q9.out.x (k := ka) (o := actsO y) (by simp)).1; obtain ⟨c0, c1, c2, c3, c4, c5, c6, c7, c8⟩ := cf_at (bz_get Q9.out.x (k := kc) (o := cfR c) (by simp)).2; have hkc2 := (bz_get Q9.out.x (k := kc) (o := cfR c) (by simp)).1)
              obtain ⟨o2, cap2, e2, -, -, q0, -⟩ := th9.out.at1 hjn.out
              cases e2
              rw [hfq.out] at q0
              rw [hoo.out] at b8
              have hjn2 : (jq : Int) < n := by have := hjn.out; omega
              have x3 : w9.cell? ⟨ky, 3, none⟩ = some (.int .i64 jq) := by rw [← hjq.out]; exact b3
              go_wp2_with fail
              refine wp_region_noPanic ?_
              refine wp_region_held_drew (S := (fun w' => w'.cell? ⟨ky, 0, none⟩ = some (.int .i64 y.l.k) ∧ w'.cell? ⟨ky, 3, none⟩ = some (.int .i64 jq) ∧ w'.cell? ⟨ky, 7, none⟩ = some (.int .i64 y.l.n) ∧ w'.cell? ⟨ky, 8, none⟩ = some (.bool oo) ∧ w'.cell? ⟨kc, 2, none⟩ = some (.int .i64 c.tt) ∧ w'.cell? ⟨g, oT + jq, none⟩ = some (.int .i64 fq))) (by kernel_rfl) ?_ (fun hHeld => ?_)
              · exact ⟨b0, x3, b7, b8, c2, q0⟩
              clear x3 q0
              clear b0 b1 b2 b3 b4 b5 b6 b7 b8 b9 b10 a11 a12 a13 hky hka2 c0 c1 c2 c3 c4 c5 c6 c7 c8 hkc2
              refine hTk 0 61 hHeld ?_
              refine hTk 1 62 hHeld ?_
              refine hVl 2 63 (.bool false) hHeld (fun wz hSw => ?_) ?_
              · try dsimp only at hSw
                go_simp
              refine hTk 3 64 hHeld ?_
              refine hSk 4 65 hHeld ?_
              refine hSk 5 66 hHeld ?_
              refine hSk 6 67 hHeld ?_
              refine hSk 7 68 hHeld ?_
              refine hSk 8 69 hHeld ?_
              refine hSk 9 70 hHeld ?_
              refine hSk 10 71 hHeld ?_
              refine hSk 11 72 hHeld ?_
              refine hSk 12 73 hHeld ?_
              refine hSk 13 74 hHeld ?_
              refine hSk 14 75 hHeld ?_
              refine hSk 15 76 hHeld ?_
              refine hSk 16 77 hHeld ?_
              refine hSk 17 78 hHeld ?_
              refine hSk 18 79 hHeld ?_
              refine hSk 19 80 hHeld ?_
              refine hSk 20 81 hHeld ?_
              refine hTk 21 82 hHeld ?_
              refine wpAnyH_done (by kernel_rfl) (NoPanic.normal ?_) _
              clear hHeld
              have Q10 := hide (Q9.out.below (V' := w9.drew) (belowN (Below.refl _ _) 1))
              have th10 := hide (th9.out.below (w' := w9.drew) (belowN (Below.refl _ _) 1))
              obtain ⟨w10, hw10⟩ : ∃ W, w9.drew = W := ⟨_, rfl⟩
              rw [hw10] at Q10 th10 ⊢
              clear hw10 Q9 th9
              obtain ⟨b0, b1, b2, b3, b4, b5, b6, b7, b8, b9, b10⟩ := lt_at (bz_get Q10.out.x (k := ky) (o := ltR y.l) (by simp)).2
              obtain ⟨-, -, -, -, -, -, -, -, -, -, -, a11, a12, a13, -⟩ := acts_at (bz_get Q10.out.x (k := ka) (o := actsO y) (by simp)).2
              have hky := (bz_get Q10.out.x (k := ky) (o := ltR y.l) (by simp)).1
              have hka2 := (bz_get Q10.out.x (k := ka) (o := actsO y) (by simp)).1
              obtain ⟨c0, c1, c2, c3, c4, c5, c6, c7, c8⟩ := cf_at (bz_get Q10.out.x (k := kc) (o := cfR c) (by simp)).2
              have hkc2 := (bz_get Q10.out.x (k := kc) (o := cfR c) (by simp)).1
              have hjn2 : (jq : Int) < n := by have := hjn.out; omega
              have x3 : w10.cell? ⟨ky, 3, none⟩ = some (.int .i64 jq) := by rw [← hjq.out]; exact b3
              go_upto_region 15 with fail
              go_wp2_with fail
              refine wp_region_noPanic ?_
              refine wp_region_held_drew (S := (fun w' => w'.cell? ⟨ky, 3, none⟩ = some (.int .i64 jq) ∧ w'.cell? ⟨ky, 7, none⟩ = some (.int .i64 y.l.n))) (by kernel_rfl) ?_ (fun hHeld => ?_)
              · exact ⟨x3, b7⟩
              refine hTk 0 83 hHeld ?_
              refine hTk 1 84 hHeld ?_
              refine hTk 2 85 hHeld ?_
              refine hTk 3 86 hHeld ?_
              refine hTk 5 88 hHeld ?_
              refine hTk 6 89 hHeld ?_
              refine hTk 7 90 hHeld ?_
              have Q11 := hide (Q10.out.below (V' := w10.drew) (belowN (Below.refl _ _) 1))
              have th11 := hide (th10.out.below (w' := w10.drew) (belowN (Below.refl _ _) 1))
              obtain ⟨w11, hw11⟩ : ∃ W, w10.drew = W := ⟨_, rfl⟩
              rw [hw11] at hHeld Q11 th11 ⊢
              clear hw11 Q10 th10 x3
              clear b0 b1 b2 b3 b4 b5 b6 b7 b8 b9 b10 a11 a12 a13 hky hka2 c0 c1 c2 c3 c4 c5 c6 c7 c8 hkc2
              obtain ⟨b0, b1, b2, b3, b4, b5, b6, b7, b8, b9, b10⟩ := lt_at (bz_get Q11.out.x (k := ky) (o := ltR y.l) (by simp)).2
              obtain ⟨-, -, -, -, -, -, -, -, -, -, -, a11, a12, a13, -⟩ := acts_at (bz_get Q11.out.x (k := ka) (o := actsO y) (by simp)).2
              have hky := (bz_get Q11.out.x (k := ky) (o := ltR y.l) (by simp)).1
              have hka2 := (bz_get Q11.out.x (k := ka) (o := actsO y) (by simp)).1
              obtain ⟨c0, c1, c2, c3, c4, c5, c6, c7, c8⟩ := cf_at (bz_get Q11.out.x (k := kc) (o := cfR c) (by simp)).2
              have hkc2 := (bz_get Q11.out.x (k := kc) (o := cfR c) (by simp)).1
              have x3 : w11.cell? ⟨ky, 3, none⟩ = some (.int .i64 jq) := by rw [← hjq.out]; exact b3
              obtain ⟨o2, cap2, e2, -, hgl, q0, q1⟩ := th11.out.at1 hjn.out
              cases e2
              rw [hfq.out] at q0
              refine hNo 4 fun K hK => ?_
              go_simp
              refine hK.out _ _ ?_ fun hHeld => ?_
              · exact ⟨x3, b7⟩
              clear hK K
              try simp only [Act.put, za, zb, zc]
              refine hVl 8 91 (.int .i64 fs) hHeld (fun wz hSw => ?_) ?_
              · try dsimp only at hSw
                go_simp; first | done | rw [hws.out] | (have h9 := hws.out; unfold wrap64 at h9; rw [IntKind.wrap_i64]; omega)
              refine hTk 9 92 hHeld ?_
              have kg1 : ky ≠ g := by have := hgk.out; omega
              have kg2 : g ≠ ky := fun e => kg1 e.symm
              refine hNo 10 fun K hK => ?_
              go_simp
              refine hK.out _ _ ?_ fun hHeld => ?_
              · exact ⟨by simp [go_sem, *], by simp [go_sem, *]⟩
              clear hK K
              try simp only [Act.put, za, zb, zc]
              refine wpAnyH_done (by kernel_rfl) (NoPanic.normal ?_) _
              clear hHeld
              have th12 := hide ((th11.out.put hjn.out fs).alike (f' := fun x => cntH D x + cmH c y.l x) (fun i hi => hadd.out i))
              have hf12 : FrS (· = g) w11 (w11.setCell ⟨g, oT + jq, none⟩ (.int .i64 fs)) := wrK (FrS.refl _ _) _
              have Q12 := hide (Q11.out.frs hf12 (fun i e => by rw [e]; exact hgw.out.1) (fun b hb e => hgF.out (e ▸ hb)) (fun x hx e => by
                have h1 := hgk.out
                have h2 := hgw.out.2
                simp only [List.mem_cons, List.not_mem_nil, or_false] at hx
                rcases hx with rfl | rfl | rfl <;> (dsimp only at e; omega)))
              obtain ⟨w12, hw12⟩ : ∃ W, w11.setCell ⟨g, oT + jq, none⟩ (.int .i64 fs) = W := ⟨_, rfl⟩
              rw [hw12] at Q12 th12 ⊢
              clear hw12 Q11 th11 hf12 x3 q0 q1 kg1 kg2 hgl
              clear b0 b1 b2 b3 b4 b5 b6 b7 b8 b9 b10 a11 a12 a13 hky hka2 c0 c1 c2 c3 c4 c5 c6 c7 c8 hkc2
              obtain ⟨b0, b1, b2, b3, b4, b5, b6, b7, b8, b9, b10⟩ := lt_at (bz_get Q12.out.x (k := ky) (o := ltR y.l) (by simp)).2
              obtain ⟨-, -, -, -, -, -, -, -, -, -, -, a11, a12, a13, -⟩ := acts_at (bz_get Q12.out.x (k := ka) (o := actsO y) (by simp)).2
              have hky := (bz_get Q12.out.x (k := ky) (o := ltR y.l) (by simp)).1
              have hka2 := (bz_get Q12.out.x (k := ka) (o := actsO y) (by simp)).1
              obtain ⟨c0, c1, c2, c3, c4, c5, c6, c7, c8⟩ := cf_at (bz_get Q12.out.x (k := kc) (o := cfR c) (by simp)).2
              have hkc2 := (bz_get Q12.out.x (k := kc) (o := cfR c) (by simp)).1
              obtain ⟨L, hL⟩ : ∃ L, Hid (htL c D y.l y.d0 y.d1 = L) := ⟨_, rfl⟩
              obtain ⟨D2, hD2⟩ : ∃ L, Hid (nxHT c D y.l y.d0 y.d1 = L) := ⟨_, rfl⟩
              have hS := hs_take (d0 := y.d0) (d1 := y.d1) hok.out hHI.out hroom.out
              rw [hL.out, hD2.out] at hS
              obtain ⟨hHI2, hAG, hcnt⟩ := hS
              replace hHI2 := hide hHI2
              replace hAG := hide hAG
              replace hcnt := hide hcnt
              go_wp2_with fail
              go_at_call 13
              refine (hmTake_c p B F c N D y.l y.d0 y.d1 y.d2 _ Q12.out.a.n (hide (hT.out.lowH Q12.out.a.bel)) (hide (Q12.out.a.no0 hT.out)) (by have := hN6.out; omega) hyk.out L hL).mono ?_
              rintro e w16 ⟨v16, rfl, F16, g16, hO⟩
              rw [hD2.out] at hO
              obtain ⟨ao16, cap16, e16, -⟩ := _root_.id hO.own
              subst e16
              have Q16 := hide ((Q12.out.step hO.nd hO.st).sub (K' := [(kc, cfR c)]) (by simp))
              have vT16 := hide hO.own.view
              have hgL : Hid (g16 ≠ g) := hide (by have := hO.new; have := th12.out.lt; omega)
              have th16 := hide (th12.out.fr hO.st.fr hgF.out)
              have hgF2 := hide (hO.st.keep hgF.out th12.out.lt).2.1
              have hLm : L.length ≤ 9223372036854775807 := by
                obtain ⟨_, _, _, q1, q2, _⟩ := vT16.out
                unfold maxLen at q2
                omega
              clear hO Q12 th12
              clear b0 b1 b2 b3 b4 b5 b6 b7 b8 b9 b10 a11 a12 a13 hky hka2 c0 c1 c2 c3 c4 c5 c6 c7 c8 hkc2
              as_aux_lemma =>
                go_wp2_with fail
                go_loopw [99] (fun i wr => ∃ t : Nat, t ≤ L.length ∧ i = .int .i64 t ∧ Hoz w wr p B F16 c (N + 1) D2 [(kc, cfR c)] ∧ ViewT wr (.slice ao16 L.length cap16) g16 L ∧ ThIs wr (.slice (some ⟨g, oT, none⟩) n capT) g n (fun x => cntH D x + cmH c y.l x - smL (L.take t) x)) (fun i _ => L.length - (intOf i).toNat)
                case atStart => exact ⟨0, Nat.zero_le _, rfl, Q16.out, vT16.out, th16.out.alike (fun i _ => by rw [show L.take 0 = [] from rfl, smL_nil]; omega)⟩
                case round =>
                  clear Q16 vT16 th16
                  obtain ⟨t, ht, rfl, Q17, vT17, th17⟩ := hrel
                  replace Q17 := hide Q17
                  replace vT17 := hide vT17
                  replace th17 := hide th17
                  by_cases hlt : t < L.length
                  · have hlt' : (t : Int) < L.length := by omega
                    obtain ⟨o1, rfl, hgl, hra⟩ := lt_range vT17.out hlt
                    have hst := hide (smL_step L hlt)
                    obtain ⟨l, hl⟩ : ∃ l, L[t] = l := ⟨_, rfl⟩
                    have hgl2 := hide (hAG.out l (by rw [← hl]; exact List.getElem_mem hlt))
                    rw [hl] at hra hst
                    clear hl
                    go_upto_region 18 with fail
                    go_step
                    go_step
                    go_step
                    go_step
                    refine wpList_load_mid (by rfl) _ _ (by rfl) g16 (o1 + t * 11) (by rfl) (ltC l) _ hra Tryd.underlying34 (by rfl) (by exact infoLt) ?_
                    clear hra
                    go_step
                    go_step
                    go_step
                    refine wpList_store_new _ _ (by rfl) (by rfl) (by rfl) (by rfl) (by exact infoLt) (by rfl) (ltC_one l) ?_
                    obtain ⟨V9, hV9⟩ : ∃ V, wr.alloc (.cells (ltC l).toArray 34) = V := ⟨_, rfl⟩
                    have Q19 : Hid (Hoz w V9 p B F16 c (N + 1) D2 [(wr.heap.size, ltR l), (kc, cfR c)]) := by rw [← hV9]; exact hide (Q17.out.new (ltR l))
                    have vT19 : Hid (ViewT V9 (.slice (some ⟨g16, o1, none⟩) L.length cap16) g16 L) := by rw [← hV9]; exact hide (vT17.out.alloc _)
                    have th19 : Hid (ThIs V9 (.slice (some ⟨g, oT, none⟩) n capT) g n (fun x => cntH D x + cmH c y.l x - smL (L.take t) x)) := by rw [← hV9]; exact hide (th17.out.below ((Below.refl _ _).alloc (Nat.le_refl _) _))
                    have hgz0 := th17.out.lt
                    rw [hV9]
                    clear hV9 Q17 vT17 th17
                    obtain ⟨kz, hkz⟩ : ∃ k, Hid (wr.heap.size = k) := ⟨_, hide rfl⟩
                    rw [hkz.out] at Q19 hgz0
                    rw [hkz.out]
                    have hgz := hide hgz0
                    obtain ⟨ll, xl⟩ := bz_get Q19.out.x (k := kz) (o := ltR l) (by simp)
                    obtain ⟨l0, l1, l2, l3, l4, l5, l6, l7, l8, l9, l10⟩ := lt_at xl
                    obtain ⟨lc, xc⟩ := bz_get Q19.out.x (k := kc) (o := cfR c) (by simp)
                    obtain ⟨c0, c1, c2, c3, c4, c5, c6, c7, c8⟩ := cf_at xc
                    clear xl xc hgz0
                    have hz0 : Hid (letterZ c.n c.bl c.tt ⟨l.k, l.a, l.b, l.q, l.s, l.w, l.r, ⟨l.n, l.o, l.h, l.d⟩⟩ = 0) := hide hgl2.out.1
                    obtain ⟨m1, m2, m3⟩ := cmpT hgl2.out.2
                    obtain ⟨jz, hjz⟩ : ∃ jz : Nat, Hid (l.q = jz) := ⟨l.q.toNat, hide (by have := lerr_q hgl2.out.1; omega)⟩
                    have hjzn : Hid (jz < n) := hide (by have := lerr_q hgl2.out.1; have := hjz.out; have := hbl.out; omega)
                    go_upto_region 21 with (go_at_call 23; refine (refCheck_c c.n c.bl c.tt c.cs c.cy c.cc c.cu c.ct c.cp l.k l.a l.b l.q l.s l.w l.r l.n l.o l.h l.d _ 0 hz0).mono ?_; rintro e w20 ⟨rfl, hb7⟩; have Q20 := hide (Q19.out.below hb7); have vT20 := hide (vT19.out.below hb7); have th20 := hide (th19.out.below hb7); clear hb7 l0 l1 l2 l3 l4 l5 l6 l7 l8 l9 l10 c0 c1 c2 c3 c4 c5 c6 c7 c8 ll lc Q19 vT19 th19; obtain ⟨ll, xl⟩ := bz_get Q20.out.x (k := kz) (o := ltR l) (by simp); obtain ⟨l0, l1, l2, l3, l4, l5, l6, l7, l8, l9, l10⟩ := lt_at xl; obtain ⟨lc, xc⟩ := bz_get Q20.out.x (k := kc) (o := cfR c) (by simp); obtain ⟨c0, c1, c2, c3, c4, c5, c6, c7, c8⟩ := cf_at xc; clear xl xc)
                    clear c0 c1 c2 c3 c4 c5 c6 c7 c8 lc
                    obtain ⟨zq, hzq⟩ : ∃ x, Hid (cntH D jz + cmH c y.l jz - smL (L.take t) jz = x) := ⟨_, hide rfl⟩
                    obtain ⟨zs, hzs⟩ : ∃ x, Hid (zq - l.n = x) := ⟨_, hide rfl⟩
                    have hzw : Hid (wrap64 (zq - l.n) = zs) := hide (by
                      have a1 := hzq.out
                      have a2 := smL_take hAG.out t jz
                      have a3 := hcnt.out jz
                      have a7 := hok.out.t1
                      have a8 := gl_n hgl2.out
                      have a9 := (hHI.out.m.get (by have := hok.out.t0; have := hok.out.n0; omega) jz)
                      have a10 := (hHI2.out.m.get (by have := hok.out.t0; have := hok.out.n0; omega) jz)
                      have a11 := a9.1.1
                      have a12 := a10.1.1
                      have a13 := a9.2
                      have a14 := a10.2
                      have a15 := hzs.out
                      have a16 := hcm.out jz
                      unfold cntH at a1 a3
                      unfold wrap64
                      omega)
                    have hsub : Hid (∀ i : Nat, (if (i : Int) = jz then zs else cntH D i + cmH c y.l i - smL (L.take t) i) = cntH D i + cmH c y.l i - smL (L.take (t + 1)) i) := hide (fun i => by
                      rw [hst.out i, hjz.out]
                      by_cases e : (i : Int) = jz
                      · rw [if_pos e, if_pos e.symm, e]
                        have := hzq.out; have := hzs.out; omega
                      · rw [if_neg e, if_neg (fun q => e q.symm)]; omega)
                    have hjz2 : (jz : Int) < n := by have := hjzn.out; omega
                    have x3 : w20.cell? ⟨kz, 3, none⟩ = some (.int .i64 jz) := by rw [← hjz.out]; exact l3
                    have x7 := l7
                    go_upto_region 21 with fail
                    go_wp2_with fail
                    refine wp_region_noPanic ?_
                    refine wp_region_held_drew (S := (fun w' => w'.cell? ⟨kz, 3, none⟩ = some (.int .i64 jz) ∧ w'.cell? ⟨kz, 7, none⟩ = some (.int .i64 l.n))) (by kernel_rfl) ?_ (fun hHeld => ?_)
                    · exact ⟨x3, x7⟩
                    clear x3 x7 l0 l1 l2 l3 l4 l5 l6 l7 l8 l9 l10 ll
                    refine hTk 0 114 hHeld ?_
                    refine hTk 1 115 hHeld ?_
                    refine hTk 2 116 hHeld ?_
                    refine hTk 3 117 hHeld ?_
                    refine hTk 5 119 hHeld ?_
                    refine hTk 6 120 hHeld ?_
                    refine hTk 7 121 hHeld ?_
                    have Q21 := hide (Q20.out.below (V' := w20.drew) (belowN (Below.refl _ _) 1))
                    have th21 := hide (th20.out.below (w' := w20.drew) (belowN (Below.refl _ _) 1))
                    have vT21 := hide (vT20.out.below (w' := w20.drew) (belowN (Below.refl _ _) 1))
                    obtain ⟨w21, hw21⟩ : ∃ W, w20.drew = W := ⟨_, rfl⟩
                    rw [hw21] at hHeld Q21 th21 vT21 ⊢
                    clear hw21 Q20 th20 vT20
                    obtain ⟨ll, xl⟩ := bz_get Q21.out.x (k := kz) (o := ltR l) (by simp)
                    obtain ⟨-, -, -, l3, -, -, -, l7, -, -, -⟩ := lt_at xl
                    clear xl
                    have x3 : w21.cell? ⟨kz, 3, none⟩ = some (.int .i64 jz) := by rw [← hjz.out]; exact l3
                    obtain ⟨o2, cap2, e2, -, hgl, q0, q1⟩ := th21.out.at1 hjzn.out
                    cases e2
                    rw [hzq.out] at q0
                    refine hNo 4 fun K hK => ?_
                    go_simp
                    refine hK.out _ _ ?_ fun hHeld => ?_
                    · exact ⟨x3, l7⟩
                    clear hK K
                    try simp only [Act.put, za, zb, zc]
                    refine hVl 8 122 (.int .i64 zs) hHeld (fun wz hSw => ?_) ?_
                    · try dsimp only at hSw
                      go_simp; first | done | rw [hzw.out] | (have h9 := hzw.out; unfold wrap64 at h9; rw [IntKind.wrap_i64]; omega)
                    refine hTk 9 123 hHeld ?_
                    have kg1 : kz ≠ g := by have := hgz.out; omega
                    have kg2 : g ≠ kz := fun e => kg1 e.symm
                    refine hNo 10 fun K hK => ?_
                    go_simp
                    refine hK.out _ _ ?_ fun hHeld => ?_
                    · exact ⟨by simp [go_sem, *], by simp [go_sem, *]⟩
                    clear hK K
                    try simp only [Act.put, za, zb, zc]
                    refine wpAnyH_done (by kernel_rfl) (NoPanic.normal ?_) _
                    clear hHeld
                    have th22 := hide ((th21.out.put hjzn.out zs).alike (f' := fun x => cntH D x + cmH c y.l x - smL (L.take (t + 1)) x) (fun i hi => hsub.out i))
                    have hf22 : FrS (· = g) w21 (w21.setCell ⟨g, oT + jz, none⟩ (.int .i64 zs)) := wrK (FrS.refl _ _) _
                    have Q22 := hide (Q21.out.frs hf22 (fun i e => by rw [e]; exact hgw.out.1) (fun b hb e => hgF2.out (e ▸ hb)) (fun x hx e => by
                      have h1 := hgz.out
                      have h2 := hgw.out.2
                      simp only [List.mem_cons, List.not_mem_nil, or_false] at hx
                      rcases hx with rfl | rfl <;> (dsimp only at e; omega)))
                    have vT22 := hide (vT21.out.fr hf22 (fun _ e => hgL.out e))
                    obtain ⟨w22, hw22⟩ : ∃ W, w21.setCell ⟨g, oT + jz, none⟩ (.int .i64 zs) = W := ⟨_, rfl⟩
                    rw [hw22] at Q22 th22 vT22 ⊢
                    clear hw22 Q21 th21 vT21 hf22 x3 q0 q1 kg1 kg2 hgl l3 l7 ll
                    go_wp2_with fail
                    go_roundw
                    case rel => exact ⟨t + 1, by omega, by simp, Q22.out.sub (fun x hx => List.mem_cons_of_mem _ hx), vT22.out, th22.out⟩
                    case measure => simp [intOf]; omega
                  · obtain rfl : t = L.length := by omega
                    have th18 : Hid (ThIs wr (.slice (some ⟨g, oT, none⟩) n capT) g n (cntH D2)) := hide (th17.out.alike (fun i _ => by rw [hcnt.out i, List.take_length]))
                    clear th17 vT17 hlt
                    obtain ⟨lc, xc⟩ := bz_get Q17.out.x (k := kc) (o := cfR c) (by simp)
                    obtain ⟨c0, c1, c2, c3, c4, c5, c6, c7, c8⟩ := cf_at xc
                    have c1' : wr.cell? ⟨kc, 1, none⟩ = some (.int .i64 n) := by rw [hbl.out]; exact c1
                    clear c0 c1 c2 c3 c4 c5 c6 c7 c8 xc
                    have hn3 : Hid (D2.M.length = n) := hide (by have := hHI2.out.ml; have := hbl.out; omega)
                    have hn64 : (n : Int) ≤ 64 := by have := hbl.out; have := hok.out.b1; omega
                    go_wp2_with fail
                    go_at_call 18
                    refine (hmAll_c p B F16 c (N + 1) D2 _ Q17.out.a.n n hn3).mono ?_
                    rintro e w23 ⟨rfl, ho23, hb23⟩
                    have Q23 := hide (Q17.out.below hb23)
                    have th23 := hide (th18.out.below hb23)
                    obtain ⟨gA, hgA⟩ : ∃ k, Hid (wr.heap.size = k) := ⟨_, hide rfl⟩
                    rw [hgA.out] at ho23
                    rw [hgA.out]
                    have hA23 := hide ho23
                    replace c1' := keep_cell (hb23.block kc lc) c1'
                    have lc2 := Nat.lt_of_lt_of_le lc hb23.size
                    clear hb23 Q17 th18 ho23 lc
                    go_wp2_with fail
                    clear c1' lc2
                    go_loopw [134] (fun i wz => ∃ t : Nat, t ≤ n ∧ i = .int .i64 t ∧ Below w23.heap.size w23 wz) (fun i _ => n - (intOf i).toNat)
                    case atStart => exact ⟨0, Nat.zero_le _, rfl, Below.refl _ _⟩
                    case round =>
                      obtain ⟨t, ht, rfl, hbz⟩ := hrel
                      have Q24 := hide (Q23.out.below hbz)
                      have th24 := hide (th23.out.below hbz)
                      have hA24 := hide (hA23.out.below hbz)
                      have hbz' := hide hbz
                      clear hbz
                      by_cases hlt : t < n
                      · have hlt' : (t : Int) < n := by omega
                        obtain ⟨-, -, -, kk⟩ := view_atB hA24.out.view rfl
                        obtain ⟨oA, eA, hlA, k0, k1, k2, k3⟩ := kk t (by have := hn3.out; omega)
                        simp only [Option.some.injEq, Addr.mk.injEq, true_and, and_true] at eA
                        subst eA
                        obtain ⟨bb, hbb⟩ : ∃ x, D2.M[t]'(by have := hn3.out; omega) = x := ⟨_, rfl⟩
                        rw [hbb] at k0 k1 k2 k3
                        have hbn : bb.n = cntH D2 t := by unfold cntH; rw [getM_nat (by have := hn3.out; omega), hbb]
                        rw [hbn] at k0
                        obtain ⟨o2, cap2, e2, -, hgl, q0, q1⟩ := th24.out.at1 hlt
                        cases e2
                        obtain ⟨fn, hfn⟩ : ∃ x, Hid (cntH D2 t = x) := ⟨_, hide rfl⟩
                        rw [hfn.out] at q0 k0
                        simp only [Nat.zero_add] at k0 k1 k2 k3
                        clear kk hbb hbn q1
                        go_upto_region 29 with fail
                        refine name_world ?_
                        intro W29 hW29
                        have hb29 : Hid (Below wr.heap.size wr W29) := by rw [← hW29]; exact hide (by all_goals exact belEnd)
                        have z0 : W29.cell? ⟨wr.heap.size, 0, none⟩ = some (.int .i64 fn) := by rw [← hW29]; simp [go_sem]
                        have y0 : W29.cell? ⟨g, oT + t, none⟩ = some (.int .i64 fn) := keep_cell (hb29.out.block g hgl) q0
                        clear hW29 k0 k1 k2 k3 q0
                        go_wp2_with fail
                        refine wp_region_noPanic ?_
                        refine wp_region_held_drew (S := (fun w' => w'.cell? ⟨wr.heap.size, 0, none⟩ = some (.int .i64 fn) ∧ w'.cell? ⟨g, oT + t, none⟩ = some (.int .i64 fn))) (by kernel_rfl) ?_ (fun hHeld => ?_)
                        · exact ⟨z0, y0⟩
                        refine hTk 0 139 hHeld ?_
                        refine hTk 1 140 hHeld ?_
                        refine hTk 2 141 hHeld ?_
                        refine hTk 3 142 hHeld ?_
                        refine hTk 4 143 hHeld ?_
                        refine hTk 5 144 hHeld ?_
                        refine hVl 6 145 (.bool false) hHeld (fun wz hSw => ?_) ?_
                        · try dsimp only at hSw
                          go_simp
                        refine wpAnyH_done (by kernel_rfl) (NoPanic.normal ?_) _
                        clear hHeld
                        go_wp2_with fail
                        go_roundw
                        case rel => exact ⟨t + 1, by omega, by simp, belowN (hbz'.out.trans (hb29.out.mono hbz'.out.size)) _⟩
                        case measure => simp [intOf]; omega
                      · obtain rfl : t = n := by omega
                        go_wp2_with fail
                        go_roundw
                        case rel => exact ⟨j + 1, F16, N + 1, D2, by simp, by omega, by have := hN.out; omega, hHI2.out, hgF2.out, Q24.out, th24.out⟩
                        case measure => simp [intOf]; omega
          · have hroom : Hid (htOk c y.l = true → y.l.k = 1 → cntH D y.l.q + y.l.n ≤ c.tt) := hide (fun e => absurd e hto)
            have hcz : Hid (∀ i : Nat, cntH D i = cntH D i + cmH c y.l i) := hide (fun i => by unfold cmH; rw [if_neg (fun e => hto e.1)]; omega)
            by_cases ez : z = 0
            · have eb : ¬ y.l.b = c.n := fun e => hto (by unfold htOk; rw [show lerr c y.l = 0 from hz.out.trans ez]; simp [e])
              obtain ⟨z1, z2, z3⟩ := cmpT ez
              obtain ⟨f1, f2, f3⟩ := cmpF eb
              replace ez := hide ez
              replace eb := hide eb
              replace hto := hide hto
              go_upto_region 16 with (go_at_call 23; refine (refCheck_c c.n c.bl c.tt c.cs c.cy c.cc c.cu c.ct c.cp y.l.k y.l.a y.l.b y.l.q y.l.s y.l.w y.l.r y.l.n y.l.o y.l.h y.l.d _ z hz).mono ?_; rintro e w9 ⟨rfl, hb9⟩; have Q9 := hide (Q8.out.below hb9); have th9 := hide (th8.out.below hb9); clear hb9 Q8 th8; clear b0 b1 b2 b3 b4 b5 b6 b7 b8 b9 b10 a11 a12 a13 hky hka2 c0 c1 c2 c3 c4 c5 c6 c7 c8 hkc2; obtain ⟨b0, b1, b2, b3, b4, b5, b6, b7, b8, b9, b10⟩ := lt_at (bz_get Q9.out.x (k := ky) (o := ltR y.l) (by simp)).2; obtain ⟨-, -, -, -, -, -, -, -, -, -, -, a11, a12, a13, -⟩ := acts_at (bz_get Q9.out.x (k := ka) (o := actsO y) (by simp)).2; have hky := (bz_get Q9.out.x (k := ky) (o := ltR y.l) (by simp)).1; have hka2 := (bz_get Q9.out.x (k := ka) (o := actsO y) (by simp)).1; obtain ⟨c0, c1, c2, c3, c4, c5, c6, c7, c8⟩ := cf_at (bz_get Q9.out.x (k := kc) (o := cfR c) (by simp)).2; have hkc2 := (bz_get Q9.out.x (k := kc) (o := cfR c) (by simp)).1)
              have th12 := hide (th9.out.alike (f' := fun x => cntH D x + cmH c y.l x) (fun i _ => hcz.out i))
              clear th9
              obtain ⟨L, hL⟩ : ∃ L, Hid (htL c D y.l y.d0 y.d1 = L) := ⟨_, rfl⟩
              obtain ⟨D2, hD2⟩ : ∃ L, Hid (nxHT c D y.l y.d0 y.d1 = L) := ⟨_, rfl⟩
              have hS := hs_take (d0 := y.d0) (d1 := y.d1) hok.out hHI.out hroom.out
              rw [hL.out, hD2.out] at hS
              obtain ⟨hHI2, hAG, hcnt⟩ := hS
              replace hHI2 := hide hHI2
              replace hAG := hide hAG
              replace hcnt := hide hcnt
              go_wp2_with fail
              go_at_call 13
              refine (hmTake_c p B F c N D y.l y.d0 y.d1 y.d2 _ Q9.out.a.n (hide (hT.out.lowH Q9.out.a.bel)) (hide (Q9.out.a.no0 hT.out)) (by have := hN6.out; omega) hyk.out L hL).mono ?_
              rintro e w16 ⟨v16, rfl, F16, g16, hO⟩
              rw [hD2.out] at hO
              obtain ⟨ao16, cap16, e16, -⟩ := _root_.id hO.own
              subst e16
              have Q16 := hide ((Q9.out.step hO.nd hO.st).sub (K' := [(kc, cfR c)]) (by simp))
              have vT16 := hide hO.own.view
              have hgL : Hid (g16 ≠ g) := hide (by have := hO.new; have := th12.out.lt; omega)
              have th16 := hide (th12.out.fr hO.st.fr hgF.out)
              have hgF2 := hide (hO.st.keep hgF.out th12.out.lt).2.1
              have hLm : L.length ≤ 9223372036854775807 := by
                obtain ⟨_, _, _, q1, q2, _⟩ := vT16.out
                unfold maxLen at q2
                omega
              clear hO Q9 th12
              clear b0 b1 b2 b3 b4 b5 b6 b7 b8 b9 b10 a11 a12 a13 hky hka2 c0 c1 c2 c3 c4 c5 c6 c7 c8 hkc2
              as_aux_lemma =>
                go_wp2_with fail
                go_loopw [99] (fun i wr => ∃ t : Nat, t ≤ L.length ∧ i = .int .i64 t ∧ Hoz w wr p B F16 c (N + 1) D2 [(kc, cfR c)] ∧ ViewT wr (.slice ao16 L.length cap16) g16 L ∧ ThIs wr (.slice (some ⟨g, oT, none⟩) n capT) g n (fun x => cntH D x + cmH c y.l x - smL (L.take t) x)) (fun i _ => L.length - (intOf i).toNat)
                case atStart => exact ⟨0, Nat.zero_le _, rfl, Q16.out, vT16.out, th16.out.alike (fun i _ => by rw [show L.take 0 = [] from rfl, smL_nil]; omega)⟩
                case round =>
                  clear Q16 vT16 th16
                  obtain ⟨t, ht, rfl, Q17, vT17, th17⟩ := hrel
                  replace Q17 := hide Q17
                  replace vT17 := hide vT17
                  replace th17 := hide th17
                  by_cases hlt : t < L.length
                  · have hlt' : (t : Int) < L.length := by omega
                    obtain ⟨o1, rfl, hgl, hra⟩ := lt_range vT17.out hlt
                    have hst := hide (smL_step L hlt)
                    obtain ⟨l, hl⟩ : ∃ l, L[t] = l := ⟨_, rfl⟩
                    have hgl2 := hide (hAG.out l (by rw [← hl]; exact List.getElem_mem hlt))
                    rw [hl] at hra hst
                    clear hl
                    go_upto_region 18 with fail
                    go_step
                    go_step
                    go_step
                    go_step
                    refine wpList_load_mid (by rfl) _ _ (by rfl) g16 (o1 + t * 11) (by rfl) (ltC l) _ hra Tryd.underlying34 (by rfl) (by exact infoLt) ?_
                    clear hra
                    go_step
                    go_step
                    go_step
                    refine wpList_store_new _ _ (by rfl) (by rfl) (by rfl) (by rfl) (by exact infoLt) (by rfl) (ltC_one l) ?_
                    obtain ⟨V9, hV9⟩ : ∃ V, wr.alloc (.cells (ltC l).toArray 34) = V := ⟨_, rfl⟩
                    have Q19 : Hid (Hoz w V9 p B F16 c (N + 1) D2 [(wr.heap.size, ltR l), (kc, cfR c)]) := by rw [← hV9]; exact hide (Q17.out.new (ltR l))
                    have vT19 : Hid (ViewT V9 (.slice (some ⟨g16, o1, none⟩) L.length cap16) g16 L) := by rw [← hV9]; exact hide (vT17.out.alloc _)
                    have th19 : Hid (ThIs V9 (.slice (some ⟨g, oT, none⟩) n capT) g n (fun x => cntH D x + cmH c y.l x - smL (L.take t) x)) := by rw [← hV9]; exact hide (th17.out.below ((Below.refl _ _).alloc (Nat.le_refl _) _))
                    have hgz0 := th17.out.lt
                    rw [hV9]
                    clear hV9 Q17 vT17 th17
                    obtain ⟨kz, hkz⟩ : ∃ k, Hid (wr.heap.size = k) := ⟨_, hide rfl⟩
                    rw [hkz.out] at Q19 hgz0
                    rw [hkz.out]
                    have hgz := hide hgz0
                    obtain ⟨ll, xl⟩ := bz_get Q19.out.x (k := kz) (o := ltR l) (by simp)
                    obtain ⟨l0, l1, l2, l3, l4, l5, l6, l7, l8, l9, l10⟩ := lt_at xl
                    obtain ⟨lc, xc⟩ := bz_get Q19.out.x (k := kc) (o := cfR c) (by simp)
                    obtain ⟨c0, c1, c2, c3, c4, c5, c6, c7, c8⟩ := cf_at xc
                    clear xl xc hgz0
                    have hz0 : Hid (letterZ c.n c.bl c.tt ⟨l.k, l.a, l.b, l.q, l.s, l.w, l.r, ⟨l.n, l.o, l.h, l.d⟩⟩ = 0) := hide hgl2.out.1
                    obtain ⟨m1, m2, m3⟩ := cmpT hgl2.out.2
                    obtain ⟨jz, hjz⟩ : ∃ jz : Nat, Hid (l.q = jz) := ⟨l.q.toNat, hide (by have := lerr_q hgl2.out.1; omega)⟩
                    have hjzn : Hid (jz < n) := hide (by have := lerr_q hgl2.out.1; have := hjz.out; have := hbl.out; omega)
                    go_upto_region 21 with (go_at_call 23; refine (refCheck_c c.n c.bl c.tt c.cs c.cy c.cc c.cu c.ct c.cp l.k l.a l.b l.q l.s l.w l.r l.n l.o l.h l.d _ 0 hz0).mono ?_; rintro e w20 ⟨rfl, hb7⟩; have Q20 := hide (Q19.out.below hb7); have vT20 := hide (vT19.out.below hb7); have th20 := hide (th19.out.below hb7); clear hb7 l0 l1 l2 l3 l4 l5 l6 l7 l8 l9 l10 c0 c1 c2 c3 c4 c5 c6 c7 c8 ll lc Q19 vT19 th19; obtain ⟨ll, xl⟩ := bz_get Q20.out.x (k := kz) (o := ltR l) (by simp); obtain ⟨l0, l1, l2, l3, l4, l5, l6, l7, l8, l9, l10⟩ := lt_at xl; obtain ⟨lc, xc⟩ := bz_get Q20.out.x (k := kc) (o := cfR c) (by simp); obtain ⟨c0, c1, c2, c3, c4, c5, c6, c7, c8⟩ := cf_at xc; clear xl xc)
                    clear c0 c1 c2 c3 c4 c5 c6 c7 c8 lc
                    obtain ⟨zq, hzq⟩ : ∃ x, Hid (cntH D jz + cmH c y.l jz - smL (L.take t) jz = x) := ⟨_, hide rfl⟩
                    obtain ⟨zs, hzs⟩ : ∃ x, Hid (zq - l.n = x) := ⟨_, hide rfl⟩
                    have hzw : Hid (wrap64 (zq - l.n) = zs) := hide (by
                      have a1 := hzq.out
                      have a2 := smL_take hAG.out t jz
                      have a3 := hcnt.out jz
                      have a7 := hok.out.t1
                      have a8 := gl_n hgl2.out
                      have a9 := (hHI.out.m.get (by have := hok.out.t0; have := hok.out.n0; omega) jz)
                      have a10 := (hHI2.out.m.get (by have := hok.out.t0; have := hok.out.n0; omega) jz)
                      have a11 := a9.1.1
                      have a12 := a10.1.1
                      have a13 := a9.2
                      have a14 := a10.2
                      have a15 := hzs.out
                      have a16 := hcm.out jz
                      unfold cntH at a1 a3
                      unfold wrap64
                      omega)
                    have hsub : Hid (∀ i : Nat, (if (i : Int) = jz then zs else cntH D i + cmH c y.l i - smL (L.take t) i) = cntH D i + cmH c y.l i - smL (L.take (t + 1)) i) := hide (fun i => by
                      rw [hst.out i, hjz.out]
                      by_cases e : (i : Int) = jz
                      · rw [if_pos e, if_pos e.symm, e]
                        have := hzq.out; have := hzs.out; omega
                      · rw [if_neg e, if_neg (fun q => e q.symm)]; omega)
                    have hjz2 : (jz : Int) < n := by have := hjzn.out; omega
                    have x3 : w20.cell? ⟨kz, 3, none⟩ = some (.int .i64 jz) := by rw [← hjz.out]; exact l3
                    have x7 := l7
                    go_upto_region 21 with fail
                    go_wp2_with fail
                    refine wp_region_noPanic ?_
                    refine wp_region_held_drew (S := (fun w' => w'.cell? ⟨kz, 3, none⟩ = some (.int .i64 jz) ∧ w'.cell? ⟨kz, 7, none⟩ = some (.int .i64 l.n))) (by kernel_rfl) ?_ (fun hHeld => ?_)
                    · exact ⟨x3, x7⟩
                    clear x3 x7 l0 l1 l2 l3 l4 l5 l6 l7 l8 l9 l10 ll
                    refine hTk 0 114 hHeld ?_
                    refine hTk 1 115 hHeld ?_
                    refine hTk 2 116 hHeld ?_
                    refine hTk 3 117 hHeld ?_
                    refine hTk 5 119 hHeld ?_
                    refine hTk 6 120 hHeld ?_
                    refine hTk 7 121 hHeld ?_
                    have Q21 := hide (Q20.out.below (V' := w20.drew) (belowN (Below.refl _ _) 1))
                    have th21 := hide (th20.out.below (w' := w20.drew) (belowN (Below.refl _ _) 1))
                    have vT21 := hide (vT20.out.below (w' := w20.drew) (belowN (Below.refl _ _) 1))
                    obtain ⟨w21, hw21⟩ : ∃ W, w20.drew = W := ⟨_, rfl⟩
                    rw [hw21] at hHeld Q21 th21 vT21 ⊢
                    clear hw21 Q20 th20 vT20
                    obtain ⟨ll, xl⟩ := bz_get Q21.out.x (k := kz) (o := ltR l) (by simp)
                    obtain ⟨-, -, -, l3, -, -, -, l7, -, -, -⟩ := lt_at xl
                    clear xl
                    have x3 : w21.cell? ⟨kz, 3, none⟩ = some (.int .i64 jz) := by rw [← hjz.out]; exact l3
                    obtain ⟨o2, cap2, e2, -, hgl, q0, q1⟩ := th21.out.at1 hjzn.out
                    cases e2
                    rw [hzq.out] at q0
                    refine hNo 4 fun K hK => ?_
                    go_simp
                    refine hK.out _ _ ?_ fun hHeld => ?_
                    · exact ⟨x3, l7⟩
                    clear hK K
                    try simp only [Act.put, za, zb, zc]
                    refine hVl 8 122 (.int .i64 zs) hHeld (fun wz hSw => ?_) ?_
                    · try dsimp only at hSw
                      go_simp; first | done | rw [hzw.out] | (have h9 := hzw.out; unfold wrap64 at h9; rw [IntKind.wrap_i64]; omega)
                    refine hTk 9 123 hHeld ?_
                    have kg1 : kz ≠ g := by have := hgz.out; omega
                    have kg2 : g ≠ kz := fun e => kg1 e.symm
                    refine hNo 10 fun K hK => ?_
                    go_simp
                    refine hK.out _ _ ?_ fun hHeld => ?_
                    · exact ⟨by simp [go_sem, *], by simp [go_sem, *]⟩
                    clear hK K
                    try simp only [Act.put, za, zb, zc]
                    refine wpAnyH_done (by kernel_rfl) (NoPanic.normal ?_) _
                    clear hHeld
                    have th22 := hide ((th21.out.put hjzn.out zs).alike (f' := fun x => cntH D x + cmH c y.l x - smL (L.take (t + 1)) x) (fun i hi => hsub.out i))
                    have hf22 : FrS (· = g) w21 (w21.setCell ⟨g, oT + jz, none⟩ (.int .i64 zs)) := wrK (FrS.refl _ _) _
                    have Q22 := hide (Q21.out.frs hf22 (fun i e => by rw [e]; exact hgw.out.1) (fun b hb e => hgF2.out (e ▸ hb)) (fun x hx e => by
                      have h1 := hgz.out
                      have h2 := hgw.out.2
                      simp only [List.mem_cons, List.not_mem_nil, or_false] at hx
                      rcases hx with rfl | rfl <;> (dsimp only at e; omega)))
                    have vT22 := hide (vT21.out.fr hf22 (fun _ e => hgL.out e))
                    obtain ⟨w22, hw22⟩ : ∃ W, w21.setCell ⟨g, oT + jz, none⟩ (.int .i64 zs) = W := ⟨_, rfl⟩
                    rw [hw22] at Q22 th22 vT22 ⊢
                    clear hw22 Q21 th21 vT21 hf22 x3 q0 q1 kg1 kg2 hgl l3 l7 ll
                    go_wp2_with fail
                    go_roundw
                    case rel => exact ⟨t + 1, by omega, by simp, Q22.out.sub (fun x hx => List.mem_cons_of_mem _ hx), vT22.out, th22.out⟩
                    case measure => simp [intOf]; omega
                  · obtain rfl : t = L.length := by omega
                    have th18 : Hid (ThIs wr (.slice (some ⟨g, oT, none⟩) n capT) g n (cntH D2)) := hide (th17.out.alike (fun i _ => by rw [hcnt.out i, List.take_length]))
                    clear th17 vT17 hlt
                    obtain ⟨lc, xc⟩ := bz_get Q17.out.x (k := kc) (o := cfR c) (by simp)
                    obtain ⟨c0, c1, c2, c3, c4, c5, c6, c7, c8⟩ := cf_at xc
                    have c1' : wr.cell? ⟨kc, 1, none⟩ = some (.int .i64 n) := by rw [hbl.out]; exact c1
                    clear c0 c1 c2 c3 c4 c5 c6 c7 c8 xc
                    have hn3 : Hid (D2.M.length = n) := hide (by have := hHI2.out.ml; have := hbl.out; omega)
                    have hn64 : (n : Int) ≤ 64 := by have := hbl.out; have := hok.out.b1; omega
                    go_wp2_with fail
                    go_at_call 18
                    refine (hmAll_c p B F16 c (N + 1) D2 _ Q17.out.a.n n hn3).mono ?_
                    rintro e w23 ⟨rfl, ho23, hb23⟩
                    have Q23 := hide (Q17.out.below hb23)
                    have th23 := hide (th18.out.below hb23)
                    obtain ⟨gA, hgA⟩ : ∃ k, Hid (wr.heap.size = k) := ⟨_, hide rfl⟩
                    rw [hgA.out] at ho23
                    rw [hgA.out]
                    have hA23 := hide ho23
                    replace c1' := keep_cell (hb23.block kc lc) c1'
                    have lc2 := Nat.lt_of_lt_of_le lc hb23.size
                    clear hb23 Q17 th18 ho23 lc
                    go_wp2_with fail
                    clear c1' lc2
                    go_loopw [134] (fun i wz => ∃ t : Nat, t ≤ n ∧ i = .int .i64 t ∧ Below w23.heap.size w23 wz) (fun i _ => n - (intOf i).toNat)
                    case atStart => exact ⟨0, Nat.zero_le _, rfl, Below.refl _ _⟩
                    case round =>
                      obtain ⟨t, ht, rfl, hbz⟩ := hrel
                      have Q24 := hide (Q23.out.below hbz)
                      have th24 := hide (th23.out.below hbz)
                      have hA24 := hide (hA23.out.below hbz)
                      have hbz' := hide hbz
                      clear hbz
                      by_cases hlt : t < n
                      · have hlt' : (t : Int) < n := by omega
                        obtain ⟨-, -, -, kk⟩ := view_atB hA24.out.view rfl
                        obtain ⟨oA, eA, hlA, k0, k1, k2, k3⟩ := kk t (by have := hn3.out; omega)
                        simp only [Option.some.injEq, Addr.mk.injEq, true_and, and_true] at eA
                        subst eA
                        obtain ⟨bb, hbb⟩ : ∃ x, D2.M[t]'(by have := hn3.out; omega) = x := ⟨_, rfl⟩
                        rw [hbb] at k0 k1 k2 k3
                        have hbn : bb.n = cntH D2 t := by unfold cntH; rw [getM_nat (by have := hn3.out; omega), hbb]
                        rw [hbn] at k0
                        obtain ⟨o2, cap2, e2, -, hgl, q0, q1⟩ := th24.out.at1 hlt
                        cases e2
                        obtain ⟨fn, hfn⟩ : ∃ x, Hid (cntH D2 t = x) := ⟨_, hide rfl⟩
                        rw [hfn.out] at q0 k0
                        simp only [Nat.zero_add] at k0 k1 k2 k3
                        clear kk hbb hbn q1
                        go_upto_region 29 with fail
                        refine name_world ?_
                        intro W29 hW29
                        have hb29 : Hid (Below wr.heap.size wr W29) := by rw [← hW29]; exact hide (by all_goals exact belEnd)
                        have z0 : W29.cell? ⟨wr.heap.size, 0, none⟩ = some (.int .i64 fn) := by rw [← hW29]; simp [go_sem]
                        have y0 : W29.cell? ⟨g, oT + t, none⟩ = some (.int .i64 fn) := keep_cell (hb29.out.block g hgl) q0
                        clear hW29 k0 k1 k2 k3 q0
                        go_wp2_with fail
                        refine wp_region_noPanic ?_
                        refine wp_region_held_drew (S := (fun w' => w'.cell? ⟨wr.heap.size, 0, none⟩ = some (.int .i64 fn) ∧ w'.cell? ⟨g, oT + t, none⟩ = some (.int .i64 fn))) (by kernel_rfl) ?_ (fun hHeld => ?_)
                        · exact ⟨z0, y0⟩
                        refine hTk 0 139 hHeld ?_
                        refine hTk 1 140 hHeld ?_
                        refine hTk 2 141 hHeld ?_
                        refine hTk 3 142 hHeld ?_
                        refine hTk 4 143 hHeld ?_
                        refine hTk 5 144 hHeld ?_
                        refine hVl 6 145 (.bool false) hHeld (fun wz hSw => ?_) ?_
                        · try dsimp only at hSw
                          go_simp
                        refine wpAnyH_done (by kernel_rfl) (NoPanic.normal ?_) _
                        clear hHeld
                        go_wp2_with fail
                        go_roundw
                        case rel => exact ⟨t + 1, by omega, by simp, belowN (hbz'.out.trans (hb29.out.mono hbz'.out.size)) _⟩
                        case measure => simp [intOf]; omega
                      · obtain rfl : t = n := by omega
                        go_wp2_with fail
                        go_roundw
                        case rel => exact ⟨j + 1, F16, N + 1, D2, by simp, by omega, by have := hN.out; omega, hHI2.out, hgF2.out, Q24.out, th24.out⟩
                        case measure => simp [intOf]; omega
            · obtain ⟨z1, z2, z3⟩ := cmpF ez
              replace ez := hide ez
              replace hto := hide hto
              go_upto_region 16 with (go_at_call 23; refine (refCheck_c c.n c.bl c.tt c.cs c.cy c.cc c.cu c.ct c.cp y.l.k y.l.a y.l.b y.l.q y.l.s y.l.w y.l.r y.l.n y.l.o y.l.h y.l.d _ z hz).mono ?_; rintro e w9 ⟨rfl, hb9⟩; have Q9 := hide (Q8.out.below hb9); have th9 := hide (th8.out.below hb9); clear hb9 Q8 th8; clear b0 b1 b2 b3 b4 b5 b6 b7 b8 b9 b10 a11 a12 a13 hky hka2 c0 c1 c2 c3 c4 c5 c6 c7 c8 hkc2; obtain ⟨b0, b1, b2, b3, b4, b5, b6, b7, b8, b9, b10⟩ := lt_at (bz_get Q9.out.x (k := ky) (o := ltR y.l) (by simp)).2; obtain ⟨-, -, -, -, -, -, -, -, -, -, -, a11, a12, a13, -⟩ := acts_at (bz_get Q9.out.x (k := ka) (o := actsO y) (by simp)).2; have hky := (bz_get Q9.out.x (k := ky) (o := ltR y.l) (by simp)).1; have hka2 := (bz_get Q9.out.x (k := ka) (o := actsO y) (by simp)).1; obtain ⟨c0, c1, c2, c3, c4, c5, c6, c7, c8⟩ := cf_at (bz_get Q9.out.x (k := kc) (o := cfR c) (by simp)).2; have hkc2 := (bz_get Q9.out.x (k := kc) (o := cfR c) (by simp)).1)
              have th12 := hide (th9.out.alike (f' := fun x => cntH D x + cmH c y.l x) (fun i _ => hcz.out i))
              clear th9
              obtain ⟨L, hL⟩ : ∃ L, Hid (htL c D y.l y.d0 y.d1 = L) := ⟨_, rfl⟩
              obtain ⟨D2, hD2⟩ : ∃ L, Hid (nxHT c D y.l y.d0 y.d1 = L) := ⟨_, rfl⟩
              have hS := hs_take (d0 := y.d0) (d1 := y.d1) hok.out hHI.out hroom.out
              rw [hL.out, hD2.out] at hS
              obtain ⟨hHI2, hAG, hcnt⟩ := hS
              replace hHI2 := hide hHI2
              replace hAG := hide hAG
              replace hcnt := hide hcnt
              go_wp2_with fail
              go_at_call 13
              refine (hmTake_c p B F c N D y.l y.d0 y.d1 y.d2 _ Q9.out.a.n (hide (hT.out.lowH Q9.out.a.bel)) (hide (Q9.out.a.no0 hT.out)) (by have := hN6.out; omega) hyk.out L hL).mono ?_
              rintro e w16 ⟨v16, rfl, F16, g16, hO⟩
              rw [hD2.out] at hO
              obtain ⟨ao16, cap16, e16, -⟩ := _root_.id hO.own
              subst e16
              have Q16 := hide ((Q9.out.step hO.nd hO.st).sub (K' := [(kc, cfR c)]) (by simp))
              have vT16 := hide hO.own.view
              have hgL : Hid (g16 ≠ g) := hide (by have := hO.new; have := th12.out.lt; omega)
              have th16 := hide (th12.out.fr hO.st.fr hgF.out)
              have hgF2 := hide (hO.st.keep hgF.out th12.out.lt).2.1
              have hLm : L.length ≤ 9223372036854775807 := by
                obtain ⟨_, _, _, q1, q2, _⟩ := vT16.out
                unfold maxLen at q2
                omega
              clear hO Q9 th12
              clear b0 b1 b2 b3 b4 b5 b6 b7 b8 b9 b10 a11 a12 a13 hky hka2 c0 c1 c2 c3 c4 c5 c6 c7 c8 hkc2
              as_aux_lemma =>
                go_wp2_with fail
                go_loopw [99] (fun i wr => ∃ t : Nat, t ≤ L.length ∧ i = .int .i64 t ∧ Hoz w wr p B F16 c (N + 1) D2 [(kc, cfR c)] ∧ ViewT wr (.slice ao16 L.length cap16) g16 L ∧ ThIs wr (.slice (some ⟨g, oT, none⟩) n capT) g n (fun x => cntH D x + cmH c y.l x - smL (L.take t) x)) (fun i _ => L.length - (intOf i).toNat)
                case atStart => exact ⟨0, Nat.zero_le _, rfl, Q16.out, vT16.out, th16.out.alike (fun i _ => by rw [show L.take 0 = [] from rfl, smL_nil]; omega)⟩
                case round =>
                  clear Q16 vT16 th16
                  obtain ⟨t, ht, rfl, Q17, vT17, th17⟩ := hrel
                  replace Q17 := hide Q17
                  replace vT17 := hide vT17
                  replace th17 := hide th17
                  by_cases hlt : t < L.length
                  · have hlt' : (t : Int) < L.length := by omega
                    obtain ⟨o1, rfl, hgl, hra⟩ := lt_range vT17.out hlt
                    have hst := hide (smL_step L hlt)
                    obtain ⟨l, hl⟩ : ∃ l, L[t] = l := ⟨_, rfl⟩
                    have hgl2 := hide (hAG.out l (by rw [← hl]; exact List.getElem_mem hlt))
                    rw [hl] at hra hst
                    clear hl
                    go_upto_region 18 with fail
                    go_step
                    go_step
                    go_step
                    go_step
                    refine wpList_load_mid (by rfl) _ _ (by rfl) g16 (o1 + t * 11) (by rfl) (ltC l) _ hra Tryd.underlying34 (by rfl) (by exact infoLt) ?_
                    clear hra
                    go_step
                    go_step
                    go_step
                    refine wpList_store_new _ _ (by rfl) (by rfl) (by rfl) (by rfl) (by exact infoLt) (by rfl) (ltC_one l) ?_
                    obtain ⟨V9, hV9⟩ : ∃ V, wr.alloc (.cells (ltC l).toArray 34) = V := ⟨_, rfl⟩
                    have Q19 : Hid (Hoz w V9 p B F16 c (N + 1) D2 [(wr.heap.size, ltR l), (kc, cfR c)]) := by rw [← hV9]; exact hide (Q17.out.new (ltR l))
                    have vT19 : Hid (ViewT V9 (.slice (some ⟨g16, o1, none⟩) L.length cap16) g16 L) := by rw [← hV9]; exact hide (vT17.out.alloc _)
                    have th19 : Hid (ThIs V9 (.slice (some ⟨g, oT, none⟩) n capT) g n (fun x => cntH D x + cmH c y.l x - smL (L.take t) x)) := by rw [← hV9]; exact hide (th17.out.below ((Below.refl _ _).alloc (Nat.le_refl _) _))
                    have hgz0 := th17.out.lt
                    rw [hV9]
                    clear hV9 Q17 vT17 th17
                    obtain ⟨kz, hkz⟩ : ∃ k, Hid (wr.heap.size = k) := ⟨_, hide rfl⟩
                    rw [hkz.out] at Q19 hgz0
                    rw [hkz.out]
                    have hgz := hide hgz0
                    obtain ⟨ll, xl⟩ := bz_get Q19.out.x (k := kz) (o := ltR l) (by simp)
                    obtain ⟨l0, l1, l2, l3, l4, l5, l6, l7, l8, l9, l10⟩ := lt_at xl
                    obtain ⟨lc, xc⟩ := bz_get Q19.out.x (k := kc) (o := cfR c) (by simp)
                    obtain ⟨c0, c1, c2, c3, c4, c5, c6, c7, c8⟩ := cf_at xc
                    clear xl xc hgz0
                    have hz0 : Hid (letterZ c.n c.bl c.tt ⟨l.k, l.a, l.b, l.q, l.s, l.w, l.r, ⟨l.n, l.o, l.h, l.d⟩⟩ = 0) := hide hgl2.out.1
                    obtain ⟨m1, m2, m3⟩ := cmpT hgl2.out.2
                    obtain ⟨jz, hjz⟩ : ∃ jz : Nat, Hid (l.q = jz) := ⟨l.q.toNat, hide (by have := lerr_q hgl2.out.1; omega)⟩
                    have hjzn : Hid (jz < n) := hide (by have := lerr_q hgl2.out.1; have := hjz.out; have := hbl.out; omega)
                    go_upto_region 21 with (go_at_call 23; refine (refCheck_c c.n c.bl c.tt c.cs c.cy c.cc c.cu c.ct c.cp l.k l.a l.b l.q l.s l.w l.r l.n l.o l.h l.d _ 0 hz0).mono ?_; rintro e w20 ⟨rfl, hb7⟩; have Q20 := hide (Q19.out.below hb7); have vT20 := hide (vT19.out.below hb7); have th20 := hide (th19.out.below hb7); clear hb7 l0 l1 l2 l3 l4 l5 l6 l7 l8 l9 l10 c0 c1 c2 c3 c4 c5 c6 c7 c8 ll lc Q19 vT19 th19; obtain ⟨ll, xl⟩ := bz_get Q20.out.x (k := kz) (o := ltR l) (by simp); obtain ⟨l0, l1, l2, l3, l4, l5, l6, l7, l8, l9, l10⟩ := lt_at xl; obtain ⟨lc, xc⟩ := bz_get Q20.out.x (k := kc) (o := cfR c) (by simp); obtain ⟨c0, c1, c2, c3, c4, c5, c6, c7, c8⟩ := cf_at xc; clear xl xc)
                    clear c0 c1 c2 c3 c4 c5 c6 c7 c8 lc
                    obtain ⟨zq, hzq⟩ : ∃ x, Hid (cntH D jz + cmH c y.l jz - smL (L.take t) jz = x) := ⟨_, hide rfl⟩
                    obtain ⟨zs, hzs⟩ : ∃ x, Hid (zq - l.n = x) := ⟨_, hide rfl⟩
                    have hzw : Hid (wrap64 (zq - l.n) = zs) := hide (by
                      have a1 := hzq.out
                      have a2 := smL_take hAG.out t jz
                      have a3 := hcnt.out jz
                      have a7 := hok.out.t1
                      have a8 := gl_n hgl2.out
                      have a9 := (hHI.out.m.get (by have := hok.out.t0; have := hok.out.n0; omega) jz)
                      have a10 := (hHI2.out.m.get (by have := hok.out.t0; have := hok.out.n0; omega) jz)
                      have a11 := a9.1.1
                      have a12 := a10.1.1
                      have a13 := a9.2
                      have a14 := a10.2
                      have a15 := hzs.out
                      have a16 := hcm.out jz
                      unfold cntH at a1 a3
                      unfold wrap64
                      omega)
                    have hsub : Hid (∀ i : Nat, (if (i : Int) = jz then zs else cntH D i + cmH c y.l i - smL (L.take t) i) = cntH D i + cmH c y.l i - smL (L.take (t + 1)) i) := hide (fun i => by
                      rw [hst.out i, hjz.out]
                      by_cases e : (i : Int) = jz
                      · rw [if_pos e, if_pos e.symm, e]
                        have := hzq.out; have := hzs.out; omega
                      · rw [if_neg e, if_neg (fun q => e q.symm)]; omega)
                    have hjz2 : (jz : Int) < n := by have := hjzn.out; omega
                    have x3 : w20.cell? ⟨kz, 3, none⟩ = some (.int .i64 jz) := by rw [← hjz.out]; exact l3
                    have x7 := l7
                    go_upto_region 21 with fail
                    go_wp2_with fail
                    refine wp_region_noPanic ?_
                    refine wp_region_held_drew (S := (fun w' => w'.cell? ⟨kz, 3, none⟩ = some (.int .i64 jz) ∧ w'.cell? ⟨kz, 7, none⟩ = some (.int .i64 l.n))) (by kernel_rfl) ?_ (fun hHeld => ?_)
                    · exact ⟨x3, x7⟩
                    clear x3 x7 l0 l1 l2 l3 l4 l5 l6 l7 l8 l9 l10 ll
                    refine hTk 0 114 hHeld ?_
                    refine hTk 1 115 hHeld ?_
                    refine hTk 2 116 hHeld ?_
                    refine hTk 3 117 hHeld ?_
                    refine hTk 5 119 hHeld ?_
                    refine hTk 6 120 hHeld ?_
                    refine hTk 7 121 hHeld ?_
                    have Q21 := hide (Q20.out.below (V' := w20.drew) (belowN (Below.refl _ _) 1))
                    have th21 := hide (th20.out.below (w' := w20.drew) (belowN (Below.refl _ _) 1))
                    have vT21 := hide (vT20.out.below (w' := w20.drew) (belowN (Below.refl _ _) 1))
                    obtain ⟨w21, hw21⟩ : ∃ W, w20.drew = W := ⟨_, rfl⟩
                    rw [hw21] at hHeld Q21 th21 vT21 ⊢
                    clear hw21 Q20 th20 vT20
                    obtain ⟨ll, xl⟩ := bz_get Q21.out.x (k := kz) (o := ltR l) (by simp)
                    obtain ⟨-, -, -, l3, -, -, -, l7, -, -, -⟩ := lt_at xl
                    clear xl
                    have x3 : w21.cell? ⟨kz, 3, none⟩ = some (.int .i64 jz) := by rw [← hjz.out]; exact l3
                    obtain ⟨o2, cap2, e2, -, hgl, q0, q1⟩ := th21.out.at1 hjzn.out
                    cases e2
                    rw [hzq.out] at q0
                    refine hNo 4 fun K hK => ?_
                    go_simp
                    refine hK.out _ _ ?_ fun hHeld => ?_
                    · exact ⟨x3, l7⟩
                    clear hK K
                    try simp only [Act.put, za, zb, zc]
                    refine hVl 8 122 (.int .i64 zs) hHeld (fun wz hSw => ?_) ?_
                    · try dsimp only at hSw
                      go_simp; first | done | rw [hzw.out] | (have h9 := hzw.out; unfold wrap64 at h9; rw [IntKind.wrap_i64]; omega)
                    refine hTk 9 123 hHeld ?_
                    have kg1 : kz ≠ g := by have := hgz.out; omega
                    have kg2 : g ≠ kz := fun e => kg1 e.symm
                    refine hNo 10 fun K hK => ?_
                    go_simp
                    refine hK.out _ _ ?_ fun hHeld => ?_
                    · exact ⟨by simp [go_sem, *], by simp [go_sem, *]⟩
                    clear hK K
                    try simp only [Act.put, za, zb, zc]
                    refine wpAnyH_done (by kernel_rfl) (NoPanic.normal ?_) _
                    clear hHeld
                    have th22 := hide ((th21.out.put hjzn.out zs).alike (f' := fun x => cntH D x + cmH c y.l x - smL (L.take (t + 1)) x) (fun i hi => hsub.out i))
                    have hf22 : FrS (· = g) w21 (w21.setCell ⟨g, oT + jz, none⟩ (.int .i64 zs)) := wrK (FrS.refl _ _) _
                    have Q22 := hide (Q21.out.frs hf22 (fun i e => by rw [e]; exact hgw.out.1) (fun b hb e => hgF2.out (e ▸ hb)) (fun x hx e => by
                      have h1 := hgz.out
                      have h2 := hgw.out.2
                      simp only [List.mem_cons, List.not_mem_nil, or_false] at hx
                      rcases hx with rfl | rfl <;> (dsimp only at e; omega)))
                    have vT22 := hide (vT21.out.fr hf22 (fun _ e => hgL.out e))
                    obtain ⟨w22, hw22⟩ : ∃ W, w21.setCell ⟨g, oT + jz, none⟩ (.int .i64 zs) = W := ⟨_, rfl⟩
                    rw [hw22] at Q22 th22 vT22 ⊢
                    clear hw22 Q21 th21 vT21 hf22 x3 q0 q1 kg1 kg2 hgl l3 l7 ll
                    go_wp2_with fail
                    go_roundw
                    case rel => exact ⟨t + 1, by omega, by simp, Q22.out.sub (fun x hx => List.mem_cons_of_mem _ hx), vT22.out, th22.out⟩
                    case measure => simp [intOf]; omega
                  · obtain rfl : t = L.length := by omega
                    have th18 : Hid (ThIs wr (.slice (some ⟨g, oT, none⟩) n capT) g n (cntH D2)) := hide (th17.out.alike (fun i _ => by rw [hcnt.out i, List.take_length]))
                    clear th17 vT17 hlt
                    obtain ⟨lc, xc⟩ := bz_get Q17.out.x (k := kc) (o := cfR c) (by simp)
                    obtain ⟨c0, c1, c2, c3, c4, c5, c6, c7, c8⟩ := cf_at xc
                    have c1' : wr.cell? ⟨kc, 1, none⟩ = some (.int .i64 n) := by rw [hbl.out]; exact c1
                    clear c0 c1 c2 c3 c4 c5 c6 c7 c8 xc
                    have hn3 : Hid (D2.M.length = n) := hide (by have := hHI2.out.ml; have := hbl.out; omega)
                    have hn64 : (n : Int) ≤ 64 := by have := hbl.out; have := hok.out.b1; omega
                    go_wp2_with fail
                    go_at_call 18
                    refine (hmAll_c p B F16 c (N + 1) D2 _ Q17.out.a.n n hn3).mono ?_
                    rintro e w23 ⟨rfl, ho23, hb23⟩
                    have Q23 := hide (Q17.out.below hb23)
                    have th23 := hide (th18.out.below hb23)
                    obtain ⟨gA, hgA⟩ : ∃ k, Hid (wr.heap.size = k) := ⟨_, hide rfl⟩
                    rw [hgA.out] at ho23
                    rw [hgA.out]
                    have hA23 := hide ho23
                    replace c1' := keep_cell (hb23.block kc lc) c1'
                    have lc2 := Nat.lt_of_lt_of_le lc hb23.size
                    clear hb23 Q17 th18 ho23 lc
                    go_wp2_with fail
                    clear c1' lc2
                    go_loopw [134] (fun i wz => ∃ t : Nat, t ≤ n ∧ i = .int .i64 t ∧ Below w23.heap.size w23 wz) (fun i _ => n - (intOf i).toNat)
                    case atStart => exact ⟨0, Nat.zero_le _, rfl, Below.refl _ _⟩
                    case round =>
                      obtain ⟨t, ht, rfl, hbz⟩ := hrel
                      have Q24 := hide (Q23.out.below hbz)
                      have th24 := hide (th23.out.below hbz)
                      have hA24 := hide (hA23.out.below hbz)
                      have hbz' := hide hbz
                      clear hbz
                      by_cases hlt : t < n
                      · have hlt' : (t : Int) < n := by omega
                        obtain ⟨-, -, -, kk⟩ := view_atB hA24.out.view rfl
                        obtain ⟨oA, eA, hlA, k0, k1, k2, k3⟩ := kk t (by have := hn3.out; omega)
                        simp only [Option.some.injEq, Addr.mk.injEq, true_and, and_true] at eA
                        subst eA
                        obtain ⟨bb, hbb⟩ : ∃ x, D2.M[t]'(by have := hn3.out; omega) = x := ⟨_, rfl⟩
                        rw [hbb] at k0 k1 k2 k3
                        have hbn : bb.n = cntH D2 t := by unfold cntH; rw [getM_nat (by have := hn3.out; omega), hbb]
                        rw [hbn] at k0
                        obtain ⟨o2, cap2, e2, -, hgl, q0, q1⟩ := th24.out.at1 hlt
                        cases e2
                        obtain ⟨fn, hfn⟩ : ∃ x, Hid (cntH D2 t = x) := ⟨_, hide rfl⟩
                        rw [hfn.out] at q0 k0
                        simp only [Nat.zero_add] at k0 k1 k2 k3
                        clear kk hbb hbn q1
                        go_upto_region 29 with fail
                        refine name_world ?_
                        intro W29 hW29
                        have hb29 : Hid (Below wr.heap.size wr W29) := by rw [← hW29]; exact hide (by all_goals exact belEnd)
                        have z0 : W29.cell? ⟨wr.heap.size, 0, none⟩ = some (.int .i64 fn) := by rw [← hW29]; simp [go_sem]
                        have y0 : W29.cell? ⟨g, oT + t, none⟩ = some (.int .i64 fn) := keep_cell (hb29.out.block g hgl) q0
                        clear hW29 k0 k1 k2 k3 q0
                        go_wp2_with fail
                        refine wp_region_noPanic ?_
                        refine wp_region_held_drew (S := (fun w' => w'.cell? ⟨wr.heap.size, 0, none⟩ = some (.int .i64 fn) ∧ w'.cell? ⟨g, oT + t, none⟩ = some (.int .i64 fn))) (by kernel_rfl) ?_ (fun hHeld => ?_)
                        · exact ⟨z0, y0⟩
                        refine hTk 0 139 hHeld ?_
                        refine hTk 1 140 hHeld ?_
                        refine hTk 2 141 hHeld ?_
                        refine hTk 3 142 hHeld ?_
                        refine hTk 4 143 hHeld ?_
                        refine hTk 5 144 hHeld ?_
                        refine hVl 6 145 (.bool false) hHeld (fun wz hSw => ?_) ?_
                        · try dsimp only at hSw
                          go_simp
                        refine wpAnyH_done (by kernel_rfl) (NoPanic.normal ?_) _
                        clear hHeld
                        go_wp2_with fail
                        go_roundw
                        case rel => exact ⟨t + 1, by omega, by simp, belowN (hbz'.out.trans (hb29.out.mono hbz'.out.size)) _⟩
                        case measure => simp [intOf]; omega
                      · obtain rfl : t = n := by omega
                        go_wp2_with fail
                        go_roundw
                        case rel => exact ⟨j + 1, F16, N + 1, D2, by simp, by omega, by have := hN.out; omega, hHI2.out, hgF2.out, Q24.out, th24.out⟩
                        case measure => simp [intOf]; omega
        · obtain rfl : A.length = j := by omega
          go_wp2_with fail
          go_ret
          exact ⟨rfl, Q6.out.a.bel⟩
theorem HomeSums_walk (c : Cf) (ao : Option Addr) (n cap : Nat) (A : List Ac) (w : World) (hT : Hid (Tab w)) (hA : ActsAt w.heap.size w (.slice ao n cap) A) : Calls Tryd.prog 4 #[.agg #[.int .i64 c.n, .int .i64 c.bl, .int .i64 c.tt, .int .i64 c.cs, .int .i64 c.cy, .int .i64 c.cc, .int .i64 c.cu, .int .i64 c.ct, .int .i64 c.cp], .slice ao n cap] w fun e w' => e = .returned (.bool true) ∧ Below w.heap.size w w' := by
  obtain ⟨ao', cap', e, h1, h2, -⟩ := id hA
  simp only [Value.slice.injEq] at e
  obtain ⟨rfl, rfl, rfl⟩ := e
  by_cases hz : cfgZ c.n c.bl c.tt c.cs c.cy c.cc c.cu c.ct c.cp = 0 ∧ A.length ≤ 200
  · exact sumsOk_walk c ao cap A w hT (hide hA) (hide hz.2) (hide hz.1)
  · exact sumsNo_walk c ao A.length cap w hT (by unfold maxLen at h2; omega) hz
end Go.Proofs.YtmgjgeaigdiadaaDoor
