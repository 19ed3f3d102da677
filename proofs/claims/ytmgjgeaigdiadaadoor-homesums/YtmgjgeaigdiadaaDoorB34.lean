/- layer 16: RhD2 RhD3 RhD5, put together. -/
import Derived.Test.YtmgjgeaigdiadaaDoorB32
import Derived.Test.YtmgjgeaigdiadaaDoorB27
import Derived.Test.YtmgjgeaigdiadaaDoorB22
import Derived.Test.YtmgjgeaigdiadaaDoorB33
import Derived.Test.YtmgjgeaigdiadaaDoorB24
namespace Go.Proofs.YtmgjgeaigdiadaaDoor
open Go.ChangeShapes Go.WideShapes Go.ChangeAt Go.RowKit
set_option linter.unusedSimpArgs false
set_option linter.unusedVariables false
set_option maxRecDepth 10000
attribute [local go_sem, local simp] over_const setCell_drewN alloc_drewN Over.cell Over.frozen lt_s1 lt_s2 lt_s3 le_s0 le_s1 le_s2 le_s3 eq_s0 eq_s1 eq_s2 qe_s0
set_option maxHeartbeats 4000000 in
theorem rhTk2_c (q : Nat) (B : Bd) (F : Nat → Prop) (c : Cf) (N : Nat) (D : Hm) (l : Lt) (d0 d1 d2 : Int) (w : World) (h : RhIs w q B F c N D) (hN1 : N + 2 ≤ 100000) (hno : htOk c l = true) (kk : l.k = 2) (L : List Lt) (hL : Hid (hAskL c D l d0 d1 = L)) : Calls Tryd.prog 14 #[ptr q, .agg #[.int .i64 l.k, .int .i64 l.a, .int .i64 l.b, .int .i64 l.q, .int .i64 l.s, .int .i64 l.w, .bool l.r, .int .i64 l.n, .bool l.o, .bool l.h, .int .i64 l.d], .agg #[.int .i64 d0, .int .i64 d1, .int .i64 d2]] w fun e w' => ∃ v, e = .returned v ∧ ∃ B' F' g, RutP w q B B' F F' c (N + 1) (nxHAsk c D l d0 d1) L v w' g := by
  have hH := hide h
  obtain ⟨z, hz⟩ : ∃ z, Hid (letterZ c.n c.bl c.tt ⟨l.k, l.a, l.b, l.q, l.s, l.w, l.r, ⟨l.n, l.o, l.h, l.d⟩⟩ = z) := ⟨_, rfl⟩
  obtain ⟨ez, eb⟩ : z = 0 ∧ l.b = c.n := by
    unfold htOk at hno
    simp only [Bool.and_eq_true, decide_eq_true_eq] at hno
    exact ⟨by rw [← hz.out]; exact hno.1, hno.2⟩
  have hle0 : lerr c l = 0 := by rw [← hz.out] at ez; exact ez
  have hqq := lerr_q hle0
  obtain ⟨j, hj⟩ : ∃ j : Nat, l.q = j := ⟨l.q.toNat, by omega⟩
  have hjM : Hid (j < D.M.length) := hide (by have := h.ml; have := h.ok.b0; omega)
  have hjL : Hid (j < D.L.length) := hide (by have := h.al; have := h.ok.b0; omega)
  have hq1 : hasM D.M l.q = true := by rw [hj]; exact hasM_nat hjM.out
  obtain ⟨t, ht⟩ : ∃ t, Hid (D.M[j]'hjM.out = t) := ⟨_, hide rfl⟩
  have htq : getM D.M l.q = t := by rw [hj, getM_nat hjM.out]; exact ht.out
  have hbI := h.inv.at' hjM.out
  rw [ht.out] at hbI
  obtain ⟨r, hr⟩ : ∃ r, Hid (repZ c.cp t.n t.o l.r d0 d1 = r) := ⟨_, rfl⟩
  have hR2 : hRep c D l d0 d1 = r := by unfold hRep; rw [htq]; exact hr.out
  obtain ⟨g, hg⟩ : ∃ g, Hid (givenB (getM D.M l.q) r.n r.o r.v = g) := ⟨_, rfl⟩
  obtain ⟨M', hM'⟩ : ∃ M', Hid (takM D.M l.q r.n r.o = M') := ⟨_, rfl⟩
  have hg0 : Hid (0 ≤ g.n) := hide (by
    obtain ⟨t1, t2, t3, t4⟩ := t
    have := (parts_math t1 t2 t3 t4 r.n r.o r.v hbI.1 g (restB ⟨t1, t2, t3, t4⟩ r.n r.o) (by rw [← hg.out, htq]) rfl).1
    exact this)
  have hL' := hL.out
  unfold hAskL at hL'
  rw [hR2, hg.out] at hL'
  replace hL' := hide hL'
  obtain ⟨D', hD'⟩ : ∃ D', Hid (nxHAsk c D l d0 d1 = D') := ⟨_, rfl⟩
  have eD : Hid (⟨M', D.L⟩ = D') := hide (by rw [← hD'.out]; unfold nxHAsk; rw [hR2, hM'.out])
  have hlen : Hid (M'.length = D.M.length) := hide (by rw [← hM'.out, takM_len])
  have hI' : Hid (MInv (((N + 1 + 1 : Nat) : Int) * 65536) M') := hide (by have := h.inv.tak l.q r.n r.o; rw [hM'.out] at this; exact this.mono (by omega))
  obtain ⟨n, hn⟩ : ∃ n, Hid (D.M.length = n) := ⟨_, rfl⟩
  have hjn : (j : Int) < n := by have := hn.out; have := hjM.out; omega
  rw [hD'.out]
  clear hL hD' hR2 htq hbI
  obtain ⟨h1, h2, h3⟩ := cmpT ez
  obtain ⟨f1, f2, f3⟩ := cmpT eb
  obtain ⟨m1, n1, o1⟩ := cmpF (show ¬ l.k = 1 by omega)
  obtain ⟨m2, n2, o2⟩ := cmpT kk
  replace ez := hide ez
  replace eb := hide eb
  replace kk := hide kk
  replace hj := hide hj
  clear hno h hqq hle0 hq1
  go_enter Tryd.func14, Tryd.ntmps14
  go_upto_region 1 with fail
  refine name_world ?_
  intro V hV
  have Q1 : Hid (Ar w V q B B F F c N D [(w.heap.size + 1, d3R d0 d1 d2), (w.heap.size, ltR l)]) := by rw [← hV]; exact hide (ar_box hH.out l d0 d1 d2)
  obtain ⟨kd, hde⟩ : ∃ kd, Hid (w.heap.size + 1 = kd) := ⟨_, rfl⟩
  obtain ⟨kl, hle⟩ : ∃ kl, Hid (w.heap.size = kl) := ⟨_, rfl⟩
  rw [hde.out, hle.out] at Q1
  rw [hde.out, hle.out]
  clear hV
  have A1 := Q1.out.n.at'
  obtain ⟨b0, b1, b2, b3, b4, b5, b6, b7, b8, b9, b10⟩ := lt_at (bz_get Q1.out.x (k := kl) (o := ltR l) (by simp)).2
  go_wp2_with fail
  refine wp_region_noPanic ?_
  refine wp_region_held_drew (S := (fun w' => w'.cell? ⟨kl, 0, none⟩ = some (.int .i64 l.k) ∧ w'.cell? ⟨kl, 1, none⟩ = some (.int .i64 l.a) ∧ w'.cell? ⟨kl, 2, none⟩ = some (.int .i64 l.b) ∧ w'.cell? ⟨kl, 3, none⟩ = some (.int .i64 l.q) ∧ w'.cell? ⟨kl, 4, none⟩ = some (.int .i64 l.s) ∧ w'.cell? ⟨kl, 5, none⟩ = some (.int .i64 l.w) ∧ w'.cell? ⟨kl, 6, none⟩ = some (.bool l.r) ∧ w'.cell? ⟨kl, 7, none⟩ = some (.int .i64 l.n) ∧ w'.cell? ⟨kl, 8, none⟩ = some (.bool l.o) ∧ w'.cell? ⟨kl, 9, none⟩ = some (.bool l.h) ∧ w'.cell? ⟨kl, 10, none⟩ = some (.int .i64 l.d) ∧ w'.cell? ⟨q, 0, none⟩ = some (.int .i64 c.n) ∧ w'.cell? ⟨q, 1, none⟩ = some (.int .i64 c.bl) ∧ w'.cell? ⟨q, 2, none⟩ = some (.int .i64 c.tt) ∧ w'.cell? ⟨q, 3, none⟩ = some (.int .i64 c.cs) ∧ w'.cell? ⟨q, 4, none⟩ = some (.int .i64 c.cy) ∧ w'.cell? ⟨q, 5, none⟩ = some (.int .i64 c.cc) ∧ w'.cell? ⟨q, 6, none⟩ = some (.int .i64 c.cu) ∧ w'.cell? ⟨q, 7, none⟩ = some (.int .i64 c.ct) ∧ w'.cell? ⟨q, 8, none⟩ = some (.int .i64 c.cp))) (by kernel_rfl) ?_ (fun hHeld => ?_)
  · exact ⟨b0, b1, b2, b3, b4, b5, b6, b7, b8, b9, b10, A1.c0, A1.c1, A1.c2, A1.c3, A1.c4, A1.c5, A1.c6, A1.c7, A1.c8⟩
  clear A1 b0 b1 b2 b3 b4 b5 b6 b7 b8 b9 b10
  refine hTk 0 18 hHeld ?_
  refine hTk 1 19 hHeld ?_
  refine hTk 2 20 hHeld ?_
  refine hTk 3 21 hHeld ?_
  refine hTk 4 22 hHeld ?_
  refine hNo 5 fun K hK => ?_
  go_simp
  go_at_call 23
  refine (refCheck_c c.n c.bl c.tt c.cs c.cy c.cc c.cu c.ct c.cp l.k l.a l.b l.q l.s l.w l.r l.n l.o l.h l.d _ z hz).mono ?_
  rintro e w2 ⟨rfl, hb2⟩
  have Q2 : Hid (Ar w w2 q B B F F c N D [(kd, d3R d0 d1 d2), (kl, ltR l)]) := hide (Q1.out.below (((Below.refl _ _).drew).trans hb2))
  have A1 := Q2.out.n.at'
  obtain ⟨b0, b1, b2, b3, b4, b5, b6, b7, b8, b9, b10⟩ := lt_at (bz_get Q2.out.x (k := kl) (o := ltR l) (by simp)).2
  refine hK.out _ _ ?_ fun hHeld => ?_
  · exact ⟨b0, b1, b2, b3, b4, b5, b6, b7, b8, b9, b10, A1.c0, A1.c1, A1.c2, A1.c3, A1.c4, A1.c5, A1.c6, A1.c7, A1.c8⟩
  clear hK K
  try simp only [Act.put, za, zb, zc]
  clear A1 hb2 Q1
  refine hVl 6 24 (.bool false) hHeld (fun wz hSw => ?_) ?_
  · try dsimp only at hSw
    go_simp
  refine hTk 7 25 hHeld ?_
  refine hTk 8 26 hHeld ?_
  refine hTk 9 27 hHeld ?_
  refine hTk 10 28 hHeld ?_
  refine hTk 11 29 hHeld ?_
  refine hTk 12 30 hHeld ?_
  refine hTk 13 31 hHeld ?_
  refine hTk 14 32 hHeld ?_
  refine hVl 15 33 (.bool false) hHeld (fun wz hSw => ?_) ?_
  · try dsimp only at hSw
    go_simp
  refine hTk 16 34 hHeld ?_
  refine wpAnyH_done (by kernel_rfl) (NoPanic.normal ?_) _
  clear hHeld
  have b0 := (lt_at (bz_get Q2.out.x (k := kl) (o := ltR l) (by simp)).2).c0
  have hkl := (bz_get Q2.out.x (k := kl) (o := ltR l) (by simp)).1
  obtain ⟨o1, cap1, hat0⟩ := Q2.out.n.at1 hjM.out ht.out hn.out
  have hat := hide hat0
  have hbx : Hid (Below w2.heap.size w2 w2) := hide (Below.refl _ _)
  clear hat0 b0 hkl
  have b0 := (lt_at (bz_get Q2.out.x (k := kl) (o := ltR l) (by simp)).2).c0
  have hkl := (bz_get Q2.out.x (k := kl) (o := ltR l) (by simp)).1
  go_upto_region 10 with fail
  clear b0 hkl
  obtain ⟨a8, a9, b3, b6, e0, e1, e2, t0, t1, t2, t3⟩ : w2.cell? ⟨q, 8, none⟩ = some (.int .i64 c.cp) ∧ w2.cell? ⟨q, 9, none⟩ = some (.slice (some ⟨B.mg, o1, none⟩) n cap1) ∧ w2.cell? ⟨kl, 3, none⟩ = some (.int .i64 j) ∧ w2.cell? ⟨kl, 6, none⟩ = some (.bool l.r) ∧ w2.cell? ⟨kd, 0, none⟩ = some (.int .i64 d0) ∧ w2.cell? ⟨kd, 1, none⟩ = some (.int .i64 d1) ∧ w2.cell? ⟨kd, 2, none⟩ = some (.int .i64 d2) ∧ w2.cell? ⟨B.mg, o1 + j * 4, none⟩ = some (.int .i64 t.n) ∧ w2.cell? ⟨B.mg, o1 + j * 4 + 1, none⟩ = some (.bool t.o) ∧ w2.cell? ⟨B.mg, o1 + j * 4 + 2, none⟩ = some (.bool t.h) ∧ w2.cell? ⟨B.mg, o1 + j * 4 + 3, none⟩ = some (.int .i64 t.d) := by
    have y := lt_at (bz_get Q2.out.x (k := kl) (o := ltR l) (by simp)).2
    have z := (bz_get Q2.out.x (k := kd) (o := d3R d0 d1 d2) (by simp)).2
    obtain ⟨m0, -, m1, m2, m3, m4⟩ := hat.out w2 hbx.out
    exact ⟨Q2.out.n.at'.c8, m0, by rw [← hj.out]; exact y.c3, y.c6, cell_of_row _ _ _ _ _ _ z, cell_of_row _ _ _ _ _ _ z, cell_of_row _ _ _ _ _ _ z, m1, m2, m3, m4⟩
  go_wp2_with fail
  refine wp_region_noPanic ?_
  refine wp_region_held_drew (S := (fun w' => w'.cell? ⟨q, 8, none⟩ = some (.int .i64 c.cp) ∧ w'.cell? ⟨q, 9, none⟩ = some (.slice (some ⟨B.mg, o1, none⟩) n cap1) ∧ w'.cell? ⟨kl, 3, none⟩ = some (.int .i64 j) ∧ w'.cell? ⟨kl, 6, none⟩ = some (.bool l.r) ∧ w'.cell? ⟨kd, 0, none⟩ = some (.int .i64 d0) ∧ w'.cell? ⟨kd, 1, none⟩ = some (.int .i64 d1) ∧ w'.cell? ⟨kd, 2, none⟩ = some (.int .i64 d2) ∧ w'.cell? ⟨B.mg, o1 + j * 4, none⟩ = some (.int .i64 t.n) ∧ w'.cell? ⟨B.mg, o1 + j * 4 + 1, none⟩ = some (.bool t.o) ∧ w'.cell? ⟨B.mg, o1 + j * 4 + 2, none⟩ = some (.bool t.h) ∧ w'.cell? ⟨B.mg, o1 + j * 4 + 3, none⟩ = some (.int .i64 t.d))) (by kernel_rfl) ?_ (fun hHeld => ?_)
  · exact ⟨a8, a9, b3, b6, e0, e1, e2, t0, t1, t2, t3⟩
  clear a8 a9 b3 b6 e0 e1 e2 t0 t1 t2 t3
  refine hTk 0 76 hHeld ?_
  refine hTk 1 77 hHeld ?_
  refine hTk 2 78 hHeld ?_
  refine hTk 3 79 hHeld ?_
  refine hTk 4 80 hHeld ?_
  refine hTk 5 81 hHeld ?_
  refine hTk 6 82 hHeld ?_
  refine hTk 7 83 hHeld ?_
  refine hTk 8 84 hHeld ?_
  refine hTk 9 85 hHeld ?_
  refine hTk 10 86 hHeld ?_
  refine hTk 11 87 hHeld ?_
  refine hTk 12 88 hHeld ?_
  refine hTk 13 89 hHeld ?_
  refine hTk 14 90 hHeld ?_
  refine hTk 15 91 hHeld ?_
  have Q3 := hide (Q2.out.below (V' := w2.drew) (belowN (Below.refl _ _) 1))
  replace hbx : Hid (Below w2.heap.size w2 w2.drew) := hide (hbx.out.drew)
  obtain ⟨w3, hw3⟩ : ∃ w3, w2.drew = w3 := ⟨_, rfl⟩
  rw [hw3] at hHeld Q3 hbx ⊢
  clear hw3 Q2
  refine hNo 16 fun K hK => ?_
  go_simp
  go_at_call 32
  refine (refReply_c c.cp t.n t.o t.h t.d l.r d0 d1 d2 _ r hr).mono ?_
  rintro e w4 ⟨rfl, hb4⟩
  have Q4 := hide (Q3.out.below hb4)
  replace hbx := hide (hbx.out.trans (hb4.mono hbx.out.size))
  clear hb4 Q3
  obtain ⟨a8, a9, b3, b6, e0, e1, e2, t0, t1, t2, t3⟩ : w4.cell? ⟨q, 8, none⟩ = some (.int .i64 c.cp) ∧ w4.cell? ⟨q, 9, none⟩ = some (.slice (some ⟨B.mg, o1, none⟩) n cap1) ∧ w4.cell? ⟨kl, 3, none⟩ = some (.int .i64 j) ∧ w4.cell? ⟨kl, 6, none⟩ = some (.bool l.r) ∧ w4.cell? ⟨kd, 0, none⟩ = some (.int .i64 d0) ∧ w4.cell? ⟨kd, 1, none⟩ = some (.int .i64 d1) ∧ w4.cell? ⟨kd, 2, none⟩ = some (.int .i64 d2) ∧ w4.cell? ⟨B.mg, o1 + j * 4, none⟩ = some (.int .i64 t.n) ∧ w4.cell? ⟨B.mg, o1 + j * 4 + 1, none⟩ = some (.bool t.o) ∧ w4.cell? ⟨B.mg, o1 + j * 4 + 2, none⟩ = some (.bool t.h) ∧ w4.cell? ⟨B.mg, o1 + j * 4 + 3, none⟩ = some (.int .i64 t.d) := by
    have y := lt_at (bz_get Q4.out.x (k := kl) (o := ltR l) (by simp)).2
    have z := (bz_get Q4.out.x (k := kd) (o := d3R d0 d1 d2) (by simp)).2
    obtain ⟨m0, -, m1, m2, m3, m4⟩ := hat.out w4 hbx.out
    exact ⟨Q4.out.n.at'.c8, m0, by rw [← hj.out]; exact y.c3, y.c6, cell_of_row _ _ _ _ _ _ z, cell_of_row _ _ _ _ _ _ z, cell_of_row _ _ _ _ _ _ z, m1, m2, m3, m4⟩
  refine hK.out _ _ ?_ fun hHeld => ?_
  · exact ⟨a8, a9, b3, b6, e0, e1, e2, t0, t1, t2, t3⟩
  clear hK K
  try simp only [Act.put, za, zb, zc]
  clear a8 a9 b3 b6 e0 e1 e2 t0 t1 t2 t3
  refine hTk 17 75 hHeld ?_
  refine hTk 18 93 hHeld ?_
  refine hTk 19 94 hHeld ?_
  refine hTk 20 95 hHeld ?_
  refine hTk 21 9 hHeld ?_
  refine hTk 22 10 hHeld ?_
  refine hTk 23 11 hHeld ?_
  refine wpAnyH_done (by kernel_rfl) (NoPanic.normal ?_) _
  clear hHeld
  obtain ⟨w5, ew5⟩ : ∃ w5, w4 = w5 := ⟨_, rfl⟩
  rw [ew5] at Q4 hbx ⊢
  clear ew5 w4
  have Q5 := Q4
  clear Q4
  obtain ⟨a9, b3⟩ : w5.cell? ⟨q, 9, none⟩ = some (.slice (some ⟨B.mg, o1, none⟩) n cap1) ∧ w5.cell? ⟨kl, 3, none⟩ = some (.int .i64 l.q) := ⟨(hat.out w5 hbx.out).1, (lt_at (bz_get Q5.out.x (k := kl) (o := ltR l) (by simp)).2).c3⟩
  go_upto_region 11 with fail
  go_cut [12, 13] (fun sk sv wx => ∃ kt g7 ao7 cap7, sk = ptr kt ∧ sv = .slice ao7 n cap7 ∧ Ar w wx q B B F F c N D [(kt, bunR g), (kd, d3R d0 d1 d2), (kl, ltR l)] ∧ ViewB wx (.slice ao7 n cap7) g7 M' ∧ g7 < wx.heap.size ∧ (g7 = B.mg ∨ (¬ Fd q B F g7 ∧ w.heap.size ≤ g7 ∧ ∀ x ∈ [(kt, bunR g), (kd, d3R d0 d1 d2), (kl, ltR l)], x.1 ≠ g7)))
  case first =>
    go_wp2_with fail
    refine wp_region_noPanic ?_
    refine wp_region_held_drew (S := (fun w' => w'.cell? ⟨q, 9, none⟩ = some (.slice (some ⟨B.mg, o1, none⟩) n cap1) ∧ w'.cell? ⟨kl, 3, none⟩ = some (.int .i64 l.q))) (by kernel_rfl) ?_ (fun hHeld => ?_)
    · exact ⟨a9, b3⟩
    clear a9 b3
    refine hTk 0 97 hHeld ?_
    refine hTk 1 98 hHeld ?_
    refine hTk 2 99 hHeld ?_
    refine hTk 3 100 hHeld ?_
    refine hTk 4 101 hHeld ?_
    refine hTk 5 102 hHeld ?_
    refine hTk 6 103 hHeld ?_
    refine hTk 7 104 hHeld ?_
    refine hTk 8 105 hHeld ?_
    have Q0 := hide (Q5.out.below (V' := w5.drew) (belowN (Below.refl _ _) 1))
    replace hbx : Hid (Below w2.heap.size w2 w5.drew) := hide (hbx.out.drew)
    obtain ⟨w1, hw1⟩ : ∃ w1, w5.drew = w1 := ⟨_, rfl⟩
    rw [hw1] at hHeld Q0 hbx ⊢
    clear hw1 Q5
    refine hTwo 9 13 (fun K hK => ?_) fun K hK => ?_
    · go_simp
      go_at_call 33
      refine (refTake_c _ B.mg _ l.q r.n r.o r.v D.M _ (hat.out w1 hbx.out).2.1 Q0.out.n.inv (by omega) g hg M' hM').mono ?_
      rintro e w3 ⟨v7, rfl, g7, hv7, hg7, hb7⟩
      obtain ⟨ao7, cap7, e7, -⟩ := id hv7
      rw [hlen.out, hn.out] at e7
      subst e7
      have hg8 : Hid (g7 < w3.heap.size ∧ (g7 = B.mg ∨ w1.heap.size ≤ g7)) := hide ⟨hv7.lt_ofB (by have := hjM.out; have := hlen.out; intro e; rw [e] at this; simp at this; omega), hg7⟩
      have hnfV := hide (fun x (e : w1.heap.size ≤ x) => Q0.out.nf e)
      have hszV := hide Q0.out.s.fr.size
      have Q3 := hide (Q0.out.below hb7)
      replace hbx := hide (hbx.out.trans (hb7.mono hbx.out.size))
      replace hv7 := hide hv7
      clear hb7 hg7
      obtain ⟨a9, b3⟩ : w3.cell? ⟨q, 9, none⟩ = some (.slice (some ⟨B.mg, o1, none⟩) n cap1) ∧ w3.cell? ⟨kl, 3, none⟩ = some (.int .i64 l.q) := ⟨(hat.out w3 hbx.out).1, (lt_at (bz_get Q3.out.x (k := kl) (o := ltR l) (by simp)).2).c3⟩
      refine hK.out _ _ ?_ fun hHeld => ?_
      · exact ⟨a9, b3⟩
      clear hK K
      try simp only [Act.put, za, zb, zc]
      clear a9 b3
      refine hTk 10 96 hHeld ?_
      refine hTk 11 107 hHeld ?_
      refine hTk 12 108 hHeld ?_
      have hkk := hide (And.intro (bz_get Q0.out.x (k := kl) (o := ltR l) (by simp)).1 (bz_get Q0.out.x (k := kd) (o := d3R d0 d1 d2) (by simp)).1)
      refine hNo 13 fun K hK => ?_
      go_simp
      have hne := hide (And.intro (bz_get Q3.out.x (k := kl) (o := ltR l) (by simp)).1 (bz_get Q3.out.x (k := kd) (o := d3R d0 d1 d2) (by simp)).1)
      have Q4 := hide (Q3.out.new (bunR bun0))
      replace hbx := hide (hbx.out.alloc hbx.out.size (bunR bun0))
      replace hv7 := hide (hv7.out.alloc (bunR bun0))
      obtain ⟨kt, ekt⟩ : ∃ kt, w3.heap.size = kt := ⟨_, rfl⟩
      obtain ⟨w4, ew⟩ : ∃ W, w3.alloc (bunR bun0) = W := ⟨_, rfl⟩
      rw [ew, ekt] at Q4
      rw [ew] at hbx
      rw [ew] at hv7
      rw [ekt] at hne ⊢
      dsimp only [bunR] at ew
      rw [ew]
      clear ew
      have hg9 : Hid (g7 < w4.heap.size ∧ (g7 = B.mg ∨ (¬ Fd q B F g7 ∧ w.heap.size ≤ g7 ∧ kt ≠ g7 ∧ kd ≠ g7 ∧ kl ≠ g7))) := hide (by
        obtain ⟨x1, x2⟩ := hg8.out
        have h9 := hv7.out.lt_ofB (by have := hjM.out; have := hlen.out; intro e; rw [e] at this; simp at this; omega)
        refine ⟨h9, x2.imp id (fun e => ⟨hnfV.out _ e, Nat.le_trans hszV.out e, ?_, ?_, ?_⟩)⟩
        · omega
        · have := hkk.out.2; omega
        · have := hkk.out.1; omega)
      clear ekt
      obtain ⟨a9, b3⟩ : w4.cell? ⟨q, 9, none⟩ = some (.slice (some ⟨B.mg, o1, none⟩) n cap1) ∧ w4.cell? ⟨kl, 3, none⟩ = some (.int .i64 l.q) := ⟨(hat.out w4 hbx.out).1, (lt_at (bz_get Q4.out.x (k := kl) (o := ltR l) (by simp)).2).c3⟩
      refine hK.out _ _ ?_ fun hHeld => ?_
      · exact ⟨a9, b3⟩
      clear hK K
      try simp only [Act.put, za, zb, zc]
      clear a9 b3
      obtain ⟨hkt, bkt⟩ := bz_get Q4.out.x (k := kt) (o := bunR bun0) (by simp)
      have y0 : w4.cell? ⟨kt, 0, none⟩ = some (.int .i64 0) := cell_of_row _ _ _ _ _ _ bkt
      have y1 : w4.cell? ⟨kt, 1, none⟩ = some (.bool false) := cell_of_row _ _ _ _ _ _ bkt
      have y2 : w4.cell? ⟨kt, 2, none⟩ = some (.bool false) := cell_of_row _ _ _ _ _ _ bkt
      have y3 : w4.cell? ⟨kt, 3, none⟩ = some (.int .i64 0) := cell_of_row _ _ _ _ _ _ bkt
      have zt : ∀ i, w4.frozen? ⟨kt, i, none⟩ = false := fun i => frozen_of_row _ _ _ _ _ bkt
      refine hNo 14 fun K hK => ?_
      go_simp
      have hk2 : ∀ x ∈ [(kd, d3R d0 d1 d2), (kl, ltR l)], x.1 ≠ kt := fun x hx => by
        simp only [List.mem_cons, List.not_mem_nil, or_false] at hx
        have := hne.out
        rcases hx with rfl | rfl <;> (dsimp only; omega)
      have hkm : kt ≠ B.mg := fun e => (Q4.out.x (kt, bunR bun0) (by simp)).2.2.1 (.inr (.inr (.inr e)))
      have hkq : kt ≠ q := fun e => (Q4.out.x (kt, bunR bun0) (by simp)).2.2.1 (.inr (.inl e))
      have hkg : kt ≠ g7 := by
        rcases hg9.out.2 with e | e
        · rw [e]; exact hkm
        · exact e.2.2.1
      have Q5 := hide (ar_setB Q4.out hk2 g)
      have hwr : FrS (· = kt) w4 ((((w4.setCell ⟨kt, 0, none⟩ (.int .i64 g.n)).setCell ⟨kt, 1, none⟩ (.bool g.o)).setCell ⟨kt, 2, none⟩ (.bool g.h)).setCell ⟨kt, 3, none⟩ (.int .i64 g.d)) := wrK (wrK (wrK (wrK (FrS.refl _ _) _) _) _) _
      replace hv7 := hide (hv7.out.fr hwr (fun _ e => hkg e.symm))
      have a9' := (hat.out w4 hbx.out).1
      replace a9' := keep_cell (hwr.block q Q4.out.n.pl (fun e => hkq e.symm)) a9'
      have hsw := hide hwr.size
      obtain ⟨w5, ew⟩ : ∃ W, (((w4.setCell ⟨kt, 0, none⟩ (.int .i64 g.n)).setCell ⟨kt, 1, none⟩ (.bool g.o)).setCell ⟨kt, 2, none⟩ (.bool g.h)).setCell ⟨kt, 3, none⟩ (.int .i64 g.d) = W := ⟨_, rfl⟩
      rw [ew] at Q5 hv7 a9' hsw ⊢
      clear ew y0 y1 y2 y3 zt bkt hkt Q4 hwr
      have b3 := (lt_at (bz_get Q5.out.x (k := kl) (o := ltR l) (by simp)).2).c3
      refine hK.out _ _ ?_ fun hHeld => ?_
      · exact ⟨a9', b3⟩
      clear hK K
      try simp only [Act.put, za, zb, zc]
      clear b3
      refine hTk 15 13 hHeld ?_
      refine wpAnyH_done (by kernel_rfl) (NoPanic.normal ?_) _
      clear hHeld
      go_wp2_with fail
      go_meet
      exact ⟨kt, g7, ao7, cap7, rfl, rfl, Q5.out, hv7.out, Nat.lt_of_lt_of_le hg9.out.1 hsw.out, hg9.out.2.imp id (fun e => ⟨e.1, e.2.1, fun x hx => by
        have := e.2.2
        simp only [List.mem_cons, List.not_mem_nil, or_false] at hx
        rcases hx with rfl | rfl | rfl
        · exact this.1
        · exact this.2.1
        · exact this.2.2⟩)⟩
    · go_simp
      have hne := hide (And.intro (bz_get Q0.out.x (k := kl) (o := ltR l) (by simp)).1 (bz_get Q0.out.x (k := kd) (o := d3R d0 d1 d2) (by simp)).1)
      have Q3 := hide (Q0.out.new (bunR bun0))
      replace hbx := hide (hbx.out.alloc hbx.out.size (bunR bun0))
      skip
      obtain ⟨kt, ekt⟩ : ∃ kt, w1.heap.size = kt := ⟨_, rfl⟩
      obtain ⟨w3, ew⟩ : ∃ W, w1.alloc (bunR bun0) = W := ⟨_, rfl⟩
      rw [ew, ekt] at Q3
      rw [ew] at hbx
      skip
      rw [ekt] at hne ⊢
      dsimp only [bunR] at ew
      rw [ew]
      clear ew
      obtain ⟨a9, b3⟩ : w3.cell? ⟨q, 9, none⟩ = some (.slice (some ⟨B.mg, o1, none⟩) n cap1) ∧ w3.cell? ⟨kl, 3, none⟩ = some (.int .i64 l.q) := ⟨(hat.out w3 hbx.out).1, (lt_at (bz_get Q3.out.x (k := kl) (o := ltR l) (by simp)).2).c3⟩
      refine hK.out _ _ ?_ fun hHeld => ?_
      · exact ⟨a9, b3⟩
      clear hK K
      try simp only [Act.put, za, zb, zc]
      clear a9 b3
      refine hNo 9 fun K hK => ?_
      go_simp
      go_at_call 33
      refine (refTake_c _ B.mg _ l.q r.n r.o r.v D.M _ (hat.out w3 hbx.out).2.1 Q3.out.n.inv (by omega) g hg M' hM').mono ?_
      rintro e w4 ⟨v7, rfl, g7, hv7, hg7, hb7⟩
      obtain ⟨ao7, cap7, e7, -⟩ := id hv7
      rw [hlen.out, hn.out] at e7
      subst e7
      have hg8 : Hid (g7 < w4.heap.size ∧ (g7 = B.mg ∨ w3.heap.size ≤ g7)) := hide ⟨hv7.lt_ofB (by have := hjM.out; have := hlen.out; intro e; rw [e] at this; simp at this; omega), hg7⟩
      have hnfV := hide (fun x (e : w3.heap.size ≤ x) => Q3.out.nf e)
      have hszV := hide Q3.out.s.fr.size
      have Q4 := hide (Q3.out.below hb7)
      replace hbx := hide (hbx.out.trans (hb7.mono hbx.out.size))
      replace hv7 := hide hv7
      clear hb7 hg7
      have hg9 : Hid (g7 < w4.heap.size ∧ (g7 = B.mg ∨ (¬ Fd q B F g7 ∧ w.heap.size ≤ g7 ∧ kt ≠ g7 ∧ kd ≠ g7 ∧ kl ≠ g7))) := hide (by
        obtain ⟨x1, x2⟩ := hg8.out
        have h5 := (bz_get Q3.out.x (k := kt) (o := bunR bun0) (by simp)).1
        have h6 := (bz_get Q3.out.x (k := kd) (o := d3R d0 d1 d2) (by simp)).1
        have h7 := (bz_get Q3.out.x (k := kl) (o := ltR l) (by simp)).1
        refine ⟨x1, x2.imp id (fun e => ⟨hnfV.out _ e, Nat.le_trans hszV.out e, ?_, ?_, ?_⟩)⟩ <;> omega)
      clear ekt
      obtain ⟨a9, b3⟩ : w4.cell? ⟨q, 9, none⟩ = some (.slice (some ⟨B.mg, o1, none⟩) n cap1) ∧ w4.cell? ⟨kl, 3, none⟩ = some (.int .i64 l.q) := ⟨(hat.out w4 hbx.out).1, (lt_at (bz_get Q4.out.x (k := kl) (o := ltR l) (by simp)).2).c3⟩
      refine hK.out _ _ ?_ fun hHeld => ?_
      · exact ⟨a9, b3⟩
      clear hK K
      try simp only [Act.put, za, zb, zc]
      clear a9 b3
      refine hTk 10 96 hHeld ?_
      refine hTk 11 107 hHeld ?_
      refine hTk 12 108 hHeld ?_
      obtain ⟨hkt, bkt⟩ := bz_get Q4.out.x (k := kt) (o := bunR bun0) (by simp)
      have y0 : w4.cell? ⟨kt, 0, none⟩ = some (.int .i64 0) := cell_of_row _ _ _ _ _ _ bkt
      have y1 : w4.cell? ⟨kt, 1, none⟩ = some (.bool false) := cell_of_row _ _ _ _ _ _ bkt
      have y2 : w4.cell? ⟨kt, 2, none⟩ = some (.bool false) := cell_of_row _ _ _ _ _ _ bkt
      have y3 : w4.cell? ⟨kt, 3, none⟩ = some (.int .i64 0) := cell_of_row _ _ _ _ _ _ bkt
      have zt : ∀ i, w4.frozen? ⟨kt, i, none⟩ = false := fun i => frozen_of_row _ _ _ _ _ bkt
      refine hNo 14 fun K hK => ?_
      go_simp
      have hk2 : ∀ x ∈ [(kd, d3R d0 d1 d2), (kl, ltR l)], x.1 ≠ kt := fun x hx => by
        simp only [List.mem_cons, List.not_mem_nil, or_false] at hx
        have := hne.out
        rcases hx with rfl | rfl <;> (dsimp only; omega)
      have hkm : kt ≠ B.mg := fun e => (Q4.out.x (kt, bunR bun0) (by simp)).2.2.1 (.inr (.inr (.inr e)))
      have hkq : kt ≠ q := fun e => (Q4.out.x (kt, bunR bun0) (by simp)).2.2.1 (.inr (.inl e))
      have hkg : kt ≠ g7 := by
        rcases hg9.out.2 with e | e
        · rw [e]; exact hkm
        · exact e.2.2.1
      have Q5 := hide (ar_setB Q4.out hk2 g)
      have hwr : FrS (· = kt) w4 ((((w4.setCell ⟨kt, 0, none⟩ (.int .i64 g.n)).setCell ⟨kt, 1, none⟩ (.bool g.o)).setCell ⟨kt, 2, none⟩ (.bool g.h)).setCell ⟨kt, 3, none⟩ (.int .i64 g.d)) := wrK (wrK (wrK (wrK (FrS.refl _ _) _) _) _) _
      replace hv7 := hide (hv7.out.fr hwr (fun _ e => hkg e.symm))
      have a9' := (hat.out w4 hbx.out).1
      replace a9' := keep_cell (hwr.block q Q4.out.n.pl (fun e => hkq e.symm)) a9'
      have hsw := hide hwr.size
      obtain ⟨w5, ew⟩ : ∃ W, (((w4.setCell ⟨kt, 0, none⟩ (.int .i64 g.n)).setCell ⟨kt, 1, none⟩ (.bool g.o)).setCell ⟨kt, 2, none⟩ (.bool g.h)).setCell ⟨kt, 3, none⟩ (.int .i64 g.d) = W := ⟨_, rfl⟩
      rw [ew] at Q5 hv7 a9' hsw ⊢
      clear ew y0 y1 y2 y3 zt bkt hkt Q4 hwr
      have b3 := (lt_at (bz_get Q5.out.x (k := kl) (o := ltR l) (by simp)).2).c3
      refine hK.out _ _ ?_ fun hHeld => ?_
      · exact ⟨a9', b3⟩
      clear hK K
      try simp only [Act.put, za, zb, zc]
      clear b3
      refine hTk 15 13 hHeld ?_
      refine wpAnyH_done (by kernel_rfl) (NoPanic.normal ?_) _
      clear hHeld
      go_wp2_with fail
      go_meet
      exact ⟨kt, g7, ao7, cap7, rfl, rfl, Q5.out, hv7.out, Nat.lt_of_lt_of_le hg9.out.1 hsw.out, hg9.out.2.imp id (fun e => ⟨e.1, e.2.1, fun x hx => by
        have := e.2.2
        simp only [List.mem_cons, List.not_mem_nil, or_false] at hx
        rcases hx with rfl | rfl | rfl
        · exact this.1
        · exact this.2.1
        · exact this.2.2⟩)⟩
  case rest =>
    clear a9 b3 Q5 hbx hat
    obtain ⟨kt, g7, ao7, cap7, rfl, rfl, Q6, hv7, hg7, hg8⟩ := hcut
    obtain ⟨w6, ew⟩ : ∃ w6, wc = w6 := ⟨_, rfl⟩
    subst ew
    obtain ⟨ao, cap, a9, -⟩ := Q6.n.mem
    rw [hn.out] at a9
    have zq := Q6.n.at'.fz 9
    have hpl := Q6.n.pl
    have Q8 := hide (Q6.setM (M := N + 1) hv7 hg7 hg8 hI'.out hlen.out (Nat.le_succ N))
    rw [eD.out] at Q8
    clear hv7 hg7 hg8 Q6
    go_upto_region 13 with fail
    clear a9 zq hpl
    obtain ⟨w8, ew⟩ : ∃ W, wc.setCell ⟨q, 9, none⟩ (.slice ao7 n cap7) = W := ⟨_, rfl⟩
    rw [ew] at Q8 ⊢
    clear ew wc
    obtain ⟨hkt, bkt⟩ := bz_get Q8.out.x (k := kt) (o := bunR g) (by simp)
    obtain ⟨hkl, bkl⟩ := bz_get Q8.out.x (k := kl) (o := ltR l) (by simp)
    have t0 : w8.cell? ⟨kt, 0, none⟩ = some (.int .i64 g.n) := cell_of_row _ _ _ _ _ _ bkt
    have t1 : w8.cell? ⟨kt, 1, none⟩ = some (.bool g.o) := cell_of_row _ _ _ _ _ _ bkt
    have t2 : w8.cell? ⟨kt, 2, none⟩ = some (.bool g.h) := cell_of_row _ _ _ _ _ _ bkt
    have t3 : w8.cell? ⟨kt, 3, none⟩ = some (.int .i64 g.d) := cell_of_row _ _ _ _ _ _ bkt
    have b1 := (lt_at bkl).c1
    have b3 := (lt_at bkl).c3
    have hpl := Q8.out.n.pl
    have hszc := Q8.out.s.fr.size
    clear bkt bkl
    go_wp2_with (go_at_call 30; refine (rhSend_c q _ F c (N + 1) D' l.a l.q g _ Q8.out.n hg0.out L hL').mono ?_; rintro e w9 ⟨v9, rfl, g9, ow9, hg9, hb9⟩; have Q9 := hide (Q8.out.below hb9); replace ow9 := hide ow9; clear hb9)
    go_ret
    exact ⟨_, rfl, _, F, g9, rut_fin Q9.out ow9.out (by omega) (Q8.out.nf hg9)⟩
set_option maxHeartbeats 4000000 in
theorem rhTk3_c (q : Nat) (B : Bd) (F : Nat → Prop) (c : Cf) (N : Nat) (D : Hm) (l : Lt) (d0 d1 d2 : Int) (w : World) (h : RhIs w q B F c N D) (hN1 : N + 2 ≤ 100000) (hno : htOk c l = true) (kk : l.k = 3) (L : List Lt) (hL : Hid (hPerL c D l = L)) : Calls Tryd.prog 14 #[ptr q, .agg #[.int .i64 l.k, .int .i64 l.a, .int .i64 l.b, .int .i64 l.q, .int .i64 l.s, .int .i64 l.w, .bool l.r, .int .i64 l.n, .bool l.o, .bool l.h, .int .i64 l.d], .agg #[.int .i64 d0, .int .i64 d1, .int .i64 d2]] w fun e w' => ∃ v, e = .returned v ∧ ∃ B' F' g, RutP w q B B' F F' c (N + 1) (nxHPer c D l) L v w' g := by
  have hH := hide h
  obtain ⟨z, hz⟩ : ∃ z, Hid (letterZ c.n c.bl c.tt ⟨l.k, l.a, l.b, l.q, l.s, l.w, l.r, ⟨l.n, l.o, l.h, l.d⟩⟩ = z) := ⟨_, rfl⟩
  obtain ⟨ez, eb⟩ : z = 0 ∧ l.b = c.n := by
    unfold htOk at hno
    simp only [Bool.and_eq_true, decide_eq_true_eq] at hno
    exact ⟨by rw [← hz.out]; exact hno.1, hno.2⟩
  have hle0 : lerr c l = 0 := by rw [← hz.out] at ez; exact ez
  have hqq := lerr_q hle0
  obtain ⟨j, hj⟩ : ∃ j : Nat, l.q = j := ⟨l.q.toNat, by omega⟩
  have hjM : Hid (j < D.M.length) := hide (by have := h.ml; have := h.ok.b0; omega)
  have hjL : Hid (j < D.L.length) := hide (by have := h.al; have := h.ok.b0; omega)
  have hq1 : hasM D.M l.q = true := by rw [hj]; exact hasM_nat hjM.out
  obtain ⟨ok, hok⟩ : ∃ ok, Hid (okAsk c.n.toNat D.L l.q l.a = ok) := ⟨_, rfl⟩
  obtain ⟨a, ha⟩ : ∃ a, Hid (atAsk c.n.toNat D.L l.q l.a = a) := ⟨_, rfl⟩
  obtain ⟨D2, hD2⟩ : ∃ D2, Hid (hPerD c D l = D2) := ⟨_, rfl⟩
  have hL' : Hid (hActL c D2 a ok = L) := hide (by rw [← hL.out, ← hD2.out, ← ha.out, ← hok.out]; rfl)
  obtain ⟨D', hD'⟩ : ∃ D', Hid (nxHPer c D l = D') := ⟨_, rfl⟩
  have eD : Hid (nxHAct D2 a ok = D') := hide (by rw [← hD'.out, ← hD2.out, ← ha.out, ← hok.out]; rfl)
  have hab : Hid (ok = true → a = ⟨(j : Int), a.n, a.s⟩) := hide (fun e => by
    have h4 := (atAsk_b (hok.out.trans e)).1
    rw [ha.out] at h4
    rw [← hj, ← h4])
  have hj2 : Hid (j < D2.M.length) := hide (by rw [← hD2.out]; exact hjM.out)
  rw [hD'.out]
  clear hL hD'
  obtain ⟨h1, h2, h3⟩ := cmpT ez
  obtain ⟨f1, f2, f3⟩ := cmpT eb
  obtain ⟨m1, n1, o1⟩ := cmpF (show ¬ l.k = 1 by omega)
  obtain ⟨m2, n2, o2⟩ := cmpF (show ¬ l.k = 2 by omega)
  obtain ⟨m3, n3, o3⟩ := cmpT kk
  replace ez := hide ez
  replace eb := hide eb
  replace kk := hide kk
  replace hj := hide hj
  clear hno h hqq hle0 hq1
  go_enter Tryd.func14, Tryd.ntmps14
  go_upto_region 1 with fail
  refine name_world ?_
  intro V hV
  have Q1 : Hid (Ar w V q B B F F c N D [(w.heap.size + 1, d3R d0 d1 d2), (w.heap.size, ltR l)]) := by rw [← hV]; exact hide (ar_box hH.out l d0 d1 d2)
  obtain ⟨kd, hde⟩ : ∃ kd, Hid (w.heap.size + 1 = kd) := ⟨_, rfl⟩
  obtain ⟨kl, hle⟩ : ∃ kl, Hid (w.heap.size = kl) := ⟨_, rfl⟩
  rw [hde.out, hle.out] at Q1
  rw [hde.out, hle.out]
  clear hV
  have A1 := Q1.out.n.at'
  obtain ⟨b0, b1, b2, b3, b4, b5, b6, b7, b8, b9, b10⟩ := lt_at (bz_get Q1.out.x (k := kl) (o := ltR l) (by simp)).2
  go_wp2_with fail
  refine wp_region_noPanic ?_
  refine wp_region_held_drew (S := (fun w' => w'.cell? ⟨kl, 0, none⟩ = some (.int .i64 l.k) ∧ w'.cell? ⟨kl, 1, none⟩ = some (.int .i64 l.a) ∧ w'.cell? ⟨kl, 2, none⟩ = some (.int .i64 l.b) ∧ w'.cell? ⟨kl, 3, none⟩ = some (.int .i64 l.q) ∧ w'.cell? ⟨kl, 4, none⟩ = some (.int .i64 l.s) ∧ w'.cell? ⟨kl, 5, none⟩ = some (.int .i64 l.w) ∧ w'.cell? ⟨kl, 6, none⟩ = some (.bool l.r) ∧ w'.cell? ⟨kl, 7, none⟩ = some (.int .i64 l.n) ∧ w'.cell? ⟨kl, 8, none⟩ = some (.bool l.o) ∧ w'.cell? ⟨kl, 9, none⟩ = some (.bool l.h) ∧ w'.cell? ⟨kl, 10, none⟩ = some (.int .i64 l.d) ∧ w'.cell? ⟨q, 0, none⟩ = some (.int .i64 c.n) ∧ w'.cell? ⟨q, 1, none⟩ = some (.int .i64 c.bl) ∧ w'.cell? ⟨q, 2, none⟩ = some (.int .i64 c.tt) ∧ w'.cell? ⟨q, 3, none⟩ = some (.int .i64 c.cs) ∧ w'.cell? ⟨q, 4, none⟩ = some (.int .i64 c.cy) ∧ w'.cell? ⟨q, 5, none⟩ = some (.int .i64 c.cc) ∧ w'.cell? ⟨q, 6, none⟩ = some (.int .i64 c.cu) ∧ w'.cell? ⟨q, 7, none⟩ = some (.int .i64 c.ct) ∧ w'.cell? ⟨q, 8, none⟩ = some (.int .i64 c.cp))) (by kernel_rfl) ?_ (fun hHeld => ?_)
  · exact ⟨b0, b1, b2, b3, b4, b5, b6, b7, b8, b9, b10, A1.c0, A1.c1, A1.c2, A1.c3, A1.c4, A1.c5, A1.c6, A1.c7, A1.c8⟩
  clear A1 b0 b1 b2 b3 b4 b5 b6 b7 b8 b9 b10
  refine hTk 0 18 hHeld ?_
  refine hTk 1 19 hHeld ?_
  refine hTk 2 20 hHeld ?_
  refine hTk 3 21 hHeld ?_
  refine hTk 4 22 hHeld ?_
  refine hNo 5 fun K hK => ?_
  go_simp
  go_at_call 23
  refine (refCheck_c c.n c.bl c.tt c.cs c.cy c.cc c.cu c.ct c.cp l.k l.a l.b l.q l.s l.w l.r l.n l.o l.h l.d _ z hz).mono ?_
  rintro e w2 ⟨rfl, hb2⟩
  have Q2 : Hid (Ar w w2 q B B F F c N D [(kd, d3R d0 d1 d2), (kl, ltR l)]) := hide (Q1.out.below (((Below.refl _ _).drew).trans hb2))
  have A1 := Q2.out.n.at'
  obtain ⟨b0, b1, b2, b3, b4, b5, b6, b7, b8, b9, b10⟩ := lt_at (bz_get Q2.out.x (k := kl) (o := ltR l) (by simp)).2
  refine hK.out _ _ ?_ fun hHeld => ?_
  · exact ⟨b0, b1, b2, b3, b4, b5, b6, b7, b8, b9, b10, A1.c0, A1.c1, A1.c2, A1.c3, A1.c4, A1.c5, A1.c6, A1.c7, A1.c8⟩
  clear hK K
  try simp only [Act.put, za, zb, zc]
  clear A1 hb2 Q1
  refine hVl 6 24 (.bool false) hHeld (fun wz hSw => ?_) ?_
  · try dsimp only at hSw
    go_simp
  refine hTk 7 25 hHeld ?_
  refine hTk 8 26 hHeld ?_
  refine hTk 9 27 hHeld ?_
  refine hTk 10 28 hHeld ?_
  refine hTk 11 29 hHeld ?_
  refine hTk 12 30 hHeld ?_
  refine hTk 13 31 hHeld ?_
  refine hTk 14 32 hHeld ?_
  refine hVl 15 33 (.bool false) hHeld (fun wz hSw => ?_) ?_
  · try dsimp only at hSw
    go_simp
  refine hTk 16 34 hHeld ?_
  refine wpAnyH_done (by kernel_rfl) (NoPanic.normal ?_) _
  clear hHeld
  have b0 := (lt_at (bz_get Q2.out.x (k := kl) (o := ltR l) (by simp)).2).c0
  have hkl := (bz_get Q2.out.x (k := kl) (o := ltR l) (by simp)).1
  obtain ⟨a10, b1, b3⟩ : w2.cell? ⟨q, 10, none⟩ = some (ptr B.qa) ∧ w2.cell? ⟨kl, 1, none⟩ = some (.int .i64 l.a) ∧ w2.cell? ⟨kl, 3, none⟩ = some (.int .i64 l.q) := ⟨Q2.out.n.at'.c10, (lt_at (bz_get Q2.out.x (k := kl) (o := ltR l) (by simp)).2).c1, (lt_at (bz_get Q2.out.x (k := kl) (o := ltR l) (by simp)).2).c3⟩
  go_upto_region 15 with fail
  go_cut [14, 15] (fun sk si wx => ∃ kt F2, sk = ptr kt ∧ si = .bool ok ∧ Ar w wx q B B F F2 c (N + 1) D2 [(kt, resO a), (kd, d3R d0 d1 d2), (kl, ltR l)])
  case first =>
    go_wp2_with fail
    refine wp_region_noPanic ?_
    refine wp_region_held_drew (S := (fun w' => w'.cell? ⟨q, 10, none⟩ = some (ptr B.qa) ∧ w'.cell? ⟨kl, 1, none⟩ = some (.int .i64 l.a) ∧ w'.cell? ⟨kl, 3, none⟩ = some (.int .i64 l.q))) (by kernel_rfl) ?_ (fun hHeld => ?_)
    · exact ⟨a10, b1, b3⟩
    clear a10 b1 b3
    refine hTk 0 123 hHeld ?_
    refine hTk 1 124 hHeld ?_
    refine hTk 2 125 hHeld ?_
    refine hTk 3 126 hHeld ?_
    refine hTk 4 127 hHeld ?_
    refine hTk 5 128 hHeld ?_
    refine hTk 6 129 hHeld ?_
    refine hTk 7 130 hHeld ?_
    have Q0 : Hid (Ar w w2.drew q B B F F c N D [(kd, d3R d0 d1 d2), (kl, ltR l)]) := hide (Q2.out.below (belowN (Below.refl _ _) 1))
    obtain ⟨w1, hw1⟩ : ∃ w1, w2.drew = w1 := ⟨_, rfl⟩
    rw [hw1] at hHeld Q0 ⊢
    clear hw1 Q2 b0 hkl
    refine hTwo 8 12 (fun K hK => ?_) fun K hK => ?_
    · go_simp
      go_at_call 34
      refine (dAsk_c B.qa B.qh _ N D.L F l.q l.a _ Q0.out.n.arb (by omega) a ha ok hok).mono ?_
      rintro e w3 ⟨rfl, F2, ha2, hs2⟩
      obtain ⟨n2, s2⟩ := Q0.out.n.setL ha2 (nxAsk_len _ _ _ _) hs2 (Nat.le_succ N)
      replace n2 : RhIs w3 q B F2 c (N + 1) D2 := by rw [← hD2.out]; exact n2
      have Q3 := hide (Q0.out.step n2 s2)
      clear ha2 hs2 n2 s2
      obtain ⟨a10, b1, b3⟩ : w3.cell? ⟨q, 10, none⟩ = some (ptr B.qa) ∧ w3.cell? ⟨kl, 1, none⟩ = some (.int .i64 l.a) ∧ w3.cell? ⟨kl, 3, none⟩ = some (.int .i64 l.q) := ⟨Q3.out.n.at'.c10, (lt_at (bz_get Q3.out.x (k := kl) (o := ltR l) (by simp)).2).c1, (lt_at (bz_get Q3.out.x (k := kl) (o := ltR l) (by simp)).2).c3⟩
      refine hK.out _ _ ?_ fun hHeld => ?_
      · exact ⟨a10, b1, b3⟩
      clear hK K
      try simp only [Act.put, za, zb, zc]
      clear a10 b1 b3
      refine hTk 9 122 hHeld ?_
      refine hTk 10 132 hHeld ?_
      refine hTk 11 133 hHeld ?_
      refine hNo 12 fun K hK => ?_
      go_simp
      have hne := hide (And.intro (bz_get Q3.out.x (k := kl) (o := ltR l) (by simp)).1 (bz_get Q3.out.x (k := kd) (o := d3R d0 d1 d2) (by simp)).1)
      have Q4 := hide (Q3.out.new (resO at0))
      obtain ⟨kt, ekt⟩ : ∃ kt, w3.heap.size = kt := ⟨_, rfl⟩
      obtain ⟨w4, ew⟩ : ∃ W, w3.alloc (resO at0) = W := ⟨_, rfl⟩
      rw [ew, ekt] at Q4
      rw [ekt] at hne ⊢
      dsimp only [resO] at ew
      rw [ew]
      clear ew ekt
      obtain ⟨a10, b1, b3⟩ : w4.cell? ⟨q, 10, none⟩ = some (ptr B.qa) ∧ w4.cell? ⟨kl, 1, none⟩ = some (.int .i64 l.a) ∧ w4.cell? ⟨kl, 3, none⟩ = some (.int .i64 l.q) := ⟨Q4.out.n.at'.c10, (lt_at (bz_get Q4.out.x (k := kl) (o := ltR l) (by simp)).2).c1, (lt_at (bz_get Q4.out.x (k := kl) (o := ltR l) (by simp)).2).c3⟩
      refine hK.out _ _ ?_ fun hHeld => ?_
      · exact ⟨a10, b1, b3⟩
      clear hK K
      try simp only [Act.put, za, zb, zc]
      clear a10 b1 b3
      obtain ⟨hkt, bkt⟩ := bz_get Q4.out.x (k := kt) (o := resO at0) (by simp)
      have y0 : w4.cell? ⟨kt, 0, none⟩ = some (.int .i64 0) := cell_of_row _ _ _ _ _ _ bkt
      have y1 : w4.cell? ⟨kt, 1, none⟩ = some (.int .i64 0) := cell_of_row _ _ _ _ _ _ bkt
      have y2 : w4.cell? ⟨kt, 2, none⟩ = some (.int .i64 0) := cell_of_row _ _ _ _ _ _ bkt
      have zt : ∀ i, w4.frozen? ⟨kt, i, none⟩ = false := fun i => frozen_of_row _ _ _ _ _ bkt
      refine hNo 13 fun K hK => ?_
      go_simp
      have Q5 : Hid (Ar w (setA w4 kt a) q B B F F2 c (N + 1) (D2) [(kt, resO a), (kd, d3R d0 d1 d2), (kl, ltR l)]) := hide (ar_setA Q4.out (fun x hx => by
        simp only [List.mem_cons, List.not_mem_nil, or_false] at hx
        have := hne.out
        rcases hx with rfl | rfl
        · dsimp only; omega
        · dsimp only; omega) a)
      obtain ⟨w5, ew⟩ : ∃ W, setA w4 kt a = W := ⟨_, rfl⟩
      dsimp only [setA] at ew Q5
      rw [ew] at Q5 ⊢
      clear ew y0 y1 y2 zt bkt hkt Q4
      obtain ⟨a10, b1, b3⟩ : w5.cell? ⟨q, 10, none⟩ = some (ptr B.qa) ∧ w5.cell? ⟨kl, 1, none⟩ = some (.int .i64 l.a) ∧ w5.cell? ⟨kl, 3, none⟩ = some (.int .i64 l.q) := ⟨Q5.out.n.at'.c10, (lt_at (bz_get Q5.out.x (k := kl) (o := ltR l) (by simp)).2).c1, (lt_at (bz_get Q5.out.x (k := kl) (o := ltR l) (by simp)).2).c3⟩
      refine hK.out _ _ ?_ fun hHeld => ?_
      · exact ⟨a10, b1, b3⟩
      clear hK K
      try simp only [Act.put, za, zb, zc]
      clear a10 b1 b3
      refine hTk 14 15 hHeld ?_
      refine wpAnyH_done (by kernel_rfl) (NoPanic.normal ?_) _
      clear hHeld
      go_wp2_with fail
      go_meet
      exact ⟨kt, F2, rfl, rfl, Q5.out⟩
    · go_simp
      have hne := hide (And.intro (bz_get Q0.out.x (k := kl) (o := ltR l) (by simp)).1 (bz_get Q0.out.x (k := kd) (o := d3R d0 d1 d2) (by simp)).1)
      have Q3 := hide (Q0.out.new (resO at0))
      obtain ⟨kt, ekt⟩ : ∃ kt, w1.heap.size = kt := ⟨_, rfl⟩
      obtain ⟨w3, ew⟩ : ∃ W, w1.alloc (resO at0) = W := ⟨_, rfl⟩
      rw [ew, ekt] at Q3
      rw [ekt] at hne ⊢
      dsimp only [resO] at ew
      rw [ew]
      clear ew ekt
      obtain ⟨a10, b1, b3⟩ : w3.cell? ⟨q, 10, none⟩ = some (ptr B.qa) ∧ w3.cell? ⟨kl, 1, none⟩ = some (.int .i64 l.a) ∧ w3.cell? ⟨kl, 3, none⟩ = some (.int .i64 l.q) := ⟨Q3.out.n.at'.c10, (lt_at (bz_get Q3.out.x (k := kl) (o := ltR l) (by simp)).2).c1, (lt_at (bz_get Q3.out.x (k := kl) (o := ltR l) (by simp)).2).c3⟩
      refine hK.out _ _ ?_ fun hHeld => ?_
      · exact ⟨a10, b1, b3⟩
      clear hK K
      try simp only [Act.put, za, zb, zc]
      clear a10 b1 b3
      refine hNo 8 fun K hK => ?_
      go_simp
      go_at_call 34
      refine (dAsk_c B.qa B.qh _ N D.L F l.q l.a _ Q3.out.n.arb (by omega) a ha ok hok).mono ?_
      rintro e w4 ⟨rfl, F2, ha2, hs2⟩
      obtain ⟨n2, s2⟩ := Q3.out.n.setL ha2 (nxAsk_len _ _ _ _) hs2 (Nat.le_succ N)
      replace n2 : RhIs w4 q B F2 c (N + 1) D2 := by rw [← hD2.out]; exact n2
      have Q4 := hide (Q3.out.step n2 s2)
      clear ha2 hs2 n2 s2
      obtain ⟨a10, b1, b3⟩ : w4.cell? ⟨q, 10, none⟩ = some (ptr B.qa) ∧ w4.cell? ⟨kl, 1, none⟩ = some (.int .i64 l.a) ∧ w4.cell? ⟨kl, 3, none⟩ = some (.int .i64 l.q) := ⟨Q4.out.n.at'.c10, (lt_at (bz_get Q4.out.x (k := kl) (o := ltR l) (by simp)).2).c1, (lt_at (bz_get Q4.out.x (k := kl) (o := ltR l) (by simp)).2).c3⟩
      refine hK.out _ _ ?_ fun hHeld => ?_
      · exact ⟨a10, b1, b3⟩
      clear hK K
      try simp only [Act.put, za, zb, zc]
      clear a10 b1 b3
      refine hTk 9 122 hHeld ?_
      refine hTk 10 132 hHeld ?_
      refine hTk 11 133 hHeld ?_
      obtain ⟨hkt, bkt⟩ := bz_get Q4.out.x (k := kt) (o := resO at0) (by simp)
      have y0 : w4.cell? ⟨kt, 0, none⟩ = some (.int .i64 0) := cell_of_row _ _ _ _ _ _ bkt
      have y1 : w4.cell? ⟨kt, 1, none⟩ = some (.int .i64 0) := cell_of_row _ _ _ _ _ _ bkt
      have y2 : w4.cell? ⟨kt, 2, none⟩ = some (.int .i64 0) := cell_of_row _ _ _ _ _ _ bkt
      have zt : ∀ i, w4.frozen? ⟨kt, i, none⟩ = false := fun i => frozen_of_row _ _ _ _ _ bkt
      refine hNo 13 fun K hK => ?_
      go_simp
      have Q5 : Hid (Ar w (setA w4 kt a) q B B F F2 c (N + 1) (D2) [(kt, resO a), (kd, d3R d0 d1 d2), (kl, ltR l)]) := hide (ar_setA Q4.out (fun x hx => by
        simp only [List.mem_cons, List.not_mem_nil, or_false] at hx
        have := hne.out
        rcases hx with rfl | rfl
        · dsimp only; omega
        · dsimp only; omega) a)
      obtain ⟨w5, ew⟩ : ∃ W, setA w4 kt a = W := ⟨_, rfl⟩
      dsimp only [setA] at ew Q5
      rw [ew] at Q5 ⊢
      clear ew y0 y1 y2 zt bkt hkt Q4
      obtain ⟨a10, b1, b3⟩ : w5.cell? ⟨q, 10, none⟩ = some (ptr B.qa) ∧ w5.cell? ⟨kl, 1, none⟩ = some (.int .i64 l.a) ∧ w5.cell? ⟨kl, 3, none⟩ = some (.int .i64 l.q) := ⟨Q5.out.n.at'.c10, (lt_at (bz_get Q5.out.x (k := kl) (o := ltR l) (by simp)).2).c1, (lt_at (bz_get Q5.out.x (k := kl) (o := ltR l) (by simp)).2).c3⟩
      refine hK.out _ _ ?_ fun hHeld => ?_
      · exact ⟨a10, b1, b3⟩
      clear hK K
      try simp only [Act.put, za, zb, zc]
      clear a10 b1 b3
      refine hTk 14 15 hHeld ?_
      refine wpAnyH_done (by kernel_rfl) (NoPanic.normal ?_) _
      clear hHeld
      go_wp2_with fail
      go_meet
      exact ⟨kt, F2, rfl, rfl, Q5.out⟩
  case rest =>
    clear a10 b1 b3 Q2 b0 hkl
    obtain ⟨kt, F2, rfl, rfl, Q5⟩ := hcut
    obtain ⟨w5, ew⟩ : ∃ w5, wc = w5 := ⟨_, rfl⟩
    subst ew
    replace Q5 := hide Q5
    obtain ⟨hkt, bkt⟩ := bz_get Q5.out.x (k := kt) (o := resO a) (by simp)
    obtain ⟨hkl, bkl⟩ := bz_get Q5.out.x (k := kl) (o := ltR l) (by simp)
    have hpl := Q5.out.n.pl
    have hlo := hide (And.intro (Q5.out.x (kl, ltR l) (by simp)).1 (Q5.out.x (kl, ltR l) (by simp)).2.2.1)
    have hszc := Q5.out.s.fr.size
    cases ok
    · have hL2 : [] = L := hL'.out
      subst hL2
      obtain rfl : D2 = D' := eD.out
      clear bkt bkl
      go_wp2_with fail
      go_ret
      exact ⟨_, rfl, B, F2, kl, rut_fin Q5.out (own_nilT hkl) hlo.out.1 hlo.out.2⟩
    · have ea := hab.out rfl
      obtain ⟨an, han⟩ : ∃ x, Hid (a.n = x) := ⟨_, rfl⟩
      obtain ⟨sn, hsn⟩ : ∃ x, Hid (a.s = x) := ⟨_, rfl⟩
      rw [han.out, hsn.out] at ea
      have eD2 : Hid (nxHAct D2 ⟨j, an, sn⟩ true = D') := hide (by rw [← ea]; exact eD.out)
      have hL2 : Hid (hActL c D2 ⟨j, an, sn⟩ true = L) := hide (by rw [← ea]; exact hL'.out)
      have g0 : wc.cell? ⟨kt, 0, none⟩ = some (.int .i64 j) := by rw [ea] at bkt; exact cell_of_row _ _ _ _ _ _ bkt
      have g1 : wc.cell? ⟨kt, 1, none⟩ = some (.int .i64 an) := by rw [ea] at bkt; exact cell_of_row _ _ _ _ _ _ bkt
      have g2 : wc.cell? ⟨kt, 2, none⟩ = some (.int .i64 sn) := by rw [ea] at bkt; exact cell_of_row _ _ _ _ _ _ bkt
      clear bkt bkl ea eD hL' hab
      go_wp2_with (go_at_call 35; refine (rhBegin_c q B F2 c (N + 1) D2 j an sn _ Q5.out.n hj2.out L hL2).mono ?_; rintro e w6 ⟨v6, rfl, B6, g6, hO⟩; have Q6 := hide (Q5.out.step hO.nd hO.st); rw [eD2.out] at Q6; replace hO := hide hO)
      go_ret
      exact ⟨_, rfl, B6, F2, g6, rut_fin Q6.out hO.out.own (Nat.le_trans hszc hO.out.new) hO.out.nf⟩
set_option maxHeartbeats 4000000 in
theorem rhTk5_c (q : Nat) (B : Bd) (F : Nat → Prop) (c : Cf) (N : Nat) (D : Hm) (l : Lt) (d0 d1 d2 : Int) (w : World) (h : RhIs w q B F c N D) (hN1 : N + 2 ≤ 100000) (hno : htOk c l = true) (kk : l.k = 5) (L : List Lt) (hL : Hid (hDoneL c D l = L)) : Calls Tryd.prog 14 #[ptr q, .agg #[.int .i64 l.k, .int .i64 l.a, .int .i64 l.b, .int .i64 l.q, .int .i64 l.s, .int .i64 l.w, .bool l.r, .int .i64 l.n, .bool l.o, .bool l.h, .int .i64 l.d], .agg #[.int .i64 d0, .int .i64 d1, .int .i64 d2]] w fun e w' => ∃ v, e = .returned v ∧ ∃ B' F' g, RutP w q B B' F F' c (N + 1) (nxHDone D l) L v w' g := by
  have hH := hide h
  obtain ⟨z, hz⟩ : ∃ z, Hid (letterZ c.n c.bl c.tt ⟨l.k, l.a, l.b, l.q, l.s, l.w, l.r, ⟨l.n, l.o, l.h, l.d⟩⟩ = z) := ⟨_, rfl⟩
  obtain ⟨ez, eb⟩ : z = 0 ∧ l.b = c.n := by
    unfold htOk at hno
    simp only [Bool.and_eq_true, decide_eq_true_eq] at hno
    exact ⟨by rw [← hz.out]; exact hno.1, hno.2⟩
  have hle0 : lerr c l = 0 := by rw [← hz.out] at ez; exact ez
  have hqq := lerr_q hle0
  obtain ⟨j, hj⟩ : ∃ j : Nat, l.q = j := ⟨l.q.toNat, by omega⟩
  have hjM : Hid (j < D.M.length) := hide (by have := h.ml; have := h.ok.b0; omega)
  have hjL : Hid (j < D.L.length) := hide (by have := h.al; have := h.ok.b0; omega)
  have hq1 : hasM D.M l.q = true := by rw [hj]; exact hasM_nat hjM.out
  have hL' := hL.out
  obtain ⟨ok, hok⟩ : ∃ ok, Hid (okDone D.L l.q l.s = ok) := ⟨_, rfl⟩
  obtain ⟨D', hD'⟩ : ∃ D', Hid (nxHDone D l = D') := ⟨_, rfl⟩
  unfold hDoneL at hL'
  rw [hok.out] at hL'
  rw [hD'.out]
  clear hL
  obtain ⟨h1, h2, h3⟩ := cmpT ez
  obtain ⟨f1, f2, f3⟩ := cmpT eb
  obtain ⟨m1, n1, o1⟩ := cmpF (show ¬ l.k = 1 by omega)
  obtain ⟨m2, n2, o2⟩ := cmpF (show ¬ l.k = 2 by omega)
  obtain ⟨m3, n3, o3⟩ := cmpF (show ¬ l.k = 3 by omega)
  obtain ⟨m5, n5, o5⟩ := cmpT kk
  replace ez := hide ez
  replace eb := hide eb
  replace kk := hide kk
  replace hj := hide hj
  clear hno h hqq hle0 hq1
  go_enter Tryd.func14, Tryd.ntmps14
  go_upto_region 1 with fail
  refine name_world ?_
  intro V hV
  have Q1 : Hid (Ar w V q B B F F c N D [(w.heap.size + 1, d3R d0 d1 d2), (w.heap.size, ltR l)]) := by rw [← hV]; exact hide (ar_box hH.out l d0 d1 d2)
  obtain ⟨kd, hde⟩ : ∃ kd, Hid (w.heap.size + 1 = kd) := ⟨_, rfl⟩
  obtain ⟨kl, hle⟩ : ∃ kl, Hid (w.heap.size = kl) := ⟨_, rfl⟩
  rw [hde.out, hle.out] at Q1
  rw [hde.out, hle.out]
  clear hV
  have A1 := Q1.out.n.at'
  obtain ⟨b0, b1, b2, b3, b4, b5, b6, b7, b8, b9, b10⟩ := lt_at (bz_get Q1.out.x (k := kl) (o := ltR l) (by simp)).2
  go_wp2_with fail
  refine wp_region_noPanic ?_
  refine wp_region_held_drew (S := (fun w' => w'.cell? ⟨kl, 0, none⟩ = some (.int .i64 l.k) ∧ w'.cell? ⟨kl, 1, none⟩ = some (.int .i64 l.a) ∧ w'.cell? ⟨kl, 2, none⟩ = some (.int .i64 l.b) ∧ w'.cell? ⟨kl, 3, none⟩ = some (.int .i64 l.q) ∧ w'.cell? ⟨kl, 4, none⟩ = some (.int .i64 l.s) ∧ w'.cell? ⟨kl, 5, none⟩ = some (.int .i64 l.w) ∧ w'.cell? ⟨kl, 6, none⟩ = some (.bool l.r) ∧ w'.cell? ⟨kl, 7, none⟩ = some (.int .i64 l.n) ∧ w'.cell? ⟨kl, 8, none⟩ = some (.bool l.o) ∧ w'.cell? ⟨kl, 9, none⟩ = some (.bool l.h) ∧ w'.cell? ⟨kl, 10, none⟩ = some (.int .i64 l.d) ∧ w'.cell? ⟨q, 0, none⟩ = some (.int .i64 c.n) ∧ w'.cell? ⟨q, 1, none⟩ = some (.int .i64 c.bl) ∧ w'.cell? ⟨q, 2, none⟩ = some (.int .i64 c.tt) ∧ w'.cell? ⟨q, 3, none⟩ = some (.int .i64 c.cs) ∧ w'.cell? ⟨q, 4, none⟩ = some (.int .i64 c.cy) ∧ w'.cell? ⟨q, 5, none⟩ = some (.int .i64 c.cc) ∧ w'.cell? ⟨q, 6, none⟩ = some (.int .i64 c.cu) ∧ w'.cell? ⟨q, 7, none⟩ = some (.int .i64 c.ct) ∧ w'.cell? ⟨q, 8, none⟩ = some (.int .i64 c.cp))) (by kernel_rfl) ?_ (fun hHeld => ?_)
  · exact ⟨b0, b1, b2, b3, b4, b5, b6, b7, b8, b9, b10, A1.c0, A1.c1, A1.c2, A1.c3, A1.c4, A1.c5, A1.c6, A1.c7, A1.c8⟩
  clear A1 b0 b1 b2 b3 b4 b5 b6 b7 b8 b9 b10
  refine hTk 0 18 hHeld ?_
  refine hTk 1 19 hHeld ?_
  refine hTk 2 20 hHeld ?_
  refine hTk 3 21 hHeld ?_
  refine hTk 4 22 hHeld ?_
  refine hNo 5 fun K hK => ?_
  go_simp
  go_at_call 23
  refine (refCheck_c c.n c.bl c.tt c.cs c.cy c.cc c.cu c.ct c.cp l.k l.a l.b l.q l.s l.w l.r l.n l.o l.h l.d _ z hz).mono ?_
  rintro e w2 ⟨rfl, hb2⟩
  have Q2 : Hid (Ar w w2 q B B F F c N D [(kd, d3R d0 d1 d2), (kl, ltR l)]) := hide (Q1.out.below (((Below.refl _ _).drew).trans hb2))
  have A1 := Q2.out.n.at'
  obtain ⟨b0, b1, b2, b3, b4, b5, b6, b7, b8, b9, b10⟩ := lt_at (bz_get Q2.out.x (k := kl) (o := ltR l) (by simp)).2
  refine hK.out _ _ ?_ fun hHeld => ?_
  · exact ⟨b0, b1, b2, b3, b4, b5, b6, b7, b8, b9, b10, A1.c0, A1.c1, A1.c2, A1.c3, A1.c4, A1.c5, A1.c6, A1.c7, A1.c8⟩
  clear hK K
  try simp only [Act.put, za, zb, zc]
  clear A1 hb2 Q1
  refine hVl 6 24 (.bool false) hHeld (fun wz hSw => ?_) ?_
  · try dsimp only at hSw
    go_simp
  refine hTk 7 25 hHeld ?_
  refine hTk 8 26 hHeld ?_
  refine hTk 9 27 hHeld ?_
  refine hTk 10 28 hHeld ?_
  refine hTk 11 29 hHeld ?_
  refine hTk 12 30 hHeld ?_
  refine hTk 13 31 hHeld ?_
  refine hTk 14 32 hHeld ?_
  refine hVl 15 33 (.bool false) hHeld (fun wz hSw => ?_) ?_
  · try dsimp only at hSw
    go_simp
  refine hTk 16 34 hHeld ?_
  refine wpAnyH_done (by kernel_rfl) (NoPanic.normal ?_) _
  clear hHeld
  have b0 := (lt_at (bz_get Q2.out.x (k := kl) (o := ltR l) (by simp)).2).c0
  have hkl := (bz_get Q2.out.x (k := kl) (o := ltR l) (by simp)).1
  obtain ⟨a10, b3, b4⟩ : w2.cell? ⟨q, 10, none⟩ = some (ptr B.qa) ∧ w2.cell? ⟨kl, 3, none⟩ = some (.int .i64 l.q) ∧ w2.cell? ⟨kl, 4, none⟩ = some (.int .i64 l.s) := ⟨Q2.out.n.at'.c10, (lt_at (bz_get Q2.out.x (k := kl) (o := ltR l) (by simp)).2).c3, (lt_at (bz_get Q2.out.x (k := kl) (o := ltR l) (by simp)).2).c4⟩
  go_upto_region 19 with fail
  go_wp2_with fail
  refine wp_region_noPanic ?_
  refine wp_region_held_drew (S := (fun w' => w'.cell? ⟨q, 10, none⟩ = some (ptr B.qa) ∧ w'.cell? ⟨kl, 3, none⟩ = some (.int .i64 l.q) ∧ w'.cell? ⟨kl, 4, none⟩ = some (.int .i64 l.s))) (by kernel_rfl) ?_ (fun hHeld => ?_)
  · exact ⟨a10, b3, b4⟩
  clear a10 b3 b4
  refine hTk 0 140 hHeld ?_
  refine hTk 1 141 hHeld ?_
  refine hTk 2 142 hHeld ?_
  refine hTk 3 143 hHeld ?_
  refine hTk 4 144 hHeld ?_
  refine hTk 5 145 hHeld ?_
  refine hTk 6 146 hHeld ?_
  refine hTk 7 147 hHeld ?_
  have Q0 : Hid (Ar w w2.drew q B B F F c N D [(kd, d3R d0 d1 d2), (kl, ltR l)]) := hide (Q2.out.below (belowN (Below.refl _ _) 1))
  obtain ⟨w1, hw1⟩ : ∃ w1, w2.drew = w1 := ⟨_, rfl⟩
  rw [hw1] at hHeld Q0 ⊢
  clear hw1 Q2 b0 hkl
  refine hNo 8 fun K hK => ?_
  go_simp
  go_at_call 36
  refine (dDone_c B.qa B.qh _ N D.L F l.q l.s _ Q0.out.n.arb ok hok).mono ?_
  rintro e w3 ⟨rfl, ha2, hs2⟩
  obtain ⟨n2, s2⟩ := Q0.out.n.setL (ha2.mono (Nat.le_succ N)) (nxDone_len _ _ _) hs2 (Nat.le_succ N)
  replace n2 : RhIs w3 q B F c (N + 1) D' := by rw [← hD'.out]; exact n2
  have Q3 := hide (Q0.out.step n2 s2)
  clear ha2 hs2 n2 s2 Q0
  obtain ⟨a10, b3, b4⟩ : w3.cell? ⟨q, 10, none⟩ = some (ptr B.qa) ∧ w3.cell? ⟨kl, 3, none⟩ = some (.int .i64 l.q) ∧ w3.cell? ⟨kl, 4, none⟩ = some (.int .i64 l.s) := ⟨Q3.out.n.at'.c10, (lt_at (bz_get Q3.out.x (k := kl) (o := ltR l) (by simp)).2).c3, (lt_at (bz_get Q3.out.x (k := kl) (o := ltR l) (by simp)).2).c4⟩
  refine hK.out _ _ ?_ fun hHeld => ?_
  · exact ⟨a10, b3, b4⟩
  clear hK K
  try simp only [Act.put, za, zb, zc]
  refine wpAnyH_done (by kernel_rfl) (NoPanic.normal ?_) _
  clear hHeld
  have hkl := (bz_get Q3.out.x (k := kl) (o := ltR l) (by simp)).1
  have hpl := Q3.out.n.pl
  have hlo := hide (And.intro (Q3.out.x (kl, ltR l) (by simp)).1 (Q3.out.x (kl, ltR l) (by simp)).2.2.1)
  have hszc := Q3.out.s.fr.size
  cases ok
  · simp only [Bool.false_eq_true, if_false] at hL'
    subst hL'
    go_wp2_with fail
    go_ret
    exact ⟨_, rfl, B, F, kl, rut_fin Q3.out (own_nilT hkl) hlo.out.1 hlo.out.2⟩
  · simp only [if_true] at hL'
    replace hL' := hide hL'
    go_wp2_with (go_at_call 37; refine (rhSpread_c q B F c (N + 1) D' 6 l.q l.s 0 _ Q3.out.n L hL').mono ?_; rintro e w6 ⟨v6, rfl, g6, ow6, hg6, hb6⟩; have Q6 := hide (Q3.out.below hb6); replace ow6 := hide ow6; clear hb6)
    go_ret
    exact ⟨_, rfl, B, F, g6, rut_fin Q6.out ow6.out (by omega) (Q3.out.nf hg6)⟩
end Go.Proofs.YtmgjgeaigdiadaaDoor
