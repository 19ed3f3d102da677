/- layer 16: RhD7 RhE, put together. -/
import Derived.Test.YtmgjgeaigdiadaaDoorB32
import Derived.Test.YtmgjgeaigdiadaaDoorB27
import Derived.Test.YtmgjgeaigdiadaaDoorB37
import Derived.Test.YtmgjgeaigdiadaaDoorB34
namespace Go.Proofs.YtmgjgeaigdiadaaDoor
open Go.ChangeShapes Go.WideShapes Go.ChangeAt Go.RowKit
set_option linter.unusedSimpArgs false
set_option linter.unusedVariables false
set_option maxRecDepth 10000
attribute [local go_sem, local simp] over_const setCell_drewN alloc_drewN Over.cell Over.frozen lt_s1 lt_s2 lt_s3 le_s0 le_s1 le_s2 le_s3 eq_s0 eq_s1 eq_s2 qe_s0
set_option maxHeartbeats 4000000 in
theorem rhTk7_c (q : Nat) (B : Bd) (F : Nat → Prop) (c : Cf) (N : Nat) (D : Hm) (l : Lt) (d0 d1 d2 : Int) (w : World) (h : RhIs w q B F c N D) (hN1 : N + 2 ≤ 100000) (hno : htOk c l = true) (kk : l.k = 7) (L : List Lt) (hL : Hid (hAckL c D l = L)) : Calls Tryd.prog 14 #[ptr q, .agg #[.int .i64 l.k, .int .i64 l.a, .int .i64 l.b, .int .i64 l.q, .int .i64 l.s, .int .i64 l.w, .bool l.r, .int .i64 l.n, .bool l.o, .bool l.h, .int .i64 l.d], .agg #[.int .i64 d0, .int .i64 d1, .int .i64 d2]] w fun e w' => ∃ v, e = .returned v ∧ ∃ B' F' g, RutP w q B B' F F' c (N + 1) (nxHAck c D l) L v w' g := by
  have hH := hide h
  obtain ⟨z, hz⟩ : ∃ z, Hid (letterZ c.n c.bl c.tt ⟨l.k, l.a, l.b, l.q, l.s, l.w, l.r, ⟨l.n, l.o, l.h, l.d⟩⟩ = z) := ⟨_, rfl⟩
  obtain ⟨ez, eb⟩ : z = 0 ∧ l.b = c.n := by
    unfold htOk at hno
    simp only [Bool.and_eq_true, decide_eq_true_eq] at hno
    exact ⟨by rw [← hz.out]; exact hno.1, hno.2⟩
  have hle0 : lerr c l = 0 := by rw [← hz.out] at ez; exact ez
  have hqq := lerr_q hle0
  obtain ⟨j, hj⟩ : ∃ j : Nat, l.q = j := ⟨l.q.toNat, by omega⟩
  have hjM : Hid (j < D.M.length) := hide (by have := h.ml; have := h.ok.b0; omega)
  have hjL : Hid (j < D.L.length) := hide (by have := h.al; have := h.ok.b0; omega)
  have hq1 : hasM D.M l.q = true := by rw [hj]; exact hasM_nat hjM.out
  obtain ⟨ok, hok⟩ : ∃ ok, Hid (okAck c.n.toNat D.L l.q l.s l.a = ok) := ⟨_, rfl⟩
  obtain ⟨a, ha⟩ : ∃ a, Hid (atAck c.n.toNat D.L l.q l.s l.a = a) := ⟨_, rfl⟩
  obtain ⟨D2, hD2⟩ : ∃ D2, Hid (hAckD c D l = D2) := ⟨_, rfl⟩
  have hL' : Hid (hActL c D2 a ok = L) := hide (by rw [← hL.out, ← hD2.out, ← ha.out, ← hok.out]; rfl)
  obtain ⟨D', hD'⟩ : ∃ D', Hid (nxHAck c D l = D') := ⟨_, rfl⟩
  have eD : Hid (nxHAct D2 a ok = D') := hide (by rw [← hD'.out, ← hD2.out, ← ha.out, ← hok.out]; rfl)
  have hab : Hid (ok = true → a = ⟨(j : Int), a.n, a.s⟩) := hide (fun e => by
    have h4 := (atAck_b (hok.out.trans e)).1
    rw [ha.out] at h4
    rw [← hj, ← h4])
  have hj2 : Hid (j < D2.M.length) := hide (by rw [← hD2.out]; exact hjM.out)
  rw [hD'.out]
  clear hL hD'
  obtain ⟨h1, h2, h3⟩ := cmpT ez
  obtain ⟨f1, f2, f3⟩ := cmpT eb
  obtain ⟨m1, n1, o1⟩ := cmpF (show ¬ l.k = 1 by omega)
  obtain ⟨m2, n2, o2⟩ := cmpF (show ¬ l.k = 2 by omega)
  obtain ⟨m3, n3, o3⟩ := cmpF (show ¬ l.k = 3 by omega)
  obtain ⟨m5, n5, o5⟩ := cmpF (show ¬ l.k = 5 by omega)
  obtain ⟨m7, n7, o7⟩ := cmpT kk
  replace ez := hide ez
  replace eb := hide eb
  replace kk := hide kk
  replace hj := hide hj
  clear hno h hqq hle0 hq1
  go_enter Tryd.func14, Tryd.ntmps14
  go_upto_region 1 with fail
  refine name_world ?_
  intro V hV
  have Q1 : Hid (Ar w V q B B F F c N D [(w.heap.size + 1, d3R d0 d1 d2), (w.heap.size, ltR l)]) := by rw [← hV]; exact hide (ar_box hH.out l d0 d1 d2)
  obtain ⟨kd, hde⟩ : ∃ kd, Hid (w.heap.size + 1 = kd) := ⟨_, rfl⟩
  obtain ⟨kl, hle⟩ : ∃ kl, Hid (w.heap.size = kl) := ⟨_, rfl⟩
  rw [hde.out, hle.out] at Q1
  rw [hde.out, hle.out]
  clear hV
  have A1 := Q1.out.n.at'
  obtain ⟨b0, b1, b2, b3, b4, b5, b6, b7, b8, b9, b10⟩ := lt_at (bz_get Q1.out.x (k := kl) (o := ltR l) (by simp)).2
  go_wp2_with fail
  refine wp_region_noPanic ?_
  refine wp_region_held_drew (S := (fun w' => w'.cell? ⟨kl, 0, none⟩ = some (.int .i64 l.k) ∧ w'.cell? ⟨kl, 1, none⟩ = some (.int .i64 l.a) ∧ w'.cell? ⟨kl, 2, none⟩ = some (.int .i64 l.b) ∧ w'.cell? ⟨kl, 3, none⟩ = some (.int .i64 l.q) ∧ w'.cell? ⟨kl, 4, none⟩ = some (.int .i64 l.s) ∧ w'.cell? ⟨kl, 5, none⟩ = some (.int .i64 l.w) ∧ w'.cell? ⟨kl, 6, none⟩ = some (.bool l.r) ∧ w'.cell? ⟨kl, 7, none⟩ = some (.int .i64 l.n) ∧ w'.cell? ⟨kl, 8, none⟩ = some (.bool l.o) ∧ w'.cell? ⟨kl, 9, none⟩ = some (.bool l.h) ∧ w'.cell? ⟨kl, 10, none⟩ = some (.int .i64 l.d) ∧ w'.cell? ⟨q, 0, none⟩ = some (.int .i64 c.n) ∧ w'.cell? ⟨q, 1, none⟩ = some (.int .i64 c.bl) ∧ w'.cell? ⟨q, 2, none⟩ = some (.int .i64 c.tt) ∧ w'.cell? ⟨q, 3, none⟩ = some (.int .i64 c.cs) ∧ w'.cell? ⟨q, 4, none⟩ = some (.int .i64 c.cy) ∧ w'.cell? ⟨q, 5, none⟩ = some (.int .i64 c.cc) ∧ w'.cell? ⟨q, 6, none⟩ = some (.int .i64 c.cu) ∧ w'.cell? ⟨q, 7, none⟩ = some (.int .i64 c.ct) ∧ w'.cell? ⟨q, 8, none⟩ = some (.int .i64 c.cp))) (by kernel_rfl) ?_ (fun hHeld => ?_)
  · exact ⟨b0, b1, b2, b3, b4, b5, b6, b7, b8, b9, b10, A1.c0, A1.c1, A1.c2, A1.c3, A1.c4, A1.c5, A1.c6, A1.c7, A1.c8⟩
  clear A1 b0 b1 b2 b3 b4 b5 b6 b7 b8 b9 b10
  refine hTk 0 18 hHeld ?_
  refine hTk 1 19 hHeld ?_
  refine hTk 2 20 hHeld ?_
  refine hTk 3 21 hHeld ?_
  refine hTk 4 22 hHeld ?_
  refine hNo 5 fun K hK => ?_
  go_simp
  go_at_call 23
  refine (refCheck_c c.n c.bl c.tt c.cs c.cy c.cc c.cu c.ct c.cp l.k l.a l.b l.q l.s l.w l.r l.n l.o l.h l.d _ z hz).mono ?_
  rintro e w2 ⟨rfl, hb2⟩
  have Q2 : Hid (Ar w w2 q B B F F c N D [(kd, d3R d0 d1 d2), (kl, ltR l)]) := hide (Q1.out.below (((Below.refl _ _).drew).trans hb2))
  have A1 := Q2.out.n.at'
  obtain ⟨b0, b1, b2, b3, b4, b5, b6, b7, b8, b9, b10⟩ := lt_at (bz_get Q2.out.x (k := kl) (o := ltR l) (by simp)).2
  refine hK.out _ _ ?_ fun hHeld => ?_
  · exact ⟨b0, b1, b2, b3, b4, b5, b6, b7, b8, b9, b10, A1.c0, A1.c1, A1.c2, A1.c3, A1.c4, A1.c5, A1.c6, A1.c7, A1.c8⟩
  clear hK K
  try simp only [Act.put, za, zb, zc]
  clear A1 hb2 Q1
  refine hVl 6 24 (.bool false) hHeld (fun wz hSw => ?_) ?_
  · try dsimp only at hSw
    go_simp
  refine hTk 7 25 hHeld ?_
  refine hTk 8 26 hHeld ?_
  refine hTk 9 27 hHeld ?_
  refine hTk 10 28 hHeld ?_
  refine hTk 11 29 hHeld ?_
  refine hTk 12 30 hHeld ?_
  refine hTk 13 31 hHeld ?_
  refine hTk 14 32 hHeld ?_
  refine hVl 15 33 (.bool false) hHeld (fun wz hSw => ?_) ?_
  · try dsimp only at hSw
    go_simp
  refine hTk 16 34 hHeld ?_
  refine wpAnyH_done (by kernel_rfl) (NoPanic.normal ?_) _
  clear hHeld
  have b0 := (lt_at (bz_get Q2.out.x (k := kl) (o := ltR l) (by simp)).2).c0
  have hkl := (bz_get Q2.out.x (k := kl) (o := ltR l) (by simp)).1
  obtain ⟨a10, b1, b3, b4⟩ : w2.cell? ⟨q, 10, none⟩ = some (ptr B.qa) ∧ w2.cell? ⟨kl, 1, none⟩ = some (.int .i64 l.a) ∧ w2.cell? ⟨kl, 3, none⟩ = some (.int .i64 l.q) ∧ w2.cell? ⟨kl, 4, none⟩ = some (.int .i64 l.s) := ⟨Q2.out.n.at'.c10, (lt_at (bz_get Q2.out.x (k := kl) (o := ltR l) (by simp)).2).c1, (lt_at (bz_get Q2.out.x (k := kl) (o := ltR l) (by simp)).2).c3, (lt_at (bz_get Q2.out.x (k := kl) (o := ltR l) (by simp)).2).c4⟩
  go_upto_region 22 with fail
  go_cut [16, 17] (fun sk si wx => ∃ kt F2, sk = ptr kt ∧ si = .bool ok ∧ Ar w wx q B B F F2 c (N + 1) D2 [(kt, resO a), (kd, d3R d0 d1 d2), (kl, ltR l)])
  case first =>
    go_wp2_with fail
    refine wp_region_noPanic ?_
    refine wp_region_held_drew (S := (fun w' => w'.cell? ⟨q, 10, none⟩ = some (ptr B.qa) ∧ w'.cell? ⟨kl, 1, none⟩ = some (.int .i64 l.a) ∧ w'.cell? ⟨kl, 3, none⟩ = some (.int .i64 l.q) ∧ w'.cell? ⟨kl, 4, none⟩ = some (.int .i64 l.s))) (by kernel_rfl) ?_ (fun hHeld => ?_)
    · exact ⟨a10, b1, b3, b4⟩
    clear a10 b1 b3 b4
    refine hTk 0 158 hHeld ?_
    refine hTk 1 159 hHeld ?_
    refine hTk 2 160 hHeld ?_
    refine hTk 3 161 hHeld ?_
    refine hTk 4 162 hHeld ?_
    refine hTk 5 163 hHeld ?_
    refine hTk 6 164 hHeld ?_
    refine hTk 7 165 hHeld ?_
    refine hTk 8 166 hHeld ?_
    refine hTk 9 167 hHeld ?_
    have Q0 : Hid (Ar w w2.drew q B B F F c N D [(kd, d3R d0 d1 d2), (kl, ltR l)]) := hide (Q2.out.below (belowN (Below.refl _ _) 1))
    obtain ⟨w1, hw1⟩ : ∃ w1, w2.drew = w1 := ⟨_, rfl⟩
    rw [hw1] at hHeld Q0 ⊢
    clear hw1 Q2 b0 hkl
    refine hTwo 10 14 (fun K hK => ?_) fun K hK => ?_
    · go_simp
      go_at_call 38
      refine (dAck_c B.qa B.qh _ N D.L F l.q l.s l.a _ Q0.out.n.arb (by omega) a ha ok hok).mono ?_
      rintro e w3 ⟨rfl, F2, ha2, hs2⟩
      obtain ⟨n2, s2⟩ := Q0.out.n.setL ha2 (nxAck_len _ _ _ _ _) hs2 (Nat.le_succ N)
      replace n2 : RhIs w3 q B F2 c (N + 1) D2 := by rw [← hD2.out]; exact n2
      have Q3 := hide (Q0.out.step n2 s2)
      clear ha2 hs2 n2 s2
      obtain ⟨a10, b1, b3, b4⟩ : w3.cell? ⟨q, 10, none⟩ = some (ptr B.qa) ∧ w3.cell? ⟨kl, 1, none⟩ = some (.int .i64 l.a) ∧ w3.cell? ⟨kl, 3, none⟩ = some (.int .i64 l.q) ∧ w3.cell? ⟨kl, 4, none⟩ = some (.int .i64 l.s) := ⟨Q3.out.n.at'.c10, (lt_at (bz_get Q3.out.x (k := kl) (o := ltR l) (by simp)).2).c1, (lt_at (bz_get Q3.out.x (k := kl) (o := ltR l) (by simp)).2).c3, (lt_at (bz_get Q3.out.x (k := kl) (o := ltR l) (by simp)).2).c4⟩
      refine hK.out _ _ ?_ fun hHeld => ?_
      · exact ⟨a10, b1, b3, b4⟩
      clear hK K
      try simp only [Act.put, za, zb, zc]
      clear a10 b1 b3 b4
      refine hTk 11 157 hHeld ?_
      refine hTk 12 169 hHeld ?_
      refine hTk 13 170 hHeld ?_
      refine hNo 14 fun K hK => ?_
      go_simp
      have hne := hide (And.intro (bz_get Q3.out.x (k := kl) (o := ltR l) (by simp)).1 (bz_get Q3.out.x (k := kd) (o := d3R d0 d1 d2) (by simp)).1)
      have Q4 := hide (Q3.out.new (resO at0))
      obtain ⟨kt, ekt⟩ : ∃ kt, w3.heap.size = kt := ⟨_, rfl⟩
      obtain ⟨w4, ew⟩ : ∃ W, w3.alloc (resO at0) = W := ⟨_, rfl⟩
      rw [ew, ekt] at Q4
      rw [ekt] at hne ⊢
      dsimp only [resO] at ew
      rw [ew]
      clear ew ekt
      obtain ⟨a10, b1, b3, b4⟩ : w4.cell? ⟨q, 10, none⟩ = some (ptr B.qa) ∧ w4.cell? ⟨kl, 1, none⟩ = some (.int .i64 l.a) ∧ w4.cell? ⟨kl, 3, none⟩ = some (.int .i64 l.q) ∧ w4.cell? ⟨kl, 4, none⟩ = some (.int .i64 l.s) := ⟨Q4.out.n.at'.c10, (lt_at (bz_get Q4.out.x (k := kl) (o := ltR l) (by simp)).2).c1, (lt_at (bz_get Q4.out.x (k := kl) (o := ltR l) (by simp)).2).c3, (lt_at (bz_get Q4.out.x (k := kl) (o := ltR l) (by simp)).2).c4⟩
      refine hK.out _ _ ?_ fun hHeld => ?_
      · exact ⟨a10, b1, b3, b4⟩
      clear hK K
      try simp only [Act.put, za, zb, zc]
      clear a10 b1 b3 b4
      obtain ⟨hkt, bkt⟩ := bz_get Q4.out.x (k := kt) (o := resO at0) (by simp)
      have y0 : w4.cell? ⟨kt, 0, none⟩ = some (.int .i64 0) := cell_of_row _ _ _ _ _ _ bkt
      have y1 : w4.cell? ⟨kt, 1, none⟩ = some (.int .i64 0) := cell_of_row _ _ _ _ _ _ bkt
      have y2 : w4.cell? ⟨kt, 2, none⟩ = some (.int .i64 0) := cell_of_row _ _ _ _ _ _ bkt
      have zt : ∀ i, w4.frozen? ⟨kt, i, none⟩ = false := fun i => frozen_of_row _ _ _ _ _ bkt
      refine hNo 15 fun K hK => ?_
      go_simp
      have Q5 : Hid (Ar w (setA w4 kt a) q B B F F2 c (N + 1) (D2) [(kt, resO a), (kd, d3R d0 d1 d2), (kl, ltR l)]) := hide (ar_setA Q4.out (fun x hx => by
        simp only [List.mem_cons, List.not_mem_nil, or_false] at hx
        have := hne.out
        rcases hx with rfl | rfl
        · dsimp only; omega
        · dsimp only; omega) a)
      obtain ⟨w5, ew⟩ : ∃ W, setA w4 kt a = W := ⟨_, rfl⟩
      dsimp only [setA] at ew Q5
      rw [ew] at Q5 ⊢
      clear ew y0 y1 y2 zt bkt hkt Q4
      obtain ⟨a10, b1, b3, b4⟩ : w5.cell? ⟨q, 10, none⟩ = some (ptr B.qa) ∧ w5.cell? ⟨kl, 1, none⟩ = some (.int .i64 l.a) ∧ w5.cell? ⟨kl, 3, none⟩ = some (.int .i64 l.q) ∧ w5.cell? ⟨kl, 4, none⟩ = some (.int .i64 l.s) := ⟨Q5.out.n.at'.c10, (lt_at (bz_get Q5.out.x (k := kl) (o := ltR l) (by simp)).2).c1, (lt_at (bz_get Q5.out.x (k := kl) (o := ltR l) (by simp)).2).c3, (lt_at (bz_get Q5.out.x (k := kl) (o := ltR l) (by simp)).2).c4⟩
      refine hK.out _ _ ?_ fun hHeld => ?_
      · exact ⟨a10, b1, b3, b4⟩
      clear hK K
      try simp only [Act.put, za, zb, zc]
      clear a10 b1 b3 b4
      refine hTk 16 17 hHeld ?_
      refine wpAnyH_done (by kernel_rfl) (NoPanic.normal ?_) _
      clear hHeld
      go_wp2_with fail
      go_meet
      exact ⟨kt, F2, rfl, rfl, Q5.out⟩
    · go_simp
      have hne := hide (And.intro (bz_get Q0.out.x (k := kl) (o := ltR l) (by simp)).1 (bz_get Q0.out.x (k := kd) (o := d3R d0 d1 d2) (by simp)).1)
      have Q3 := hide (Q0.out.new (resO at0))
      obtain ⟨kt, ekt⟩ : ∃ kt, w1.heap.size = kt := ⟨_, rfl⟩
      obtain ⟨w3, ew⟩ : ∃ W, w1.alloc (resO at0) = W := ⟨_, rfl⟩
      rw [ew, ekt] at Q3
      rw [ekt] at hne ⊢
      dsimp only [resO] at ew
      rw [ew]
      clear ew ekt
      obtain ⟨a10, b1, b3, b4⟩ : w3.cell? ⟨q, 10, none⟩ = some (ptr B.qa) ∧ w3.cell? ⟨kl, 1, none⟩ = some (.int .i64 l.a) ∧ w3.cell? ⟨kl, 3, none⟩ = some (.int .i64 l.q) ∧ w3.cell? ⟨kl, 4, none⟩ = some (.int .i64 l.s) := ⟨Q3.out.n.at'.c10, (lt_at (bz_get Q3.out.x (k := kl) (o := ltR l) (by simp)).2).c1, (lt_at (bz_get Q3.out.x (k := kl) (o := ltR l) (by simp)).2).c3, (lt_at (bz_get Q3.out.x (k := kl) (o := ltR l) (by simp)).2).c4⟩
      refine hK.out _ _ ?_ fun hHeld => ?_
      · exact ⟨a10, b1, b3, b4⟩
      clear hK K
      try simp only [Act.put, za, zb, zc]
      clear a10 b1 b3 b4
      refine hNo 10 fun K hK => ?_
      go_simp
      go_at_call 38
      refine (dAck_c B.qa B.qh _ N D.L F l.q l.s l.a _ Q3.out.n.arb (by omega) a ha ok hok).mono ?_
      rintro e w4 ⟨rfl, F2, ha2, hs2⟩
      obtain ⟨n2, s2⟩ := Q3.out.n.setL ha2 (nxAck_len _ _ _ _ _) hs2 (Nat.le_succ N)
      replace n2 : RhIs w4 q B F2 c (N + 1) D2 := by rw [← hD2.out]; exact n2
      have Q4 := hide (Q3.out.step n2 s2)
      clear ha2 hs2 n2 s2
      obtain ⟨a10, b1, b3, b4⟩ : w4.cell? ⟨q, 10, none⟩ = some (ptr B.qa) ∧ w4.cell? ⟨kl, 1, none⟩ = some (.int .i64 l.a) ∧ w4.cell? ⟨kl, 3, none⟩ = some (.int .i64 l.q) ∧ w4.cell? ⟨kl, 4, none⟩ = some (.int .i64 l.s) := ⟨Q4.out.n.at'.c10, (lt_at (bz_get Q4.out.x (k := kl) (o := ltR l) (by simp)).2).c1, (lt_at (bz_get Q4.out.x (k := kl) (o := ltR l) (by simp)).2).c3, (lt_at (bz_get Q4.out.x (k := kl) (o := ltR l) (by simp)).2).c4⟩
      refine hK.out _ _ ?_ fun hHeld => ?_
      · exact ⟨a10, b1, b3, b4⟩
      clear hK K
      try simp only [Act.put, za, zb, zc]
      clear a10 b1 b3 b4
      refine hTk 11 157 hHeld ?_
      refine hTk 12 169 hHeld ?_
      refine hTk 13 170 hHeld ?_
      obtain ⟨hkt, bkt⟩ := bz_get Q4.out.x (k := kt) (o := resO at0) (by simp)
      have y0 : w4.cell? ⟨kt, 0, none⟩ = some (.int .i64 0) := cell_of_row _ _ _ _ _ _ bkt
      have y1 : w4.cell? ⟨kt, 1, none⟩ = some (.int .i64 0) := cell_of_row _ _ _ _ _ _ bkt
      have y2 : w4.cell? ⟨kt, 2, none⟩ = some (.int .i64 0) := cell_of_row _ _ _ _ _ _ bkt
      have zt : ∀ i, w4.frozen? ⟨kt, i, none⟩ = false := fun i => frozen_of_row _ _ _ _ _ bkt
      refine hNo 15 fun K hK => ?_
      go_simp
      have Q5 : Hid (Ar w (setA w4 kt a) q B B F F2 c (N + 1) (D2) [(kt, resO a), (kd, d3R d0 d1 d2), (kl, ltR l)]) := hide (ar_setA Q4.out (fun x hx => by
        simp only [List.mem_cons, List.not_mem_nil, or_false] at hx
        have := hne.out
        rcases hx with rfl | rfl
        · dsimp only; omega
        · dsimp only; omega) a)
      obtain ⟨w5, ew⟩ : ∃ W, setA w4 kt a = W := ⟨_, rfl⟩
      dsimp only [setA] at ew Q5
      rw [ew] at Q5 ⊢
      clear ew y0 y1 y2 zt bkt hkt Q4
      obtain ⟨a10, b1, b3, b4⟩ : w5.cell? ⟨q, 10, none⟩ = some (ptr B.qa) ∧ w5.cell? ⟨kl, 1, none⟩ = some (.int .i64 l.a) ∧ w5.cell? ⟨kl, 3, none⟩ = some (.int .i64 l.q) ∧ w5.cell? ⟨kl, 4, none⟩ = some (.int .i64 l.s) := ⟨Q5.out.n.at'.c10, (lt_at (bz_get Q5.out.x (k := kl) (o := ltR l) (by simp)).2).c1, (lt_at (bz_get Q5.out.x (k := kl) (o := ltR l) (by simp)).2).c3, (lt_at (bz_get Q5.out.x (k := kl) (o := ltR l) (by simp)).2).c4⟩
      refine hK.out _ _ ?_ fun hHeld => ?_
      · exact ⟨a10, b1, b3, b4⟩
      clear hK K
      try simp only [Act.put, za, zb, zc]
      clear a10 b1 b3 b4
      refine hTk 16 17 hHeld ?_
      refine wpAnyH_done (by kernel_rfl) (NoPanic.normal ?_) _
      clear hHeld
      go_wp2_with fail
      go_meet
      exact ⟨kt, F2, rfl, rfl, Q5.out⟩
  case rest =>
    clear a10 b1 b3 b4 Q2 b0 hkl
    obtain ⟨kt, F2, rfl, rfl, Q5⟩ := hcut
    obtain ⟨w5, ew⟩ : ∃ w5, wc = w5 := ⟨_, rfl⟩
    subst ew
    replace Q5 := hide Q5
    obtain ⟨hkt, bkt⟩ := bz_get Q5.out.x (k := kt) (o := resO a) (by simp)
    obtain ⟨hkl, bkl⟩ := bz_get Q5.out.x (k := kl) (o := ltR l) (by simp)
    have hpl := Q5.out.n.pl
    have hlo := hide (And.intro (Q5.out.x (kl, ltR l) (by simp)).1 (Q5.out.x (kl, ltR l) (by simp)).2.2.1)
    have hszc := Q5.out.s.fr.size
    cases ok
    · have hL2 : [] = L := hL'.out
      subst hL2
      obtain rfl : D2 = D' := eD.out
      clear bkt bkl
      go_wp2_with fail
      go_ret
      exact ⟨_, rfl, B, F2, kl, rut_fin Q5.out (own_nilT hkl) hlo.out.1 hlo.out.2⟩
    · have ea := hab.out rfl
      obtain ⟨an, han⟩ : ∃ x, Hid (a.n = x) := ⟨_, rfl⟩
      obtain ⟨sn, hsn⟩ : ∃ x, Hid (a.s = x) := ⟨_, rfl⟩
      rw [han.out, hsn.out] at ea
      have eD2 : Hid (nxHAct D2 ⟨j, an, sn⟩ true = D') := hide (by rw [← ea]; exact eD.out)
      have hL2 : Hid (hActL c D2 ⟨j, an, sn⟩ true = L) := hide (by rw [← ea]; exact hL'.out)
      have g0 : wc.cell? ⟨kt, 0, none⟩ = some (.int .i64 j) := by rw [ea] at bkt; exact cell_of_row _ _ _ _ _ _ bkt
      have g1 : wc.cell? ⟨kt, 1, none⟩ = some (.int .i64 an) := by rw [ea] at bkt; exact cell_of_row _ _ _ _ _ _ bkt
      have g2 : wc.cell? ⟨kt, 2, none⟩ = some (.int .i64 sn) := by rw [ea] at bkt; exact cell_of_row _ _ _ _ _ _ bkt
      clear bkt bkl ea eD hL' hab
      go_wp2_with (go_at_call 35; refine (rhBegin_c q B F2 c (N + 1) D2 j an sn _ Q5.out.n hj2.out L hL2).mono ?_; rintro e w6 ⟨v6, rfl, B6, g6, hO⟩; have Q6 := hide (Q5.out.step hO.nd hO.st); rw [eD2.out] at Q6; replace hO := hide hO)
      go_ret
      exact ⟨_, rfl, B6, F2, g6, rut_fin Q6.out hO.out.own (Nat.le_trans hszc hO.out.new) hO.out.nf⟩
theorem rhTake_c (q : Nat) (B : Bd) (F : Nat → Prop) (c : Cf) (N : Nat) (D : Hm) (l : Lt) (d0 d1 d2 : Int) (w : World) (h : RhIs w q B F c N D) (hN1 : N + 2 ≤ 100000) (L : List Lt) (hL : Hid (htL c D l d0 d1 = L)) : Calls Tryd.prog 14 #[ptr q, .agg #[.int .i64 l.k, .int .i64 l.a, .int .i64 l.b, .int .i64 l.q, .int .i64 l.s, .int .i64 l.w, .bool l.r, .int .i64 l.n, .bool l.o, .bool l.h, .int .i64 l.d], .agg #[.int .i64 d0, .int .i64 d1, .int .i64 d2]] w fun e w' => ∃ v, e = .returned v ∧ ∃ B' F' g, RutP w q B B' F F' c (N + 1) (nxHT c D l d0 d1) L v w' g := by
  have hL' := hL.out
  clear hL
  by_cases ho : htOk c l = true
  · unfold htL at hL'
    unfold nxHT
    rw [if_pos ho] at hL' ⊢
    by_cases k1 : l.k = 1
    · rw [if_pos k1] at hL' ⊢
      exact rhTk1_c q B F c N D l d0 d1 d2 w h hN1 ho k1 L (hide hL')
    by_cases k2 : l.k = 2
    · rw [if_neg k1, if_pos k2] at hL' ⊢
      exact rhTk2_c q B F c N D l d0 d1 d2 w h hN1 ho k2 L (hide hL')
    by_cases k3 : l.k = 3
    · rw [if_neg k1, if_neg k2, if_pos k3] at hL' ⊢
      exact rhTk3_c q B F c N D l d0 d1 d2 w h hN1 ho k3 L (hide hL')
    by_cases k5 : l.k = 5
    · rw [if_neg k1, if_neg k2, if_neg k3, if_pos k5] at hL' ⊢
      exact rhTk5_c q B F c N D l d0 d1 d2 w h hN1 ho k5 L (hide hL')
    by_cases k7 : l.k = 7
    · rw [if_neg k1, if_neg k2, if_neg k3, if_neg k5, if_pos k7] at hL' ⊢
      exact rhTk7_c q B F c N D l d0 d1 d2 w h hN1 ho k7 L (hide hL')
    rw [if_neg k1, if_neg k2, if_neg k3, if_neg k5, if_neg k7] at hL' ⊢
    exact rhTkEl_c q B F c N D l d0 d1 d2 w h ho k1 k2 k3 k5 k7 L (hide hL') |>.mono (fun e w' ⟨v, e1, B', F', g, hO⟩ => ⟨v, e1, B', F', g, ⟨hO.own, hO.new, hO.nd.mono (Nat.le_succ N), hO.st, hO.nf⟩⟩)
  · have h0 : htOk c l = false := by simpa using ho
    unfold htL at hL'
    unfold nxHT
    rw [if_neg ho] at hL' ⊢
    exact (rhTkNo_c q B F c N D l d0 d1 d2 w h h0 L (hide hL')).mono (fun e w' ⟨v, e1, B', F', g, hO⟩ => ⟨v, e1, B', F', g, ⟨hO.own, hO.new, hO.nd.mono (Nat.le_succ N), hO.st, hO.nf⟩⟩)
end Go.Proofs.YtmgjgeaigdiadaaDoor
