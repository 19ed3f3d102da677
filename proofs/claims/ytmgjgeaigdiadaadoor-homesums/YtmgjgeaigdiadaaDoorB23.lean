/- layer 16: HmC HmD HmE, put together. -/
import Derived.Test.YtmgjgeaigdiadaaDoorB18
import Derived.Test.YtmgjgeaigdiadaaDoorB22
import Derived.Test.YtmgjgeaigdiadaaDoorB19
import Derived.Deep.DeepCutAuto
import Derived.Test.YtmgjgeaigdiadaaDoorB10
namespace Go.Proofs.YtmgjgeaigdiadaaDoor
open Go.ChangeShapes Go.WideShapes Go.ChangeAt Go.RowKit
set_option linter.unusedSimpArgs false
set_option linter.unusedVariables false
set_option maxRecDepth 10000
attribute [local go_sem, local simp] over_const setCell_drewN alloc_drewN Over.cell Over.frozen lt_s1 lt_s2 lt_s3 le_s0 le_s1 le_s2 le_s3 eq_s0 eq_s1 eq_s2 qe_s0
theorem ah_box {w : World} {p : Nat} {B : Bh} {Ft : Nat → Prop} {c : Cf} {N : Nat} {D : Hm} (h : HmIs w p B Ft c N D) (l : Lt) (d0 d1 d2 : Int) :
    Ah w ((w.alloc (ltR l)).alloc (dwR d0 d1 d2)) p B Ft Ft c N D [(w.heap.size + 1, dwR d0 d1 d2), (w.heap.size, ltR l)] := by
  have h1 := ((ah_start h).new (ltR l)).new (dwR d0 d1 d2)
  rw [World.size_alloc] at h1
  exact h1
theorem ah_setA {w V : World} {p : Nat} {B : Bh} {Ft F : Nat → Prop} {c : Cf} {N : Nat} {D : Hm} {K : List (Nat × Obj)} {k : Nat} (h : Ah w V p B Ft F c N D ((k, resO at0) :: K)) (hk : ∀ x ∈ K, x.1 ≠ k) (a : At) : Ah w (setA V k a) p B Ft F c N D ((k, resO a) :: K) := by
  have e1 : Ah w (V.setCell ⟨k, 0, none⟩ (.int .i64 a.b)) p B Ft F c N D ((k, .cells #[.int .i64 a.b, .int .i64 0, .int .i64 0] 43 (0, 0)) :: K) := h.head hk 0 _
  have e2 : Ah w ((V.setCell ⟨k, 0, none⟩ (.int .i64 a.b)).setCell ⟨k, 1, none⟩ (.int .i64 a.n)) p B Ft F c N D ((k, .cells #[.int .i64 a.b, .int .i64 a.n, .int .i64 0] 43 (0, 0)) :: K) := e1.head hk 1 _
  exact e2.head hk 2 _
set_option maxHeartbeats 4000000 in
theorem hmTok_c (p : Nat) (B : Bh) (Ft : Nat → Prop) (c : Cf) (N : Nat) (D : Hm) (l : Lt) (d0 d1 d2 : Int) (w : World) (h : HmIs w p B Ft c N D) (hN1 : N + 1 ≤ 100000) (hbo : okB (tokOf l)) (h65 : l.n ≤ 65536) (L : List Lt) (hL : Hid (hTokL c D l = L)) : Calls Tryd.prog 53 #[ptr p, .agg #[.int .i64 l.k, .int .i64 l.a, .int .i64 l.b, .int .i64 l.q, .int .i64 l.s, .int .i64 l.w, .bool l.r, .int .i64 l.n, .bool l.o, .bool l.h, .int .i64 l.d], .agg #[.int .i64 d0, .int .i64 d1, .int .i64 d2]] w fun e w' => ∃ v, e = .returned v ∧ ∃ Ft' g, HutP w p B Ft Ft' c (N + 1) (nxHTok D l) L v w' g := by
  have hH := hide h
  have hL' := hL.out
  have hB5 := hide hbo
  have h65' := hide h65
  obtain ⟨ok, hok⟩ : ∃ ok, Hid (okCur D.L l.q = ok) := ⟨_, rfl⟩
  obtain ⟨a, ha⟩ : ∃ a, Hid (atCur D.L l.q = a) := ⟨_, rfl⟩
  unfold hTokL at hL'
  rw [hok.out, ha.out] at hL'
  obtain ⟨D', hD'⟩ : ∃ D', Hid (nxHTok D l = D') := ⟨_, rfl⟩
  rw [hD'.out]
  clear h hL hbo h65
  go_enter Tryd.func53, Tryd.ntmps53
  go_upto_region 1 with fail
  refine name_world ?_
  intro V hV
  have Q1 : Hid (Ah w V p B Ft Ft c N D [(w.heap.size + 1, dwR d0 d1 d2), (w.heap.size, ltR l)]) := by rw [← hV]; exact hide (ah_box hH.out l d0 d1 d2)
  obtain ⟨kd, hde⟩ : ∃ kd, Hid (w.heap.size + 1 = kd) := ⟨_, rfl⟩
  obtain ⟨kl, hle⟩ : ∃ kl, Hid (w.heap.size = kl) := ⟨_, rfl⟩
  rw [hde.out, hle.out] at Q1
  rw [hde.out, hle.out]
  clear hV
  obtain ⟨a10, b3⟩ : V.cell? ⟨p, 10, none⟩ = some (ptr B.ap) ∧ V.cell? ⟨kl, 3, none⟩ = some (.int .i64 l.q) := ⟨Q1.out.n.at'.c10, (lt_at (bz_get Q1.out.x (k := kl) (o := ltR l) (by simp)).2).c3⟩
  go_cut [7, 8] (fun sk si wx => ∃ kt, sk = ptr kt ∧ si = .bool ok ∧ Ah w wx p B Ft Ft c N D [(kt, resO a), (kd, dwR d0 d1 d2), (kl, ltR l)])
  case first =>
    go_wp2_with fail
    refine wp_region_noPanic ?_
    refine wp_region_held_drew (S := (fun w' => w'.cell? ⟨p, 10, none⟩ = some (ptr B.ap) ∧ w'.cell? ⟨kl, 3, none⟩ = some (.int .i64 l.q))) (by kernel_rfl) ?_ (fun hHeld => ?_)
    · exact ⟨a10, b3⟩
    clear a10 b3
    refine hTk 0 10 hHeld ?_
    refine hTk 1 11 hHeld ?_
    refine hTk 2 12 hHeld ?_
    refine hTk 3 13 hHeld ?_
    refine hTk 4 14 hHeld ?_
    refine hTk 5 15 hHeld ?_
    have Q0 : Hid (Ah w V.drew p B Ft Ft c N D [(kd, dwR d0 d1 d2), (kl, ltR l)]) := hide (Q1.out.below (belowN (Below.refl _ _) 1))
    obtain ⟨w1, hw1⟩ : ∃ w1, V.drew = w1 := ⟨_, rfl⟩
    rw [hw1] at hHeld Q0 ⊢
    clear hw1 Q1
    refine hTwo 6 10 (fun K hK => ?_) fun K hK => ?_
    · go_simp
      go_at_call 39
      refine (aCur_c B.ap B.ag _ N D.L Ft l.q _ Q0.out.n.arb a ha ok hok).mono ?_
      rintro e w2 ⟨rfl, hbG⟩
      have Q2 := hide (Q0.out.below hbG)
      clear hbG
      obtain ⟨a10, b3⟩ : w2.cell? ⟨p, 10, none⟩ = some (ptr B.ap) ∧ w2.cell? ⟨kl, 3, none⟩ = some (.int .i64 l.q) := ⟨Q2.out.n.at'.c10, (lt_at (bz_get Q2.out.x (k := kl) (o := ltR l) (by simp)).2).c3⟩
      refine hK.out _ _ ?_ fun hHeld => ?_
      · exact ⟨a10, b3⟩
      clear hK K
      try simp only [Act.put, za, zb, zc]
      clear a10 b3
      refine hTk 7 9 hHeld ?_
      refine hTk 8 17 hHeld ?_
      refine hTk 9 18 hHeld ?_
      refine hNo 10 fun K hK => ?_
      go_simp
      have hne := hide (And.intro (bz_get Q2.out.x (k := kl) (o := ltR l) (by simp)).1 (bz_get Q2.out.x (k := kd) (o := dwR d0 d1 d2) (by simp)).1)
      have Q3 := hide (Q2.out.new (resO at0))
      obtain ⟨kt, ekt⟩ : ∃ kt, w2.heap.size = kt := ⟨_, rfl⟩
      obtain ⟨w3, ew⟩ : ∃ W, w2.alloc (resO at0) = W := ⟨_, rfl⟩
      rw [ew, ekt] at Q3
      rw [ekt] at hne ⊢
      dsimp only [resO] at ew
      rw [ew]
      clear ew ekt
      obtain ⟨a10, b3⟩ : w3.cell? ⟨p, 10, none⟩ = some (ptr B.ap) ∧ w3.cell? ⟨kl, 3, none⟩ = some (.int .i64 l.q) := ⟨Q3.out.n.at'.c10, (lt_at (bz_get Q3.out.x (k := kl) (o := ltR l) (by simp)).2).c3⟩
      refine hK.out _ _ ?_ fun hHeld => ?_
      · exact ⟨a10, b3⟩
      clear hK K
      try simp only [Act.put, za, zb, zc]
      clear a10 b3
      obtain ⟨hkt, bkt⟩ := bz_get Q3.out.x (k := kt) (o := resO at0) (by simp)
      have y0 : w3.cell? ⟨kt, 0, none⟩ = some (.int .i64 0) := cell_of_row _ _ _ _ _ _ bkt
      have y1 : w3.cell? ⟨kt, 1, none⟩ = some (.int .i64 0) := cell_of_row _ _ _ _ _ _ bkt
      have y2 : w3.cell? ⟨kt, 2, none⟩ = some (.int .i64 0) := cell_of_row _ _ _ _ _ _ bkt
      have zt : ∀ i, w3.frozen? ⟨kt, i, none⟩ = false := fun i => frozen_of_row _ _ _ _ _ bkt
      refine hNo 11 fun K hK => ?_
      go_simp
      have Q4 : Hid (Ah w (setA w3 kt a) p B Ft Ft c N D [(kt, resO a), (kd, dwR d0 d1 d2), (kl, ltR l)]) := hide (ah_setA Q3.out (fun x hx => by
        simp only [List.mem_cons, List.not_mem_nil, or_false] at hx
        have := hne.out
        rcases hx with rfl | rfl
        · dsimp only; omega
        · dsimp only; omega) a)
      obtain ⟨w4, ew⟩ : ∃ W, setA w3 kt a = W := ⟨_, rfl⟩
      dsimp only [setA] at ew Q4
      rw [ew] at Q4 ⊢
      clear ew y0 y1 y2 zt bkt hkt Q3
      obtain ⟨a10, b3⟩ : w4.cell? ⟨p, 10, none⟩ = some (ptr B.ap) ∧ w4.cell? ⟨kl, 3, none⟩ = some (.int .i64 l.q) := ⟨Q4.out.n.at'.c10, (lt_at (bz_get Q4.out.x (k := kl) (o := ltR l) (by simp)).2).c3⟩
      refine hK.out _ _ ?_ fun hHeld => ?_
      · exact ⟨a10, b3⟩
      clear hK K
      try simp only [Act.put, za, zb, zc]
      clear a10 b3
      refine hTk 12 8 hHeld ?_
      refine wpAnyH_done (by kernel_rfl) (NoPanic.normal ?_) _
      clear hHeld
      go_wp2_with fail
      go_meet
      exact ⟨kt, rfl, rfl, Q4.out⟩
    · go_simp
      have hne := hide (And.intro (bz_get Q0.out.x (k := kl) (o := ltR l) (by simp)).1 (bz_get Q0.out.x (k := kd) (o := dwR d0 d1 d2) (by simp)).1)
      have Q2 := hide (Q0.out.new (resO at0))
      obtain ⟨kt, ekt⟩ : ∃ kt, w1.heap.size = kt := ⟨_, rfl⟩
      obtain ⟨w2, ew⟩ : ∃ W, w1.alloc (resO at0) = W := ⟨_, rfl⟩
      rw [ew, ekt] at Q2
      rw [ekt] at hne ⊢
      dsimp only [resO] at ew
      rw [ew]
      clear ew ekt
      obtain ⟨a10, b3⟩ : w2.cell? ⟨p, 10, none⟩ = some (ptr B.ap) ∧ w2.cell? ⟨kl, 3, none⟩ = some (.int .i64 l.q) := ⟨Q2.out.n.at'.c10, (lt_at (bz_get Q2.out.x (k := kl) (o := ltR l) (by simp)).2).c3⟩
      refine hK.out _ _ ?_ fun hHeld => ?_
      · exact ⟨a10, b3⟩
      clear hK K
      try simp only [Act.put, za, zb, zc]
      clear a10 b3
      refine hNo 6 fun K hK => ?_
      go_simp
      go_at_call 39
      refine (aCur_c B.ap B.ag _ N D.L Ft l.q _ Q2.out.n.arb a ha ok hok).mono ?_
      rintro e w3 ⟨rfl, hbG⟩
      have Q3 := hide (Q2.out.below hbG)
      clear hbG
      obtain ⟨a10, b3⟩ : w3.cell? ⟨p, 10, none⟩ = some (ptr B.ap) ∧ w3.cell? ⟨kl, 3, none⟩ = some (.int .i64 l.q) := ⟨Q3.out.n.at'.c10, (lt_at (bz_get Q3.out.x (k := kl) (o := ltR l) (by simp)).2).c3⟩
      refine hK.out _ _ ?_ fun hHeld => ?_
      · exact ⟨a10, b3⟩
      clear hK K
      try simp only [Act.put, za, zb, zc]
      clear a10 b3
      refine hTk 7 9 hHeld ?_
      refine hTk 8 17 hHeld ?_
      refine hTk 9 18 hHeld ?_
      obtain ⟨hkt, bkt⟩ := bz_get Q3.out.x (k := kt) (o := resO at0) (by simp)
      have y0 : w3.cell? ⟨kt, 0, none⟩ = some (.int .i64 0) := cell_of_row _ _ _ _ _ _ bkt
      have y1 : w3.cell? ⟨kt, 1, none⟩ = some (.int .i64 0) := cell_of_row _ _ _ _ _ _ bkt
      have y2 : w3.cell? ⟨kt, 2, none⟩ = some (.int .i64 0) := cell_of_row _ _ _ _ _ _ bkt
      have zt : ∀ i, w3.frozen? ⟨kt, i, none⟩ = false := fun i => frozen_of_row _ _ _ _ _ bkt
      refine hNo 11 fun K hK => ?_
      go_simp
      have Q4 : Hid (Ah w (setA w3 kt a) p B Ft Ft c N D [(kt, resO a), (kd, dwR d0 d1 d2), (kl, ltR l)]) := hide (ah_setA Q3.out (fun x hx => by
        simp only [List.mem_cons, List.not_mem_nil, or_false] at hx
        have := hne.out
        rcases hx with rfl | rfl
        · dsimp only; omega
        · dsimp only; omega) a)
      obtain ⟨w4, ew⟩ : ∃ W, setA w3 kt a = W := ⟨_, rfl⟩
      dsimp only [setA] at ew Q4
      rw [ew] at Q4 ⊢
      clear ew y0 y1 y2 zt bkt hkt Q3
      obtain ⟨a10, b3⟩ : w4.cell? ⟨p, 10, none⟩ = some (ptr B.ap) ∧ w4.cell? ⟨kl, 3, none⟩ = some (.int .i64 l.q) := ⟨Q4.out.n.at'.c10, (lt_at (bz_get Q4.out.x (k := kl) (o := ltR l) (by simp)).2).c3⟩
      refine hK.out _ _ ?_ fun hHeld => ?_
      · exact ⟨a10, b3⟩
      clear hK K
      try simp only [Act.put, za, zb, zc]
      clear a10 b3
      refine hTk 12 8 hHeld ?_
      refine wpAnyH_done (by kernel_rfl) (NoPanic.normal ?_) _
      clear hHeld
      go_wp2_with fail
      go_meet
      exact ⟨kt, rfl, rfl, Q4.out⟩
  case rest =>
    clear a10 b3 Q1 V
    obtain ⟨kt, rfl, rfl, Q4⟩ := hcut
    obtain ⟨w5, ew⟩ : ∃ w5, wc = w5 := ⟨_, rfl⟩
    subst ew
    replace Q4 := hide Q4
    obtain ⟨hkt, bkt⟩ := bz_get Q4.out.x (k := kt) (o := resO a) (by simp)
    obtain ⟨hkl, bkl⟩ := bz_get Q4.out.x (k := kl) (o := ltR l) (by simp)
    have g1 : wc.cell? ⟨kt, 1, none⟩ = some (.int .i64 a.n) := cell_of_row _ _ _ _ _ _ bkt
    have b3 := (lt_at bkl).c3
    have b7 := (lt_at bkl).c7
    have b8 := (lt_at bkl).c8
    have b9 := (lt_at bkl).c9
    have b10 := (lt_at bkl).c10
    have hpl := Q4.out.n.pl
    have hlo := hide (And.intro (Q4.out.x (kl, ltR l) (by simp)).1 (Q4.out.x (kl, ltR l) (by simp)).2.2.1)
    have hszc := Q4.out.s.fr.size
    clear bkt bkl
    cases ok
    · simp only [Bool.false_eq_true, if_false] at hL'
      subst hL'
      have hml := Q4.out.n.ml
      obtain ⟨q, hq⟩ : ∃ q, Hid (hasM D.M l.q = q) := ⟨_, rfl⟩
      obtain ⟨M', hM'⟩ : ∃ M', Hid (putM D.M l.q (tokOf l) = M') := ⟨_, rfl⟩
      have eD : Hid (⟨M', D.L⟩ = D') := hide (by rw [← hD'.out, ← hM'.out]; unfold nxHTok; rw [hok.out]; simp)
      have a9 := Q4.out.n.at'.c9
      go_upto_region 4 with fail
      go_wp2_with fail
      refine wp_region_noPanic ?_
      refine wp_region_held_drew (S := (fun w' => w'.cell? ⟨p, 9, none⟩ = some (ptr B.mm) ∧ w'.cell? ⟨kl, 3, none⟩ = some (.int .i64 l.q) ∧ w'.cell? ⟨kl, 7, none⟩ = some (.int .i64 l.n) ∧ w'.cell? ⟨kl, 8, none⟩ = some (.bool l.o) ∧ w'.cell? ⟨kl, 9, none⟩ = some (.bool l.h) ∧ w'.cell? ⟨kl, 10, none⟩ = some (.int .i64 l.d))) (by kernel_rfl) ?_ (fun hHeld => ?_)
      · exact ⟨a9, b3, b7, b8, b9, b10⟩
      refine hTk 0 28 hHeld ?_
      refine hTk 1 29 hHeld ?_
      refine hTk 2 30 hHeld ?_
      refine hTk 3 31 hHeld ?_
      refine hTk 4 32 hHeld ?_
      refine hTk 5 33 hHeld ?_
      refine hTk 6 34 hHeld ?_
      refine hTk 7 35 hHeld ?_
      refine hNo 8 fun K hK => ?_
      go_simp
      go_at_call 75
      have Q5 := hide (Q4.out.below (V' := wc.drew) (belowN (Below.refl _ _) 1))
      refine (mPut_c B.mm B.mg _ 65536 l.q (tokOf l) D.M _ Q5.out.n.mem hB5.out h65'.out (by omega) q hq M' hM').mono ?_
      rintro e w6 ⟨rfl, hm6, hf6⟩
      have hm7 : MemIs w6 B.mm B.mg (((N + 1 + 1 : Nat) : Int) * 65536) M' := hm6.mono (by omega)
      obtain ⟨n6, s6⟩ := Q5.out.n.setM hm7 (by rw [← hM'.out, putM_len]) hf6 (Nat.le_succ N)
      rw [eD.out] at n6
      have Q6 := hide (Q5.out.step n6 s6)
      clear hm6 hm7 hf6 n6 s6 Q5
      obtain ⟨hkl6, bkl6⟩ := bz_get Q6.out.x (k := kl) (o := ltR l) (by simp)
      refine hK.out _ _ ?_ fun hHeld => ?_
      · exact ⟨Q6.out.n.at'.c9, (lt_at bkl6).c3, (lt_at bkl6).c7, (lt_at bkl6).c8, (lt_at bkl6).c9, (lt_at bkl6).c10⟩
      clear hK K
      try simp only [Act.put, za, zb, zc]
      refine wpAnyH_done (by kernel_rfl) (NoPanic.normal ?_) _
      clear hHeld
      go_wp2_with fail
      go_ret
      exact ⟨_, rfl, Ft, kl, hut_fin Q6.out (own_nilT hkl6) hlo.out.1 hlo.out.2⟩
    · simp only [if_true] at hL'
      replace hL' := hide hL'
      have eD : D = D' := by rw [← hD'.out]; unfold nxHTok; rw [hok.out]; simp
      subst eD
      go_wp2_with (go_at_call 74; refine (hmSend_c p B Ft c N D a.n l.q (tokOf l) _ Q4.out.n L hL').mono ?_; rintro e w6 ⟨v6, rfl, g6, ow6, hg6, hb6⟩; have Q6 := hide (Q4.out.below hb6); replace ow6 := hide ow6; clear hb6)
      go_ret
      exact ⟨_, rfl, Ft, g6, hut_fin (Q6.out.step (Q6.out.n.mono (Nat.le_succ N)) (Step.refl _ _)) ow6.out (by omega) (Q4.out.nf hg6)⟩
set_option maxHeartbeats 4000000 in
theorem hmAsk_c (p : Nat) (B : Bh) (Ft : Nat → Prop) (c : Cf) (N : Nat) (D : Hm) (l : Lt) (d0 d1 d2 : Int) (w : World) (h : HmIs w p B Ft c N D) (hN1 : N + 1 ≤ 100000) (L : List Lt) (hL : Hid (hAskL c D l d0 d1 = L)) : Calls Tryd.prog 54 #[ptr p, .agg #[.int .i64 l.k, .int .i64 l.a, .int .i64 l.b, .int .i64 l.q, .int .i64 l.s, .int .i64 l.w, .bool l.r, .int .i64 l.n, .bool l.o, .bool l.h, .int .i64 l.d], .agg #[.int .i64 d0, .int .i64 d1, .int .i64 d2]] w fun e w' => ∃ v, e = .returned v ∧ ∃ Ft' g, HutP w p B Ft Ft' c (N + 1) (nxHAsk c D l d0 d1) L v w' g := by
  have hH := hide h
  have hL' := hL.out
  obtain ⟨t, ht⟩ : ∃ t, Hid (getM D.M l.q = t) := ⟨_, rfl⟩
  obtain ⟨r, hr⟩ : ∃ r, Hid (repZ c.cp t.n t.o l.r d0 d1 = r) := ⟨_, rfl⟩
  have hR2 : hRep c D l d0 d1 = r := by unfold hRep; rw [ht.out]; exact hr.out
  obtain ⟨g, hg⟩ : ∃ g, Hid (givenB (getM D.M l.q) r.n r.o r.v = g) := ⟨_, rfl⟩
  obtain ⟨M', hM'⟩ : ∃ M', Hid (takM D.M l.q r.n r.o = M') := ⟨_, rfl⟩
  unfold hAskL at hL'
  rw [hR2, hg.out] at hL'
  obtain ⟨D', hD'⟩ : ∃ D', Hid (nxHAsk c D l d0 d1 = D') := ⟨_, rfl⟩
  have eD : Hid (⟨M', D.L⟩ = D') := hide (by rw [← hD'.out]; unfold nxHAsk; rw [hR2, hM'.out])
  rw [hD'.out]
  replace hL' := hide hL'
  clear h hL hR2 hD'
  go_enter Tryd.func54, Tryd.ntmps54
  go_upto_region 1 with fail
  refine name_world ?_
  intro V hV
  have Q1 : Hid (Ah w V p B Ft Ft c N D [(w.heap.size + 1, dwR d0 d1 d2), (w.heap.size, ltR l)]) := by rw [← hV]; exact hide (ah_box hH.out l d0 d1 d2)
  obtain ⟨kd, hde⟩ : ∃ kd, Hid (w.heap.size + 1 = kd) := ⟨_, rfl⟩
  obtain ⟨kl, hle⟩ : ∃ kl, Hid (w.heap.size = kl) := ⟨_, rfl⟩
  rw [hde.out, hle.out] at Q1
  rw [hde.out, hle.out]
  clear hV
  obtain ⟨a8, a9, b1, b3, b6, d0c, d1c, d2c⟩ : V.cell? ⟨p, 8, none⟩ = some (.int .i64 c.cp) ∧ V.cell? ⟨p, 9, none⟩ = some (ptr B.mm) ∧ V.cell? ⟨kl, 1, none⟩ = some (.int .i64 l.a) ∧ V.cell? ⟨kl, 3, none⟩ = some (.int .i64 l.q) ∧ V.cell? ⟨kl, 6, none⟩ = some (.bool l.r) ∧ V.cell? ⟨kd, 0, none⟩ = some (.int .i64 d0) ∧ V.cell? ⟨kd, 1, none⟩ = some (.int .i64 d1) ∧ V.cell? ⟨kd, 2, none⟩ = some (.int .i64 d2) := by
    have y := lt_at (bz_get Q1.out.x (k := kl) (o := ltR l) (by simp)).2
    have z := (bz_get Q1.out.x (k := kd) (o := dwR d0 d1 d2) (by simp)).2
    exact ⟨Q1.out.n.at'.c8, Q1.out.n.at'.c9, y.c1, y.c3, y.c6, cell_of_row _ _ _ _ _ _ z, cell_of_row _ _ _ _ _ _ z, cell_of_row _ _ _ _ _ _ z⟩
  go_wp2_with fail
  refine wp_region_noPanic ?_
  refine wp_region_held_drew (S := (fun w' => w'.cell? ⟨p, 8, none⟩ = some (.int .i64 c.cp) ∧ w'.cell? ⟨p, 9, none⟩ = some (ptr B.mm) ∧ w'.cell? ⟨kl, 3, none⟩ = some (.int .i64 l.q) ∧ w'.cell? ⟨kl, 6, none⟩ = some (.bool l.r) ∧ w'.cell? ⟨kd, 0, none⟩ = some (.int .i64 d0) ∧ w'.cell? ⟨kd, 1, none⟩ = some (.int .i64 d1) ∧ w'.cell? ⟨kd, 2, none⟩ = some (.int .i64 d2))) (by kernel_rfl) ?_ (fun hHeld => ?_)
  · exact ⟨a8, a9, b3, b6, d0c, d1c, d2c⟩
  clear a8 a9 b1 b3 b6 d0c d1c d2c
  refine hTk 0 11 hHeld ?_
  refine hTk 1 12 hHeld ?_
  refine hTk 2 13 hHeld ?_
  refine hTk 3 14 hHeld ?_
  refine hTk 4 15 hHeld ?_
  refine hTk 5 16 hHeld ?_
  refine hTk 6 17 hHeld ?_
  refine hTk 7 18 hHeld ?_
  refine hTk 8 19 hHeld ?_
  refine hTk 9 20 hHeld ?_
  refine hTk 10 21 hHeld ?_
  refine hTk 12 23 hHeld ?_
  refine hTk 13 24 hHeld ?_
  refine hTk 14 25 hHeld ?_
  have Q0 : Hid (Ah w V.drew p B Ft Ft c N D [(kd, dwR d0 d1 d2), (kl, ltR l)]) := hide (Q1.out.below (belowN (Below.refl _ _) 1))
  obtain ⟨w1, hw1⟩ : ∃ w1, V.drew = w1 := ⟨_, rfl⟩
  rw [hw1] at hHeld Q0 ⊢
  clear hw1 Q1
  refine hNo 11 fun K hK => ?_
  go_simp
  go_at_call 77
  refine (mGet_c B.mm B.mg _ l.q D.M _ Q0.out.n.mem t ht).mono ?_
  rintro e w2 ⟨rfl, hb2⟩
  have Q2 := hide (Q0.out.below hb2)
  clear hb2 Q0
  obtain ⟨a8, a9, b1, b3, b6, d0c, d1c, d2c⟩ : w2.cell? ⟨p, 8, none⟩ = some (.int .i64 c.cp) ∧ w2.cell? ⟨p, 9, none⟩ = some (ptr B.mm) ∧ w2.cell? ⟨kl, 1, none⟩ = some (.int .i64 l.a) ∧ w2.cell? ⟨kl, 3, none⟩ = some (.int .i64 l.q) ∧ w2.cell? ⟨kl, 6, none⟩ = some (.bool l.r) ∧ w2.cell? ⟨kd, 0, none⟩ = some (.int .i64 d0) ∧ w2.cell? ⟨kd, 1, none⟩ = some (.int .i64 d1) ∧ w2.cell? ⟨kd, 2, none⟩ = some (.int .i64 d2) := by
    have y := lt_at (bz_get Q2.out.x (k := kl) (o := ltR l) (by simp)).2
    have z := (bz_get Q2.out.x (k := kd) (o := dwR d0 d1 d2) (by simp)).2
    exact ⟨Q2.out.n.at'.c8, Q2.out.n.at'.c9, y.c1, y.c3, y.c6, cell_of_row _ _ _ _ _ _ z, cell_of_row _ _ _ _ _ _ z, cell_of_row _ _ _ _ _ _ z⟩
  refine hK.out _ _ ?_ fun hHeld => ?_
  · exact ⟨a8, a9, b3, b6, d0c, d1c, d2c⟩
  clear hK K
  try simp only [Act.put, za, zb, zc]
  clear a8 a9 b1 b3 b6 d0c d1c d2c
  refine hNo 15 fun K hK => ?_
  go_simp
  go_at_call 76
  refine (reply_c c.cp t.n t.o t.h t.d l.r d0 d1 d2 _ r hr).mono ?_
  rintro e w3 ⟨rfl, hb3⟩
  have Q3 := hide (Q2.out.below hb3)
  clear hb3 Q2
  obtain ⟨a8, a9, b1, b3, b6, d0c, d1c, d2c⟩ : w3.cell? ⟨p, 8, none⟩ = some (.int .i64 c.cp) ∧ w3.cell? ⟨p, 9, none⟩ = some (ptr B.mm) ∧ w3.cell? ⟨kl, 1, none⟩ = some (.int .i64 l.a) ∧ w3.cell? ⟨kl, 3, none⟩ = some (.int .i64 l.q) ∧ w3.cell? ⟨kl, 6, none⟩ = some (.bool l.r) ∧ w3.cell? ⟨kd, 0, none⟩ = some (.int .i64 d0) ∧ w3.cell? ⟨kd, 1, none⟩ = some (.int .i64 d1) ∧ w3.cell? ⟨kd, 2, none⟩ = some (.int .i64 d2) := by
    have y := lt_at (bz_get Q3.out.x (k := kl) (o := ltR l) (by simp)).2
    have z := (bz_get Q3.out.x (k := kd) (o := dwR d0 d1 d2) (by simp)).2
    exact ⟨Q3.out.n.at'.c8, Q3.out.n.at'.c9, y.c1, y.c3, y.c6, cell_of_row _ _ _ _ _ _ z, cell_of_row _ _ _ _ _ _ z, cell_of_row _ _ _ _ _ _ z⟩
  refine hK.out _ _ ?_ fun hHeld => ?_
  · exact ⟨a8, a9, b3, b6, d0c, d1c, d2c⟩
  clear hK K
  try simp only [Act.put, za, zb, zc]
  refine hTk 16 10 hHeld ?_
  refine hTk 17 27 hHeld ?_
  refine hTk 18 28 hHeld ?_
  refine hTk 19 29 hHeld ?_
  refine hTk 20 7 hHeld ?_
  refine hTk 21 8 hHeld ?_
  refine hTk 22 9 hHeld ?_
  refine wpAnyH_done (by kernel_rfl) (NoPanic.normal ?_) _
  clear hHeld
  go_upto_region 2 with fail
  go_wp2_with fail
  refine wp_region_noPanic ?_
  refine wp_region_held_drew (S := (fun w' => w'.cell? ⟨p, 9, none⟩ = some (ptr B.mm) ∧ w'.cell? ⟨kl, 1, none⟩ = some (.int .i64 l.a) ∧ w'.cell? ⟨kl, 3, none⟩ = some (.int .i64 l.q))) (by kernel_rfl) ?_ (fun hHeld => ?_)
  · exact ⟨a9, b1, b3⟩
  clear a8 a9 b1 b3 b6 d0c d1c d2c
  refine hTk 0 30 hHeld ?_
  refine hTk 1 31 hHeld ?_
  refine hTk 2 32 hHeld ?_
  refine hTk 3 33 hHeld ?_
  refine hTk 4 34 hHeld ?_
  refine hTk 5 35 hHeld ?_
  refine hTk 6 36 hHeld ?_
  refine hTk 7 37 hHeld ?_
  refine hTk 8 38 hHeld ?_
  refine hTk 9 39 hHeld ?_
  refine hTk 10 40 hHeld ?_
  refine hTk 11 41 hHeld ?_
  refine hTk 12 42 hHeld ?_
  refine hTk 13 43 hHeld ?_
  have Q4 : Hid (Ah w w3.drew p B Ft Ft c N D [(kd, dwR d0 d1 d2), (kl, ltR l)]) := hide (Q3.out.below (belowN (Below.refl _ _) 1))
  obtain ⟨w4, hw4⟩ : ∃ w4, w3.drew = w4 := ⟨_, rfl⟩
  rw [hw4] at hHeld Q4 ⊢
  clear hw4 Q3
  refine hNo 14 fun K hK => ?_
  go_simp
  go_at_call 78
  refine (mTake_c B.mm B.mg _ l.q r.n r.o r.v D.M _ Q4.out.n.mem (by omega) g hg M' hM').mono ?_
  rintro e w5 ⟨rfl, hm5, hf5⟩
  obtain ⟨n5, s5⟩ := Q4.out.n.setM (M := N + 1) (hm5.mono (by omega)) (by rw [← hM'.out, takM_len]) hf5 (Nat.le_succ N)
  rw [eD.out] at n5
  have Q5 := hide (Q4.out.step n5 s5)
  clear hm5 hf5 n5 s5 Q4
  obtain ⟨a8, a9, b1, b3, b6, d0c, d1c, d2c⟩ : w5.cell? ⟨p, 8, none⟩ = some (.int .i64 c.cp) ∧ w5.cell? ⟨p, 9, none⟩ = some (ptr B.mm) ∧ w5.cell? ⟨kl, 1, none⟩ = some (.int .i64 l.a) ∧ w5.cell? ⟨kl, 3, none⟩ = some (.int .i64 l.q) ∧ w5.cell? ⟨kl, 6, none⟩ = some (.bool l.r) ∧ w5.cell? ⟨kd, 0, none⟩ = some (.int .i64 d0) ∧ w5.cell? ⟨kd, 1, none⟩ = some (.int .i64 d1) ∧ w5.cell? ⟨kd, 2, none⟩ = some (.int .i64 d2) := by
    have y := lt_at (bz_get Q5.out.x (k := kl) (o := ltR l) (by simp)).2
    have z := (bz_get Q5.out.x (k := kd) (o := dwR d0 d1 d2) (by simp)).2
    exact ⟨Q5.out.n.at'.c8, Q5.out.n.at'.c9, y.c1, y.c3, y.c6, cell_of_row _ _ _ _ _ _ z, cell_of_row _ _ _ _ _ _ z, cell_of_row _ _ _ _ _ _ z⟩
  refine hK.out _ _ ?_ fun hHeld => ?_
  · exact ⟨a9, b1, b3⟩
  clear hK K
  try simp only [Act.put, za, zb, zc]
  refine hNo 15 fun K hK => ?_
  go_simp
  go_at_call 74
  refine (hmSend_c p B Ft c (N + 1) D' l.a l.q g _ Q5.out.n L hL').mono ?_
  rintro e w6 ⟨v6, rfl, g6, ow6, hg6, hb6⟩
  have Q6 := hide (Q5.out.below hb6)
  replace ow6 := hide ow6
  have hnf := hide (Q5.out.nf hg6)
  have hgw : Hid (w.heap.size ≤ g6) := hide (Nat.le_trans Q5.out.s.fr.size hg6)
  clear hb6 hg6 a8 a9 b1 b3 b6 d0c d1c d2c
  obtain ⟨a8, a9, b1, b3, b6, d0c, d1c, d2c⟩ : w6.cell? ⟨p, 8, none⟩ = some (.int .i64 c.cp) ∧ w6.cell? ⟨p, 9, none⟩ = some (ptr B.mm) ∧ w6.cell? ⟨kl, 1, none⟩ = some (.int .i64 l.a) ∧ w6.cell? ⟨kl, 3, none⟩ = some (.int .i64 l.q) ∧ w6.cell? ⟨kl, 6, none⟩ = some (.bool l.r) ∧ w6.cell? ⟨kd, 0, none⟩ = some (.int .i64 d0) ∧ w6.cell? ⟨kd, 1, none⟩ = some (.int .i64 d1) ∧ w6.cell? ⟨kd, 2, none⟩ = some (.int .i64 d2) := by
    have y := lt_at (bz_get Q6.out.x (k := kl) (o := ltR l) (by simp)).2
    have z := (bz_get Q6.out.x (k := kd) (o := dwR d0 d1 d2) (by simp)).2
    exact ⟨Q6.out.n.at'.c8, Q6.out.n.at'.c9, y.c1, y.c3, y.c6, cell_of_row _ _ _ _ _ _ z, cell_of_row _ _ _ _ _ _ z, cell_of_row _ _ _ _ _ _ z⟩
  refine hK.out _ _ ?_ fun hHeld => ?_
  · exact ⟨a9, b1, b3⟩
  clear hK K
  try simp only [Act.put, za, zb, zc]
  refine hTk 16 6 hHeld ?_
  refine wpAnyH_done (by kernel_rfl) (NoPanic.normal ?_) _
  clear hHeld
  go_wp2_with fail
  go_ret
  exact ⟨_, rfl, Ft, g6, hut_fin Q6.out ow6.out hgw.out hnf.out⟩
set_option maxHeartbeats 4000000 in
theorem hmDone_c (p : Nat) (B : Bh) (Ft : Nat → Prop) (c : Cf) (N : Nat) (D : Hm) (l : Lt) (d0 d1 d2 : Int) (w : World) (h : HmIs w p B Ft c N D) (L : List Lt) (hL : Hid (hDoneL c D l = L)) : Calls Tryd.prog 56 #[ptr p, .agg #[.int .i64 l.k, .int .i64 l.a, .int .i64 l.b, .int .i64 l.q, .int .i64 l.s, .int .i64 l.w, .bool l.r, .int .i64 l.n, .bool l.o, .bool l.h, .int .i64 l.d], .agg #[.int .i64 d0, .int .i64 d1, .int .i64 d2]] w fun e w' => ∃ v, e = .returned v ∧ ∃ Ft' g, HutP w p B Ft Ft' c (N + 1) (nxHDone D l) L v w' g := by
  have hH := hide h
  have hL' := hL.out
  obtain ⟨ok, hok⟩ : ∃ ok, Hid (okDone D.L l.q l.s = ok) := ⟨_, rfl⟩
  obtain ⟨D', hD'⟩ : ∃ D', Hid (nxHDone D l = D') := ⟨_, rfl⟩
  unfold hDoneL at hL'
  rw [hok.out] at hL'
  rw [hD'.out]
  clear h hL
  go_enter Tryd.func56, Tryd.ntmps56
  go_upto_region 1 with fail
  refine name_world ?_
  intro V hV
  have Q1 : Hid (Ah w V p B Ft Ft c N D [(w.heap.size + 1, dwR d0 d1 d2), (w.heap.size, ltR l)]) := by rw [← hV]; exact hide (ah_box hH.out l d0 d1 d2)
  obtain ⟨kd, hde⟩ : ∃ kd, Hid (w.heap.size + 1 = kd) := ⟨_, rfl⟩
  obtain ⟨kl, hle⟩ : ∃ kl, Hid (w.heap.size = kl) := ⟨_, rfl⟩
  rw [hde.out, hle.out] at Q1
  rw [hde.out, hle.out]
  clear hV
  obtain ⟨a10, b3, b4⟩ : V.cell? ⟨p, 10, none⟩ = some (ptr B.ap) ∧ V.cell? ⟨kl, 3, none⟩ = some (.int .i64 l.q) ∧ V.cell? ⟨kl, 4, none⟩ = some (.int .i64 l.s) := ⟨Q1.out.n.at'.c10, (lt_at (bz_get Q1.out.x (k := kl) (o := ltR l) (by simp)).2).c3, (lt_at (bz_get Q1.out.x (k := kl) (o := ltR l) (by simp)).2).c4⟩
  go_wp2_with fail
  refine wp_region_noPanic ?_
  refine wp_region_held_drew (S := (fun w' => w'.cell? ⟨p, 10, none⟩ = some (ptr B.ap) ∧ w'.cell? ⟨kl, 3, none⟩ = some (.int .i64 l.q) ∧ w'.cell? ⟨kl, 4, none⟩ = some (.int .i64 l.s))) (by kernel_rfl) ?_ (fun hHeld => ?_)
  · exact ⟨a10, b3, b4⟩
  clear a10 b3 b4
  refine hTk 0 7 hHeld ?_
  refine hTk 1 8 hHeld ?_
  refine hTk 2 9 hHeld ?_
  refine hTk 3 10 hHeld ?_
  refine hTk 4 11 hHeld ?_
  refine hTk 5 12 hHeld ?_
  refine hTk 6 13 hHeld ?_
  refine hTk 7 14 hHeld ?_
  have Q0 : Hid (Ah w V.drew p B Ft Ft c N D [(kd, dwR d0 d1 d2), (kl, ltR l)]) := hide (Q1.out.below (belowN (Below.refl _ _) 1))
  obtain ⟨w1, hw1⟩ : ∃ w1, V.drew = w1 := ⟨_, rfl⟩
  rw [hw1] at hHeld Q0 ⊢
  clear hw1 Q1
  refine hNo 8 fun K hK => ?_
  go_simp
  go_at_call 81
  refine (aDone_c B.ap B.ag _ N D.L Ft l.q l.s _ Q0.out.n.arb ok hok).mono ?_
  rintro e w2 ⟨rfl, Ft2, ha2, hs2⟩
  obtain ⟨n2, s2⟩ := Q0.out.n.setL (ha2.mono (Nat.le_succ N)) (nxDone_len _ _ _) hs2 (Nat.le_succ N)
  replace n2 : HmIs w2 p B Ft2 c (N + 1) D' := by rw [← hD'.out]; exact n2
  have Q2 := hide (Q0.out.step n2 s2)
  clear ha2 hs2 n2 s2 Q0
  obtain ⟨a10, b3, b4⟩ : w2.cell? ⟨p, 10, none⟩ = some (ptr B.ap) ∧ w2.cell? ⟨kl, 3, none⟩ = some (.int .i64 l.q) ∧ w2.cell? ⟨kl, 4, none⟩ = some (.int .i64 l.s) := ⟨Q2.out.n.at'.c10, (lt_at (bz_get Q2.out.x (k := kl) (o := ltR l) (by simp)).2).c3, (lt_at (bz_get Q2.out.x (k := kl) (o := ltR l) (by simp)).2).c4⟩
  refine hK.out _ _ ?_ fun hHeld => ?_
  · exact ⟨a10, b3, b4⟩
  clear hK K
  try simp only [Act.put, za, zb, zc]
  refine hTk 9 16 hHeld ?_
  refine wpAnyH_done (by kernel_rfl) (NoPanic.normal ?_) _
  clear hHeld
  have hkl := (bz_get Q2.out.x (k := kl) (o := ltR l) (by simp)).1
  have hpl := Q2.out.n.pl
  have hlo := hide (And.intro (Q2.out.x (kl, ltR l) (by simp)).1 (Q2.out.x (kl, ltR l) (by simp)).2.2.1)
  have hszc := Q2.out.s.fr.size
  cases ok
  · simp only [Bool.false_eq_true, if_false] at hL'
    subst hL'
    go_wp2_with fail
    go_ret
    exact ⟨_, rfl, Ft2, kl, hut_fin Q2.out (own_nilT hkl) hlo.out.1 hlo.out.2⟩
  · simp only [if_true] at hL'
    replace hL' := hide hL'
    go_wp2_with (go_at_call 82; refine (hmSpread_c p B Ft2 c (N + 1) D' 6 l.q l.s 0 _ Q2.out.n L hL').mono ?_; rintro e w6 ⟨v6, rfl, g6, ow6, hg6, hb6⟩; have Q6 := hide (Q2.out.below hb6); replace ow6 := hide ow6; clear hb6)
    go_ret
    exact ⟨_, rfl, Ft2, g6, hut_fin Q6.out ow6.out (by omega) (Q2.out.nf hg6)⟩
theorem field_nH (w : World) (n : Int) (o h : Bool) (d : Int) : (Instr.field 32 (.agg #[.int .i64 n, .bool o, .bool h, .int .i64 d]) 0).run Tryd.prog w = .ok (.int .i64 n) w := by kernel_rfl
theorem ah_setB {w V : World} {p : Nat} {B : Bh} {Ft F : Nat → Prop} {c : Cf} {N : Nat} {D : Hm} {K : List (Nat × Obj)} {k : Nat} (h : Ah w V p B Ft F c N D ((k, bunR bun0) :: K)) (hk : ∀ x ∈ K, x.1 ≠ k) (a : Bun) : Ah w ((((V.setCell ⟨k, 0, none⟩ (.int .i64 a.n)).setCell ⟨k, 1, none⟩ (.bool a.o)).setCell ⟨k, 2, none⟩ (.bool a.h)).setCell ⟨k, 3, none⟩ (.int .i64 a.d)) p B Ft F c N D ((k, bunR a) :: K) := by
  have e1 : Ah w (V.setCell ⟨k, 0, none⟩ (.int .i64 a.n)) p B Ft F c N D ((k, .cells #[.int .i64 a.n, .bool false, .bool false, .int .i64 0] 32 (0, 0)) :: K) := h.head hk 0 _
  have e2 : Ah w ((V.setCell ⟨k, 0, none⟩ (.int .i64 a.n)).setCell ⟨k, 1, none⟩ (.bool a.o)) p B Ft F c N D ((k, .cells #[.int .i64 a.n, .bool a.o, .bool false, .int .i64 0] 32 (0, 0)) :: K) := e1.head hk 1 _
  have e3 : Ah w (((V.setCell ⟨k, 0, none⟩ (.int .i64 a.n)).setCell ⟨k, 1, none⟩ (.bool a.o)).setCell ⟨k, 2, none⟩ (.bool a.h)) p B Ft F c N D ((k, .cells #[.int .i64 a.n, .bool a.o, .bool a.h, .int .i64 0] 32 (0, 0)) :: K) := e2.head hk 2 _
  exact e3.head hk 3 _
set_option maxHeartbeats 4000000 in
theorem hmAct_c (p : Nat) (B : Bh) (Ft : Nat → Prop) (c : Cf) (N : Nat) (D : Hm) (a : At) (ok : Bool) (w : World) (h : HmIs w p B Ft c N D) (hN1 : N + 1 ≤ 100000) (L : List Lt) (hL : Hid (hActL c D a ok = L)) : Calls Tryd.prog 79 #[ptr p, .agg #[.int .i64 a.b, .int .i64 a.n, .int .i64 a.s], .bool ok] w fun e w' => ∃ v, e = .returned v ∧ ∃ g, HutP w p B Ft Ft c N (nxHAct D a ok) L v w' g := by
  have hH := hide h
  have hL' := hL.out
  have hfld := field_nH
  obtain ⟨D', hD'⟩ : ∃ D', Hid (nxHAct D a ok = D') := ⟨_, rfl⟩
  rw [hD'.out]
  unfold hActL at hL'
  clear hL h
  cases ok
  · simp only [Bool.false_eq_true, if_false] at hL'
    subst hL'
    obtain rfl : D = D' := by rw [← hD'.out]; rfl
    go_enter Tryd.func79, Tryd.ntmps79
    go_wp2_with fail
    go_ret
    have Q := (ah_start hH.out).new (resO a)
    obtain ⟨q1, q2, q3, q4⟩ := Q.x (w.heap.size, resO a) (by simp)
    exact ⟨_, rfl, w.heap.size, hut_fin Q (own_nilT q2) q1 q3⟩
  · simp only [if_true] at hL'
    obtain ⟨t, ht⟩ : ∃ t, Hid (getM D.M a.b = t) := ⟨_, rfl⟩
    obtain ⟨g, hg0⟩ : ∃ g, Hid (givenB t t.n true true = g) := ⟨_, rfl⟩
    have hg : Hid (givenB (getM D.M a.b) t.n true true = g) := hide (by rw [ht.out]; exact hg0.out)
    obtain ⟨M', hM'⟩ : ∃ M', Hid (takM D.M a.b t.n true = M') := ⟨_, rfl⟩
    have eD : Hid (⟨M', D.L⟩ = D') := hide (by rw [← hD'.out, ← hM'.out, ← ht.out]; rfl)
    obtain ⟨Ls, hLs⟩ : ∃ Ls, Hid (sprL c 4 a.b a.s a.n = Ls) := ⟨_, rfl⟩
    obtain ⟨Lt', hLt⟩ : ∃ L2, Hid (sendL c.n a.n a.b g = L2) := ⟨_, rfl⟩
    have hL2 : Hid (Ls ++ Lt' = L) := hide (by rw [← hL', ← hLs.out, ← hLt.out, ht.out, hg0.out])
    have hl1 : Hid (Ls.length ≤ 64) := hide (by rw [← hLs.out, sprL_len]; have := hH.out.ok.n1; omega)
    have hl2 : Hid (Lt'.length ≤ 1) := hide (by rw [← hLt.out]; exact sendL_lenH _ _ _ _)
    obtain ⟨m, hm⟩ : ∃ m, Hid (Ls.length + Lt'.length = m) := ⟨_, rfl⟩
    clear hL' hD' hg0
    go_enter Tryd.func79, Tryd.ntmps79
    go_upto_region 3 with fail
    refine name_world ?_
    intro V hV
    have Q1 : Hid (Ah w V p B Ft Ft c N D [(w.heap.size, resO a)]) := by rw [← hV]; exact hide ((ah_start hH.out).new (resO a))
    obtain ⟨kb, hke⟩ : ∃ kb, Hid (w.heap.size = kb) := ⟨_, rfl⟩
    rw [hke.out] at Q1
    rw [hke.out]
    clear hV
    obtain ⟨a9, b0⟩ : V.cell? ⟨p, 9, none⟩ = some (ptr B.mm) ∧ V.cell? ⟨kb, 0, none⟩ = some (.int .i64 a.b) := ⟨Q1.out.n.at'.c9, cell_of_row _ _ _ _ _ _ (bz_get Q1.out.x (k := kb) (o := resO a) (by simp)).2⟩
    go_cut [7] (fun sk wx => ∃ kt, sk = ptr kt ∧ Ah w wx p B Ft Ft c N D' [(kt, bunR g), (kb, resO a)])
    case first =>
      go_wp2_with fail
      refine wp_region_noPanic ?_
      refine wp_region_held_drew (S := (fun w' => w'.cell? ⟨p, 9, none⟩ = some (ptr B.mm) ∧ w'.cell? ⟨kb, 0, none⟩ = some (.int .i64 a.b))) (by kernel_rfl) ?_ (fun hHeld => ?_)
      · exact ⟨a9, b0⟩
      clear a9 b0
      refine hTk 0 10 hHeld ?_
      refine hTk 1 11 hHeld ?_
      refine hTk 2 12 hHeld ?_
      refine hTk 3 13 hHeld ?_
      refine hTk 4 14 hHeld ?_
      refine hTk 5 15 hHeld ?_
      refine hTk 6 16 hHeld ?_
      refine hTk 7 17 hHeld ?_
      refine hTk 8 18 hHeld ?_
      refine hTk 9 19 hHeld ?_
      refine hTk 10 20 hHeld ?_
      refine hTk 11 21 hHeld ?_
      have Q0 : Hid (Ah w V.drew p B Ft Ft c N D [(kb, resO a)]) := hide (Q1.out.below (belowN (Below.refl _ _) 1))
      obtain ⟨w1, hw1⟩ : ∃ w1, V.drew = w1 := ⟨_, rfl⟩
      rw [hw1] at hHeld Q0 ⊢
      clear hw1 Q1
      refine hTwo 12 15 (fun K hK => ?_) fun K hK => ?_
      · go_simp
        go_at_call 77
        refine (mGet_c B.mm B.mg _ a.b D.M _ Q0.out.n.mem t ht).mono ?_
        rintro e w2 ⟨rfl, hbG⟩
        have Q2 := hide (Q0.out.below hbG)
        clear hbG
        obtain ⟨a9, b0⟩ : w2.cell? ⟨p, 9, none⟩ = some (ptr B.mm) ∧ w2.cell? ⟨kb, 0, none⟩ = some (.int .i64 a.b) := ⟨Q2.out.n.at'.c9, cell_of_row _ _ _ _ _ _ (bz_get Q2.out.x (k := kb) (o := resO a) (by simp)).2⟩
        refine hK.out _ _ ?_ fun hHeld => ?_
        · exact ⟨a9, b0⟩
        clear hK K
        try simp only [Act.put, za, zb, zc]
        clear a9 b0
        refine hTk 13 23 hHeld ?_
        refine hTwo 14 15 (fun K hK => ?_) fun K hK => ?_
        · go_simp
          go_at_call 78
          refine (mTake_c B.mm B.mg _ a.b t.n true true D.M _ Q2.out.n.mem (by omega) g hg M' hM').mono ?_
          rintro e w3 ⟨rfl, hm5, hf5⟩
          obtain ⟨n5, s5⟩ := Q2.out.n.setM (M := N) hm5 (by rw [← hM'.out, takM_len]) hf5 (Nat.le_refl N)
          rw [eD.out] at n5
          have Q3 := hide (Q2.out.step n5 s5)
          clear hm5 hf5 n5 s5
          obtain ⟨a9, b0⟩ : w3.cell? ⟨p, 9, none⟩ = some (ptr B.mm) ∧ w3.cell? ⟨kb, 0, none⟩ = some (.int .i64 a.b) := ⟨Q3.out.n.at'.c9, cell_of_row _ _ _ _ _ _ (bz_get Q3.out.x (k := kb) (o := resO a) (by simp)).2⟩
          refine hK.out _ _ ?_ fun hHeld => ?_
          · exact ⟨a9, b0⟩
          clear hK K
          try simp only [Act.put, za, zb, zc]
          clear a9 b0
          refine hNo 15 fun K hK => ?_
          go_simp
          have hne := hide (bz_get Q3.out.x (k := kb) (o := resO a) (by simp)).1
          have Q4 := hide (Q3.out.new (bunR bun0))
          obtain ⟨kt, ekt⟩ : ∃ kt, w3.heap.size = kt := ⟨_, rfl⟩
          obtain ⟨w4, ew⟩ : ∃ W, w3.alloc (bunR bun0) = W := ⟨_, rfl⟩
          rw [ew, ekt] at Q4
          rw [ekt] at hne ⊢
          dsimp only [bunR] at ew
          rw [ew]
          clear ew ekt
          obtain ⟨a9, b0⟩ : w4.cell? ⟨p, 9, none⟩ = some (ptr B.mm) ∧ w4.cell? ⟨kb, 0, none⟩ = some (.int .i64 a.b) := ⟨Q4.out.n.at'.c9, cell_of_row _ _ _ _ _ _ (bz_get Q4.out.x (k := kb) (o := resO a) (by simp)).2⟩
          refine hK.out _ _ ?_ fun hHeld => ?_
          · exact ⟨a9, b0⟩
          clear hK K
          try simp only [Act.put, za, zb, zc]
          clear a9 b0
          obtain ⟨hkt, bkt⟩ := bz_get Q4.out.x (k := kt) (o := bunR bun0) (by simp)
          have y0 : w4.cell? ⟨kt, 0, none⟩ = some (.int .i64 0) := cell_of_row _ _ _ _ _ _ bkt
          have y1 : w4.cell? ⟨kt, 1, none⟩ = some (.bool false) := cell_of_row _ _ _ _ _ _ bkt
          have y2 : w4.cell? ⟨kt, 2, none⟩ = some (.bool false) := cell_of_row _ _ _ _ _ _ bkt
          have y3 : w4.cell? ⟨kt, 3, none⟩ = some (.int .i64 0) := cell_of_row _ _ _ _ _ _ bkt
          have zt : ∀ i, w4.frozen? ⟨kt, i, none⟩ = false := fun i => frozen_of_row _ _ _ _ _ bkt
          refine hNo 16 fun K hK => ?_
          go_simp
          have Q5 : Hid (Ah w ((((w4.setCell ⟨kt, 0, none⟩ (.int .i64 g.n)).setCell ⟨kt, 1, none⟩ (.bool g.o)).setCell ⟨kt, 2, none⟩ (.bool g.h)).setCell ⟨kt, 3, none⟩ (.int .i64 g.d)) p B Ft Ft c N D' [(kt, bunR g), (kb, resO a)]) := hide (ah_setB Q4.out (fun x hx => by
            simp only [List.mem_cons, List.not_mem_nil, or_false] at hx
            have := hne.out
            rcases hx with rfl
            dsimp only; omega) g)
          obtain ⟨w5, ew⟩ : ∃ W, (((w4.setCell ⟨kt, 0, none⟩ (.int .i64 g.n)).setCell ⟨kt, 1, none⟩ (.bool g.o)).setCell ⟨kt, 2, none⟩ (.bool g.h)).setCell ⟨kt, 3, none⟩ (.int .i64 g.d) = W := ⟨_, rfl⟩
          rw [ew] at Q5 ⊢
          clear ew y0 y1 y2 y3 zt bkt hkt Q4
          obtain ⟨a9, b0⟩ : w5.cell? ⟨p, 9, none⟩ = some (ptr B.mm) ∧ w5.cell? ⟨kb, 0, none⟩ = some (.int .i64 a.b) := ⟨Q5.out.n.at'.c9, cell_of_row _ _ _ _ _ _ (bz_get Q5.out.x (k := kb) (o := resO a) (by simp)).2⟩
          refine hK.out _ _ ?_ fun hHeld => ?_
          · exact ⟨a9, b0⟩
          clear hK K
          try simp only [Act.put, za, zb, zc]
          clear a9 b0
          refine wpAnyH_done (by kernel_rfl) (NoPanic.normal ?_) _
          clear hHeld
          go_wp2_with fail
          go_meet
          exact ⟨kt, rfl, Q5.out⟩
        · go_simp
          have hne := hide (bz_get Q2.out.x (k := kb) (o := resO a) (by simp)).1
          have Q3 := hide (Q2.out.new (bunR bun0))
          obtain ⟨kt, ekt⟩ : ∃ kt, w2.heap.size = kt := ⟨_, rfl⟩
          obtain ⟨w3, ew⟩ : ∃ W, w2.alloc (bunR bun0) = W := ⟨_, rfl⟩
          rw [ew, ekt] at Q3
          rw [ekt] at hne ⊢
          dsimp only [bunR] at ew
          rw [ew]
          clear ew ekt
          obtain ⟨a9, b0⟩ : w3.cell? ⟨p, 9, none⟩ = some (ptr B.mm) ∧ w3.cell? ⟨kb, 0, none⟩ = some (.int .i64 a.b) := ⟨Q3.out.n.at'.c9, cell_of_row _ _ _ _ _ _ (bz_get Q3.out.x (k := kb) (o := resO a) (by simp)).2⟩
          refine hK.out _ _ ?_ fun hHeld => ?_
          · exact ⟨a9, b0⟩
          clear hK K
          try simp only [Act.put, za, zb, zc]
          clear a9 b0
          refine hNo 14 fun K hK => ?_
          go_simp
          go_at_call 78
          refine (mTake_c B.mm B.mg _ a.b t.n true true D.M _ Q3.out.n.mem (by omega) g hg M' hM').mono ?_
          rintro e w4 ⟨rfl, hm5, hf5⟩
          obtain ⟨n5, s5⟩ := Q3.out.n.setM (M := N) hm5 (by rw [← hM'.out, takM_len]) hf5 (Nat.le_refl N)
          rw [eD.out] at n5
          have Q4 := hide (Q3.out.step n5 s5)
          clear hm5 hf5 n5 s5
          obtain ⟨a9, b0⟩ : w4.cell? ⟨p, 9, none⟩ = some (ptr B.mm) ∧ w4.cell? ⟨kb, 0, none⟩ = some (.int .i64 a.b) := ⟨Q4.out.n.at'.c9, cell_of_row _ _ _ _ _ _ (bz_get Q4.out.x (k := kb) (o := resO a) (by simp)).2⟩
          refine hK.out _ _ ?_ fun hHeld => ?_
          · exact ⟨a9, b0⟩
          clear hK K
          try simp only [Act.put, za, zb, zc]
          clear a9 b0
          obtain ⟨hkt, bkt⟩ := bz_get Q4.out.x (k := kt) (o := bunR bun0) (by simp)
          have y0 : w4.cell? ⟨kt, 0, none⟩ = some (.int .i64 0) := cell_of_row _ _ _ _ _ _ bkt
          have y1 : w4.cell? ⟨kt, 1, none⟩ = some (.bool false) := cell_of_row _ _ _ _ _ _ bkt
          have y2 : w4.cell? ⟨kt, 2, none⟩ = some (.bool false) := cell_of_row _ _ _ _ _ _ bkt
          have y3 : w4.cell? ⟨kt, 3, none⟩ = some (.int .i64 0) := cell_of_row _ _ _ _ _ _ bkt
          have zt : ∀ i, w4.frozen? ⟨kt, i, none⟩ = false := fun i => frozen_of_row _ _ _ _ _ bkt
          refine hNo 16 fun K hK => ?_
          go_simp
          have Q5 : Hid (Ah w ((((w4.setCell ⟨kt, 0, none⟩ (.int .i64 g.n)).setCell ⟨kt, 1, none⟩ (.bool g.o)).setCell ⟨kt, 2, none⟩ (.bool g.h)).setCell ⟨kt, 3, none⟩ (.int .i64 g.d)) p B Ft Ft c N D' [(kt, bunR g), (kb, resO a)]) := hide (ah_setB Q4.out (fun x hx => by
            simp only [List.mem_cons, List.not_mem_nil, or_false] at hx
            have := hne.out
            rcases hx with rfl
            dsimp only; omega) g)
          obtain ⟨w5, ew⟩ : ∃ W, (((w4.setCell ⟨kt, 0, none⟩ (.int .i64 g.n)).setCell ⟨kt, 1, none⟩ (.bool g.o)).setCell ⟨kt, 2, none⟩ (.bool g.h)).setCell ⟨kt, 3, none⟩ (.int .i64 g.d) = W := ⟨_, rfl⟩
          rw [ew] at Q5 ⊢
          clear ew y0 y1 y2 y3 zt bkt hkt Q4
          obtain ⟨a9, b0⟩ : w5.cell? ⟨p, 9, none⟩ = some (ptr B.mm) ∧ w5.cell? ⟨kb, 0, none⟩ = some (.int .i64 a.b) := ⟨Q5.out.n.at'.c9, cell_of_row _ _ _ _ _ _ (bz_get Q5.out.x (k := kb) (o := resO a) (by simp)).2⟩
          refine hK.out _ _ ?_ fun hHeld => ?_
          · exact ⟨a9, b0⟩
          clear hK K
          try simp only [Act.put, za, zb, zc]
          clear a9 b0
          refine wpAnyH_done (by kernel_rfl) (NoPanic.normal ?_) _
          clear hHeld
          go_wp2_with fail
          go_meet
          exact ⟨kt, rfl, Q5.out⟩
      · go_simp
        have hne := hide (bz_get Q0.out.x (k := kb) (o := resO a) (by simp)).1
        have Q2 := hide (Q0.out.new (bunR bun0))
        obtain ⟨kt, ekt⟩ : ∃ kt, w1.heap.size = kt := ⟨_, rfl⟩
        obtain ⟨w2, ew⟩ : ∃ W, w1.alloc (bunR bun0) = W := ⟨_, rfl⟩
        rw [ew, ekt] at Q2
        rw [ekt] at hne ⊢
        dsimp only [bunR] at ew
        rw [ew]
        clear ew ekt
        obtain ⟨a9, b0⟩ : w2.cell? ⟨p, 9, none⟩ = some (ptr B.mm) ∧ w2.cell? ⟨kb, 0, none⟩ = some (.int .i64 a.b) := ⟨Q2.out.n.at'.c9, cell_of_row _ _ _ _ _ _ (bz_get Q2.out.x (k := kb) (o := resO a) (by simp)).2⟩
        refine hK.out _ _ ?_ fun hHeld => ?_
        · exact ⟨a9, b0⟩
        clear hK K
        try simp only [Act.put, za, zb, zc]
        clear a9 b0
        refine hNo 12 fun K hK => ?_
        go_simp
        go_at_call 77
        refine (mGet_c B.mm B.mg _ a.b D.M _ Q2.out.n.mem t ht).mono ?_
        rintro e w3 ⟨rfl, hbG⟩
        have Q3 := hide (Q2.out.below hbG)
        clear hbG
        obtain ⟨a9, b0⟩ : w3.cell? ⟨p, 9, none⟩ = some (ptr B.mm) ∧ w3.cell? ⟨kb, 0, none⟩ = some (.int .i64 a.b) := ⟨Q3.out.n.at'.c9, cell_of_row _ _ _ _ _ _ (bz_get Q3.out.x (k := kb) (o := resO a) (by simp)).2⟩
        refine hK.out _ _ ?_ fun hHeld => ?_
        · exact ⟨a9, b0⟩
        clear hK K
        try simp only [Act.put, za, zb, zc]
        clear a9 b0
        refine hTk 13 23 hHeld ?_
        refine hNo 14 fun K hK => ?_
        go_simp
        go_at_call 78
        refine (mTake_c B.mm B.mg _ a.b t.n true true D.M _ Q3.out.n.mem (by omega) g hg M' hM').mono ?_
        rintro e w4 ⟨rfl, hm5, hf5⟩
        obtain ⟨n5, s5⟩ := Q3.out.n.setM (M := N) hm5 (by rw [← hM'.out, takM_len]) hf5 (Nat.le_refl N)
        rw [eD.out] at n5
        have Q4 := hide (Q3.out.step n5 s5)
        clear hm5 hf5 n5 s5
        obtain ⟨a9, b0⟩ : w4.cell? ⟨p, 9, none⟩ = some (ptr B.mm) ∧ w4.cell? ⟨kb, 0, none⟩ = some (.int .i64 a.b) := ⟨Q4.out.n.at'.c9, cell_of_row _ _ _ _ _ _ (bz_get Q4.out.x (k := kb) (o := resO a) (by simp)).2⟩
        refine hK.out _ _ ?_ fun hHeld => ?_
        · exact ⟨a9, b0⟩
        clear hK K
        try simp only [Act.put, za, zb, zc]
        clear a9 b0
        obtain ⟨hkt, bkt⟩ := bz_get Q4.out.x (k := kt) (o := bunR bun0) (by simp)
        have y0 : w4.cell? ⟨kt, 0, none⟩ = some (.int .i64 0) := cell_of_row _ _ _ _ _ _ bkt
        have y1 : w4.cell? ⟨kt, 1, none⟩ = some (.bool false) := cell_of_row _ _ _ _ _ _ bkt
        have y2 : w4.cell? ⟨kt, 2, none⟩ = some (.bool false) := cell_of_row _ _ _ _ _ _ bkt
        have y3 : w4.cell? ⟨kt, 3, none⟩ = some (.int .i64 0) := cell_of_row _ _ _ _ _ _ bkt
        have zt : ∀ i, w4.frozen? ⟨kt, i, none⟩ = false := fun i => frozen_of_row _ _ _ _ _ bkt
        refine hNo 16 fun K hK => ?_
        go_simp
        have Q5 : Hid (Ah w ((((w4.setCell ⟨kt, 0, none⟩ (.int .i64 g.n)).setCell ⟨kt, 1, none⟩ (.bool g.o)).setCell ⟨kt, 2, none⟩ (.bool g.h)).setCell ⟨kt, 3, none⟩ (.int .i64 g.d)) p B Ft Ft c N D' [(kt, bunR g), (kb, resO a)]) := hide (ah_setB Q4.out (fun x hx => by
          simp only [List.mem_cons, List.not_mem_nil, or_false] at hx
          have := hne.out
          rcases hx with rfl
          dsimp only; omega) g)
        obtain ⟨w5, ew⟩ : ∃ W, (((w4.setCell ⟨kt, 0, none⟩ (.int .i64 g.n)).setCell ⟨kt, 1, none⟩ (.bool g.o)).setCell ⟨kt, 2, none⟩ (.bool g.h)).setCell ⟨kt, 3, none⟩ (.int .i64 g.d) = W := ⟨_, rfl⟩
        rw [ew] at Q5 ⊢
        clear ew y0 y1 y2 y3 zt bkt hkt Q4
        obtain ⟨a9, b0⟩ : w5.cell? ⟨p, 9, none⟩ = some (ptr B.mm) ∧ w5.cell? ⟨kb, 0, none⟩ = some (.int .i64 a.b) := ⟨Q5.out.n.at'.c9, cell_of_row _ _ _ _ _ _ (bz_get Q5.out.x (k := kb) (o := resO a) (by simp)).2⟩
        refine hK.out _ _ ?_ fun hHeld => ?_
        · exact ⟨a9, b0⟩
        clear hK K
        try simp only [Act.put, za, zb, zc]
        clear a9 b0
        refine wpAnyH_done (by kernel_rfl) (NoPanic.normal ?_) _
        clear hHeld
        go_wp2_with fail
        go_meet
        exact ⟨kt, rfl, Q5.out⟩
    case rest =>
      clear a9 b0 Q1 V
      obtain ⟨kt, rfl, Q5⟩ := hcut
      obtain ⟨w5, ew⟩ : ∃ w5, wc = w5 := ⟨_, rfl⟩
      subst ew
      replace Q5 := hide Q5
      obtain ⟨b0, b1, b2, t0, t1, t2, t3⟩ : wc.cell? ⟨kb, 0, none⟩ = some (.int .i64 a.b) ∧ wc.cell? ⟨kb, 1, none⟩ = some (.int .i64 a.n) ∧ wc.cell? ⟨kb, 2, none⟩ = some (.int .i64 a.s) ∧ wc.cell? ⟨kt, 0, none⟩ = some (.int .i64 g.n) ∧ wc.cell? ⟨kt, 1, none⟩ = some (.bool g.o) ∧ wc.cell? ⟨kt, 2, none⟩ = some (.bool g.h) ∧ wc.cell? ⟨kt, 3, none⟩ = some (.int .i64 g.d) := by
        have y := (bz_get Q5.out.x (k := kb) (o := resO a) (by simp)).2
        have z := (bz_get Q5.out.x (k := kt) (o := bunR g) (by simp)).2
        exact ⟨cell_of_row _ _ _ _ _ _ y, cell_of_row _ _ _ _ _ _ y, cell_of_row _ _ _ _ _ _ y, cell_of_row _ _ _ _ _ _ z, cell_of_row _ _ _ _ _ _ z, cell_of_row _ _ _ _ _ _ z, cell_of_row _ _ _ _ _ _ z⟩
      go_upto_region 4 with fail
      go_wp2_with fail
      refine wp_region_noPanic ?_
      refine wp_region_held_drew (S := (fun w' => w'.cell? ⟨kb, 0, none⟩ = some (.int .i64 a.b) ∧ w'.cell? ⟨kb, 1, none⟩ = some (.int .i64 a.n) ∧ w'.cell? ⟨kb, 2, none⟩ = some (.int .i64 a.s) ∧ w'.cell? ⟨kt, 0, none⟩ = some (.int .i64 g.n) ∧ w'.cell? ⟨kt, 1, none⟩ = some (.bool g.o) ∧ w'.cell? ⟨kt, 2, none⟩ = some (.bool g.h) ∧ w'.cell? ⟨kt, 3, none⟩ = some (.int .i64 g.d))) (by kernel_rfl) ?_ (fun hHeld => ?_)
      · exact ⟨b0, b1, b2, t0, t1, t2, t3⟩
      clear b0 b1 b2 t0 t1 t2 t3
      refine hTk 0 25 hHeld ?_
      refine hTk 1 26 hHeld ?_
      refine hTk 2 27 hHeld ?_
      refine hTk 3 28 hHeld ?_
      refine hTk 4 29 hHeld ?_
      refine hTk 5 30 hHeld ?_
      refine hTk 6 31 hHeld ?_
      refine hTk 8 33 hHeld ?_
      refine hTk 9 34 hHeld ?_
      refine hTk 10 35 hHeld ?_
      refine hTk 11 36 hHeld ?_
      refine hTk 12 37 hHeld ?_
      refine hTk 13 38 hHeld ?_
      have Q6 : Hid (Ah w wc.drew p B Ft Ft c N D' [(kt, bunR g), (kb, resO a)]) := hide (Q5.out.below (belowN (Below.refl _ _) 1))
      obtain ⟨w6, hw6⟩ : ∃ w6, wc.drew = w6 := ⟨_, rfl⟩
      rw [hw6] at hHeld Q6 ⊢
      clear hw6 Q5
      refine hNo 7 fun K hK => ?_
      go_simp
      go_at_call 82
      refine (hmSpread_c p B Ft c N D' 4 a.b a.s a.n _ Q6.out.n Ls hLs).mono ?_
      rintro e w7 ⟨v7, rfl, g7, ow7, hg7, hb7⟩
      have Q7 := hide (Q6.out.below hb7)
      replace ow7 := hide ow7
      have hnf7 := hide (Q6.out.nf hg7)
      have hgw7 : Hid (w.heap.size ≤ g7) := hide (Nat.le_trans Q6.out.s.fr.size hg7)
      have hgt : Hid (kt < g7 ∧ kb < g7) := hide ⟨Nat.lt_of_lt_of_le (bz_get Q6.out.x (k := kt) (o := bunR g) (by simp)).1 hg7, Nat.lt_of_lt_of_le (bz_get Q6.out.x (k := kb) (o := resO a) (by simp)).1 hg7⟩
      clear hb7 hg7 Q6
      obtain ⟨b0, b1, b2, t0, t1, t2, t3⟩ : w7.cell? ⟨kb, 0, none⟩ = some (.int .i64 a.b) ∧ w7.cell? ⟨kb, 1, none⟩ = some (.int .i64 a.n) ∧ w7.cell? ⟨kb, 2, none⟩ = some (.int .i64 a.s) ∧ w7.cell? ⟨kt, 0, none⟩ = some (.int .i64 g.n) ∧ w7.cell? ⟨kt, 1, none⟩ = some (.bool g.o) ∧ w7.cell? ⟨kt, 2, none⟩ = some (.bool g.h) ∧ w7.cell? ⟨kt, 3, none⟩ = some (.int .i64 g.d) := by
        have y := (bz_get Q7.out.x (k := kb) (o := resO a) (by simp)).2
        have z := (bz_get Q7.out.x (k := kt) (o := bunR g) (by simp)).2
        exact ⟨cell_of_row _ _ _ _ _ _ y, cell_of_row _ _ _ _ _ _ y, cell_of_row _ _ _ _ _ _ y, cell_of_row _ _ _ _ _ _ z, cell_of_row _ _ _ _ _ _ z, cell_of_row _ _ _ _ _ _ z, cell_of_row _ _ _ _ _ _ z⟩
      refine hK.out _ _ ?_ fun hHeld => ?_
      · exact ⟨b0, b1, b2, t0, t1, t2, t3⟩
      clear hK K
      try simp only [Act.put, za, zb, zc]
      clear b0 b1 b2 t0 t1 t2 t3
      refine hNo 14 fun K hK => ?_
      go_simp
      go_at_call 74
      refine (hmSend_c p B Ft c N D' a.n a.b g _ Q7.out.n Lt' hLt).mono ?_
      rintro e w8 ⟨v8, rfl, g8, ow8, hg8, hb8⟩
      have Q8 := hide (Q7.out.below hb8)
      replace ow7 := hide (ow7.out.below hb8)
      replace ow8 := hide ow8
      clear hb8 hg8 Q7
      obtain ⟨b0, b1, b2, t0, t1, t2, t3⟩ : w8.cell? ⟨kb, 0, none⟩ = some (.int .i64 a.b) ∧ w8.cell? ⟨kb, 1, none⟩ = some (.int .i64 a.n) ∧ w8.cell? ⟨kb, 2, none⟩ = some (.int .i64 a.s) ∧ w8.cell? ⟨kt, 0, none⟩ = some (.int .i64 g.n) ∧ w8.cell? ⟨kt, 1, none⟩ = some (.bool g.o) ∧ w8.cell? ⟨kt, 2, none⟩ = some (.bool g.h) ∧ w8.cell? ⟨kt, 3, none⟩ = some (.int .i64 g.d) := by
        have y := (bz_get Q8.out.x (k := kb) (o := resO a) (by simp)).2
        have z := (bz_get Q8.out.x (k := kt) (o := bunR g) (by simp)).2
        exact ⟨cell_of_row _ _ _ _ _ _ y, cell_of_row _ _ _ _ _ _ y, cell_of_row _ _ _ _ _ _ y, cell_of_row _ _ _ _ _ _ z, cell_of_row _ _ _ _ _ _ z, cell_of_row _ _ _ _ _ _ z, cell_of_row _ _ _ _ _ _ z⟩
      refine hK.out _ _ ?_ fun hHeld => ?_
      · exact ⟨b0, b1, b2, t0, t1, t2, t3⟩
      clear hK K
      try simp only [Act.put, za, zb, zc]
      clear b0 b1 b2 t0 t1 t2 t3
      refine hNo 15 fun K hK => ?_
      refine wp_appT (.tmp 32) (.tmp 39) rfl rfl rfl ow7.out ow8.out.view (by have := hl1.out; have := hl2.out; omega) m hm.out ?_
      intro ao' cap' w9 g' hown' hap
      have Q9 := hide (Q8.out.frk hap.fr hgw7.out hnf7.out (fun x hx => by
        have := hgt.out
        simp only [List.mem_cons, List.not_mem_nil, or_false] at hx
        rcases hx with rfl | rfl <;> (dsimp only; omega)))
      have hg9 : Hid (w.heap.size ≤ g' ∧ ¬ Fh p B Ft g') := hide (by
        rcases hap.lies with e | e
        · rw [e]; exact ⟨hgw7.out, hnf7.out⟩
        · exact ⟨Nat.le_trans Q8.out.s.fr.size e, Q8.out.nf e⟩)
      have ow9 : Hid (OwnT w9 (.slice ao' m cap') g' L) := hide (by rw [← hL2.out]; exact hown')
      clear hap hown'
      obtain ⟨b0, b1, b2, t0, t1, t2, t3⟩ : w9.cell? ⟨kb, 0, none⟩ = some (.int .i64 a.b) ∧ w9.cell? ⟨kb, 1, none⟩ = some (.int .i64 a.n) ∧ w9.cell? ⟨kb, 2, none⟩ = some (.int .i64 a.s) ∧ w9.cell? ⟨kt, 0, none⟩ = some (.int .i64 g.n) ∧ w9.cell? ⟨kt, 1, none⟩ = some (.bool g.o) ∧ w9.cell? ⟨kt, 2, none⟩ = some (.bool g.h) ∧ w9.cell? ⟨kt, 3, none⟩ = some (.int .i64 g.d) := by
        have y := (bz_get Q9.out.x (k := kb) (o := resO a) (by simp)).2
        have z := (bz_get Q9.out.x (k := kt) (o := bunR g) (by simp)).2
        exact ⟨cell_of_row _ _ _ _ _ _ y, cell_of_row _ _ _ _ _ _ y, cell_of_row _ _ _ _ _ _ y, cell_of_row _ _ _ _ _ _ z, cell_of_row _ _ _ _ _ _ z, cell_of_row _ _ _ _ _ _ z, cell_of_row _ _ _ _ _ _ z⟩
      refine hK.out _ _ ?_ fun hHeld => ?_
      · exact ⟨b0, b1, b2, t0, t1, t2, t3⟩
      clear hK K
      try simp only [Act.put, za, zb, zc]
      refine hTk 16 6 hHeld ?_
      refine wpAnyH_done (by kernel_rfl) (NoPanic.normal ?_) _
      clear hHeld
      go_wp2_with fail
      go_ret
      exact ⟨_, rfl, g', hut_fin Q9.out ow9.out hg9.out.1 hg9.out.2⟩
end Go.Proofs.YtmgjgeaigdiadaaDoor
