/- layer 16: HmF HmH RhA RhB, put together. -/
import Derived.Test.YtmgjgeaigdiadaaDoorB23
import Derived.Test.YtmgjgeaigdiadaaDoorB18
import Derived.Test.YtmgjgeaigdiadaaDoorB19
import Derived.Test.YtmgjgeaigdiadaaDoorB20
import Derived.Test.YtmgjgeaigdiadaaDoorB05
import Derived.Test.YtmgjgeaigdiadaaDoorB16
import Derived.Deep.DeepCutAuto
import Derived.Test.YtmgjgeaigdiadaaDoorB22
import Derived.Test.YtmgjgeaigdiadaaDoorB24
namespace Go.Proofs.YtmgjgeaigdiadaaDoor
open Go.ChangeShapes Go.WideShapes Go.ChangeAt Go.RowKit
set_option linter.unusedSimpArgs false
set_option linter.unusedVariables false
set_option maxRecDepth 10000
attribute [local go_sem, local simp] over_const setCell_drewN alloc_drewN Over.cell Over.frozen lt_s1 lt_s2 lt_s3 le_s0 le_s1 le_s2 le_s3 eq_s0 eq_s1 eq_s2 qe_s0
set_option maxHeartbeats 4000000 in
theorem hmPer_c (p : Nat) (B : Bh) (Ft : Nat → Prop) (c : Cf) (N : Nat) (D : Hm) (l : Lt) (d0 d1 d2 : Int) (w : World) (h : HmIs w p B Ft c N D) (hN1 : N + 2 ≤ 100000) (L : List Lt) (hL : Hid (hPerL c D l = L)) : Calls Tryd.prog 55 #[ptr p, .agg #[.int .i64 l.k, .int .i64 l.a, .int .i64 l.b, .int .i64 l.q, .int .i64 l.s, .int .i64 l.w, .bool l.r, .int .i64 l.n, .bool l.o, .bool l.h, .int .i64 l.d], .agg #[.int .i64 d0, .int .i64 d1, .int .i64 d2]] w fun e w' => ∃ v, e = .returned v ∧ ∃ Ft' g, HutP w p B Ft Ft' c (N + 1) (nxHPer c D l) L v w' g := by
  have hH := hide h
  obtain ⟨ok, hok⟩ : ∃ ok, Hid (okAsk c.n.toNat D.L l.q l.a = ok) := ⟨_, rfl⟩
  obtain ⟨a, ha⟩ : ∃ a, Hid (atAsk c.n.toNat D.L l.q l.a = a) := ⟨_, rfl⟩
  obtain ⟨D2, hD2⟩ : ∃ D2, Hid (hPerD c D l = D2) := ⟨_, rfl⟩
  have hL' : Hid (hActL c D2 a ok = L) := hide (by rw [← hL.out, ← hD2.out, ← ha.out, ← hok.out]; rfl)
  obtain ⟨D', hD'⟩ : ∃ D', Hid (nxHPer c D l = D') := ⟨_, rfl⟩
  have eD : Hid (nxHAct D2 a ok = D') := hide (by rw [← hD'.out, ← hD2.out, ← ha.out, ← hok.out]; rfl)
  rw [hD'.out]
  clear h hL hD'
  go_enter Tryd.func55, Tryd.ntmps55
  go_upto_region 1 with fail
  refine name_world ?_
  intro V hV
  have Q1 : Hid (Ah w V p B Ft Ft c N D [(w.heap.size + 1, dwR d0 d1 d2), (w.heap.size, ltR l)]) := by rw [← hV]; exact hide (ah_box hH.out l d0 d1 d2)
  obtain ⟨kd, hde⟩ : ∃ kd, Hid (w.heap.size + 1 = kd) := ⟨_, rfl⟩
  obtain ⟨kl, hle⟩ : ∃ kl, Hid (w.heap.size = kl) := ⟨_, rfl⟩
  rw [hde.out, hle.out] at Q1
  rw [hde.out, hle.out]
  clear hV
  obtain ⟨a10, b1, b3⟩ : V.cell? ⟨p, 10, none⟩ = some (ptr B.ap) ∧ V.cell? ⟨kl, 1, none⟩ = some (.int .i64 l.a) ∧ V.cell? ⟨kl, 3, none⟩ = some (.int .i64 l.q) := ⟨Q1.out.n.at'.c10, (lt_at (bz_get Q1.out.x (k := kl) (o := ltR l) (by simp)).2).c1, (lt_at (bz_get Q1.out.x (k := kl) (o := ltR l) (by simp)).2).c3⟩
  go_wp2_with fail
  refine wp_region_noPanic ?_
  refine wp_region_held_drew (S := (fun w' => w'.cell? ⟨p, 10, none⟩ = some (ptr B.ap) ∧ w'.cell? ⟨kl, 1, none⟩ = some (.int .i64 l.a) ∧ w'.cell? ⟨kl, 3, none⟩ = some (.int .i64 l.q))) (by kernel_rfl) ?_ (fun hHeld => ?_)
  · exact ⟨a10, b1, b3⟩
  clear a10 b1 b3
  refine hTk 0 7 hHeld ?_
  refine hTk 1 8 hHeld ?_
  refine hTk 2 9 hHeld ?_
  refine hTk 3 10 hHeld ?_
  refine hTk 4 11 hHeld ?_
  refine hTk 5 12 hHeld ?_
  refine hTk 6 13 hHeld ?_
  refine hTk 7 14 hHeld ?_
  refine hTk 8 15 hHeld ?_
  have Q0 : Hid (Ah w V.drew p B Ft Ft c N D [(kd, dwR d0 d1 d2), (kl, ltR l)]) := hide (Q1.out.below (belowN (Below.refl _ _) 1))
  obtain ⟨w1, hw1⟩ : ∃ w1, V.drew = w1 := ⟨_, rfl⟩
  rw [hw1] at hHeld Q0 ⊢
  clear hw1 Q1
  refine hNo 9 fun K hK => ?_
  go_simp
  go_at_call 80
  refine (aAsk_c B.ap B.ag _ N D.L Ft l.q l.a _ Q0.out.n.arb (by omega) a ha ok hok).mono ?_
  rintro e w2 ⟨rfl, Ft2, ha2, hs2⟩
  obtain ⟨n2, s2⟩ := Q0.out.n.setL ha2 (nxAsk_len _ _ _ _) hs2 (Nat.le_succ N)
  replace n2 : HmIs w2 p B Ft2 c (N + 1) D2 := by rw [← hD2.out]; exact n2
  have Q2 := hide (Q0.out.step n2 s2)
  clear ha2 hs2 n2 s2 Q0
  obtain ⟨a10, b1, b3⟩ : w2.cell? ⟨p, 10, none⟩ = some (ptr B.ap) ∧ w2.cell? ⟨kl, 1, none⟩ = some (.int .i64 l.a) ∧ w2.cell? ⟨kl, 3, none⟩ = some (.int .i64 l.q) := ⟨Q2.out.n.at'.c10, (lt_at (bz_get Q2.out.x (k := kl) (o := ltR l) (by simp)).2).c1, (lt_at (bz_get Q2.out.x (k := kl) (o := ltR l) (by simp)).2).c3⟩
  refine hK.out _ _ ?_ fun hHeld => ?_
  · exact ⟨a10, b1, b3⟩
  clear hK K
  try simp only [Act.put, za, zb, zc]
  clear a10 b1 b3
  refine hTk 10 17 hHeld ?_
  refine hTk 11 18 hHeld ?_
  refine hNo 12 fun K hK => ?_
  go_simp
  go_at_call 79
  refine (hmAct_c p B Ft2 c (N + 1) D2 a ok _ Q2.out.n (by omega) L hL').mono ?_
  rintro e w3 ⟨v3, rfl, g3, hO⟩
  have Q3 := hide (Q2.out.step hO.nd hO.st)
  rw [eD.out] at Q3
  have hg3 : Hid (w.heap.size ≤ g3) := hide (Nat.le_trans Q2.out.s.fr.size hO.new)
  replace hO := hide hO
  obtain ⟨a10, b1, b3⟩ : w3.cell? ⟨p, 10, none⟩ = some (ptr B.ap) ∧ w3.cell? ⟨kl, 1, none⟩ = some (.int .i64 l.a) ∧ w3.cell? ⟨kl, 3, none⟩ = some (.int .i64 l.q) := ⟨Q3.out.n.at'.c10, (lt_at (bz_get Q3.out.x (k := kl) (o := ltR l) (by simp)).2).c1, (lt_at (bz_get Q3.out.x (k := kl) (o := ltR l) (by simp)).2).c3⟩
  refine hK.out _ _ ?_ fun hHeld => ?_
  · exact ⟨a10, b1, b3⟩
  clear hK K
  try simp only [Act.put, za, zb, zc]
  refine hTk 13 6 hHeld ?_
  refine wpAnyH_done (by kernel_rfl) (NoPanic.normal ?_) _
  clear hHeld
  go_wp2_with fail
  go_ret
  exact ⟨_, rfl, Ft2, g3, hut_fin Q3.out hO.out.own hg3.out hO.out.nf⟩
set_option maxHeartbeats 4000000 in
theorem hmAck_c (p : Nat) (B : Bh) (Ft : Nat → Prop) (c : Cf) (N : Nat) (D : Hm) (l : Lt) (d0 d1 d2 : Int) (w : World) (h : HmIs w p B Ft c N D) (hN1 : N + 2 ≤ 100000) (L : List Lt) (hL : Hid (hAckL c D l = L)) : Calls Tryd.prog 57 #[ptr p, .agg #[.int .i64 l.k, .int .i64 l.a, .int .i64 l.b, .int .i64 l.q, .int .i64 l.s, .int .i64 l.w, .bool l.r, .int .i64 l.n, .bool l.o, .bool l.h, .int .i64 l.d], .agg #[.int .i64 d0, .int .i64 d1, .int .i64 d2]] w fun e w' => ∃ v, e = .returned v ∧ ∃ Ft' g, HutP w p B Ft Ft' c (N + 1) (nxHAck c D l) L v w' g := by
  have hH := hide h
  obtain ⟨ok, hok⟩ : ∃ ok, Hid (okAck c.n.toNat D.L l.q l.s l.a = ok) := ⟨_, rfl⟩
  obtain ⟨a, ha⟩ : ∃ a, Hid (atAck c.n.toNat D.L l.q l.s l.a = a) := ⟨_, rfl⟩
  obtain ⟨D2, hD2⟩ : ∃ D2, Hid (hAckD c D l = D2) := ⟨_, rfl⟩
  have hL' : Hid (hActL c D2 a ok = L) := hide (by rw [← hL.out, ← hD2.out, ← ha.out, ← hok.out]; rfl)
  obtain ⟨D', hD'⟩ : ∃ D', Hid (nxHAck c D l = D') := ⟨_, rfl⟩
  have eD : Hid (nxHAct D2 a ok = D') := hide (by rw [← hD'.out, ← hD2.out, ← ha.out, ← hok.out]; rfl)
  rw [hD'.out]
  clear h hL hD'
  go_enter Tryd.func57, Tryd.ntmps57
  go_upto_region 1 with fail
  refine name_world ?_
  intro V hV
  have Q1 : Hid (Ah w V p B Ft Ft c N D [(w.heap.size + 1, dwR d0 d1 d2), (w.heap.size, ltR l)]) := by rw [← hV]; exact hide (ah_box hH.out l d0 d1 d2)
  obtain ⟨kd, hde⟩ : ∃ kd, Hid (w.heap.size + 1 = kd) := ⟨_, rfl⟩
  obtain ⟨kl, hle⟩ : ∃ kl, Hid (w.heap.size = kl) := ⟨_, rfl⟩
  rw [hde.out, hle.out] at Q1
  rw [hde.out, hle.out]
  clear hV
  obtain ⟨a10, b1, b3, b4⟩ : V.cell? ⟨p, 10, none⟩ = some (ptr B.ap) ∧ V.cell? ⟨kl, 1, none⟩ = some (.int .i64 l.a) ∧ V.cell? ⟨kl, 3, none⟩ = some (.int .i64 l.q) ∧ V.cell? ⟨kl, 4, none⟩ = some (.int .i64 l.s) := ⟨Q1.out.n.at'.c10, (lt_at (bz_get Q1.out.x (k := kl) (o := ltR l) (by simp)).2).c1, (lt_at (bz_get Q1.out.x (k := kl) (o := ltR l) (by simp)).2).c3, (lt_at (bz_get Q1.out.x (k := kl) (o := ltR l) (by simp)).2).c4⟩
  go_wp2_with fail
  refine wp_region_noPanic ?_
  refine wp_region_held_drew (S := (fun w' => w'.cell? ⟨p, 10, none⟩ = some (ptr B.ap) ∧ w'.cell? ⟨kl, 1, none⟩ = some (.int .i64 l.a) ∧ w'.cell? ⟨kl, 3, none⟩ = some (.int .i64 l.q) ∧ w'.cell? ⟨kl, 4, none⟩ = some (.int .i64 l.s))) (by kernel_rfl) ?_ (fun hHeld => ?_)
  · exact ⟨a10, b1, b3, b4⟩
  clear a10 b1 b3 b4
  refine hTk 0 7 hHeld ?_
  refine hTk 1 8 hHeld ?_
  refine hTk 2 9 hHeld ?_
  refine hTk 3 10 hHeld ?_
  refine hTk 4 11 hHeld ?_
  refine hTk 5 12 hHeld ?_
  refine hTk 6 13 hHeld ?_
  refine hTk 7 14 hHeld ?_
  refine hTk 8 15 hHeld ?_
  refine hTk 9 16 hHeld ?_
  refine hTk 10 17 hHeld ?_
  have Q0 : Hid (Ah w V.drew p B Ft Ft c N D [(kd, dwR d0 d1 d2), (kl, ltR l)]) := hide (Q1.out.below (belowN (Below.refl _ _) 1))
  obtain ⟨w1, hw1⟩ : ∃ w1, V.drew = w1 := ⟨_, rfl⟩
  rw [hw1] at hHeld Q0 ⊢
  clear hw1 Q1
  refine hNo 11 fun K hK => ?_
  go_simp
  go_at_call 83
  refine (aAck_c B.ap B.ag _ N D.L Ft l.q l.s l.a _ Q0.out.n.arb (by omega) a ha ok hok).mono ?_
  rintro e w2 ⟨rfl, Ft2, ha2, hs2⟩
  obtain ⟨n2, s2⟩ := Q0.out.n.setL ha2 (nxAck_len _ _ _ _ _) hs2 (Nat.le_succ N)
  replace n2 : HmIs w2 p B Ft2 c (N + 1) D2 := by rw [← hD2.out]; exact n2
  have Q2 := hide (Q0.out.step n2 s2)
  clear ha2 hs2 n2 s2 Q0
  obtain ⟨a10, b1, b3, b4⟩ : w2.cell? ⟨p, 10, none⟩ = some (ptr B.ap) ∧ w2.cell? ⟨kl, 1, none⟩ = some (.int .i64 l.a) ∧ w2.cell? ⟨kl, 3, none⟩ = some (.int .i64 l.q) ∧ w2.cell? ⟨kl, 4, none⟩ = some (.int .i64 l.s) := ⟨Q2.out.n.at'.c10, (lt_at (bz_get Q2.out.x (k := kl) (o := ltR l) (by simp)).2).c1, (lt_at (bz_get Q2.out.x (k := kl) (o := ltR l) (by simp)).2).c3, (lt_at (bz_get Q2.out.x (k := kl) (o := ltR l) (by simp)).2).c4⟩
  refine hK.out _ _ ?_ fun hHeld => ?_
  · exact ⟨a10, b1, b3, b4⟩
  clear hK K
  try simp only [Act.put, za, zb, zc]
  clear a10 b1 b3 b4
  refine hTk 12 19 hHeld ?_
  refine hTk 13 20 hHeld ?_
  refine hNo 14 fun K hK => ?_
  go_simp
  go_at_call 79
  refine (hmAct_c p B Ft2 c (N + 1) D2 a ok _ Q2.out.n (by omega) L hL').mono ?_
  rintro e w3 ⟨v3, rfl, g3, hO⟩
  have Q3 := hide (Q2.out.step hO.nd hO.st)
  rw [eD.out] at Q3
  have hg3 : Hid (w.heap.size ≤ g3) := hide (Nat.le_trans Q2.out.s.fr.size hO.new)
  replace hO := hide hO
  obtain ⟨a10, b1, b3, b4⟩ : w3.cell? ⟨p, 10, none⟩ = some (ptr B.ap) ∧ w3.cell? ⟨kl, 1, none⟩ = some (.int .i64 l.a) ∧ w3.cell? ⟨kl, 3, none⟩ = some (.int .i64 l.q) ∧ w3.cell? ⟨kl, 4, none⟩ = some (.int .i64 l.s) := ⟨Q3.out.n.at'.c10, (lt_at (bz_get Q3.out.x (k := kl) (o := ltR l) (by simp)).2).c1, (lt_at (bz_get Q3.out.x (k := kl) (o := ltR l) (by simp)).2).c3, (lt_at (bz_get Q3.out.x (k := kl) (o := ltR l) (by simp)).2).c4⟩
  refine hK.out _ _ ?_ fun hHeld => ?_
  · exact ⟨a10, b1, b3, b4⟩
  clear hK K
  try simp only [Act.put, za, zb, zc]
  refine hTk 15 6 hHeld ?_
  refine wpAnyH_done (by kernel_rfl) (NoPanic.normal ?_) _
  clear hHeld
  go_wp2_with fail
  go_ret
  exact ⟨_, rfl, Ft2, g3, hut_fin Q3.out hO.out.own hg3.out hO.out.nf⟩
theorem szQ_of {x : Int} (h1 : 1 ≤ x) (h2 : x ≤ 64) : szQ x = x.toNat := by unfold szQ; rw [if_neg (by omega), if_neg (by omega)]
theorem hm_make {W : World} {c : Cf} {N : Nat} {D : Hm} (ok : CfOk c 0) {mm mg ap ag : Nat} {Ft : Nat → Prop} {s h1 : Nat}
    (hM : MemIs W mm mg (((N + 1 : Nat) : Int) * 65536) D.M) (bM : s ≤ mm ∧ s ≤ mg ∧ mm < h1 ∧ mg < h1) (hA : ArIs W ap ag c.n.toNat N D.L Ft) (bA : (∀ b, Ft b → h1 ≤ b) ∧ h1 ≤ ap)
    (ml : D.M.length = c.bl.toNat) (al : D.L.length = c.bl.toNat) (lo : s ≤ h1 ∧ s ≤ W.heap.size) :
    HmIs (W.alloc (.cells (hmC c ⟨mm, mg, ap, ag⟩) 75)) W.heap.size ⟨mm, mg, ap, ag⟩ Ft c N D ∧ ∀ b, Fh W.heap.size ⟨mm, mg, ap, ag⟩ Ft b → s ≤ b := by
  have q1 := hM.pl
  have q2 := hM.gl
  have q3 := hM.ne
  have q4 := hA.pl
  have q5 := hA.fp
  have q6 := hA.lt
  obtain ⟨b1, b2⟩ := bA
  refine ⟨⟨ok, heap_alloc_new _ _, hM.alloc _, hA.alloc _, ml, al, ⟨fun b => if b = W.heap.size then 0 else if b = mm then 1 else if b = mg then 2 else if b = ap then 3 else 4, ?_⟩⟩, ?_⟩
  · dsimp only
    refine ⟨if_pos rfl, ?_, ?_, ?_, fun b hb => ?_⟩
    · rw [if_neg (by omega), if_pos rfl]
    · rw [if_neg (by omega), if_neg (by omega), if_pos rfl]
    · rw [if_neg (by omega), if_neg (by omega), if_neg (by omega), if_pos rfl]
    · have h2 := b1 b hb
      have h3 := q6 b hb
      have h4 : b ≠ ap := fun e => q5 (e ▸ hb)
      rw [if_neg (by omega), if_neg (by omega), if_neg (by omega), if_neg h4]
  · rintro b (hb | hb | hb | hb | hb)
    · have := b1 b hb; omega
    all_goals (try dsimp only at hb)
    all_goals omega
set_option maxHeartbeats 1000000 in
theorem hmNewNo_c (c : Cf) (w : World) (z : Int) (h0 : Hid (cfgZ c.n c.bl c.tt c.cs c.cy c.cc c.cu c.ct c.cp = z)) (hz : z ≠ 0) : Calls Tryd.prog 26 #[.agg #[.int .i64 c.n, .int .i64 c.bl, .int .i64 c.tt, .int .i64 c.cs, .int .i64 c.cy, .int .i64 c.cc, .int .i64 c.cu, .int .i64 c.ct, .int .i64 c.cp]] w fun e w' => e = .returned (.tuple #[.pointer none, .int .i64 1]) ∧ Below w.heap.size w w' := by
  obtain ⟨e1, e2, e3⟩ := cmpF hz
  replace hz := hide hz
  go_enter Tryd.func26, Tryd.ntmps26
  go_wp2_with (go_at_call 48; refine (cfgErr_c c.n c.bl c.tt c.cs c.cy c.cc c.cu c.ct c.cp _ z h0).mono ?_; rintro e w1 ⟨rfl, hb1⟩; obtain ⟨x, rfl⟩ := over hb1; clear hb1; have f1 := x.upB (w.heap.size))
  go_ret2
  exact ⟨rfl, by all_goals exact belEnd⟩
set_option maxHeartbeats 2000000 in
theorem hmNew_c (c : Cf) (w : World) (h0 : Hid (cfgZ c.n c.bl c.tt c.cs c.cy c.cc c.cu c.ct c.cp = 0)) (h1 : Hid (nodeB 0 c.n = true)) : Calls Tryd.prog 26 #[.agg #[.int .i64 c.n, .int .i64 c.bl, .int .i64 c.tt, .int .i64 c.cs, .int .i64 c.cy, .int .i64 c.cc, .int .i64 c.cu, .int .i64 c.ct, .int .i64 c.cp]] w fun e w' => ∃ p, e = .returned (.tuple #[ptr p, .int .i64 0]) ∧ ∃ B Ft, HmIs w' p B Ft c 0 (hm0 c) ∧ (∀ b, Fh p B Ft b → w.heap.size ≤ b) ∧ Below w.heap.size w w' := by
  have ok := cfOk_of h0.out h1.out
  have hsn := hide (szQ_of ok.n0 ok.n1)
  have hsb := hide (szQ_of ok.b0 ok.b1)
  have hnl : Hid ((newM c.bl c.tt).length = c.bl.toNat) := hide (by have := (newM_len c.bl c.tt).1; rw [show clampZ c.bl 0 64 = c.bl by unfold clampZ; have := ok.b0; have := ok.b1; (repeat' split) <;> omega] at this; omega)
  go_enter Tryd.func26, Tryd.ntmps26
  go_upto_region 3 with (go_at_call 48; refine (cfgErr_c c.n c.bl c.tt c.cs c.cy c.cc c.cu c.ct c.cp _ 0 h0).mono ?_; rintro e w1 ⟨rfl, hb1⟩; obtain ⟨x, rfl⟩ := over hb1; clear hb1; have f1 := x.upB (w.heap.size))
  refine name_world ?_
  intro V hV
  have hB : Hid (Below w.heap.size w V) := by rw [← hV]; exact hide (by all_goals exact belEnd)
  have kc0 : V.heap[w.heap.size]? = some (cfR c) := by rw [← hV]; exact (x.below.block _ (by simp)).trans (heap_alloc_new w _)
  have hkl : w.heap.size < V.heap.size := by rw [← hV]; exact f1
  obtain ⟨kc, hke⟩ : ∃ kc, w.heap.size = kc := ⟨_, rfl⟩
  rw [hke] at kc0 hkl ⊢
  replace hke := hide hke
  clear hV f1 x
  go_wp2_with fail
  refine wp_region_noPanic ?_
  refine wp_region_held_drew (S := (fun w' => w'.cell? ⟨kc, 0, none⟩ = some (.int .i64 c.n) ∧ w'.cell? ⟨kc, 1, none⟩ = some (.int .i64 c.bl) ∧ w'.cell? ⟨kc, 2, none⟩ = some (.int .i64 c.tt) ∧ w'.cell? ⟨kc, 3, none⟩ = some (.int .i64 c.cs) ∧ w'.cell? ⟨kc, 4, none⟩ = some (.int .i64 c.cy) ∧ w'.cell? ⟨kc, 5, none⟩ = some (.int .i64 c.cc) ∧ w'.cell? ⟨kc, 6, none⟩ = some (.int .i64 c.cu) ∧ w'.cell? ⟨kc, 7, none⟩ = some (.int .i64 c.ct) ∧ w'.cell? ⟨kc, 8, none⟩ = some (.int .i64 c.cp))) (by kernel_rfl) ?_ (fun hHeld => ?_)
  · exact cf_at kc0
  refine hTk 0 7 hHeld ?_
  refine hTk 1 8 hHeld ?_
  refine hTk 2 9 hHeld ?_
  refine hTk 3 10 hHeld ?_
  refine hTk 4 11 hHeld ?_
  refine hTk 6 13 hHeld ?_
  refine hTk 7 14 hHeld ?_
  refine hTk 8 15 hHeld ?_
  refine hTk 9 16 hHeld ?_
  replace hB : Hid (Below w.heap.size w V.drew) := hide hB.out.drew
  replace hkl : kc < V.drew.heap.size := hkl
  obtain ⟨W0, hw0⟩ : ∃ W0, V.drew = W0 := ⟨_, rfl⟩
  replace kc0 : V.drew.heap[kc]? = some (cfR c) := kc0
  rw [hw0] at hHeld hB hkl kc0 ⊢
  clear hw0
  refine hNo 5 fun K hK => ?_
  go_simp
  go_at_call 49
  refine (mNew_c c.bl c.tt 65536 _ (by have := ok.t1; omega) (by decide)).mono ?_
  rintro e w1 ⟨mm, mg, rfl, hm, hm1, hm2, hb1⟩
  have kM := hide hm
  have bM : W0.heap.size ≤ mm ∧ W0.heap.size ≤ mg ∧ mm < w1.heap.size ∧ mg < w1.heap.size := ⟨hm1, hm2, hm.pl, hm.gl⟩
  have hB1 : Hid (Below w.heap.size w w1) := hide (hB.out.trans (hb1.mono hB.out.size))
  have kc1 := (hb1.block _ hkl).trans kc0
  have hkl1 := Nat.lt_of_lt_of_le hkl hb1.size
  have hs0 := hB.out.size
  clear hm hm1 hm2 hb1 hB kc0 hkl
  refine hK.out _ _ ?_ fun hHeld => ?_
  · exact cf_at kc1
  clear hK K
  try simp only [Act.put, za, zb, zc]
  refine hNo 10 fun K hK => ?_
  go_simp
  go_at_call 50
  refine (aNew_c c.n c.bl _ c.n.toNat c.bl.toNat hsn hsb).mono ?_
  rintro e w2 ⟨ap, rfl, ag, Ft, ha, hF, ha1, hb2⟩
  have kA := hide ha
  have bA : (∀ b, Ft b → w1.heap.size ≤ b) ∧ w1.heap.size ≤ ap := ⟨hF, ha1⟩
  replace kM := hide (kM.out.below hb2)
  have hB2 : Hid (Below w.heap.size w w2) := hide (hB1.out.trans (hb2.mono hB1.out.size))
  have kc2 := (hb2.block _ hkl1).trans kc1
  have hkl2 := Nat.lt_of_lt_of_le hkl1 hb2.size
  have hs1 := hB1.out.size
  clear ha hF ha1 hb2 hB1 kc1 hkl1
  refine hK.out _ _ ?_ fun hHeld => ?_
  · exact cf_at kc2
  clear hK K
  try simp only [Act.put, za, zb, zc]
  refine hTk 11 18 hHeld ?_
  refine hNo 12 fun K hK => ?_
  go_simp
  refine hK.out _ _ ?_ fun hHeld => ?_
  · exact cf_at ((Below.heap_alloc _ _ _ hkl2).trans kc2)
  clear hK K
  try simp only [Act.put, za, zb, zc]
  refine hTk 13 2 hHeld ?_
  refine hTk 14 3 hHeld ?_
  refine wpAnyH_done (by kernel_rfl) (NoPanic.normal ?_) _
  clear hHeld
  go_wp2_with fail
  go_ret2
  have hM2 : MemIs w2 mm mg (((0 + 1 : Nat) : Int) * 65536) (hm0 c).M := kM.out
  obtain ⟨n1, n2⟩ := hm_make (D := hm0 c) (N := 0) ok hM2 ⟨Nat.le_trans hs0 bM.1, Nat.le_trans hs0 bM.2.1, bM.2.2⟩ kA.out bA hnl.out (by simp [hm0]) (s := w.heap.size) (by have := hB2.out.size; omega)
  exact ⟨_, rfl, _, _, n1, n2, hB2.out.alloc hB2.out.size _⟩
set_option maxHeartbeats 2000000 in
theorem hmCopy_c (p : Nat) (B : Bh) (Ft : Nat → Prop) (c : Cf) (N : Nat) (D : Hm) (w : World) (h : HmIs w p B Ft c N D) (hN : N ≤ 100000) : Calls Tryd.prog 22 #[ptr p] w fun e w' => ∃ q, e = .returned (ptr q) ∧ ∃ B' Ft', HmIs w' q B' Ft' c N D ∧ (∀ b, Fh q B' Ft' b → w.heap.size ≤ b) ∧ Below w.heap.size w w' := by
  have hH := hide h
  have hok := hide h.ok
  have hml := hide h.ml
  have hal := hide h.al
  clear h
  go_enter Tryd.func22, Tryd.ntmps22
  go_upto_region 1 with fail
  obtain ⟨a0, a1, a2, a3, a4, a5, a6, a7, a8, a9, a10⟩ : w.cell? ⟨p, 0, none⟩ = some (.int .i64 c.n) ∧ w.cell? ⟨p, 1, none⟩ = some (.int .i64 c.bl) ∧ w.cell? ⟨p, 2, none⟩ = some (.int .i64 c.tt) ∧ w.cell? ⟨p, 3, none⟩ = some (.int .i64 c.cs) ∧ w.cell? ⟨p, 4, none⟩ = some (.int .i64 c.cy) ∧ w.cell? ⟨p, 5, none⟩ = some (.int .i64 c.cc) ∧ w.cell? ⟨p, 6, none⟩ = some (.int .i64 c.cu) ∧ w.cell? ⟨p, 7, none⟩ = some (.int .i64 c.ct) ∧ w.cell? ⟨p, 8, none⟩ = some (.int .i64 c.cp) ∧ w.cell? ⟨p, 9, none⟩ = some (ptr B.mm) ∧ w.cell? ⟨p, 10, none⟩ = some (ptr B.ap) := by
    have A := (hH.out).at'
    exact ⟨A.c0, A.c1, A.c2, A.c3, A.c4, A.c5, A.c6, A.c7, A.c8, A.c9, A.c10⟩
  go_wp2_with fail
  refine wp_region_noPanic ?_
  refine wp_region_held_drew (S := (fun w' => w'.cell? ⟨p, 0, none⟩ = some (.int .i64 c.n) ∧ w'.cell? ⟨p, 1, none⟩ = some (.int .i64 c.bl) ∧ w'.cell? ⟨p, 2, none⟩ = some (.int .i64 c.tt) ∧ w'.cell? ⟨p, 3, none⟩ = some (.int .i64 c.cs) ∧ w'.cell? ⟨p, 4, none⟩ = some (.int .i64 c.cy) ∧ w'.cell? ⟨p, 5, none⟩ = some (.int .i64 c.cc) ∧ w'.cell? ⟨p, 6, none⟩ = some (.int .i64 c.cu) ∧ w'.cell? ⟨p, 7, none⟩ = some (.int .i64 c.ct) ∧ w'.cell? ⟨p, 8, none⟩ = some (.int .i64 c.cp) ∧ w'.cell? ⟨p, 9, none⟩ = some (ptr B.mm) ∧ w'.cell? ⟨p, 10, none⟩ = some (ptr B.ap))) (by kernel_rfl) ?_ (fun hHeld => ?_)
  · exact ⟨a0, a1, a2, a3, a4, a5, a6, a7, a8, a9, a10⟩
  clear a0 a1 a2 a3 a4 a5 a6 a7 a8 a9 a10
  refine hTk 0 3 hHeld ?_
  refine hTk 1 4 hHeld ?_
  refine hTk 2 5 hHeld ?_
  refine hTk 3 6 hHeld ?_
  refine hTk 4 7 hHeld ?_
  refine hTk 5 8 hHeld ?_
  refine hTk 6 9 hHeld ?_
  refine hTk 7 10 hHeld ?_
  refine hTk 9 12 hHeld ?_
  refine hTk 10 13 hHeld ?_
  refine hTk 11 14 hHeld ?_
  refine hTk 12 15 hHeld ?_
  have h0 : Hid (HmIs w.drew p B Ft c N D) := hide (hH.out.drewN 1)
  have hB : Hid (Below w.heap.size w w.drew) := hide (belowN (Below.refl _ _) 1)
  obtain ⟨W0, hw0⟩ : ∃ W0, w.drew = W0 := ⟨_, rfl⟩
  rw [hw0] at hHeld h0 hB ⊢
  clear hw0
  refine hNo 8 fun K hK => ?_
  go_simp
  go_at_call 44
  refine (mCopy_c B.mm B.mg _ D.M _ h0.out.mem).mono ?_
  rintro e w1 ⟨mm, mg, rfl, hm, hm1, hm2, hb1⟩
  have kM := hide hm
  have bM : W0.heap.size ≤ mm ∧ W0.heap.size ≤ mg ∧ mm < w1.heap.size ∧ mg < w1.heap.size := ⟨hm1, hm2, hm.pl, hm.gl⟩
  have hB1 : Hid (Below w.heap.size w w1) := hide (hB.out.trans (hb1.mono hB.out.size))
  have h1 := hide (h0.out.below hb1)
  have hs0 := hB.out.size
  clear hm hm1 hm2 hb1 hB h0
  obtain ⟨a0, a1, a2, a3, a4, a5, a6, a7, a8, a9, a10⟩ : w1.cell? ⟨p, 0, none⟩ = some (.int .i64 c.n) ∧ w1.cell? ⟨p, 1, none⟩ = some (.int .i64 c.bl) ∧ w1.cell? ⟨p, 2, none⟩ = some (.int .i64 c.tt) ∧ w1.cell? ⟨p, 3, none⟩ = some (.int .i64 c.cs) ∧ w1.cell? ⟨p, 4, none⟩ = some (.int .i64 c.cy) ∧ w1.cell? ⟨p, 5, none⟩ = some (.int .i64 c.cc) ∧ w1.cell? ⟨p, 6, none⟩ = some (.int .i64 c.cu) ∧ w1.cell? ⟨p, 7, none⟩ = some (.int .i64 c.ct) ∧ w1.cell? ⟨p, 8, none⟩ = some (.int .i64 c.cp) ∧ w1.cell? ⟨p, 9, none⟩ = some (ptr B.mm) ∧ w1.cell? ⟨p, 10, none⟩ = some (ptr B.ap) := by
    have A := (h1.out).at'
    exact ⟨A.c0, A.c1, A.c2, A.c3, A.c4, A.c5, A.c6, A.c7, A.c8, A.c9, A.c10⟩
  refine hK.out _ _ ?_ fun hHeld => ?_
  · exact ⟨a0, a1, a2, a3, a4, a5, a6, a7, a8, a9, a10⟩
  clear hK K
  try simp only [Act.put, za, zb, zc]
  clear a0 a1 a2 a3 a4 a5 a6 a7 a8 a9 a10
  refine hNo 13 fun K hK => ?_
  go_simp
  go_at_call 45
  refine (aCopy_c B.ap B.ag _ N D.L Ft _ h1.out.arb hN).mono ?_
  rintro e w2 ⟨ap, rfl, ag, Ft2, ha, hF, ha1, hb2⟩
  have kA := hide ha
  have bA : (∀ b, Ft2 b → w1.heap.size ≤ b) ∧ w1.heap.size ≤ ap := ⟨hF, ha1⟩
  replace kM := hide (kM.out.below hb2)
  have hB2 : Hid (Below w.heap.size w w2) := hide (hB1.out.trans (hb2.mono hB1.out.size))
  have h2 := hide (h1.out.below hb2)
  have hs1 := hB1.out.size
  clear ha hF ha1 hb2 hB1 h1
  obtain ⟨a0, a1, a2, a3, a4, a5, a6, a7, a8, a9, a10⟩ : w2.cell? ⟨p, 0, none⟩ = some (.int .i64 c.n) ∧ w2.cell? ⟨p, 1, none⟩ = some (.int .i64 c.bl) ∧ w2.cell? ⟨p, 2, none⟩ = some (.int .i64 c.tt) ∧ w2.cell? ⟨p, 3, none⟩ = some (.int .i64 c.cs) ∧ w2.cell? ⟨p, 4, none⟩ = some (.int .i64 c.cy) ∧ w2.cell? ⟨p, 5, none⟩ = some (.int .i64 c.cc) ∧ w2.cell? ⟨p, 6, none⟩ = some (.int .i64 c.cu) ∧ w2.cell? ⟨p, 7, none⟩ = some (.int .i64 c.ct) ∧ w2.cell? ⟨p, 8, none⟩ = some (.int .i64 c.cp) ∧ w2.cell? ⟨p, 9, none⟩ = some (ptr B.mm) ∧ w2.cell? ⟨p, 10, none⟩ = some (ptr B.ap) := by
    have A := (h2.out).at'
    exact ⟨A.c0, A.c1, A.c2, A.c3, A.c4, A.c5, A.c6, A.c7, A.c8, A.c9, A.c10⟩
  refine hK.out _ _ ?_ fun hHeld => ?_
  · exact ⟨a0, a1, a2, a3, a4, a5, a6, a7, a8, a9, a10⟩
  clear hK K
  try simp only [Act.put, za, zb, zc]
  clear a0 a1 a2 a3 a4 a5 a6 a7 a8 a9 a10
  refine hTk 14 17 hHeld ?_
  have h3 := h2.out.alloc (.cells (hmC c ⟨mm, mg, ap, ag⟩) 75)
  obtain ⟨a0, a1, a2, a3, a4, a5, a6, a7, a8, a9, a10⟩ : (w2.alloc (.cells (hmC c ⟨mm, mg, ap, ag⟩) 75)).cell? ⟨p, 0, none⟩ = some (.int .i64 c.n) ∧ (w2.alloc (.cells (hmC c ⟨mm, mg, ap, ag⟩) 75)).cell? ⟨p, 1, none⟩ = some (.int .i64 c.bl) ∧ (w2.alloc (.cells (hmC c ⟨mm, mg, ap, ag⟩) 75)).cell? ⟨p, 2, none⟩ = some (.int .i64 c.tt) ∧ (w2.alloc (.cells (hmC c ⟨mm, mg, ap, ag⟩) 75)).cell? ⟨p, 3, none⟩ = some (.int .i64 c.cs) ∧ (w2.alloc (.cells (hmC c ⟨mm, mg, ap, ag⟩) 75)).cell? ⟨p, 4, none⟩ = some (.int .i64 c.cy) ∧ (w2.alloc (.cells (hmC c ⟨mm, mg, ap, ag⟩) 75)).cell? ⟨p, 5, none⟩ = some (.int .i64 c.cc) ∧ (w2.alloc (.cells (hmC c ⟨mm, mg, ap, ag⟩) 75)).cell? ⟨p, 6, none⟩ = some (.int .i64 c.cu) ∧ (w2.alloc (.cells (hmC c ⟨mm, mg, ap, ag⟩) 75)).cell? ⟨p, 7, none⟩ = some (.int .i64 c.ct) ∧ (w2.alloc (.cells (hmC c ⟨mm, mg, ap, ag⟩) 75)).cell? ⟨p, 8, none⟩ = some (.int .i64 c.cp) ∧ (w2.alloc (.cells (hmC c ⟨mm, mg, ap, ag⟩) 75)).cell? ⟨p, 9, none⟩ = some (ptr B.mm) ∧ (w2.alloc (.cells (hmC c ⟨mm, mg, ap, ag⟩) 75)).cell? ⟨p, 10, none⟩ = some (ptr B.ap) := by
    have A := (h3).at'
    exact ⟨A.c0, A.c1, A.c2, A.c3, A.c4, A.c5, A.c6, A.c7, A.c8, A.c9, A.c10⟩
  refine hNo 15 fun K hK => ?_
  go_simp
  refine hK.out _ _ ?_ fun hHeld => ?_
  · exact ⟨a0, a1, a2, a3, a4, a5, a6, a7, a8, a9, a10⟩
  clear hK K
  try simp only [Act.put, za, zb, zc]
  refine hTk 16 2 hHeld ?_
  refine wpAnyH_done (by kernel_rfl) (NoPanic.normal ?_) _
  clear hHeld
  go_wp2_with fail
  go_ret
  obtain ⟨n1, n2⟩ := hm_make (D := D) (N := N) hok.out kM.out ⟨Nat.le_trans hs0 bM.1, Nat.le_trans hs0 bM.2.1, bM.2.2⟩ kA.out bA hml.out hal.out (s := w.heap.size) (by have := hB2.out.size; omega)
  exact ⟨_, rfl, _, _, n1, n2, hB2.out.alloc hB2.out.size _⟩
set_option maxHeartbeats 1000000 in
theorem rhSend_c (q : Nat) (B : Bd) (F : Nat → Prop) (c : Cf) (N : Nat) (D : Hm) (t0 b : Int) (x : Bun) (w : World) (h : RhIs w q B F c N D) (hx0 : 0 ≤ x.n) (L : List Lt) (hL : Hid (sendL c.n t0 b x = L)) : Calls Tryd.prog 30 #[ptr q, .int .i64 t0, .int .i64 b, .agg #[.int .i64 x.n, .bool x.o, .bool x.h, .int .i64 x.d]] w fun e w' => ∃ v, e = .returned v ∧ ∃ g, OwnT w' v g L ∧ w.heap.size ≤ g ∧ Below w.heap.size w w' := by
  have A := h.at'
  have c0 := A.c0
  have hpl := A.lt
  have hL' := hL.out
  unfold sendL at hL'
  clear hL A h
  by_cases e : x.n = 0
  · rw [if_pos (by omega)] at hL'
    subst hL'
    obtain ⟨e1, e2, e3⟩ := cmpT e
    replace e := hide e
    clear hx0
    go_enter Tryd.func30, Tryd.ntmps30
    go_wp2_with fail
    go_ret
    exact ⟨_, rfl, w.heap.size, own_nilT (by simp), Nat.le_refl _, by all_goals exact belEnd⟩
  · rw [if_neg (by omega)] at hL'
    subst hL'
    obtain ⟨e1, e2, e3⟩ := cmpF e
    replace e := hide e
    clear hx0
    go_enter Tryd.func30, Tryd.ntmps30
    go_wp2_with fail
    refine name_world ?_
    intro W hW
    have hB : Hid (Below w.heap.size w W) := by rw [← hW]; exact hide (by all_goals exact belEnd)
    have c0' : W.cell? ⟨q, 0, none⟩ = some (.int .i64 c.n) := keep_cell (hB.out.block q hpl) c0
    have b0 : W.cell? ⟨w.heap.size, 0, none⟩ = some (.int .i64 x.n) := by rw [← hW]; simp [go_sem]
    have b1 : W.cell? ⟨w.heap.size, 1, none⟩ = some (.bool x.o) := by rw [← hW]; simp [go_sem]
    have b2 : W.cell? ⟨w.heap.size, 2, none⟩ = some (.bool x.h) := by rw [← hW]; simp [go_sem]
    have b3 : W.cell? ⟨w.heap.size, 3, none⟩ = some (.int .i64 x.d) := by rw [← hW]; simp [go_sem]
    have hs : w.heap.size < W.heap.size := by rw [← hW]; simp
    clear hW c0
    go_wp2_with fail
    refine wp_region_noPanic ?_
    refine wp_region_held_drew (S := (fun w' => w'.cell? ⟨q, 0, none⟩ = some (.int .i64 c.n) ∧ w'.cell? ⟨w.heap.size, 0, none⟩ = some (.int .i64 x.n) ∧ w'.cell? ⟨w.heap.size, 1, none⟩ = some (.bool x.o) ∧ w'.cell? ⟨w.heap.size, 2, none⟩ = some (.bool x.h) ∧ w'.cell? ⟨w.heap.size, 3, none⟩ = some (.int .i64 x.d))) (by kernel_rfl) ?_ (fun hHeld => ?_)
    · exact ⟨c0', b0, b1, b2, b3⟩
    refine hTk 0 12 hHeld ?_
    refine hTk 1 13 hHeld ?_
    refine hTk 2 14 hHeld ?_
    refine hTk 3 15 hHeld ?_
    refine hTk 4 16 hHeld ?_
    refine hTk 5 17 hHeld ?_
    refine hTk 6 18 hHeld ?_
    refine hTk 7 19 hHeld ?_
    refine hTk 8 20 hHeld ?_
    have hB1 : Hid (Below w.heap.size w W.drew) := hide hB.out.drew
    obtain ⟨w1, ew⟩ : ∃ w1, W.drew = w1 := ⟨_, rfl⟩
    have hpl1 : q < w1.heap.size := by rw [← ew]; exact Nat.lt_of_lt_of_le hpl hB.out.size
    have hs1 : w.heap.size < w1.heap.size := by rw [← ew]; exact hs
    replace c0' : w1.cell? ⟨q, 0, none⟩ = some (.int .i64 c.n) := by rw [← ew]; exact c0'
    replace b0 : w1.cell? ⟨w.heap.size, 0, none⟩ = some (.int .i64 x.n) := by rw [← ew]; exact b0
    replace b1 : w1.cell? ⟨w.heap.size, 1, none⟩ = some (.bool x.o) := by rw [← ew]; exact b1
    replace b2 : w1.cell? ⟨w.heap.size, 2, none⟩ = some (.bool x.h) := by rw [← ew]; exact b2
    replace b3 : w1.cell? ⟨w.heap.size, 3, none⟩ = some (.int .i64 x.d) := by rw [← ew]; exact b3
    rw [ew] at hB1 hHeld ⊢
    clear ew hB hs hpl
    refine hNo 9 fun K hK => ?_
    go_simp
    refine hK.out _ _ ?_ fun hHeld => ?_
    · exact ⟨by simp [go_sem, *], by simp [go_sem, *], by simp [go_sem, *], by simp [go_sem, *], by simp [go_sem, *]⟩
    clear hK K
    try simp only [Act.put, za, zb, zc]
    refine hTk 10 8 hHeld ?_
    refine wpAnyH_done (by kernel_rfl) (NoPanic.normal ?_) _
    clear hHeld
    go_wp2_with fail
    go_ret
    exact ⟨_, rfl, w1.heap.size, own_oneT w1 _, hB1.out.size, hB1.out.alloc hB1.out.size _⟩
theorem row_zero (w : World) (k : Nat) (hk : k ≤ w.heap.size) : (w.alloc (.cells #[] 34)).ownsRow k 34 11 (.slice (some ⟨w.heap.size, 0, none⟩) 0 0) 0 [] :=
  ⟨rfl, .inr ⟨w.heap.size, 0, #[], rfl, hk, heap_alloc_new w _, Nat.le_refl _, Nat.zero_le _, rfl, rfl⟩⟩
set_option maxHeartbeats 2000000 in
theorem rhSpread_c (q0 : Nat) (B : Bd) (F : Nat → Prop) (c : Cf) (N0 : Nat) (D : Hm) (k q s h : Int) (w : World) (hr : RhIs w q0 B F c N0 D) (L : List Lt) (hL : Hid (sprL c k q s h = L)) : Calls Tryd.prog 37 #[ptr q0, .int .i64 k, .int .i64 q, .int .i64 s, .int .i64 h] w fun e w' => ∃ v, e = .returned v ∧ ∃ g, OwnT w' v g L ∧ w.heap.size ≤ g ∧ Below w.heap.size w w' := by
  obtain ⟨i0, hi, hz0, hz1, hz2⟩ := info_parts infoL
  have c0 := hr.at'.c0
  have hpl := hr.pl
  have hn0 := hr.ok.n0
  have hn1 := hr.ok.n1
  obtain ⟨N, hN⟩ : ∃ n, Hid (c.n.toNat = n) := ⟨_, rfl⟩
  have hNn : (N : Int) = c.n := by have := hN.out; omega
  have hN64 : N ≤ 64 := by omega
  have hpos : Hid (1 ≤ N) := hide (by have := hN.out; omega)
  have hf : Hid (letsC k c.n q s h N = flatLt L) := hide (by rw [← hL.out, ← hN.out, flat_spr])
  obtain ⟨cn, hcn⟩ : ∃ cn, c.n = cn := ⟨_, rfl⟩
  rw [hcn] at c0 hNn hf
  clear hL hr hN hn0 hn1 hcn
  go_enter Tryd.func37, Tryd.ntmps37
  go_wp2_with fail
  go_loopw [11, 12] (fun v i wr => ∃ j : Nat, j ≤ N ∧ i = .int .i64 j ∧ wr.ownsRow w.heap.size 34 11 v j (letsC k cn q s h j) ∧ Below w.heap.size w wr) (fun _ i _ => N - (intOf i).toNat)
  case atStart => exact ⟨0, Nat.zero_le _, rfl, row_zero w _ (Nat.le_refl _), (Below.refl _ _).alloc (Nat.le_refl _) _⟩
  case round =>
    obtain ⟨j, hj, rfl, hown, hbel⟩ := hrel
    have hsz := hbel.size
    have c0' : wr.cell? ⟨q0, 0, none⟩ = some (.int .i64 cn) := keep_cell (hbel.block q0 hpl) c0
    have hpl' : q0 < wr.heap.size := by omega
    by_cases hlt : j < N
    · have g1 : (j : Int) < cn := by omega
      go_wp2_with (at_builtin; refine wpList_append_own _ rfl _ _ 39 rfl w.heap.size 34 i0 _ 11 80 Tryd.underlying39 hi hz0 hz1 hz2 rfl (by decide) _ _ _ rfl (hown.alloc _) ⟨wr.heap.size, 0, none⟩ 1 1 (letC k cn q s h j) rfl rfl (letC_cells _ _ _ _ _ _ _) (letC_one _ _ _ _ _ _) (by unfold maxLen; omega) (by omega) (by simp; omega) ?_; intro v' w1 hown' hgrow _; have R := spread_step hown hbel hown' hgrow; clear hown' hgrow hown hbel)
      go_roundw
      case rel => exact ⟨j + 1, by omega, by simp, R.1, R.2⟩
      case measure => simp [intOf]; omega
    · have g1 : ¬ (j : Int) < cn := by omega
      obtain rfl : j = N := by omega
      go_wp2_with fail
      go_ret
      rw [hf.out] at hown
      obtain ⟨g, hO, hg⟩ := own_of_rowT hown hpos.out
      exact ⟨_, rfl, g, hO, hg, hbel⟩
theorem szN_of {x : Int} (h1 : 1 ≤ x) (h2 : x ≤ 64) : szN x = x.toNat := by unfold szN; rw [if_neg (by omega), if_neg (by omega)]
theorem build_bun0 (w : World) : (Instr.build 32 #[]).run Tryd.prog w = .ok (.agg #[.int .i64 0, .bool false, .bool false, .int .i64 0]) w := by kernel_rfl
theorem rh_make {W : World} {c : Cf} {N : Nat} {D : Hm} (ok : CfOk c 0) {mg qa qh : Nat} {v : Value} {F : Nat → Prop} {s h1 : Nat}
    (hM : OwnB W v mg D.M) (hI : MInv (((N + 1 : Nat) : Int) * 65536) D.M) (bM : s ≤ mg ∧ mg < h1) (hA : RdIs W qa qh c.n.toNat N D.L F) (bA : (∀ b, F b → h1 ≤ b) ∧ h1 ≤ qa)
    (ml : D.M.length = c.bl.toNat) (al : D.L.length = c.bl.toNat) (lo : s ≤ h1 ∧ s ≤ W.heap.size) :
    RhIs (W.alloc (.cells (rhC c v ⟨qa, qh, mg⟩) 49)) W.heap.size ⟨qa, qh, mg⟩ F c N D ∧ ∀ b, Fd W.heap.size ⟨qa, qh, mg⟩ F b → s ≤ b := by
  have q2 := hM.lt
  have q4 := hA.ql
  have q5 := hA.fq
  have q6 := hA.lt
  obtain ⟨b1, b2⟩ := bA
  refine ⟨⟨ok, ⟨v, heap_alloc_new _ _, (hM.alloc _).view⟩, by simp; omega, hI, hA.alloc _, ml, al, ⟨fun b => if b = W.heap.size then 0 else if b = qa then 1 else if b = mg then 2 else 3, ?_⟩⟩, ?_⟩
  · dsimp only
    refine ⟨if_pos rfl, ?_, ?_, fun b hb => ?_⟩
    · rw [if_neg (by omega), if_pos rfl]
    · rw [if_neg (by omega), if_neg (by omega), if_pos rfl]
    · have h2 := b1 b hb
      have h3 := q6 b hb
      have h4 : b ≠ qa := fun e => q5 (e ▸ hb)
      rw [if_neg (by omega), if_neg h4, if_neg (by omega)]
  · rintro b (hb | hb | hb | hb)
    · have := b1 b hb; omega
    all_goals (try dsimp only at hb)
    all_goals omega
set_option maxHeartbeats 2000000 in
theorem rhNew_c (c : Cf) (w : World) (ok : CfOk c 0) : Calls Tryd.prog 27 #[.agg #[.int .i64 c.n, .int .i64 c.bl, .int .i64 c.tt, .int .i64 c.cs, .int .i64 c.cy, .int .i64 c.cc, .int .i64 c.cu, .int .i64 c.ct, .int .i64 c.cp]] w fun e w' => ∃ q, e = .returned (ptr q) ∧ ∃ B F, RhIs w' q B F c 0 (hm0 c) ∧ (∀ b, Fd q B F b → w.heap.size ≤ b) ∧ Below w.heap.size w w' := by
  have hsn := hide (szN_of ok.n0 ok.n1)
  have hsb := hide (szN_of ok.b0 ok.b1)
  have hnl : Hid ((newM c.bl c.tt).length = c.bl.toNat) := hide (by have := (newM_len c.bl c.tt).1; rw [show clampZ c.bl 0 64 = c.bl by unfold clampZ; have := ok.b0; have := ok.b1; (repeat' split) <;> omega] at this; omega)
  have hI : Hid (MInv (((0 + 1 : Nat) : Int) * 65536) (newM c.bl c.tt)) := hide (MInv.new _ _ _ (by have := ok.t1; omega) (by omega))
  go_enter Tryd.func27, Tryd.ntmps27
  go_upto_region 1 with fail
  refine name_world ?_
  intro V hV
  have hB : Hid (Below w.heap.size w V) := by rw [← hV]; exact hide ((Below.refl _ _).alloc (Nat.le_refl _) _)
  have kc0 : V.heap[w.heap.size]? = some (cfR c) := by rw [← hV]; exact heap_alloc_new w _
  have hkl : w.heap.size < V.heap.size := by rw [← hV]; simp
  obtain ⟨kc, hke⟩ : ∃ kc, w.heap.size = kc := ⟨_, rfl⟩
  rw [hke] at kc0 hkl ⊢
  replace hke := hide hke
  clear hV
  go_wp2_with fail
  refine wp_region_noPanic ?_
  refine wp_region_held_drew (S := (fun w' => w'.cell? ⟨kc, 0, none⟩ = some (.int .i64 c.n) ∧ w'.cell? ⟨kc, 1, none⟩ = some (.int .i64 c.bl) ∧ w'.cell? ⟨kc, 2, none⟩ = some (.int .i64 c.tt) ∧ w'.cell? ⟨kc, 3, none⟩ = some (.int .i64 c.cs) ∧ w'.cell? ⟨kc, 4, none⟩ = some (.int .i64 c.cy) ∧ w'.cell? ⟨kc, 5, none⟩ = some (.int .i64 c.cc) ∧ w'.cell? ⟨kc, 6, none⟩ = some (.int .i64 c.cu) ∧ w'.cell? ⟨kc, 7, none⟩ = some (.int .i64 c.ct) ∧ w'.cell? ⟨kc, 8, none⟩ = some (.int .i64 c.cp))) (by kernel_rfl) ?_ (fun hHeld => ?_)
  · exact cf_at kc0
  refine hTk 0 3 hHeld ?_
  refine hTk 1 4 hHeld ?_
  refine hTk 2 5 hHeld ?_
  refine hTk 3 6 hHeld ?_
  refine hTk 4 7 hHeld ?_
  refine hTk 6 9 hHeld ?_
  refine hTk 7 10 hHeld ?_
  refine hTk 8 11 hHeld ?_
  refine hTk 9 12 hHeld ?_
  replace hB : Hid (Below w.heap.size w V.drew) := hide hB.out.drew
  replace hkl : kc < V.drew.heap.size := hkl
  obtain ⟨W0, hw0⟩ : ∃ W0, V.drew = W0 := ⟨_, rfl⟩
  replace kc0 : V.drew.heap[kc]? = some (cfR c) := kc0
  rw [hw0] at hHeld hB hkl kc0 ⊢
  clear hw0
  refine hNo 5 fun K hK => ?_
  go_simp
  go_at_call 51
  refine (refNew_c c.bl c.tt _).mono ?_
  rintro e w1 ⟨v, mg, rfl, hm, hm1, hb1⟩
  have kM := hide hm
  have bM : W0.heap.size ≤ mg ∧ mg < w1.heap.size := ⟨hm1, hm.lt⟩
  obtain ⟨ao, cap, e1, -⟩ := id hm
  subst e1
  have hB1 : Hid (Below w.heap.size w w1) := hide (hB.out.trans (hb1.mono hB.out.size))
  have kc1 := (hb1.block _ hkl).trans kc0
  have hkl1 := Nat.lt_of_lt_of_le hkl hb1.size
  have hs0 := hB.out.size
  obtain ⟨n, hn⟩ : ∃ n, Hid ((newM c.bl c.tt).length = n) := ⟨_, rfl⟩
  rw [hn.out] at kM ⊢
  clear hm hm1 hb1 hB kc0 hkl
  refine hK.out _ _ ?_ fun hHeld => ?_
  · exact cf_at kc1
  clear hK K
  try simp only [Act.put, za, zb, zc]
  refine hNo 10 fun K hK => ?_
  go_simp
  go_at_call 52
  refine (dNew_c c.n c.bl _ c.n.toNat c.bl.toNat hsn hsb).mono ?_
  rintro e w2 ⟨qa, rfl, qh, F, ha, hF, ha1, hb2⟩
  have kA := hide ha
  have bA : (∀ b, F b → w1.heap.size ≤ b) ∧ w1.heap.size ≤ qa := ⟨hF, ha1⟩
  replace kM := hide (kM.out.below hb2)
  have hB2 : Hid (Below w.heap.size w w2) := hide (hB1.out.trans (hb2.mono hB1.out.size))
  have kc2 := (hb2.block _ hkl1).trans kc1
  have hkl2 := Nat.lt_of_lt_of_le hkl1 hb2.size
  have hs1 := hB1.out.size
  clear ha hF ha1 hb2 hB1 kc1 hkl1
  refine hK.out _ _ ?_ fun hHeld => ?_
  · exact cf_at kc2
  clear hK K
  try simp only [Act.put, za, zb, zc]
  refine hTk 11 14 hHeld ?_
  refine hNo 12 fun K hK => ?_
  go_simp
  refine hK.out _ _ ?_ fun hHeld => ?_
  · exact cf_at ((Below.heap_alloc _ _ _ hkl2).trans kc2)
  clear hK K
  try simp only [Act.put, za, zb, zc]
  refine hTk 13 2 hHeld ?_
  refine wpAnyH_done (by kernel_rfl) (NoPanic.normal ?_) _
  clear hHeld
  go_wp2_with fail
  go_ret
  obtain ⟨n1, n2⟩ := rh_make (D := hm0 c) (N := 0) ok kM.out hI.out ⟨Nat.le_trans hs0 bM.1, bM.2⟩ kA.out bA hnl.out (by simp [hm0]) (s := w.heap.size) (by have := hB2.out.size; omega)
  exact ⟨_, rfl, _, _, n1, n2, hB2.out.alloc hB2.out.size _⟩
end Go.Proofs.YtmgjgeaigdiadaaDoor
