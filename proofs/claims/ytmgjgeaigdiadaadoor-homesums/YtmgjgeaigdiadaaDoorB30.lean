/- layer 16: HmG, put together. -/
import Derived.Test.YtmgjgeaigdiadaaDoorB25
import Derived.Test.YtmgjgeaigdiadaaDoorB27
import Derived.Test.YtmgjgeaigdiadaaDoorB28
import Derived.Test.YtmgjgeaigdiadaaDoorB29
namespace Go.Proofs.YtmgjgeaigdiadaaDoor
open Go.ChangeShapes Go.WideShapes Go.ChangeAt Go.RowKit
set_option linter.unusedSimpArgs false
set_option linter.unusedVariables false
set_option maxRecDepth 10000
attribute [local go_sem, local simp] over_const setCell_drewN alloc_drewN Over.cell Over.frozen lt_s1 lt_s2 lt_s3 le_s0 le_s1 le_s2 le_s3 eq_s0 eq_s1 eq_s2 qe_s0
abbrev mvH (f p : Nat) : Value := .func (.func f) #[ptr p] #[]
def dH (p : Nat) : Int → Value := updV (updV (updV (updV (updV (fun _ => .nilFunc) 1 (mvH 53 p)) 2 (mvH 54 p)) 3 (mvH 55 p)) 5 (mvH 56 p)) 7 (mvH 57 p)
abbrev tDH : TypeId := 70
set_option maxHeartbeats 1000000 in
theorem hmDoers_c (p : Nat) (w : World) : Calls Tryd.prog 28 #[ptr p] w fun e w' => ∃ m, e = .returned (.map (some m)) ∧ MpIs w' m .nilFunc [7, 5, 3, 2, 1] (dH p) ∧ Below w.heap.size w w' := by
  have hmf : ∀ (fn : Fn) (first cap : Array Value) (w : World), (Instr.makeFunc fn first cap).run Tryd.prog w = .ok (.func fn first cap) w := fun _ _ _ _ => rfl
  have hmm := @run_makeMap Tryd.prog
  have m0 : MpIs (w.alloc (.map #[] 0)) w.heap.size .nilFunc [] (fun _ => .nilFunc) := mp_new _ (World.ownsMap_made _ _ _ _)
  obtain ⟨w1, r1, m1, f1⟩ := mp_put m0 (t := tDH) Tryd.underlying70 (i64_of_small (x := 1) (by decide) (by decide)) (mvH 53 p) (K' := [1]) (fun k => by simp) (by simp)
  obtain ⟨w2, r2, m2, f2⟩ := mp_put m1 (t := tDH) Tryd.underlying70 (i64_of_small (x := 2) (by decide) (by decide)) (mvH 54 p) (K' := [2, 1]) (fun k => by simp) (by simp)
  obtain ⟨w3, r3, m3, f3⟩ := mp_put m2 (t := tDH) Tryd.underlying70 (i64_of_small (x := 3) (by decide) (by decide)) (mvH 55 p) (K' := [3, 2, 1]) (fun k => by simp) (by simp)
  obtain ⟨w4, r4, m4, f4⟩ := mp_put m3 (t := tDH) Tryd.underlying70 (i64_of_small (x := 5) (by decide) (by decide)) (mvH 56 p) (K' := [5, 3, 2, 1]) (fun k => by simp) (by simp)
  obtain ⟨w5, r5, m5, f5⟩ := mp_put m4 (t := tDH) Tryd.underlying70 (i64_of_small (x := 7) (by decide) (by decide)) (mvH 57 p) (K' := [7, 5, 3, 2, 1]) (fun k => by simp) (by simp)
  have hF : FrS (· = w.heap.size) (w.alloc (.map #[] 0)) w5 := ((((f1.trans f2 (fun _ e => .inl e)).trans f3 (fun _ e => .inl e)).trans f4 (fun _ e => .inl e)).trans f5 (fun _ e => .inl e))
  have hB : Below w.heap.size w w5 := ((Below.refl _ _).alloc (Nat.le_refl _) _).trans (hF.below (fun i hi => by rw [hi]; exact Nat.le_refl _) (by simp))
  have hfin := hide (And.intro m5 hB)
  replace r1 : (Instr.mapUpdate 70 (.map (some w.heap.size)) (.int .i64 1) (.func (.func 53) #[.pointer (some ⟨p, 0, none⟩)] #[])).run Tryd.prog (w.alloc (.map #[] 0)) = .ok () w1 := r1
  replace r2 : (Instr.mapUpdate 70 (.map (some w.heap.size)) (.int .i64 2) (.func (.func 54) #[.pointer (some ⟨p, 0, none⟩)] #[])).run Tryd.prog w1 = .ok () w2 := r2
  replace r3 : (Instr.mapUpdate 70 (.map (some w.heap.size)) (.int .i64 3) (.func (.func 55) #[.pointer (some ⟨p, 0, none⟩)] #[])).run Tryd.prog w2 = .ok () w3 := r3
  replace r4 : (Instr.mapUpdate 70 (.map (some w.heap.size)) (.int .i64 5) (.func (.func 56) #[.pointer (some ⟨p, 0, none⟩)] #[])).run Tryd.prog w3 = .ok () w4 := r4
  replace r5 : (Instr.mapUpdate 70 (.map (some w.heap.size)) (.int .i64 7) (.func (.func 57) #[.pointer (some ⟨p, 0, none⟩)] #[])).run Tryd.prog w4 = .ok () w5 := r5
  clear m0 m1 m2 m3 m4 m5 f1 f2 f3 f4 f5 hF hB
  go_enter Tryd.func28, Tryd.ntmps28
  go_wp2_with fail
  go_ret
  exact ⟨_, rfl, hfin.out.1, hfin.out.2⟩
theorem zeroFH (w : World) : (zeroValue 40).run Tryd.prog w = .ok .nilFunc w := by kernel_rfl
set_option maxHeartbeats 8000000 in
theorem hmTake_c (p : Nat) (B : Bh) (Ft : Nat → Prop) (c : Cf) (N : Nat) (D : Hm) (l : Lt) (d0 d1 d2 : Int) (w : World) (h : HmIs w p B Ft c N D) (hT : Hid (Tab w)) (hlo0 : Hid (¬ Fh p B Ft 0)) (hN1 : N + 2 ≤ 100000) (hlk : I64 l.k) (L : List Lt) (hL : Hid (htL c D l d0 d1 = L)) : Calls Tryd.prog 13 #[ptr p, .agg #[.int .i64 l.k, .int .i64 l.a, .int .i64 l.b, .int .i64 l.q, .int .i64 l.s, .int .i64 l.w, .bool l.r, .int .i64 l.n, .bool l.o, .bool l.h, .int .i64 l.d], .agg #[.int .i64 d0, .int .i64 d1, .int .i64 d2]] w fun e w' => ∃ v, e = .returned v ∧ ∃ Ft' g, HutP w p B Ft Ft' c (N + 1) (nxHT c D l d0 d1) L v w' g := by
  have hH := hide h
  have hL' := hL.out
  obtain ⟨z, hz⟩ : ∃ z, Hid (letterZ c.n c.bl c.tt ⟨l.k, l.a, l.b, l.q, l.s, l.w, l.r, ⟨l.n, l.o, l.h, l.d⟩⟩ = z) := ⟨_, rfl⟩
  clear hL
  by_cases k1 : l.k = 1
  · skip
    by_cases eb : l.b = c.n
    · obtain ⟨f1, f2, f3⟩ := cmpT eb
      replace eb := hide eb
      by_cases ez : z = 0
      · obtain ⟨h1, h2, h3⟩ := cmpT ez
        have hle0 : lerr c l = 0 := by rw [← hz.out] at ez; exact ez
        have htk : htOk c l = true := by unfold htOk; rw [hle0]; simp [f1]
        have htok := lerr_tok hle0 k1; have htt := h.ok.t1; have hLk : Hid (hTokL c D l = L) := hide (by rw [← hL']; unfold htL; rw [htk, if_pos rfl, if_pos k1]); have hDk : nxHT c D l d0 d1 = nxHTok D l := by unfold nxHT; rw [htk, if_pos rfl, if_pos k1]
        replace ez := hide ez
        clear h
        replace k1 := hide k1
        go_enter Tryd.func13, Tryd.ntmps13
        go_upto_region 1 with fail
        refine name_world ?_
        intro V hV
        have Q1 : Hid (Ah w V p B Ft Ft c N D [(w.heap.size + 1, dwR d0 d1 d2), (w.heap.size, ltR l)]) := by rw [← hV]; exact hide (ah_box hH.out l d0 d1 d2)
        obtain ⟨kd, hde⟩ : ∃ kd, Hid (w.heap.size + 1 = kd) := ⟨_, rfl⟩
        obtain ⟨kl, hle⟩ : ∃ kl, Hid (w.heap.size = kl) := ⟨_, rfl⟩
        rw [hde.out, hle.out] at Q1
        rw [hde.out, hle.out]
        clear hV
        have b0 := (lt_at (bz_get Q1.out.x (k := kl) (o := ltR l) (by simp)).2).c0
        go_wp2_with fail
        refine wp_region_noPanic ?_
        refine wp_region_held_drew (S := (fun w' => w'.cell? ⟨kl, 0, none⟩ = some (.int .i64 l.k))) (by kernel_rfl) ?_ (fun hHeld => ?_)
        · exact b0
        refine hTk 0 10 hHeld ?_
        refine hTk 2 12 hHeld ?_
        refine hTk 3 13 hHeld ?_
        refine hNo 1 fun K hK => ?_
        go_simp
        go_at_call 28
        refine (hmDoers_c p _).mono ?_
        rintro e w2 ⟨m, rfl, hm, hb2⟩
        have hBw2 : Below V.heap.size V w2 := ((Below.refl _ _).drew).trans hb2
        have Q2 := hide (Q1.out.below hBw2)
        have hT2 : Hid (Tab w2) := hide (hT.out.step Q2.out.s hlo0.out)
        have lk := hm.lookOk (t := tDH) Tryd.underlying70 zeroFH hlk true (by simp [k1.out]) w2 rfl
        rw [show dH p l.k = mvH 53 p by simp [dH, updV, k1.out]] at lk
        dsimp only [tDH, mvH] at lk
        clear hb2 hBw2 Q1 b0
        have b0 := (lt_at (bz_get Q2.out.x (k := kl) (o := ltR l) (by simp)).2).c0
        refine hK.out _ _ ?_ fun hHeld => ?_
        · exact b0
        clear hK K
        try simp only [Act.put, za, zb, zc]
        refine hNo 4 fun K hK => ?_
        go_simp
        refine hK.out _ _ ?_ fun hHeld => ?_
        · exact b0
        clear hK K
        try simp only [Act.put, za, zb, zc]
        clear lk hm b0
        refine hTk 5 9 hHeld ?_
        refine hTk 6 15 hHeld ?_
        refine hTk 7 16 hHeld ?_
        refine hTk 8 7 hHeld ?_
        refine hTk 9 8 hHeld ?_
        refine wpAnyH_done (by kernel_rfl) (NoPanic.normal ?_) _
        clear hHeld
        go_wp2_with fail
        have A2 := Q2.out.n.at'
        obtain ⟨b0, b1, b2, b3, b4, b5, b6, b7, b8, b9, b10⟩ := lt_at (bz_get Q2.out.x (k := kl) (o := ltR l) (by simp)).2
        go_wp2_with fail
        refine wp_region_noPanic ?_
        refine wp_region_held_drew (S := (fun w' => w'.cell? ⟨kl, 0, none⟩ = some (.int .i64 l.k) ∧ w'.cell? ⟨kl, 1, none⟩ = some (.int .i64 l.a) ∧ w'.cell? ⟨kl, 2, none⟩ = some (.int .i64 l.b) ∧ w'.cell? ⟨kl, 3, none⟩ = some (.int .i64 l.q) ∧ w'.cell? ⟨kl, 4, none⟩ = some (.int .i64 l.s) ∧ w'.cell? ⟨kl, 5, none⟩ = some (.int .i64 l.w) ∧ w'.cell? ⟨kl, 6, none⟩ = some (.bool l.r) ∧ w'.cell? ⟨kl, 7, none⟩ = some (.int .i64 l.n) ∧ w'.cell? ⟨kl, 8, none⟩ = some (.bool l.o) ∧ w'.cell? ⟨kl, 9, none⟩ = some (.bool l.h) ∧ w'.cell? ⟨kl, 10, none⟩ = some (.int .i64 l.d) ∧ w'.cell? ⟨p, 0, none⟩ = some (.int .i64 c.n) ∧ w'.cell? ⟨p, 1, none⟩ = some (.int .i64 c.bl) ∧ w'.cell? ⟨p, 2, none⟩ = some (.int .i64 c.tt) ∧ w'.cell? ⟨p, 3, none⟩ = some (.int .i64 c.cs) ∧ w'.cell? ⟨p, 4, none⟩ = some (.int .i64 c.cy) ∧ w'.cell? ⟨p, 5, none⟩ = some (.int .i64 c.cc) ∧ w'.cell? ⟨p, 6, none⟩ = some (.int .i64 c.cu) ∧ w'.cell? ⟨p, 7, none⟩ = some (.int .i64 c.ct) ∧ w'.cell? ⟨p, 8, none⟩ = some (.int .i64 c.cp))) (by kernel_rfl) ?_ (fun hHeld => ?_)
        · exact ⟨b0, b1, b2, b3, b4, b5, b6, b7, b8, b9, b10, A2.c0, A2.c1, A2.c2, A2.c3, A2.c4, A2.c5, A2.c6, A2.c7, A2.c8⟩
        clear A2 b0 b1 b2 b3 b4 b5 b6 b7 b8 b9 b10
        refine hTk 0 17 hHeld ?_
        refine hTk 1 18 hHeld ?_
        refine hTk 2 19 hHeld ?_
        refine hTk 3 20 hHeld ?_
        refine hTk 4 21 hHeld ?_
        refine hTk 5 22 hHeld ?_
        refine hTk 6 23 hHeld ?_
        refine hTk 7 24 hHeld ?_
        refine hTk 8 25 hHeld ?_
        refine hTk 9 26 hHeld ?_
        refine hVl 10 27 (.bool false) hHeld (fun wz hSw => ?_) ?_
        · try dsimp only at hSw
          go_simp
        refine hTk 11 28 hHeld ?_
        refine hTk 12 29 hHeld ?_
        refine hTk 13 30 hHeld ?_
        refine hTk 14 31 hHeld ?_
        refine hTk 15 32 hHeld ?_
        refine hTk 16 33 hHeld ?_
        refine hTk 17 34 hHeld ?_
        refine hNo 18 fun K hK => ?_
        go_simp
        go_at_call 29
        refine (check_c c.n c.bl c.tt c.cs c.cy c.cc c.cu c.ct c.cp l.k l.a l.b l.q l.s l.w l.r l.n l.o l.h l.d _ (hide (hT2.out.step (Step.of_below (F := fun _ => False) (belowN (Below.refl _ _) 1)) (fun h => h))) z hz).mono ?_
        rintro e w3 ⟨rfl, hb3⟩
        have Q3 : Hid (Ah w w3 p B Ft Ft c N D [(kd, dwR d0 d1 d2), (kl, ltR l)]) := hide (Q2.out.below (((Below.refl _ _).drew).trans hb3))
        have A3 := Q3.out.n.at'
        obtain ⟨b0, b1, b2, b3, b4, b5, b6, b7, b8, b9, b10⟩ := lt_at (bz_get Q3.out.x (k := kl) (o := ltR l) (by simp)).2
        refine hK.out _ _ ?_ fun hHeld => ?_
        · exact ⟨b0, b1, b2, b3, b4, b5, b6, b7, b8, b9, b10, A3.c0, A3.c1, A3.c2, A3.c3, A3.c4, A3.c5, A3.c6, A3.c7, A3.c8⟩
        clear hK K
        try simp only [Act.put, za, zb, zc]
        clear A3 hb3 hT2 Q2
        refine hVl 19 36 (.bool false) hHeld (fun wz hSw => ?_) ?_
        · try dsimp only at hSw
          go_simp
        refine hTk 20 37 hHeld ?_
        refine wpAnyH_done (by kernel_rfl) (NoPanic.normal ?_) _
        clear hHeld
        obtain ⟨d0e, d1e, d2e⟩ : w3.cell? ⟨kd, 0, none⟩ = some (.int .i64 d0) ∧ w3.cell? ⟨kd, 1, none⟩ = some (.int .i64 d1) ∧ w3.cell? ⟨kd, 2, none⟩ = some (.int .i64 d2) := ⟨cell_of_row _ _ _ _ _ _ (bz_get Q3.out.x (k := kd) (o := dwR d0 d1 d2) (by simp)).2, cell_of_row _ _ _ _ _ _ (bz_get Q3.out.x (k := kd) (o := dwR d0 d1 d2) (by simp)).2, cell_of_row _ _ _ _ _ _ (bz_get Q3.out.x (k := kd) (o := dwR d0 d1 d2) (by simp)).2⟩
        have hl3 := (bz_get Q3.out.x (k := kl) (o := ltR l) (by simp)).1
        have hd3 := (bz_get Q3.out.x (k := kd) (o := dwR d0 d1 d2) (by simp)).1
        go_wp2_with (go_at_call 53; refine (hmTok_c p B Ft c N D l d0 d1 d2 _ Q3.out.n (by omega) htok.1 (by omega) L hLk).mono ?_; rintro e w5 ⟨v1, rfl, Ft7, g1, hO⟩; have Q5 := hide (Q3.out.step hO.nd hO.st); replace hO := hide hO)
        go_ret
        rw [hDk]
        exact ⟨_, rfl, Ft7, g1, hut_fin Q5.out hO.out.own (Nat.le_trans Q3.out.s.fr.size hO.out.new) hO.out.nf⟩
      · obtain ⟨h1, h2, h3⟩ := cmpF ez
        have htk : htOk c l = false := by unfold htOk; rw [show lerr c l = z from hz.out]; simp [h1]
        obtain rfl : [] = L := by rw [← hL']; unfold htL; rw [htk]; rfl
        have hD2 : nxHT c D l d0 d1 = D := by unfold nxHT; rw [htk]; rfl
        rw [hD2]
        replace ez := hide ez
        clear h
        replace k1 := hide k1
        go_enter Tryd.func13, Tryd.ntmps13
        go_upto_region 1 with fail
        refine name_world ?_
        intro V hV
        have Q1 : Hid (Ah w V p B Ft Ft c N D [(w.heap.size + 1, dwR d0 d1 d2), (w.heap.size, ltR l)]) := by rw [← hV]; exact hide (ah_box hH.out l d0 d1 d2)
        obtain ⟨kd, hde⟩ : ∃ kd, Hid (w.heap.size + 1 = kd) := ⟨_, rfl⟩
        obtain ⟨kl, hle⟩ : ∃ kl, Hid (w.heap.size = kl) := ⟨_, rfl⟩
        rw [hde.out, hle.out] at Q1
        rw [hde.out, hle.out]
        clear hV
        have b0 := (lt_at (bz_get Q1.out.x (k := kl) (o := ltR l) (by simp)).2).c0
        go_wp2_with fail
        refine wp_region_noPanic ?_
        refine wp_region_held_drew (S := (fun w' => w'.cell? ⟨kl, 0, none⟩ = some (.int .i64 l.k))) (by kernel_rfl) ?_ (fun hHeld => ?_)
        · exact b0
        refine hTk 0 10 hHeld ?_
        refine hTk 2 12 hHeld ?_
        refine hTk 3 13 hHeld ?_
        refine hNo 1 fun K hK => ?_
        go_simp
        go_at_call 28
        refine (hmDoers_c p _).mono ?_
        rintro e w2 ⟨m, rfl, hm, hb2⟩
        have hBw2 : Below V.heap.size V w2 := ((Below.refl _ _).drew).trans hb2
        have Q2 := hide (Q1.out.below hBw2)
        have hT2 : Hid (Tab w2) := hide (hT.out.step Q2.out.s hlo0.out)
        have lk := hm.lookOk (t := tDH) Tryd.underlying70 zeroFH hlk true (by simp [k1.out]) w2 rfl
        rw [show dH p l.k = mvH 53 p by simp [dH, updV, k1.out]] at lk
        dsimp only [tDH, mvH] at lk
        clear hb2 hBw2 Q1 b0
        have b0 := (lt_at (bz_get Q2.out.x (k := kl) (o := ltR l) (by simp)).2).c0
        refine hK.out _ _ ?_ fun hHeld => ?_
        · exact b0
        clear hK K
        try simp only [Act.put, za, zb, zc]
        refine hNo 4 fun K hK => ?_
        go_simp
        refine hK.out _ _ ?_ fun hHeld => ?_
        · exact b0
        clear hK K
        try simp only [Act.put, za, zb, zc]
        clear lk hm b0
        refine hTk 5 9 hHeld ?_
        refine hTk 6 15 hHeld ?_
        refine hTk 7 16 hHeld ?_
        refine hTk 8 7 hHeld ?_
        refine hTk 9 8 hHeld ?_
        refine wpAnyH_done (by kernel_rfl) (NoPanic.normal ?_) _
        clear hHeld
        go_wp2_with fail
        have A2 := Q2.out.n.at'
        obtain ⟨b0, b1, b2, b3, b4, b5, b6, b7, b8, b9, b10⟩ := lt_at (bz_get Q2.out.x (k := kl) (o := ltR l) (by simp)).2
        go_wp2_with fail
        refine wp_region_noPanic ?_
        refine wp_region_held_drew (S := (fun w' => w'.cell? ⟨kl, 0, none⟩ = some (.int .i64 l.k) ∧ w'.cell? ⟨kl, 1, none⟩ = some (.int .i64 l.a) ∧ w'.cell? ⟨kl, 2, none⟩ = some (.int .i64 l.b) ∧ w'.cell? ⟨kl, 3, none⟩ = some (.int .i64 l.q) ∧ w'.cell? ⟨kl, 4, none⟩ = some (.int .i64 l.s) ∧ w'.cell? ⟨kl, 5, none⟩ = some (.int .i64 l.w) ∧ w'.cell? ⟨kl, 6, none⟩ = some (.bool l.r) ∧ w'.cell? ⟨kl, 7, none⟩ = some (.int .i64 l.n) ∧ w'.cell? ⟨kl, 8, none⟩ = some (.bool l.o) ∧ w'.cell? ⟨kl, 9, none⟩ = some (.bool l.h) ∧ w'.cell? ⟨kl, 10, none⟩ = some (.int .i64 l.d) ∧ w'.cell? ⟨p, 0, none⟩ = some (.int .i64 c.n) ∧ w'.cell? ⟨p, 1, none⟩ = some (.int .i64 c.bl) ∧ w'.cell? ⟨p, 2, none⟩ = some (.int .i64 c.tt) ∧ w'.cell? ⟨p, 3, none⟩ = some (.int .i64 c.cs) ∧ w'.cell? ⟨p, 4, none⟩ = some (.int .i64 c.cy) ∧ w'.cell? ⟨p, 5, none⟩ = some (.int .i64 c.cc) ∧ w'.cell? ⟨p, 6, none⟩ = some (.int .i64 c.cu) ∧ w'.cell? ⟨p, 7, none⟩ = some (.int .i64 c.ct) ∧ w'.cell? ⟨p, 8, none⟩ = some (.int .i64 c.cp))) (by kernel_rfl) ?_ (fun hHeld => ?_)
        · exact ⟨b0, b1, b2, b3, b4, b5, b6, b7, b8, b9, b10, A2.c0, A2.c1, A2.c2, A2.c3, A2.c4, A2.c5, A2.c6, A2.c7, A2.c8⟩
        clear A2 b0 b1 b2 b3 b4 b5 b6 b7 b8 b9 b10
        refine hTk 0 17 hHeld ?_
        refine hTk 1 18 hHeld ?_
        refine hTk 2 19 hHeld ?_
        refine hTk 3 20 hHeld ?_
        refine hTk 4 21 hHeld ?_
        refine hTk 5 22 hHeld ?_
        refine hTk 6 23 hHeld ?_
        refine hTk 7 24 hHeld ?_
        refine hTk 8 25 hHeld ?_
        refine hTk 9 26 hHeld ?_
        refine hVl 10 27 (.bool false) hHeld (fun wz hSw => ?_) ?_
        · try dsimp only at hSw
          go_simp
        refine hTk 11 28 hHeld ?_
        refine hTk 12 29 hHeld ?_
        refine hTk 13 30 hHeld ?_
        refine hTk 14 31 hHeld ?_
        refine hTk 15 32 hHeld ?_
        refine hTk 16 33 hHeld ?_
        refine hTk 17 34 hHeld ?_
        refine hNo 18 fun K hK => ?_
        go_simp
        go_at_call 29
        refine (check_c c.n c.bl c.tt c.cs c.cy c.cc c.cu c.ct c.cp l.k l.a l.b l.q l.s l.w l.r l.n l.o l.h l.d _ (hide (hT2.out.step (Step.of_below (F := fun _ => False) (belowN (Below.refl _ _) 1)) (fun h => h))) z hz).mono ?_
        rintro e w3 ⟨rfl, hb3⟩
        have Q3 : Hid (Ah w w3 p B Ft Ft c N D [(kd, dwR d0 d1 d2), (kl, ltR l)]) := hide (Q2.out.below (((Below.refl _ _).drew).trans hb3))
        have A3 := Q3.out.n.at'
        obtain ⟨b0, b1, b2, b3, b4, b5, b6, b7, b8, b9, b10⟩ := lt_at (bz_get Q3.out.x (k := kl) (o := ltR l) (by simp)).2
        refine hK.out _ _ ?_ fun hHeld => ?_
        · exact ⟨b0, b1, b2, b3, b4, b5, b6, b7, b8, b9, b10, A3.c0, A3.c1, A3.c2, A3.c3, A3.c4, A3.c5, A3.c6, A3.c7, A3.c8⟩
        clear hK K
        try simp only [Act.put, za, zb, zc]
        clear A3 hb3 hT2 Q2
        refine hVl 19 36 (.bool true) hHeld (fun wz hSw => ?_) ?_
        · try dsimp only at hSw
          go_simp
        refine hTk 20 37 hHeld ?_
        refine wpAnyH_done (by kernel_rfl) (NoPanic.normal ?_) _
        clear hHeld
        go_wp2_with fail
        go_ret
        obtain ⟨q1, q2, q3, q4⟩ := Q3.out.x (kl, ltR l) (by simp)
        exact ⟨_, rfl, Ft, kl, hut_fin ((Q3.out.below (Below.refl _ _)).step ((Q3.out.below (Below.refl _ _)).n.mono (Nat.le_succ N)) (Step.refl _ _)) (own_nilT q2) q1 q3⟩
    · obtain ⟨f1, f2, f3⟩ := cmpF eb
      have htk : htOk c l = false := by unfold htOk; simp [f1]
      obtain rfl : [] = L := by rw [← hL']; unfold htL; rw [htk]; rfl
      have hD2 : nxHT c D l d0 d1 = D := by unfold nxHT; rw [htk]; rfl
      rw [hD2]
      replace eb := hide eb
      clear h
      replace k1 := hide k1
      go_enter Tryd.func13, Tryd.ntmps13
      go_upto_region 1 with fail
      refine name_world ?_
      intro V hV
      have Q1 : Hid (Ah w V p B Ft Ft c N D [(w.heap.size + 1, dwR d0 d1 d2), (w.heap.size, ltR l)]) := by rw [← hV]; exact hide (ah_box hH.out l d0 d1 d2)
      obtain ⟨kd, hde⟩ : ∃ kd, Hid (w.heap.size + 1 = kd) := ⟨_, rfl⟩
      obtain ⟨kl, hle⟩ : ∃ kl, Hid (w.heap.size = kl) := ⟨_, rfl⟩
      rw [hde.out, hle.out] at Q1
      rw [hde.out, hle.out]
      clear hV
      have b0 := (lt_at (bz_get Q1.out.x (k := kl) (o := ltR l) (by simp)).2).c0
      go_wp2_with fail
      refine wp_region_noPanic ?_
      refine wp_region_held_drew (S := (fun w' => w'.cell? ⟨kl, 0, none⟩ = some (.int .i64 l.k))) (by kernel_rfl) ?_ (fun hHeld => ?_)
      · exact b0
      refine hTk 0 10 hHeld ?_
      refine hTk 2 12 hHeld ?_
      refine hTk 3 13 hHeld ?_
      refine hNo 1 fun K hK => ?_
      go_simp
      go_at_call 28
      refine (hmDoers_c p _).mono ?_
      rintro e w2 ⟨m, rfl, hm, hb2⟩
      have hBw2 : Below V.heap.size V w2 := ((Below.refl _ _).drew).trans hb2
      have Q2 := hide (Q1.out.below hBw2)
      have hT2 : Hid (Tab w2) := hide (hT.out.step Q2.out.s hlo0.out)
      have lk := hm.lookOk (t := tDH) Tryd.underlying70 zeroFH hlk true (by simp [k1.out]) w2 rfl
      rw [show dH p l.k = mvH 53 p by simp [dH, updV, k1.out]] at lk
      dsimp only [tDH, mvH] at lk
      clear hb2 hBw2 Q1 b0
      have b0 := (lt_at (bz_get Q2.out.x (k := kl) (o := ltR l) (by simp)).2).c0
      refine hK.out _ _ ?_ fun hHeld => ?_
      · exact b0
      clear hK K
      try simp only [Act.put, za, zb, zc]
      refine hNo 4 fun K hK => ?_
      go_simp
      refine hK.out _ _ ?_ fun hHeld => ?_
      · exact b0
      clear hK K
      try simp only [Act.put, za, zb, zc]
      clear lk hm b0
      refine hTk 5 9 hHeld ?_
      refine hTk 6 15 hHeld ?_
      refine hTk 7 16 hHeld ?_
      refine hTk 8 7 hHeld ?_
      refine hTk 9 8 hHeld ?_
      refine wpAnyH_done (by kernel_rfl) (NoPanic.normal ?_) _
      clear hHeld
      go_wp2_with fail
      go_wp2_with fail
      refine wp_region_noPanic ?_
      refine wp_region_held_drew (S := (fun w' => w'.cell? ⟨kl, 2, none⟩ = some (.int .i64 l.b) ∧ w'.cell? ⟨p, 0, none⟩ = some (.int .i64 c.n))) (by kernel_rfl) ?_ (fun hHeld => ?_)
      · exact ⟨(lt_at (bz_get Q2.out.x (k := kl) (o := ltR l) (by simp)).2).c2, Q2.out.n.at'.c0⟩
      refine hTk 0 17 hHeld ?_
      refine hTk 1 18 hHeld ?_
      refine hTk 2 19 hHeld ?_
      refine hTk 3 20 hHeld ?_
      refine hTk 4 21 hHeld ?_
      refine hTk 5 22 hHeld ?_
      refine hTk 6 23 hHeld ?_
      refine hTk 7 24 hHeld ?_
      refine hTk 8 25 hHeld ?_
      refine hTk 9 26 hHeld ?_
      refine hVl 10 27 (.bool true) hHeld (fun wz hSw => ?_) ?_
      · try dsimp only at hSw
        go_simp
      refine hTk 11 28 hHeld ?_
      refine hTk 12 29 hHeld ?_
      refine hSk 13 30 hHeld ?_
      refine hSk 14 31 hHeld ?_
      refine hSk 15 32 hHeld ?_
      refine hSk 16 33 hHeld ?_
      refine hSk 17 34 hHeld ?_
      refine hSk 18 35 hHeld ?_
      refine hSk 19 36 hHeld ?_
      refine hTk 20 37 hHeld ?_
      refine wpAnyH_done (by kernel_rfl) (NoPanic.normal ?_) _
      clear hHeld
      go_wp2_with fail
      go_ret
      obtain ⟨q1, q2, q3, q4⟩ := Q2.out.x (kl, ltR l) (by simp)
      exact ⟨_, rfl, Ft, kl, hut_fin ((Q2.out.below (belowN (Below.refl _ _) 1)).step ((Q2.out.below (belowN (Below.refl _ _) 1)).n.mono (Nat.le_succ N)) (Step.refl _ _)) (own_nilT q2) q1 q3⟩
  by_cases k2 : l.k = 2
  · skip
    by_cases eb : l.b = c.n
    · obtain ⟨f1, f2, f3⟩ := cmpT eb
      replace eb := hide eb
      by_cases ez : z = 0
      · obtain ⟨h1, h2, h3⟩ := cmpT ez
        have hle0 : lerr c l = 0 := by rw [← hz.out] at ez; exact ez
        have htk : htOk c l = true := by unfold htOk; rw [hle0]; simp [f1]
        have hLk : Hid (hAskL c D l d0 d1 = L) := hide (by rw [← hL']; unfold htL; rw [htk, if_pos rfl, if_neg k1, if_pos k2]); have hDk : nxHT c D l d0 d1 = nxHAsk c D l d0 d1 := by unfold nxHT; rw [htk, if_pos rfl, if_neg k1, if_pos k2]
        replace ez := hide ez
        clear h
        replace k2 := hide k2
        go_enter Tryd.func13, Tryd.ntmps13
        go_upto_region 1 with fail
        refine name_world ?_
        intro V hV
        have Q1 : Hid (Ah w V p B Ft Ft c N D [(w.heap.size + 1, dwR d0 d1 d2), (w.heap.size, ltR l)]) := by rw [← hV]; exact hide (ah_box hH.out l d0 d1 d2)
        obtain ⟨kd, hde⟩ : ∃ kd, Hid (w.heap.size + 1 = kd) := ⟨_, rfl⟩
        obtain ⟨kl, hle⟩ : ∃ kl, Hid (w.heap.size = kl) := ⟨_, rfl⟩
        rw [hde.out, hle.out] at Q1
        rw [hde.out, hle.out]
        clear hV
        have b0 := (lt_at (bz_get Q1.out.x (k := kl) (o := ltR l) (by simp)).2).c0
        go_wp2_with fail
        refine wp_region_noPanic ?_
        refine wp_region_held_drew (S := (fun w' => w'.cell? ⟨kl, 0, none⟩ = some (.int .i64 l.k))) (by kernel_rfl) ?_ (fun hHeld => ?_)
        · exact b0
        refine hTk 0 10 hHeld ?_
        refine hTk 2 12 hHeld ?_
        refine hTk 3 13 hHeld ?_
        refine hNo 1 fun K hK => ?_
        go_simp
        go_at_call 28
        refine (hmDoers_c p _).mono ?_
        rintro e w2 ⟨m, rfl, hm, hb2⟩
        have hBw2 : Below V.heap.size V w2 := ((Below.refl _ _).drew).trans hb2
        have Q2 := hide (Q1.out.below hBw2)
        have hT2 : Hid (Tab w2) := hide (hT.out.step Q2.out.s hlo0.out)
        have lk := hm.lookOk (t := tDH) Tryd.underlying70 zeroFH hlk true (by simp [k2.out]) w2 rfl
        rw [show dH p l.k = mvH 54 p by simp [dH, updV, k2.out]] at lk
        dsimp only [tDH, mvH] at lk
        clear hb2 hBw2 Q1 b0
        have b0 := (lt_at (bz_get Q2.out.x (k := kl) (o := ltR l) (by simp)).2).c0
        refine hK.out _ _ ?_ fun hHeld => ?_
        · exact b0
        clear hK K
        try simp only [Act.put, za, zb, zc]
        refine hNo 4 fun K hK => ?_
        go_simp
        refine hK.out _ _ ?_ fun hHeld => ?_
        · exact b0
        clear hK K
        try simp only [Act.put, za, zb, zc]
        clear lk hm b0
        refine hTk 5 9 hHeld ?_
        refine hTk 6 15 hHeld ?_
        refine hTk 7 16 hHeld ?_
        refine hTk 8 7 hHeld ?_
        refine hTk 9 8 hHeld ?_
        refine wpAnyH_done (by kernel_rfl) (NoPanic.normal ?_) _
        clear hHeld
        go_wp2_with fail
        have A2 := Q2.out.n.at'
        obtain ⟨b0, b1, b2, b3, b4, b5, b6, b7, b8, b9, b10⟩ := lt_at (bz_get Q2.out.x (k := kl) (o := ltR l) (by simp)).2
        go_wp2_with fail
        refine wp_region_noPanic ?_
        refine wp_region_held_drew (S := (fun w' => w'.cell? ⟨kl, 0, none⟩ = some (.int .i64 l.k) ∧ w'.cell? ⟨kl, 1, none⟩ = some (.int .i64 l.a) ∧ w'.cell? ⟨kl, 2, none⟩ = some (.int .i64 l.b) ∧ w'.cell? ⟨kl, 3, none⟩ = some (.int .i64 l.q) ∧ w'.cell? ⟨kl, 4, none⟩ = some (.int .i64 l.s) ∧ w'.cell? ⟨kl, 5, none⟩ = some (.int .i64 l.w) ∧ w'.cell? ⟨kl, 6, none⟩ = some (.bool l.r) ∧ w'.cell? ⟨kl, 7, none⟩ = some (.int .i64 l.n) ∧ w'.cell? ⟨kl, 8, none⟩ = some (.bool l.o) ∧ w'.cell? ⟨kl, 9, none⟩ = some (.bool l.h) ∧ w'.cell? ⟨kl, 10, none⟩ = some (.int .i64 l.d) ∧ w'.cell? ⟨p, 0, none⟩ = some (.int .i64 c.n) ∧ w'.cell? ⟨p, 1, none⟩ = some (.int .i64 c.bl) ∧ w'.cell? ⟨p, 2, none⟩ = some (.int .i64 c.tt) ∧ w'.cell? ⟨p, 3, none⟩ = some (.int .i64 c.cs) ∧ w'.cell? ⟨p, 4, none⟩ = some (.int .i64 c.cy) ∧ w'.cell? ⟨p, 5, none⟩ = some (.int .i64 c.cc) ∧ w'.cell? ⟨p, 6, none⟩ = some (.int .i64 c.cu) ∧ w'.cell? ⟨p, 7, none⟩ = some (.int .i64 c.ct) ∧ w'.cell? ⟨p, 8, none⟩ = some (.int .i64 c.cp))) (by kernel_rfl) ?_ (fun hHeld => ?_)
        · exact ⟨b0, b1, b2, b3, b4, b5, b6, b7, b8, b9, b10, A2.c0, A2.c1, A2.c2, A2.c3, A2.c4, A2.c5, A2.c6, A2.c7, A2.c8⟩
        clear A2 b0 b1 b2 b3 b4 b5 b6 b7 b8 b9 b10
        refine hTk 0 17 hHeld ?_
        refine hTk 1 18 hHeld ?_
        refine hTk 2 19 hHeld ?_
        refine hTk 3 20 hHeld ?_
        refine hTk 4 21 hHeld ?_
        refine hTk 5 22 hHeld ?_
        refine hTk 6 23 hHeld ?_
        refine hTk 7 24 hHeld ?_
        refine hTk 8 25 hHeld ?_
        refine hTk 9 26 hHeld ?_
        refine hVl 10 27 (.bool false) hHeld (fun wz hSw => ?_) ?_
        · try dsimp only at hSw
          go_simp
        refine hTk 11 28 hHeld ?_
        refine hTk 12 29 hHeld ?_
        refine hTk 13 30 hHeld ?_
        refine hTk 14 31 hHeld ?_
        refine hTk 15 32 hHeld ?_
        refine hTk 16 33 hHeld ?_
        refine hTk 17 34 hHeld ?_
        refine hNo 18 fun K hK => ?_
        go_simp
        go_at_call 29
        refine (check_c c.n c.bl c.tt c.cs c.cy c.cc c.cu c.ct c.cp l.k l.a l.b l.q l.s l.w l.r l.n l.o l.h l.d _ (hide (hT2.out.step (Step.of_below (F := fun _ => False) (belowN (Below.refl _ _) 1)) (fun h => h))) z hz).mono ?_
        rintro e w3 ⟨rfl, hb3⟩
        have Q3 : Hid (Ah w w3 p B Ft Ft c N D [(kd, dwR d0 d1 d2), (kl, ltR l)]) := hide (Q2.out.below (((Below.refl _ _).drew).trans hb3))
        have A3 := Q3.out.n.at'
        obtain ⟨b0, b1, b2, b3, b4, b5, b6, b7, b8, b9, b10⟩ := lt_at (bz_get Q3.out.x (k := kl) (o := ltR l) (by simp)).2
        refine hK.out _ _ ?_ fun hHeld => ?_
        · exact ⟨b0, b1, b2, b3, b4, b5, b6, b7, b8, b9, b10, A3.c0, A3.c1, A3.c2, A3.c3, A3.c4, A3.c5, A3.c6, A3.c7, A3.c8⟩
        clear hK K
        try simp only [Act.put, za, zb, zc]
        clear A3 hb3 hT2 Q2
        refine hVl 19 36 (.bool false) hHeld (fun wz hSw => ?_) ?_
        · try dsimp only at hSw
          go_simp
        refine hTk 20 37 hHeld ?_
        refine wpAnyH_done (by kernel_rfl) (NoPanic.normal ?_) _
        clear hHeld
        obtain ⟨d0e, d1e, d2e⟩ : w3.cell? ⟨kd, 0, none⟩ = some (.int .i64 d0) ∧ w3.cell? ⟨kd, 1, none⟩ = some (.int .i64 d1) ∧ w3.cell? ⟨kd, 2, none⟩ = some (.int .i64 d2) := ⟨cell_of_row _ _ _ _ _ _ (bz_get Q3.out.x (k := kd) (o := dwR d0 d1 d2) (by simp)).2, cell_of_row _ _ _ _ _ _ (bz_get Q3.out.x (k := kd) (o := dwR d0 d1 d2) (by simp)).2, cell_of_row _ _ _ _ _ _ (bz_get Q3.out.x (k := kd) (o := dwR d0 d1 d2) (by simp)).2⟩
        have hl3 := (bz_get Q3.out.x (k := kl) (o := ltR l) (by simp)).1
        have hd3 := (bz_get Q3.out.x (k := kd) (o := dwR d0 d1 d2) (by simp)).1
        go_wp2_with (go_at_call 54; refine (hmAsk_c p B Ft c N D l d0 d1 d2 _ Q3.out.n (by omega) L hLk).mono ?_; rintro e w5 ⟨v1, rfl, Ft7, g1, hO⟩; have Q5 := hide (Q3.out.step hO.nd hO.st); replace hO := hide hO)
        go_ret
        rw [hDk]
        exact ⟨_, rfl, Ft7, g1, hut_fin Q5.out hO.out.own (Nat.le_trans Q3.out.s.fr.size hO.out.new) hO.out.nf⟩
      · obtain ⟨h1, h2, h3⟩ := cmpF ez
        have htk : htOk c l = false := by unfold htOk; rw [show lerr c l = z from hz.out]; simp [h1]
        obtain rfl : [] = L := by rw [← hL']; unfold htL; rw [htk]; rfl
        have hD2 : nxHT c D l d0 d1 = D := by unfold nxHT; rw [htk]; rfl
        rw [hD2]
        replace ez := hide ez
        clear h
        replace k2 := hide k2
        go_enter Tryd.func13, Tryd.ntmps13
        go_upto_region 1 with fail
        refine name_world ?_
        intro V hV
        have Q1 : Hid (Ah w V p B Ft Ft c N D [(w.heap.size + 1, dwR d0 d1 d2), (w.heap.size, ltR l)]) := by rw [← hV]; exact hide (ah_box hH.out l d0 d1 d2)
        obtain ⟨kd, hde⟩ : ∃ kd, Hid (w.heap.size + 1 = kd) := ⟨_, rfl⟩
        obtain ⟨kl, hle⟩ : ∃ kl, Hid (w.heap.size = kl) := ⟨_, rfl⟩
        rw [hde.out, hle.out] at Q1
        rw [hde.out, hle.out]
        clear hV
        have b0 := (lt_at (bz_get Q1.out.x (k := kl) (o := ltR l) (by simp)).2).c0
        go_wp2_with fail
        refine wp_region_noPanic ?_
        refine wp_region_held_drew (S := (fun w' => w'.cell? ⟨kl, 0, none⟩ = some (.int .i64 l.k))) (by kernel_rfl) ?_ (fun hHeld => ?_)
        · exact b0
        refine hTk 0 10 hHeld ?_
        refine hTk 2 12 hHeld ?_
        refine hTk 3 13 hHeld ?_
        refine hNo 1 fun K hK => ?_
        go_simp
        go_at_call 28
        refine (hmDoers_c p _).mono ?_
        rintro e w2 ⟨m, rfl, hm, hb2⟩
        have hBw2 : Below V.heap.size V w2 := ((Below.refl _ _).drew).trans hb2
        have Q2 := hide (Q1.out.below hBw2)
        have hT2 : Hid (Tab w2) := hide (hT.out.step Q2.out.s hlo0.out)
        have lk := hm.lookOk (t := tDH) Tryd.underlying70 zeroFH hlk true (by simp [k2.out]) w2 rfl
        rw [show dH p l.k = mvH 54 p by simp [dH, updV, k2.out]] at lk
        dsimp only [tDH, mvH] at lk
        clear hb2 hBw2 Q1 b0
        have b0 := (lt_at (bz_get Q2.out.x (k := kl) (o := ltR l) (by simp)).2).c0
        refine hK.out _ _ ?_ fun hHeld => ?_
        · exact b0
        clear hK K
        try simp only [Act.put, za, zb, zc]
        refine hNo 4 fun K hK => ?_
        go_simp
        refine hK.out _ _ ?_ fun hHeld => ?_
        · exact b0
        clear hK K
        try simp only [Act.put, za, zb, zc]
        clear lk hm b0
        refine hTk 5 9 hHeld ?_
        refine hTk 6 15 hHeld ?_
        refine hTk 7 16 hHeld ?_
        refine hTk 8 7 hHeld ?_
        refine hTk 9 8 hHeld ?_
        refine wpAnyH_done (by kernel_rfl) (NoPanic.normal ?_) _
        clear hHeld
        go_wp2_with fail
        have A2 := Q2.out.n.at'
        obtain ⟨b0, b1, b2, b3, b4, b5, b6, b7, b8, b9, b10⟩ := lt_at (bz_get Q2.out.x (k := kl) (o := ltR l) (by simp)).2
        go_wp2_with fail
        refine wp_region_noPanic ?_
        refine wp_region_held_drew (S := (fun w' => w'.cell? ⟨kl, 0, none⟩ = some (.int .i64 l.k) ∧ w'.cell? ⟨kl, 1, none⟩ = some (.int .i64 l.a) ∧ w'.cell? ⟨kl, 2, none⟩ = some (.int .i64 l.b) ∧ w'.cell? ⟨kl, 3, none⟩ = some (.int .i64 l.q) ∧ w'.cell? ⟨kl, 4, none⟩ = some (.int .i64 l.s) ∧ w'.cell? ⟨kl, 5, none⟩ = some (.int .i64 l.w) ∧ w'.cell? ⟨kl, 6, none⟩ = some (.bool l.r) ∧ w'.cell? ⟨kl, 7, none⟩ = some (.int .i64 l.n) ∧ w'.cell? ⟨kl, 8, none⟩ = some (.bool l.o) ∧ w'.cell? ⟨kl, 9, none⟩ = some (.bool l.h) ∧ w'.cell? ⟨kl, 10, none⟩ = some (.int .i64 l.d) ∧ w'.cell? ⟨p, 0, none⟩ = some (.int .i64 c.n) ∧ w'.cell? ⟨p, 1, none⟩ = some (.int .i64 c.bl) ∧ w'.cell? ⟨p, 2, none⟩ = some (.int .i64 c.tt) ∧ w'.cell? ⟨p, 3, none⟩ = some (.int .i64 c.cs) ∧ w'.cell? ⟨p, 4, none⟩ = some (.int .i64 c.cy) ∧ w'.cell? ⟨p, 5, none⟩ = some (.int .i64 c.cc) ∧ w'.cell? ⟨p, 6, none⟩ = some (.int .i64 c.cu) ∧ w'.cell? ⟨p, 7, none⟩ = some (.int .i64 c.ct) ∧ w'.cell? ⟨p, 8, none⟩ = some (.int .i64 c.cp))) (by kernel_rfl) ?_ (fun hHeld => ?_)
        · exact ⟨b0, b1, b2, b3, b4, b5, b6, b7, b8, b9, b10, A2.c0, A2.c1, A2.c2, A2.c3, A2.c4, A2.c5, A2.c6, A2.c7, A2.c8⟩
        clear A2 b0 b1 b2 b3 b4 b5 b6 b7 b8 b9 b10
        refine hTk 0 17 hHeld ?_
        refine hTk 1 18 hHeld ?_
        refine hTk 2 19 hHeld ?_
        refine hTk 3 20 hHeld ?_
        refine hTk 4 21 hHeld ?_
        refine hTk 5 22 hHeld ?_
        refine hTk 6 23 hHeld ?_
        refine hTk 7 24 hHeld ?_
        refine hTk 8 25 hHeld ?_
        refine hTk 9 26 hHeld ?_
        refine hVl 10 27 (.bool false) hHeld (fun wz hSw => ?_) ?_
        · try dsimp only at hSw
          go_simp
        refine hTk 11 28 hHeld ?_
        refine hTk 12 29 hHeld ?_
        refine hTk 13 30 hHeld ?_
        refine hTk 14 31 hHeld ?_
        refine hTk 15 32 hHeld ?_
        refine hTk 16 33 hHeld ?_
        refine hTk 17 34 hHeld ?_
        refine hNo 18 fun K hK => ?_
        go_simp
        go_at_call 29
        refine (check_c c.n c.bl c.tt c.cs c.cy c.cc c.cu c.ct c.cp l.k l.a l.b l.q l.s l.w l.r l.n l.o l.h l.d _ (hide (hT2.out.step (Step.of_below (F := fun _ => False) (belowN (Below.refl _ _) 1)) (fun h => h))) z hz).mono ?_
        rintro e w3 ⟨rfl, hb3⟩
        have Q3 : Hid (Ah w w3 p B Ft Ft c N D [(kd, dwR d0 d1 d2), (kl, ltR l)]) := hide (Q2.out.below (((Below.refl _ _).drew).trans hb3))
        have A3 := Q3.out.n.at'
        obtain ⟨b0, b1, b2, b3, b4, b5, b6, b7, b8, b9, b10⟩ := lt_at (bz_get Q3.out.x (k := kl) (o := ltR l) (by simp)).2
        refine hK.out _ _ ?_ fun hHeld => ?_
        · exact ⟨b0, b1, b2, b3, b4, b5, b6, b7, b8, b9, b10, A3.c0, A3.c1, A3.c2, A3.c3, A3.c4, A3.c5, A3.c6, A3.c7, A3.c8⟩
        clear hK K
        try simp only [Act.put, za, zb, zc]
        clear A3 hb3 hT2 Q2
        refine hVl 19 36 (.bool true) hHeld (fun wz hSw => ?_) ?_
        · try dsimp only at hSw
          go_simp
        refine hTk 20 37 hHeld ?_
        refine wpAnyH_done (by kernel_rfl) (NoPanic.normal ?_) _
        clear hHeld
        go_wp2_with fail
        go_ret
        obtain ⟨q1, q2, q3, q4⟩ := Q3.out.x (kl, ltR l) (by simp)
        exact ⟨_, rfl, Ft, kl, hut_fin ((Q3.out.below (Below.refl _ _)).step ((Q3.out.below (Below.refl _ _)).n.mono (Nat.le_succ N)) (Step.refl _ _)) (own_nilT q2) q1 q3⟩
    · obtain ⟨f1, f2, f3⟩ := cmpF eb
      have htk : htOk c l = false := by unfold htOk; simp [f1]
      obtain rfl : [] = L := by rw [← hL']; unfold htL; rw [htk]; rfl
      have hD2 : nxHT c D l d0 d1 = D := by unfold nxHT; rw [htk]; rfl
      rw [hD2]
      replace eb := hide eb
      clear h
      replace k2 := hide k2
      go_enter Tryd.func13, Tryd.ntmps13
      go_upto_region 1 with fail
      refine name_world ?_
      intro V hV
      have Q1 : Hid (Ah w V p B Ft Ft c N D [(w.heap.size + 1, dwR d0 d1 d2), (w.heap.size, ltR l)]) := by rw [← hV]; exact hide (ah_box hH.out l d0 d1 d2)
      obtain ⟨kd, hde⟩ : ∃ kd, Hid (w.heap.size + 1 = kd) := ⟨_, rfl⟩
      obtain ⟨kl, hle⟩ : ∃ kl, Hid (w.heap.size = kl) := ⟨_, rfl⟩
      rw [hde.out, hle.out] at Q1
      rw [hde.out, hle.out]
      clear hV
      have b0 := (lt_at (bz_get Q1.out.x (k := kl) (o := ltR l) (by simp)).2).c0
      go_wp2_with fail
      refine wp_region_noPanic ?_
      refine wp_region_held_drew (S := (fun w' => w'.cell? ⟨kl, 0, none⟩ = some (.int .i64 l.k))) (by kernel_rfl) ?_ (fun hHeld => ?_)
      · exact b0
      refine hTk 0 10 hHeld ?_
      refine hTk 2 12 hHeld ?_
      refine hTk 3 13 hHeld ?_
      refine hNo 1 fun K hK => ?_
      go_simp
      go_at_call 28
      refine (hmDoers_c p _).mono ?_
      rintro e w2 ⟨m, rfl, hm, hb2⟩
      have hBw2 : Below V.heap.size V w2 := ((Below.refl _ _).drew).trans hb2
      have Q2 := hide (Q1.out.below hBw2)
      have hT2 : Hid (Tab w2) := hide (hT.out.step Q2.out.s hlo0.out)
      have lk := hm.lookOk (t := tDH) Tryd.underlying70 zeroFH hlk true (by simp [k2.out]) w2 rfl
      rw [show dH p l.k = mvH 54 p by simp [dH, updV, k2.out]] at lk
      dsimp only [tDH, mvH] at lk
      clear hb2 hBw2 Q1 b0
      have b0 := (lt_at (bz_get Q2.out.x (k := kl) (o := ltR l) (by simp)).2).c0
      refine hK.out _ _ ?_ fun hHeld => ?_
      · exact b0
      clear hK K
      try simp only [Act.put, za, zb, zc]
      refine hNo 4 fun K hK => ?_
      go_simp
      refine hK.out _ _ ?_ fun hHeld => ?_
      · exact b0
      clear hK K
      try simp only [Act.put, za, zb, zc]
      clear lk hm b0
      refine hTk 5 9 hHeld ?_
      refine hTk 6 15 hHeld ?_
      refine hTk 7 16 hHeld ?_
      refine hTk 8 7 hHeld ?_
      refine hTk 9 8 hHeld ?_
      refine wpAnyH_done (by kernel_rfl) (NoPanic.normal ?_) _
      clear hHeld
      go_wp2_with fail
      go_wp2_with fail
      refine wp_region_noPanic ?_
      refine wp_region_held_drew (S := (fun w' => w'.cell? ⟨kl, 2, none⟩ = some (.int .i64 l.b) ∧ w'.cell? ⟨p, 0, none⟩ = some (.int .i64 c.n))) (by kernel_rfl) ?_ (fun hHeld => ?_)
      · exact ⟨(lt_at (bz_get Q2.out.x (k := kl) (o := ltR l) (by simp)).2).c2, Q2.out.n.at'.c0⟩
      refine hTk 0 17 hHeld ?_
      refine hTk 1 18 hHeld ?_
      refine hTk 2 19 hHeld ?_
      refine hTk 3 20 hHeld ?_
      refine hTk 4 21 hHeld ?_
      refine hTk 5 22 hHeld ?_
      refine hTk 6 23 hHeld ?_
      refine hTk 7 24 hHeld ?_
      refine hTk 8 25 hHeld ?_
      refine hTk 9 26 hHeld ?_
      refine hVl 10 27 (.bool true) hHeld (fun wz hSw => ?_) ?_
      · try dsimp only at hSw
        go_simp
      refine hTk 11 28 hHeld ?_
      refine hTk 12 29 hHeld ?_
      refine hSk 13 30 hHeld ?_
      refine hSk 14 31 hHeld ?_
      refine hSk 15 32 hHeld ?_
      refine hSk 16 33 hHeld ?_
      refine hSk 17 34 hHeld ?_
      refine hSk 18 35 hHeld ?_
      refine hSk 19 36 hHeld ?_
      refine hTk 20 37 hHeld ?_
      refine wpAnyH_done (by kernel_rfl) (NoPanic.normal ?_) _
      clear hHeld
      go_wp2_with fail
      go_ret
      obtain ⟨q1, q2, q3, q4⟩ := Q2.out.x (kl, ltR l) (by simp)
      exact ⟨_, rfl, Ft, kl, hut_fin ((Q2.out.below (belowN (Below.refl _ _) 1)).step ((Q2.out.below (belowN (Below.refl _ _) 1)).n.mono (Nat.le_succ N)) (Step.refl _ _)) (own_nilT q2) q1 q3⟩
  by_cases k3 : l.k = 3
  · skip
    by_cases eb : l.b = c.n
    · obtain ⟨f1, f2, f3⟩ := cmpT eb
      replace eb := hide eb
      by_cases ez : z = 0
      · obtain ⟨h1, h2, h3⟩ := cmpT ez
        have hle0 : lerr c l = 0 := by rw [← hz.out] at ez; exact ez
        have htk : htOk c l = true := by unfold htOk; rw [hle0]; simp [f1]
        have hLk : Hid (hPerL c D l = L) := hide (by rw [← hL']; unfold htL; rw [htk, if_pos rfl, if_neg k1, if_neg k2, if_pos k3]); have hDk : nxHT c D l d0 d1 = nxHPer c D l := by unfold nxHT; rw [htk, if_pos rfl, if_neg k1, if_neg k2, if_pos k3]
        replace ez := hide ez
        clear h
        replace k3 := hide k3
        go_enter Tryd.func13, Tryd.ntmps13
        go_upto_region 1 with fail
        refine name_world ?_
        intro V hV
        have Q1 : Hid (Ah w V p B Ft Ft c N D [(w.heap.size + 1, dwR d0 d1 d2), (w.heap.size, ltR l)]) := by rw [← hV]; exact hide (ah_box hH.out l d0 d1 d2)
        obtain ⟨kd, hde⟩ : ∃ kd, Hid (w.heap.size + 1 = kd) := ⟨_, rfl⟩
        obtain ⟨kl, hle⟩ : ∃ kl, Hid (w.heap.size = kl) := ⟨_, rfl⟩
        rw [hde.out, hle.out] at Q1
        rw [hde.out, hle.out]
        clear hV
        have b0 := (lt_at (bz_get Q1.out.x (k := kl) (o := ltR l) (by simp)).2).c0
        go_wp2_with fail
        refine wp_region_noPanic ?_
        refine wp_region_held_drew (S := (fun w' => w'.cell? ⟨kl, 0, none⟩ = some (.int .i64 l.k))) (by kernel_rfl) ?_ (fun hHeld => ?_)
        · exact b0
        refine hTk 0 10 hHeld ?_
        refine hTk 2 12 hHeld ?_
        refine hTk 3 13 hHeld ?_
        refine hNo 1 fun K hK => ?_
        go_simp
        go_at_call 28
        refine (hmDoers_c p _).mono ?_
        rintro e w2 ⟨m, rfl, hm, hb2⟩
        have hBw2 : Below V.heap.size V w2 := ((Below.refl _ _).drew).trans hb2
        have Q2 := hide (Q1.out.below hBw2)
        have hT2 : Hid (Tab w2) := hide (hT.out.step Q2.out.s hlo0.out)
        have lk := hm.lookOk (t := tDH) Tryd.underlying70 zeroFH hlk true (by simp [k3.out]) w2 rfl
        rw [show dH p l.k = mvH 55 p by simp [dH, updV, k3.out]] at lk
        dsimp only [tDH, mvH] at lk
        clear hb2 hBw2 Q1 b0
        have b0 := (lt_at (bz_get Q2.out.x (k := kl) (o := ltR l) (by simp)).2).c0
        refine hK.out _ _ ?_ fun hHeld => ?_
        · exact b0
        clear hK K
        try simp only [Act.put, za, zb, zc]
        refine hNo 4 fun K hK => ?_
        go_simp
        refine hK.out _ _ ?_ fun hHeld => ?_
        · exact b0
        clear hK K
        try simp only [Act.put, za, zb, zc]
        clear lk hm b0
        refine hTk 5 9 hHeld ?_
        refine hTk 6 15 hHeld ?_
        refine hTk 7 16 hHeld ?_
        refine hTk 8 7 hHeld ?_
        refine hTk 9 8 hHeld ?_
        refine wpAnyH_done (by kernel_rfl) (NoPanic.normal ?_) _
        clear hHeld
        go_wp2_with fail
        have A2 := Q2.out.n.at'
        obtain ⟨b0, b1, b2, b3, b4, b5, b6, b7, b8, b9, b10⟩ := lt_at (bz_get Q2.out.x (k := kl) (o := ltR l) (by simp)).2
        go_wp2_with fail
        refine wp_region_noPanic ?_
        refine wp_region_held_drew (S := (fun w' => w'.cell? ⟨kl, 0, none⟩ = some (.int .i64 l.k) ∧ w'.cell? ⟨kl, 1, none⟩ = some (.int .i64 l.a) ∧ w'.cell? ⟨kl, 2, none⟩ = some (.int .i64 l.b) ∧ w'.cell? ⟨kl, 3, none⟩ = some (.int .i64 l.q) ∧ w'.cell? ⟨kl, 4, none⟩ = some (.int .i64 l.s) ∧ w'.cell? ⟨kl, 5, none⟩ = some (.int .i64 l.w) ∧ w'.cell? ⟨kl, 6, none⟩ = some (.bool l.r) ∧ w'.cell? ⟨kl, 7, none⟩ = some (.int .i64 l.n) ∧ w'.cell? ⟨kl, 8, none⟩ = some (.bool l.o) ∧ w'.cell? ⟨kl, 9, none⟩ = some (.bool l.h) ∧ w'.cell? ⟨kl, 10, none⟩ = some (.int .i64 l.d) ∧ w'.cell? ⟨p, 0, none⟩ = some (.int .i64 c.n) ∧ w'.cell? ⟨p, 1, none⟩ = some (.int .i64 c.bl) ∧ w'.cell? ⟨p, 2, none⟩ = some (.int .i64 c.tt) ∧ w'.cell? ⟨p, 3, none⟩ = some (.int .i64 c.cs) ∧ w'.cell? ⟨p, 4, none⟩ = some (.int .i64 c.cy) ∧ w'.cell? ⟨p, 5, none⟩ = some (.int .i64 c.cc) ∧ w'.cell? ⟨p, 6, none⟩ = some (.int .i64 c.cu) ∧ w'.cell? ⟨p, 7, none⟩ = some (.int .i64 c.ct) ∧ w'.cell? ⟨p, 8, none⟩ = some (.int .i64 c.cp))) (by kernel_rfl) ?_ (fun hHeld => ?_)
        · exact ⟨b0, b1, b2, b3, b4, b5, b6, b7, b8, b9, b10, A2.c0, A2.c1, A2.c2, A2.c3, A2.c4, A2.c5, A2.c6, A2.c7, A2.c8⟩
        clear A2 b0 b1 b2 b3 b4 b5 b6 b7 b8 b9 b10
        refine hTk 0 17 hHeld ?_
        refine hTk 1 18 hHeld ?_
        refine hTk 2 19 hHeld ?_
        refine hTk 3 20 hHeld ?_
        refine hTk 4 21 hHeld ?_
        refine hTk 5 22 hHeld ?_
        refine hTk 6 23 hHeld ?_
        refine hTk 7 24 hHeld ?_
        refine hTk 8 25 hHeld ?_
        refine hTk 9 26 hHeld ?_
        refine hVl 10 27 (.bool false) hHeld (fun wz hSw => ?_) ?_
        · try dsimp only at hSw
          go_simp
        refine hTk 11 28 hHeld ?_
        refine hTk 12 29 hHeld ?_
        refine hTk 13 30 hHeld ?_
        refine hTk 14 31 hHeld ?_
        refine hTk 15 32 hHeld ?_
        refine hTk 16 33 hHeld ?_
        refine hTk 17 34 hHeld ?_
        refine hNo 18 fun K hK => ?_
        go_simp
        go_at_call 29
        refine (check_c c.n c.bl c.tt c.cs c.cy c.cc c.cu c.ct c.cp l.k l.a l.b l.q l.s l.w l.r l.n l.o l.h l.d _ (hide (hT2.out.step (Step.of_below (F := fun _ => False) (belowN (Below.refl _ _) 1)) (fun h => h))) z hz).mono ?_
        rintro e w3 ⟨rfl, hb3⟩
        have Q3 : Hid (Ah w w3 p B Ft Ft c N D [(kd, dwR d0 d1 d2), (kl, ltR l)]) := hide (Q2.out.below (((Below.refl _ _).drew).trans hb3))
        have A3 := Q3.out.n.at'
        obtain ⟨b0, b1, b2, b3, b4, b5, b6, b7, b8, b9, b10⟩ := lt_at (bz_get Q3.out.x (k := kl) (o := ltR l) (by simp)).2
        refine hK.out _ _ ?_ fun hHeld => ?_
        · exact ⟨b0, b1, b2, b3, b4, b5, b6, b7, b8, b9, b10, A3.c0, A3.c1, A3.c2, A3.c3, A3.c4, A3.c5, A3.c6, A3.c7, A3.c8⟩
        clear hK K
        try simp only [Act.put, za, zb, zc]
        clear A3 hb3 hT2 Q2
        refine hVl 19 36 (.bool false) hHeld (fun wz hSw => ?_) ?_
        · try dsimp only at hSw
          go_simp
        refine hTk 20 37 hHeld ?_
        refine wpAnyH_done (by kernel_rfl) (NoPanic.normal ?_) _
        clear hHeld
        obtain ⟨d0e, d1e, d2e⟩ : w3.cell? ⟨kd, 0, none⟩ = some (.int .i64 d0) ∧ w3.cell? ⟨kd, 1, none⟩ = some (.int .i64 d1) ∧ w3.cell? ⟨kd, 2, none⟩ = some (.int .i64 d2) := ⟨cell_of_row _ _ _ _ _ _ (bz_get Q3.out.x (k := kd) (o := dwR d0 d1 d2) (by simp)).2, cell_of_row _ _ _ _ _ _ (bz_get Q3.out.x (k := kd) (o := dwR d0 d1 d2) (by simp)).2, cell_of_row _ _ _ _ _ _ (bz_get Q3.out.x (k := kd) (o := dwR d0 d1 d2) (by simp)).2⟩
        have hl3 := (bz_get Q3.out.x (k := kl) (o := ltR l) (by simp)).1
        have hd3 := (bz_get Q3.out.x (k := kd) (o := dwR d0 d1 d2) (by simp)).1
        go_wp2_with (go_at_call 55; refine (hmPer_c p B Ft c N D l d0 d1 d2 _ Q3.out.n hN1 L hLk).mono ?_; rintro e w5 ⟨v1, rfl, Ft7, g1, hO⟩; have Q5 := hide (Q3.out.step hO.nd hO.st); replace hO := hide hO)
        go_ret
        rw [hDk]
        exact ⟨_, rfl, Ft7, g1, hut_fin Q5.out hO.out.own (Nat.le_trans Q3.out.s.fr.size hO.out.new) hO.out.nf⟩
      · obtain ⟨h1, h2, h3⟩ := cmpF ez
        have htk : htOk c l = false := by unfold htOk; rw [show lerr c l = z from hz.out]; simp [h1]
        obtain rfl : [] = L := by rw [← hL']; unfold htL; rw [htk]; rfl
        have hD2 : nxHT c D l d0 d1 = D := by unfold nxHT; rw [htk]; rfl
        rw [hD2]
        replace ez := hide ez
        clear h
        replace k3 := hide k3
        go_enter Tryd.func13, Tryd.ntmps13
        go_upto_region 1 with fail
        refine name_world ?_
        intro V hV
        have Q1 : Hid (Ah w V p B Ft Ft c N D [(w.heap.size + 1, dwR d0 d1 d2), (w.heap.size, ltR l)]) := by rw [← hV]; exact hide (ah_box hH.out l d0 d1 d2)
        obtain ⟨kd, hde⟩ : ∃ kd, Hid (w.heap.size + 1 = kd) := ⟨_, rfl⟩
        obtain ⟨kl, hle⟩ : ∃ kl, Hid (w.heap.size = kl) := ⟨_, rfl⟩
        rw [hde.out, hle.out] at Q1
        rw [hde.out, hle.out]
        clear hV
        have b0 := (lt_at (bz_get Q1.out.x (k := kl) (o := ltR l) (by simp)).2).c0
        go_wp2_with fail
        refine wp_region_noPanic ?_
        refine wp_region_held_drew (S := (fun w' => w'.cell? ⟨kl, 0, none⟩ = some (.int .i64 l.k))) (by kernel_rfl) ?_ (fun hHeld => ?_)
        · exact b0
        refine hTk 0 10 hHeld ?_
        refine hTk 2 12 hHeld ?_
        refine hTk 3 13 hHeld ?_
        refine hNo 1 fun K hK => ?_
        go_simp
        go_at_call 28
        refine (hmDoers_c p _).mono ?_
        rintro e w2 ⟨m, rfl, hm, hb2⟩
        have hBw2 : Below V.heap.size V w2 := ((Below.refl _ _).drew).trans hb2
        have Q2 := hide (Q1.out.below hBw2)
        have hT2 : Hid (Tab w2) := hide (hT.out.step Q2.out.s hlo0.out)
        have lk := hm.lookOk (t := tDH) Tryd.underlying70 zeroFH hlk true (by simp [k3.out]) w2 rfl
        rw [show dH p l.k = mvH 55 p by simp [dH, updV, k3.out]] at lk
        dsimp only [tDH, mvH] at lk
        clear hb2 hBw2 Q1 b0
        have b0 := (lt_at (bz_get Q2.out.x (k := kl) (o := ltR l) (by simp)).2).c0
        refine hK.out _ _ ?_ fun hHeld => ?_
        · exact b0
        clear hK K
        try simp only [Act.put, za, zb, zc]
        refine hNo 4 fun K hK => ?_
        go_simp
        refine hK.out _ _ ?_ fun hHeld => ?_
        · exact b0
        clear hK K
        try simp only [Act.put, za, zb, zc]
        clear lk hm b0
        refine hTk 5 9 hHeld ?_
        refine hTk 6 15 hHeld ?_
        refine hTk 7 16 hHeld ?_
        refine hTk 8 7 hHeld ?_
        refine hTk 9 8 hHeld ?_
        refine wpAnyH_done (by kernel_rfl) (NoPanic.normal ?_) _
        clear hHeld
        go_wp2_with fail
        have A2 := Q2.out.n.at'
        obtain ⟨b0, b1, b2, b3, b4, b5, b6, b7, b8, b9, b10⟩ := lt_at (bz_get Q2.out.x (k := kl) (o := ltR l) (by simp)).2
        go_wp2_with fail
        refine wp_region_noPanic ?_
        refine wp_region_held_drew (S := (fun w' => w'.cell? ⟨kl, 0, none⟩ = some (.int .i64 l.k) ∧ w'.cell? ⟨kl, 1, none⟩ = some (.int .i64 l.a) ∧ w'.cell? ⟨kl, 2, none⟩ = some (.int .i64 l.b) ∧ w'.cell? ⟨kl, 3, none⟩ = some (.int .i64 l.q) ∧ w'.cell? ⟨kl, 4, none⟩ = some (.int .i64 l.s) ∧ w'.cell? ⟨kl, 5, none⟩ = some (.int .i64 l.w) ∧ w'.cell? ⟨kl, 6, none⟩ = some (.bool l.r) ∧ w'.cell? ⟨kl, 7, none⟩ = some (.int .i64 l.n) ∧ w'.cell? ⟨kl, 8, none⟩ = some (.bool l.o) ∧ w'.cell? ⟨kl, 9, none⟩ = some (.bool l.h) ∧ w'.cell? ⟨kl, 10, none⟩ = some (.int .i64 l.d) ∧ w'.cell? ⟨p, 0, none⟩ = some (.int .i64 c.n) ∧ w'.cell? ⟨p, 1, none⟩ = some (.int .i64 c.bl) ∧ w'.cell? ⟨p, 2, none⟩ = some (.int .i64 c.tt) ∧ w'.cell? ⟨p, 3, none⟩ = some (.int .i64 c.cs) ∧ w'.cell? ⟨p, 4, none⟩ = some (.int .i64 c.cy) ∧ w'.cell? ⟨p, 5, none⟩ = some (.int .i64 c.cc) ∧ w'.cell? ⟨p, 6, none⟩ = some (.int .i64 c.cu) ∧ w'.cell? ⟨p, 7, none⟩ = some (.int .i64 c.ct) ∧ w'.cell? ⟨p, 8, none⟩ = some (.int .i64 c.cp))) (by kernel_rfl) ?_ (fun hHeld => ?_)
        · exact ⟨b0, b1, b2, b3, b4, b5, b6, b7, b8, b9, b10, A2.c0, A2.c1, A2.c2, A2.c3, A2.c4, A2.c5, A2.c6, A2.c7, A2.c8⟩
        clear A2 b0 b1 b2 b3 b4 b5 b6 b7 b8 b9 b10
        refine hTk 0 17 hHeld ?_
        refine hTk 1 18 hHeld ?_
        refine hTk 2 19 hHeld ?_
        refine hTk 3 20 hHeld ?_
        refine hTk 4 21 hHeld ?_
        refine hTk 5 22 hHeld ?_
        refine hTk 6 23 hHeld ?_
        refine hTk 7 24 hHeld ?_
        refine hTk 8 25 hHeld ?_
        refine hTk 9 26 hHeld ?_
        refine hVl 10 27 (.bool false) hHeld (fun wz hSw => ?_) ?_
        · try dsimp only at hSw
          go_simp
        refine hTk 11 28 hHeld ?_
        refine hTk 12 29 hHeld ?_
        refine hTk 13 30 hHeld ?_
        refine hTk 14 31 hHeld ?_
        refine hTk 15 32 hHeld ?_
        refine hTk 16 33 hHeld ?_
        refine hTk 17 34 hHeld ?_
        refine hNo 18 fun K hK => ?_
        go_simp
        go_at_call 29
        refine (check_c c.n c.bl c.tt c.cs c.cy c.cc c.cu c.ct c.cp l.k l.a l.b l.q l.s l.w l.r l.n l.o l.h l.d _ (hide (hT2.out.step (Step.of_below (F := fun _ => False) (belowN (Below.refl _ _) 1)) (fun h => h))) z hz).mono ?_
        rintro e w3 ⟨rfl, hb3⟩
        have Q3 : Hid (Ah w w3 p B Ft Ft c N D [(kd, dwR d0 d1 d2), (kl, ltR l)]) := hide (Q2.out.below (((Below.refl _ _).drew).trans hb3))
        have A3 := Q3.out.n.at'
        obtain ⟨b0, b1, b2, b3, b4, b5, b6, b7, b8, b9, b10⟩ := lt_at (bz_get Q3.out.x (k := kl) (o := ltR l) (by simp)).2
        refine hK.out _ _ ?_ fun hHeld => ?_
        · exact ⟨b0, b1, b2, b3, b4, b5, b6, b7, b8, b9, b10, A3.c0, A3.c1, A3.c2, A3.c3, A3.c4, A3.c5, A3.c6, A3.c7, A3.c8⟩
        clear hK K
        try simp only [Act.put, za, zb, zc]
        clear A3 hb3 hT2 Q2
        refine hVl 19 36 (.bool true) hHeld (fun wz hSw => ?_) ?_
        · try dsimp only at hSw
          go_simp
        refine hTk 20 37 hHeld ?_
        refine wpAnyH_done (by kernel_rfl) (NoPanic.normal ?_) _
        clear hHeld
        go_wp2_with fail
        go_ret
        obtain ⟨q1, q2, q3, q4⟩ := Q3.out.x (kl, ltR l) (by simp)
        exact ⟨_, rfl, Ft, kl, hut_fin ((Q3.out.below (Below.refl _ _)).step ((Q3.out.below (Below.refl _ _)).n.mono (Nat.le_succ N)) (Step.refl _ _)) (own_nilT q2) q1 q3⟩
    · obtain ⟨f1, f2, f3⟩ := cmpF eb
      have htk : htOk c l = false := by unfold htOk; simp [f1]
      obtain rfl : [] = L := by rw [← hL']; unfold htL; rw [htk]; rfl
      have hD2 : nxHT c D l d0 d1 = D := by unfold nxHT; rw [htk]; rfl
      rw [hD2]
      replace eb := hide eb
      clear h
      replace k3 := hide k3
      go_enter Tryd.func13, Tryd.ntmps13
      go_upto_region 1 with fail
      refine name_world ?_
      intro V hV
      have Q1 : Hid (Ah w V p B Ft Ft c N D [(w.heap.size + 1, dwR d0 d1 d2), (w.heap.size, ltR l)]) := by rw [← hV]; exact hide (ah_box hH.out l d0 d1 d2)
      obtain ⟨kd, hde⟩ : ∃ kd, Hid (w.heap.size + 1 = kd) := ⟨_, rfl⟩
      obtain ⟨kl, hle⟩ : ∃ kl, Hid (w.heap.size = kl) := ⟨_, rfl⟩
      rw [hde.out, hle.out] at Q1
      rw [hde.out, hle.out]
      clear hV
      have b0 := (lt_at (bz_get Q1.out.x (k := kl) (o := ltR l) (by simp)).2).c0
      go_wp2_with fail
      refine wp_region_noPanic ?_
      refine wp_region_held_drew (S := (fun w' => w'.cell? ⟨kl, 0, none⟩ = some (.int .i64 l.k))) (by kernel_rfl) ?_ (fun hHeld => ?_)
      · exact b0
      refine hTk 0 10 hHeld ?_
      refine hTk 2 12 hHeld ?_
      refine hTk 3 13 hHeld ?_
      refine hNo 1 fun K hK => ?_
      go_simp
      go_at_call 28
      refine (hmDoers_c p _).mono ?_
      rintro e w2 ⟨m, rfl, hm, hb2⟩
      have hBw2 : Below V.heap.size V w2 := ((Below.refl _ _).drew).trans hb2
      have Q2 := hide (Q1.out.below hBw2)
      have hT2 : Hid (Tab w2) := hide (hT.out.step Q2.out.s hlo0.out)
      have lk := hm.lookOk (t := tDH) Tryd.underlying70 zeroFH hlk true (by simp [k3.out]) w2 rfl
      rw [show dH p l.k = mvH 55 p by simp [dH, updV, k3.out]] at lk
      dsimp only [tDH, mvH] at lk
      clear hb2 hBw2 Q1 b0
      have b0 := (lt_at (bz_get Q2.out.x (k := kl) (o := ltR l) (by simp)).2).c0
      refine hK.out _ _ ?_ fun hHeld => ?_
      · exact b0
      clear hK K
      try simp only [Act.put, za, zb, zc]
      refine hNo 4 fun K hK => ?_
      go_simp
      refine hK.out _ _ ?_ fun hHeld => ?_
      · exact b0
      clear hK K
      try simp only [Act.put, za, zb, zc]
      clear lk hm b0
      refine hTk 5 9 hHeld ?_
      refine hTk 6 15 hHeld ?_
      refine hTk 7 16 hHeld ?_
      refine hTk 8 7 hHeld ?_
      refine hTk 9 8 hHeld ?_
      refine wpAnyH_done (by kernel_rfl) (NoPanic.normal ?_) _
      clear hHeld
      go_wp2_with fail
      go_wp2_with fail
      refine wp_region_noPanic ?_
      refine wp_region_held_drew (S := (fun w' => w'.cell? ⟨kl, 2, none⟩ = some (.int .i64 l.b) ∧ w'.cell? ⟨p, 0, none⟩ = some (.int .i64 c.n))) (by kernel_rfl) ?_ (fun hHeld => ?_)
      · exact ⟨(lt_at (bz_get Q2.out.x (k := kl) (o := ltR l) (by simp)).2).c2, Q2.out.n.at'.c0⟩
      refine hTk 0 17 hHeld ?_
      refine hTk 1 18 hHeld ?_
      refine hTk 2 19 hHeld ?_
      refine hTk 3 20 hHeld ?_
      refine hTk 4 21 hHeld ?_
      refine hTk 5 22 hHeld ?_
      refine hTk 6 23 hHeld ?_
      refine hTk 7 24 hHeld ?_
      refine hTk 8 25 hHeld ?_
      refine hTk 9 26 hHeld ?_
      refine hVl 10 27 (.bool true) hHeld (fun wz hSw => ?_) ?_
      · try dsimp only at hSw
        go_simp
      refine hTk 11 28 hHeld ?_
      refine hTk 12 29 hHeld ?_
      refine hSk 13 30 hHeld ?_
      refine hSk 14 31 hHeld ?_
      refine hSk 15 32 hHeld ?_
      refine hSk 16 33 hHeld ?_
      refine hSk 17 34 hHeld ?_
      refine hSk 18 35 hHeld ?_
      refine hSk 19 36 hHeld ?_
      refine hTk 20 37 hHeld ?_
      refine wpAnyH_done (by kernel_rfl) (NoPanic.normal ?_) _
      clear hHeld
      go_wp2_with fail
      go_ret
      obtain ⟨q1, q2, q3, q4⟩ := Q2.out.x (kl, ltR l) (by simp)
      exact ⟨_, rfl, Ft, kl, hut_fin ((Q2.out.below (belowN (Below.refl _ _) 1)).step ((Q2.out.below (belowN (Below.refl _ _) 1)).n.mono (Nat.le_succ N)) (Step.refl _ _)) (own_nilT q2) q1 q3⟩
  by_cases k5 : l.k = 5
  · skip
    by_cases eb : l.b = c.n
    · obtain ⟨f1, f2, f3⟩ := cmpT eb
      replace eb := hide eb
      by_cases ez : z = 0
      · obtain ⟨h1, h2, h3⟩ := cmpT ez
        have hle0 : lerr c l = 0 := by rw [← hz.out] at ez; exact ez
        have htk : htOk c l = true := by unfold htOk; rw [hle0]; simp [f1]
        have hLk : Hid (hDoneL c D l = L) := hide (by rw [← hL']; unfold htL; rw [htk, if_pos rfl, if_neg k1, if_neg k2, if_neg k3, if_pos k5]); have hDk : nxHT c D l d0 d1 = nxHDone D l := by unfold nxHT; rw [htk, if_pos rfl, if_neg k1, if_neg k2, if_neg k3, if_pos k5]
        replace ez := hide ez
        clear h
        replace k5 := hide k5
        go_enter Tryd.func13, Tryd.ntmps13
        go_upto_region 1 with fail
        refine name_world ?_
        intro V hV
        have Q1 : Hid (Ah w V p B Ft Ft c N D [(w.heap.size + 1, dwR d0 d1 d2), (w.heap.size, ltR l)]) := by rw [← hV]; exact hide (ah_box hH.out l d0 d1 d2)
        obtain ⟨kd, hde⟩ : ∃ kd, Hid (w.heap.size + 1 = kd) := ⟨_, rfl⟩
        obtain ⟨kl, hle⟩ : ∃ kl, Hid (w.heap.size = kl) := ⟨_, rfl⟩
        rw [hde.out, hle.out] at Q1
        rw [hde.out, hle.out]
        clear hV
        have b0 := (lt_at (bz_get Q1.out.x (k := kl) (o := ltR l) (by simp)).2).c0
        go_wp2_with fail
        refine wp_region_noPanic ?_
        refine wp_region_held_drew (S := (fun w' => w'.cell? ⟨kl, 0, none⟩ = some (.int .i64 l.k))) (by kernel_rfl) ?_ (fun hHeld => ?_)
        · exact b0
        refine hTk 0 10 hHeld ?_
        refine hTk 2 12 hHeld ?_
        refine hTk 3 13 hHeld ?_
        refine hNo 1 fun K hK => ?_
        go_simp
        go_at_call 28
        refine (hmDoers_c p _).mono ?_
        rintro e w2 ⟨m, rfl, hm, hb2⟩
        have hBw2 : Below V.heap.size V w2 := ((Below.refl _ _).drew).trans hb2
        have Q2 := hide (Q1.out.below hBw2)
        have hT2 : Hid (Tab w2) := hide (hT.out.step Q2.out.s hlo0.out)
        have lk := hm.lookOk (t := tDH) Tryd.underlying70 zeroFH hlk true (by simp [k5.out]) w2 rfl
        rw [show dH p l.k = mvH 56 p by simp [dH, updV, k5.out]] at lk
        dsimp only [tDH, mvH] at lk
        clear hb2 hBw2 Q1 b0
        have b0 := (lt_at (bz_get Q2.out.x (k := kl) (o := ltR l) (by simp)).2).c0
        refine hK.out _ _ ?_ fun hHeld => ?_
        · exact b0
        clear hK K
        try simp only [Act.put, za, zb, zc]
        refine hNo 4 fun K hK => ?_
        go_simp
        refine hK.out _ _ ?_ fun hHeld => ?_
        · exact b0
        clear hK K
        try simp only [Act.put, za, zb, zc]
        clear lk hm b0
        refine hTk 5 9 hHeld ?_
        refine hTk 6 15 hHeld ?_
        refine hTk 7 16 hHeld ?_
        refine hTk 8 7 hHeld ?_
        refine hTk 9 8 hHeld ?_
        refine wpAnyH_done (by kernel_rfl) (NoPanic.normal ?_) _
        clear hHeld
        go_wp2_with fail
        have A2 := Q2.out.n.at'
        obtain ⟨b0, b1, b2, b3, b4, b5, b6, b7, b8, b9, b10⟩ := lt_at (bz_get Q2.out.x (k := kl) (o := ltR l) (by simp)).2
        go_wp2_with fail
        refine wp_region_noPanic ?_
        refine wp_region_held_drew (S := (fun w' => w'.cell? ⟨kl, 0, none⟩ = some (.int .i64 l.k) ∧ w'.cell? ⟨kl, 1, none⟩ = some (.int .i64 l.a) ∧ w'.cell? ⟨kl, 2, none⟩ = some (.int .i64 l.b) ∧ w'.cell? ⟨kl, 3, none⟩ = some (.int .i64 l.q) ∧ w'.cell? ⟨kl, 4, none⟩ = some (.int .i64 l.s) ∧ w'.cell? ⟨kl, 5, none⟩ = some (.int .i64 l.w) ∧ w'.cell? ⟨kl, 6, none⟩ = some (.bool l.r) ∧ w'.cell? ⟨kl, 7, none⟩ = some (.int .i64 l.n) ∧ w'.cell? ⟨kl, 8, none⟩ = some (.bool l.o) ∧ w'.cell? ⟨kl, 9, none⟩ = some (.bool l.h) ∧ w'.cell? ⟨kl, 10, none⟩ = some (.int .i64 l.d) ∧ w'.cell? ⟨p, 0, none⟩ = some (.int .i64 c.n) ∧ w'.cell? ⟨p, 1, none⟩ = some (.int .i64 c.bl) ∧ w'.cell? ⟨p, 2, none⟩ = some (.int .i64 c.tt) ∧ w'.cell? ⟨p, 3, none⟩ = some (.int .i64 c.cs) ∧ w'.cell? ⟨p, 4, none⟩ = some (.int .i64 c.cy) ∧ w'.cell? ⟨p, 5, none⟩ = some (.int .i64 c.cc) ∧ w'.cell? ⟨p, 6, none⟩ = some (.int .i64 c.cu) ∧ w'.cell? ⟨p, 7, none⟩ = some (.int .i64 c.ct) ∧ w'.cell? ⟨p, 8, none⟩ = some (.int .i64 c.cp))) (by kernel_rfl) ?_ (fun hHeld => ?_)
        · exact ⟨b0, b1, b2, b3, b4, b5, b6, b7, b8, b9, b10, A2.c0, A2.c1, A2.c2, A2.c3, A2.c4, A2.c5, A2.c6, A2.c7, A2.c8⟩
        clear A2 b0 b1 b2 b3 b4 b5 b6 b7 b8 b9 b10
        refine hTk 0 17 hHeld ?_
        refine hTk 1 18 hHeld ?_
        refine hTk 2 19 hHeld ?_
        refine hTk 3 20 hHeld ?_
        refine hTk 4 21 hHeld ?_
        refine hTk 5 22 hHeld ?_
        refine hTk 6 23 hHeld ?_
        refine hTk 7 24 hHeld ?_
        refine hTk 8 25 hHeld ?_
        refine hTk 9 26 hHeld ?_
        refine hVl 10 27 (.bool false) hHeld (fun wz hSw => ?_) ?_
        · try dsimp only at hSw
          go_simp
        refine hTk 11 28 hHeld ?_
        refine hTk 12 29 hHeld ?_
        refine hTk 13 30 hHeld ?_
        refine hTk 14 31 hHeld ?_
        refine hTk 15 32 hHeld ?_
        refine hTk 16 33 hHeld ?_
        refine hTk 17 34 hHeld ?_
        refine hNo 18 fun K hK => ?_
        go_simp
        go_at_call 29
        refine (check_c c.n c.bl c.tt c.cs c.cy c.cc c.cu c.ct c.cp l.k l.a l.b l.q l.s l.w l.r l.n l.o l.h l.d _ (hide (hT2.out.step (Step.of_below (F := fun _ => False) (belowN (Below.refl _ _) 1)) (fun h => h))) z hz).mono ?_
        rintro e w3 ⟨rfl, hb3⟩
        have Q3 : Hid (Ah w w3 p B Ft Ft c N D [(kd, dwR d0 d1 d2), (kl, ltR l)]) := hide (Q2.out.below (((Below.refl _ _).drew).trans hb3))
        have A3 := Q3.out.n.at'
        obtain ⟨b0, b1, b2, b3, b4, b5, b6, b7, b8, b9, b10⟩ := lt_at (bz_get Q3.out.x (k := kl) (o := ltR l) (by simp)).2
        refine hK.out _ _ ?_ fun hHeld => ?_
        · exact ⟨b0, b1, b2, b3, b4, b5, b6, b7, b8, b9, b10, A3.c0, A3.c1, A3.c2, A3.c3, A3.c4, A3.c5, A3.c6, A3.c7, A3.c8⟩
        clear hK K
        try simp only [Act.put, za, zb, zc]
        clear A3 hb3 hT2 Q2
        refine hVl 19 36 (.bool false) hHeld (fun wz hSw => ?_) ?_
        · try dsimp only at hSw
          go_simp
        refine hTk 20 37 hHeld ?_
        refine wpAnyH_done (by kernel_rfl) (NoPanic.normal ?_) _
        clear hHeld
        obtain ⟨d0e, d1e, d2e⟩ : w3.cell? ⟨kd, 0, none⟩ = some (.int .i64 d0) ∧ w3.cell? ⟨kd, 1, none⟩ = some (.int .i64 d1) ∧ w3.cell? ⟨kd, 2, none⟩ = some (.int .i64 d2) := ⟨cell_of_row _ _ _ _ _ _ (bz_get Q3.out.x (k := kd) (o := dwR d0 d1 d2) (by simp)).2, cell_of_row _ _ _ _ _ _ (bz_get Q3.out.x (k := kd) (o := dwR d0 d1 d2) (by simp)).2, cell_of_row _ _ _ _ _ _ (bz_get Q3.out.x (k := kd) (o := dwR d0 d1 d2) (by simp)).2⟩
        have hl3 := (bz_get Q3.out.x (k := kl) (o := ltR l) (by simp)).1
        have hd3 := (bz_get Q3.out.x (k := kd) (o := dwR d0 d1 d2) (by simp)).1
        go_wp2_with (go_at_call 56; refine (hmDone_c p B Ft c N D l d0 d1 d2 _ Q3.out.n L hLk).mono ?_; rintro e w5 ⟨v1, rfl, Ft7, g1, hO⟩; have Q5 := hide (Q3.out.step hO.nd hO.st); replace hO := hide hO)
        go_ret
        rw [hDk]
        exact ⟨_, rfl, Ft7, g1, hut_fin Q5.out hO.out.own (Nat.le_trans Q3.out.s.fr.size hO.out.new) hO.out.nf⟩
      · obtain ⟨h1, h2, h3⟩ := cmpF ez
        have htk : htOk c l = false := by unfold htOk; rw [show lerr c l = z from hz.out]; simp [h1]
        obtain rfl : [] = L := by rw [← hL']; unfold htL; rw [htk]; rfl
        have hD2 : nxHT c D l d0 d1 = D := by unfold nxHT; rw [htk]; rfl
        rw [hD2]
        replace ez := hide ez
        clear h
        replace k5 := hide k5
        go_enter Tryd.func13, Tryd.ntmps13
        go_upto_region 1 with fail
        refine name_world ?_
        intro V hV
        have Q1 : Hid (Ah w V p B Ft Ft c N D [(w.heap.size + 1, dwR d0 d1 d2), (w.heap.size, ltR l)]) := by rw [← hV]; exact hide (ah_box hH.out l d0 d1 d2)
        obtain ⟨kd, hde⟩ : ∃ kd, Hid (w.heap.size + 1 = kd) := ⟨_, rfl⟩
        obtain ⟨kl, hle⟩ : ∃ kl, Hid (w.heap.size = kl) := ⟨_, rfl⟩
        rw [hde.out, hle.out] at Q1
        rw [hde.out, hle.out]
        clear hV
        have b0 := (lt_at (bz_get Q1.out.x (k := kl) (o := ltR l) (by simp)).2).c0
        go_wp2_with fail
        refine wp_region_noPanic ?_
        refine wp_region_held_drew (S := (fun w' => w'.cell? ⟨kl, 0, none⟩ = some (.int .i64 l.k))) (by kernel_rfl) ?_ (fun hHeld => ?_)
        · exact b0
        refine hTk 0 10 hHeld ?_
        refine hTk 2 12 hHeld ?_
        refine hTk 3 13 hHeld ?_
        refine hNo 1 fun K hK => ?_
        go_simp
        go_at_call 28
        refine (hmDoers_c p _).mono ?_
        rintro e w2 ⟨m, rfl, hm, hb2⟩
        have hBw2 : Below V.heap.size V w2 := ((Below.refl _ _).drew).trans hb2
        have Q2 := hide (Q1.out.below hBw2)
        have hT2 : Hid (Tab w2) := hide (hT.out.step Q2.out.s hlo0.out)
        have lk := hm.lookOk (t := tDH) Tryd.underlying70 zeroFH hlk true (by simp [k5.out]) w2 rfl
        rw [show dH p l.k = mvH 56 p by simp [dH, updV, k5.out]] at lk
        dsimp only [tDH, mvH] at lk
        clear hb2 hBw2 Q1 b0
        have b0 := (lt_at (bz_get Q2.out.x (k := kl) (o := ltR l) (by simp)).2).c0
        refine hK.out _ _ ?_ fun hHeld => ?_
        · exact b0
        clear hK K
        try simp only [Act.put, za, zb, zc]
        refine hNo 4 fun K hK => ?_
        go_simp
        refine hK.out _ _ ?_ fun hHeld => ?_
        · exact b0
        clear hK K
        try simp only [Act.put, za, zb, zc]
        clear lk hm b0
        refine hTk 5 9 hHeld ?_
        refine hTk 6 15 hHeld ?_
        refine hTk 7 16 hHeld ?_
        refine hTk 8 7 hHeld ?_
        refine hTk 9 8 hHeld ?_
        refine wpAnyH_done (by kernel_rfl) (NoPanic.normal ?_) _
        clear hHeld
        go_wp2_with fail
        have A2 := Q2.out.n.at'
        obtain ⟨b0, b1, b2, b3, b4, b5, b6, b7, b8, b9, b10⟩ := lt_at (bz_get Q2.out.x (k := kl) (o := ltR l) (by simp)).2
        go_wp2_with fail
        refine wp_region_noPanic ?_
        refine wp_region_held_drew (S := (fun w' => w'.cell? ⟨kl, 0, none⟩ = some (.int .i64 l.k) ∧ w'.cell? ⟨kl, 1, none⟩ = some (.int .i64 l.a) ∧ w'.cell? ⟨kl, 2, none⟩ = some (.int .i64 l.b) ∧ w'.cell? ⟨kl, 3, none⟩ = some (.int .i64 l.q) ∧ w'.cell? ⟨kl, 4, none⟩ = some (.int .i64 l.s) ∧ w'.cell? ⟨kl, 5, none⟩ = some (.int .i64 l.w) ∧ w'.cell? ⟨kl, 6, none⟩ = some (.bool l.r) ∧ w'.cell? ⟨kl, 7, none⟩ = some (.int .i64 l.n) ∧ w'.cell? ⟨kl, 8, none⟩ = some (.bool l.o) ∧ w'.cell? ⟨kl, 9, none⟩ = some (.bool l.h) ∧ w'.cell? ⟨kl, 10, none⟩ = some (.int .i64 l.d) ∧ w'.cell? ⟨p, 0, none⟩ = some (.int .i64 c.n) ∧ w'.cell? ⟨p, 1, none⟩ = some (.int .i64 c.bl) ∧ w'.cell? ⟨p, 2, none⟩ = some (.int .i64 c.tt) ∧ w'.cell? ⟨p, 3, none⟩ = some (.int .i64 c.cs) ∧ w'.cell? ⟨p, 4, none⟩ = some (.int .i64 c.cy) ∧ w'.cell? ⟨p, 5, none⟩ = some (.int .i64 c.cc) ∧ w'.cell? ⟨p, 6, none⟩ = some (.int .i64 c.cu) ∧ w'.cell? ⟨p, 7, none⟩ = some (.int .i64 c.ct) ∧ w'.cell? ⟨p, 8, none⟩ = some (.int .i64 c.cp))) (by kernel_rfl) ?_ (fun hHeld => ?_)
        · exact ⟨b0, b1, b2, b3, b4, b5, b6, b7, b8, b9, b10, A2.c0, A2.c1, A2.c2, A2.c3, A2.c4, A2.c5, A2.c6, A2.c7, A2.c8⟩
        clear A2 b0 b1 b2 b3 b4 b5 b6 b7 b8 b9 b10
        refine hTk 0 17 hHeld ?_
        refine hTk 1 18 hHeld ?_
        refine hTk 2 19 hHeld ?_
        refine hTk 3 20 hHeld ?_
        refine hTk 4 21 hHeld ?_
        refine hTk 5 22 hHeld ?_
        refine hTk 6 23 hHeld ?_
        refine hTk 7 24 hHeld ?_
        refine hTk 8 25 hHeld ?_
        refine hTk 9 26 hHeld ?_
        refine hVl 10 27 (.bool false) hHeld (fun wz hSw => ?_) ?_
        · try dsimp only at hSw
          go_simp
        refine hTk 11 28 hHeld ?_
        refine hTk 12 29 hHeld ?_
        refine hTk 13 30 hHeld ?_
        refine hTk 14 31 hHeld ?_
        refine hTk 15 32 hHeld ?_
        refine hTk 16 33 hHeld ?_
        refine hTk 17 34 hHeld ?_
        refine hNo 18 fun K hK => ?_
        go_simp
        go_at_call 29
        refine (check_c c.n c.bl c.tt c.cs c.cy c.cc c.cu c.ct c.cp l.k l.a l.b l.q l.s l.w l.r l.n l.o l.h l.d _ (hide (hT2.out.step (Step.of_below (F := fun _ => False) (belowN (Below.refl _ _) 1)) (fun h => h))) z hz).mono ?_
        rintro e w3 ⟨rfl, hb3⟩
        have Q3 : Hid (Ah w w3 p B Ft Ft c N D [(kd, dwR d0 d1 d2), (kl, ltR l)]) := hide (Q2.out.below (((Below.refl _ _).drew).trans hb3))
        have A3 := Q3.out.n.at'
        obtain ⟨b0, b1, b2, b3, b4, b5, b6, b7, b8, b9, b10⟩ := lt_at (bz_get Q3.out.x (k := kl) (o := ltR l) (by simp)).2
        refine hK.out _ _ ?_ fun hHeld => ?_
        · exact ⟨b0, b1, b2, b3, b4, b5, b6, b7, b8, b9, b10, A3.c0, A3.c1, A3.c2, A3.c3, A3.c4, A3.c5, A3.c6, A3.c7, A3.c8⟩
        clear hK K
        try simp only [Act.put, za, zb, zc]
        clear A3 hb3 hT2 Q2
        refine hVl 19 36 (.bool true) hHeld (fun wz hSw => ?_) ?_
        · try dsimp only at hSw
          go_simp
        refine hTk 20 37 hHeld ?_
        refine wpAnyH_done (by kernel_rfl) (NoPanic.normal ?_) _
        clear hHeld
        go_wp2_with fail
        go_ret
        obtain ⟨q1, q2, q3, q4⟩ := Q3.out.x (kl, ltR l) (by simp)
        exact ⟨_, rfl, Ft, kl, hut_fin ((Q3.out.below (Below.refl _ _)).step ((Q3.out.below (Below.refl _ _)).n.mono (Nat.le_succ N)) (Step.refl _ _)) (own_nilT q2) q1 q3⟩
    · obtain ⟨f1, f2, f3⟩ := cmpF eb
      have htk : htOk c l = false := by unfold htOk; simp [f1]
      obtain rfl : [] = L := by rw [← hL']; unfold htL; rw [htk]; rfl
      have hD2 : nxHT c D l d0 d1 = D := by unfold nxHT; rw [htk]; rfl
      rw [hD2]
      replace eb := hide eb
      clear h
      replace k5 := hide k5
      go_enter Tryd.func13, Tryd.ntmps13
      go_upto_region 1 with fail
      refine name_world ?_
      intro V hV
      have Q1 : Hid (Ah w V p B Ft Ft c N D [(w.heap.size + 1, dwR d0 d1 d2), (w.heap.size, ltR l)]) := by rw [← hV]; exact hide (ah_box hH.out l d0 d1 d2)
      obtain ⟨kd, hde⟩ : ∃ kd, Hid (w.heap.size + 1 = kd) := ⟨_, rfl⟩
      obtain ⟨kl, hle⟩ : ∃ kl, Hid (w.heap.size = kl) := ⟨_, rfl⟩
      rw [hde.out, hle.out] at Q1
      rw [hde.out, hle.out]
      clear hV
      have b0 := (lt_at (bz_get Q1.out.x (k := kl) (o := ltR l) (by simp)).2).c0
      go_wp2_with fail
      refine wp_region_noPanic ?_
      refine wp_region_held_drew (S := (fun w' => w'.cell? ⟨kl, 0, none⟩ = some (.int .i64 l.k))) (by kernel_rfl) ?_ (fun hHeld => ?_)
      · exact b0
      refine hTk 0 10 hHeld ?_
      refine hTk 2 12 hHeld ?_
      refine hTk 3 13 hHeld ?_
      refine hNo 1 fun K hK => ?_
      go_simp
      go_at_call 28
      refine (hmDoers_c p _).mono ?_
      rintro e w2 ⟨m, rfl, hm, hb2⟩
      have hBw2 : Below V.heap.size V w2 := ((Below.refl _ _).drew).trans hb2
      have Q2 := hide (Q1.out.below hBw2)
      have hT2 : Hid (Tab w2) := hide (hT.out.step Q2.out.s hlo0.out)
      have lk := hm.lookOk (t := tDH) Tryd.underlying70 zeroFH hlk true (by simp [k5.out]) w2 rfl
      rw [show dH p l.k = mvH 56 p by simp [dH, updV, k5.out]] at lk
      dsimp only [tDH, mvH] at lk
      clear hb2 hBw2 Q1 b0
      have b0 := (lt_at (bz_get Q2.out.x (k := kl) (o := ltR l) (by simp)).2).c0
      refine hK.out _ _ ?_ fun hHeld => ?_
      · exact b0
      clear hK K
      try simp only [Act.put, za, zb, zc]
      refine hNo 4 fun K hK => ?_
      go_simp
      refine hK.out _ _ ?_ fun hHeld => ?_
      · exact b0
      clear hK K
      try simp only [Act.put, za, zb, zc]
      clear lk hm b0
      refine hTk 5 9 hHeld ?_
      refine hTk 6 15 hHeld ?_
      refine hTk 7 16 hHeld ?_
      refine hTk 8 7 hHeld ?_
      refine hTk 9 8 hHeld ?_
      refine wpAnyH_done (by kernel_rfl) (NoPanic.normal ?_) _
      clear hHeld
      go_wp2_with fail
      go_wp2_with fail
      refine wp_region_noPanic ?_
      refine wp_region_held_drew (S := (fun w' => w'.cell? ⟨kl, 2, none⟩ = some (.int .i64 l.b) ∧ w'.cell? ⟨p, 0, none⟩ = some (.int .i64 c.n))) (by kernel_rfl) ?_ (fun hHeld => ?_)
      · exact ⟨(lt_at (bz_get Q2.out.x (k := kl) (o := ltR l) (by simp)).2).c2, Q2.out.n.at'.c0⟩
      refine hTk 0 17 hHeld ?_
      refine hTk 1 18 hHeld ?_
      refine hTk 2 19 hHeld ?_
      refine hTk 3 20 hHeld ?_
      refine hTk 4 21 hHeld ?_
      refine hTk 5 22 hHeld ?_
      refine hTk 6 23 hHeld ?_
      refine hTk 7 24 hHeld ?_
      refine hTk 8 25 hHeld ?_
      refine hTk 9 26 hHeld ?_
      refine hVl 10 27 (.bool true) hHeld (fun wz hSw => ?_) ?_
      · try dsimp only at hSw
        go_simp
      refine hTk 11 28 hHeld ?_
      refine hTk 12 29 hHeld ?_
      refine hSk 13 30 hHeld ?_
      refine hSk 14 31 hHeld ?_
      refine hSk 15 32 hHeld ?_
      refine hSk 16 33 hHeld ?_
      refine hSk 17 34 hHeld ?_
      refine hSk 18 35 hHeld ?_
      refine hSk 19 36 hHeld ?_
      refine hTk 20 37 hHeld ?_
      refine wpAnyH_done (by kernel_rfl) (NoPanic.normal ?_) _
      clear hHeld
      go_wp2_with fail
      go_ret
      obtain ⟨q1, q2, q3, q4⟩ := Q2.out.x (kl, ltR l) (by simp)
      exact ⟨_, rfl, Ft, kl, hut_fin ((Q2.out.below (belowN (Below.refl _ _) 1)).step ((Q2.out.below (belowN (Below.refl _ _) 1)).n.mono (Nat.le_succ N)) (Step.refl _ _)) (own_nilT q2) q1 q3⟩
  by_cases k7 : l.k = 7
  · skip
    by_cases eb : l.b = c.n
    · obtain ⟨f1, f2, f3⟩ := cmpT eb
      replace eb := hide eb
      by_cases ez : z = 0
      · obtain ⟨h1, h2, h3⟩ := cmpT ez
        have hle0 : lerr c l = 0 := by rw [← hz.out] at ez; exact ez
        have htk : htOk c l = true := by unfold htOk; rw [hle0]; simp [f1]
        have hLk : Hid (hAckL c D l = L) := hide (by rw [← hL']; unfold htL; rw [htk, if_pos rfl, if_neg k1, if_neg k2, if_neg k3, if_neg k5, if_pos k7]); have hDk : nxHT c D l d0 d1 = nxHAck c D l := by unfold nxHT; rw [htk, if_pos rfl, if_neg k1, if_neg k2, if_neg k3, if_neg k5, if_pos k7]
        replace ez := hide ez
        clear h
        replace k7 := hide k7
        go_enter Tryd.func13, Tryd.ntmps13
        go_upto_region 1 with fail
        refine name_world ?_
        intro V hV
        have Q1 : Hid (Ah w V p B Ft Ft c N D [(w.heap.size + 1, dwR d0 d1 d2), (w.heap.size, ltR l)]) := by rw [← hV]; exact hide (ah_box hH.out l d0 d1 d2)
        obtain ⟨kd, hde⟩ : ∃ kd, Hid (w.heap.size + 1 = kd) := ⟨_, rfl⟩
        obtain ⟨kl, hle⟩ : ∃ kl, Hid (w.heap.size = kl) := ⟨_, rfl⟩
        rw [hde.out, hle.out] at Q1
        rw [hde.out, hle.out]
        clear hV
        have b0 := (lt_at (bz_get Q1.out.x (k := kl) (o := ltR l) (by simp)).2).c0
        go_wp2_with fail
        refine wp_region_noPanic ?_
        refine wp_region_held_drew (S := (fun w' => w'.cell? ⟨kl, 0, none⟩ = some (.int .i64 l.k))) (by kernel_rfl) ?_ (fun hHeld => ?_)
        · exact b0
        refine hTk 0 10 hHeld ?_
        refine hTk 2 12 hHeld ?_
        refine hTk 3 13 hHeld ?_
        refine hNo 1 fun K hK => ?_
        go_simp
        go_at_call 28
        refine (hmDoers_c p _).mono ?_
        rintro e w2 ⟨m, rfl, hm, hb2⟩
        have hBw2 : Below V.heap.size V w2 := ((Below.refl _ _).drew).trans hb2
        have Q2 := hide (Q1.out.below hBw2)
        have hT2 : Hid (Tab w2) := hide (hT.out.step Q2.out.s hlo0.out)
        have lk := hm.lookOk (t := tDH) Tryd.underlying70 zeroFH hlk true (by simp [k7.out]) w2 rfl
        rw [show dH p l.k = mvH 57 p by simp [dH, updV, k7.out]] at lk
        dsimp only [tDH, mvH] at lk
        clear hb2 hBw2 Q1 b0
        have b0 := (lt_at (bz_get Q2.out.x (k := kl) (o := ltR l) (by simp)).2).c0
        refine hK.out _ _ ?_ fun hHeld => ?_
        · exact b0
        clear hK K
        try simp only [Act.put, za, zb, zc]
        refine hNo 4 fun K hK => ?_
        go_simp
        refine hK.out _ _ ?_ fun hHeld => ?_
        · exact b0
        clear hK K
        try simp only [Act.put, za, zb, zc]
        clear lk hm b0
        refine hTk 5 9 hHeld ?_
        refine hTk 6 15 hHeld ?_
        refine hTk 7 16 hHeld ?_
        refine hTk 8 7 hHeld ?_
        refine hTk 9 8 hHeld ?_
        refine wpAnyH_done (by kernel_rfl) (NoPanic.normal ?_) _
        clear hHeld
        go_wp2_with fail
        have A2 := Q2.out.n.at'
        obtain ⟨b0, b1, b2, b3, b4, b5, b6, b7, b8, b9, b10⟩ := lt_at (bz_get Q2.out.x (k := kl) (o := ltR l) (by simp)).2
        go_wp2_with fail
        refine wp_region_noPanic ?_
        refine wp_region_held_drew (S := (fun w' => w'.cell? ⟨kl, 0, none⟩ = some (.int .i64 l.k) ∧ w'.cell? ⟨kl, 1, none⟩ = some (.int .i64 l.a) ∧ w'.cell? ⟨kl, 2, none⟩ = some (.int .i64 l.b) ∧ w'.cell? ⟨kl, 3, none⟩ = some (.int .i64 l.q) ∧ w'.cell? ⟨kl, 4, none⟩ = some (.int .i64 l.s) ∧ w'.cell? ⟨kl, 5, none⟩ = some (.int .i64 l.w) ∧ w'.cell? ⟨kl, 6, none⟩ = some (.bool l.r) ∧ w'.cell? ⟨kl, 7, none⟩ = some (.int .i64 l.n) ∧ w'.cell? ⟨kl, 8, none⟩ = some (.bool l.o) ∧ w'.cell? ⟨kl, 9, none⟩ = some (.bool l.h) ∧ w'.cell? ⟨kl, 10, none⟩ = some (.int .i64 l.d) ∧ w'.cell? ⟨p, 0, none⟩ = some (.int .i64 c.n) ∧ w'.cell? ⟨p, 1, none⟩ = some (.int .i64 c.bl) ∧ w'.cell? ⟨p, 2, none⟩ = some (.int .i64 c.tt) ∧ w'.cell? ⟨p, 3, none⟩ = some (.int .i64 c.cs) ∧ w'.cell? ⟨p, 4, none⟩ = some (.int .i64 c.cy) ∧ w'.cell? ⟨p, 5, none⟩ = some (.int .i64 c.cc) ∧ w'.cell? ⟨p, 6, none⟩ = some (.int .i64 c.cu) ∧ w'.cell? ⟨p, 7, none⟩ = some (.int .i64 c.ct) ∧ w'.cell? ⟨p, 8, none⟩ = some (.int .i64 c.cp))) (by kernel_rfl) ?_ (fun hHeld => ?_)
        · exact ⟨b0, b1, b2, b3, b4, b5, b6, b7, b8, b9, b10, A2.c0, A2.c1, A2.c2, A2.c3, A2.c4, A2.c5, A2.c6, A2.c7, A2.c8⟩
        clear A2 b0 b1 b2 b3 b4 b5 b6 b7 b8 b9 b10
        refine hTk 0 17 hHeld ?_
        refine hTk 1 18 hHeld ?_
        refine hTk 2 19 hHeld ?_
        refine hTk 3 20 hHeld ?_
        refine hTk 4 21 hHeld ?_
        refine hTk 5 22 hHeld ?_
        refine hTk 6 23 hHeld ?_
        refine hTk 7 24 hHeld ?_
        refine hTk 8 25 hHeld ?_
        refine hTk 9 26 hHeld ?_
        refine hVl 10 27 (.bool false) hHeld (fun wz hSw => ?_) ?_
        · try dsimp only at hSw
          go_simp
        refine hTk 11 28 hHeld ?_
        refine hTk 12 29 hHeld ?_
        refine hTk 13 30 hHeld ?_
        refine hTk 14 31 hHeld ?_
        refine hTk 15 32 hHeld ?_
        refine hTk 16 33 hHeld ?_
        refine hTk 17 34 hHeld ?_
        refine hNo 18 fun K hK => ?_
        go_simp
        go_at_call 29
        refine (check_c c.n c.bl c.tt c.cs c.cy c.cc c.cu c.ct c.cp l.k l.a l.b l.q l.s l.w l.r l.n l.o l.h l.d _ (hide (hT2.out.step (Step.of_below (F := fun _ => False) (belowN (Below.refl _ _) 1)) (fun h => h))) z hz).mono ?_
        rintro e w3 ⟨rfl, hb3⟩
        have Q3 : Hid (Ah w w3 p B Ft Ft c N D [(kd, dwR d0 d1 d2), (kl, ltR l)]) := hide (Q2.out.below (((Below.refl _ _).drew).trans hb3))
        have A3 := Q3.out.n.at'
        obtain ⟨b0, b1, b2, b3, b4, b5, b6, b7, b8, b9, b10⟩ := lt_at (bz_get Q3.out.x (k := kl) (o := ltR l) (by simp)).2
        refine hK.out _ _ ?_ fun hHeld => ?_
        · exact ⟨b0, b1, b2, b3, b4, b5, b6, b7, b8, b9, b10, A3.c0, A3.c1, A3.c2, A3.c3, A3.c4, A3.c5, A3.c6, A3.c7, A3.c8⟩
        clear hK K
        try simp only [Act.put, za, zb, zc]
        clear A3 hb3 hT2 Q2
        refine hVl 19 36 (.bool false) hHeld (fun wz hSw => ?_) ?_
        · try dsimp only at hSw
          go_simp
        refine hTk 20 37 hHeld ?_
        refine wpAnyH_done (by kernel_rfl) (NoPanic.normal ?_) _
        clear hHeld
        obtain ⟨d0e, d1e, d2e⟩ : w3.cell? ⟨kd, 0, none⟩ = some (.int .i64 d0) ∧ w3.cell? ⟨kd, 1, none⟩ = some (.int .i64 d1) ∧ w3.cell? ⟨kd, 2, none⟩ = some (.int .i64 d2) := ⟨cell_of_row _ _ _ _ _ _ (bz_get Q3.out.x (k := kd) (o := dwR d0 d1 d2) (by simp)).2, cell_of_row _ _ _ _ _ _ (bz_get Q3.out.x (k := kd) (o := dwR d0 d1 d2) (by simp)).2, cell_of_row _ _ _ _ _ _ (bz_get Q3.out.x (k := kd) (o := dwR d0 d1 d2) (by simp)).2⟩
        have hl3 := (bz_get Q3.out.x (k := kl) (o := ltR l) (by simp)).1
        have hd3 := (bz_get Q3.out.x (k := kd) (o := dwR d0 d1 d2) (by simp)).1
        go_wp2_with (go_at_call 57; refine (hmAck_c p B Ft c N D l d0 d1 d2 _ Q3.out.n hN1 L hLk).mono ?_; rintro e w5 ⟨v1, rfl, Ft7, g1, hO⟩; have Q5 := hide (Q3.out.step hO.nd hO.st); replace hO := hide hO)
        go_ret
        rw [hDk]
        exact ⟨_, rfl, Ft7, g1, hut_fin Q5.out hO.out.own (Nat.le_trans Q3.out.s.fr.size hO.out.new) hO.out.nf⟩
      · obtain ⟨h1, h2, h3⟩ := cmpF ez
        have htk : htOk c l = false := by unfold htOk; rw [show lerr c l = z from hz.out]; simp [h1]
        obtain rfl : [] = L := by rw [← hL']; unfold htL; rw [htk]; rfl
        have hD2 : nxHT c D l d0 d1 = D := by unfold nxHT; rw [htk]; rfl
        rw [hD2]
        replace ez := hide ez
        clear h
        replace k7 := hide k7
        go_enter Tryd.func13, Tryd.ntmps13
        go_upto_region 1 with fail
        refine name_world ?_
        intro V hV
        have Q1 : Hid (Ah w V p B Ft Ft c N D [(w.heap.size + 1, dwR d0 d1 d2), (w.heap.size, ltR l)]) := by rw [← hV]; exact hide (ah_box hH.out l d0 d1 d2)
        obtain ⟨kd, hde⟩ : ∃ kd, Hid (w.heap.size + 1 = kd) := ⟨_, rfl⟩
        obtain ⟨kl, hle⟩ : ∃ kl, Hid (w.heap.size = kl) := ⟨_, rfl⟩
        rw [hde.out, hle.out] at Q1
        rw [hde.out, hle.out]
        clear hV
        have b0 := (lt_at (bz_get Q1.out.x (k := kl) (o := ltR l) (by simp)).2).c0
        go_wp2_with fail
        refine wp_region_noPanic ?_
        refine wp_region_held_drew (S := (fun w' => w'.cell? ⟨kl, 0, none⟩ = some (.int .i64 l.k))) (by kernel_rfl) ?_ (fun hHeld => ?_)
        · exact b0
        refine hTk 0 10 hHeld ?_
        refine hTk 2 12 hHeld ?_
        refine hTk 3 13 hHeld ?_
        refine hNo 1 fun K hK => ?_
        go_simp
        go_at_call 28
        refine (hmDoers_c p _).mono ?_
        rintro e w2 ⟨m, rfl, hm, hb2⟩
        have hBw2 : Below V.heap.size V w2 := ((Below.refl _ _).drew).trans hb2
        have Q2 := hide (Q1.out.below hBw2)
        have hT2 : Hid (Tab w2) := hide (hT.out.step Q2.out.s hlo0.out)
        have lk := hm.lookOk (t := tDH) Tryd.underlying70 zeroFH hlk true (by simp [k7.out]) w2 rfl
        rw [show dH p l.k = mvH 57 p by simp [dH, updV, k7.out]] at lk
        dsimp only [tDH, mvH] at lk
        clear hb2 hBw2 Q1 b0
        have b0 := (lt_at (bz_get Q2.out.x (k := kl) (o := ltR l) (by simp)).2).c0
        refine hK.out _ _ ?_ fun hHeld => ?_
        · exact b0
        clear hK K
        try simp only [Act.put, za, zb, zc]
        refine hNo 4 fun K hK => ?_
        go_simp
        refine hK.out _ _ ?_ fun hHeld => ?_
        · exact b0
        clear hK K
        try simp only [Act.put, za, zb, zc]
        clear lk hm b0
        refine hTk 5 9 hHeld ?_
        refine hTk 6 15 hHeld ?_
        refine hTk 7 16 hHeld ?_
        refine hTk 8 7 hHeld ?_
        refine hTk 9 8 hHeld ?_
        refine wpAnyH_done (by kernel_rfl) (NoPanic.normal ?_) _
        clear hHeld
        go_wp2_with fail
        have A2 := Q2.out.n.at'
        obtain ⟨b0, b1, b2, b3, b4, b5, b6, b7, b8, b9, b10⟩ := lt_at (bz_get Q2.out.x (k := kl) (o := ltR l) (by simp)).2
        go_wp2_with fail
        refine wp_region_noPanic ?_
        refine wp_region_held_drew (S := (fun w' => w'.cell? ⟨kl, 0, none⟩ = some (.int .i64 l.k) ∧ w'.cell? ⟨kl, 1, none⟩ = some (.int .i64 l.a) ∧ w'.cell? ⟨kl, 2, none⟩ = some (.int .i64 l.b) ∧ w'.cell? ⟨kl, 3, none⟩ = some (.int .i64 l.q) ∧ w'.cell? ⟨kl, 4, none⟩ = some (.int .i64 l.s) ∧ w'.cell? ⟨kl, 5, none⟩ = some (.int .i64 l.w) ∧ w'.cell? ⟨kl, 6, none⟩ = some (.bool l.r) ∧ w'.cell? ⟨kl, 7, none⟩ = some (.int .i64 l.n) ∧ w'.cell? ⟨kl, 8, none⟩ = some (.bool l.o) ∧ w'.cell? ⟨kl, 9, none⟩ = some (.bool l.h) ∧ w'.cell? ⟨kl, 10, none⟩ = some (.int .i64 l.d) ∧ w'.cell? ⟨p, 0, none⟩ = some (.int .i64 c.n) ∧ w'.cell? ⟨p, 1, none⟩ = some (.int .i64 c.bl) ∧ w'.cell? ⟨p, 2, none⟩ = some (.int .i64 c.tt) ∧ w'.cell? ⟨p, 3, none⟩ = some (.int .i64 c.cs) ∧ w'.cell? ⟨p, 4, none⟩ = some (.int .i64 c.cy) ∧ w'.cell? ⟨p, 5, none⟩ = some (.int .i64 c.cc) ∧ w'.cell? ⟨p, 6, none⟩ = some (.int .i64 c.cu) ∧ w'.cell? ⟨p, 7, none⟩ = some (.int .i64 c.ct) ∧ w'.cell? ⟨p, 8, none⟩ = some (.int .i64 c.cp))) (by kernel_rfl) ?_ (fun hHeld => ?_)
        · exact ⟨b0, b1, b2, b3, b4, b5, b6, b7, b8, b9, b10, A2.c0, A2.c1, A2.c2, A2.c3, A2.c4, A2.c5, A2.c6, A2.c7, A2.c8⟩
        clear A2 b0 b1 b2 b3 b4 b5 b6 b7 b8 b9 b10
        refine hTk 0 17 hHeld ?_
        refine hTk 1 18 hHeld ?_
        refine hTk 2 19 hHeld ?_
        refine hTk 3 20 hHeld ?_
        refine hTk 4 21 hHeld ?_
        refine hTk 5 22 hHeld ?_
        refine hTk 6 23 hHeld ?_
        refine hTk 7 24 hHeld ?_
        refine hTk 8 25 hHeld ?_
        refine hTk 9 26 hHeld ?_
        refine hVl 10 27 (.bool false) hHeld (fun wz hSw => ?_) ?_
        · try dsimp only at hSw
          go_simp
        refine hTk 11 28 hHeld ?_
        refine hTk 12 29 hHeld ?_
        refine hTk 13 30 hHeld ?_
        refine hTk 14 31 hHeld ?_
        refine hTk 15 32 hHeld ?_
        refine hTk 16 33 hHeld ?_
        refine hTk 17 34 hHeld ?_
        refine hNo 18 fun K hK => ?_
        go_simp
        go_at_call 29
        refine (check_c c.n c.bl c.tt c.cs c.cy c.cc c.cu c.ct c.cp l.k l.a l.b l.q l.s l.w l.r l.n l.o l.h l.d _ (hide (hT2.out.step (Step.of_below (F := fun _ => False) (belowN (Below.refl _ _) 1)) (fun h => h))) z hz).mono ?_
        rintro e w3 ⟨rfl, hb3⟩
        have Q3 : Hid (Ah w w3 p B Ft Ft c N D [(kd, dwR d0 d1 d2), (kl, ltR l)]) := hide (Q2.out.below (((Below.refl _ _).drew).trans hb3))
        have A3 := Q3.out.n.at'
        obtain ⟨b0, b1, b2, b3, b4, b5, b6, b7, b8, b9, b10⟩ := lt_at (bz_get Q3.out.x (k := kl) (o := ltR l) (by simp)).2
        refine hK.out _ _ ?_ fun hHeld => ?_
        · exact ⟨b0, b1, b2, b3, b4, b5, b6, b7, b8, b9, b10, A3.c0, A3.c1, A3.c2, A3.c3, A3.c4, A3.c5, A3.c6, A3.c7, A3.c8⟩
        clear hK K
        try simp only [Act.put, za, zb, zc]
        clear A3 hb3 hT2 Q2
        refine hVl 19 36 (.bool true) hHeld (fun wz hSw => ?_) ?_
        · try dsimp only at hSw
          go_simp
        refine hTk 20 37 hHeld ?_
        refine wpAnyH_done (by kernel_rfl) (NoPanic.normal ?_) _
        clear hHeld
        go_wp2_with fail
        go_ret
        obtain ⟨q1, q2, q3, q4⟩ := Q3.out.x (kl, ltR l) (by simp)
        exact ⟨_, rfl, Ft, kl, hut_fin ((Q3.out.below (Below.refl _ _)).step ((Q3.out.below (Below.refl _ _)).n.mono (Nat.le_succ N)) (Step.refl _ _)) (own_nilT q2) q1 q3⟩
    · obtain ⟨f1, f2, f3⟩ := cmpF eb
      have htk : htOk c l = false := by unfold htOk; simp [f1]
      obtain rfl : [] = L := by rw [← hL']; unfold htL; rw [htk]; rfl
      have hD2 : nxHT c D l d0 d1 = D := by unfold nxHT; rw [htk]; rfl
      rw [hD2]
      replace eb := hide eb
      clear h
      replace k7 := hide k7
      go_enter Tryd.func13, Tryd.ntmps13
      go_upto_region 1 with fail
      refine name_world ?_
      intro V hV
      have Q1 : Hid (Ah w V p B Ft Ft c N D [(w.heap.size + 1, dwR d0 d1 d2), (w.heap.size, ltR l)]) := by rw [← hV]; exact hide (ah_box hH.out l d0 d1 d2)
      obtain ⟨kd, hde⟩ : ∃ kd, Hid (w.heap.size + 1 = kd) := ⟨_, rfl⟩
      obtain ⟨kl, hle⟩ : ∃ kl, Hid (w.heap.size = kl) := ⟨_, rfl⟩
      rw [hde.out, hle.out] at Q1
      rw [hde.out, hle.out]
      clear hV
      have b0 := (lt_at (bz_get Q1.out.x (k := kl) (o := ltR l) (by simp)).2).c0
      go_wp2_with fail
      refine wp_region_noPanic ?_
      refine wp_region_held_drew (S := (fun w' => w'.cell? ⟨kl, 0, none⟩ = some (.int .i64 l.k))) (by kernel_rfl) ?_ (fun hHeld => ?_)
      · exact b0
      refine hTk 0 10 hHeld ?_
      refine hTk 2 12 hHeld ?_
      refine hTk 3 13 hHeld ?_
      refine hNo 1 fun K hK => ?_
      go_simp
      go_at_call 28
      refine (hmDoers_c p _).mono ?_
      rintro e w2 ⟨m, rfl, hm, hb2⟩
      have hBw2 : Below V.heap.size V w2 := ((Below.refl _ _).drew).trans hb2
      have Q2 := hide (Q1.out.below hBw2)
      have hT2 : Hid (Tab w2) := hide (hT.out.step Q2.out.s hlo0.out)
      have lk := hm.lookOk (t := tDH) Tryd.underlying70 zeroFH hlk true (by simp [k7.out]) w2 rfl
      rw [show dH p l.k = mvH 57 p by simp [dH, updV, k7.out]] at lk
      dsimp only [tDH, mvH] at lk
      clear hb2 hBw2 Q1 b0
      have b0 := (lt_at (bz_get Q2.out.x (k := kl) (o := ltR l) (by simp)).2).c0
      refine hK.out _ _ ?_ fun hHeld => ?_
      · exact b0
      clear hK K
      try simp only [Act.put, za, zb, zc]
      refine hNo 4 fun K hK => ?_
      go_simp
      refine hK.out _ _ ?_ fun hHeld => ?_
      · exact b0
      clear hK K
      try simp only [Act.put, za, zb, zc]
      clear lk hm b0
      refine hTk 5 9 hHeld ?_
      refine hTk 6 15 hHeld ?_
      refine hTk 7 16 hHeld ?_
      refine hTk 8 7 hHeld ?_
      refine hTk 9 8 hHeld ?_
      refine wpAnyH_done (by kernel_rfl) (NoPanic.normal ?_) _
      clear hHeld
      go_wp2_with fail
      go_wp2_with fail
      refine wp_region_noPanic ?_
      refine wp_region_held_drew (S := (fun w' => w'.cell? ⟨kl, 2, none⟩ = some (.int .i64 l.b) ∧ w'.cell? ⟨p, 0, none⟩ = some (.int .i64 c.n))) (by kernel_rfl) ?_ (fun hHeld => ?_)
      · exact ⟨(lt_at (bz_get Q2.out.x (k := kl) (o := ltR l) (by simp)).2).c2, Q2.out.n.at'.c0⟩
      refine hTk 0 17 hHeld ?_
      refine hTk 1 18 hHeld ?_
      refine hTk 2 19 hHeld ?_
      refine hTk 3 20 hHeld ?_
      refine hTk 4 21 hHeld ?_
      refine hTk 5 22 hHeld ?_
      refine hTk 6 23 hHeld ?_
      refine hTk 7 24 hHeld ?_
      refine hTk 8 25 hHeld ?_
      refine hTk 9 26 hHeld ?_
      refine hVl 10 27 (.bool true) hHeld (fun wz hSw => ?_) ?_
      · try dsimp only at hSw
        go_simp
      refine hTk 11 28 hHeld ?_
      refine hTk 12 29 hHeld ?_
      refine hSk 13 30 hHeld ?_
      refine hSk 14 31 hHeld ?_
      refine hSk 15 32 hHeld ?_
      refine hSk 16 33 hHeld ?_
      refine hSk 17 34 hHeld ?_
      refine hSk 18 35 hHeld ?_
      refine hSk 19 36 hHeld ?_
      refine hTk 20 37 hHeld ?_
      refine wpAnyH_done (by kernel_rfl) (NoPanic.normal ?_) _
      clear hHeld
      go_wp2_with fail
      go_ret
      obtain ⟨q1, q2, q3, q4⟩ := Q2.out.x (kl, ltR l) (by simp)
      exact ⟨_, rfl, Ft, kl, hut_fin ((Q2.out.below (belowN (Below.refl _ _) 1)).step ((Q2.out.below (belowN (Below.refl _ _) 1)).n.mono (Nat.le_succ N)) (Step.refl _ _)) (own_nilT q2) q1 q3⟩
  have hL0 : [] = L := by rw [← hL']; unfold htL; rw [if_neg k1, if_neg k2, if_neg k3, if_neg k5, if_neg k7]; split <;> rfl
  have hD2 : nxHT c D l d0 d1 = D := by unfold nxHT; rw [if_neg k1, if_neg k2, if_neg k3, if_neg k5, if_neg k7]; split <;> rfl
  subst hL0
  rw [hD2]
  clear h
  go_enter Tryd.func13, Tryd.ntmps13
  go_upto_region 1 with fail
  refine name_world ?_
  intro V hV
  have Q1 : Hid (Ah w V p B Ft Ft c N D [(w.heap.size + 1, dwR d0 d1 d2), (w.heap.size, ltR l)]) := by rw [← hV]; exact hide (ah_box hH.out l d0 d1 d2)
  obtain ⟨kd, hde⟩ : ∃ kd, Hid (w.heap.size + 1 = kd) := ⟨_, rfl⟩
  obtain ⟨kl, hle⟩ : ∃ kl, Hid (w.heap.size = kl) := ⟨_, rfl⟩
  rw [hde.out, hle.out] at Q1
  rw [hde.out, hle.out]
  clear hV
  have b0 := (lt_at (bz_get Q1.out.x (k := kl) (o := ltR l) (by simp)).2).c0
  go_wp2_with fail
  refine wp_region_noPanic ?_
  refine wp_region_held_drew (S := (fun w' => w'.cell? ⟨kl, 0, none⟩ = some (.int .i64 l.k))) (by kernel_rfl) ?_ (fun hHeld => ?_)
  · exact b0
  refine hTk 0 10 hHeld ?_
  refine hTk 2 12 hHeld ?_
  refine hTk 3 13 hHeld ?_
  refine hNo 1 fun K hK => ?_
  go_simp
  go_at_call 28
  refine (hmDoers_c p _).mono ?_
  rintro e w2 ⟨m, rfl, hm, hb2⟩
  have hBw2 : Below V.heap.size V w2 := ((Below.refl _ _).drew).trans hb2
  have Q2 := hide (Q1.out.below hBw2)
  have hT2 : Hid (Tab w2) := hide (hT.out.step Q2.out.s hlo0.out)
  have lk := hm.lookOk (t := tDH) Tryd.underlying70 zeroFH hlk false (by simp; omega) w2 rfl
  rw [show dH p l.k = .nilFunc by unfold dH; rw [updV_other _ _ k7, updV_other _ _ k5, updV_other _ _ k3, updV_other _ _ k2, updV_other _ _ k1]] at lk
  dsimp only [tDH, mvH] at lk
  clear hb2 hBw2 Q1 b0
  have b0 := (lt_at (bz_get Q2.out.x (k := kl) (o := ltR l) (by simp)).2).c0
  refine hK.out _ _ ?_ fun hHeld => ?_
  · exact b0
  clear hK K
  try simp only [Act.put, za, zb, zc]
  refine hNo 4 fun K hK => ?_
  go_simp
  refine hK.out _ _ ?_ fun hHeld => ?_
  · exact b0
  clear hK K
  try simp only [Act.put, za, zb, zc]
  clear lk hm b0
  refine hTk 5 9 hHeld ?_
  refine hTk 6 15 hHeld ?_
  refine hTk 7 16 hHeld ?_
  refine hTk 8 7 hHeld ?_
  refine hTk 9 8 hHeld ?_
  refine wpAnyH_done (by kernel_rfl) (NoPanic.normal ?_) _
  clear hHeld
  go_wp2_with fail
  go_wp2_with fail
  refine wp_region_noPanic ?_
  refine wp_region_held_drew (S := (fun _ => True)) (by kernel_rfl) ?_ (fun hHeld => ?_)
  · trivial
  refine hTk 0 17 hHeld ?_
  refine hTk 1 18 hHeld ?_
  refine hTk 2 19 hHeld ?_
  refine hSk 3 20 hHeld ?_
  refine hSk 4 21 hHeld ?_
  refine hSk 5 22 hHeld ?_
  refine hSk 6 23 hHeld ?_
  refine hSk 7 24 hHeld ?_
  refine hSk 8 25 hHeld ?_
  refine hSk 9 26 hHeld ?_
  refine hSk 10 27 hHeld ?_
  refine hTk 11 28 hHeld ?_
  refine hTk 12 29 hHeld ?_
  refine hSk 13 30 hHeld ?_
  refine hSk 14 31 hHeld ?_
  refine hSk 15 32 hHeld ?_
  refine hSk 16 33 hHeld ?_
  refine hSk 17 34 hHeld ?_
  refine hSk 18 35 hHeld ?_
  refine hSk 19 36 hHeld ?_
  refine hTk 20 37 hHeld ?_
  refine wpAnyH_done (by kernel_rfl) (NoPanic.normal ?_) _
  clear hHeld
  go_wp2_with fail
  go_ret
  obtain ⟨q1, q2, q3, q4⟩ := Q2.out.x (kl, ltR l) (by simp)
  exact ⟨_, rfl, Ft, kl, hut_fin ((Q2.out.below (belowN (Below.refl _ _) 1)).step ((Q2.out.below (belowN (Below.refl _ _) 1)).n.mono (Nat.le_succ N)) (Step.refl _ _)) (own_nilT q2) q1 q3⟩
end Go.Proofs.YtmgjgeaigdiadaaDoor
