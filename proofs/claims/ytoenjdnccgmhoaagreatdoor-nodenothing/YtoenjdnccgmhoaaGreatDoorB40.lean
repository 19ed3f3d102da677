/- layer 15: NdH, put together. -/
import Derived.Test.YtoenjdnccgmhoaaGreatDoorB34
import Derived.Test.YtoenjdnccgmhoaaGreatDoorB39
namespace Go.Proofs.YtoenjdnccgmhoaaGreatDoor
open Go.ChangeShapes Go.WideShapes Go.ChangeAt Go.RowKit
set_option linter.unusedSimpArgs false
set_option linter.unusedVariables false
set_option maxRecDepth 10000
attribute [local go_sem, local simp] over_const setCell_drewN alloc_drewN Over.cell Over.frozen lt_s1 lt_s2 lt_s3 le_s0 le_s1 le_s2 le_s3 eq_s0 eq_s1 eq_s2 qe_s0
theorem wpList_ins {P : Program} {ops : Array Oper} {Q : Exit → Act → World → Prop} {rest : List Oper} {o : Oper} {a : Act} {w w2 : World} {t : TypeId} {mv kv vv : Value} (hg : o.guard = none) (m x v : Operand) (ho : o.op = Op.insert t m x v) (hm : a.eval m = mv) (hx : a.eval x = kv) (hv : a.eval v = vv) (hr : (Instr.mapUpdate t mv kv vv).run P w = .ok () w2) (h : wpList P ops Q rest (a.put o.dst undef) w2) : wpList P ops Q (o :: rest) a w :=
  wpList_plain hg fun K' hK => by
    unfold Oper.wp
    simp [execOp, ho, hm, hx, hv, hr, Result.andThen]
    exact hK _ _ h
abbrev mvV (f p : Nat) : Value := .func (.func f) #[ptr p] #[]
def dF (p : Nat) : Int → Value := updV (updV (updV (updV (fun _ => .nilFunc) 1 (mvV 82 p)) 2 (mvV 83 p)) 4 (mvV 84 p)) 6 (mvV 85 p)
abbrev tD : TypeId := 109
theorem i64_of_small {x : Int} (h0 : 0 ≤ x) (h1 : x ≤ 100) : I64 x := ⟨by omega, by omega⟩
set_option maxHeartbeats 1000000 in
theorem ndDoers_c (p : Nat) (w : World) : Calls Tryz.prog 39 #[ptr p] w fun e w' => ∃ m, e = .returned (.map (some m)) ∧ MpIs w' m .nilFunc [6, 4, 2, 1] (dF p) ∧ Below w.heap.size w w' := by
  have hmf : ∀ (fn : Fn) (first cap : Array Value) (w : World), (Instr.makeFunc fn first cap).run Tryz.prog w = .ok (.func fn first cap) w := fun _ _ _ _ => rfl
  have hmm := @run_makeMap Tryz.prog
  have m0 : MpIs (w.alloc (.map #[] 0)) w.heap.size .nilFunc [] (fun _ => .nilFunc) := mp_new _ (World.ownsMap_made _ _ _ _)
  obtain ⟨w1, r1, m1, f1⟩ := mp_put m0 (t := tD) Tryz.underlying109 (i64_of_small (x := 1) (by decide) (by decide)) (mvV 82 p) (K' := [1]) (fun k => by simp) (by simp)
  obtain ⟨w2, r2, m2, f2⟩ := mp_put m1 (t := tD) Tryz.underlying109 (i64_of_small (x := 2) (by decide) (by decide)) (mvV 83 p) (K' := [2, 1]) (fun k => by simp) (by simp)
  obtain ⟨w3, r3, m3, f3⟩ := mp_put m2 (t := tD) Tryz.underlying109 (i64_of_small (x := 4) (by decide) (by decide)) (mvV 84 p) (K' := [4, 2, 1]) (fun k => by simp) (by simp)
  obtain ⟨w4, r4, m4, f4⟩ := mp_put m3 (t := tD) Tryz.underlying109 (i64_of_small (x := 6) (by decide) (by decide)) (mvV 85 p) (K' := [6, 4, 2, 1]) (fun k => by simp) (by simp)
  have hF : FrS (· = w.heap.size) (w.alloc (.map #[] 0)) w4 := ((f1.trans f2 (fun _ e => .inl e)).trans f3 (fun _ e => .inl e)).trans f4 (fun _ e => .inl e)
  have hB : Below w.heap.size w w4 := ((Below.refl _ _).alloc (Nat.le_refl _) _).trans (hF.below (fun i hi => by rw [hi]; exact Nat.le_refl _) (by simp))
  have hfin := hide (And.intro m4 hB)
  replace r1 : (Instr.mapUpdate 109 (.map (some w.heap.size)) (.int .i64 1) (.func (.func 82) #[.pointer (some ⟨p, 0, none⟩)] #[])).run Tryz.prog (w.alloc (.map #[] 0)) = .ok () w1 := r1
  replace r2 : (Instr.mapUpdate 109 (.map (some w.heap.size)) (.int .i64 2) (.func (.func 83) #[.pointer (some ⟨p, 0, none⟩)] #[])).run Tryz.prog w1 = .ok () w2 := r2
  replace r3 : (Instr.mapUpdate 109 (.map (some w.heap.size)) (.int .i64 4) (.func (.func 84) #[.pointer (some ⟨p, 0, none⟩)] #[])).run Tryz.prog w2 = .ok () w3 := r3
  replace r4 : (Instr.mapUpdate 109 (.map (some w.heap.size)) (.int .i64 6) (.func (.func 85) #[.pointer (some ⟨p, 0, none⟩)] #[])).run Tryz.prog w3 = .ok () w4 := r4
  clear m0 m1 m2 m3 m4 f1 f2 f3 f4 hF hB
  go_enter Tryz.func39, Tryz.ntmps39
  go_wp2_with fail
  go_ret
  exact ⟨_, rfl, hfin.out.1, hfin.out.2⟩
theorem zeroFE (w : World) : (zeroValue 49).run Tryz.prog w = .ok .nilFunc w := by kernel_rfl
theorem Tab.step {w w' : World} {F F' : Nat → Prop} (h : Tab w) (s : Step F F' w w') (h0 : ¬ F 0) : Tab w' :=
  ⟨Nat.lt_of_lt_of_le h.1 s.fr.size, fun i v hv => keep_cell (s.fr.block 0 h.1 h0) (h.2 i v hv)⟩
theorem lerr_q {c : Cf} {l : Lt} (h : lerr c l = 0) : 0 ≤ l.q ∧ l.q < c.bl ∧ 1 ≤ l.k ∧ l.k ≤ 7 := by
  unfold lerr letterZ toLet at h
  dsimp only at h
  split at h <;> (try omega)
  rename_i h1
  split at h <;> (try omega)
  rename_i h2
  have := inB_true.1 (by simpa using h1)
  omega
theorem lerr_tok {c : Cf} {l : Lt} (h : lerr c l = 0) (hk : l.k = 1) : okB (tokOf l) ∧ 1 ≤ l.n ∧ l.n ≤ c.tt ∧ checkZ (tokOf l) c.tt = 0 := by
  unfold lerr letterZ toLet at h
  dsimp only at h
  split at h <;> (try omega)
  split at h <;> (try omega)
  split at h <;> (try omega)
  split at h <;> (try omega)
  unfold sentZ at h
  dsimp only at h
  split at h
  · rename_i hc
    have ho := okB_of _ _ hc
    have hn := ho.1
    have hn2 : l.n ≤ c.tt := by
      have h2 := hc
      unfold checkZ at h2
      dsimp only at h2
      split at h2
      · omega
      · rename_i h3; omega
    dsimp only at hn
    split at h
    · omega
    · rename_i h0
      exact ⟨ho, by omega, hn2, hc⟩
  · omega
set_option maxHeartbeats 8000000 in
theorem ndTake_c (p : Nat) (B : Bk) (Fc : Nat → Prop) (c : Cf) (id : Int) (N : Nat) (D : Nd) (l : Lt) (d0 d1 d2 : Int) (w : World) (h : NdIs w p B Fc c id N D) (hT : Hid (Tab w)) (hN1 : N + 3 ≤ 2000) (hlk : I64 l.k) (hop : I64 D.P.op.b) (L : List Lt) (hL : Hid (tkL c id D l d0 d1 = L)) (M : List Dn) (hM : Hid (tkN c id D l = M)) : Calls Tryz.prog 17 #[ptr p, .agg #[.int .i64 l.k, .int .i64 l.a, .int .i64 l.b, .int .i64 l.q, .int .i64 l.s, .int .i64 l.w, .bool l.r, .int .i64 l.n, .bool l.o, .bool l.h, .int .i64 l.d], .agg #[.int .i64 d0, .int .i64 d1, .int .i64 d2]] w fun e w' => ∃ v1 v2, e = .returned (.agg #[v1, v2]) ∧ ∃ Fc' g1 g2, OutP w p B Fc Fc' c id (N + 3) (nxTake c id D l d0 d1) L M v1 v2 w' g1 g2 := by
  have hH := hide h
  have hFw := hide h.lt
  have hL' := hL.out
  have hM' := hM.out
  obtain ⟨z, hz⟩ : ∃ z, Hid (letterZ c.n c.bl c.tt ⟨l.k, l.a, l.b, l.q, l.s, l.w, l.r, ⟨l.n, l.o, l.h, l.d⟩⟩ = z) := ⟨_, rfl⟩
  clear hL hM
  by_cases k1 : l.k = 1
  · skip
    by_cases eb : l.b = id
    · obtain ⟨f1, f2, f3⟩ := cmpT eb
      replace eb := hide eb
      by_cases ez : z = 0
      · obtain ⟨h1, h2, h3⟩ := cmpT ez
        have hle0 : lerr c l = 0 := by rw [← hz.out] at ez; exact ez
        have htk : tkOk c id l = true := by unfold tkOk; rw [hle0]; simp [f1]
        have hqq := lerr_q hle0
        have hbl := h.ok.b1
        have hq64 : I64 l.q := ⟨by omega, by omega⟩
        have htok := lerr_tok hle0 k1; have htt := h.ok.t1; have hMk : Hid (tokN c id D l = M) := hide (by rw [← hM']; unfold tkN; rw [htk, if_pos rfl, if_pos k1]); have hLk : Hid (tokL c id D l = L) := hide (by rw [← hL']; unfold tkL; rw [htk, if_pos rfl, if_pos k1]); have hDk : nxTake c id D l d0 d1 = nxTok c id D l := by unfold nxTake; rw [htk, if_pos rfl, if_pos k1]
        replace ez := hide ez
        clear h
        replace k1 := hide k1
        go_enter Tryz.func17, Tryz.ntmps17
        go_wp2_with fail
        refine name_world ?_
        intro V hV
        have hX : Hid (Bx w V (Fa p B Fc) l d0 d1 d2 w.heap.size (w.heap.size + 1) (w.heap.size + 1 + 1)) := by rw [← hV]; exact hide (bx_new w _ hFw.out l d0 d1 d2)
        have hB : Hid (Below w.heap.size w V) := by rw [← hV]; exact hide (by all_goals exact belEnd)
        have hN := hide (hH.out.below hB.out)
        obtain ⟨R, hRe⟩ : ∃ R, Hid (w.heap.size + 1 + 1 = R) := ⟨_, rfl⟩
        obtain ⟨kd, hde⟩ : ∃ kd, Hid (w.heap.size + 1 = kd) := ⟨_, rfl⟩
        obtain ⟨kl, hle⟩ : ∃ kl, Hid (w.heap.size = kl) := ⟨_, rfl⟩
        rw [hRe.out, hde.out, hle.out] at hX
        rw [hRe.out, hde.out, hle.out]
        clear hV
        have b0 := (lt_at hX.out.l).c0
        go_wp2_with fail
        refine wp_region_noPanic ?_
        refine wp_region_held_drew (S := (fun w' => w'.cell? ⟨kl, 0, none⟩ = some (.int .i64 l.k))) (by kernel_rfl) ?_ (fun hHeld => ?_)
        · exact b0
        refine hTk 0 10 hHeld ?_
        refine hTk 2 12 hHeld ?_
        refine hTk 3 13 hHeld ?_
        refine hNo 1 fun K hK => ?_
        go_simp
        go_at_call 39
        refine (ndDoers_c p _).mono ?_
        rintro e w2 ⟨m, rfl, hm, hb2⟩
        have hBw2 : Below V.heap.size V w2 := ((Below.refl _ _).drew).trans hb2
        have Q2 := hide ((At3.mk hN.out hX.out (Step.of_below hB.out)).below hBw2)
        have hT2 : Hid (Tab w2) := hide (hT.out.step ((Step.refl (fun _ => False) w).trans (Step.of_below (hB.out.trans (hBw2.mono hB.out.size)))) (fun h => h))
        have lk := hm.lookOk (t := tD) Tryz.underlying109 zeroFE hlk true (by simp [k1.out]) w2 rfl
        rw [show dF p l.k = mvV 82 p by simp [dF, updV, k1.out]] at lk
        dsimp only [tD, mvV] at lk
        clear hb2 hBw2 hX hB hN
        have b0 := (lt_at Q2.out.x.l).c0
        refine hK.out _ _ ?_ fun hHeld => ?_
        · exact b0
        clear hK K
        try simp only [Act.put, za, zb, zc]
        refine hNo 4 fun K hK => ?_
        go_simp
        refine hK.out _ _ ?_ fun hHeld => ?_
        · exact b0
        clear hK K
        try simp only [Act.put, za, zb, zc]
        clear lk hm
        refine hTk 5 9 hHeld ?_
        refine hTk 6 15 hHeld ?_
        refine hTk 7 16 hHeld ?_
        refine hTk 8 7 hHeld ?_
        refine hTk 9 8 hHeld ?_
        refine wpAnyH_done (by kernel_rfl) (NoPanic.normal ?_) _
        clear hHeld
        go_wp2_with fail
        have A2 := Q2.out.n.at'
        obtain ⟨b0, b1, b2, b3, b4, b5, b6, b7, b8, b9, b10⟩ := lt_at Q2.out.x.l
        go_wp2_with fail
        refine wp_region_noPanic ?_
        refine wp_region_held_drew (S := (fun w' => w'.cell? ⟨kl, 0, none⟩ = some (.int .i64 l.k) ∧ w'.cell? ⟨kl, 1, none⟩ = some (.int .i64 l.a) ∧ w'.cell? ⟨kl, 2, none⟩ = some (.int .i64 l.b) ∧ w'.cell? ⟨kl, 3, none⟩ = some (.int .i64 l.q) ∧ w'.cell? ⟨kl, 4, none⟩ = some (.int .i64 l.s) ∧ w'.cell? ⟨kl, 5, none⟩ = some (.int .i64 l.w) ∧ w'.cell? ⟨kl, 6, none⟩ = some (.bool l.r) ∧ w'.cell? ⟨kl, 7, none⟩ = some (.int .i64 l.n) ∧ w'.cell? ⟨kl, 8, none⟩ = some (.bool l.o) ∧ w'.cell? ⟨kl, 9, none⟩ = some (.bool l.h) ∧ w'.cell? ⟨kl, 10, none⟩ = some (.int .i64 l.d) ∧ w'.cell? ⟨p, 0, none⟩ = some (.int .i64 c.n) ∧ w'.cell? ⟨p, 1, none⟩ = some (.int .i64 c.bl) ∧ w'.cell? ⟨p, 2, none⟩ = some (.int .i64 c.tt) ∧ w'.cell? ⟨p, 3, none⟩ = some (.int .i64 c.cs) ∧ w'.cell? ⟨p, 4, none⟩ = some (.int .i64 c.cy) ∧ w'.cell? ⟨p, 5, none⟩ = some (.int .i64 c.cc) ∧ w'.cell? ⟨p, 6, none⟩ = some (.int .i64 c.cu) ∧ w'.cell? ⟨p, 7, none⟩ = some (.int .i64 c.ct) ∧ w'.cell? ⟨p, 8, none⟩ = some (.int .i64 c.cp) ∧ w'.cell? ⟨p, 9, none⟩ = some (.int .i64 id))) (by kernel_rfl) ?_ (fun hHeld => ?_)
        · exact ⟨b0, b1, b2, b3, b4, b5, b6, b7, b8, b9, b10, A2.c0, A2.c1, A2.c2, A2.c3, A2.c4, A2.c5, A2.c6, A2.c7, A2.c8, A2.c9⟩
        clear A2 b0 b1 b2 b3 b4 b5 b6 b7 b8 b9 b10
        refine hTk 0 17 hHeld ?_
        refine hTk 1 18 hHeld ?_
        refine hTk 2 19 hHeld ?_
        refine hTk 3 20 hHeld ?_
        refine hTk 4 21 hHeld ?_
        refine hTk 5 22 hHeld ?_
        refine hTk 6 23 hHeld ?_
        refine hTk 7 24 hHeld ?_
        refine hTk 8 25 hHeld ?_
        refine hVl 9 26 (.bool false) hHeld (fun wz hSw => ?_) ?_
        · try dsimp only at hSw
          go_simp
        refine hTk 10 27 hHeld ?_
        refine hTk 11 28 hHeld ?_
        refine hTk 12 29 hHeld ?_
        refine hTk 13 30 hHeld ?_
        refine hTk 14 31 hHeld ?_
        refine hTk 15 32 hHeld ?_
        refine hTk 16 33 hHeld ?_
        refine hNo 17 fun K hK => ?_
        go_simp
        go_at_call 40
        refine (check_c c.n c.bl c.tt c.cs c.cy c.cc c.cu c.ct c.cp l.k l.a l.b l.q l.s l.w l.r l.n l.o l.h l.d _ (hide (hT2.out.step (Step.of_below (F := fun _ => False) (belowN (Below.refl _ _) 1)) (fun h => h))) z hz).mono ?_
        rintro e w3 ⟨rfl, hb3⟩
        have Q3 : Hid (At3 w w3 p B Fc Fc c id N D l d0 d1 d2 kl kd R) := hide (Q2.out.below (((Below.refl _ _).drew).trans hb3))
        have A3 := Q3.out.n.at'
        obtain ⟨b0, b1, b2, b3, b4, b5, b6, b7, b8, b9, b10⟩ := lt_at Q3.out.x.l
        refine hK.out _ _ ?_ fun hHeld => ?_
        · exact ⟨b0, b1, b2, b3, b4, b5, b6, b7, b8, b9, b10, A3.c0, A3.c1, A3.c2, A3.c3, A3.c4, A3.c5, A3.c6, A3.c7, A3.c8, A3.c9⟩
        clear hK K
        try simp only [Act.put, za, zb, zc]
        clear A3 hb3 hT2 Q2
        refine hVl 18 35 (.bool false) hHeld (fun wz hSw => ?_) ?_
        · try dsimp only at hSw
          go_simp
        refine hTk 19 36 hHeld ?_
        refine wpAnyH_done (by kernel_rfl) (NoPanic.normal ?_) _
        clear hHeld
        obtain ⟨d0e, d1e, d2e⟩ : w3.cell? ⟨kd, 0, none⟩ = some (.int .i64 d0) ∧ w3.cell? ⟨kd, 1, none⟩ = some (.int .i64 d1) ∧ w3.cell? ⟨kd, 2, none⟩ = some (.int .i64 d2) := ⟨cell_of_row _ _ _ _ _ _ Q3.out.x.d, cell_of_row _ _ _ _ _ _ Q3.out.x.d, cell_of_row _ _ _ _ _ _ Q3.out.x.d⟩
        have hl3 := Q3.out.x.hi1
        have hd3 := Q3.out.x.hi2
        have hR3 := Q3.out.x.hi3
        go_wp2_with (go_at_call 82; refine (ndTkTok_c p B Fc c id N D l d0 d1 d2 _ Q3.out.n hN1 hq64 hop htok.1 (by omega) L hLk M hMk).mono ?_; rintro e w5 ⟨v1, v2, rfl, Fc7, g1, g2, hO⟩; obtain ⟨ao1, cap1, e1, -⟩ := _root_.id hO.own; subst e1; obtain ⟨ao2, cap2, e2, -⟩ := _root_.id hO.dn; subst e2; have Q5 := hide (Q3.out.step hO.nd hO.st); replace hO := hide hO; obtain ⟨r0, r1, zz⟩ := or_at Q5.out.x.r; have hR5 := Q5.out.x.hi3)
        refine bodyPost_ret (v := .agg #[.slice ao1 L.length cap1, .slice ao2 (List.length M) cap2]) (by simp [results, Tryz.results17, go_sem, *]; done) rfl ⟨_, _, rfl, Fc7, g1, g2, ?_⟩
        have hn1 := hO.out.new
        have hs3 := Q3.out.s.fr.size
        have hne := hO.out.ne
        rw [hDk]
        exact out_fin Q5.out.x hO.out.own hO.out.dn (by omega) (by omega) (fun h => ⟨(hne h).1, by have := (hne h).2; omega, by have := (hne h).2; omega⟩) (Q5.out.n.mono (by omega)) Q5.out.s hO.out.nf1 hO.out.nf2
      · obtain ⟨h1, h2, h3⟩ := cmpF ez
        have htk : tkOk c id l = false := by unfold tkOk; rw [show lerr c l = z from hz.out]; simp [h1]
        obtain rfl : [] = L := by rw [← hL']; unfold tkL; rw [htk]; rfl
        obtain rfl : [] = M := by rw [← hM']; unfold tkN; rw [htk]; rfl
        have hD2 : nxTake c id D l d0 d1 = D := by unfold nxTake; rw [htk]; rfl
        rw [hD2]
        replace ez := hide ez
        clear h
        replace k1 := hide k1
        go_enter Tryz.func17, Tryz.ntmps17
        go_wp2_with fail
        refine name_world ?_
        intro V hV
        have hX : Hid (Bx w V (Fa p B Fc) l d0 d1 d2 w.heap.size (w.heap.size + 1) (w.heap.size + 1 + 1)) := by rw [← hV]; exact hide (bx_new w _ hFw.out l d0 d1 d2)
        have hB : Hid (Below w.heap.size w V) := by rw [← hV]; exact hide (by all_goals exact belEnd)
        have hN := hide (hH.out.below hB.out)
        obtain ⟨R, hRe⟩ : ∃ R, Hid (w.heap.size + 1 + 1 = R) := ⟨_, rfl⟩
        obtain ⟨kd, hde⟩ : ∃ kd, Hid (w.heap.size + 1 = kd) := ⟨_, rfl⟩
        obtain ⟨kl, hle⟩ : ∃ kl, Hid (w.heap.size = kl) := ⟨_, rfl⟩
        rw [hRe.out, hde.out, hle.out] at hX
        rw [hRe.out, hde.out, hle.out]
        clear hV
        have b0 := (lt_at hX.out.l).c0
        go_wp2_with fail
        refine wp_region_noPanic ?_
        refine wp_region_held_drew (S := (fun w' => w'.cell? ⟨kl, 0, none⟩ = some (.int .i64 l.k))) (by kernel_rfl) ?_ (fun hHeld => ?_)
        · exact b0
        refine hTk 0 10 hHeld ?_
        refine hTk 2 12 hHeld ?_
        refine hTk 3 13 hHeld ?_
        refine hNo 1 fun K hK => ?_
        go_simp
        go_at_call 39
        refine (ndDoers_c p _).mono ?_
        rintro e w2 ⟨m, rfl, hm, hb2⟩
        have hBw2 : Below V.heap.size V w2 := ((Below.refl _ _).drew).trans hb2
        have Q2 := hide ((At3.mk hN.out hX.out (Step.of_below hB.out)).below hBw2)
        have hT2 : Hid (Tab w2) := hide (hT.out.step ((Step.refl (fun _ => False) w).trans (Step.of_below (hB.out.trans (hBw2.mono hB.out.size)))) (fun h => h))
        have lk := hm.lookOk (t := tD) Tryz.underlying109 zeroFE hlk true (by simp [k1.out]) w2 rfl
        rw [show dF p l.k = mvV 82 p by simp [dF, updV, k1.out]] at lk
        dsimp only [tD, mvV] at lk
        clear hb2 hBw2 hX hB hN
        have b0 := (lt_at Q2.out.x.l).c0
        refine hK.out _ _ ?_ fun hHeld => ?_
        · exact b0
        clear hK K
        try simp only [Act.put, za, zb, zc]
        refine hNo 4 fun K hK => ?_
        go_simp
        refine hK.out _ _ ?_ fun hHeld => ?_
        · exact b0
        clear hK K
        try simp only [Act.put, za, zb, zc]
        clear lk hm
        refine hTk 5 9 hHeld ?_
        refine hTk 6 15 hHeld ?_
        refine hTk 7 16 hHeld ?_
        refine hTk 8 7 hHeld ?_
        refine hTk 9 8 hHeld ?_
        refine wpAnyH_done (by kernel_rfl) (NoPanic.normal ?_) _
        clear hHeld
        go_wp2_with fail
        have A2 := Q2.out.n.at'
        obtain ⟨b0, b1, b2, b3, b4, b5, b6, b7, b8, b9, b10⟩ := lt_at Q2.out.x.l
        go_wp2_with fail
        refine wp_region_noPanic ?_
        refine wp_region_held_drew (S := (fun w' => w'.cell? ⟨kl, 0, none⟩ = some (.int .i64 l.k) ∧ w'.cell? ⟨kl, 1, none⟩ = some (.int .i64 l.a) ∧ w'.cell? ⟨kl, 2, none⟩ = some (.int .i64 l.b) ∧ w'.cell? ⟨kl, 3, none⟩ = some (.int .i64 l.q) ∧ w'.cell? ⟨kl, 4, none⟩ = some (.int .i64 l.s) ∧ w'.cell? ⟨kl, 5, none⟩ = some (.int .i64 l.w) ∧ w'.cell? ⟨kl, 6, none⟩ = some (.bool l.r) ∧ w'.cell? ⟨kl, 7, none⟩ = some (.int .i64 l.n) ∧ w'.cell? ⟨kl, 8, none⟩ = some (.bool l.o) ∧ w'.cell? ⟨kl, 9, none⟩ = some (.bool l.h) ∧ w'.cell? ⟨kl, 10, none⟩ = some (.int .i64 l.d) ∧ w'.cell? ⟨p, 0, none⟩ = some (.int .i64 c.n) ∧ w'.cell? ⟨p, 1, none⟩ = some (.int .i64 c.bl) ∧ w'.cell? ⟨p, 2, none⟩ = some (.int .i64 c.tt) ∧ w'.cell? ⟨p, 3, none⟩ = some (.int .i64 c.cs) ∧ w'.cell? ⟨p, 4, none⟩ = some (.int .i64 c.cy) ∧ w'.cell? ⟨p, 5, none⟩ = some (.int .i64 c.cc) ∧ w'.cell? ⟨p, 6, none⟩ = some (.int .i64 c.cu) ∧ w'.cell? ⟨p, 7, none⟩ = some (.int .i64 c.ct) ∧ w'.cell? ⟨p, 8, none⟩ = some (.int .i64 c.cp) ∧ w'.cell? ⟨p, 9, none⟩ = some (.int .i64 id))) (by kernel_rfl) ?_ (fun hHeld => ?_)
        · exact ⟨b0, b1, b2, b3, b4, b5, b6, b7, b8, b9, b10, A2.c0, A2.c1, A2.c2, A2.c3, A2.c4, A2.c5, A2.c6, A2.c7, A2.c8, A2.c9⟩
        clear A2 b0 b1 b2 b3 b4 b5 b6 b7 b8 b9 b10
        refine hTk 0 17 hHeld ?_
        refine hTk 1 18 hHeld ?_
        refine hTk 2 19 hHeld ?_
        refine hTk 3 20 hHeld ?_
        refine hTk 4 21 hHeld ?_
        refine hTk 5 22 hHeld ?_
        refine hTk 6 23 hHeld ?_
        refine hTk 7 24 hHeld ?_
        refine hTk 8 25 hHeld ?_
        refine hVl 9 26 (.bool false) hHeld (fun wz hSw => ?_) ?_
        · try dsimp only at hSw
          go_simp
        refine hTk 10 27 hHeld ?_
        refine hTk 11 28 hHeld ?_
        refine hTk 12 29 hHeld ?_
        refine hTk 13 30 hHeld ?_
        refine hTk 14 31 hHeld ?_
        refine hTk 15 32 hHeld ?_
        refine hTk 16 33 hHeld ?_
        refine hNo 17 fun K hK => ?_
        go_simp
        go_at_call 40
        refine (check_c c.n c.bl c.tt c.cs c.cy c.cc c.cu c.ct c.cp l.k l.a l.b l.q l.s l.w l.r l.n l.o l.h l.d _ (hide (hT2.out.step (Step.of_below (F := fun _ => False) (belowN (Below.refl _ _) 1)) (fun h => h))) z hz).mono ?_
        rintro e w3 ⟨rfl, hb3⟩
        have Q3 : Hid (At3 w w3 p B Fc Fc c id N D l d0 d1 d2 kl kd R) := hide (Q2.out.below (((Below.refl _ _).drew).trans hb3))
        have A3 := Q3.out.n.at'
        obtain ⟨b0, b1, b2, b3, b4, b5, b6, b7, b8, b9, b10⟩ := lt_at Q3.out.x.l
        refine hK.out _ _ ?_ fun hHeld => ?_
        · exact ⟨b0, b1, b2, b3, b4, b5, b6, b7, b8, b9, b10, A3.c0, A3.c1, A3.c2, A3.c3, A3.c4, A3.c5, A3.c6, A3.c7, A3.c8, A3.c9⟩
        clear hK K
        try simp only [Act.put, za, zb, zc]
        clear A3 hb3 hT2 Q2
        refine hVl 18 35 (.bool true) hHeld (fun wz hSw => ?_) ?_
        · try dsimp only at hSw
          go_simp
        refine hTk 19 36 hHeld ?_
        refine wpAnyH_done (by kernel_rfl) (NoPanic.normal ?_) _
        clear hHeld
        obtain ⟨r0, r1, zz⟩ := or_at Q3.out.x.r
        have hR3 := Q3.out.x.hi3
        go_wp2_with fail
        refine bodyPost_ret (v := .agg #[.slice none 0 0, .slice none 0 0]) (by simp [results, Tryz.results17, go_sem, *]; done) rfl ⟨_, _, rfl, Fc, w.heap.size, w.heap.size, ?_⟩
        have hlo := Q3.out.x.lo1
        have hls := Q3.out.x.hi1
        exact out_fin Q3.out.x (own_nilT (by omega)) (view_nilD _ _) (Nat.le_refl _) (by have := hRe.out; omega) (fun h => absurd rfl h) (Q3.out.n.mono (by omega)) Q3.out.s (fun e => by have := hFw.out _ e; omega) (fun h => absurd rfl h)
    · obtain ⟨f1, f2, f3⟩ := cmpF eb
      have htk : tkOk c id l = false := by unfold tkOk; simp [f1]
      obtain rfl : [] = L := by rw [← hL']; unfold tkL; rw [htk]; rfl
      obtain rfl : [] = M := by rw [← hM']; unfold tkN; rw [htk]; rfl
      have hD2 : nxTake c id D l d0 d1 = D := by unfold nxTake; rw [htk]; rfl
      rw [hD2]
      replace eb := hide eb
      clear h
      replace k1 := hide k1
      go_enter Tryz.func17, Tryz.ntmps17
      go_wp2_with fail
      refine name_world ?_
      intro V hV
      have hX : Hid (Bx w V (Fa p B Fc) l d0 d1 d2 w.heap.size (w.heap.size + 1) (w.heap.size + 1 + 1)) := by rw [← hV]; exact hide (bx_new w _ hFw.out l d0 d1 d2)
      have hB : Hid (Below w.heap.size w V) := by rw [← hV]; exact hide (by all_goals exact belEnd)
      have hN := hide (hH.out.below hB.out)
      obtain ⟨R, hRe⟩ : ∃ R, Hid (w.heap.size + 1 + 1 = R) := ⟨_, rfl⟩
      obtain ⟨kd, hde⟩ : ∃ kd, Hid (w.heap.size + 1 = kd) := ⟨_, rfl⟩
      obtain ⟨kl, hle⟩ : ∃ kl, Hid (w.heap.size = kl) := ⟨_, rfl⟩
      rw [hRe.out, hde.out, hle.out] at hX
      rw [hRe.out, hde.out, hle.out]
      clear hV
      have b0 := (lt_at hX.out.l).c0
      go_wp2_with fail
      refine wp_region_noPanic ?_
      refine wp_region_held_drew (S := (fun w' => w'.cell? ⟨kl, 0, none⟩ = some (.int .i64 l.k))) (by kernel_rfl) ?_ (fun hHeld => ?_)
      · exact b0
      refine hTk 0 10 hHeld ?_
      refine hTk 2 12 hHeld ?_
      refine hTk 3 13 hHeld ?_
      refine hNo 1 fun K hK => ?_
      go_simp
      go_at_call 39
      refine (ndDoers_c p _).mono ?_
      rintro e w2 ⟨m, rfl, hm, hb2⟩
      have hBw2 : Below V.heap.size V w2 := ((Below.refl _ _).drew).trans hb2
      have Q2 := hide ((At3.mk hN.out hX.out (Step.of_below hB.out)).below hBw2)
      have hT2 : Hid (Tab w2) := hide (hT.out.step ((Step.refl (fun _ => False) w).trans (Step.of_below (hB.out.trans (hBw2.mono hB.out.size)))) (fun h => h))
      have lk := hm.lookOk (t := tD) Tryz.underlying109 zeroFE hlk true (by simp [k1.out]) w2 rfl
      rw [show dF p l.k = mvV 82 p by simp [dF, updV, k1.out]] at lk
      dsimp only [tD, mvV] at lk
      clear hb2 hBw2 hX hB hN
      have b0 := (lt_at Q2.out.x.l).c0
      refine hK.out _ _ ?_ fun hHeld => ?_
      · exact b0
      clear hK K
      try simp only [Act.put, za, zb, zc]
      refine hNo 4 fun K hK => ?_
      go_simp
      refine hK.out _ _ ?_ fun hHeld => ?_
      · exact b0
      clear hK K
      try simp only [Act.put, za, zb, zc]
      clear lk hm
      refine hTk 5 9 hHeld ?_
      refine hTk 6 15 hHeld ?_
      refine hTk 7 16 hHeld ?_
      refine hTk 8 7 hHeld ?_
      refine hTk 9 8 hHeld ?_
      refine wpAnyH_done (by kernel_rfl) (NoPanic.normal ?_) _
      clear hHeld
      go_wp2_with fail
      go_wp2_with fail
      refine wp_region_noPanic ?_
      refine wp_region_held_drew (S := (fun w' => w'.cell? ⟨kl, 2, none⟩ = some (.int .i64 l.b) ∧ w'.cell? ⟨p, 9, none⟩ = some (.int .i64 id))) (by kernel_rfl) ?_ (fun hHeld => ?_)
      · exact ⟨(lt_at Q2.out.x.l).c2, Q2.out.n.at'.c9⟩
      refine hTk 0 17 hHeld ?_
      refine hTk 1 18 hHeld ?_
      refine hTk 2 19 hHeld ?_
      refine hTk 3 20 hHeld ?_
      refine hTk 4 21 hHeld ?_
      refine hTk 5 22 hHeld ?_
      refine hTk 6 23 hHeld ?_
      refine hTk 7 24 hHeld ?_
      refine hTk 8 25 hHeld ?_
      refine hVl 9 26 (.bool true) hHeld (fun wz hSw => ?_) ?_
      · try dsimp only at hSw
        go_simp
      refine hTk 10 27 hHeld ?_
      refine hTk 11 28 hHeld ?_
      refine hSk 12 29 hHeld ?_
      refine hSk 13 30 hHeld ?_
      refine hSk 14 31 hHeld ?_
      refine hSk 15 32 hHeld ?_
      refine hSk 16 33 hHeld ?_
      refine hSk 17 34 hHeld ?_
      refine hSk 18 35 hHeld ?_
      refine hTk 19 36 hHeld ?_
      refine wpAnyH_done (by kernel_rfl) (NoPanic.normal ?_) _
      clear hHeld
      obtain ⟨r0, r1, z⟩ := or_at Q2.out.x.r
      have hR3 := Q2.out.x.hi3
      go_wp2_with fail
      refine bodyPost_ret (v := .agg #[.slice none 0 0, .slice none 0 0]) (by simp [results, Tryz.results17, go_sem, *]; done) rfl ⟨_, _, rfl, Fc, w.heap.size, w.heap.size, ?_⟩
      have hlo := Q2.out.x.lo1
      have hls := Q2.out.x.hi1
      have Q3 := Q2.out.below (V' := w2.drewN 1) (belowN (Below.refl _ _) 1)
      exact out_fin Q3.x (own_nilT (by show w.heap.size < w2.heap.size; omega)) (view_nilD _ _) (Nat.le_refl _) (by have := hRe.out; omega) (fun h => absurd rfl h) (Q3.n.mono (by omega)) Q3.s (fun e => by have := hFw.out _ e; omega) (fun h => absurd rfl h)
  by_cases k2 : l.k = 2
  · skip
    by_cases eb : l.b = id
    · obtain ⟨f1, f2, f3⟩ := cmpT eb
      replace eb := hide eb
      by_cases ez : z = 0
      · obtain ⟨h1, h2, h3⟩ := cmpT ez
        have hle0 : lerr c l = 0 := by rw [← hz.out] at ez; exact ez
        have htk : tkOk c id l = true := by unfold tkOk; rw [hle0]; simp [f1]
        have hqq := lerr_q hle0
        have hbl := h.ok.b1
        have hq64 : I64 l.q := ⟨by omega, by omega⟩
        obtain rfl : [] = M := (by rw [← hM']; unfold tkN; rw [htk, if_pos rfl, if_neg k1]); have hLk : Hid (ansL c id D l d0 d1 = L) := hide (by rw [← hL']; unfold tkL; rw [htk, if_pos rfl, if_neg k1, if_pos k2]); have hDk : nxTake c id D l d0 d1 = nxAns c id D l d0 d1 := by unfold nxTake; rw [htk, if_pos rfl, if_neg k1, if_pos k2]
        replace ez := hide ez
        clear h
        replace k2 := hide k2
        go_enter Tryz.func17, Tryz.ntmps17
        go_wp2_with fail
        refine name_world ?_
        intro V hV
        have hX : Hid (Bx w V (Fa p B Fc) l d0 d1 d2 w.heap.size (w.heap.size + 1) (w.heap.size + 1 + 1)) := by rw [← hV]; exact hide (bx_new w _ hFw.out l d0 d1 d2)
        have hB : Hid (Below w.heap.size w V) := by rw [← hV]; exact hide (by all_goals exact belEnd)
        have hN := hide (hH.out.below hB.out)
        obtain ⟨R, hRe⟩ : ∃ R, Hid (w.heap.size + 1 + 1 = R) := ⟨_, rfl⟩
        obtain ⟨kd, hde⟩ : ∃ kd, Hid (w.heap.size + 1 = kd) := ⟨_, rfl⟩
        obtain ⟨kl, hle⟩ : ∃ kl, Hid (w.heap.size = kl) := ⟨_, rfl⟩
        rw [hRe.out, hde.out, hle.out] at hX
        rw [hRe.out, hde.out, hle.out]
        clear hV
        have b0 := (lt_at hX.out.l).c0
        go_wp2_with fail
        refine wp_region_noPanic ?_
        refine wp_region_held_drew (S := (fun w' => w'.cell? ⟨kl, 0, none⟩ = some (.int .i64 l.k))) (by kernel_rfl) ?_ (fun hHeld => ?_)
        · exact b0
        refine hTk 0 10 hHeld ?_
        refine hTk 2 12 hHeld ?_
        refine hTk 3 13 hHeld ?_
        refine hNo 1 fun K hK => ?_
        go_simp
        go_at_call 39
        refine (ndDoers_c p _).mono ?_
        rintro e w2 ⟨m, rfl, hm, hb2⟩
        have hBw2 : Below V.heap.size V w2 := ((Below.refl _ _).drew).trans hb2
        have Q2 := hide ((At3.mk hN.out hX.out (Step.of_below hB.out)).below hBw2)
        have hT2 : Hid (Tab w2) := hide (hT.out.step ((Step.refl (fun _ => False) w).trans (Step.of_below (hB.out.trans (hBw2.mono hB.out.size)))) (fun h => h))
        have lk := hm.lookOk (t := tD) Tryz.underlying109 zeroFE hlk true (by simp [k2.out]) w2 rfl
        rw [show dF p l.k = mvV 83 p by simp [dF, updV, k2.out]] at lk
        dsimp only [tD, mvV] at lk
        clear hb2 hBw2 hX hB hN
        have b0 := (lt_at Q2.out.x.l).c0
        refine hK.out _ _ ?_ fun hHeld => ?_
        · exact b0
        clear hK K
        try simp only [Act.put, za, zb, zc]
        refine hNo 4 fun K hK => ?_
        go_simp
        refine hK.out _ _ ?_ fun hHeld => ?_
        · exact b0
        clear hK K
        try simp only [Act.put, za, zb, zc]
        clear lk hm
        refine hTk 5 9 hHeld ?_
        refine hTk 6 15 hHeld ?_
        refine hTk 7 16 hHeld ?_
        refine hTk 8 7 hHeld ?_
        refine hTk 9 8 hHeld ?_
        refine wpAnyH_done (by kernel_rfl) (NoPanic.normal ?_) _
        clear hHeld
        go_wp2_with fail
        have A2 := Q2.out.n.at'
        obtain ⟨b0, b1, b2, b3, b4, b5, b6, b7, b8, b9, b10⟩ := lt_at Q2.out.x.l
        go_wp2_with fail
        refine wp_region_noPanic ?_
        refine wp_region_held_drew (S := (fun w' => w'.cell? ⟨kl, 0, none⟩ = some (.int .i64 l.k) ∧ w'.cell? ⟨kl, 1, none⟩ = some (.int .i64 l.a) ∧ w'.cell? ⟨kl, 2, none⟩ = some (.int .i64 l.b) ∧ w'.cell? ⟨kl, 3, none⟩ = some (.int .i64 l.q) ∧ w'.cell? ⟨kl, 4, none⟩ = some (.int .i64 l.s) ∧ w'.cell? ⟨kl, 5, none⟩ = some (.int .i64 l.w) ∧ w'.cell? ⟨kl, 6, none⟩ = some (.bool l.r) ∧ w'.cell? ⟨kl, 7, none⟩ = some (.int .i64 l.n) ∧ w'.cell? ⟨kl, 8, none⟩ = some (.bool l.o) ∧ w'.cell? ⟨kl, 9, none⟩ = some (.bool l.h) ∧ w'.cell? ⟨kl, 10, none⟩ = some (.int .i64 l.d) ∧ w'.cell? ⟨p, 0, none⟩ = some (.int .i64 c.n) ∧ w'.cell? ⟨p, 1, none⟩ = some (.int .i64 c.bl) ∧ w'.cell? ⟨p, 2, none⟩ = some (.int .i64 c.tt) ∧ w'.cell? ⟨p, 3, none⟩ = some (.int .i64 c.cs) ∧ w'.cell? ⟨p, 4, none⟩ = some (.int .i64 c.cy) ∧ w'.cell? ⟨p, 5, none⟩ = some (.int .i64 c.cc) ∧ w'.cell? ⟨p, 6, none⟩ = some (.int .i64 c.cu) ∧ w'.cell? ⟨p, 7, none⟩ = some (.int .i64 c.ct) ∧ w'.cell? ⟨p, 8, none⟩ = some (.int .i64 c.cp) ∧ w'.cell? ⟨p, 9, none⟩ = some (.int .i64 id))) (by kernel_rfl) ?_ (fun hHeld => ?_)
        · exact ⟨b0, b1, b2, b3, b4, b5, b6, b7, b8, b9, b10, A2.c0, A2.c1, A2.c2, A2.c3, A2.c4, A2.c5, A2.c6, A2.c7, A2.c8, A2.c9⟩
        clear A2 b0 b1 b2 b3 b4 b5 b6 b7 b8 b9 b10
        refine hTk 0 17 hHeld ?_
        refine hTk 1 18 hHeld ?_
        refine hTk 2 19 hHeld ?_
        refine hTk 3 20 hHeld ?_
        refine hTk 4 21 hHeld ?_
        refine hTk 5 22 hHeld ?_
        refine hTk 6 23 hHeld ?_
        refine hTk 7 24 hHeld ?_
        refine hTk 8 25 hHeld ?_
        refine hVl 9 26 (.bool false) hHeld (fun wz hSw => ?_) ?_
        · try dsimp only at hSw
          go_simp
        refine hTk 10 27 hHeld ?_
        refine hTk 11 28 hHeld ?_
        refine hTk 12 29 hHeld ?_
        refine hTk 13 30 hHeld ?_
        refine hTk 14 31 hHeld ?_
        refine hTk 15 32 hHeld ?_
        refine hTk 16 33 hHeld ?_
        refine hNo 17 fun K hK => ?_
        go_simp
        go_at_call 40
        refine (check_c c.n c.bl c.tt c.cs c.cy c.cc c.cu c.ct c.cp l.k l.a l.b l.q l.s l.w l.r l.n l.o l.h l.d _ (hide (hT2.out.step (Step.of_below (F := fun _ => False) (belowN (Below.refl _ _) 1)) (fun h => h))) z hz).mono ?_
        rintro e w3 ⟨rfl, hb3⟩
        have Q3 : Hid (At3 w w3 p B Fc Fc c id N D l d0 d1 d2 kl kd R) := hide (Q2.out.below (((Below.refl _ _).drew).trans hb3))
        have A3 := Q3.out.n.at'
        obtain ⟨b0, b1, b2, b3, b4, b5, b6, b7, b8, b9, b10⟩ := lt_at Q3.out.x.l
        refine hK.out _ _ ?_ fun hHeld => ?_
        · exact ⟨b0, b1, b2, b3, b4, b5, b6, b7, b8, b9, b10, A3.c0, A3.c1, A3.c2, A3.c3, A3.c4, A3.c5, A3.c6, A3.c7, A3.c8, A3.c9⟩
        clear hK K
        try simp only [Act.put, za, zb, zc]
        clear A3 hb3 hT2 Q2
        refine hVl 18 35 (.bool false) hHeld (fun wz hSw => ?_) ?_
        · try dsimp only at hSw
          go_simp
        refine hTk 19 36 hHeld ?_
        refine wpAnyH_done (by kernel_rfl) (NoPanic.normal ?_) _
        clear hHeld
        obtain ⟨d0e, d1e, d2e⟩ : w3.cell? ⟨kd, 0, none⟩ = some (.int .i64 d0) ∧ w3.cell? ⟨kd, 1, none⟩ = some (.int .i64 d1) ∧ w3.cell? ⟨kd, 2, none⟩ = some (.int .i64 d2) := ⟨cell_of_row _ _ _ _ _ _ Q3.out.x.d, cell_of_row _ _ _ _ _ _ Q3.out.x.d, cell_of_row _ _ _ _ _ _ Q3.out.x.d⟩
        have hl3 := Q3.out.x.hi1
        have hd3 := Q3.out.x.hi2
        have hR3 := Q3.out.x.hi3
        go_wp2_with (go_at_call 83; refine (ndTkAs_c p B Fc c id N D l d0 d1 d2 _ Q3.out.n (by omega) hq64 L hLk).mono ?_; rintro e w5 ⟨v1, v2, rfl, Fc7, g1, g2, hO⟩; obtain ⟨ao1, cap1, e1, -⟩ := _root_.id hO.own; subst e1; obtain ⟨ao2, cap2, e2, -⟩ := _root_.id hO.dn; subst e2; have Q5 := hide (Q3.out.step hO.nd hO.st); replace hO := hide hO; obtain ⟨r0, r1, zz⟩ := or_at Q5.out.x.r; have hR5 := Q5.out.x.hi3)
        refine bodyPost_ret (v := .agg #[.slice ao1 L.length cap1, .slice ao2 (List.length ([] : List Dn)) cap2]) (by simp [results, Tryz.results17, go_sem, *]; done) rfl ⟨_, _, rfl, Fc7, g1, g2, ?_⟩
        have hn1 := hO.out.new
        have hs3 := Q3.out.s.fr.size
        have hne := hO.out.ne
        rw [hDk]
        exact out_fin Q5.out.x hO.out.own hO.out.dn (by omega) (by omega) (fun h => ⟨(hne h).1, by have := (hne h).2; omega, by have := (hne h).2; omega⟩) (Q5.out.n.mono (by omega)) Q5.out.s hO.out.nf1 hO.out.nf2
      · obtain ⟨h1, h2, h3⟩ := cmpF ez
        have htk : tkOk c id l = false := by unfold tkOk; rw [show lerr c l = z from hz.out]; simp [h1]
        obtain rfl : [] = L := by rw [← hL']; unfold tkL; rw [htk]; rfl
        obtain rfl : [] = M := by rw [← hM']; unfold tkN; rw [htk]; rfl
        have hD2 : nxTake c id D l d0 d1 = D := by unfold nxTake; rw [htk]; rfl
        rw [hD2]
        replace ez := hide ez
        clear h
        replace k2 := hide k2
        go_enter Tryz.func17, Tryz.ntmps17
        go_wp2_with fail
        refine name_world ?_
        intro V hV
        have hX : Hid (Bx w V (Fa p B Fc) l d0 d1 d2 w.heap.size (w.heap.size + 1) (w.heap.size + 1 + 1)) := by rw [← hV]; exact hide (bx_new w _ hFw.out l d0 d1 d2)
        have hB : Hid (Below w.heap.size w V) := by rw [← hV]; exact hide (by all_goals exact belEnd)
        have hN := hide (hH.out.below hB.out)
        obtain ⟨R, hRe⟩ : ∃ R, Hid (w.heap.size + 1 + 1 = R) := ⟨_, rfl⟩
        obtain ⟨kd, hde⟩ : ∃ kd, Hid (w.heap.size + 1 = kd) := ⟨_, rfl⟩
        obtain ⟨kl, hle⟩ : ∃ kl, Hid (w.heap.size = kl) := ⟨_, rfl⟩
        rw [hRe.out, hde.out, hle.out] at hX
        rw [hRe.out, hde.out, hle.out]
        clear hV
        have b0 := (lt_at hX.out.l).c0
        go_wp2_with fail
        refine wp_region_noPanic ?_
        refine wp_region_held_drew (S := (fun w' => w'.cell? ⟨kl, 0, none⟩ = some (.int .i64 l.k))) (by kernel_rfl) ?_ (fun hHeld => ?_)
        · exact b0
        refine hTk 0 10 hHeld ?_
        refine hTk 2 12 hHeld ?_
        refine hTk 3 13 hHeld ?_
        refine hNo 1 fun K hK => ?_
        go_simp
        go_at_call 39
        refine (ndDoers_c p _).mono ?_
        rintro e w2 ⟨m, rfl, hm, hb2⟩
        have hBw2 : Below V.heap.size V w2 := ((Below.refl _ _).drew).trans hb2
        have Q2 := hide ((At3.mk hN.out hX.out (Step.of_below hB.out)).below hBw2)
        have hT2 : Hid (Tab w2) := hide (hT.out.step ((Step.refl (fun _ => False) w).trans (Step.of_below (hB.out.trans (hBw2.mono hB.out.size)))) (fun h => h))
        have lk := hm.lookOk (t := tD) Tryz.underlying109 zeroFE hlk true (by simp [k2.out]) w2 rfl
        rw [show dF p l.k = mvV 83 p by simp [dF, updV, k2.out]] at lk
        dsimp only [tD, mvV] at lk
        clear hb2 hBw2 hX hB hN
        have b0 := (lt_at Q2.out.x.l).c0
        refine hK.out _ _ ?_ fun hHeld => ?_
        · exact b0
        clear hK K
        try simp only [Act.put, za, zb, zc]
        refine hNo 4 fun K hK => ?_
        go_simp
        refine hK.out _ _ ?_ fun hHeld => ?_
        · exact b0
        clear hK K
        try simp only [Act.put, za, zb, zc]
        clear lk hm
        refine hTk 5 9 hHeld ?_
        refine hTk 6 15 hHeld ?_
        refine hTk 7 16 hHeld ?_
        refine hTk 8 7 hHeld ?_
        refine hTk 9 8 hHeld ?_
        refine wpAnyH_done (by kernel_rfl) (NoPanic.normal ?_) _
        clear hHeld
        go_wp2_with fail
        have A2 := Q2.out.n.at'
        obtain ⟨b0, b1, b2, b3, b4, b5, b6, b7, b8, b9, b10⟩ := lt_at Q2.out.x.l
        go_wp2_with fail
        refine wp_region_noPanic ?_
        refine wp_region_held_drew (S := (fun w' => w'.cell? ⟨kl, 0, none⟩ = some (.int .i64 l.k) ∧ w'.cell? ⟨kl, 1, none⟩ = some (.int .i64 l.a) ∧ w'.cell? ⟨kl, 2, none⟩ = some (.int .i64 l.b) ∧ w'.cell? ⟨kl, 3, none⟩ = some (.int .i64 l.q) ∧ w'.cell? ⟨kl, 4, none⟩ = some (.int .i64 l.s) ∧ w'.cell? ⟨kl, 5, none⟩ = some (.int .i64 l.w) ∧ w'.cell? ⟨kl, 6, none⟩ = some (.bool l.r) ∧ w'.cell? ⟨kl, 7, none⟩ = some (.int .i64 l.n) ∧ w'.cell? ⟨kl, 8, none⟩ = some (.bool l.o) ∧ w'.cell? ⟨kl, 9, none⟩ = some (.bool l.h) ∧ w'.cell? ⟨kl, 10, none⟩ = some (.int .i64 l.d) ∧ w'.cell? ⟨p, 0, none⟩ = some (.int .i64 c.n) ∧ w'.cell? ⟨p, 1, none⟩ = some (.int .i64 c.bl) ∧ w'.cell? ⟨p, 2, none⟩ = some (.int .i64 c.tt) ∧ w'.cell? ⟨p, 3, none⟩ = some (.int .i64 c.cs) ∧ w'.cell? ⟨p, 4, none⟩ = some (.int .i64 c.cy) ∧ w'.cell? ⟨p, 5, none⟩ = some (.int .i64 c.cc) ∧ w'.cell? ⟨p, 6, none⟩ = some (.int .i64 c.cu) ∧ w'.cell? ⟨p, 7, none⟩ = some (.int .i64 c.ct) ∧ w'.cell? ⟨p, 8, none⟩ = some (.int .i64 c.cp) ∧ w'.cell? ⟨p, 9, none⟩ = some (.int .i64 id))) (by kernel_rfl) ?_ (fun hHeld => ?_)
        · exact ⟨b0, b1, b2, b3, b4, b5, b6, b7, b8, b9, b10, A2.c0, A2.c1, A2.c2, A2.c3, A2.c4, A2.c5, A2.c6, A2.c7, A2.c8, A2.c9⟩
        clear A2 b0 b1 b2 b3 b4 b5 b6 b7 b8 b9 b10
        refine hTk 0 17 hHeld ?_
        refine hTk 1 18 hHeld ?_
        refine hTk 2 19 hHeld ?_
        refine hTk 3 20 hHeld ?_
        refine hTk 4 21 hHeld ?_
        refine hTk 5 22 hHeld ?_
        refine hTk 6 23 hHeld ?_
        refine hTk 7 24 hHeld ?_
        refine hTk 8 25 hHeld ?_
        refine hVl 9 26 (.bool false) hHeld (fun wz hSw => ?_) ?_
        · try dsimp only at hSw
          go_simp
        refine hTk 10 27 hHeld ?_
        refine hTk 11 28 hHeld ?_
        refine hTk 12 29 hHeld ?_
        refine hTk 13 30 hHeld ?_
        refine hTk 14 31 hHeld ?_
        refine hTk 15 32 hHeld ?_
        refine hTk 16 33 hHeld ?_
        refine hNo 17 fun K hK => ?_
        go_simp
        go_at_call 40
        refine (check_c c.n c.bl c.tt c.cs c.cy c.cc c.cu c.ct c.cp l.k l.a l.b l.q l.s l.w l.r l.n l.o l.h l.d _ (hide (hT2.out.step (Step.of_below (F := fun _ => False) (belowN (Below.refl _ _) 1)) (fun h => h))) z hz).mono ?_
        rintro e w3 ⟨rfl, hb3⟩
        have Q3 : Hid (At3 w w3 p B Fc Fc c id N D l d0 d1 d2 kl kd R) := hide (Q2.out.below (((Below.refl _ _).drew).trans hb3))
        have A3 := Q3.out.n.at'
        obtain ⟨b0, b1, b2, b3, b4, b5, b6, b7, b8, b9, b10⟩ := lt_at Q3.out.x.l
        refine hK.out _ _ ?_ fun hHeld => ?_
        · exact ⟨b0, b1, b2, b3, b4, b5, b6, b7, b8, b9, b10, A3.c0, A3.c1, A3.c2, A3.c3, A3.c4, A3.c5, A3.c6, A3.c7, A3.c8, A3.c9⟩
        clear hK K
        try simp only [Act.put, za, zb, zc]
        clear A3 hb3 hT2 Q2
        refine hVl 18 35 (.bool true) hHeld (fun wz hSw => ?_) ?_
        · try dsimp only at hSw
          go_simp
        refine hTk 19 36 hHeld ?_
        refine wpAnyH_done (by kernel_rfl) (NoPanic.normal ?_) _
        clear hHeld
        obtain ⟨r0, r1, zz⟩ := or_at Q3.out.x.r
        have hR3 := Q3.out.x.hi3
        go_wp2_with fail
        refine bodyPost_ret (v := .agg #[.slice none 0 0, .slice none 0 0]) (by simp [results, Tryz.results17, go_sem, *]; done) rfl ⟨_, _, rfl, Fc, w.heap.size, w.heap.size, ?_⟩
        have hlo := Q3.out.x.lo1
        have hls := Q3.out.x.hi1
        exact out_fin Q3.out.x (own_nilT (by omega)) (view_nilD _ _) (Nat.le_refl _) (by have := hRe.out; omega) (fun h => absurd rfl h) (Q3.out.n.mono (by omega)) Q3.out.s (fun e => by have := hFw.out _ e; omega) (fun h => absurd rfl h)
    · obtain ⟨f1, f2, f3⟩ := cmpF eb
      have htk : tkOk c id l = false := by unfold tkOk; simp [f1]
      obtain rfl : [] = L := by rw [← hL']; unfold tkL; rw [htk]; rfl
      obtain rfl : [] = M := by rw [← hM']; unfold tkN; rw [htk]; rfl
      have hD2 : nxTake c id D l d0 d1 = D := by unfold nxTake; rw [htk]; rfl
      rw [hD2]
      replace eb := hide eb
      clear h
      replace k2 := hide k2
      go_enter Tryz.func17, Tryz.ntmps17
      go_wp2_with fail
      refine name_world ?_
      intro V hV
      have hX : Hid (Bx w V (Fa p B Fc) l d0 d1 d2 w.heap.size (w.heap.size + 1) (w.heap.size + 1 + 1)) := by rw [← hV]; exact hide (bx_new w _ hFw.out l d0 d1 d2)
      have hB : Hid (Below w.heap.size w V) := by rw [← hV]; exact hide (by all_goals exact belEnd)
      have hN := hide (hH.out.below hB.out)
      obtain ⟨R, hRe⟩ : ∃ R, Hid (w.heap.size + 1 + 1 = R) := ⟨_, rfl⟩
      obtain ⟨kd, hde⟩ : ∃ kd, Hid (w.heap.size + 1 = kd) := ⟨_, rfl⟩
      obtain ⟨kl, hle⟩ : ∃ kl, Hid (w.heap.size = kl) := ⟨_, rfl⟩
      rw [hRe.out, hde.out, hle.out] at hX
      rw [hRe.out, hde.out, hle.out]
      clear hV
      have b0 := (lt_at hX.out.l).c0
      go_wp2_with fail
      refine wp_region_noPanic ?_
      refine wp_region_held_drew (S := (fun w' => w'.cell? ⟨kl, 0, none⟩ = some (.int .i64 l.k))) (by kernel_rfl) ?_ (fun hHeld => ?_)
      · exact b0
      refine hTk 0 10 hHeld ?_
      refine hTk 2 12 hHeld ?_
      refine hTk 3 13 hHeld ?_
      refine hNo 1 fun K hK => ?_
      go_simp
      go_at_call 39
      refine (ndDoers_c p _).mono ?_
      rintro e w2 ⟨m, rfl, hm, hb2⟩
      have hBw2 : Below V.heap.size V w2 := ((Below.refl _ _).drew).trans hb2
      have Q2 := hide ((At3.mk hN.out hX.out (Step.of_below hB.out)).below hBw2)
      have hT2 : Hid (Tab w2) := hide (hT.out.step ((Step.refl (fun _ => False) w).trans (Step.of_below (hB.out.trans (hBw2.mono hB.out.size)))) (fun h => h))
      have lk := hm.lookOk (t := tD) Tryz.underlying109 zeroFE hlk true (by simp [k2.out]) w2 rfl
      rw [show dF p l.k = mvV 83 p by simp [dF, updV, k2.out]] at lk
      dsimp only [tD, mvV] at lk
      clear hb2 hBw2 hX hB hN
      have b0 := (lt_at Q2.out.x.l).c0
      refine hK.out _ _ ?_ fun hHeld => ?_
      · exact b0
      clear hK K
      try simp only [Act.put, za, zb, zc]
      refine hNo 4 fun K hK => ?_
      go_simp
      refine hK.out _ _ ?_ fun hHeld => ?_
      · exact b0
      clear hK K
      try simp only [Act.put, za, zb, zc]
      clear lk hm
      refine hTk 5 9 hHeld ?_
      refine hTk 6 15 hHeld ?_
      refine hTk 7 16 hHeld ?_
      refine hTk 8 7 hHeld ?_
      refine hTk 9 8 hHeld ?_
      refine wpAnyH_done (by kernel_rfl) (NoPanic.normal ?_) _
      clear hHeld
      go_wp2_with fail
      go_wp2_with fail
      refine wp_region_noPanic ?_
      refine wp_region_held_drew (S := (fun w' => w'.cell? ⟨kl, 2, none⟩ = some (.int .i64 l.b) ∧ w'.cell? ⟨p, 9, none⟩ = some (.int .i64 id))) (by kernel_rfl) ?_ (fun hHeld => ?_)
      · exact ⟨(lt_at Q2.out.x.l).c2, Q2.out.n.at'.c9⟩
      refine hTk 0 17 hHeld ?_
      refine hTk 1 18 hHeld ?_
      refine hTk 2 19 hHeld ?_
      refine hTk 3 20 hHeld ?_
      refine hTk 4 21 hHeld ?_
      refine hTk 5 22 hHeld ?_
      refine hTk 6 23 hHeld ?_
      refine hTk 7 24 hHeld ?_
      refine hTk 8 25 hHeld ?_
      refine hVl 9 26 (.bool true) hHeld (fun wz hSw => ?_) ?_
      · try dsimp only at hSw
        go_simp
      refine hTk 10 27 hHeld ?_
      refine hTk 11 28 hHeld ?_
      refine hSk 12 29 hHeld ?_
      refine hSk 13 30 hHeld ?_
      refine hSk 14 31 hHeld ?_
      refine hSk 15 32 hHeld ?_
      refine hSk 16 33 hHeld ?_
      refine hSk 17 34 hHeld ?_
      refine hSk 18 35 hHeld ?_
      refine hTk 19 36 hHeld ?_
      refine wpAnyH_done (by kernel_rfl) (NoPanic.normal ?_) _
      clear hHeld
      obtain ⟨r0, r1, z⟩ := or_at Q2.out.x.r
      have hR3 := Q2.out.x.hi3
      go_wp2_with fail
      refine bodyPost_ret (v := .agg #[.slice none 0 0, .slice none 0 0]) (by simp [results, Tryz.results17, go_sem, *]; done) rfl ⟨_, _, rfl, Fc, w.heap.size, w.heap.size, ?_⟩
      have hlo := Q2.out.x.lo1
      have hls := Q2.out.x.hi1
      have Q3 := Q2.out.below (V' := w2.drewN 1) (belowN (Below.refl _ _) 1)
      exact out_fin Q3.x (own_nilT (by show w.heap.size < w2.heap.size; omega)) (view_nilD _ _) (Nat.le_refl _) (by have := hRe.out; omega) (fun h => absurd rfl h) (Q3.n.mono (by omega)) Q3.s (fun e => by have := hFw.out _ e; omega) (fun h => absurd rfl h)
  by_cases k4 : l.k = 4
  · skip
    by_cases eb : l.b = id
    · obtain ⟨f1, f2, f3⟩ := cmpT eb
      replace eb := hide eb
      by_cases ez : z = 0
      · obtain ⟨h1, h2, h3⟩ := cmpT ez
        have hle0 : lerr c l = 0 := by rw [← hz.out] at ez; exact ez
        have htk : tkOk c id l = true := by unfold tkOk; rw [hle0]; simp [f1]
        have hqq := lerr_q hle0
        have hbl := h.ok.b1
        have hq64 : I64 l.q := ⟨by omega, by omega⟩
        obtain rfl : [] = M := (by rw [← hM']; unfold tkN; rw [htk, if_pos rfl, if_neg k1]); have hLk : Hid (acL c id D l = L) := hide (by rw [← hL']; unfold tkL; rw [htk, if_pos rfl, if_neg k1, if_neg k2, if_pos k4]); have hDk : nxTake c id D l d0 d1 = nxAc id D l := by unfold nxTake; rw [htk, if_pos rfl, if_neg k1, if_neg k2, if_pos k4]
        replace ez := hide ez
        clear h
        replace k4 := hide k4
        go_enter Tryz.func17, Tryz.ntmps17
        go_wp2_with fail
        refine name_world ?_
        intro V hV
        have hX : Hid (Bx w V (Fa p B Fc) l d0 d1 d2 w.heap.size (w.heap.size + 1) (w.heap.size + 1 + 1)) := by rw [← hV]; exact hide (bx_new w _ hFw.out l d0 d1 d2)
        have hB : Hid (Below w.heap.size w V) := by rw [← hV]; exact hide (by all_goals exact belEnd)
        have hN := hide (hH.out.below hB.out)
        obtain ⟨R, hRe⟩ : ∃ R, Hid (w.heap.size + 1 + 1 = R) := ⟨_, rfl⟩
        obtain ⟨kd, hde⟩ : ∃ kd, Hid (w.heap.size + 1 = kd) := ⟨_, rfl⟩
        obtain ⟨kl, hle⟩ : ∃ kl, Hid (w.heap.size = kl) := ⟨_, rfl⟩
        rw [hRe.out, hde.out, hle.out] at hX
        rw [hRe.out, hde.out, hle.out]
        clear hV
        have b0 := (lt_at hX.out.l).c0
        go_wp2_with fail
        refine wp_region_noPanic ?_
        refine wp_region_held_drew (S := (fun w' => w'.cell? ⟨kl, 0, none⟩ = some (.int .i64 l.k))) (by kernel_rfl) ?_ (fun hHeld => ?_)
        · exact b0
        refine hTk 0 10 hHeld ?_
        refine hTk 2 12 hHeld ?_
        refine hTk 3 13 hHeld ?_
        refine hNo 1 fun K hK => ?_
        go_simp
        go_at_call 39
        refine (ndDoers_c p _).mono ?_
        rintro e w2 ⟨m, rfl, hm, hb2⟩
        have hBw2 : Below V.heap.size V w2 := ((Below.refl _ _).drew).trans hb2
        have Q2 := hide ((At3.mk hN.out hX.out (Step.of_below hB.out)).below hBw2)
        have hT2 : Hid (Tab w2) := hide (hT.out.step ((Step.refl (fun _ => False) w).trans (Step.of_below (hB.out.trans (hBw2.mono hB.out.size)))) (fun h => h))
        have lk := hm.lookOk (t := tD) Tryz.underlying109 zeroFE hlk true (by simp [k4.out]) w2 rfl
        rw [show dF p l.k = mvV 84 p by simp [dF, updV, k4.out]] at lk
        dsimp only [tD, mvV] at lk
        clear hb2 hBw2 hX hB hN
        have b0 := (lt_at Q2.out.x.l).c0
        refine hK.out _ _ ?_ fun hHeld => ?_
        · exact b0
        clear hK K
        try simp only [Act.put, za, zb, zc]
        refine hNo 4 fun K hK => ?_
        go_simp
        refine hK.out _ _ ?_ fun hHeld => ?_
        · exact b0
        clear hK K
        try simp only [Act.put, za, zb, zc]
        clear lk hm
        refine hTk 5 9 hHeld ?_
        refine hTk 6 15 hHeld ?_
        refine hTk 7 16 hHeld ?_
        refine hTk 8 7 hHeld ?_
        refine hTk 9 8 hHeld ?_
        refine wpAnyH_done (by kernel_rfl) (NoPanic.normal ?_) _
        clear hHeld
        go_wp2_with fail
        have A2 := Q2.out.n.at'
        obtain ⟨b0, b1, b2, b3, b4, b5, b6, b7, b8, b9, b10⟩ := lt_at Q2.out.x.l
        go_wp2_with fail
        refine wp_region_noPanic ?_
        refine wp_region_held_drew (S := (fun w' => w'.cell? ⟨kl, 0, none⟩ = some (.int .i64 l.k) ∧ w'.cell? ⟨kl, 1, none⟩ = some (.int .i64 l.a) ∧ w'.cell? ⟨kl, 2, none⟩ = some (.int .i64 l.b) ∧ w'.cell? ⟨kl, 3, none⟩ = some (.int .i64 l.q) ∧ w'.cell? ⟨kl, 4, none⟩ = some (.int .i64 l.s) ∧ w'.cell? ⟨kl, 5, none⟩ = some (.int .i64 l.w) ∧ w'.cell? ⟨kl, 6, none⟩ = some (.bool l.r) ∧ w'.cell? ⟨kl, 7, none⟩ = some (.int .i64 l.n) ∧ w'.cell? ⟨kl, 8, none⟩ = some (.bool l.o) ∧ w'.cell? ⟨kl, 9, none⟩ = some (.bool l.h) ∧ w'.cell? ⟨kl, 10, none⟩ = some (.int .i64 l.d) ∧ w'.cell? ⟨p, 0, none⟩ = some (.int .i64 c.n) ∧ w'.cell? ⟨p, 1, none⟩ = some (.int .i64 c.bl) ∧ w'.cell? ⟨p, 2, none⟩ = some (.int .i64 c.tt) ∧ w'.cell? ⟨p, 3, none⟩ = some (.int .i64 c.cs) ∧ w'.cell? ⟨p, 4, none⟩ = some (.int .i64 c.cy) ∧ w'.cell? ⟨p, 5, none⟩ = some (.int .i64 c.cc) ∧ w'.cell? ⟨p, 6, none⟩ = some (.int .i64 c.cu) ∧ w'.cell? ⟨p, 7, none⟩ = some (.int .i64 c.ct) ∧ w'.cell? ⟨p, 8, none⟩ = some (.int .i64 c.cp) ∧ w'.cell? ⟨p, 9, none⟩ = some (.int .i64 id))) (by kernel_rfl) ?_ (fun hHeld => ?_)
        · exact ⟨b0, b1, b2, b3, b4, b5, b6, b7, b8, b9, b10, A2.c0, A2.c1, A2.c2, A2.c3, A2.c4, A2.c5, A2.c6, A2.c7, A2.c8, A2.c9⟩
        clear A2 b0 b1 b2 b3 b4 b5 b6 b7 b8 b9 b10
        refine hTk 0 17 hHeld ?_
        refine hTk 1 18 hHeld ?_
        refine hTk 2 19 hHeld ?_
        refine hTk 3 20 hHeld ?_
        refine hTk 4 21 hHeld ?_
        refine hTk 5 22 hHeld ?_
        refine hTk 6 23 hHeld ?_
        refine hTk 7 24 hHeld ?_
        refine hTk 8 25 hHeld ?_
        refine hVl 9 26 (.bool false) hHeld (fun wz hSw => ?_) ?_
        · try dsimp only at hSw
          go_simp
        refine hTk 10 27 hHeld ?_
        refine hTk 11 28 hHeld ?_
        refine hTk 12 29 hHeld ?_
        refine hTk 13 30 hHeld ?_
        refine hTk 14 31 hHeld ?_
        refine hTk 15 32 hHeld ?_
        refine hTk 16 33 hHeld ?_
        refine hNo 17 fun K hK => ?_
        go_simp
        go_at_call 40
        refine (check_c c.n c.bl c.tt c.cs c.cy c.cc c.cu c.ct c.cp l.k l.a l.b l.q l.s l.w l.r l.n l.o l.h l.d _ (hide (hT2.out.step (Step.of_below (F := fun _ => False) (belowN (Below.refl _ _) 1)) (fun h => h))) z hz).mono ?_
        rintro e w3 ⟨rfl, hb3⟩
        have Q3 : Hid (At3 w w3 p B Fc Fc c id N D l d0 d1 d2 kl kd R) := hide (Q2.out.below (((Below.refl _ _).drew).trans hb3))
        have A3 := Q3.out.n.at'
        obtain ⟨b0, b1, b2, b3, b4, b5, b6, b7, b8, b9, b10⟩ := lt_at Q3.out.x.l
        refine hK.out _ _ ?_ fun hHeld => ?_
        · exact ⟨b0, b1, b2, b3, b4, b5, b6, b7, b8, b9, b10, A3.c0, A3.c1, A3.c2, A3.c3, A3.c4, A3.c5, A3.c6, A3.c7, A3.c8, A3.c9⟩
        clear hK K
        try simp only [Act.put, za, zb, zc]
        clear A3 hb3 hT2 Q2
        refine hVl 18 35 (.bool false) hHeld (fun wz hSw => ?_) ?_
        · try dsimp only at hSw
          go_simp
        refine hTk 19 36 hHeld ?_
        refine wpAnyH_done (by kernel_rfl) (NoPanic.normal ?_) _
        clear hHeld
        obtain ⟨d0e, d1e, d2e⟩ : w3.cell? ⟨kd, 0, none⟩ = some (.int .i64 d0) ∧ w3.cell? ⟨kd, 1, none⟩ = some (.int .i64 d1) ∧ w3.cell? ⟨kd, 2, none⟩ = some (.int .i64 d2) := ⟨cell_of_row _ _ _ _ _ _ Q3.out.x.d, cell_of_row _ _ _ _ _ _ Q3.out.x.d, cell_of_row _ _ _ _ _ _ Q3.out.x.d⟩
        have hl3 := Q3.out.x.hi1
        have hd3 := Q3.out.x.hi2
        have hR3 := Q3.out.x.hi3
        go_wp2_with (go_at_call 84; refine (ndTkAc_c p B Fc c id N D l d0 d1 d2 _ Q3.out.n (by omega) hq64 L hLk).mono ?_; rintro e w5 ⟨v1, v2, rfl, Fc7, g1, g2, hO⟩; obtain ⟨ao1, cap1, e1, -⟩ := _root_.id hO.own; subst e1; obtain ⟨ao2, cap2, e2, -⟩ := _root_.id hO.dn; subst e2; have Q5 := hide (Q3.out.step hO.nd hO.st); replace hO := hide hO; obtain ⟨r0, r1, zz⟩ := or_at Q5.out.x.r; have hR5 := Q5.out.x.hi3)
        refine bodyPost_ret (v := .agg #[.slice ao1 L.length cap1, .slice ao2 (List.length ([] : List Dn)) cap2]) (by simp [results, Tryz.results17, go_sem, *]; done) rfl ⟨_, _, rfl, Fc7, g1, g2, ?_⟩
        have hn1 := hO.out.new
        have hs3 := Q3.out.s.fr.size
        have hne := hO.out.ne
        rw [hDk]
        exact out_fin Q5.out.x hO.out.own hO.out.dn (by omega) (by omega) (fun h => ⟨(hne h).1, by have := (hne h).2; omega, by have := (hne h).2; omega⟩) (Q5.out.n.mono (by omega)) Q5.out.s hO.out.nf1 hO.out.nf2
      · obtain ⟨h1, h2, h3⟩ := cmpF ez
        have htk : tkOk c id l = false := by unfold tkOk; rw [show lerr c l = z from hz.out]; simp [h1]
        obtain rfl : [] = L := by rw [← hL']; unfold tkL; rw [htk]; rfl
        obtain rfl : [] = M := by rw [← hM']; unfold tkN; rw [htk]; rfl
        have hD2 : nxTake c id D l d0 d1 = D := by unfold nxTake; rw [htk]; rfl
        rw [hD2]
        replace ez := hide ez
        clear h
        replace k4 := hide k4
        go_enter Tryz.func17, Tryz.ntmps17
        go_wp2_with fail
        refine name_world ?_
        intro V hV
        have hX : Hid (Bx w V (Fa p B Fc) l d0 d1 d2 w.heap.size (w.heap.size + 1) (w.heap.size + 1 + 1)) := by rw [← hV]; exact hide (bx_new w _ hFw.out l d0 d1 d2)
        have hB : Hid (Below w.heap.size w V) := by rw [← hV]; exact hide (by all_goals exact belEnd)
        have hN := hide (hH.out.below hB.out)
        obtain ⟨R, hRe⟩ : ∃ R, Hid (w.heap.size + 1 + 1 = R) := ⟨_, rfl⟩
        obtain ⟨kd, hde⟩ : ∃ kd, Hid (w.heap.size + 1 = kd) := ⟨_, rfl⟩
        obtain ⟨kl, hle⟩ : ∃ kl, Hid (w.heap.size = kl) := ⟨_, rfl⟩
        rw [hRe.out, hde.out, hle.out] at hX
        rw [hRe.out, hde.out, hle.out]
        clear hV
        have b0 := (lt_at hX.out.l).c0
        go_wp2_with fail
        refine wp_region_noPanic ?_
        refine wp_region_held_drew (S := (fun w' => w'.cell? ⟨kl, 0, none⟩ = some (.int .i64 l.k))) (by kernel_rfl) ?_ (fun hHeld => ?_)
        · exact b0
        refine hTk 0 10 hHeld ?_
        refine hTk 2 12 hHeld ?_
        refine hTk 3 13 hHeld ?_
        refine hNo 1 fun K hK => ?_
        go_simp
        go_at_call 39
        refine (ndDoers_c p _).mono ?_
        rintro e w2 ⟨m, rfl, hm, hb2⟩
        have hBw2 : Below V.heap.size V w2 := ((Below.refl _ _).drew).trans hb2
        have Q2 := hide ((At3.mk hN.out hX.out (Step.of_below hB.out)).below hBw2)
        have hT2 : Hid (Tab w2) := hide (hT.out.step ((Step.refl (fun _ => False) w).trans (Step.of_below (hB.out.trans (hBw2.mono hB.out.size)))) (fun h => h))
        have lk := hm.lookOk (t := tD) Tryz.underlying109 zeroFE hlk true (by simp [k4.out]) w2 rfl
        rw [show dF p l.k = mvV 84 p by simp [dF, updV, k4.out]] at lk
        dsimp only [tD, mvV] at lk
        clear hb2 hBw2 hX hB hN
        have b0 := (lt_at Q2.out.x.l).c0
        refine hK.out _ _ ?_ fun hHeld => ?_
        · exact b0
        clear hK K
        try simp only [Act.put, za, zb, zc]
        refine hNo 4 fun K hK => ?_
        go_simp
        refine hK.out _ _ ?_ fun hHeld => ?_
        · exact b0
        clear hK K
        try simp only [Act.put, za, zb, zc]
        clear lk hm
        refine hTk 5 9 hHeld ?_
        refine hTk 6 15 hHeld ?_
        refine hTk 7 16 hHeld ?_
        refine hTk 8 7 hHeld ?_
        refine hTk 9 8 hHeld ?_
        refine wpAnyH_done (by kernel_rfl) (NoPanic.normal ?_) _
        clear hHeld
        go_wp2_with fail
        have A2 := Q2.out.n.at'
        obtain ⟨b0, b1, b2, b3, b4, b5, b6, b7, b8, b9, b10⟩ := lt_at Q2.out.x.l
        go_wp2_with fail
        refine wp_region_noPanic ?_
        refine wp_region_held_drew (S := (fun w' => w'.cell? ⟨kl, 0, none⟩ = some (.int .i64 l.k) ∧ w'.cell? ⟨kl, 1, none⟩ = some (.int .i64 l.a) ∧ w'.cell? ⟨kl, 2, none⟩ = some (.int .i64 l.b) ∧ w'.cell? ⟨kl, 3, none⟩ = some (.int .i64 l.q) ∧ w'.cell? ⟨kl, 4, none⟩ = some (.int .i64 l.s) ∧ w'.cell? ⟨kl, 5, none⟩ = some (.int .i64 l.w) ∧ w'.cell? ⟨kl, 6, none⟩ = some (.bool l.r) ∧ w'.cell? ⟨kl, 7, none⟩ = some (.int .i64 l.n) ∧ w'.cell? ⟨kl, 8, none⟩ = some (.bool l.o) ∧ w'.cell? ⟨kl, 9, none⟩ = some (.bool l.h) ∧ w'.cell? ⟨kl, 10, none⟩ = some (.int .i64 l.d) ∧ w'.cell? ⟨p, 0, none⟩ = some (.int .i64 c.n) ∧ w'.cell? ⟨p, 1, none⟩ = some (.int .i64 c.bl) ∧ w'.cell? ⟨p, 2, none⟩ = some (.int .i64 c.tt) ∧ w'.cell? ⟨p, 3, none⟩ = some (.int .i64 c.cs) ∧ w'.cell? ⟨p, 4, none⟩ = some (.int .i64 c.cy) ∧ w'.cell? ⟨p, 5, none⟩ = some (.int .i64 c.cc) ∧ w'.cell? ⟨p, 6, none⟩ = some (.int .i64 c.cu) ∧ w'.cell? ⟨p, 7, none⟩ = some (.int .i64 c.ct) ∧ w'.cell? ⟨p, 8, none⟩ = some (.int .i64 c.cp) ∧ w'.cell? ⟨p, 9, none⟩ = some (.int .i64 id))) (by kernel_rfl) ?_ (fun hHeld => ?_)
        · exact ⟨b0, b1, b2, b3, b4, b5, b6, b7, b8, b9, b10, A2.c0, A2.c1, A2.c2, A2.c3, A2.c4, A2.c5, A2.c6, A2.c7, A2.c8, A2.c9⟩
        clear A2 b0 b1 b2 b3 b4 b5 b6 b7 b8 b9 b10
        refine hTk 0 17 hHeld ?_
        refine hTk 1 18 hHeld ?_
        refine hTk 2 19 hHeld ?_
        refine hTk 3 20 hHeld ?_
        refine hTk 4 21 hHeld ?_
        refine hTk 5 22 hHeld ?_
        refine hTk 6 23 hHeld ?_
        refine hTk 7 24 hHeld ?_
        refine hTk 8 25 hHeld ?_
        refine hVl 9 26 (.bool false) hHeld (fun wz hSw => ?_) ?_
        · try dsimp only at hSw
          go_simp
        refine hTk 10 27 hHeld ?_
        refine hTk 11 28 hHeld ?_
        refine hTk 12 29 hHeld ?_
        refine hTk 13 30 hHeld ?_
        refine hTk 14 31 hHeld ?_
        refine hTk 15 32 hHeld ?_
        refine hTk 16 33 hHeld ?_
        refine hNo 17 fun K hK => ?_
        go_simp
        go_at_call 40
        refine (check_c c.n c.bl c.tt c.cs c.cy c.cc c.cu c.ct c.cp l.k l.a l.b l.q l.s l.w l.r l.n l.o l.h l.d _ (hide (hT2.out.step (Step.of_below (F := fun _ => False) (belowN (Below.refl _ _) 1)) (fun h => h))) z hz).mono ?_
        rintro e w3 ⟨rfl, hb3⟩
        have Q3 : Hid (At3 w w3 p B Fc Fc c id N D l d0 d1 d2 kl kd R) := hide (Q2.out.below (((Below.refl _ _).drew).trans hb3))
        have A3 := Q3.out.n.at'
        obtain ⟨b0, b1, b2, b3, b4, b5, b6, b7, b8, b9, b10⟩ := lt_at Q3.out.x.l
        refine hK.out _ _ ?_ fun hHeld => ?_
        · exact ⟨b0, b1, b2, b3, b4, b5, b6, b7, b8, b9, b10, A3.c0, A3.c1, A3.c2, A3.c3, A3.c4, A3.c5, A3.c6, A3.c7, A3.c8, A3.c9⟩
        clear hK K
        try simp only [Act.put, za, zb, zc]
        clear A3 hb3 hT2 Q2
        refine hVl 18 35 (.bool true) hHeld (fun wz hSw => ?_) ?_
        · try dsimp only at hSw
          go_simp
        refine hTk 19 36 hHeld ?_
        refine wpAnyH_done (by kernel_rfl) (NoPanic.normal ?_) _
        clear hHeld
        obtain ⟨r0, r1, zz⟩ := or_at Q3.out.x.r
        have hR3 := Q3.out.x.hi3
        go_wp2_with fail
        refine bodyPost_ret (v := .agg #[.slice none 0 0, .slice none 0 0]) (by simp [results, Tryz.results17, go_sem, *]; done) rfl ⟨_, _, rfl, Fc, w.heap.size, w.heap.size, ?_⟩
        have hlo := Q3.out.x.lo1
        have hls := Q3.out.x.hi1
        exact out_fin Q3.out.x (own_nilT (by omega)) (view_nilD _ _) (Nat.le_refl _) (by have := hRe.out; omega) (fun h => absurd rfl h) (Q3.out.n.mono (by omega)) Q3.out.s (fun e => by have := hFw.out _ e; omega) (fun h => absurd rfl h)
    · obtain ⟨f1, f2, f3⟩ := cmpF eb
      have htk : tkOk c id l = false := by unfold tkOk; simp [f1]
      obtain rfl : [] = L := by rw [← hL']; unfold tkL; rw [htk]; rfl
      obtain rfl : [] = M := by rw [← hM']; unfold tkN; rw [htk]; rfl
      have hD2 : nxTake c id D l d0 d1 = D := by unfold nxTake; rw [htk]; rfl
      rw [hD2]
      replace eb := hide eb
      clear h
      replace k4 := hide k4
      go_enter Tryz.func17, Tryz.ntmps17
      go_wp2_with fail
      refine name_world ?_
      intro V hV
      have hX : Hid (Bx w V (Fa p B Fc) l d0 d1 d2 w.heap.size (w.heap.size + 1) (w.heap.size + 1 + 1)) := by rw [← hV]; exact hide (bx_new w _ hFw.out l d0 d1 d2)
      have hB : Hid (Below w.heap.size w V) := by rw [← hV]; exact hide (by all_goals exact belEnd)
      have hN := hide (hH.out.below hB.out)
      obtain ⟨R, hRe⟩ : ∃ R, Hid (w.heap.size + 1 + 1 = R) := ⟨_, rfl⟩
      obtain ⟨kd, hde⟩ : ∃ kd, Hid (w.heap.size + 1 = kd) := ⟨_, rfl⟩
      obtain ⟨kl, hle⟩ : ∃ kl, Hid (w.heap.size = kl) := ⟨_, rfl⟩
      rw [hRe.out, hde.out, hle.out] at hX
      rw [hRe.out, hde.out, hle.out]
      clear hV
      have b0 := (lt_at hX.out.l).c0
      go_wp2_with fail
      refine wp_region_noPanic ?_
      refine wp_region_held_drew (S := (fun w' => w'.cell? ⟨kl, 0, none⟩ = some (.int .i64 l.k))) (by kernel_rfl) ?_ (fun hHeld => ?_)
      · exact b0
      refine hTk 0 10 hHeld ?_
      refine hTk 2 12 hHeld ?_
      refine hTk 3 13 hHeld ?_
      refine hNo 1 fun K hK => ?_
      go_simp
      go_at_call 39
      refine (ndDoers_c p _).mono ?_
      rintro e w2 ⟨m, rfl, hm, hb2⟩
      have hBw2 : Below V.heap.size V w2 := ((Below.refl _ _).drew).trans hb2
      have Q2 := hide ((At3.mk hN.out hX.out (Step.of_below hB.out)).below hBw2)
      have hT2 : Hid (Tab w2) := hide (hT.out.step ((Step.refl (fun _ => False) w).trans (Step.of_below (hB.out.trans (hBw2.mono hB.out.size)))) (fun h => h))
      have lk := hm.lookOk (t := tD) Tryz.underlying109 zeroFE hlk true (by simp [k4.out]) w2 rfl
      rw [show dF p l.k = mvV 84 p by simp [dF, updV, k4.out]] at lk
      dsimp only [tD, mvV] at lk
      clear hb2 hBw2 hX hB hN
      have b0 := (lt_at Q2.out.x.l).c0
      refine hK.out _ _ ?_ fun hHeld => ?_
      · exact b0
      clear hK K
      try simp only [Act.put, za, zb, zc]
      refine hNo 4 fun K hK => ?_
      go_simp
      refine hK.out _ _ ?_ fun hHeld => ?_
      · exact b0
      clear hK K
      try simp only [Act.put, za, zb, zc]
      clear lk hm
      refine hTk 5 9 hHeld ?_
      refine hTk 6 15 hHeld ?_
      refine hTk 7 16 hHeld ?_
      refine hTk 8 7 hHeld ?_
      refine hTk 9 8 hHeld ?_
      refine wpAnyH_done (by kernel_rfl) (NoPanic.normal ?_) _
      clear hHeld
      go_wp2_with fail
      go_wp2_with fail
      refine wp_region_noPanic ?_
      refine wp_region_held_drew (S := (fun w' => w'.cell? ⟨kl, 2, none⟩ = some (.int .i64 l.b) ∧ w'.cell? ⟨p, 9, none⟩ = some (.int .i64 id))) (by kernel_rfl) ?_ (fun hHeld => ?_)
      · exact ⟨(lt_at Q2.out.x.l).c2, Q2.out.n.at'.c9⟩
      refine hTk 0 17 hHeld ?_
      refine hTk 1 18 hHeld ?_
      refine hTk 2 19 hHeld ?_
      refine hTk 3 20 hHeld ?_
      refine hTk 4 21 hHeld ?_
      refine hTk 5 22 hHeld ?_
      refine hTk 6 23 hHeld ?_
      refine hTk 7 24 hHeld ?_
      refine hTk 8 25 hHeld ?_
      refine hVl 9 26 (.bool true) hHeld (fun wz hSw => ?_) ?_
      · try dsimp only at hSw
        go_simp
      refine hTk 10 27 hHeld ?_
      refine hTk 11 28 hHeld ?_
      refine hSk 12 29 hHeld ?_
      refine hSk 13 30 hHeld ?_
      refine hSk 14 31 hHeld ?_
      refine hSk 15 32 hHeld ?_
      refine hSk 16 33 hHeld ?_
      refine hSk 17 34 hHeld ?_
      refine hSk 18 35 hHeld ?_
      refine hTk 19 36 hHeld ?_
      refine wpAnyH_done (by kernel_rfl) (NoPanic.normal ?_) _
      clear hHeld
      obtain ⟨r0, r1, z⟩ := or_at Q2.out.x.r
      have hR3 := Q2.out.x.hi3
      go_wp2_with fail
      refine bodyPost_ret (v := .agg #[.slice none 0 0, .slice none 0 0]) (by simp [results, Tryz.results17, go_sem, *]; done) rfl ⟨_, _, rfl, Fc, w.heap.size, w.heap.size, ?_⟩
      have hlo := Q2.out.x.lo1
      have hls := Q2.out.x.hi1
      have Q3 := Q2.out.below (V' := w2.drewN 1) (belowN (Below.refl _ _) 1)
      exact out_fin Q3.x (own_nilT (by show w.heap.size < w2.heap.size; omega)) (view_nilD _ _) (Nat.le_refl _) (by have := hRe.out; omega) (fun h => absurd rfl h) (Q3.n.mono (by omega)) Q3.s (fun e => by have := hFw.out _ e; omega) (fun h => absurd rfl h)
  by_cases k6 : l.k = 6
  · skip
    by_cases eb : l.b = id
    · obtain ⟨f1, f2, f3⟩ := cmpT eb
      replace eb := hide eb
      by_cases ez : z = 0
      · obtain ⟨h1, h2, h3⟩ := cmpT ez
        have hle0 : lerr c l = 0 := by rw [← hz.out] at ez; exact ez
        have htk : tkOk c id l = true := by unfold tkOk; rw [hle0]; simp [f1]
        have hqq := lerr_q hle0
        have hbl := h.ok.b1
        have hq64 : I64 l.q := ⟨by omega, by omega⟩
        obtain rfl : [] = M := (by rw [← hM']; unfold tkN; rw [htk, if_pos rfl, if_neg k1]); have hLk : Hid (homeL c id 7 l.q l.s = L) := hide (by rw [← hL']; unfold tkL; rw [htk, if_pos rfl, if_neg k1, if_neg k2, if_neg k4, if_pos k6]); have hDk : nxTake c id D l d0 d1 = deD D l := by unfold nxTake; rw [htk, if_pos rfl, if_neg k1, if_neg k2, if_neg k4, if_pos k6]
        replace ez := hide ez
        clear h
        replace k6 := hide k6
        go_enter Tryz.func17, Tryz.ntmps17
        go_wp2_with fail
        refine name_world ?_
        intro V hV
        have hX : Hid (Bx w V (Fa p B Fc) l d0 d1 d2 w.heap.size (w.heap.size + 1) (w.heap.size + 1 + 1)) := by rw [← hV]; exact hide (bx_new w _ hFw.out l d0 d1 d2)
        have hB : Hid (Below w.heap.size w V) := by rw [← hV]; exact hide (by all_goals exact belEnd)
        have hN := hide (hH.out.below hB.out)
        obtain ⟨R, hRe⟩ : ∃ R, Hid (w.heap.size + 1 + 1 = R) := ⟨_, rfl⟩
        obtain ⟨kd, hde⟩ : ∃ kd, Hid (w.heap.size + 1 = kd) := ⟨_, rfl⟩
        obtain ⟨kl, hle⟩ : ∃ kl, Hid (w.heap.size = kl) := ⟨_, rfl⟩
        rw [hRe.out, hde.out, hle.out] at hX
        rw [hRe.out, hde.out, hle.out]
        clear hV
        have b0 := (lt_at hX.out.l).c0
        go_wp2_with fail
        refine wp_region_noPanic ?_
        refine wp_region_held_drew (S := (fun w' => w'.cell? ⟨kl, 0, none⟩ = some (.int .i64 l.k))) (by kernel_rfl) ?_ (fun hHeld => ?_)
        · exact b0
        refine hTk 0 10 hHeld ?_
        refine hTk 2 12 hHeld ?_
        refine hTk 3 13 hHeld ?_
        refine hNo 1 fun K hK => ?_
        go_simp
        go_at_call 39
        refine (ndDoers_c p _).mono ?_
        rintro e w2 ⟨m, rfl, hm, hb2⟩
        have hBw2 : Below V.heap.size V w2 := ((Below.refl _ _).drew).trans hb2
        have Q2 := hide ((At3.mk hN.out hX.out (Step.of_below hB.out)).below hBw2)
        have hT2 : Hid (Tab w2) := hide (hT.out.step ((Step.refl (fun _ => False) w).trans (Step.of_below (hB.out.trans (hBw2.mono hB.out.size)))) (fun h => h))
        have lk := hm.lookOk (t := tD) Tryz.underlying109 zeroFE hlk true (by simp [k6.out]) w2 rfl
        rw [show dF p l.k = mvV 85 p by simp [dF, updV, k6.out]] at lk
        dsimp only [tD, mvV] at lk
        clear hb2 hBw2 hX hB hN
        have b0 := (lt_at Q2.out.x.l).c0
        refine hK.out _ _ ?_ fun hHeld => ?_
        · exact b0
        clear hK K
        try simp only [Act.put, za, zb, zc]
        refine hNo 4 fun K hK => ?_
        go_simp
        refine hK.out _ _ ?_ fun hHeld => ?_
        · exact b0
        clear hK K
        try simp only [Act.put, za, zb, zc]
        clear lk hm
        refine hTk 5 9 hHeld ?_
        refine hTk 6 15 hHeld ?_
        refine hTk 7 16 hHeld ?_
        refine hTk 8 7 hHeld ?_
        refine hTk 9 8 hHeld ?_
        refine wpAnyH_done (by kernel_rfl) (NoPanic.normal ?_) _
        clear hHeld
        go_wp2_with fail
        have A2 := Q2.out.n.at'
        obtain ⟨b0, b1, b2, b3, b4, b5, b6, b7, b8, b9, b10⟩ := lt_at Q2.out.x.l
        go_wp2_with fail
        refine wp_region_noPanic ?_
        refine wp_region_held_drew (S := (fun w' => w'.cell? ⟨kl, 0, none⟩ = some (.int .i64 l.k) ∧ w'.cell? ⟨kl, 1, none⟩ = some (.int .i64 l.a) ∧ w'.cell? ⟨kl, 2, none⟩ = some (.int .i64 l.b) ∧ w'.cell? ⟨kl, 3, none⟩ = some (.int .i64 l.q) ∧ w'.cell? ⟨kl, 4, none⟩ = some (.int .i64 l.s) ∧ w'.cell? ⟨kl, 5, none⟩ = some (.int .i64 l.w) ∧ w'.cell? ⟨kl, 6, none⟩ = some (.bool l.r) ∧ w'.cell? ⟨kl, 7, none⟩ = some (.int .i64 l.n) ∧ w'.cell? ⟨kl, 8, none⟩ = some (.bool l.o) ∧ w'.cell? ⟨kl, 9, none⟩ = some (.bool l.h) ∧ w'.cell? ⟨kl, 10, none⟩ = some (.int .i64 l.d) ∧ w'.cell? ⟨p, 0, none⟩ = some (.int .i64 c.n) ∧ w'.cell? ⟨p, 1, none⟩ = some (.int .i64 c.bl) ∧ w'.cell? ⟨p, 2, none⟩ = some (.int .i64 c.tt) ∧ w'.cell? ⟨p, 3, none⟩ = some (.int .i64 c.cs) ∧ w'.cell? ⟨p, 4, none⟩ = some (.int .i64 c.cy) ∧ w'.cell? ⟨p, 5, none⟩ = some (.int .i64 c.cc) ∧ w'.cell? ⟨p, 6, none⟩ = some (.int .i64 c.cu) ∧ w'.cell? ⟨p, 7, none⟩ = some (.int .i64 c.ct) ∧ w'.cell? ⟨p, 8, none⟩ = some (.int .i64 c.cp) ∧ w'.cell? ⟨p, 9, none⟩ = some (.int .i64 id))) (by kernel_rfl) ?_ (fun hHeld => ?_)
        · exact ⟨b0, b1, b2, b3, b4, b5, b6, b7, b8, b9, b10, A2.c0, A2.c1, A2.c2, A2.c3, A2.c4, A2.c5, A2.c6, A2.c7, A2.c8, A2.c9⟩
        clear A2 b0 b1 b2 b3 b4 b5 b6 b7 b8 b9 b10
        refine hTk 0 17 hHeld ?_
        refine hTk 1 18 hHeld ?_
        refine hTk 2 19 hHeld ?_
        refine hTk 3 20 hHeld ?_
        refine hTk 4 21 hHeld ?_
        refine hTk 5 22 hHeld ?_
        refine hTk 6 23 hHeld ?_
        refine hTk 7 24 hHeld ?_
        refine hTk 8 25 hHeld ?_
        refine hVl 9 26 (.bool false) hHeld (fun wz hSw => ?_) ?_
        · try dsimp only at hSw
          go_simp
        refine hTk 10 27 hHeld ?_
        refine hTk 11 28 hHeld ?_
        refine hTk 12 29 hHeld ?_
        refine hTk 13 30 hHeld ?_
        refine hTk 14 31 hHeld ?_
        refine hTk 15 32 hHeld ?_
        refine hTk 16 33 hHeld ?_
        refine hNo 17 fun K hK => ?_
        go_simp
        go_at_call 40
        refine (check_c c.n c.bl c.tt c.cs c.cy c.cc c.cu c.ct c.cp l.k l.a l.b l.q l.s l.w l.r l.n l.o l.h l.d _ (hide (hT2.out.step (Step.of_below (F := fun _ => False) (belowN (Below.refl _ _) 1)) (fun h => h))) z hz).mono ?_
        rintro e w3 ⟨rfl, hb3⟩
        have Q3 : Hid (At3 w w3 p B Fc Fc c id N D l d0 d1 d2 kl kd R) := hide (Q2.out.below (((Below.refl _ _).drew).trans hb3))
        have A3 := Q3.out.n.at'
        obtain ⟨b0, b1, b2, b3, b4, b5, b6, b7, b8, b9, b10⟩ := lt_at Q3.out.x.l
        refine hK.out _ _ ?_ fun hHeld => ?_
        · exact ⟨b0, b1, b2, b3, b4, b5, b6, b7, b8, b9, b10, A3.c0, A3.c1, A3.c2, A3.c3, A3.c4, A3.c5, A3.c6, A3.c7, A3.c8, A3.c9⟩
        clear hK K
        try simp only [Act.put, za, zb, zc]
        clear A3 hb3 hT2 Q2
        refine hVl 18 35 (.bool false) hHeld (fun wz hSw => ?_) ?_
        · try dsimp only at hSw
          go_simp
        refine hTk 19 36 hHeld ?_
        refine wpAnyH_done (by kernel_rfl) (NoPanic.normal ?_) _
        clear hHeld
        obtain ⟨d0e, d1e, d2e⟩ : w3.cell? ⟨kd, 0, none⟩ = some (.int .i64 d0) ∧ w3.cell? ⟨kd, 1, none⟩ = some (.int .i64 d1) ∧ w3.cell? ⟨kd, 2, none⟩ = some (.int .i64 d2) := ⟨cell_of_row _ _ _ _ _ _ Q3.out.x.d, cell_of_row _ _ _ _ _ _ Q3.out.x.d, cell_of_row _ _ _ _ _ _ Q3.out.x.d⟩
        have hl3 := Q3.out.x.hi1
        have hd3 := Q3.out.x.hi2
        have hR3 := Q3.out.x.hi3
        go_wp2_with (go_at_call 85; refine (ndTkDe_c p B Fc c id N D l d0 d1 d2 _ Q3.out.n (by omega) hq64 L hLk).mono ?_; rintro e w5 ⟨v1, v2, rfl, Fc7, g1, g2, hO⟩; obtain ⟨ao1, cap1, e1, -⟩ := _root_.id hO.own; subst e1; obtain ⟨ao2, cap2, e2, -⟩ := _root_.id hO.dn; subst e2; have Q5 := hide (Q3.out.step hO.nd hO.st); replace hO := hide hO; obtain ⟨r0, r1, zz⟩ := or_at Q5.out.x.r; have hR5 := Q5.out.x.hi3)
        refine bodyPost_ret (v := .agg #[.slice ao1 L.length cap1, .slice ao2 (List.length ([] : List Dn)) cap2]) (by simp [results, Tryz.results17, go_sem, *]; done) rfl ⟨_, _, rfl, Fc7, g1, g2, ?_⟩
        have hn1 := hO.out.new
        have hs3 := Q3.out.s.fr.size
        have hne := hO.out.ne
        rw [hDk]
        exact out_fin Q5.out.x hO.out.own hO.out.dn (by omega) (by omega) (fun h => ⟨(hne h).1, by have := (hne h).2; omega, by have := (hne h).2; omega⟩) (Q5.out.n.mono (by omega)) Q5.out.s hO.out.nf1 hO.out.nf2
      · obtain ⟨h1, h2, h3⟩ := cmpF ez
        have htk : tkOk c id l = false := by unfold tkOk; rw [show lerr c l = z from hz.out]; simp [h1]
        obtain rfl : [] = L := by rw [← hL']; unfold tkL; rw [htk]; rfl
        obtain rfl : [] = M := by rw [← hM']; unfold tkN; rw [htk]; rfl
        have hD2 : nxTake c id D l d0 d1 = D := by unfold nxTake; rw [htk]; rfl
        rw [hD2]
        replace ez := hide ez
        clear h
        replace k6 := hide k6
        go_enter Tryz.func17, Tryz.ntmps17
        go_wp2_with fail
        refine name_world ?_
        intro V hV
        have hX : Hid (Bx w V (Fa p B Fc) l d0 d1 d2 w.heap.size (w.heap.size + 1) (w.heap.size + 1 + 1)) := by rw [← hV]; exact hide (bx_new w _ hFw.out l d0 d1 d2)
        have hB : Hid (Below w.heap.size w V) := by rw [← hV]; exact hide (by all_goals exact belEnd)
        have hN := hide (hH.out.below hB.out)
        obtain ⟨R, hRe⟩ : ∃ R, Hid (w.heap.size + 1 + 1 = R) := ⟨_, rfl⟩
        obtain ⟨kd, hde⟩ : ∃ kd, Hid (w.heap.size + 1 = kd) := ⟨_, rfl⟩
        obtain ⟨kl, hle⟩ : ∃ kl, Hid (w.heap.size = kl) := ⟨_, rfl⟩
        rw [hRe.out, hde.out, hle.out] at hX
        rw [hRe.out, hde.out, hle.out]
        clear hV
        have b0 := (lt_at hX.out.l).c0
        go_wp2_with fail
        refine wp_region_noPanic ?_
        refine wp_region_held_drew (S := (fun w' => w'.cell? ⟨kl, 0, none⟩ = some (.int .i64 l.k))) (by kernel_rfl) ?_ (fun hHeld => ?_)
        · exact b0
        refine hTk 0 10 hHeld ?_
        refine hTk 2 12 hHeld ?_
        refine hTk 3 13 hHeld ?_
        refine hNo 1 fun K hK => ?_
        go_simp
        go_at_call 39
        refine (ndDoers_c p _).mono ?_
        rintro e w2 ⟨m, rfl, hm, hb2⟩
        have hBw2 : Below V.heap.size V w2 := ((Below.refl _ _).drew).trans hb2
        have Q2 := hide ((At3.mk hN.out hX.out (Step.of_below hB.out)).below hBw2)
        have hT2 : Hid (Tab w2) := hide (hT.out.step ((Step.refl (fun _ => False) w).trans (Step.of_below (hB.out.trans (hBw2.mono hB.out.size)))) (fun h => h))
        have lk := hm.lookOk (t := tD) Tryz.underlying109 zeroFE hlk true (by simp [k6.out]) w2 rfl
        rw [show dF p l.k = mvV 85 p by simp [dF, updV, k6.out]] at lk
        dsimp only [tD, mvV] at lk
        clear hb2 hBw2 hX hB hN
        have b0 := (lt_at Q2.out.x.l).c0
        refine hK.out _ _ ?_ fun hHeld => ?_
        · exact b0
        clear hK K
        try simp only [Act.put, za, zb, zc]
        refine hNo 4 fun K hK => ?_
        go_simp
        refine hK.out _ _ ?_ fun hHeld => ?_
        · exact b0
        clear hK K
        try simp only [Act.put, za, zb, zc]
        clear lk hm
        refine hTk 5 9 hHeld ?_
        refine hTk 6 15 hHeld ?_
        refine hTk 7 16 hHeld ?_
        refine hTk 8 7 hHeld ?_
        refine hTk 9 8 hHeld ?_
        refine wpAnyH_done (by kernel_rfl) (NoPanic.normal ?_) _
        clear hHeld
        go_wp2_with fail
        have A2 := Q2.out.n.at'
        obtain ⟨b0, b1, b2, b3, b4, b5, b6, b7, b8, b9, b10⟩ := lt_at Q2.out.x.l
        go_wp2_with fail
        refine wp_region_noPanic ?_
        refine wp_region_held_drew (S := (fun w' => w'.cell? ⟨kl, 0, none⟩ = some (.int .i64 l.k) ∧ w'.cell? ⟨kl, 1, none⟩ = some (.int .i64 l.a) ∧ w'.cell? ⟨kl, 2, none⟩ = some (.int .i64 l.b) ∧ w'.cell? ⟨kl, 3, none⟩ = some (.int .i64 l.q) ∧ w'.cell? ⟨kl, 4, none⟩ = some (.int .i64 l.s) ∧ w'.cell? ⟨kl, 5, none⟩ = some (.int .i64 l.w) ∧ w'.cell? ⟨kl, 6, none⟩ = some (.bool l.r) ∧ w'.cell? ⟨kl, 7, none⟩ = some (.int .i64 l.n) ∧ w'.cell? ⟨kl, 8, none⟩ = some (.bool l.o) ∧ w'.cell? ⟨kl, 9, none⟩ = some (.bool l.h) ∧ w'.cell? ⟨kl, 10, none⟩ = some (.int .i64 l.d) ∧ w'.cell? ⟨p, 0, none⟩ = some (.int .i64 c.n) ∧ w'.cell? ⟨p, 1, none⟩ = some (.int .i64 c.bl) ∧ w'.cell? ⟨p, 2, none⟩ = some (.int .i64 c.tt) ∧ w'.cell? ⟨p, 3, none⟩ = some (.int .i64 c.cs) ∧ w'.cell? ⟨p, 4, none⟩ = some (.int .i64 c.cy) ∧ w'.cell? ⟨p, 5, none⟩ = some (.int .i64 c.cc) ∧ w'.cell? ⟨p, 6, none⟩ = some (.int .i64 c.cu) ∧ w'.cell? ⟨p, 7, none⟩ = some (.int .i64 c.ct) ∧ w'.cell? ⟨p, 8, none⟩ = some (.int .i64 c.cp) ∧ w'.cell? ⟨p, 9, none⟩ = some (.int .i64 id))) (by kernel_rfl) ?_ (fun hHeld => ?_)
        · exact ⟨b0, b1, b2, b3, b4, b5, b6, b7, b8, b9, b10, A2.c0, A2.c1, A2.c2, A2.c3, A2.c4, A2.c5, A2.c6, A2.c7, A2.c8, A2.c9⟩
        clear A2 b0 b1 b2 b3 b4 b5 b6 b7 b8 b9 b10
        refine hTk 0 17 hHeld ?_
        refine hTk 1 18 hHeld ?_
        refine hTk 2 19 hHeld ?_
        refine hTk 3 20 hHeld ?_
        refine hTk 4 21 hHeld ?_
        refine hTk 5 22 hHeld ?_
        refine hTk 6 23 hHeld ?_
        refine hTk 7 24 hHeld ?_
        refine hTk 8 25 hHeld ?_
        refine hVl 9 26 (.bool false) hHeld (fun wz hSw => ?_) ?_
        · try dsimp only at hSw
          go_simp
        refine hTk 10 27 hHeld ?_
        refine hTk 11 28 hHeld ?_
        refine hTk 12 29 hHeld ?_
        refine hTk 13 30 hHeld ?_
        refine hTk 14 31 hHeld ?_
        refine hTk 15 32 hHeld ?_
        refine hTk 16 33 hHeld ?_
        refine hNo 17 fun K hK => ?_
        go_simp
        go_at_call 40
        refine (check_c c.n c.bl c.tt c.cs c.cy c.cc c.cu c.ct c.cp l.k l.a l.b l.q l.s l.w l.r l.n l.o l.h l.d _ (hide (hT2.out.step (Step.of_below (F := fun _ => False) (belowN (Below.refl _ _) 1)) (fun h => h))) z hz).mono ?_
        rintro e w3 ⟨rfl, hb3⟩
        have Q3 : Hid (At3 w w3 p B Fc Fc c id N D l d0 d1 d2 kl kd R) := hide (Q2.out.below (((Below.refl _ _).drew).trans hb3))
        have A3 := Q3.out.n.at'
        obtain ⟨b0, b1, b2, b3, b4, b5, b6, b7, b8, b9, b10⟩ := lt_at Q3.out.x.l
        refine hK.out _ _ ?_ fun hHeld => ?_
        · exact ⟨b0, b1, b2, b3, b4, b5, b6, b7, b8, b9, b10, A3.c0, A3.c1, A3.c2, A3.c3, A3.c4, A3.c5, A3.c6, A3.c7, A3.c8, A3.c9⟩
        clear hK K
        try simp only [Act.put, za, zb, zc]
        clear A3 hb3 hT2 Q2
        refine hVl 18 35 (.bool true) hHeld (fun wz hSw => ?_) ?_
        · try dsimp only at hSw
          go_simp
        refine hTk 19 36 hHeld ?_
        refine wpAnyH_done (by kernel_rfl) (NoPanic.normal ?_) _
        clear hHeld
        obtain ⟨r0, r1, zz⟩ := or_at Q3.out.x.r
        have hR3 := Q3.out.x.hi3
        go_wp2_with fail
        refine bodyPost_ret (v := .agg #[.slice none 0 0, .slice none 0 0]) (by simp [results, Tryz.results17, go_sem, *]; done) rfl ⟨_, _, rfl, Fc, w.heap.size, w.heap.size, ?_⟩
        have hlo := Q3.out.x.lo1
        have hls := Q3.out.x.hi1
        exact out_fin Q3.out.x (own_nilT (by omega)) (view_nilD _ _) (Nat.le_refl _) (by have := hRe.out; omega) (fun h => absurd rfl h) (Q3.out.n.mono (by omega)) Q3.out.s (fun e => by have := hFw.out _ e; omega) (fun h => absurd rfl h)
    · obtain ⟨f1, f2, f3⟩ := cmpF eb
      have htk : tkOk c id l = false := by unfold tkOk; simp [f1]
      obtain rfl : [] = L := by rw [← hL']; unfold tkL; rw [htk]; rfl
      obtain rfl : [] = M := by rw [← hM']; unfold tkN; rw [htk]; rfl
      have hD2 : nxTake c id D l d0 d1 = D := by unfold nxTake; rw [htk]; rfl
      rw [hD2]
      replace eb := hide eb
      clear h
      replace k6 := hide k6
      go_enter Tryz.func17, Tryz.ntmps17
      go_wp2_with fail
      refine name_world ?_
      intro V hV
      have hX : Hid (Bx w V (Fa p B Fc) l d0 d1 d2 w.heap.size (w.heap.size + 1) (w.heap.size + 1 + 1)) := by rw [← hV]; exact hide (bx_new w _ hFw.out l d0 d1 d2)
      have hB : Hid (Below w.heap.size w V) := by rw [← hV]; exact hide (by all_goals exact belEnd)
      have hN := hide (hH.out.below hB.out)
      obtain ⟨R, hRe⟩ : ∃ R, Hid (w.heap.size + 1 + 1 = R) := ⟨_, rfl⟩
      obtain ⟨kd, hde⟩ : ∃ kd, Hid (w.heap.size + 1 = kd) := ⟨_, rfl⟩
      obtain ⟨kl, hle⟩ : ∃ kl, Hid (w.heap.size = kl) := ⟨_, rfl⟩
      rw [hRe.out, hde.out, hle.out] at hX
      rw [hRe.out, hde.out, hle.out]
      clear hV
      have b0 := (lt_at hX.out.l).c0
      go_wp2_with fail
      refine wp_region_noPanic ?_
      refine wp_region_held_drew (S := (fun w' => w'.cell? ⟨kl, 0, none⟩ = some (.int .i64 l.k))) (by kernel_rfl) ?_ (fun hHeld => ?_)
      · exact b0
      refine hTk 0 10 hHeld ?_
      refine hTk 2 12 hHeld ?_
      refine hTk 3 13 hHeld ?_
      refine hNo 1 fun K hK => ?_
      go_simp
      go_at_call 39
      refine (ndDoers_c p _).mono ?_
      rintro e w2 ⟨m, rfl, hm, hb2⟩
      have hBw2 : Below V.heap.size V w2 := ((Below.refl _ _).drew).trans hb2
      have Q2 := hide ((At3.mk hN.out hX.out (Step.of_below hB.out)).below hBw2)
      have hT2 : Hid (Tab w2) := hide (hT.out.step ((Step.refl (fun _ => False) w).trans (Step.of_below (hB.out.trans (hBw2.mono hB.out.size)))) (fun h => h))
      have lk := hm.lookOk (t := tD) Tryz.underlying109 zeroFE hlk true (by simp [k6.out]) w2 rfl
      rw [show dF p l.k = mvV 85 p by simp [dF, updV, k6.out]] at lk
      dsimp only [tD, mvV] at lk
      clear hb2 hBw2 hX hB hN
      have b0 := (lt_at Q2.out.x.l).c0
      refine hK.out _ _ ?_ fun hHeld => ?_
      · exact b0
      clear hK K
      try simp only [Act.put, za, zb, zc]
      refine hNo 4 fun K hK => ?_
      go_simp
      refine hK.out _ _ ?_ fun hHeld => ?_
      · exact b0
      clear hK K
      try simp only [Act.put, za, zb, zc]
      clear lk hm
      refine hTk 5 9 hHeld ?_
      refine hTk 6 15 hHeld ?_
      refine hTk 7 16 hHeld ?_
      refine hTk 8 7 hHeld ?_
      refine hTk 9 8 hHeld ?_
      refine wpAnyH_done (by kernel_rfl) (NoPanic.normal ?_) _
      clear hHeld
      go_wp2_with fail
      go_wp2_with fail
      refine wp_region_noPanic ?_
      refine wp_region_held_drew (S := (fun w' => w'.cell? ⟨kl, 2, none⟩ = some (.int .i64 l.b) ∧ w'.cell? ⟨p, 9, none⟩ = some (.int .i64 id))) (by kernel_rfl) ?_ (fun hHeld => ?_)
      · exact ⟨(lt_at Q2.out.x.l).c2, Q2.out.n.at'.c9⟩
      refine hTk 0 17 hHeld ?_
      refine hTk 1 18 hHeld ?_
      refine hTk 2 19 hHeld ?_
      refine hTk 3 20 hHeld ?_
      refine hTk 4 21 hHeld ?_
      refine hTk 5 22 hHeld ?_
      refine hTk 6 23 hHeld ?_
      refine hTk 7 24 hHeld ?_
      refine hTk 8 25 hHeld ?_
      refine hVl 9 26 (.bool true) hHeld (fun wz hSw => ?_) ?_
      · try dsimp only at hSw
        go_simp
      refine hTk 10 27 hHeld ?_
      refine hTk 11 28 hHeld ?_
      refine hSk 12 29 hHeld ?_
      refine hSk 13 30 hHeld ?_
      refine hSk 14 31 hHeld ?_
      refine hSk 15 32 hHeld ?_
      refine hSk 16 33 hHeld ?_
      refine hSk 17 34 hHeld ?_
      refine hSk 18 35 hHeld ?_
      refine hTk 19 36 hHeld ?_
      refine wpAnyH_done (by kernel_rfl) (NoPanic.normal ?_) _
      clear hHeld
      obtain ⟨r0, r1, z⟩ := or_at Q2.out.x.r
      have hR3 := Q2.out.x.hi3
      go_wp2_with fail
      refine bodyPost_ret (v := .agg #[.slice none 0 0, .slice none 0 0]) (by simp [results, Tryz.results17, go_sem, *]; done) rfl ⟨_, _, rfl, Fc, w.heap.size, w.heap.size, ?_⟩
      have hlo := Q2.out.x.lo1
      have hls := Q2.out.x.hi1
      have Q3 := Q2.out.below (V' := w2.drewN 1) (belowN (Below.refl _ _) 1)
      exact out_fin Q3.x (own_nilT (by show w.heap.size < w2.heap.size; omega)) (view_nilD _ _) (Nat.le_refl _) (by have := hRe.out; omega) (fun h => absurd rfl h) (Q3.n.mono (by omega)) Q3.s (fun e => by have := hFw.out _ e; omega) (fun h => absurd rfl h)
  have hL0 : [] = L := by rw [← hL']; unfold tkL; rw [if_neg k1, if_neg k2, if_neg k4, if_neg k6]; split <;> rfl
  have hM0 : [] = M := by rw [← hM']; unfold tkN; rw [if_neg k1]; split <;> rfl
  have hD2 : nxTake c id D l d0 d1 = D := by unfold nxTake; rw [if_neg k1, if_neg k2, if_neg k4, if_neg k6]; split <;> rfl
  subst hL0 hM0
  rw [hD2]
  clear h
  go_enter Tryz.func17, Tryz.ntmps17
  go_wp2_with fail
  refine name_world ?_
  intro V hV
  have hX : Hid (Bx w V (Fa p B Fc) l d0 d1 d2 w.heap.size (w.heap.size + 1) (w.heap.size + 1 + 1)) := by rw [← hV]; exact hide (bx_new w _ hFw.out l d0 d1 d2)
  have hB : Hid (Below w.heap.size w V) := by rw [← hV]; exact hide (by all_goals exact belEnd)
  have hN := hide (hH.out.below hB.out)
  obtain ⟨R, hRe⟩ : ∃ R, Hid (w.heap.size + 1 + 1 = R) := ⟨_, rfl⟩
  obtain ⟨kd, hde⟩ : ∃ kd, Hid (w.heap.size + 1 = kd) := ⟨_, rfl⟩
  obtain ⟨kl, hle⟩ : ∃ kl, Hid (w.heap.size = kl) := ⟨_, rfl⟩
  rw [hRe.out, hde.out, hle.out] at hX
  rw [hRe.out, hde.out, hle.out]
  clear hV
  have b0 := (lt_at hX.out.l).c0
  go_wp2_with fail
  refine wp_region_noPanic ?_
  refine wp_region_held_drew (S := (fun w' => w'.cell? ⟨kl, 0, none⟩ = some (.int .i64 l.k))) (by kernel_rfl) ?_ (fun hHeld => ?_)
  · exact b0
  refine hTk 0 10 hHeld ?_
  refine hTk 2 12 hHeld ?_
  refine hTk 3 13 hHeld ?_
  refine hNo 1 fun K hK => ?_
  go_simp
  go_at_call 39
  refine (ndDoers_c p _).mono ?_
  rintro e w2 ⟨m, rfl, hm, hb2⟩
  have hBw2 : Below V.heap.size V w2 := ((Below.refl _ _).drew).trans hb2
  have Q2 := hide ((At3.mk hN.out hX.out (Step.of_below hB.out)).below hBw2)
  have hT2 : Hid (Tab w2) := hide (hT.out.step ((Step.refl (fun _ => False) w).trans (Step.of_below (hB.out.trans (hBw2.mono hB.out.size)))) (fun h => h))
  have lk := hm.lookOk (t := tD) Tryz.underlying109 zeroFE hlk false (by simp; omega) w2 rfl
  rw [show dF p l.k = .nilFunc by unfold dF; rw [updV_other _ _ k6, updV_other _ _ k4, updV_other _ _ k2, updV_other _ _ k1]] at lk
  dsimp only [tD, mvV] at lk
  clear hb2 hBw2 hX hB hN
  have b0 := (lt_at Q2.out.x.l).c0
  refine hK.out _ _ ?_ fun hHeld => ?_
  · exact b0
  clear hK K
  try simp only [Act.put, za, zb, zc]
  refine hNo 4 fun K hK => ?_
  go_simp
  refine hK.out _ _ ?_ fun hHeld => ?_
  · exact b0
  clear hK K
  try simp only [Act.put, za, zb, zc]
  clear lk hm
  refine hTk 5 9 hHeld ?_
  refine hTk 6 15 hHeld ?_
  refine hTk 7 16 hHeld ?_
  refine hTk 8 7 hHeld ?_
  refine hTk 9 8 hHeld ?_
  refine wpAnyH_done (by kernel_rfl) (NoPanic.normal ?_) _
  clear hHeld
  go_wp2_with fail
  go_wp2_with fail
  refine wp_region_noPanic ?_
  refine wp_region_held_drew (S := (fun _ => True)) (by kernel_rfl) ?_ (fun hHeld => ?_)
  · trivial
  refine hTk 0 17 hHeld ?_
  refine hTk 1 18 hHeld ?_
  refine hTk 2 19 hHeld ?_
  refine hSk 3 20 hHeld ?_
  refine hSk 4 21 hHeld ?_
  refine hSk 5 22 hHeld ?_
  refine hSk 6 23 hHeld ?_
  refine hSk 7 24 hHeld ?_
  refine hSk 8 25 hHeld ?_
  refine hSk 9 26 hHeld ?_
  refine hTk 10 27 hHeld ?_
  refine hTk 11 28 hHeld ?_
  refine hSk 12 29 hHeld ?_
  refine hSk 13 30 hHeld ?_
  refine hSk 14 31 hHeld ?_
  refine hSk 15 32 hHeld ?_
  refine hSk 16 33 hHeld ?_
  refine hSk 17 34 hHeld ?_
  refine hSk 18 35 hHeld ?_
  refine hTk 19 36 hHeld ?_
  refine wpAnyH_done (by kernel_rfl) (NoPanic.normal ?_) _
  clear hHeld
  obtain ⟨r0, r1, z⟩ := or_at Q2.out.x.r
  have hR3 := Q2.out.x.hi3
  go_wp2_with fail
  refine bodyPost_ret (v := .agg #[.slice none 0 0, .slice none 0 0]) (by simp [results, Tryz.results17, go_sem, *]; done) rfl ⟨_, _, rfl, Fc, w.heap.size, w.heap.size, ?_⟩
  have hlo := Q2.out.x.lo1
  have hls := Q2.out.x.hi1
  have Q3 := Q2.out.below (V' := w2.drewN 1) (belowN (Below.refl _ _) 1)
  exact out_fin Q3.x (own_nilT (by show w.heap.size < w2.heap.size; omega)) (view_nilD _ _) (Nat.le_refl _) (by have := hRe.out; omega) (fun h => absurd rfl h) (Q3.n.mono (by omega)) Q3.s (fun e => by have := hFw.out _ e; omega) (fun h => absurd rfl h)
end Go.Proofs.YtoenjdnccgmhoaaGreatDoor
