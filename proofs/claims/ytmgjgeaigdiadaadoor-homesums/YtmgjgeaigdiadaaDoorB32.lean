/- layer 16: RhC RhD RhD1, put together. -/
import Derived.Test.YtmgjgeaigdiadaaDoorB25
import Derived.Test.YtmgjgeaigdiadaaDoorB19
import Derived.Test.YtmgjgeaigdiadaaDoorB31
import Derived.Deep.DeepCutAuto
import Derived.Test.YtmgjgeaigdiadaaDoorB27
namespace Go.Proofs.YtmgjgeaigdiadaaDoor
open Go.ChangeShapes Go.WideShapes Go.ChangeAt Go.RowKit
set_option linter.unusedSimpArgs false
set_option linter.unusedVariables false
set_option maxRecDepth 10000
attribute [local go_sem, local simp] over_const setCell_drewN alloc_drewN Over.cell Over.frozen lt_s1 lt_s2 lt_s3 le_s0 le_s1 le_s2 le_s3 eq_s0 eq_s1 eq_s2 qe_s0
theorem ar_setB {w V : World} {q : Nat} {B0 B : Bd} {Ft F : Nat → Prop} {c : Cf} {N : Nat} {D : Hm} {K : List (Nat × Obj)} {k : Nat} (h : Ar w V q B0 B Ft F c N D ((k, bunR bun0) :: K)) (hk : ∀ x ∈ K, x.1 ≠ k) (a : Bun) : Ar w ((((V.setCell ⟨k, 0, none⟩ (.int .i64 a.n)).setCell ⟨k, 1, none⟩ (.bool a.o)).setCell ⟨k, 2, none⟩ (.bool a.h)).setCell ⟨k, 3, none⟩ (.int .i64 a.d)) q B0 B Ft F c N D ((k, bunR a) :: K) := by
  have e1 : Ar w (V.setCell ⟨k, 0, none⟩ (.int .i64 a.n)) q B0 B Ft F c N D ((k, .cells #[.int .i64 a.n, .bool false, .bool false, .int .i64 0] 32 (0, 0)) :: K) := h.head hk 0 _
  have e2 : Ar w ((V.setCell ⟨k, 0, none⟩ (.int .i64 a.n)).setCell ⟨k, 1, none⟩ (.bool a.o)) q B0 B Ft F c N D ((k, .cells #[.int .i64 a.n, .bool a.o, .bool false, .int .i64 0] 32 (0, 0)) :: K) := e1.head hk 1 _
  have e3 : Ar w (((V.setCell ⟨k, 0, none⟩ (.int .i64 a.n)).setCell ⟨k, 1, none⟩ (.bool a.o)).setCell ⟨k, 2, none⟩ (.bool a.h)) q B0 B Ft F c N D ((k, .cells #[.int .i64 a.n, .bool a.o, .bool a.h, .int .i64 0] 32 (0, 0)) :: K) := e2.head hk 2 _
  exact e3.head hk 3 _
theorem RhIs.at1 {w : World} {q : Nat} {B : Bd} {F : Nat → Prop} {c : Cf} {N : Nat} {D : Hm} (h : RhIs w q B F c N D) {j : Nat} (hj : j < D.M.length) {t : Bun} (ht : D.M[j] = t) {n : Nat} (hn : D.M.length = n) :
    ∃ o cap, ∀ w', Below w.heap.size w w' → w'.cell? ⟨q, 9, none⟩ = some (.slice (some ⟨B.mg, o, none⟩) n cap) ∧ ViewB w' (.slice (some ⟨B.mg, o, none⟩) n cap) B.mg D.M ∧ w'.cell? ⟨B.mg, o + j * 4, none⟩ = some (.int .i64 t.n) ∧ w'.cell? ⟨B.mg, o + j * 4 + 1, none⟩ = some (.bool t.o) ∧ w'.cell? ⟨B.mg, o + j * 4 + 2, none⟩ = some (.bool t.h) ∧ w'.cell? ⟨B.mg, o + j * 4 + 3, none⟩ = some (.int .i64 t.d) := by
  obtain ⟨ao, cap, h1, h2⟩ := h.mem
  obtain ⟨-, -, -, k⟩ := view_atB h2 rfl
  obtain ⟨o, rfl, hg, k0, k1, k2, k3⟩ := k j hj
  rw [ht] at k0 k1 k2 k3
  rw [hn] at h1 h2
  refine ⟨o, cap, fun w' hb => ?_⟩
  have eq := hb.block q h.pl
  have em := hb.block B.mg h.gl
  exact ⟨keep_cell eq h1, h2.carry (fun _ _ => em), keep_cell em k0, keep_cell em k1, keep_cell em k2, keep_cell em k3⟩
theorem takM_all {M : List Bun} {j : Nat} (hj : j < M.length) (ok : okB M[j]) : takM M j (getM M j).n true = M.set j bun0 ∧ givenB (getM M j) (getM M j).n true true = M[j] := by
  have h := given_all ok
  rw [takM_nat hj, getM_nat hj, h.2]
  exact ⟨rfl, h.1⟩
theorem wrK {p : Nat} {a b : World} (h : FrS (· = p) a b) {o : Nat} (u : Value) : FrS (· = p) a (b.setCell ⟨p, o, none⟩ u) := h.setCell (q := ⟨p, o, none⟩) (.inl rfl) u
set_option maxHeartbeats 4000000 in
theorem rhBegin_c (q : Nat) (B : Bd) (F : Nat → Prop) (c : Cf) (N : Nat) (D : Hm) (j : Nat) (an sn : Int) (w : World) (h : RhIs w q B F c N D) (hj : j < D.M.length) (L : List Lt) (hL : Hid (hActL c D ⟨j, an, sn⟩ true = L)) : Calls Tryd.prog 35 #[ptr q, .agg #[.int .i64 j, .int .i64 an, .int .i64 sn]] w fun e w' => ∃ v, e = .returned v ∧ ∃ B' g, RutP w q B B' F F c N (nxHAct D ⟨j, an, sn⟩ true) L v w' g := by
  have hH := hide h
  have hok := (h.inv.at' hj).1
  have hb0 := build_bun0
  obtain ⟨t, ht⟩ : ∃ t, Hid (D.M[j] = t) := ⟨_, hide rfl⟩
  obtain ⟨n, hn⟩ : ∃ n, Hid (D.M.length = n) := ⟨_, rfl⟩
  obtain ⟨D', hD'⟩ : ∃ D', Hid (nxHAct D ⟨j, an, sn⟩ true = D') := ⟨_, rfl⟩
  obtain ⟨m1, m2⟩ := takM_all hj hok
  have eD : Hid (⟨D.M.set j bun0, D.L⟩ = D') := hide (by rw [← hD'.out, ← m1]; rfl)
  rw [hD'.out]
  obtain ⟨Ls, hLs⟩ : ∃ Ls, Hid (sprL c 4 j sn an = Ls) := ⟨_, rfl⟩
  obtain ⟨L2, hL2⟩ : ∃ L2, Hid (sendL c.n an j t = L2) := ⟨_, rfl⟩
  have hLL : Hid (Ls ++ L2 = L) := hide (by rw [← hL.out, ← hLs.out, ← hL2.out, ← ht.out, ← m2]; rfl)
  have hl1 : Hid (Ls.length ≤ 64) := hide (by rw [← hLs.out, sprL_len]; have := h.ok.n1; omega)
  have hl2 : Hid (L2.length ≤ 1) := hide (by rw [← hL2.out]; exact sendL_lenH _ _ _ _)
  obtain ⟨m, hm⟩ : ∃ m, Hid (Ls.length + L2.length = m) := ⟨_, rfl⟩
  have hjn : (j : Int) < n := by have := hn.out; omega
  have ht0 : Hid (0 ≤ t.n) := hide (by rw [← ht.out]; exact hok.1)
  have hl64 : Hid (D.M.length ≤ 64) := hide h.inv.len
  have hI' : Hid (MInv (((N + 1 : Nat) : Int) * 65536) (D.M.set j bun0)) := hide (h.inv.set j ⟨okB_zero, by dsimp only [bun0]; omega⟩)
  have hset : Hid ((D.M.set j bun0).length = D.M.length) := hide (by simp)
  clear hL h hok m1 m2 hD'
  go_enter Tryd.func35, Tryd.ntmps35
  go_upto_region 1 with fail
  refine name_world ?_
  intro V hV
  have Q1 : Hid (Ar w V q B B F F c N D [(w.heap.size, resO ⟨j, an, sn⟩)]) := by rw [← hV]; exact hide ((ar_start hH.out).new (resO ⟨j, an, sn⟩))
  obtain ⟨kb, hke⟩ : ∃ kb, Hid (w.heap.size = kb) := ⟨_, rfl⟩
  rw [hke.out] at Q1
  rw [hke.out]
  clear hV
  obtain ⟨hkb, bkb⟩ := bz_get Q1.out.x (k := kb) (o := resO ⟨j, an, sn⟩) (by simp)
  have b0 : V.cell? ⟨kb, 0, none⟩ = some (.int .i64 j) := cell_of_row _ _ _ _ _ _ bkb
  have b1 : V.cell? ⟨kb, 1, none⟩ = some (.int .i64 an) := cell_of_row _ _ _ _ _ _ bkb
  have b2 : V.cell? ⟨kb, 2, none⟩ = some (.int .i64 sn) := cell_of_row _ _ _ _ _ _ bkb
  have hpl := Q1.out.n.pl
  clear bkb
  go_upto_region 2 with (go_at_call 37; refine (rhSpread_c q B F c N D 4 j sn an _ Q1.out.n Ls hLs).mono ?_; rintro e w2 ⟨v2, rfl, g2, ow2, hg2, hb2⟩; have Q2 := hide (Q1.out.below hb2); have hgf2 := hide (And.intro (Q1.out.nf hg2) (And.intro (Nat.le_trans Q1.out.s.fr.size hg2) (Nat.lt_of_lt_of_le hkb hg2))); replace ow2 := hide ow2; clear hb2 hg2)
  clear b0 b1 b2 hpl hkb Q1
  obtain ⟨o1, cap1, hat0⟩ := Q2.out.n.at1 hj ht.out hn.out
  have hat := hide hat0
  clear hat0
  obtain ⟨a9, hv9, t0, t1, t2, t3⟩ := hat.out w2 (Below.refl _ _)
  have b0 : w2.cell? ⟨kb, 0, none⟩ = some (.int .i64 j) := cell_of_row _ _ _ _ _ _ (bz_get Q2.out.x (k := kb) (o := resO ⟨j, an, sn⟩) (by simp)).2
  go_wp2_with fail
  refine wp_region_noPanic ?_
  refine wp_region_held_drew (S := (fun w' => w'.cell? ⟨q, 9, none⟩ = some (.slice (some ⟨B.mg, o1, none⟩) n cap1) ∧ w'.cell? ⟨kb, 0, none⟩ = some (.int .i64 j) ∧ w'.cell? ⟨B.mg, o1 + j * 4, none⟩ = some (.int .i64 t.n) ∧ w'.cell? ⟨B.mg, o1 + j * 4 + 1, none⟩ = some (.bool t.o) ∧ w'.cell? ⟨B.mg, o1 + j * 4 + 2, none⟩ = some (.bool t.h) ∧ w'.cell? ⟨B.mg, o1 + j * 4 + 3, none⟩ = some (.int .i64 t.d))) (by kernel_rfl) ?_ (fun hHeld => ?_)
  · exact ⟨a9, b0, t0, t1, t2, t3⟩
  clear a9 b0 t0 t1 t2 t3 hv9
  refine hTk 0 15 hHeld ?_
  refine hTk 1 16 hHeld ?_
  refine hTk 2 17 hHeld ?_
  refine hTk 3 18 hHeld ?_
  refine hTk 4 19 hHeld ?_
  refine hTk 5 20 hHeld ?_
  refine hTk 6 21 hHeld ?_
  refine hTk 7 22 hHeld ?_
  have Q3 : Hid (Ar w w2.drew q B B F F c N D [(kb, resO ⟨j, an, sn⟩)]) := hide (Q2.out.below (belowN (Below.refl _ _) 1))
  replace ow2 : Hid (OwnT w2.drew v2 g2 Ls) := hide (ow2.out.below (belowN (Below.refl _ _) 1))
  have hb3 : Hid (Below w2.heap.size w2 w2.drew) := hide (belowN (Below.refl _ _) 1)
  obtain ⟨w3, hw3⟩ : ∃ w3, w2.drew = w3 := ⟨_, rfl⟩
  rw [hw3] at hHeld Q3 ow2 hb3 ⊢
  clear hw3 Q2
  refine hNo 8 fun K hK => ?_
  go_simp
  have hne := hide (And.intro (bz_get Q3.out.x (k := kb) (o := resO ⟨j, an, sn⟩) (by simp)).1 ow2.out.lt)
  have Q4 := hide (Q3.out.new (bunR bun0))
  have hg2t : Hid (g2 < w3.heap.size) := hide ow2.out.lt
  replace ow2 := hide (ow2.out.alloc (bunR bun0))
  have hktw := hb3.out.size
  replace hb3 := hide (hb3.out.alloc hb3.out.size (bunR bun0))
  obtain ⟨kt, ekt⟩ : ∃ kt, w3.heap.size = kt := ⟨_, rfl⟩
  obtain ⟨w4, ew⟩ : ∃ W, w3.alloc (bunR bun0) = W := ⟨_, rfl⟩
  rw [ew, ekt] at Q4
  rw [ew] at ow2 hb3
  rw [ekt] at hne hktw hg2t ⊢
  dsimp only [bunR] at ew
  rw [ew]
  clear ew ekt Q3
  obtain ⟨a9, hv9, t0, t1, t2, t3⟩ := hat.out w4 hb3.out
  have b0 : w4.cell? ⟨kb, 0, none⟩ = some (.int .i64 j) := cell_of_row _ _ _ _ _ _ (bz_get Q4.out.x (k := kb) (o := resO ⟨j, an, sn⟩) (by simp)).2
  refine hK.out _ _ ?_ fun hHeld => ?_
  · exact ⟨a9, b0, t0, t1, t2, t3⟩
  clear hK K
  try simp only [Act.put, za, zb, zc]
  clear a9 b0 t0 t1 t2 t3 hv9
  obtain ⟨hkt, bkt⟩ := bz_get Q4.out.x (k := kt) (o := bunR bun0) (by simp)
  have y0 : w4.cell? ⟨kt, 0, none⟩ = some (.int .i64 0) := cell_of_row _ _ _ _ _ _ bkt
  have y1 : w4.cell? ⟨kt, 1, none⟩ = some (.bool false) := cell_of_row _ _ _ _ _ _ bkt
  have y2 : w4.cell? ⟨kt, 2, none⟩ = some (.bool false) := cell_of_row _ _ _ _ _ _ bkt
  have y3 : w4.cell? ⟨kt, 3, none⟩ = some (.int .i64 0) := cell_of_row _ _ _ _ _ _ bkt
  have zt : ∀ i, w4.frozen? ⟨kt, i, none⟩ = false := fun i => frozen_of_row _ _ _ _ _ bkt
  refine hNo 9 fun K hK => ?_
  go_simp
  have hk2 : ∀ x ∈ [(kb, resO ⟨j, an, sn⟩)], x.1 ≠ kt := fun x hx => by
    simp only [List.mem_cons, List.not_mem_nil, or_false] at hx
    have := hne.out
    rcases hx with rfl
    dsimp only; omega
  have Q5 := hide (ar_setB Q4.out hk2 t)
  have hwr : FrS (· = kt) w4 ((((w4.setCell ⟨kt, 0, none⟩ (.int .i64 t.n)).setCell ⟨kt, 1, none⟩ (.bool t.o)).setCell ⟨kt, 2, none⟩ (.bool t.h)).setCell ⟨kt, 3, none⟩ (.int .i64 t.d)) := wrK (wrK (wrK (wrK (FrS.refl _ _) _) _) _) _
  replace ow2 := hide (ow2.out.fr hwr (by have := hne.out; omega))
  replace hb3 := hide (hb3.out.trans (hwr.below (B := w2.heap.size) (fun i hi => by omega) hb3.out.size))
  obtain ⟨w5, ew⟩ : ∃ W, (((w4.setCell ⟨kt, 0, none⟩ (.int .i64 t.n)).setCell ⟨kt, 1, none⟩ (.bool t.o)).setCell ⟨kt, 2, none⟩ (.bool t.h)).setCell ⟨kt, 3, none⟩ (.int .i64 t.d) = W := ⟨_, rfl⟩
  rw [ew] at Q5 ow2 hb3 ⊢
  clear ew y0 y1 y2 y3 zt bkt hkt Q4 hwr
  obtain ⟨a9, hv9, t0, t1, t2, t3⟩ := hat.out w5 hb3.out
  have b0 : w5.cell? ⟨kb, 0, none⟩ = some (.int .i64 j) := cell_of_row _ _ _ _ _ _ (bz_get Q5.out.x (k := kb) (o := resO ⟨j, an, sn⟩) (by simp)).2
  refine hK.out _ _ ?_ fun hHeld => ?_
  · exact ⟨a9, b0, t0, t1, t2, t3⟩
  clear hK K
  try simp only [Act.put, za, zb, zc]
  refine wpAnyH_done (by kernel_rfl) (NoPanic.normal ?_) _
  clear hHeld
  go_upto_region 3 with fail
  go_wp2_with fail
  refine wp_region_noPanic ?_
  refine last_begin 11 (fun w' => w'.cell? ⟨q, 9, none⟩ = some (.slice (some ⟨B.mg, o1, none⟩) n cap1) ∧ w'.cell? ⟨kb, 0, none⟩ = some (.int .i64 j)) (by kernel_rfl) ?_ fun hHeld => ?_
  · exact ⟨a9, b0⟩
  clear a9 b0 t0 t1 t2 t3 hv9
  refine lTk 0 23 hHeld ?_
  refine lTk 1 24 hHeld ?_
  refine lTk 2 25 hHeld ?_
  refine lTk 3 26 hHeld ?_
  refine lTk 4 27 hHeld ?_
  refine lTk 5 28 hHeld ?_
  refine lTk 6 29 hHeld ?_
  refine lTk 7 30 hHeld ?_
  have Q6 := hide (Q5.out.below (V' := w5.drew) (belowN (Below.refl _ _) 1))
  replace ow2 := hide (ow2.out.below (w' := w5.drew) (belowN (Below.refl _ _) 1))
  replace hb3 : Hid (Below w2.heap.size w2 w5.drew) := hide (hb3.out.drew)
  obtain ⟨w6, hw6⟩ : ∃ w6, w5.drew = w6 := ⟨_, rfl⟩
  rw [hw6] at hHeld Q6 ow2 hb3 ⊢
  clear hw6 Q5
  refine lNo 8 fun K hK => ?_
  go_simp
  go_at_call 62
  refine (refSet_c _ B.mg j bun0 D.M _ (hat.out w6 hb3.out).2.1 hj hl64.out).mono ?_
  rintro e w7 ⟨v7, g7, rfl, hO7, hg7, hb7⟩
  obtain ⟨ao7, cap7, e7, -⟩ := id hO7
  rw [hset.out, hn.out] at e7
  subst e7
  have hg27 : Hid (g2 < g7) := hide (Nat.lt_of_lt_of_le ow2.out.lt hg7)
  have hgf7 := hide (And.intro (Q6.out.nf hg7) (And.intro (Nat.le_trans Q6.out.s.fr.size hg7) (And.intro (Nat.lt_of_lt_of_le (bz_get Q6.out.x (k := kb) (o := resO ⟨j, an, sn⟩) (by simp)).1 hg7) (Nat.lt_of_lt_of_le (bz_get Q6.out.x (k := kt) (o := bunR t) (by simp)).1 hg7))))
  have Q7 := hide (Q6.out.below hb7)
  replace ow2 := hide (ow2.out.below hb7)
  replace hb3 := hide (hb3.out.trans (hb7.mono hb3.out.size))
  replace hO7 := hide hO7
  clear hb7 hg7 Q6
  obtain ⟨a9, hv9, t0, t1, t2, t3⟩ := hat.out w7 hb3.out
  have b0 : w7.cell? ⟨kb, 0, none⟩ = some (.int .i64 j) := cell_of_row _ _ _ _ _ _ (bz_get Q7.out.x (k := kb) (o := resO ⟨j, an, sn⟩) (by simp)).2
  refine hK.out _ _ (fun _ => ?_) fun hHeld0 => ?_
  · exact ⟨a9, b0⟩
  clear hK K
  replace hHeld := hHeld0 (by decide)
  clear hHeld0
  try simp only [Act.put, za, zb, zc]
  clear t0 t1 t2 t3 hv9
  have zq := Q7.out.n.at'.fz 9
  refine lNo 9 fun K hK => ?_
  go_simp
  refine hK.out _ _ (fun _ => ?_) fun hHeld0 => ?_
  · exact ⟨a9, b0⟩
  clear hK K
  replace hHeld := hHeld0 (by decide)
  clear hHeld0
  try simp only [Act.put, za, zb, zc]
  refine lTk 10 33 hHeld ?_
  refine lNo 11 fun K hK => ?_
  go_simp
  refine hK.out _ _ (fun h => absurd rfl h) fun _ => ?_
  clear hK K
  try simp only [Act.put, za, zb, zc]
  refine last_done (by kernel_rfl) (NoPanic.normal ?_) _
  clear hHeld
  have hK7 : ∀ x ∈ [(kt, bunR t), (kb, resO ⟨j, an, sn⟩)], x.1 ≠ g7 := fun x hx => by
    simp only [List.mem_cons, List.not_mem_nil, or_false] at hx
    have := hgf7.out.2.2
    rcases hx with rfl | rfl <;> (dsimp only; omega)
  have Q8 := hide (Q7.out.setM hO7.out.view hO7.out.lt (.inr ⟨hgf7.out.1, hgf7.out.2.1, hK7⟩) hI'.out hset.out (Nat.le_refl N))
  rw [eD.out] at Q8
  have hnf8 : Hid (¬ Fd q ⟨B.qa, B.qh, g7⟩ F g2 ∧ w.heap.size ≤ g2) := hide ⟨fun e => by
    have h1 := hgf2.out.1
    have h2 := ow2.out.lt
    rcases e with e | e | e | e
    · exact h1 (.inl e)
    · exact h1 (.inr (.inl e))
    · exact h1 (.inr (.inr (.inl e)))
    · have := hgf7.out.2.2
      have := hg27.out
      dsimp only at e
      omega, hgf2.out.2.1⟩
  have hgq : g2 ≠ q := fun e => hgf2.out.1 (e ▸ .inr (.inl rfl))
  replace ow2 := hide (ow2.out.fr (wrK (p := q) (o := 9) (FrS.refl _ w7) (.slice ao7 n cap7)) hgq)
  obtain ⟨w8, ew⟩ : ∃ W, w7.setCell ⟨q, 9, none⟩ (.slice ao7 n cap7) = W := ⟨_, rfl⟩
  rw [ew] at Q8 ow2 ⊢
  clear ew a9 b0 zq hK7 hgq hat hb3 Q7 hO7
  obtain ⟨hkb, bkb⟩ := bz_get Q8.out.x (k := kb) (o := resO ⟨j, an, sn⟩) (by simp)
  obtain ⟨hkt, bkt⟩ := bz_get Q8.out.x (k := kt) (o := bunR t) (by simp)
  have b0 : w8.cell? ⟨kb, 0, none⟩ = some (.int .i64 j) := cell_of_row _ _ _ _ _ _ bkb
  have b1 : w8.cell? ⟨kb, 1, none⟩ = some (.int .i64 an) := cell_of_row _ _ _ _ _ _ bkb
  have t0 : w8.cell? ⟨kt, 0, none⟩ = some (.int .i64 t.n) := cell_of_row _ _ _ _ _ _ bkt
  have t1 : w8.cell? ⟨kt, 1, none⟩ = some (.bool t.o) := cell_of_row _ _ _ _ _ _ bkt
  have t2 : w8.cell? ⟨kt, 2, none⟩ = some (.bool t.h) := cell_of_row _ _ _ _ _ _ bkt
  have t3 : w8.cell? ⟨kt, 3, none⟩ = some (.int .i64 t.d) := cell_of_row _ _ _ _ _ _ bkt
  clear bkb bkt
  have hpl := Q8.out.n.pl
  go_wp2_with (first | (go_at_call 30; refine (rhSend_c q _ F c N D' an j t _ Q8.out.n ht0.out L2 hL2).mono ?_; rintro e w9 ⟨v9, rfl, g9, ow9, hg9, hb9⟩; have Q9 := hide (Q8.out.below hb9); replace ow9 := hide ow9; replace ow2 := hide (ow2.out.below hb9); clear hb9 hg9) | (at_builtin; refine wpList_appT rfl (.tmp 34) (.tmp 41) rfl rfl rfl ow2.out ow9.out.view (by have := hl1.out; have := hl2.out; omega) m hm.out ?_; intro ao' cap' w10 g' hown' hap; replace hown' := hide hown'; replace hap := hide hap))
  go_ret
  have hx8 : ∀ x ∈ [(kt, bunR t), (kb, resO ⟨j, an, sn⟩)], x.1 ≠ g2 := fun x hx => by
    have h1 := hgf2.out.2.2
    have h2 := hg2t.out
    simp only [List.mem_cons, List.not_mem_nil, or_false] at hx
    rcases hx with rfl | rfl <;> (dsimp only; omega)
  have Q10 := Q9.out.frk hap.out.fr hnf8.out.2 hnf8.out.1 hx8
  have hg9 : w.heap.size ≤ g' ∧ ¬ Fd q ⟨B.qa, B.qh, g7⟩ F g' := by
    rcases hap.out.lies with e | e
    · rw [e]; exact ⟨hnf8.out.2, hnf8.out.1⟩
    · exact ⟨Nat.le_trans Q9.out.s.fr.size e, Q9.out.nf e⟩
  exact ⟨_, rfl, _, g', rut_fin Q10 (by rw [← hLL.out]; exact hown'.out) hg9.1 hg9.2⟩
abbrev d3R (d0 d1 d2 : Int) : Obj := .cells #[.int .i64 d0, .int .i64 d1, .int .i64 d2] 35
theorem ar_box {w : World} {q : Nat} {B : Bd} {F : Nat → Prop} {c : Cf} {N : Nat} {D : Hm} (h : RhIs w q B F c N D) (l : Lt) (d0 d1 d2 : Int) :
    Ar w ((w.alloc (ltR l)).alloc (d3R d0 d1 d2)) q B B F F c N D [(w.heap.size + 1, d3R d0 d1 d2), (w.heap.size, ltR l)] := by
  have h1 := ((ar_start h).new (ltR l)).new (d3R d0 d1 d2)
  rw [World.size_alloc] at h1
  exact h1
theorem ViewB.lt_ofB {w : World} {v : Value} {b : Nat} {L : List Bun} (h : ViewB w v b L) (hn : L ≠ []) : b < w.heap.size := by
  obtain ⟨_, _, _, _, _, h⟩ := h
  rcases h with h | ⟨_, _, h, _⟩
  · exact absurd h hn
  · exact h
theorem ar_setA {w V : World} {q : Nat} {B0 B : Bd} {Ft F : Nat → Prop} {c : Cf} {N : Nat} {D : Hm} {K : List (Nat × Obj)} {k : Nat} (h : Ar w V q B0 B Ft F c N D ((k, resO at0) :: K)) (hk : ∀ x ∈ K, x.1 ≠ k) (a : At) : Ar w (setA V k a) q B0 B Ft F c N D ((k, resO a) :: K) := by
  have e1 : Ar w (V.setCell ⟨k, 0, none⟩ (.int .i64 a.b)) q B0 B Ft F c N D ((k, .cells #[.int .i64 a.b, .int .i64 0, .int .i64 0] 43 (0, 0)) :: K) := h.head hk 0 _
  have e2 : Ar w ((V.setCell ⟨k, 0, none⟩ (.int .i64 a.b)).setCell ⟨k, 1, none⟩ (.int .i64 a.n)) q B0 B Ft F c N D ((k, .cells #[.int .i64 a.b, .int .i64 a.n, .int .i64 0] 43 (0, 0)) :: K) := e1.head hk 1 _
  exact e2.head hk 2 _
set_option maxHeartbeats 4000000 in
theorem rhTkNo_c (q : Nat) (B : Bd) (F : Nat → Prop) (c : Cf) (N : Nat) (D : Hm) (l : Lt) (d0 d1 d2 : Int) (w : World) (h : RhIs w q B F c N D) (hno : htOk c l = false) (L : List Lt) (hL : Hid ([] = L)) : Calls Tryd.prog 14 #[ptr q, .agg #[.int .i64 l.k, .int .i64 l.a, .int .i64 l.b, .int .i64 l.q, .int .i64 l.s, .int .i64 l.w, .bool l.r, .int .i64 l.n, .bool l.o, .bool l.h, .int .i64 l.d], .agg #[.int .i64 d0, .int .i64 d1, .int .i64 d2]] w fun e w' => ∃ v, e = .returned v ∧ ∃ B' F' g, RutP w q B B' F F' c (N) (D) L v w' g := by
  have hH := hide h
  obtain rfl := hL.out
  obtain ⟨z, hz⟩ : ∃ z, Hid (letterZ c.n c.bl c.tt ⟨l.k, l.a, l.b, l.q, l.s, l.w, l.r, ⟨l.n, l.o, l.h, l.d⟩⟩ = z) := ⟨_, rfl⟩
  clear hL h
  by_cases ez : z = 0
  · have eb : ¬ l.b = c.n := by
      have h0 : lerr c l = 0 := by rw [← hz.out] at ez; exact ez
      unfold htOk at hno
      rw [h0] at hno
      simpa using hno
    obtain ⟨h1, h2, h3⟩ := cmpT ez
    obtain ⟨f1, f2, f3⟩ := cmpF eb
    replace ez := hide ez
    replace eb := hide eb
    clear hno
    go_enter Tryd.func14, Tryd.ntmps14
    go_upto_region 1 with fail
    refine name_world ?_
    intro V hV
    have Q1 : Hid (Ar w V q B B F F c N D [(w.heap.size + 1, d3R d0 d1 d2), (w.heap.size, ltR l)]) := by rw [← hV]; exact hide (ar_box hH.out l d0 d1 d2)
    obtain ⟨kd, hde⟩ : ∃ kd, Hid (w.heap.size + 1 = kd) := ⟨_, rfl⟩
    obtain ⟨kl, hle⟩ : ∃ kl, Hid (w.heap.size = kl) := ⟨_, rfl⟩
    rw [hde.out, hle.out] at Q1
    rw [hde.out, hle.out]
    clear hV
    have A1 := Q1.out.n.at'
    obtain ⟨b0, b1, b2, b3, b4, b5, b6, b7, b8, b9, b10⟩ := lt_at (bz_get Q1.out.x (k := kl) (o := ltR l) (by simp)).2
    go_wp2_with fail
    refine wp_region_noPanic ?_
    refine wp_region_held_drew (S := (fun w' => w'.cell? ⟨kl, 0, none⟩ = some (.int .i64 l.k) ∧ w'.cell? ⟨kl, 1, none⟩ = some (.int .i64 l.a) ∧ w'.cell? ⟨kl, 2, none⟩ = some (.int .i64 l.b) ∧ w'.cell? ⟨kl, 3, none⟩ = some (.int .i64 l.q) ∧ w'.cell? ⟨kl, 4, none⟩ = some (.int .i64 l.s) ∧ w'.cell? ⟨kl, 5, none⟩ = some (.int .i64 l.w) ∧ w'.cell? ⟨kl, 6, none⟩ = some (.bool l.r) ∧ w'.cell? ⟨kl, 7, none⟩ = some (.int .i64 l.n) ∧ w'.cell? ⟨kl, 8, none⟩ = some (.bool l.o) ∧ w'.cell? ⟨kl, 9, none⟩ = some (.bool l.h) ∧ w'.cell? ⟨kl, 10, none⟩ = some (.int .i64 l.d) ∧ w'.cell? ⟨q, 0, none⟩ = some (.int .i64 c.n) ∧ w'.cell? ⟨q, 1, none⟩ = some (.int .i64 c.bl) ∧ w'.cell? ⟨q, 2, none⟩ = some (.int .i64 c.tt) ∧ w'.cell? ⟨q, 3, none⟩ = some (.int .i64 c.cs) ∧ w'.cell? ⟨q, 4, none⟩ = some (.int .i64 c.cy) ∧ w'.cell? ⟨q, 5, none⟩ = some (.int .i64 c.cc) ∧ w'.cell? ⟨q, 6, none⟩ = some (.int .i64 c.cu) ∧ w'.cell? ⟨q, 7, none⟩ = some (.int .i64 c.ct) ∧ w'.cell? ⟨q, 8, none⟩ = some (.int .i64 c.cp))) (by kernel_rfl) ?_ (fun hHeld => ?_)
    · exact ⟨b0, b1, b2, b3, b4, b5, b6, b7, b8, b9, b10, A1.c0, A1.c1, A1.c2, A1.c3, A1.c4, A1.c5, A1.c6, A1.c7, A1.c8⟩
    clear A1 b0 b1 b2 b3 b4 b5 b6 b7 b8 b9 b10
    refine hTk 0 18 hHeld ?_
    refine hTk 1 19 hHeld ?_
    refine hTk 2 20 hHeld ?_
    refine hTk 3 21 hHeld ?_
    refine hTk 4 22 hHeld ?_
    refine hNo 5 fun K hK => ?_
    go_simp
    go_at_call 23
    refine (refCheck_c c.n c.bl c.tt c.cs c.cy c.cc c.cu c.ct c.cp l.k l.a l.b l.q l.s l.w l.r l.n l.o l.h l.d _ z hz).mono ?_
    rintro e w2 ⟨rfl, hb2⟩
    have Q2 : Hid (Ar w w2 q B B F F c N D [(kd, d3R d0 d1 d2), (kl, ltR l)]) := hide (Q1.out.below (((Below.refl _ _).drew).trans hb2))
    have A1 := Q2.out.n.at'
    obtain ⟨b0, b1, b2, b3, b4, b5, b6, b7, b8, b9, b10⟩ := lt_at (bz_get Q2.out.x (k := kl) (o := ltR l) (by simp)).2
    refine hK.out _ _ ?_ fun hHeld => ?_
    · exact ⟨b0, b1, b2, b3, b4, b5, b6, b7, b8, b9, b10, A1.c0, A1.c1, A1.c2, A1.c3, A1.c4, A1.c5, A1.c6, A1.c7, A1.c8⟩
    clear hK K
    try simp only [Act.put, za, zb, zc]
    clear A1 hb2 Q1
    refine hVl 6 24 (.bool false) hHeld (fun wz hSw => ?_) ?_
    · try dsimp only at hSw
      go_simp
    refine hTk 7 25 hHeld ?_
    refine hTk 8 26 hHeld ?_
    refine hTk 9 27 hHeld ?_
    refine hTk 10 28 hHeld ?_
    refine hTk 11 29 hHeld ?_
    refine hTk 12 30 hHeld ?_
    refine hTk 13 31 hHeld ?_
    refine hTk 14 32 hHeld ?_
    refine hVl 15 33 (.bool true) hHeld (fun wz hSw => ?_) ?_
    · try dsimp only at hSw
      go_simp
    refine hTk 16 34 hHeld ?_
    refine wpAnyH_done (by kernel_rfl) (NoPanic.normal ?_) _
    clear hHeld
    obtain ⟨q1, q2, q3, q4⟩ := Q2.out.x (kl, ltR l) (by simp)
    go_wp2_with fail
    go_ret
    exact ⟨_, rfl, B, F, kl, rut_fin Q2.out (own_nilT q2) q1 q3⟩
  · obtain ⟨h1, h2, h3⟩ := cmpF ez
    replace ez := hide ez
    clear hno
    go_enter Tryd.func14, Tryd.ntmps14
    go_upto_region 1 with fail
    refine name_world ?_
    intro V hV
    have Q1 : Hid (Ar w V q B B F F c N D [(w.heap.size + 1, d3R d0 d1 d2), (w.heap.size, ltR l)]) := by rw [← hV]; exact hide (ar_box hH.out l d0 d1 d2)
    obtain ⟨kd, hde⟩ : ∃ kd, Hid (w.heap.size + 1 = kd) := ⟨_, rfl⟩
    obtain ⟨kl, hle⟩ : ∃ kl, Hid (w.heap.size = kl) := ⟨_, rfl⟩
    rw [hde.out, hle.out] at Q1
    rw [hde.out, hle.out]
    clear hV
    have A1 := Q1.out.n.at'
    obtain ⟨b0, b1, b2, b3, b4, b5, b6, b7, b8, b9, b10⟩ := lt_at (bz_get Q1.out.x (k := kl) (o := ltR l) (by simp)).2
    go_wp2_with fail
    refine wp_region_noPanic ?_
    refine wp_region_held_drew (S := (fun w' => w'.cell? ⟨kl, 0, none⟩ = some (.int .i64 l.k) ∧ w'.cell? ⟨kl, 1, none⟩ = some (.int .i64 l.a) ∧ w'.cell? ⟨kl, 2, none⟩ = some (.int .i64 l.b) ∧ w'.cell? ⟨kl, 3, none⟩ = some (.int .i64 l.q) ∧ w'.cell? ⟨kl, 4, none⟩ = some (.int .i64 l.s) ∧ w'.cell? ⟨kl, 5, none⟩ = some (.int .i64 l.w) ∧ w'.cell? ⟨kl, 6, none⟩ = some (.bool l.r) ∧ w'.cell? ⟨kl, 7, none⟩ = some (.int .i64 l.n) ∧ w'.cell? ⟨kl, 8, none⟩ = some (.bool l.o) ∧ w'.cell? ⟨kl, 9, none⟩ = some (.bool l.h) ∧ w'.cell? ⟨kl, 10, none⟩ = some (.int .i64 l.d) ∧ w'.cell? ⟨q, 0, none⟩ = some (.int .i64 c.n) ∧ w'.cell? ⟨q, 1, none⟩ = some (.int .i64 c.bl) ∧ w'.cell? ⟨q, 2, none⟩ = some (.int .i64 c.tt) ∧ w'.cell? ⟨q, 3, none⟩ = some (.int .i64 c.cs) ∧ w'.cell? ⟨q, 4, none⟩ = some (.int .i64 c.cy) ∧ w'.cell? ⟨q, 5, none⟩ = some (.int .i64 c.cc) ∧ w'.cell? ⟨q, 6, none⟩ = some (.int .i64 c.cu) ∧ w'.cell? ⟨q, 7, none⟩ = some (.int .i64 c.ct) ∧ w'.cell? ⟨q, 8, none⟩ = some (.int .i64 c.cp))) (by kernel_rfl) ?_ (fun hHeld => ?_)
    · exact ⟨b0, b1, b2, b3, b4, b5, b6, b7, b8, b9, b10, A1.c0, A1.c1, A1.c2, A1.c3, A1.c4, A1.c5, A1.c6, A1.c7, A1.c8⟩
    clear A1 b0 b1 b2 b3 b4 b5 b6 b7 b8 b9 b10
    refine hTk 0 18 hHeld ?_
    refine hTk 1 19 hHeld ?_
    refine hTk 2 20 hHeld ?_
    refine hTk 3 21 hHeld ?_
    refine hTk 4 22 hHeld ?_
    refine hNo 5 fun K hK => ?_
    go_simp
    go_at_call 23
    refine (refCheck_c c.n c.bl c.tt c.cs c.cy c.cc c.cu c.ct c.cp l.k l.a l.b l.q l.s l.w l.r l.n l.o l.h l.d _ z hz).mono ?_
    rintro e w2 ⟨rfl, hb2⟩
    have Q2 : Hid (Ar w w2 q B B F F c N D [(kd, d3R d0 d1 d2), (kl, ltR l)]) := hide (Q1.out.below (((Below.refl _ _).drew).trans hb2))
    have A1 := Q2.out.n.at'
    obtain ⟨b0, b1, b2, b3, b4, b5, b6, b7, b8, b9, b10⟩ := lt_at (bz_get Q2.out.x (k := kl) (o := ltR l) (by simp)).2
    refine hK.out _ _ ?_ fun hHeld => ?_
    · exact ⟨b0, b1, b2, b3, b4, b5, b6, b7, b8, b9, b10, A1.c0, A1.c1, A1.c2, A1.c3, A1.c4, A1.c5, A1.c6, A1.c7, A1.c8⟩
    clear hK K
    try simp only [Act.put, za, zb, zc]
    clear A1 hb2 Q1
    refine hVl 6 24 (.bool true) hHeld (fun wz hSw => ?_) ?_
    · try dsimp only at hSw
      go_simp
    refine hTk 7 25 hHeld ?_
    refine hSk 8 26 hHeld ?_
    refine hSk 9 27 hHeld ?_
    refine hSk 10 28 hHeld ?_
    refine hSk 11 29 hHeld ?_
    refine hSk 12 30 hHeld ?_
    refine hSk 13 31 hHeld ?_
    refine hSk 14 32 hHeld ?_
    refine hSk 15 33 hHeld ?_
    refine hTk 16 34 hHeld ?_
    refine wpAnyH_done (by kernel_rfl) (NoPanic.normal ?_) _
    clear hHeld
    obtain ⟨q1, q2, q3, q4⟩ := Q2.out.x (kl, ltR l) (by simp)
    go_wp2_with fail
    go_ret
    exact ⟨_, rfl, B, F, kl, rut_fin Q2.out (own_nilT q2) q1 q3⟩
theorem rhTkEl_c (q : Nat) (B : Bd) (F : Nat → Prop) (c : Cf) (N : Nat) (D : Hm) (l : Lt) (d0 d1 d2 : Int) (w : World) (h : RhIs w q B F c N D) (hno : htOk c l = true) (k1 : ¬ l.k = 1) (k2 : ¬ l.k = 2) (k3 : ¬ l.k = 3) (k5 : ¬ l.k = 5) (k7 : ¬ l.k = 7) (L : List Lt) (hL : Hid ([] = L)) : Calls Tryd.prog 14 #[ptr q, .agg #[.int .i64 l.k, .int .i64 l.a, .int .i64 l.b, .int .i64 l.q, .int .i64 l.s, .int .i64 l.w, .bool l.r, .int .i64 l.n, .bool l.o, .bool l.h, .int .i64 l.d], .agg #[.int .i64 d0, .int .i64 d1, .int .i64 d2]] w fun e w' => ∃ v, e = .returned v ∧ ∃ B' F' g, RutP w q B B' F F' c (N) (D) L v w' g := by
  have hH := hide h
  obtain rfl := hL.out
  obtain ⟨z, hz⟩ : ∃ z, Hid (letterZ c.n c.bl c.tt ⟨l.k, l.a, l.b, l.q, l.s, l.w, l.r, ⟨l.n, l.o, l.h, l.d⟩⟩ = z) := ⟨_, rfl⟩
  obtain ⟨ez, eb⟩ : z = 0 ∧ l.b = c.n := by
    unfold htOk at hno
    simp only [Bool.and_eq_true, decide_eq_true_eq] at hno
    exact ⟨by rw [← hz.out]; exact hno.1, hno.2⟩
  obtain ⟨h1, h2, h3⟩ := cmpT ez
  obtain ⟨f1, f2, f3⟩ := cmpT eb
  obtain ⟨m1, n1, o1⟩ := cmpF k1
  obtain ⟨m2, n2, o2⟩ := cmpF k2
  obtain ⟨m3, n3, o3⟩ := cmpF k3
  obtain ⟨m5, n5, o5⟩ := cmpF k5
  obtain ⟨m7, n7, o7⟩ := cmpF k7
  replace ez := hide ez
  replace eb := hide eb
  replace k1 := hide k1
  replace k2 := hide k2
  replace k3 := hide k3
  replace k5 := hide k5
  replace k7 := hide k7
  clear hno hL h
  go_enter Tryd.func14, Tryd.ntmps14
  go_upto_region 1 with fail
  refine name_world ?_
  intro V hV
  have Q1 : Hid (Ar w V q B B F F c N D [(w.heap.size + 1, d3R d0 d1 d2), (w.heap.size, ltR l)]) := by rw [← hV]; exact hide (ar_box hH.out l d0 d1 d2)
  obtain ⟨kd, hde⟩ : ∃ kd, Hid (w.heap.size + 1 = kd) := ⟨_, rfl⟩
  obtain ⟨kl, hle⟩ : ∃ kl, Hid (w.heap.size = kl) := ⟨_, rfl⟩
  rw [hde.out, hle.out] at Q1
  rw [hde.out, hle.out]
  clear hV
  have A1 := Q1.out.n.at'
  obtain ⟨b0, b1, b2, b3, b4, b5, b6, b7, b8, b9, b10⟩ := lt_at (bz_get Q1.out.x (k := kl) (o := ltR l) (by simp)).2
  go_wp2_with fail
  refine wp_region_noPanic ?_
  refine wp_region_held_drew (S := (fun w' => w'.cell? ⟨kl, 0, none⟩ = some (.int .i64 l.k) ∧ w'.cell? ⟨kl, 1, none⟩ = some (.int .i64 l.a) ∧ w'.cell? ⟨kl, 2, none⟩ = some (.int .i64 l.b) ∧ w'.cell? ⟨kl, 3, none⟩ = some (.int .i64 l.q) ∧ w'.cell? ⟨kl, 4, none⟩ = some (.int .i64 l.s) ∧ w'.cell? ⟨kl, 5, none⟩ = some (.int .i64 l.w) ∧ w'.cell? ⟨kl, 6, none⟩ = some (.bool l.r) ∧ w'.cell? ⟨kl, 7, none⟩ = some (.int .i64 l.n) ∧ w'.cell? ⟨kl, 8, none⟩ = some (.bool l.o) ∧ w'.cell? ⟨kl, 9, none⟩ = some (.bool l.h) ∧ w'.cell? ⟨kl, 10, none⟩ = some (.int .i64 l.d) ∧ w'.cell? ⟨q, 0, none⟩ = some (.int .i64 c.n) ∧ w'.cell? ⟨q, 1, none⟩ = some (.int .i64 c.bl) ∧ w'.cell? ⟨q, 2, none⟩ = some (.int .i64 c.tt) ∧ w'.cell? ⟨q, 3, none⟩ = some (.int .i64 c.cs) ∧ w'.cell? ⟨q, 4, none⟩ = some (.int .i64 c.cy) ∧ w'.cell? ⟨q, 5, none⟩ = some (.int .i64 c.cc) ∧ w'.cell? ⟨q, 6, none⟩ = some (.int .i64 c.cu) ∧ w'.cell? ⟨q, 7, none⟩ = some (.int .i64 c.ct) ∧ w'.cell? ⟨q, 8, none⟩ = some (.int .i64 c.cp))) (by kernel_rfl) ?_ (fun hHeld => ?_)
  · exact ⟨b0, b1, b2, b3, b4, b5, b6, b7, b8, b9, b10, A1.c0, A1.c1, A1.c2, A1.c3, A1.c4, A1.c5, A1.c6, A1.c7, A1.c8⟩
  clear A1 b0 b1 b2 b3 b4 b5 b6 b7 b8 b9 b10
  refine hTk 0 18 hHeld ?_
  refine hTk 1 19 hHeld ?_
  refine hTk 2 20 hHeld ?_
  refine hTk 3 21 hHeld ?_
  refine hTk 4 22 hHeld ?_
  refine hNo 5 fun K hK => ?_
  go_simp
  go_at_call 23
  refine (refCheck_c c.n c.bl c.tt c.cs c.cy c.cc c.cu c.ct c.cp l.k l.a l.b l.q l.s l.w l.r l.n l.o l.h l.d _ z hz).mono ?_
  rintro e w2 ⟨rfl, hb2⟩
  have Q2 : Hid (Ar w w2 q B B F F c N D [(kd, d3R d0 d1 d2), (kl, ltR l)]) := hide (Q1.out.below (((Below.refl _ _).drew).trans hb2))
  have A1 := Q2.out.n.at'
  obtain ⟨b0, b1, b2, b3, b4, b5, b6, b7, b8, b9, b10⟩ := lt_at (bz_get Q2.out.x (k := kl) (o := ltR l) (by simp)).2
  refine hK.out _ _ ?_ fun hHeld => ?_
  · exact ⟨b0, b1, b2, b3, b4, b5, b6, b7, b8, b9, b10, A1.c0, A1.c1, A1.c2, A1.c3, A1.c4, A1.c5, A1.c6, A1.c7, A1.c8⟩
  clear hK K
  try simp only [Act.put, za, zb, zc]
  clear A1 hb2 Q1
  refine hVl 6 24 (.bool false) hHeld (fun wz hSw => ?_) ?_
  · try dsimp only at hSw
    go_simp
  refine hTk 7 25 hHeld ?_
  refine hTk 8 26 hHeld ?_
  refine hTk 9 27 hHeld ?_
  refine hTk 10 28 hHeld ?_
  refine hTk 11 29 hHeld ?_
  refine hTk 12 30 hHeld ?_
  refine hTk 13 31 hHeld ?_
  refine hTk 14 32 hHeld ?_
  refine hVl 15 33 (.bool false) hHeld (fun wz hSw => ?_) ?_
  · try dsimp only at hSw
    go_simp
  refine hTk 16 34 hHeld ?_
  refine wpAnyH_done (by kernel_rfl) (NoPanic.normal ?_) _
  clear hHeld
  have b0 := (lt_at (bz_get Q2.out.x (k := kl) (o := ltR l) (by simp)).2).c0
  have hkl := (bz_get Q2.out.x (k := kl) (o := ltR l) (by simp)).1
  obtain ⟨q1, q2, q3, q4⟩ := Q2.out.x (kl, ltR l) (by simp)
  go_wp2_with fail
  go_ret
  exact ⟨_, rfl, B, F, kl, rut_fin Q2.out (own_nilT q2) q1 q3⟩
set_option maxHeartbeats 4000000 in
theorem rhTk1_c (q : Nat) (B : Bd) (F : Nat → Prop) (c : Cf) (N : Nat) (D : Hm) (l : Lt) (d0 d1 d2 : Int) (w : World) (h : RhIs w q B F c N D) (hN1 : N + 2 ≤ 100000) (hno : htOk c l = true) (kk : l.k = 1) (L : List Lt) (hL : Hid (hTokL c D l = L)) : Calls Tryd.prog 14 #[ptr q, .agg #[.int .i64 l.k, .int .i64 l.a, .int .i64 l.b, .int .i64 l.q, .int .i64 l.s, .int .i64 l.w, .bool l.r, .int .i64 l.n, .bool l.o, .bool l.h, .int .i64 l.d], .agg #[.int .i64 d0, .int .i64 d1, .int .i64 d2]] w fun e w' => ∃ v, e = .returned v ∧ ∃ B' F' g, RutP w q B B' F F' c (N + 1) (nxHTok D l) L v w' g := by
  have hH := hide h
  obtain ⟨z, hz⟩ : ∃ z, Hid (letterZ c.n c.bl c.tt ⟨l.k, l.a, l.b, l.q, l.s, l.w, l.r, ⟨l.n, l.o, l.h, l.d⟩⟩ = z) := ⟨_, rfl⟩
  obtain ⟨ez, eb⟩ : z = 0 ∧ l.b = c.n := by
    unfold htOk at hno
    simp only [Bool.and_eq_true, decide_eq_true_eq] at hno
    exact ⟨by rw [← hz.out]; exact hno.1, hno.2⟩
  have hle0 : lerr c l = 0 := by rw [← hz.out] at ez; exact ez
  have hqq := lerr_q hle0
  obtain ⟨j, hj⟩ : ∃ j : Nat, l.q = j := ⟨l.q.toNat, by omega⟩
  have hjM : Hid (j < D.M.length) := hide (by have := h.ml; have := h.ok.b0; omega)
  have hjL : Hid (j < D.L.length) := hide (by have := h.al; have := h.ok.b0; omega)
  have hq1 : hasM D.M l.q = true := by rw [hj]; exact hasM_nat hjM.out
  have htok := lerr_tok hle0 kk
  have hbo := hide htok.1
  have h65 : Hid (l.n ≤ 65536) := hide (by have := h.ok.t1; have := htok.2.2.1; omega)
  have hn0 : Hid (0 ≤ (tokOf l).n) := hide htok.1.1
  have hqH := hide hq1
  have hL' := hL.out
  obtain ⟨ok, hok⟩ : ∃ ok, Hid (okCur D.L l.q = ok) := ⟨_, rfl⟩
  obtain ⟨a, ha⟩ : ∃ a, Hid (atCur D.L l.q = a) := ⟨_, rfl⟩
  obtain ⟨D', hD'⟩ : ∃ D', Hid (nxHTok D l = D') := ⟨_, rfl⟩
  rw [hD'.out]
  unfold hTokL at hL'
  rw [hok.out, ha.out] at hL'
  clear htok hL
  obtain ⟨h1, h2, h3⟩ := cmpT ez
  obtain ⟨f1, f2, f3⟩ := cmpT eb
  obtain ⟨m1, n1, o1⟩ := cmpT kk
  replace ez := hide ez
  replace eb := hide eb
  replace kk := hide kk
  replace hj := hide hj
  clear hno h hqq hle0 hq1
  go_enter Tryd.func14, Tryd.ntmps14
  go_upto_region 1 with fail
  refine name_world ?_
  intro V hV
  have Q1 : Hid (Ar w V q B B F F c N D [(w.heap.size + 1, d3R d0 d1 d2), (w.heap.size, ltR l)]) := by rw [← hV]; exact hide (ar_box hH.out l d0 d1 d2)
  obtain ⟨kd, hde⟩ : ∃ kd, Hid (w.heap.size + 1 = kd) := ⟨_, rfl⟩
  obtain ⟨kl, hle⟩ : ∃ kl, Hid (w.heap.size = kl) := ⟨_, rfl⟩
  rw [hde.out, hle.out] at Q1
  rw [hde.out, hle.out]
  clear hV
  have A1 := Q1.out.n.at'
  obtain ⟨b0, b1, b2, b3, b4, b5, b6, b7, b8, b9, b10⟩ := lt_at (bz_get Q1.out.x (k := kl) (o := ltR l) (by simp)).2
  go_wp2_with fail
  refine wp_region_noPanic ?_
  refine wp_region_held_drew (S := (fun w' => w'.cell? ⟨kl, 0, none⟩ = some (.int .i64 l.k) ∧ w'.cell? ⟨kl, 1, none⟩ = some (.int .i64 l.a) ∧ w'.cell? ⟨kl, 2, none⟩ = some (.int .i64 l.b) ∧ w'.cell? ⟨kl, 3, none⟩ = some (.int .i64 l.q) ∧ w'.cell? ⟨kl, 4, none⟩ = some (.int .i64 l.s) ∧ w'.cell? ⟨kl, 5, none⟩ = some (.int .i64 l.w) ∧ w'.cell? ⟨kl, 6, none⟩ = some (.bool l.r) ∧ w'.cell? ⟨kl, 7, none⟩ = some (.int .i64 l.n) ∧ w'.cell? ⟨kl, 8, none⟩ = some (.bool l.o) ∧ w'.cell? ⟨kl, 9, none⟩ = some (.bool l.h) ∧ w'.cell? ⟨kl, 10, none⟩ = some (.int .i64 l.d) ∧ w'.cell? ⟨q, 0, none⟩ = some (.int .i64 c.n) ∧ w'.cell? ⟨q, 1, none⟩ = some (.int .i64 c.bl) ∧ w'.cell? ⟨q, 2, none⟩ = some (.int .i64 c.tt) ∧ w'.cell? ⟨q, 3, none⟩ = some (.int .i64 c.cs) ∧ w'.cell? ⟨q, 4, none⟩ = some (.int .i64 c.cy) ∧ w'.cell? ⟨q, 5, none⟩ = some (.int .i64 c.cc) ∧ w'.cell? ⟨q, 6, none⟩ = some (.int .i64 c.cu) ∧ w'.cell? ⟨q, 7, none⟩ = some (.int .i64 c.ct) ∧ w'.cell? ⟨q, 8, none⟩ = some (.int .i64 c.cp))) (by kernel_rfl) ?_ (fun hHeld => ?_)
  · exact ⟨b0, b1, b2, b3, b4, b5, b6, b7, b8, b9, b10, A1.c0, A1.c1, A1.c2, A1.c3, A1.c4, A1.c5, A1.c6, A1.c7, A1.c8⟩
  clear A1 b0 b1 b2 b3 b4 b5 b6 b7 b8 b9 b10
  refine hTk 0 18 hHeld ?_
  refine hTk 1 19 hHeld ?_
  refine hTk 2 20 hHeld ?_
  refine hTk 3 21 hHeld ?_
  refine hTk 4 22 hHeld ?_
  refine hNo 5 fun K hK => ?_
  go_simp
  go_at_call 23
  refine (refCheck_c c.n c.bl c.tt c.cs c.cy c.cc c.cu c.ct c.cp l.k l.a l.b l.q l.s l.w l.r l.n l.o l.h l.d _ z hz).mono ?_
  rintro e w2 ⟨rfl, hb2⟩
  have Q2 : Hid (Ar w w2 q B B F F c N D [(kd, d3R d0 d1 d2), (kl, ltR l)]) := hide (Q1.out.below (((Below.refl _ _).drew).trans hb2))
  have A1 := Q2.out.n.at'
  obtain ⟨b0, b1, b2, b3, b4, b5, b6, b7, b8, b9, b10⟩ := lt_at (bz_get Q2.out.x (k := kl) (o := ltR l) (by simp)).2
  refine hK.out _ _ ?_ fun hHeld => ?_
  · exact ⟨b0, b1, b2, b3, b4, b5, b6, b7, b8, b9, b10, A1.c0, A1.c1, A1.c2, A1.c3, A1.c4, A1.c5, A1.c6, A1.c7, A1.c8⟩
  clear hK K
  try simp only [Act.put, za, zb, zc]
  clear A1 hb2 Q1
  refine hVl 6 24 (.bool false) hHeld (fun wz hSw => ?_) ?_
  · try dsimp only at hSw
    go_simp
  refine hTk 7 25 hHeld ?_
  refine hTk 8 26 hHeld ?_
  refine hTk 9 27 hHeld ?_
  refine hTk 10 28 hHeld ?_
  refine hTk 11 29 hHeld ?_
  refine hTk 12 30 hHeld ?_
  refine hTk 13 31 hHeld ?_
  refine hTk 14 32 hHeld ?_
  refine hVl 15 33 (.bool false) hHeld (fun wz hSw => ?_) ?_
  · try dsimp only at hSw
    go_simp
  refine hTk 16 34 hHeld ?_
  refine wpAnyH_done (by kernel_rfl) (NoPanic.normal ?_) _
  clear hHeld
  have b0 := (lt_at (bz_get Q2.out.x (k := kl) (o := ltR l) (by simp)).2).c0
  have hkl := (bz_get Q2.out.x (k := kl) (o := ltR l) (by simp)).1
  obtain ⟨a10, b3⟩ : w2.cell? ⟨q, 10, none⟩ = some (ptr B.qa) ∧ w2.cell? ⟨kl, 3, none⟩ = some (.int .i64 l.q) := ⟨Q2.out.n.at'.c10, (lt_at (bz_get Q2.out.x (k := kl) (o := ltR l) (by simp)).2).c3⟩
  go_upto_region 5 with fail
  go_cut [7, 8] (fun sk si wx => ∃ kt, sk = ptr kt ∧ si = .bool ok ∧ Ar w wx q B B F F c (N) D [(kt, resO a), (kd, d3R d0 d1 d2), (kl, ltR l)])
  case first =>
    go_wp2_with fail
    refine wp_region_noPanic ?_
    refine wp_region_held_drew (S := (fun w' => w'.cell? ⟨q, 10, none⟩ = some (ptr B.qa) ∧ w'.cell? ⟨kl, 3, none⟩ = some (.int .i64 l.q))) (by kernel_rfl) ?_ (fun hHeld => ?_)
    · exact ⟨a10, b3⟩
    clear a10 b3
    refine hTk 0 40 hHeld ?_
    refine hTk 1 41 hHeld ?_
    refine hTk 2 42 hHeld ?_
    refine hTk 3 43 hHeld ?_
    refine hTk 4 44 hHeld ?_
    refine hTk 5 45 hHeld ?_
    have Q0 : Hid (Ar w w2.drew q B B F F c N D [(kd, d3R d0 d1 d2), (kl, ltR l)]) := hide (Q2.out.below (belowN (Below.refl _ _) 1))
    obtain ⟨w1, hw1⟩ : ∃ w1, w2.drew = w1 := ⟨_, rfl⟩
    rw [hw1] at hHeld Q0 ⊢
    clear hw1 Q2 b0 hkl
    refine hTwo 6 10 (fun K hK => ?_) fun K hK => ?_
    · go_simp
      go_at_call 16
      refine (dCur_c B.qa B.qh _ N D.L F l.q _ Q0.out.n.arb (by omega) a ha ok hok).mono ?_
      rintro e w3 ⟨rfl, hbG⟩
      have Q3 := hide (Q0.out.below hbG)
      clear hbG
      obtain ⟨a10, b3⟩ : w3.cell? ⟨q, 10, none⟩ = some (ptr B.qa) ∧ w3.cell? ⟨kl, 3, none⟩ = some (.int .i64 l.q) := ⟨Q3.out.n.at'.c10, (lt_at (bz_get Q3.out.x (k := kl) (o := ltR l) (by simp)).2).c3⟩
      refine hK.out _ _ ?_ fun hHeld => ?_
      · exact ⟨a10, b3⟩
      clear hK K
      try simp only [Act.put, za, zb, zc]
      clear a10 b3
      refine hTk 7 39 hHeld ?_
      refine hTk 8 47 hHeld ?_
      refine hTk 9 48 hHeld ?_
      refine hNo 10 fun K hK => ?_
      go_simp
      have hne := hide (And.intro (bz_get Q3.out.x (k := kl) (o := ltR l) (by simp)).1 (bz_get Q3.out.x (k := kd) (o := d3R d0 d1 d2) (by simp)).1)
      have Q4 := hide (Q3.out.new (resO at0))
      obtain ⟨kt, ekt⟩ : ∃ kt, w3.heap.size = kt := ⟨_, rfl⟩
      obtain ⟨w4, ew⟩ : ∃ W, w3.alloc (resO at0) = W := ⟨_, rfl⟩
      rw [ew, ekt] at Q4
      rw [ekt] at hne ⊢
      dsimp only [resO] at ew
      rw [ew]
      clear ew ekt
      obtain ⟨a10, b3⟩ : w4.cell? ⟨q, 10, none⟩ = some (ptr B.qa) ∧ w4.cell? ⟨kl, 3, none⟩ = some (.int .i64 l.q) := ⟨Q4.out.n.at'.c10, (lt_at (bz_get Q4.out.x (k := kl) (o := ltR l) (by simp)).2).c3⟩
      refine hK.out _ _ ?_ fun hHeld => ?_
      · exact ⟨a10, b3⟩
      clear hK K
      try simp only [Act.put, za, zb, zc]
      clear a10 b3
      obtain ⟨hkt, bkt⟩ := bz_get Q4.out.x (k := kt) (o := resO at0) (by simp)
      have y0 : w4.cell? ⟨kt, 0, none⟩ = some (.int .i64 0) := cell_of_row _ _ _ _ _ _ bkt
      have y1 : w4.cell? ⟨kt, 1, none⟩ = some (.int .i64 0) := cell_of_row _ _ _ _ _ _ bkt
      have y2 : w4.cell? ⟨kt, 2, none⟩ = some (.int .i64 0) := cell_of_row _ _ _ _ _ _ bkt
      have zt : ∀ i, w4.frozen? ⟨kt, i, none⟩ = false := fun i => frozen_of_row _ _ _ _ _ bkt
      refine hNo 11 fun K hK => ?_
      go_simp
      have Q5 : Hid (Ar w (setA w4 kt a) q B B F F c (N) (D) [(kt, resO a), (kd, d3R d0 d1 d2), (kl, ltR l)]) := hide (ar_setA Q4.out (fun x hx => by
        simp only [List.mem_cons, List.not_mem_nil, or_false] at hx
        have := hne.out
        rcases hx with rfl | rfl
        · dsimp only; omega
        · dsimp only; omega) a)
      obtain ⟨w5, ew⟩ : ∃ W, setA w4 kt a = W := ⟨_, rfl⟩
      dsimp only [setA] at ew Q5
      rw [ew] at Q5 ⊢
      clear ew y0 y1 y2 zt bkt hkt Q4
      obtain ⟨a10, b3⟩ : w5.cell? ⟨q, 10, none⟩ = some (ptr B.qa) ∧ w5.cell? ⟨kl, 3, none⟩ = some (.int .i64 l.q) := ⟨Q5.out.n.at'.c10, (lt_at (bz_get Q5.out.x (k := kl) (o := ltR l) (by simp)).2).c3⟩
      refine hK.out _ _ ?_ fun hHeld => ?_
      · exact ⟨a10, b3⟩
      clear hK K
      try simp only [Act.put, za, zb, zc]
      clear a10 b3
      refine hTk 12 8 hHeld ?_
      refine wpAnyH_done (by kernel_rfl) (NoPanic.normal ?_) _
      clear hHeld
      go_wp2_with fail
      go_meet
      exact ⟨kt, rfl, rfl, Q5.out⟩
    · go_simp
      have hne := hide (And.intro (bz_get Q0.out.x (k := kl) (o := ltR l) (by simp)).1 (bz_get Q0.out.x (k := kd) (o := d3R d0 d1 d2) (by simp)).1)
      have Q3 := hide (Q0.out.new (resO at0))
      obtain ⟨kt, ekt⟩ : ∃ kt, w1.heap.size = kt := ⟨_, rfl⟩
      obtain ⟨w3, ew⟩ : ∃ W, w1.alloc (resO at0) = W := ⟨_, rfl⟩
      rw [ew, ekt] at Q3
      rw [ekt] at hne ⊢
      dsimp only [resO] at ew
      rw [ew]
      clear ew ekt
      obtain ⟨a10, b3⟩ : w3.cell? ⟨q, 10, none⟩ = some (ptr B.qa) ∧ w3.cell? ⟨kl, 3, none⟩ = some (.int .i64 l.q) := ⟨Q3.out.n.at'.c10, (lt_at (bz_get Q3.out.x (k := kl) (o := ltR l) (by simp)).2).c3⟩
      refine hK.out _ _ ?_ fun hHeld => ?_
      · exact ⟨a10, b3⟩
      clear hK K
      try simp only [Act.put, za, zb, zc]
      clear a10 b3
      refine hNo 6 fun K hK => ?_
      go_simp
      go_at_call 16
      refine (dCur_c B.qa B.qh _ N D.L F l.q _ Q3.out.n.arb (by omega) a ha ok hok).mono ?_
      rintro e w4 ⟨rfl, hbG⟩
      have Q4 := hide (Q3.out.below hbG)
      clear hbG
      obtain ⟨a10, b3⟩ : w4.cell? ⟨q, 10, none⟩ = some (ptr B.qa) ∧ w4.cell? ⟨kl, 3, none⟩ = some (.int .i64 l.q) := ⟨Q4.out.n.at'.c10, (lt_at (bz_get Q4.out.x (k := kl) (o := ltR l) (by simp)).2).c3⟩
      refine hK.out _ _ ?_ fun hHeld => ?_
      · exact ⟨a10, b3⟩
      clear hK K
      try simp only [Act.put, za, zb, zc]
      clear a10 b3
      refine hTk 7 39 hHeld ?_
      refine hTk 8 47 hHeld ?_
      refine hTk 9 48 hHeld ?_
      obtain ⟨hkt, bkt⟩ := bz_get Q4.out.x (k := kt) (o := resO at0) (by simp)
      have y0 : w4.cell? ⟨kt, 0, none⟩ = some (.int .i64 0) := cell_of_row _ _ _ _ _ _ bkt
      have y1 : w4.cell? ⟨kt, 1, none⟩ = some (.int .i64 0) := cell_of_row _ _ _ _ _ _ bkt
      have y2 : w4.cell? ⟨kt, 2, none⟩ = some (.int .i64 0) := cell_of_row _ _ _ _ _ _ bkt
      have zt : ∀ i, w4.frozen? ⟨kt, i, none⟩ = false := fun i => frozen_of_row _ _ _ _ _ bkt
      refine hNo 11 fun K hK => ?_
      go_simp
      have Q5 : Hid (Ar w (setA w4 kt a) q B B F F c (N) (D) [(kt, resO a), (kd, d3R d0 d1 d2), (kl, ltR l)]) := hide (ar_setA Q4.out (fun x hx => by
        simp only [List.mem_cons, List.not_mem_nil, or_false] at hx
        have := hne.out
        rcases hx with rfl | rfl
        · dsimp only; omega
        · dsimp only; omega) a)
      obtain ⟨w5, ew⟩ : ∃ W, setA w4 kt a = W := ⟨_, rfl⟩
      dsimp only [setA] at ew Q5
      rw [ew] at Q5 ⊢
      clear ew y0 y1 y2 zt bkt hkt Q4
      obtain ⟨a10, b3⟩ : w5.cell? ⟨q, 10, none⟩ = some (ptr B.qa) ∧ w5.cell? ⟨kl, 3, none⟩ = some (.int .i64 l.q) := ⟨Q5.out.n.at'.c10, (lt_at (bz_get Q5.out.x (k := kl) (o := ltR l) (by simp)).2).c3⟩
      refine hK.out _ _ ?_ fun hHeld => ?_
      · exact ⟨a10, b3⟩
      clear hK K
      try simp only [Act.put, za, zb, zc]
      clear a10 b3
      refine hTk 12 8 hHeld ?_
      refine wpAnyH_done (by kernel_rfl) (NoPanic.normal ?_) _
      clear hHeld
      go_wp2_with fail
      go_meet
      exact ⟨kt, rfl, rfl, Q5.out⟩
  case rest =>
    clear a10 b3 Q2 b0 hkl
    obtain ⟨kt, rfl, rfl, Q5⟩ := hcut
    obtain ⟨w5, ew⟩ : ∃ w5, wc = w5 := ⟨_, rfl⟩
    subst ew
    replace Q5 := hide Q5
    obtain ⟨hkt, bkt⟩ := bz_get Q5.out.x (k := kt) (o := resO a) (by simp)
    obtain ⟨hkl, bkl⟩ := bz_get Q5.out.x (k := kl) (o := ltR l) (by simp)
    have hpl := Q5.out.n.pl
    have hlo := hide (And.intro (Q5.out.x (kl, ltR l) (by simp)).1 (Q5.out.x (kl, ltR l) (by simp)).2.2.1)
    have hszc := Q5.out.s.fr.size
    have g1 : wc.cell? ⟨kt, 1, none⟩ = some (.int .i64 a.n) := cell_of_row _ _ _ _ _ _ bkt
    have b3 := (lt_at bkl).c3
    have b7 := (lt_at bkl).c7
    have b8 := (lt_at bkl).c8
    have b9 := (lt_at bkl).c9
    have b10 := (lt_at bkl).c10
    clear bkt bkl
    cases ok
    · simp only [Bool.false_eq_true, if_false] at hL'
      subst hL'
      obtain ⟨M', hM'⟩ : ∃ M', Hid (putM D.M l.q (tokOf l) = M') := ⟨_, rfl⟩
      have eD : Hid (⟨M', D.L⟩ = D') := hide (by rw [← hD'.out, ← hM'.out]; unfold nxHTok; rw [hok.out]; simp)
      have hlen : Hid (M'.length = D.M.length) := hide (by rw [← hM'.out, putM_len])
      have hI' : Hid (MInv (((N + 1 + 1 : Nat) : Int) * 65536) M') := hide (by have := Q5.out.n.inv.put l.q hbo.out h65.out; rw [hM'.out] at this; exact this.mono (by omega))
      obtain ⟨n, hn⟩ : ∃ n, Hid (D.M.length = n) := ⟨_, rfl⟩
      obtain ⟨ao, cap, a9, hv9⟩ := Q5.out.n.mem
      rw [hn.out] at a9 hv9
      replace hv9 := hide hv9
      go_upto_region 8 with fail
      go_wp2_with fail
      refine wp_region_noPanic ?_
      refine wp_region_held_drew (S := (fun w' => w'.cell? ⟨kl, 3, none⟩ = some (.int .i64 l.q) ∧ w'.cell? ⟨kl, 7, none⟩ = some (.int .i64 l.n) ∧ w'.cell? ⟨kl, 8, none⟩ = some (.bool l.o) ∧ w'.cell? ⟨kl, 9, none⟩ = some (.bool l.h) ∧ w'.cell? ⟨kl, 10, none⟩ = some (.int .i64 l.d))) (by kernel_rfl) ?_ (fun hHeld => ?_)
      · exact ⟨b3, b7, b8, b9, b10⟩
      refine hTk 0 59 hHeld ?_
      refine hTk 1 60 hHeld ?_
      refine hTk 2 61 hHeld ?_
      refine hTk 3 62 hHeld ?_
      refine hTk 5 64 hHeld ?_
      refine hTk 6 65 hHeld ?_
      refine hTk 7 66 hHeld ?_
      refine hTk 8 67 hHeld ?_
      have Q6 := hide (Q5.out.below (V' := wc.drew) (belowN (Below.refl _ _) 1))
      have a9' : wc.drew.cell? ⟨q, 9, none⟩ = some (.slice ao n cap) := a9
      have hv9' : Hid (ViewB wc.drew (.slice ao n cap) B.mg D.M) := hide (hv9.out.below (belowN (Below.refl _ _) 1))
      obtain ⟨w6, hw6⟩ : ∃ w6, wc.drew = w6 := ⟨_, rfl⟩
      rw [hw6] at hHeld Q6 a9' hv9' ⊢
      clear hw6 Q5 a9 hv9 b3 b7 b8 b9 b10 hkt hkl hpl
      have y := lt_at (bz_get Q6.out.x (k := kl) (o := ltR l) (by simp)).2
      refine hNo 4 fun K hK => ?_
      go_simp
      refine hK.out _ _ ?_ fun hHeld => ?_
      · exact ⟨y.c3, y.c7, y.c8, y.c9, y.c10⟩
      clear hK K
      try simp only [Act.put, za, zb, zc]
      clear y
      refine hNo 9 fun K hK => ?_
      go_simp
      go_at_call 31
      refine (refPut_c _ B.mg _ 65536 l.q (tokOf l) D.M _ hv9'.out Q6.out.n.inv hbo.out h65.out (by omega) true hqH M' hM').mono ?_
      rintro e w7 ⟨v7, rfl, g7, hv7, hg7, hb7⟩
      obtain ⟨ao7, cap7, e7, -⟩ := id hv7
      rw [hlen.out, hn.out] at e7
      subst e7
      have hg8 : Hid (g7 < w7.heap.size ∧ (g7 = B.mg ∨ (¬ Fd q B F g7 ∧ w.heap.size ≤ g7 ∧ ∀ x ∈ [(kt, resO a), (kd, d3R d0 d1 d2), (kl, ltR l)], x.1 ≠ g7))) := hide ⟨hv7.lt_ofB (by have := hjM.out; have := hlen.out; intro e; rw [e] at this; simp at this; omega), by
        rcases hg7 with e | e
        · exact .inl e
        · refine .inr ⟨Q6.out.nf e, Nat.le_trans Q6.out.s.fr.size e, fun x hx => ?_⟩
          have := (Q6.out.x x hx).2.1
          omega⟩
      have Q7 := hide (Q6.out.below hb7)
      replace hv7 := hide hv7
      replace a9' := keep_cell (hb7.block q Q6.out.n.pl) a9'
      clear hb7 hg7 Q6
      have y := lt_at (bz_get Q7.out.x (k := kl) (o := ltR l) (by simp)).2
      refine hK.out _ _ ?_ fun hHeld => ?_
      · exact ⟨y.c3, y.c7, y.c8, y.c9, y.c10⟩
      clear hK K
      try simp only [Act.put, za, zb, zc]
      refine hTk 10 58 hHeld ?_
      refine hTk 11 69 hHeld ?_
      refine hTk 12 70 hHeld ?_
      refine hTk 13 71 hHeld ?_
      refine hTk 14 72 hHeld ?_
      have b3 := y.c3
      have b7 := y.c7
      have b8 := y.c8
      have b9 := y.c9
      have b10 := y.c10
      clear y
      have zq := Q7.out.n.at'.fz 9
      have hql : q ≠ kl := fun e => (Q7.out.x (kl, ltR l) (by simp)).2.2.1 (.inr (.inl e.symm))
      have hlq : kl ≠ q := fun e => hql e.symm
      refine hNo 15 fun K hK => ?_
      go_simp
      refine hK.out _ _ ?_ fun hHeld => ?_
      · exact ⟨by simp [go_sem, *], by simp [go_sem, *], by simp [go_sem, *], by simp [go_sem, *], by simp [go_sem, *]⟩
      clear hK K
      try simp only [Act.put, za, zb, zc]
      refine wpAnyH_done (by kernel_rfl) (NoPanic.normal ?_) _
      clear hHeld
      have Q8 := hide (Q7.out.setM (M := N + 1) hv7.out hg8.out.1 hg8.out.2 hI'.out hlen.out (Nat.le_succ N))
      rw [eD.out] at Q8
      obtain ⟨w8, ew⟩ : ∃ W, w7.setCell ⟨q, 9, none⟩ (.slice ao7 n cap7) = W := ⟨_, rfl⟩
      rw [ew] at Q8 ⊢
      clear ew a9' zq Q7 hv7 b3 b7 b8 b9 b10
      obtain ⟨q1, q2, q3, q4⟩ := Q8.out.x (kl, ltR l) (by simp)
      go_wp2_with fail
      go_ret
      exact ⟨_, rfl, _, F, kl, rut_fin Q8.out (own_nilT q2) q1 q3⟩
    · simp only [if_true] at hL'
      replace hL' := hide hL'
      have eD : D = D' := by rw [← hD'.out]; unfold nxHTok; rw [hok.out]; simp
      subst eD
      go_wp2_with (go_at_call 30; refine (rhSend_c q B F c N D a.n l.q (tokOf l) _ Q5.out.n hn0.out L hL').mono ?_; rintro e w6 ⟨v6, rfl, g6, ow6, hg6, hb6⟩; have Q6 := hide (Q5.out.below hb6); replace ow6 := hide ow6; clear hb6)
      go_ret
      exact ⟨_, rfl, B, F, g6, rut_fin (Q6.out.step (Q6.out.n.mono (Nat.le_succ N)) (Step.refl _ _)) ow6.out (by omega) (Q5.out.nf hg6)⟩
end Go.Proofs.YtmgjgeaigdiadaaDoor
