/- layer 15: NdG, put together. -/
import Derived.Test.YtoenjdnccgmhoaaGreatDoorB33
import Derived.Test.YtoenjdnccgmhoaaGreatDoorB29
namespace Go.Proofs.YtoenjdnccgmhoaaGreatDoor
open Go.ChangeShapes Go.WideShapes Go.ChangeAt Go.RowKit
set_option linter.unusedSimpArgs false
set_option linter.unusedVariables false
set_option maxRecDepth 10000
attribute [local go_sem, local simp] over_const setCell_drewN alloc_drewN Over.cell Over.frozen lt_s1 lt_s2 lt_s3 le_s0 le_s1 le_s2 le_s3 eq_s0 eq_s1 eq_s2 qe_s0
abbrev lnR (x : Ln) : Obj := .cells #[.int .i64 x.b, .int .i64 x.t.n, .bool x.t.o, .bool x.t.h, .int .i64 x.t.d] 68
structure Kx (w V : World) (F : Nat → Prop) (kt kl kd R : Nat) (o : Obj) : Prop where
  lo : w.heap.size ≤ kt
  hi : kt < V.heap.size
  nf : ¬ F kt
  n1 : kt ≠ kl
  n2 : kt ≠ kd
  n3 : kt ≠ R
  b : V.heap[kt]? = some o
theorem Kx.step {w V V' : World} {F F' : Nat → Prop} {kt kl kd R : Nat} {o : Obj} (h : Kx w V F kt kl kd R o) (s : Step F F' V V') : Kx w V' F' kt kl kd R o := ⟨h.lo, (s.keep h.nf h.hi).2.2, (s.keep h.nf h.hi).2.1, h.n1, h.n2, h.n3, keepF s h.nf h.hi h.b⟩
theorem kx_new {w V : World} {F : Nat → Prop} {l : Lt} {d0 d1 d2 : Int} {kl kd R : Nat} (h : Bx w V F l d0 d1 d2 kl kd R) (hF : ∀ b, F b → b < V.heap.size) (o : Obj) : Kx w (V.alloc o) F V.heap.size kl kd R o :=
  ⟨Nat.le_of_lt (Nat.lt_of_le_of_lt h.lo1 h.hi1), by simp, fun e => by have := hF _ e; omega, by have := h.hi1; omega, by have := h.hi2; omega, by have := h.hi3; omega, heap_alloc_new _ _⟩
theorem Kx.fill {w V : World} {F : Nat → Prop} {kt kl kd R : Nat} {cs : Array Value} {T : TypeId} (h : Kx w V F kt kl kd R (.cells cs T (0, 0))) (i : Nat) (u : Value) : Kx w (V.setCell ⟨kt, i, none⟩ u) F kt kl kd R (.cells (cs.setIfInBounds i u) T (0, 0)) :=
  ⟨h.lo, by simpa using h.hi, h.nf, h.n1, h.n2, h.n3, ob_set h.b u⟩
theorem Kx.fillA {w V : World} {F : Nat → Prop} {kt kl kd R : Nat} (h : Kx w V F kt kl kd R (atR at0)) (a : At) : Kx w (((V.setCell ⟨kt, 0, none⟩ (.int .i64 a.b)).setCell ⟨kt, 1, none⟩ (.int .i64 a.n)).setCell ⟨kt, 2, none⟩ (.int .i64 a.s)) F kt kl kd R (atR a) := by
  have h3 := ((h.fill 0 (.int .i64 a.b)).fill 1 (.int .i64 a.n)).fill 2 (.int .i64 a.s)
  simp only [List.setIfInBounds_toArray, List.set_cons_zero, List.set_cons_succ] at h3
  exact h3
theorem Kx.fillL {w V : World} {F : Nat → Prop} {kt kl kd R : Nat} (h : Kx w V F kt kl kd R (lnR ln0)) (x : Ln) : Kx w (((((V.setCell ⟨kt, 0, none⟩ (.int .i64 x.b)).setCell ⟨kt, 1, none⟩ (.int .i64 x.t.n)).setCell ⟨kt, 2, none⟩ (.bool x.t.o)).setCell ⟨kt, 3, none⟩ (.bool x.t.h)).setCell ⟨kt, 4, none⟩ (.int .i64 x.t.d)) F kt kl kd R (lnR x) := by
  have h3 := ((((h.fill 0 (.int .i64 x.b)).fill 1 (.int .i64 x.t.n)).fill 2 (.bool x.t.o)).fill 3 (.bool x.t.h)).fill 4 (.int .i64 x.t.d)
  simp only [List.setIfInBounds_toArray, List.set_cons_zero, List.set_cons_succ] at h3
  exact h3
theorem At3.frk {w V V' : World} {p : Nat} {B : Bk} {Fc F : Nat → Prop} {c : Cf} {id : Int} {N : Nat} {D : Nd} {l : Lt} {d0 d1 d2 : Int} {kl kd R k : Nat} (h : At3 w V p B Fc F c id N D l d0 d1 d2 kl kd R) (hf : FrS (· = k) V V') (h0 : w.heap.size ≤ k) (hF : ¬ Fa p B F k) (h1 : k ≠ kl) (h2 : k ≠ kd) (h3 : k ≠ R) : At3 w V' p B Fc F c id N D l d0 d1 d2 kl kd R :=
  have x := h.x
  have hs := hf.size
  ⟨h.n.fr hf (fun b hb e => hF (e ▸ hb)), ⟨x.lo1, x.lo2, x.lo3, x.ne1, x.ne2, Nat.lt_of_lt_of_le x.hi1 hs, Nat.lt_of_lt_of_le x.hi2 hs, Nat.lt_of_lt_of_le x.hi3 hs, x.nf1, x.nf2, x.nf3, (hf.block _ x.hi1 (fun e => h1 e.symm)).trans x.l, (hf.block _ x.hi2 (fun e => h2 e.symm)).trans x.d, (hf.block _ x.hi3 (fun e => h3 e.symm)).trans x.r⟩,
    ⟨h.s.fr.trans hf (fun i hi => .inr (hi ▸ h0)), h.s.new⟩⟩
theorem sendL_len (id t0 b : Int) (x : Bun) : (sendL id t0 b x).length ≤ 1 := by unfold sendL; split <;> simp
theorem endL_len (c : Cf) (id : Int) (D : Nd) (b : Int) : (endL c id D b).length ≤ 1 := by unfold endL homeL; split <;> simp
theorem sttL_len (c : Cf) (id : Int) (D : Nd) : (sttL c id D).length ≤ 1 := by unfold sttL; split; exact endL_len _ _ _ _; simp
theorem out_at {w : World} {k : Nat} {v1 v2 : Value} (h : w.heap[k]? = some (outR v1 v2)) : w.cell? ⟨k, 0, none⟩ = some v1 ∧ w.cell? ⟨k, 1, none⟩ = some v2 ∧ ∀ i, w.frozen? ⟨k, i, none⟩ = false := ⟨cell_of_row _ _ _ _ _ _ h, cell_of_row _ _ _ _ _ _ h, fun _ => frozen_of_row _ _ _ _ _ h⟩
structure GoneP (w w9 : World) (F : Nat → Prop) (kl kd R g9 : Nat) (G : List Lt) (v9 : Value) : Prop where
  own : OwnT w9 v9 g9 G
  lo : w.heap.size ≤ g9
  nf : ¬ F g9
  n1 : g9 ≠ kl
  n2 : g9 ≠ kd
  n3 : g9 ≠ R
set_option maxHeartbeats 4000000 in
theorem ndTkTok_c (p : Nat) (B : Bk) (Fc : Nat → Prop) (c : Cf) (id : Int) (N : Nat) (D : Nd) (l : Lt) (d0 d1 d2 : Int) (w : World) (h : NdIs w p B Fc c id N D) (hN1 : N + 3 ≤ 2000) (hb : I64 l.q) (hop : I64 D.P.op.b) (hok : okB (tokOf l)) (h65 : l.n ≤ 65536) (L : List Lt) (hL : Hid (tokL c id D l = L)) (M : List Dn) (hM : Hid (tokN c id D l = M)) : Calls Tryz.prog 82 #[ptr p, .agg #[.int .i64 l.k, .int .i64 l.a, .int .i64 l.b, .int .i64 l.q, .int .i64 l.s, .int .i64 l.w, .bool l.r, .int .i64 l.n, .bool l.o, .bool l.h, .int .i64 l.d], .agg #[.int .i64 d0, .int .i64 d1, .int .i64 d2]] w fun e w' => ∃ v1 v2, e = .returned (.agg #[v1, v2]) ∧ ∃ Fc' g1 g2, OutP w p B Fc Fc' c id (N + 3) (nxTok c id D l) L M v1 v2 w' g1 g2 := by
  have hH := hide h
  have hFw := hide h.lt
  have hL' := hL.out
  have hM' := hM.out
  obtain ⟨a, ha⟩ : ∃ a, Hid (getA D.T.A l.q = a) := ⟨_, rfl⟩
  obtain ⟨is, his⟩ : ∃ is, Hid (hasA D.T.A l.q = is) := ⟨_, rfl⟩
  clear h hL hM
  go_enter Tryz.func82, Tryz.ntmps82
  go_upto_region 1 with fail
  refine name_world ?_
  intro V hV
  have hX : Hid (Bx w V (Fa p B Fc) l d0 d1 d2 w.heap.size (w.heap.size + 1) (w.heap.size + 1 + 1)) := by rw [← hV]; exact hide (bx_new w _ hFw.out l d0 d1 d2)
  have hB : Hid (Below w.heap.size w V) := by rw [← hV]; exact hide (by all_goals exact belEnd)
  have hN := hide (hH.out.below hB.out)
  obtain ⟨R, hRe⟩ : ∃ R, Hid (w.heap.size + 1 + 1 = R) := ⟨_, rfl⟩
  obtain ⟨kd, hde⟩ : ∃ kd, Hid (w.heap.size + 1 = kd) := ⟨_, rfl⟩
  obtain ⟨kl, hle⟩ : ∃ kl, Hid (w.heap.size = kl) := ⟨_, rfl⟩
  rw [hRe.out, hde.out, hle.out] at hX
  rw [hRe.out, hde.out, hle.out]
  clear hV
  obtain ⟨a11, b3⟩ := And.intro hN.out.at'.c11 (lt_at hX.out.l).c3
  go_cut [7, 8] (fun sk si wx => ∃ ka, sk = ptr ka ∧ si = .bool is ∧ At3 w wx p B Fc Fc c id N D l d0 d1 d2 kl kd R ∧ Kx w wx (Fa p B Fc) ka kl kd R (atR a))
  case first =>
    go_wp2_with fail
    refine wp_region_noPanic ?_
    refine wp_region_held_drew (S := (fun w' => w'.cell? ⟨p, 11, none⟩ = some (ptr B.tc) ∧ w'.cell? ⟨kl, 3, none⟩ = some (.int .i64 l.q))) (by kernel_rfl) ?_ (fun hHeld => ?_)
    · exact ⟨a11, b3⟩
    clear a11 b3
    refine hTk 0 14 hHeld ?_
    refine hTk 1 15 hHeld ?_
    refine hTk 2 16 hHeld ?_
    refine hTk 3 17 hHeld ?_
    refine hTk 4 18 hHeld ?_
    refine hTk 5 19 hHeld ?_
    have Q2 : Hid (At3 w V.drew p B Fc Fc c id N D l d0 d1 d2 kl kd R) := hide ((At3.mk hN.out hX.out (Step.of_below hB.out)).below (belowN (Below.refl _ _) 1))
    obtain ⟨w2, hw2⟩ : ∃ w2, V.drew = w2 := ⟨_, rfl⟩
    rw [hw2] at hHeld Q2 ⊢
    clear hw2 hX hB hN
    refine hTwo 6 10 (fun K hK => ?_) fun K hK => ?_
    · go_simp
      go_at_call 121
      refine (tActive_c B.tc B.tt B.to N D.T l.q _ Q2.out.n.tb hb a ha is his).mono ?_
      rintro e w3 ⟨rfl, hbA⟩
      have Q3 := hide (Q2.out.below hbA)
      obtain ⟨a11, b3⟩ := And.intro Q3.out.n.at'.c11 (lt_at Q3.out.x.l).c3
      refine hK.out _ _ ?_ fun hHeld => ?_
      · exact ⟨a11, b3⟩
      clear hK K
      try simp only [Act.put, za, zb, zc]
      clear a11 b3
      refine hTk 7 13 hHeld ?_
      refine hTk 8 21 hHeld ?_
      refine hTk 9 22 hHeld ?_
      refine hNo 10 fun K hK => ?_
      go_simp
      have T4 := hide (kx_new Q3.out.x Q3.out.n.lt (atR at0))
      have Q4 := hide (Q3.out.below (V' := w3.alloc (atR at0)) ((Below.refl _ _).alloc (Nat.le_refl _) _))
      obtain ⟨ka, ekt⟩ : ∃ kt, w3.heap.size = kt := ⟨_, rfl⟩
      obtain ⟨w4, ew⟩ : ∃ W, w3.alloc (atR at0) = W := ⟨_, rfl⟩
      rw [ew] at T4 Q4
      rw [ekt] at T4 ⊢
      dsimp only [atR, lnR] at ew
      rw [ew]
      clear ew ekt
      obtain ⟨a11, b3⟩ := And.intro Q4.out.n.at'.c11 (lt_at Q4.out.x.l).c3
      refine hK.out _ _ ?_ fun hHeld => ?_
      · exact ⟨a11, b3⟩
      clear hK K
      try simp only [Act.put, za, zb, zc]
      clear a11 b3
      have y0 : w4.cell? ⟨ka, 0, none⟩ = some (.int .i64 0) := cell_of_row _ _ _ _ _ _ T4.out.b
      have y1 : w4.cell? ⟨ka, 1, none⟩ = some (.int .i64 0) := cell_of_row _ _ _ _ _ _ T4.out.b
      have y2 : w4.cell? ⟨ka, 2, none⟩ = some (.int .i64 0) := cell_of_row _ _ _ _ _ _ T4.out.b
      have zt : ∀ i, w4.frozen? ⟨ka, i, none⟩ = false := fun i => frozen_of_row _ _ _ _ _ T4.out.b
      refine hNo 11 fun K hK => ?_
      go_simp
      have Q5 := hide (((Q4.out.setCell T4.out.lo T4.out.nf T4.out.n1 T4.out.n2 T4.out.n3 0 (.int .i64 a.b)).setCell T4.out.lo T4.out.nf T4.out.n1 T4.out.n2 T4.out.n3 1 (.int .i64 a.n)).setCell T4.out.lo T4.out.nf T4.out.n1 T4.out.n2 T4.out.n3 2 (.int .i64 a.s))
      have T5 := hide (T4.out.fillA a)
      obtain ⟨w5, ew⟩ : ∃ W, ((w4.setCell ⟨ka, 0, none⟩ (.int .i64 a.b)).setCell ⟨ka, 1, none⟩ (.int .i64 a.n)).setCell ⟨ka, 2, none⟩ (.int .i64 a.s) = W := ⟨_, rfl⟩
      rw [ew] at Q5 T5 ⊢
      clear ew y0 y1 y2 zt
      obtain ⟨a11, b3⟩ := And.intro Q5.out.n.at'.c11 (lt_at Q5.out.x.l).c3
      refine hK.out _ _ ?_ fun hHeld => ?_
      · exact ⟨a11, b3⟩
      clear hK K
      try simp only [Act.put, za, zb, zc]
      clear a11 b3
      refine hTk 12 8 hHeld ?_
      refine wpAnyH_done (by kernel_rfl) (NoPanic.normal ?_) _
      clear hHeld
      go_wp2_with fail
      go_meet
      exact ⟨ka, rfl, rfl, Q5.out, T5.out⟩
    · go_simp
      have T3 := hide (kx_new Q2.out.x Q2.out.n.lt (atR at0))
      have Q3 := hide (Q2.out.below (V' := w2.alloc (atR at0)) ((Below.refl _ _).alloc (Nat.le_refl _) _))
      obtain ⟨ka, ekt⟩ : ∃ kt, w2.heap.size = kt := ⟨_, rfl⟩
      obtain ⟨w3, ew⟩ : ∃ W, w2.alloc (atR at0) = W := ⟨_, rfl⟩
      rw [ew] at T3 Q3
      rw [ekt] at T3 ⊢
      dsimp only [atR, lnR] at ew
      rw [ew]
      clear ew ekt
      obtain ⟨a11, b3⟩ := And.intro Q3.out.n.at'.c11 (lt_at Q3.out.x.l).c3
      refine hK.out _ _ ?_ fun hHeld => ?_
      · exact ⟨a11, b3⟩
      clear hK K
      try simp only [Act.put, za, zb, zc]
      clear a11 b3
      refine hNo 6 fun K hK => ?_
      go_simp
      go_at_call 121
      refine (tActive_c B.tc B.tt B.to N D.T l.q _ Q3.out.n.tb hb a ha is his).mono ?_
      rintro e w4 ⟨rfl, hbA⟩
      have Q4 := hide (Q3.out.below hbA)
      have T4 := hide (T3.out.step (Step.of_below hbA))
      obtain ⟨a11, b3⟩ := And.intro Q4.out.n.at'.c11 (lt_at Q4.out.x.l).c3
      refine hK.out _ _ ?_ fun hHeld => ?_
      · exact ⟨a11, b3⟩
      clear hK K
      try simp only [Act.put, za, zb, zc]
      clear a11 b3
      refine hTk 7 13 hHeld ?_
      refine hTk 8 21 hHeld ?_
      refine hTk 9 22 hHeld ?_
      have y0 : w4.cell? ⟨ka, 0, none⟩ = some (.int .i64 0) := cell_of_row _ _ _ _ _ _ T4.out.b
      have y1 : w4.cell? ⟨ka, 1, none⟩ = some (.int .i64 0) := cell_of_row _ _ _ _ _ _ T4.out.b
      have y2 : w4.cell? ⟨ka, 2, none⟩ = some (.int .i64 0) := cell_of_row _ _ _ _ _ _ T4.out.b
      have zt : ∀ i, w4.frozen? ⟨ka, i, none⟩ = false := fun i => frozen_of_row _ _ _ _ _ T4.out.b
      refine hNo 11 fun K hK => ?_
      go_simp
      have Q5 := hide (((Q4.out.setCell T4.out.lo T4.out.nf T4.out.n1 T4.out.n2 T4.out.n3 0 (.int .i64 a.b)).setCell T4.out.lo T4.out.nf T4.out.n1 T4.out.n2 T4.out.n3 1 (.int .i64 a.n)).setCell T4.out.lo T4.out.nf T4.out.n1 T4.out.n2 T4.out.n3 2 (.int .i64 a.s))
      have T5 := hide (T4.out.fillA a)
      obtain ⟨w5, ew⟩ : ∃ W, ((w4.setCell ⟨ka, 0, none⟩ (.int .i64 a.b)).setCell ⟨ka, 1, none⟩ (.int .i64 a.n)).setCell ⟨ka, 2, none⟩ (.int .i64 a.s) = W := ⟨_, rfl⟩
      rw [ew] at Q5 T5 ⊢
      clear ew y0 y1 y2 zt
      obtain ⟨a11, b3⟩ := And.intro Q5.out.n.at'.c11 (lt_at Q5.out.x.l).c3
      refine hK.out _ _ ?_ fun hHeld => ?_
      · exact ⟨a11, b3⟩
      clear hK K
      try simp only [Act.put, za, zb, zc]
      clear a11 b3
      refine hTk 12 8 hHeld ?_
      refine wpAnyH_done (by kernel_rfl) (NoPanic.normal ?_) _
      clear hHeld
      go_wp2_with fail
      go_meet
      exact ⟨ka, rfl, rfl, Q5.out, T5.out⟩
  case rest =>
    clear a11 b3 hX hB hN V
    obtain ⟨ka, rfl, rfl, Q5, T5⟩ := hcut
    obtain ⟨w5, ew⟩ : ∃ w5, wc = w5 := ⟨_, rfl⟩
    subst ew
    replace Q5 := hide Q5
    replace T5 := hide T5
    obtain ⟨k1, a9⟩ : wc.cell? ⟨ka, 1, none⟩ = some (.int .i64 a.n) ∧ wc.cell? ⟨p, 9, none⟩ = some (.int .i64 id) := ⟨cell_of_row _ _ _ _ _ _ T5.out.b, Q5.out.n.at'.c9⟩
    by_cases hf : fwdB id D l.q = true
    · have hf' := hf
      unfold fwdB at hf'
      rw [his.out, ha.out] at hf'
      obtain ⟨rfl, e⟩ : is = true ∧ ¬ a.n = id := by simpa using hf'
      obtain ⟨e1, e2, e3⟩ := cmpF e
      replace e := hide e
      have hL2 : Hid (sendL id a.n l.q ⟨l.n, l.o, l.h, l.d⟩ = L) := hide (by rw [← hL']; unfold tokL; rw [hf, ha.out]; rfl)
      obtain rfl : [] = M := by rw [← hM']; unfold tokN; rw [hf]; rfl
      have hD2 : nxTok c id D l = D := by unfold nxTok; rw [hf]; rfl
      clear hf hf'
      go_wp2_with fail
      refine wp_region_noPanic ?_
      refine wp_region_held_drew (S := (fun w' => w'.cell? ⟨ka, 1, none⟩ = some (.int .i64 a.n) ∧ w'.cell? ⟨p, 9, none⟩ = some (.int .i64 id))) (by kernel_rfl) ?_ (fun hHeld => ?_)
      · exact ⟨k1, a9⟩
      refine hTk 0 23 hHeld ?_
      refine hTk 1 24 hHeld ?_
      refine hTk 2 25 hHeld ?_
      refine hTk 3 26 hHeld ?_
      refine hTk 4 27 hHeld ?_
      refine hTk 5 28 hHeld ?_
      refine hTk 6 29 hHeld ?_
      refine hTk 7 30 hHeld ?_
      refine hVl 8 31 (.bool true) hHeld (fun wz hSw => ?_) ?_
      · try dsimp only at hSw
        go_simp
      refine hTk 9 32 hHeld ?_
      refine wpAnyH_done (by kernel_rfl) (NoPanic.normal ?_) _
      clear hHeld
      have hl5 := Q5.out.x.hi1
      have hka5 := T5.out.hi
      obtain ⟨b0, b1, b2, b3, b4, b5, b6, b7, b8, b9, b10⟩ := lt_at Q5.out.x.l
      go_wp2_with (go_at_call 122; refine (ndSend_c p B Fc c id N D a.n l.q ⟨l.n, l.o, l.h, l.d⟩ _ (Q5.out.n.drewN 1) L hL2).mono ?_; rintro e w9 ⟨v9, rfl, g9, ow9, hg9, hb9⟩; obtain ⟨ao9, cap9, e9, -⟩ := _root_.id ow9; subst e9; have Q9 := hide ((Q5.out.below (V' := wc.drewN 1) (belowN (Below.refl _ _) 1)).below hb9); replace ow9 := hide ow9; replace hg9 := hide hg9; clear hb9; obtain ⟨r0, r1, z⟩ := or_at Q9.out.x.r; have hR9 := Q9.out.x.hi3)
      refine bodyPost_ret (v := .agg #[.slice ao9 L.length cap9, .slice none 0 0]) (by simp [results, Tryz.results82, go_sem, *]; done) rfl ⟨_, _, rfl, Fc, g9, g9, ?_⟩
      have h1 : wc.heap.size ≤ g9 := hg9.out
      have h4 := Q5.out.x.hi3
      have h6 := Q5.out.x.lo1
      rw [hD2]
      exact out_fin Q9.out.x ow9.out (view_nilD _ _) (by omega) (by omega) (fun h => absurd rfl h) (Q9.out.n.mono (by omega)) Q9.out.s (fun e => by have := Q5.out.n.lt _ e; omega) (fun h => absurd rfl h)
    · go_upto_region 2 with fail
      go_cut [32] (fun s wx => s = .bool false ∧ At3 w wx p B Fc Fc c id N D l d0 d1 d2 kl kd R)
      case first =>
        have Q6 : Hid (At3 w wc.drew p B Fc Fc c id N D l d0 d1 d2 kl kd R) := hide (Q5.out.below (belowN (Below.refl _ _) 1))
        cases is
        · skip
          go_wp2_with fail
          refine wp_region_noPanic ?_
          refine wp_region_held_drew (S := (fun _ => True)) (by kernel_rfl) ?_ (fun hHeld => ?_)
          · trivial
          refine hTk 0 23 hHeld ?_
          refine hTk 1 24 hHeld ?_
          refine hSk 2 25 hHeld ?_
          refine hSk 3 26 hHeld ?_
          refine hSk 4 27 hHeld ?_
          refine hSk 5 28 hHeld ?_
          refine hSk 6 29 hHeld ?_
          refine hSk 7 30 hHeld ?_
          refine hSk 8 31 hHeld ?_
          refine hTk 9 32 hHeld ?_
          refine wpAnyH_done (by kernel_rfl) (NoPanic.normal ?_) _
          clear hHeld
          go_wp2_with fail
          go_meet
          exact ⟨rfl, Q6.out⟩
        · have e : a.n = id := by unfold fwdB at hf; rw [his.out, ha.out] at hf; simpa using hf
          obtain ⟨e1, e2, e3⟩ := cmpT e
          replace e := hide e
          go_wp2_with fail
          refine wp_region_noPanic ?_
          refine wp_region_held_drew (S := (fun w' => w'.cell? ⟨ka, 1, none⟩ = some (.int .i64 a.n) ∧ w'.cell? ⟨p, 9, none⟩ = some (.int .i64 id))) (by kernel_rfl) ?_ (fun hHeld => ?_)
          · exact ⟨k1, a9⟩
          refine hTk 0 23 hHeld ?_
          refine hTk 1 24 hHeld ?_
          refine hTk 2 25 hHeld ?_
          refine hTk 3 26 hHeld ?_
          refine hTk 4 27 hHeld ?_
          refine hTk 5 28 hHeld ?_
          refine hTk 6 29 hHeld ?_
          refine hTk 7 30 hHeld ?_
          refine hVl 8 31 (.bool false) hHeld (fun wz hSw => ?_) ?_
          · try dsimp only at hSw
            go_simp
          refine hTk 9 32 hHeld ?_
          refine wpAnyH_done (by kernel_rfl) (NoPanic.normal ?_) _
          clear hHeld
          go_wp2_with fail
          go_meet
          exact ⟨rfl, Q6.out⟩
      case rest =>
        obtain ⟨rfl, Q6⟩ := hcut
        replace Q6 := hide Q6
        clear k1 a9 T5 Q5
        go_upto_region 5 with fail
        obtain ⟨q, hq⟩ : ∃ q, Hid (pinP D.P = q) := ⟨_, rfl⟩
        obtain ⟨⟨r, must⟩, hG⟩ : ∃ r : Ln × Bool, Hid (goAb c.cs c.cy D.C l.q ⟨l.n, l.o, l.h, l.d⟩ q = r) := ⟨_, rfl⟩
        obtain ⟨C', hC'⟩ : ∃ C', Hid (nxAb c.cs c.cy D.C l.q ⟨l.n, l.o, l.h, l.d⟩ q = C') := ⟨_, rfl⟩
        have e65 : ((N + 1 : Nat) : Int) * 65536 = N * 65536 + 65536 := by omega
        go_cut [10, 11] (fun sk sm wx => ∃ Fc6 kq, sk = ptr kq ∧ sm = .bool must ∧ At3 w wx p B Fc Fc6 c id (N + 1) ⟨C', D.T, D.P, D.A, D.O⟩ l d0 d1 d2 kl kd R ∧ Kx w wx (Fa p B Fc6) kq kl kd R (lnR r))
        case rest =>
          obtain ⟨Fc6, kq, rfl, rfl, Q8, T8⟩ := hcut
          replace Q8 := hide Q8
          replace T8 := hide T8
          have hff : fwdB id D l.q = false := by simpa using hf
          obtain ⟨D1, hD1⟩ : ∃ D1, Hid ((⟨C', D.T, D.P, D.A, D.O⟩ : Nd) = D1) := ⟨_, rfl⟩
          have hab : abD c D l = D1 := by rw [← hD1.out, ← hC'.out, ← hq.out]; rfl
          have hgo : abG c D l = (r, must) := by rw [← hG.out, ← hq.out]; rfl
          have hop1 : I64 D1.P.op.b := by rw [← hD1.out]; exact hop
          rw [hD1.out] at Q8
          obtain ⟨Ls, hLs⟩ : ∃ Ls, Hid (sttL c id D1 = Ls) := ⟨_, rfl⟩
          have hMs : Hid (sttN c id D1 = M) := hide (by rw [← hM']; unfold tokN; rw [hff, hab]; rfl)
          have hLt : Hid ((if (abG c D l).2 = true then sendL id c.n (abG c D l).1.b (abG c D l).1.t else []) ++ Ls = L) := hide (by rw [← hL', ← hLs.out]; unfold tokL abL; rw [hff, hab]; rfl)
          have hS : nxTok c id D l = nxS c id D1 := by unfold nxTok; rw [hff, hab]; rfl
          have hll : Ls.length ≤ 1 := by rw [← hLs.out]; exact sttL_len _ _ _
          clear hf hM' hff
          go_upto_if 59 with fail
          go_cut [9] (fun s9 wx => ∃ g9 G ao9 cap9, s9 = .slice ao9 (List.length G) cap9 ∧ L = G ++ Ls ∧ G.length ≤ 1 ∧ At3 w wx p B Fc Fc6 c id (N + 1) D1 l d0 d1 d2 kl kd R ∧ GoneP w wx (Fa p B Fc6) kl kd R g9 G (.slice ao9 G.length cap9))
          case first =>
            cases must
            · have hL3 : Hid (L = [] ++ Ls) := hide (by rw [← hLt.out, hgo]; rfl)
              have hP : Hid (GoneP w wc (Fa p B Fc6) kl kd R kq [] (.slice none 0 0)) := hide ⟨own_nilT T8.out.hi, T8.out.lo, T8.out.nf, T8.out.n1, T8.out.n2, T8.out.n3⟩
              go_wp2_with fail
              go_meet
              exact ⟨kq, [], none, 0, rfl, hL3.out, Nat.zero_le _, Q8.out, hP.out⟩
            · obtain ⟨G, hGl⟩ : ∃ G, Hid (sendL id c.n r.b r.t = G) := ⟨_, rfl⟩
              have hL3 : Hid (L = G ++ Ls) := hide (by rw [← hLt.out, hgo, ← hGl.out]; rfl)
              have hgl : G.length ≤ 1 := by rw [← hGl.out]; exact sendL_len _ _ _ _
              go_wp2_with fail
              obtain ⟨k0, k1, k2, k3, k4⟩ : wc.cell? ⟨kq, 0, none⟩ = some (.int .i64 r.b) ∧ wc.cell? ⟨kq, 1, none⟩ = some (.int .i64 r.t.n) ∧ wc.cell? ⟨kq, 2, none⟩ = some (.bool r.t.o) ∧ wc.cell? ⟨kq, 3, none⟩ = some (.bool r.t.h) ∧ wc.cell? ⟨kq, 4, none⟩ = some (.int .i64 r.t.d) := ⟨cell_of_row _ _ _ _ _ _ T8.out.b, cell_of_row _ _ _ _ _ _ T8.out.b, cell_of_row _ _ _ _ _ _ T8.out.b, cell_of_row _ _ _ _ _ _ T8.out.b, cell_of_row _ _ _ _ _ _ T8.out.b⟩
              have a0 := Q8.out.n.at'.c0
              have hpc := Q8.out.n.pl
              have hkc := T8.out.hi
              go_wp2_with fail
              refine wp_region_noPanic ?_
              refine wp_region_held_drew (S := (fun w' => w'.cell? ⟨p, 0, none⟩ = some (.int .i64 c.n) ∧ w'.cell? ⟨kq, 0, none⟩ = some (.int .i64 r.b) ∧ w'.cell? ⟨kq, 1, none⟩ = some (.int .i64 r.t.n) ∧ w'.cell? ⟨kq, 2, none⟩ = some (.bool r.t.o) ∧ w'.cell? ⟨kq, 3, none⟩ = some (.bool r.t.h) ∧ w'.cell? ⟨kq, 4, none⟩ = some (.int .i64 r.t.d))) (by kernel_rfl) ?_ (fun hHeld => ?_)
              · exact ⟨a0, k0, k1, k2, k3, k4⟩
              refine hTk 0 60 hHeld ?_
              refine hTk 1 61 hHeld ?_
              refine hTk 2 62 hHeld ?_
              refine hTk 3 63 hHeld ?_
              refine hTk 4 64 hHeld ?_
              refine hTk 5 65 hHeld ?_
              refine hTk 6 66 hHeld ?_
              refine hTk 7 67 hHeld ?_
              refine hTk 8 68 hHeld ?_
              refine hTk 9 69 hHeld ?_
              refine hNo 10 fun K hK => ?_
              go_simp
              go_at_call 122
              refine (ndSend_c p B Fc6 c id (N + 1) D1 c.n r.b r.t _ (Q8.out.n.drewN 1) G hGl).mono ?_
              rintro e w9 ⟨v9, rfl, g9, ow9, hg9, hb9⟩
              obtain ⟨ao9, cap9, e9, -⟩ := _root_.id ow9
              subst e9
              have hb9' : Below wc.heap.size wc w9 := ((Below.refl _ _).drew).trans hb9
              have kb : ∀ b, b < wc.heap.size → w9.heap[b]? = wc.heap[b]? := fun b hb => hb9'.block b hb
              refine hK.out _ _ ?_ fun hHeld => ?_
              · exact ⟨keep_cell (kb p hpc) a0, keep_cell (kb kq hkc) k0, keep_cell (kb kq hkc) k1, keep_cell (kb kq hkc) k2, keep_cell (kb kq hkc) k3, keep_cell (kb kq hkc) k4⟩
              clear hK K
              try simp only [Act.put, za, zb, zc]
              have Q9 := hide (Q8.out.below hb9')
              have hg9' : wc.heap.size ≤ g9 := hg9
              have hP : Hid (GoneP w w9 (Fa p B Fc6) kl kd R g9 G (.slice ao9 G.length cap9)) := hide ⟨ow9, by have := Q8.out.x.lo1; have := Q8.out.x.hi1; omega, fun e => by have := Q8.out.n.lt _ e; omega, by have := Q8.out.x.hi1; omega, by have := Q8.out.x.hi2; omega, by have := Q8.out.x.hi3; omega⟩
              clear hb9' kb hb9 hg9 hg9' ow9 a0 k0 k1 k2 k3 k4 hpc hkc
              refine hTk 11 9 hHeld ?_
              refine wpAnyH_done (by kernel_rfl) (NoPanic.normal ?_) _
              clear hHeld
              go_wp2_with fail
              go_meet
              exact ⟨g9, G, ao9, cap9, rfl, hL3.out, hgl, Q9.out, hP.out⟩
          case rest =>
            obtain ⟨g9, G, ao9, cap9, rfl, hL3, hgl, Q9, hP⟩ := hcut
            replace hL3 := hide hL3
            replace Q9 := hide Q9
            replace hP := hide hP
            clear Q8 T8
            have hl1 : Hid (G.length + Ls.length ≤ 1000000) := hide (by omega)
            obtain ⟨n, hn⟩ : ∃ n, Hid (L.length = n) := ⟨_, rfl⟩
            have hl2 : Hid (G.length + Ls.length = n) := hide (by rw [← hn.out, hL3.out, List.length_append])
            go_upto_region 9 with (go_at_call 33; refine (ndSettle_c p B Fc6 c id (N + 1) D1 _ Q9.out.n (by omega) hop1 Ls hLs M hMs).mono ?_; rintro e w10 ⟨v1, v2, rfl, Fc7, g1, g2, hO⟩; obtain ⟨ao1, cap1, e1, -⟩ := _root_.id hO.own; subst e1; obtain ⟨ao2, cap2, e2, -⟩ := _root_.id hO.dn; subst e2; have Q10 := hide (Q9.out.step hO.nd hO.st); have ow10 := hide (hP.out.own.fr hO.st.fr (fun e => hP.out.nf e)); have nf10 := (hO.st.keep hP.out.nf hP.out.own.lt).2.1; have hs10 := (hO.st.keep hP.out.nf hP.out.own.lt).2.2; replace hO := hide hO)
            have hgk : w10.heap.size ≠ g9 := by omega
            have hRk := Q10.out.x.hi3
            have hkR : ¬ w10.heap.size = R := by omega
            have hRk' : ¬ R = w10.heap.size := by omega
            go_wp2_with ((at_builtin; refine wpList_appT rfl _ _ rfl rfl rfl (ow10.out.alloc _) (hO.out.own.view.alloc _) hl1.out n hl2.out ?_; intro ao' cap' w11 g' hown' hap; have hkr := (hap.fr.block w10.heap.size (by simp) hgk).trans (heap_alloc_new w10 (outR (.slice ao1 Ls.length cap1) (.slice ao2 M.length cap2))); obtain ⟨o0, o1, zo⟩ := out_at hkr; have Q11 := hide ((Q10.out.below ((Below.refl _ _).alloc (Nat.le_refl _) _)).frk hap.fr hP.out.lo nf10 hP.out.n1 hP.out.n2 hP.out.n3); obtain ⟨r0, r1, z⟩ := or_at Q11.out.x.r; replace hown' := hide hown'; replace hap := hide hap; have hs11 := hap.out.fr.size; simp only [World.size_alloc] at hs11))
            refine bodyPost_ret (v := .agg #[.slice ao' n cap', .slice ao2 M.length cap2]) (by simp [results, Tryz.results82, go_sem, *]; done) rfl ⟨_, _, rfl, Fc7, g', g2, ?_⟩
            rw [hS]
            have hkF : ¬ Fa p B Fc7 w10.heap.size := fun e => by have := Q10.out.n.lt _ e; omega
            have hk1 : w10.heap.size ≠ kl := by have := Q10.out.x.hi1; omega
            have hk2 : w10.heap.size ≠ kd := by have := Q10.out.x.hi2; omega
            have hk0 : w.heap.size ≤ w10.heap.size := Q10.out.s.fr.size
            have Q12 := Q11.out.setCell hk0 hkF hk1 hk2 hkR 0 (.slice ao' n cap')
            have hgg : g' = g9 ∨ w10.heap.size < g' := by
              rcases hap.out.lies with e | e
              · exact .inl e
              · simp only [World.size_alloc] at e; exact .inr (by omega)
            have hg9s := hP.out.own.lt
            have hF0 : FrS (· = w10.heap.size) w11 (w11.setCell ⟨w10.heap.size, 0, none⟩ (.slice ao' n cap')) := wrP (FrS.refl _ _) _
            have hdn : ∀ h : M ≠ [], g2 ≠ w10.heap.size ∧ g2 < w10.heap.size ∧ g2 ≠ g9 ∧ w.heap.size ≤ g2 ∧ g2 ≠ R := fun h => by
              have h1 := hO.out.dn.lt_of h
              have h2 := (hO.out.ne h).2
              have h3 := Q9.out.x.hi3
              have h4 := Q9.out.s.fr.size
              refine ⟨?_, h1, ?_, ?_, ?_⟩ <;> omega
            have hL4 : OwnT w11 (.slice ao' n cap') g' L := by rw [hL3.out]; exact hown'.out
            have hV : ViewD w11 (.slice ao2 M.length cap2) g2 M := (hO.out.dn.alloc _).fr hap.out.fr (fun h => (hdn h).2.2.1)
            have hlo9 := hP.out.lo
            have hgF : ¬ Fa p B Fc7 g' := by
              rcases hgg with e | e
              · rw [e]; exact nf10
              · exact fun e2 => by have := Q10.out.n.lt _ e2; omega
            have hn93 := hP.out.n3
            exact out_fin Q12.x (hL4.fr hF0 (by rcases hgg with e | e <;> omega)) (hV.fr hF0 (fun h => (hdn h).1)) (by rcases hgg with e | e <;> omega) (by rcases hgg with e | e <;> omega) (fun h => ⟨by have := hdn h; rcases hgg with e | e <;> omega, (hdn h).2.2.2.1, (hdn h).2.2.2.2⟩) (Q12.n.mono (by omega)) Q12.s hgF hO.out.nf2
        obtain ⟨a10, a12⟩ := And.intro Q6.out.n.at'.c10 Q6.out.n.at'.c12
        obtain ⟨-, -, -, b3, -, -, -, b7, b8, b9, b10⟩ := lt_at Q6.out.x.l
        go_wp2_with fail
        refine wp_region_noPanic ?_
        refine wp_region_held_drew (S := (fun w' => w'.cell? ⟨p, 10, none⟩ = some (ptr B.ca) ∧ w'.cell? ⟨p, 12, none⟩ = some (ptr B.pr) ∧ w'.cell? ⟨kl, 3, none⟩ = some (.int .i64 l.q) ∧ w'.cell? ⟨kl, 7, none⟩ = some (.int .i64 l.n) ∧ w'.cell? ⟨kl, 8, none⟩ = some (.bool l.o) ∧ w'.cell? ⟨kl, 9, none⟩ = some (.bool l.h) ∧ w'.cell? ⟨kl, 10, none⟩ = some (.int .i64 l.d))) (by kernel_rfl) ?_ (fun hHeld => ?_)
        · exact ⟨a10, a12, b3, b7, b8, b9, b10⟩
        clear a10 a12 b3 b7 b8 b9 b10
        refine hTk 0 43 hHeld ?_
        refine hTk 1 44 hHeld ?_
        refine hTk 2 45 hHeld ?_
        refine hTk 3 46 hHeld ?_
        refine hTk 4 47 hHeld ?_
        refine hTk 5 48 hHeld ?_
        refine hTk 6 49 hHeld ?_
        refine hTk 7 50 hHeld ?_
        refine hTk 8 51 hHeld ?_
        refine hTk 9 52 hHeld ?_
        refine hTk 10 53 hHeld ?_
        refine hTk 11 54 hHeld ?_
        have Q6 : Hid (At3 w wc.drew p B Fc Fc c id N D l d0 d1 d2 kl kd R) := hide (Q6.out.below (belowN (Below.refl _ _) 1))
        obtain ⟨w6, hw6⟩ : ∃ w6, wc.drew = w6 := ⟨_, rfl⟩
        rw [hw6] at hHeld Q6 ⊢
        clear hw6
        refine hTwo 12 17 (fun K hK => ?_) fun K hK => ?_
        · go_simp
          go_at_call 124
          refine (pPin_c B.pr c.cu c.ct D.P _ Q6.out.n.pr q hq).mono ?_
          rintro e w' ⟨rfl, hw'⟩
          rw [hw']
          clear hw' w'
          obtain ⟨a10, a12⟩ := And.intro Q6.out.n.at'.c10 Q6.out.n.at'.c12
          obtain ⟨-, -, -, b3, -, -, -, b7, b8, b9, b10⟩ := lt_at Q6.out.x.l
          refine hK.out _ _ ?_ fun hHeld => ?_
          · exact ⟨a10, a12, b3, b7, b8, b9, b10⟩
          clear hK K
          try simp only [Act.put, za, zb, zc]
          clear a10 a12 b3 b7 b8 b9 b10
          refine hTwo 13 17 (fun K hK => ?_) fun K hK => ?_
          · go_simp
            go_at_call 123
            refine (cAbsorb_c B.ca Fc c.cs c.cy (N * 65536) 65536 l.q q D.C ⟨l.n, l.o, l.h, l.d⟩ _ Q6.out.n.ca hb hok h65 (by omega) r must C' hG hC').mono ?_
            rintro e w7 ⟨rfl, Fc6, hca6, hst6⟩
            rw [← e65] at hca6
            obtain ⟨n6, s6⟩ := Q6.out.n.setC (M := N + 1) hca6 hst6 (Nat.le_succ N)
            have Q7 := hide (Q6.out.step n6 s6)
            obtain ⟨a10, a12⟩ := And.intro Q7.out.n.at'.c10 Q7.out.n.at'.c12
            obtain ⟨-, -, -, b3, -, -, -, b7, b8, b9, b10⟩ := lt_at Q7.out.x.l
            refine hK.out _ _ ?_ fun hHeld => ?_
            · exact ⟨a10, a12, b3, b7, b8, b9, b10⟩
            clear hK K
            try simp only [Act.put, za, zb, zc]
            clear a10 a12 b3 b7 b8 b9 b10
            refine hTk 14 42 hHeld ?_
            refine hTk 15 57 hHeld ?_
            refine hTk 16 58 hHeld ?_
            refine hNo 17 fun K hK => ?_
            go_simp
            have T8z := hide (kx_new Q7.out.x Q7.out.n.lt (lnR ln0))
            have Q8z := hide (Q7.out.below (V' := w7.alloc (lnR ln0)) ((Below.refl _ _).alloc (Nat.le_refl _) _))
            obtain ⟨kq, ekt⟩ : ∃ kt, w7.heap.size = kt := ⟨_, rfl⟩
            obtain ⟨w8z, ew⟩ : ∃ W, w7.alloc (lnR ln0) = W := ⟨_, rfl⟩
            rw [ew] at T8z Q8z
            rw [ekt] at T8z ⊢
            dsimp only [atR, lnR] at ew
            rw [ew]
            clear ew ekt
            obtain ⟨a10, a12⟩ := And.intro Q8z.out.n.at'.c10 Q8z.out.n.at'.c12
            obtain ⟨-, -, -, b3, -, -, -, b7, b8, b9, b10⟩ := lt_at Q8z.out.x.l
            refine hK.out _ _ ?_ fun hHeld => ?_
            · exact ⟨a10, a12, b3, b7, b8, b9, b10⟩
            clear hK K
            try simp only [Act.put, za, zb, zc]
            clear a10 a12 b3 b7 b8 b9 b10
            have y0 : w8z.cell? ⟨kq, 0, none⟩ = some (.int .i64 0) := cell_of_row _ _ _ _ _ _ T8z.out.b
            have y1 : w8z.cell? ⟨kq, 1, none⟩ = some (.int .i64 0) := cell_of_row _ _ _ _ _ _ T8z.out.b
            have y2 : w8z.cell? ⟨kq, 2, none⟩ = some (.bool false) := cell_of_row _ _ _ _ _ _ T8z.out.b
            have y3 : w8z.cell? ⟨kq, 3, none⟩ = some (.bool false) := cell_of_row _ _ _ _ _ _ T8z.out.b
            have y4 : w8z.cell? ⟨kq, 4, none⟩ = some (.int .i64 0) := cell_of_row _ _ _ _ _ _ T8z.out.b
            have zt : ∀ i, w8z.frozen? ⟨kq, i, none⟩ = false := fun i => frozen_of_row _ _ _ _ _ T8z.out.b
            refine hNo 18 fun K hK => ?_
            go_simp
            have Q8 := hide (((((Q8z.out.setCell T8z.out.lo T8z.out.nf T8z.out.n1 T8z.out.n2 T8z.out.n3 0 (.int .i64 r.b)).setCell T8z.out.lo T8z.out.nf T8z.out.n1 T8z.out.n2 T8z.out.n3 1 (.int .i64 r.t.n)).setCell T8z.out.lo T8z.out.nf T8z.out.n1 T8z.out.n2 T8z.out.n3 2 (.bool r.t.o)).setCell T8z.out.lo T8z.out.nf T8z.out.n1 T8z.out.n2 T8z.out.n3 3 (.bool r.t.h)).setCell T8z.out.lo T8z.out.nf T8z.out.n1 T8z.out.n2 T8z.out.n3 4 (.int .i64 r.t.d))
            have T8 := hide (T8z.out.fillL r)
            obtain ⟨w8, ew⟩ : ∃ W, ((((w8z.setCell ⟨kq, 0, none⟩ (.int .i64 r.b)).setCell ⟨kq, 1, none⟩ (.int .i64 r.t.n)).setCell ⟨kq, 2, none⟩ (.bool r.t.o)).setCell ⟨kq, 3, none⟩ (.bool r.t.h)).setCell ⟨kq, 4, none⟩ (.int .i64 r.t.d) = W := ⟨_, rfl⟩
            rw [ew] at Q8 T8 ⊢
            clear ew y0 y1 y2 y3 y4 zt
            obtain ⟨a10, a12⟩ := And.intro Q8.out.n.at'.c10 Q8.out.n.at'.c12
            obtain ⟨-, -, -, b3, -, -, -, b7, b8, b9, b10⟩ := lt_at Q8.out.x.l
            refine hK.out _ _ ?_ fun hHeld => ?_
            · exact ⟨a10, a12, b3, b7, b8, b9, b10⟩
            clear hK K
            try simp only [Act.put, za, zb, zc]
            clear a10 a12 b3 b7 b8 b9 b10
            refine hTk 19 11 hHeld ?_
            refine wpAnyH_done (by kernel_rfl) (NoPanic.normal ?_) _
            clear hHeld
            go_wp2_with fail
            go_meet
            exact ⟨Fc6, kq, rfl, rfl, Q8.out, T8.out⟩
          · go_simp
            have T7 := hide (kx_new Q6.out.x Q6.out.n.lt (lnR ln0))
            have Q7 := hide (Q6.out.below (V' := w6.alloc (lnR ln0)) ((Below.refl _ _).alloc (Nat.le_refl _) _))
            obtain ⟨kq, ekt⟩ : ∃ kt, w6.heap.size = kt := ⟨_, rfl⟩
            obtain ⟨w7, ew⟩ : ∃ W, w6.alloc (lnR ln0) = W := ⟨_, rfl⟩
            rw [ew] at T7 Q7
            rw [ekt] at T7 ⊢
            dsimp only [atR, lnR] at ew
            rw [ew]
            clear ew ekt
            obtain ⟨a10, a12⟩ := And.intro Q7.out.n.at'.c10 Q7.out.n.at'.c12
            obtain ⟨-, -, -, b3, -, -, -, b7, b8, b9, b10⟩ := lt_at Q7.out.x.l
            refine hK.out _ _ ?_ fun hHeld => ?_
            · exact ⟨a10, a12, b3, b7, b8, b9, b10⟩
            clear hK K
            try simp only [Act.put, za, zb, zc]
            clear a10 a12 b3 b7 b8 b9 b10
            refine hNo 13 fun K hK => ?_
            go_simp
            go_at_call 123
            refine (cAbsorb_c B.ca Fc c.cs c.cy (N * 65536) 65536 l.q q D.C ⟨l.n, l.o, l.h, l.d⟩ _ Q7.out.n.ca hb hok h65 (by omega) r must C' hG hC').mono ?_
            rintro e w8z ⟨rfl, Fc6, hca6, hst6⟩
            rw [← e65] at hca6
            obtain ⟨n6, s6⟩ := Q7.out.n.setC (M := N + 1) hca6 hst6 (Nat.le_succ N)
            have Q8z := hide (Q7.out.step n6 s6)
            have T8z := hide (T7.out.step s6)
            obtain ⟨a10, a12⟩ := And.intro Q8z.out.n.at'.c10 Q8z.out.n.at'.c12
            obtain ⟨-, -, -, b3, -, -, -, b7, b8, b9, b10⟩ := lt_at Q8z.out.x.l
            refine hK.out _ _ ?_ fun hHeld => ?_
            · exact ⟨a10, a12, b3, b7, b8, b9, b10⟩
            clear hK K
            try simp only [Act.put, za, zb, zc]
            clear a10 a12 b3 b7 b8 b9 b10
            refine hTk 14 42 hHeld ?_
            refine hTk 15 57 hHeld ?_
            refine hTk 16 58 hHeld ?_
            have y0 : w8z.cell? ⟨kq, 0, none⟩ = some (.int .i64 0) := cell_of_row _ _ _ _ _ _ T8z.out.b
            have y1 : w8z.cell? ⟨kq, 1, none⟩ = some (.int .i64 0) := cell_of_row _ _ _ _ _ _ T8z.out.b
            have y2 : w8z.cell? ⟨kq, 2, none⟩ = some (.bool false) := cell_of_row _ _ _ _ _ _ T8z.out.b
            have y3 : w8z.cell? ⟨kq, 3, none⟩ = some (.bool false) := cell_of_row _ _ _ _ _ _ T8z.out.b
            have y4 : w8z.cell? ⟨kq, 4, none⟩ = some (.int .i64 0) := cell_of_row _ _ _ _ _ _ T8z.out.b
            have zt : ∀ i, w8z.frozen? ⟨kq, i, none⟩ = false := fun i => frozen_of_row _ _ _ _ _ T8z.out.b
            refine hNo 18 fun K hK => ?_
            go_simp
            have Q8 := hide (((((Q8z.out.setCell T8z.out.lo T8z.out.nf T8z.out.n1 T8z.out.n2 T8z.out.n3 0 (.int .i64 r.b)).setCell T8z.out.lo T8z.out.nf T8z.out.n1 T8z.out.n2 T8z.out.n3 1 (.int .i64 r.t.n)).setCell T8z.out.lo T8z.out.nf T8z.out.n1 T8z.out.n2 T8z.out.n3 2 (.bool r.t.o)).setCell T8z.out.lo T8z.out.nf T8z.out.n1 T8z.out.n2 T8z.out.n3 3 (.bool r.t.h)).setCell T8z.out.lo T8z.out.nf T8z.out.n1 T8z.out.n2 T8z.out.n3 4 (.int .i64 r.t.d))
            have T8 := hide (T8z.out.fillL r)
            obtain ⟨w8, ew⟩ : ∃ W, ((((w8z.setCell ⟨kq, 0, none⟩ (.int .i64 r.b)).setCell ⟨kq, 1, none⟩ (.int .i64 r.t.n)).setCell ⟨kq, 2, none⟩ (.bool r.t.o)).setCell ⟨kq, 3, none⟩ (.bool r.t.h)).setCell ⟨kq, 4, none⟩ (.int .i64 r.t.d) = W := ⟨_, rfl⟩
            rw [ew] at Q8 T8 ⊢
            clear ew y0 y1 y2 y3 y4 zt
            obtain ⟨a10, a12⟩ := And.intro Q8.out.n.at'.c10 Q8.out.n.at'.c12
            obtain ⟨-, -, -, b3, -, -, -, b7, b8, b9, b10⟩ := lt_at Q8.out.x.l
            refine hK.out _ _ ?_ fun hHeld => ?_
            · exact ⟨a10, a12, b3, b7, b8, b9, b10⟩
            clear hK K
            try simp only [Act.put, za, zb, zc]
            clear a10 a12 b3 b7 b8 b9 b10
            refine hTk 19 11 hHeld ?_
            refine wpAnyH_done (by kernel_rfl) (NoPanic.normal ?_) _
            clear hHeld
            go_wp2_with fail
            go_meet
            exact ⟨Fc6, kq, rfl, rfl, Q8.out, T8.out⟩
        · go_simp
          have T7 := hide (kx_new Q6.out.x Q6.out.n.lt (lnR ln0))
          have Q7 := hide (Q6.out.below (V' := w6.alloc (lnR ln0)) ((Below.refl _ _).alloc (Nat.le_refl _) _))
          obtain ⟨kq, ekt⟩ : ∃ kt, w6.heap.size = kt := ⟨_, rfl⟩
          obtain ⟨w7, ew⟩ : ∃ W, w6.alloc (lnR ln0) = W := ⟨_, rfl⟩
          rw [ew] at T7 Q7
          rw [ekt] at T7 ⊢
          dsimp only [atR, lnR] at ew
          rw [ew]
          clear ew ekt
          obtain ⟨a10, a12⟩ := And.intro Q7.out.n.at'.c10 Q7.out.n.at'.c12
          obtain ⟨-, -, -, b3, -, -, -, b7, b8, b9, b10⟩ := lt_at Q7.out.x.l
          refine hK.out _ _ ?_ fun hHeld => ?_
          · exact ⟨a10, a12, b3, b7, b8, b9, b10⟩
          clear hK K
          try simp only [Act.put, za, zb, zc]
          clear a10 a12 b3 b7 b8 b9 b10
          refine hNo 12 fun K hK => ?_
          go_simp
          go_at_call 124
          refine (pPin_c B.pr c.cu c.ct D.P _ Q7.out.n.pr q hq).mono ?_
          rintro e w' ⟨rfl, hw'⟩
          rw [hw']
          clear hw' w'
          obtain ⟨a10, a12⟩ := And.intro Q7.out.n.at'.c10 Q7.out.n.at'.c12
          obtain ⟨-, -, -, b3, -, -, -, b7, b8, b9, b10⟩ := lt_at Q7.out.x.l
          refine hK.out _ _ ?_ fun hHeld => ?_
          · exact ⟨a10, a12, b3, b7, b8, b9, b10⟩
          clear hK K
          try simp only [Act.put, za, zb, zc]
          clear a10 a12 b3 b7 b8 b9 b10
          refine hNo 13 fun K hK => ?_
          go_simp
          go_at_call 123
          refine (cAbsorb_c B.ca Fc c.cs c.cy (N * 65536) 65536 l.q q D.C ⟨l.n, l.o, l.h, l.d⟩ _ Q7.out.n.ca hb hok h65 (by omega) r must C' hG hC').mono ?_
          rintro e w8z ⟨rfl, Fc6, hca6, hst6⟩
          rw [← e65] at hca6
          obtain ⟨n6, s6⟩ := Q7.out.n.setC (M := N + 1) hca6 hst6 (Nat.le_succ N)
          have Q8z := hide (Q7.out.step n6 s6)
          have T8z := hide (T7.out.step s6)
          obtain ⟨a10, a12⟩ := And.intro Q8z.out.n.at'.c10 Q8z.out.n.at'.c12
          obtain ⟨-, -, -, b3, -, -, -, b7, b8, b9, b10⟩ := lt_at Q8z.out.x.l
          refine hK.out _ _ ?_ fun hHeld => ?_
          · exact ⟨a10, a12, b3, b7, b8, b9, b10⟩
          clear hK K
          try simp only [Act.put, za, zb, zc]
          clear a10 a12 b3 b7 b8 b9 b10
          refine hTk 14 42 hHeld ?_
          refine hTk 15 57 hHeld ?_
          refine hTk 16 58 hHeld ?_
          have y0 : w8z.cell? ⟨kq, 0, none⟩ = some (.int .i64 0) := cell_of_row _ _ _ _ _ _ T8z.out.b
          have y1 : w8z.cell? ⟨kq, 1, none⟩ = some (.int .i64 0) := cell_of_row _ _ _ _ _ _ T8z.out.b
          have y2 : w8z.cell? ⟨kq, 2, none⟩ = some (.bool false) := cell_of_row _ _ _ _ _ _ T8z.out.b
          have y3 : w8z.cell? ⟨kq, 3, none⟩ = some (.bool false) := cell_of_row _ _ _ _ _ _ T8z.out.b
          have y4 : w8z.cell? ⟨kq, 4, none⟩ = some (.int .i64 0) := cell_of_row _ _ _ _ _ _ T8z.out.b
          have zt : ∀ i, w8z.frozen? ⟨kq, i, none⟩ = false := fun i => frozen_of_row _ _ _ _ _ T8z.out.b
          refine hNo 18 fun K hK => ?_
          go_simp
          have Q8 := hide (((((Q8z.out.setCell T8z.out.lo T8z.out.nf T8z.out.n1 T8z.out.n2 T8z.out.n3 0 (.int .i64 r.b)).setCell T8z.out.lo T8z.out.nf T8z.out.n1 T8z.out.n2 T8z.out.n3 1 (.int .i64 r.t.n)).setCell T8z.out.lo T8z.out.nf T8z.out.n1 T8z.out.n2 T8z.out.n3 2 (.bool r.t.o)).setCell T8z.out.lo T8z.out.nf T8z.out.n1 T8z.out.n2 T8z.out.n3 3 (.bool r.t.h)).setCell T8z.out.lo T8z.out.nf T8z.out.n1 T8z.out.n2 T8z.out.n3 4 (.int .i64 r.t.d))
          have T8 := hide (T8z.out.fillL r)
          obtain ⟨w8, ew⟩ : ∃ W, ((((w8z.setCell ⟨kq, 0, none⟩ (.int .i64 r.b)).setCell ⟨kq, 1, none⟩ (.int .i64 r.t.n)).setCell ⟨kq, 2, none⟩ (.bool r.t.o)).setCell ⟨kq, 3, none⟩ (.bool r.t.h)).setCell ⟨kq, 4, none⟩ (.int .i64 r.t.d) = W := ⟨_, rfl⟩
          rw [ew] at Q8 T8 ⊢
          clear ew y0 y1 y2 y3 y4 zt
          obtain ⟨a10, a12⟩ := And.intro Q8.out.n.at'.c10 Q8.out.n.at'.c12
          obtain ⟨-, -, -, b3, -, -, -, b7, b8, b9, b10⟩ := lt_at Q8.out.x.l
          refine hK.out _ _ ?_ fun hHeld => ?_
          · exact ⟨a10, a12, b3, b7, b8, b9, b10⟩
          clear hK K
          try simp only [Act.put, za, zb, zc]
          clear a10 a12 b3 b7 b8 b9 b10
          refine hTk 19 11 hHeld ?_
          refine wpAnyH_done (by kernel_rfl) (NoPanic.normal ?_) _
          clear hHeld
          go_wp2_with fail
          go_meet
          exact ⟨Fc6, kq, rfl, rfl, Q8.out, T8.out⟩
end Go.Proofs.YtoenjdnccgmhoaaGreatDoor
