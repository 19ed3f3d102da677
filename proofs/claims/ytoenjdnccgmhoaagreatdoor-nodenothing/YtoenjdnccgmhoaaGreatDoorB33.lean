/- layer 15: NdF, put together. -/
import Derived.Test.YtoenjdnccgmhoaaGreatDoorB32
import Derived.Test.YtoenjdnccgmhoaaGreatDoorB27
namespace Go.Proofs.YtoenjdnccgmhoaaGreatDoor
open Go.ChangeShapes Go.WideShapes Go.ChangeAt Go.RowKit
set_option linter.unusedSimpArgs false
set_option linter.unusedVariables false
set_option maxRecDepth 10000
attribute [local go_sem, local simp] over_const setCell_drewN alloc_drewN Over.cell Over.frozen lt_s1 lt_s2 lt_s3 le_s0 le_s1 le_s2 le_s3 eq_s0 eq_s1 eq_s2 qe_s0
theorem Bx.setCell {w V : World} {F : Nat → Prop} {l : Lt} {d0 d1 d2 : Int} {kl kd R : Nat} (h : Bx w V F l d0 d1 d2 kl kd R) (k i : Nat) (u : Value) (h1 : k ≠ kl) (h2 : k ≠ kd) (h3 : k ≠ R) : Bx w (V.setCell ⟨k, i, none⟩ u) F l d0 d1 d2 kl kd R :=
  have e : ∀ b, k ≠ b → (V.setCell ⟨k, i, none⟩ u).heap[b]? = V.heap[b]? := fun b hb => Below.heap_setCell _ _ _ _ (fun e => hb e.symm)
  ⟨h.lo1, h.lo2, h.lo3, h.ne1, h.ne2, by simpa using h.hi1, by simpa using h.hi2, by simpa using h.hi3, h.nf1, h.nf2, h.nf3, (e _ h1).trans h.l, (e _ h2).trans h.d, (e _ h3).trans h.r⟩
structure Tx (w V : World) (F : Nat → Prop) (kt kl kd R : Nat) : Prop where
  lo : w.heap.size ≤ kt
  hi : kt < V.heap.size
  nf : ¬ F kt
  n1 : kt ≠ kl
  n2 : kt ≠ kd
  n3 : kt ≠ R
  b : V.heap[kt]? = some (bunR bun0)
theorem Tx.step {w V V' : World} {F F' : Nat → Prop} {kt kl kd R : Nat} (h : Tx w V F kt kl kd R) (s : Step F F' V V') : Tx w V' F' kt kl kd R := ⟨h.lo, (s.keep h.nf h.hi).2.2, (s.keep h.nf h.hi).2.1, h.n1, h.n2, h.n3, keepF s h.nf h.hi h.b⟩
theorem tx_new {w V : World} {F : Nat → Prop} {l : Lt} {d0 d1 d2 : Int} {kl kd R : Nat} (h : Bx w V F l d0 d1 d2 kl kd R) (hF : ∀ b, F b → b < V.heap.size) : Tx w (V.alloc (bunR bun0)) F V.heap.size kl kd R :=
  ⟨Nat.le_of_lt (Nat.lt_of_le_of_lt h.lo1 h.hi1), by simp, fun e => by have := hF _ e; omega, by have := h.hi1; omega, by have := h.hi2; omega, by have := h.hi3; omega, heap_alloc_new _ _⟩
structure At3 (w V : World) (p : Nat) (B : Bk) (Fc F : Nat → Prop) (c : Cf) (id : Int) (N : Nat) (D : Nd) (l : Lt) (d0 d1 d2 : Int) (kl kd R : Nat) : Prop where
  n : NdIs V p B F c id N D
  x : Bx w V (Fa p B F) l d0 d1 d2 kl kd R
  s : Step (Fa p B Fc) (Fa p B F) w V
theorem At3.below {w V V' : World} {p : Nat} {B : Bk} {Fc F : Nat → Prop} {c : Cf} {id : Int} {N : Nat} {D : Nd} {l : Lt} {d0 d1 d2 : Int} {kl kd R : Nat} (h : At3 w V p B Fc F c id N D l d0 d1 d2 kl kd R) (hb : Below V.heap.size V V') : At3 w V' p B Fc F c id N D l d0 d1 d2 kl kd R := ⟨h.n.below hb, h.x.below hb, h.s.trans (Step.of_below hb)⟩
theorem At3.step {w V V' : World} {p : Nat} {B : Bk} {Fc F F' : Nat → Prop} {c : Cf} {id : Int} {N M : Nat} {D D' : Nd} {l : Lt} {d0 d1 d2 : Int} {kl kd R : Nat} (h : At3 w V p B Fc F c id N D l d0 d1 d2 kl kd R) (hn : NdIs V' p B F' c id M D') (hs : Step (Fa p B F) (Fa p B F') V V') : At3 w V' p B Fc F' c id M D' l d0 d1 d2 kl kd R := ⟨hn, h.x.step hs, h.s.trans hs⟩
theorem At3.setCell {w V : World} {p : Nat} {B : Bk} {Fc F : Nat → Prop} {c : Cf} {id : Int} {N : Nat} {D : Nd} {l : Lt} {d0 d1 d2 : Int} {kl kd R kt : Nat} (h : At3 w V p B Fc F c id N D l d0 d1 d2 kl kd R) (h0 : w.heap.size ≤ kt) (hf : ¬ Fa p B F kt) (h1 : kt ≠ kl) (h2 : kt ≠ kd) (h3 : kt ≠ R) (i : Nat) (u : Value) : At3 w (V.setCell ⟨kt, i, none⟩ u) p B Fc F c id N D l d0 d1 d2 kl kd R := ⟨h.n.setCell _ _ (.inr hf), h.x.setCell _ _ _ h1 h2 h3, h.s.setNew h0 _ _⟩
set_option maxHeartbeats 4000000 in
theorem ndTkAc_c (p : Nat) (B : Bk) (Fc : Nat → Prop) (c : Cf) (id : Int) (N : Nat) (D : Nd) (l : Lt) (d0 d1 d2 : Int) (w : World) (h : NdIs w p B Fc c id N D) (hN1 : N + 2 ≤ 2000) (hb : I64 l.q) (L : List Lt) (hL : Hid (acL c id D l = L)) : Calls Tryz.prog 84 #[ptr p, .agg #[.int .i64 l.k, .int .i64 l.a, .int .i64 l.b, .int .i64 l.q, .int .i64 l.s, .int .i64 l.w, .bool l.r, .int .i64 l.n, .bool l.o, .bool l.h, .int .i64 l.d], .agg #[.int .i64 d0, .int .i64 d1, .int .i64 d2]] w fun e w' => ∃ v1 v2, e = .returned (.agg #[v1, v2]) ∧ ∃ Fc' g1 g2, OutP w p B Fc Fc' c id (N + 2) (nxAc id D l) L [] v1 v2 w' g1 g2 := by
  have hH := hide h
  have hFw := hide h.lt
  have hL' := hL.out
  obtain ⟨ok, hok⟩ : ∃ ok, Hid (okA D.T (actA l) = ok) := ⟨_, rfl⟩
  obtain ⟨wt, hwt⟩ : ∃ wt, Hid (waitB D l.q = wt) := ⟨_, rfl⟩
  obtain ⟨t, ht⟩ : ∃ t, Hid (D.C.T l.q = t) := ⟨_, rfl⟩
  obtain ⟨g, hg⟩ : ∃ g, Hid (givenB (D.C.T l.q) t.n true true = g) := ⟨_, rfl⟩
  obtain ⟨C', hC⟩ : ∃ C', Hid (nxTk D.C l.q t.n true = C') := ⟨_, rfl⟩
  have hwt2 : Hid (waitB (acD D l) l.q = wt) := hwt
  unfold acL at hL'
  unfold nxAc
  rw [hok.out, hwt.out, ht.out, show givenB t t.n true true = g by rw [← hg.out, ht.out]] at hL'
  rw [hok.out, hwt.out, ht.out]
  have hfld := field_n
  clear h hL hwt
  cases ok
  · simp only [Bool.false_eq_true, if_false] at hL' ⊢
    subst hL'
    go_enter Tryz.func84, Tryz.ntmps84
    go_upto_region 1 with fail
    refine name_world ?_
    intro V hV
    have hX : Hid (Bx w V (Fa p B Fc) l d0 d1 d2 w.heap.size (w.heap.size + 1) (w.heap.size + 1 + 1)) := by rw [← hV]; exact hide (bx_new w _ hFw.out l d0 d1 d2)
    have hB : Hid (Below w.heap.size w V) := by rw [← hV]; exact hide (by all_goals exact belEnd)
    have hN := hide (hH.out.below hB.out)
    obtain ⟨R, hRe⟩ : ∃ R, Hid (w.heap.size + 1 + 1 = R) := ⟨_, rfl⟩
    obtain ⟨kd, hde⟩ : ∃ kd, Hid (w.heap.size + 1 = kd) := ⟨_, rfl⟩
    obtain ⟨kl, hle⟩ : ∃ kl, Hid (w.heap.size = kl) := ⟨_, rfl⟩
    rw [hRe.out, hde.out, hle.out] at hX
    rw [hRe.out, hde.out, hle.out]
    clear hV
    have A1 := hN.out.at'
    have B1 := lt_at hX.out.l
    go_wp2_with fail
    refine wp_region_noPanic ?_
    refine wp_region_held_drew (S := (fun w' => w'.cell? ⟨p, 11, none⟩ = some (ptr B.tc) ∧ w'.cell? ⟨kl, 3, none⟩ = some (.int .i64 l.q) ∧ w'.cell? ⟨kl, 5, none⟩ = some (.int .i64 l.w) ∧ w'.cell? ⟨kl, 4, none⟩ = some (.int .i64 l.s))) (by kernel_rfl) ?_ (fun hHeld => ?_)
    · exact ⟨A1.c11, B1.c3, B1.c5, B1.c4⟩
    clear A1 B1
    refine hTk 0 8 hHeld ?_
    refine hTk 1 9 hHeld ?_
    refine hTk 2 10 hHeld ?_
    refine hTk 3 11 hHeld ?_
    refine hTk 4 12 hHeld ?_
    refine hTk 5 13 hHeld ?_
    refine hTk 6 14 hHeld ?_
    refine hTk 7 15 hHeld ?_
    refine hTk 8 16 hHeld ?_
    refine hTk 9 17 hHeld ?_
    refine hTk 10 18 hHeld ?_
    refine hNo 11 fun K hK => ?_
    go_simp
    go_at_call 128
    refine (tActivate_c B.tc B.tt B.to N D.T (actA l) _ (hN.out.drewN 1).tb hb (by omega) false hok).mono ?_
    rintro e w2 ⟨rfl, ht2, hf2⟩
    obtain ⟨n2, s2⟩ := (hN.out.drewN 1).setT ht2 hf2 (Nat.le_succ N)
    have Q2 : Hid (At3 w w2 p B Fc Fc c id (N + 1) (acD D l) l d0 d1 d2 kl kd R) := hide ((At3.mk hN.out hX.out (Step.of_below hB.out)).below (V' := V.drewN 1) (belowN (Below.refl _ _) 1) |>.step n2 s2)
    clear ht2 hf2 n2 s2 hX hB hN
    obtain ⟨a11, b3, b5, b4⟩ := And.intro Q2.out.n.at'.c11 (And.intro (lt_at Q2.out.x.l).c3 (And.intro (lt_at Q2.out.x.l).c5 (lt_at Q2.out.x.l).c4))
    refine hK.out _ _ ?_ fun hHeld => ?_
    · exact ⟨a11, b3, b5, b4⟩
    clear hK K
    try simp only [Act.put, za, zb, zc]
    refine hTk 12 20 hHeld ?_
    refine wpAnyH_done (by kernel_rfl) (NoPanic.normal ?_) _
    clear hHeld
    clear a11 b4
    have e0 : acD D l = D := by have := hok.out; unfold acD nxA; rw [this]; simp
    have hR3 := Q2.out.x.hi3
    obtain ⟨r0, r1, z⟩ := or_at Q2.out.x.r
    go_wp2_with fail
    refine bodyPost_ret (v := .agg #[.slice none 0 0, .slice none 0 0]) (by simp [results, Tryz.results84, go_sem, *]; done) rfl ⟨_, _, rfl, Fc, w.heap.size, w.heap.size, ?_⟩
    have hlo := Q2.out.x.lo1
    have hls := Q2.out.x.hi1
    exact out_fin Q2.out.x (own_nilT (by omega)) (view_nilD _ _) (Nat.le_refl _) (by have := hRe.out; omega) (fun h => absurd rfl h) (by rw [← e0]; exact Q2.out.n.mono (Nat.le_succ _)) Q2.out.s (fun e => by have := hFw.out _ e; omega) (fun h => absurd rfl h)
  · simp only [if_true] at hL' ⊢
    by_cases e : l.w = id
    · rw [if_pos e] at hL' ⊢
      obtain ⟨e1, e2, e3⟩ := cmpT e
      replace e := hide e
      cases wt
      · simp only [Bool.false_eq_true, if_false] at hL' ⊢
        replace hL' := hide hL'
        go_enter Tryz.func84, Tryz.ntmps84
        go_upto_region 1 with fail
        refine name_world ?_
        intro V hV
        have hX : Hid (Bx w V (Fa p B Fc) l d0 d1 d2 w.heap.size (w.heap.size + 1) (w.heap.size + 1 + 1)) := by rw [← hV]; exact hide (bx_new w _ hFw.out l d0 d1 d2)
        have hB : Hid (Below w.heap.size w V) := by rw [← hV]; exact hide (by all_goals exact belEnd)
        have hN := hide (hH.out.below hB.out)
        obtain ⟨R, hRe⟩ : ∃ R, Hid (w.heap.size + 1 + 1 = R) := ⟨_, rfl⟩
        obtain ⟨kd, hde⟩ : ∃ kd, Hid (w.heap.size + 1 = kd) := ⟨_, rfl⟩
        obtain ⟨kl, hle⟩ : ∃ kl, Hid (w.heap.size = kl) := ⟨_, rfl⟩
        rw [hRe.out, hde.out, hle.out] at hX
        rw [hRe.out, hde.out, hle.out]
        clear hV
        have A1 := hN.out.at'
        have B1 := lt_at hX.out.l
        go_wp2_with fail
        refine wp_region_noPanic ?_
        refine wp_region_held_drew (S := (fun w' => w'.cell? ⟨p, 11, none⟩ = some (ptr B.tc) ∧ w'.cell? ⟨kl, 3, none⟩ = some (.int .i64 l.q) ∧ w'.cell? ⟨kl, 5, none⟩ = some (.int .i64 l.w) ∧ w'.cell? ⟨kl, 4, none⟩ = some (.int .i64 l.s))) (by kernel_rfl) ?_ (fun hHeld => ?_)
        · exact ⟨A1.c11, B1.c3, B1.c5, B1.c4⟩
        clear A1 B1
        refine hTk 0 8 hHeld ?_
        refine hTk 1 9 hHeld ?_
        refine hTk 2 10 hHeld ?_
        refine hTk 3 11 hHeld ?_
        refine hTk 4 12 hHeld ?_
        refine hTk 5 13 hHeld ?_
        refine hTk 6 14 hHeld ?_
        refine hTk 7 15 hHeld ?_
        refine hTk 8 16 hHeld ?_
        refine hTk 9 17 hHeld ?_
        refine hTk 10 18 hHeld ?_
        refine hNo 11 fun K hK => ?_
        go_simp
        go_at_call 128
        refine (tActivate_c B.tc B.tt B.to N D.T (actA l) _ (hN.out.drewN 1).tb hb (by omega) true hok).mono ?_
        rintro e w2 ⟨rfl, ht2, hf2⟩
        obtain ⟨n2, s2⟩ := (hN.out.drewN 1).setT ht2 hf2 (Nat.le_succ N)
        have Q2 : Hid (At3 w w2 p B Fc Fc c id (N + 1) (acD D l) l d0 d1 d2 kl kd R) := hide ((At3.mk hN.out hX.out (Step.of_below hB.out)).below (V' := V.drewN 1) (belowN (Below.refl _ _) 1) |>.step n2 s2)
        clear ht2 hf2 n2 s2 hX hB hN
        obtain ⟨a11, b3, b5, b4⟩ := And.intro Q2.out.n.at'.c11 (And.intro (lt_at Q2.out.x.l).c3 (And.intro (lt_at Q2.out.x.l).c5 (lt_at Q2.out.x.l).c4))
        refine hK.out _ _ ?_ fun hHeld => ?_
        · exact ⟨a11, b3, b5, b4⟩
        clear hK K
        try simp only [Act.put, za, zb, zc]
        refine hTk 12 20 hHeld ?_
        refine wpAnyH_done (by kernel_rfl) (NoPanic.normal ?_) _
        clear hHeld
        clear a11 b4
        go_wp2_with fail
        have a9 := Q2.out.n.at'.c9
        go_wp2_with fail
        refine wp_region_noPanic ?_
        refine wp_region_held_drew (S := (fun w' => w'.cell? ⟨kl, 5, none⟩ = some (.int .i64 l.w) ∧ w'.cell? ⟨p, 9, none⟩ = some (.int .i64 id))) (by kernel_rfl) ?_ (fun hHeld => ?_)
        · exact ⟨b5, a9⟩
        refine hTk 0 22 hHeld ?_
        refine hTk 1 23 hHeld ?_
        refine hTk 2 24 hHeld ?_
        refine hTk 3 25 hHeld ?_
        refine hTk 4 26 hHeld ?_
        refine hTk 5 27 hHeld ?_
        refine hVl 6 28 (.bool false) hHeld (fun wz hSw => ?_) ?_
        · try dsimp only at hSw
          go_simp
        refine wpAnyH_done (by kernel_rfl) (NoPanic.normal ?_) _
        clear hHeld
        clear a9
        have hl2 := Q2.out.x.hi1
        have hR2 := Q2.out.x.hi3
        go_wp2_with (first | (go_at_call 125; refine (ndWaits_c p B Fc c id (N + 1) (acD D l) l.q _ (Q2.out.n.drewN 1) false hwt2).mono ?_; rintro e w4 ⟨rfl, hb4⟩; have Q4 := hide ((Q2.out.below (V' := w2.drewN 1) (belowN (Below.refl _ _) 1)).below hb4); have b34 := (lt_at Q4.out.x.l).c3; have hl4 := Q4.out.x.hi1; clear hb4) | (go_at_call 76; refine (ndEnd_c p B Fc c id (N + 1) (acD D l) l.q _ Q4.out.n hb (by omega) L hL').mono ?_; rintro e w5 ⟨v5, rfl, g5, hE⟩; obtain ⟨ao5, cap5, e5, -⟩ := _root_.id hE.own; subst e5; have Q5 := hide (Q4.out.step hE.nd hE.st); replace hE := hide hE; obtain ⟨r0, r1, z⟩ := or_at Q5.out.x.r; have hR5 := Q5.out.x.hi3))
        refine bodyPost_ret (v := .agg #[.slice ao5 L.length cap5, .slice none 0 0]) (by simp [results, Tryz.results84, go_sem, *]; done) rfl ⟨_, _, rfl, Fc, g5, g5, ?_⟩
        have hg5 := hE.out.new
        have h4 := Q4.out.x.hi3
        have h5 := Q4.out.x.hi1
        have h6 := Q4.out.x.lo1
        exact out_fin Q5.out.x hE.out.own (view_nilD _ _) (by omega) (by omega) (fun h => absurd rfl h) Q5.out.n Q5.out.s hE.out.nf (fun h => absurd rfl h)
      · simp only [if_true] at hL' ⊢
        subst hL'
        go_enter Tryz.func84, Tryz.ntmps84
        go_upto_region 1 with fail
        refine name_world ?_
        intro V hV
        have hX : Hid (Bx w V (Fa p B Fc) l d0 d1 d2 w.heap.size (w.heap.size + 1) (w.heap.size + 1 + 1)) := by rw [← hV]; exact hide (bx_new w _ hFw.out l d0 d1 d2)
        have hB : Hid (Below w.heap.size w V) := by rw [← hV]; exact hide (by all_goals exact belEnd)
        have hN := hide (hH.out.below hB.out)
        obtain ⟨R, hRe⟩ : ∃ R, Hid (w.heap.size + 1 + 1 = R) := ⟨_, rfl⟩
        obtain ⟨kd, hde⟩ : ∃ kd, Hid (w.heap.size + 1 = kd) := ⟨_, rfl⟩
        obtain ⟨kl, hle⟩ : ∃ kl, Hid (w.heap.size = kl) := ⟨_, rfl⟩
        rw [hRe.out, hde.out, hle.out] at hX
        rw [hRe.out, hde.out, hle.out]
        clear hV
        have A1 := hN.out.at'
        have B1 := lt_at hX.out.l
        go_wp2_with fail
        refine wp_region_noPanic ?_
        refine wp_region_held_drew (S := (fun w' => w'.cell? ⟨p, 11, none⟩ = some (ptr B.tc) ∧ w'.cell? ⟨kl, 3, none⟩ = some (.int .i64 l.q) ∧ w'.cell? ⟨kl, 5, none⟩ = some (.int .i64 l.w) ∧ w'.cell? ⟨kl, 4, none⟩ = some (.int .i64 l.s))) (by kernel_rfl) ?_ (fun hHeld => ?_)
        · exact ⟨A1.c11, B1.c3, B1.c5, B1.c4⟩
        clear A1 B1
        refine hTk 0 8 hHeld ?_
        refine hTk 1 9 hHeld ?_
        refine hTk 2 10 hHeld ?_
        refine hTk 3 11 hHeld ?_
        refine hTk 4 12 hHeld ?_
        refine hTk 5 13 hHeld ?_
        refine hTk 6 14 hHeld ?_
        refine hTk 7 15 hHeld ?_
        refine hTk 8 16 hHeld ?_
        refine hTk 9 17 hHeld ?_
        refine hTk 10 18 hHeld ?_
        refine hNo 11 fun K hK => ?_
        go_simp
        go_at_call 128
        refine (tActivate_c B.tc B.tt B.to N D.T (actA l) _ (hN.out.drewN 1).tb hb (by omega) true hok).mono ?_
        rintro e w2 ⟨rfl, ht2, hf2⟩
        obtain ⟨n2, s2⟩ := (hN.out.drewN 1).setT ht2 hf2 (Nat.le_succ N)
        have Q2 : Hid (At3 w w2 p B Fc Fc c id (N + 1) (acD D l) l d0 d1 d2 kl kd R) := hide ((At3.mk hN.out hX.out (Step.of_below hB.out)).below (V' := V.drewN 1) (belowN (Below.refl _ _) 1) |>.step n2 s2)
        clear ht2 hf2 n2 s2 hX hB hN
        obtain ⟨a11, b3, b5, b4⟩ := And.intro Q2.out.n.at'.c11 (And.intro (lt_at Q2.out.x.l).c3 (And.intro (lt_at Q2.out.x.l).c5 (lt_at Q2.out.x.l).c4))
        refine hK.out _ _ ?_ fun hHeld => ?_
        · exact ⟨a11, b3, b5, b4⟩
        clear hK K
        try simp only [Act.put, za, zb, zc]
        refine hTk 12 20 hHeld ?_
        refine wpAnyH_done (by kernel_rfl) (NoPanic.normal ?_) _
        clear hHeld
        clear a11 b4
        go_wp2_with fail
        have a9 := Q2.out.n.at'.c9
        go_wp2_with fail
        refine wp_region_noPanic ?_
        refine wp_region_held_drew (S := (fun w' => w'.cell? ⟨kl, 5, none⟩ = some (.int .i64 l.w) ∧ w'.cell? ⟨p, 9, none⟩ = some (.int .i64 id))) (by kernel_rfl) ?_ (fun hHeld => ?_)
        · exact ⟨b5, a9⟩
        refine hTk 0 22 hHeld ?_
        refine hTk 1 23 hHeld ?_
        refine hTk 2 24 hHeld ?_
        refine hTk 3 25 hHeld ?_
        refine hTk 4 26 hHeld ?_
        refine hTk 5 27 hHeld ?_
        refine hVl 6 28 (.bool false) hHeld (fun wz hSw => ?_) ?_
        · try dsimp only at hSw
          go_simp
        refine wpAnyH_done (by kernel_rfl) (NoPanic.normal ?_) _
        clear hHeld
        clear a9
        have hl2 := Q2.out.x.hi1
        have hR2 := Q2.out.x.hi3
        go_wp2_with (go_at_call 125; refine (ndWaits_c p B Fc c id (N + 1) (acD D l) l.q _ (Q2.out.n.drewN 1) true hwt2).mono ?_; rintro e w4 ⟨rfl, hb4⟩; have Q4 := hide ((Q2.out.below (V' := w2.drewN 1) (belowN (Below.refl _ _) 1)).below hb4); obtain ⟨r0, r1, z⟩ := or_at Q4.out.x.r; have hR4 := Q4.out.x.hi3; clear hb4)
        refine bodyPost_ret (v := .agg #[.slice none 0 0, .slice none 0 0]) (by simp [results, Tryz.results84, go_sem, *]; done) rfl ⟨_, _, rfl, Fc, w.heap.size, w.heap.size, ?_⟩
        have hlo := Q4.out.x.lo1
        have hls := Q4.out.x.hi1
        exact out_fin Q4.out.x (own_nilT (by omega)) (view_nilD _ _) (Nat.le_refl _) (by have := hRe.out; omega) (fun h => absurd rfl h) (Q4.out.n.mono (Nat.le_succ _)) Q4.out.s (fun e => by have := hFw.out _ e; omega) (fun h => absurd rfl h)
    · rw [if_neg e] at hL' ⊢
      have eG : gvD (acD D l) l.q t.n true = ⟨C', (acD D l).T, (acD D l).P, (acD D l).A, (acD D l).O⟩ := by unfold gvD; rw [show (acD D l).C = D.C from rfl, hC.out]
      obtain ⟨e1, e2, e3⟩ := cmpF e
      replace e := hide e
      replace hL' := hide hL'
      go_enter Tryz.func84, Tryz.ntmps84
      go_upto_region 1 with fail
      refine name_world ?_
      intro V hV
      have hX : Hid (Bx w V (Fa p B Fc) l d0 d1 d2 w.heap.size (w.heap.size + 1) (w.heap.size + 1 + 1)) := by rw [← hV]; exact hide (bx_new w _ hFw.out l d0 d1 d2)
      have hB : Hid (Below w.heap.size w V) := by rw [← hV]; exact hide (by all_goals exact belEnd)
      have hN := hide (hH.out.below hB.out)
      obtain ⟨R, hRe⟩ : ∃ R, Hid (w.heap.size + 1 + 1 = R) := ⟨_, rfl⟩
      obtain ⟨kd, hde⟩ : ∃ kd, Hid (w.heap.size + 1 = kd) := ⟨_, rfl⟩
      obtain ⟨kl, hle⟩ : ∃ kl, Hid (w.heap.size = kl) := ⟨_, rfl⟩
      rw [hRe.out, hde.out, hle.out] at hX
      rw [hRe.out, hde.out, hle.out]
      clear hV
      have A1 := hN.out.at'
      have B1 := lt_at hX.out.l
      go_wp2_with fail
      refine wp_region_noPanic ?_
      refine wp_region_held_drew (S := (fun w' => w'.cell? ⟨p, 11, none⟩ = some (ptr B.tc) ∧ w'.cell? ⟨kl, 3, none⟩ = some (.int .i64 l.q) ∧ w'.cell? ⟨kl, 5, none⟩ = some (.int .i64 l.w) ∧ w'.cell? ⟨kl, 4, none⟩ = some (.int .i64 l.s))) (by kernel_rfl) ?_ (fun hHeld => ?_)
      · exact ⟨A1.c11, B1.c3, B1.c5, B1.c4⟩
      clear A1 B1
      refine hTk 0 8 hHeld ?_
      refine hTk 1 9 hHeld ?_
      refine hTk 2 10 hHeld ?_
      refine hTk 3 11 hHeld ?_
      refine hTk 4 12 hHeld ?_
      refine hTk 5 13 hHeld ?_
      refine hTk 6 14 hHeld ?_
      refine hTk 7 15 hHeld ?_
      refine hTk 8 16 hHeld ?_
      refine hTk 9 17 hHeld ?_
      refine hTk 10 18 hHeld ?_
      refine hNo 11 fun K hK => ?_
      go_simp
      go_at_call 128
      refine (tActivate_c B.tc B.tt B.to N D.T (actA l) _ (hN.out.drewN 1).tb hb (by omega) true hok).mono ?_
      rintro e w2 ⟨rfl, ht2, hf2⟩
      obtain ⟨n2, s2⟩ := (hN.out.drewN 1).setT ht2 hf2 (Nat.le_succ N)
      have Q2 : Hid (At3 w w2 p B Fc Fc c id (N + 1) (acD D l) l d0 d1 d2 kl kd R) := hide ((At3.mk hN.out hX.out (Step.of_below hB.out)).below (V' := V.drewN 1) (belowN (Below.refl _ _) 1) |>.step n2 s2)
      clear ht2 hf2 n2 s2 hX hB hN
      obtain ⟨a11, b3, b5, b4⟩ := And.intro Q2.out.n.at'.c11 (And.intro (lt_at Q2.out.x.l).c3 (And.intro (lt_at Q2.out.x.l).c5 (lt_at Q2.out.x.l).c4))
      refine hK.out _ _ ?_ fun hHeld => ?_
      · exact ⟨a11, b3, b5, b4⟩
      clear hK K
      try simp only [Act.put, za, zb, zc]
      refine hTk 12 20 hHeld ?_
      refine wpAnyH_done (by kernel_rfl) (NoPanic.normal ?_) _
      clear hHeld
      clear a11 b4
      go_wp2_with fail
      have a9 := Q2.out.n.at'.c9
      go_wp2_with fail
      refine wp_region_noPanic ?_
      refine wp_region_held_drew (S := (fun w' => w'.cell? ⟨kl, 5, none⟩ = some (.int .i64 l.w) ∧ w'.cell? ⟨p, 9, none⟩ = some (.int .i64 id))) (by kernel_rfl) ?_ (fun hHeld => ?_)
      · exact ⟨b5, a9⟩
      refine hTk 0 22 hHeld ?_
      refine hTk 1 23 hHeld ?_
      refine hTk 2 24 hHeld ?_
      refine hTk 3 25 hHeld ?_
      refine hTk 4 26 hHeld ?_
      refine hTk 5 27 hHeld ?_
      refine hVl 6 28 (.bool true) hHeld (fun wz hSw => ?_) ?_
      · try dsimp only at hSw
        go_simp
      refine wpAnyH_done (by kernel_rfl) (NoPanic.normal ?_) _
      clear hHeld
      clear a9
      go_wp2_with fail
      refine name_world ?_
      intro V3 hV3
      have Q3 : Hid (At3 w V3 p B Fc Fc c id (N + 1) (acD D l) l d0 d1 d2 kl kd R) := by rw [← hV3]; exact hide (Q2.out.below (belowN (Below.refl _ _) 1))
      clear hV3 b3 b5 Q2
      obtain ⟨a10, b3⟩ := And.intro Q3.out.n.at'.c10 (lt_at Q3.out.x.l).c3
      go_wp2_with fail
      refine wp_region_noPanic ?_
      refine wp_region_held_drew (S := (fun w' => w'.cell? ⟨p, 10, none⟩ = some (ptr B.ca) ∧ w'.cell? ⟨kl, 3, none⟩ = some (.int .i64 l.q))) (by kernel_rfl) ?_ (fun hHeld => ?_)
      · exact ⟨a10, b3⟩
      clear a10 b3
      refine hTk 0 29 hHeld ?_
      refine hTk 1 30 hHeld ?_
      refine hTk 2 31 hHeld ?_
      refine hTk 3 32 hHeld ?_
      refine hTk 4 33 hHeld ?_
      refine hTk 5 34 hHeld ?_
      refine hTk 6 35 hHeld ?_
      refine hTk 7 36 hHeld ?_
      refine hTk 8 37 hHeld ?_
      refine hTk 9 38 hHeld ?_
      refine hTk 10 39 hHeld ?_
      refine hTk 11 40 hHeld ?_
      have Q4 : Hid (At3 w V3.drew p B Fc Fc c id (N + 1) (acD D l) l d0 d1 d2 kl kd R) := hide (Q3.out.below (belowN (Below.refl _ _) 1))
      obtain ⟨w4, hw4⟩ : ∃ w4, V3.drew = w4 := ⟨_, rfl⟩
      rw [hw4] at hHeld Q4 ⊢
      clear hw4 Q3
      refine hTwo 12 15 (fun K hK => ?_) fun K hK => ?_
      · go_simp
        go_at_call 108
        refine (cGet_c B.ca Fc c.cs c.cy _ l.q D.C _ Q4.out.n.ca hb t ht).mono ?_
        rintro e w5 ⟨rfl, hbG⟩
        have Q5 := hide (Q4.out.below hbG)
        obtain ⟨a10, b3⟩ := And.intro Q5.out.n.at'.c10 (lt_at Q5.out.x.l).c3
        refine hK.out _ _ ?_ fun hHeld => ?_
        · exact ⟨a10, b3⟩
        clear hK K
        try simp only [Act.put, za, zb, zc]
        clear a10 b3
        refine hTk 13 42 hHeld ?_
        refine hTwo 14 15 (fun K hK => ?_) fun K hK => ?_
        · go_simp
          go_at_call 127
          refine (cTake_c B.ca Fc c.cs c.cy _ l.q t.n true true D.C _ Q5.out.n.ca hb (by omega) g C' hg hC).mono ?_
          rintro e w6 ⟨rfl, Fc6, hca6, hst6⟩
          obtain ⟨n6, s6⟩ := Q5.out.n.setC (M := N + 1) hca6 hst6 (Nat.le_refl _)
          have Q6 := hide (Q5.out.step n6 s6)
          obtain ⟨a10, b3⟩ := And.intro Q6.out.n.at'.c10 (lt_at Q6.out.x.l).c3
          refine hK.out _ _ ?_ fun hHeld => ?_
          · exact ⟨a10, b3⟩
          clear hK K
          try simp only [Act.put, za, zb, zc]
          clear a10 b3
          refine hNo 15 fun K hK => ?_
          go_simp
          have T7 := hide (tx_new Q6.out.x Q6.out.n.lt)
          have Q7 := hide (Q6.out.below (V' := w6.alloc (bunR bun0)) ((Below.refl _ _).alloc (Nat.le_refl _) _))
          obtain ⟨kt, ekt⟩ : ∃ kt, w6.heap.size = kt := ⟨_, rfl⟩
          obtain ⟨w7, ew⟩ : ∃ W, w6.alloc (bunR bun0) = W := ⟨_, rfl⟩
          rw [ew] at T7 Q7
          rw [ekt] at T7 ⊢
          dsimp only [bunR] at ew
          rw [ew]
          clear ew ekt
          obtain ⟨a10, b3⟩ := And.intro Q7.out.n.at'.c10 (lt_at Q7.out.x.l).c3
          refine hK.out _ _ ?_ fun hHeld => ?_
          · exact ⟨a10, b3⟩
          clear hK K
          try simp only [Act.put, za, zb, zc]
          have y0 : w7.cell? ⟨kt, 0, none⟩ = some (.int .i64 0) := cell_of_row _ _ _ _ _ _ T7.out.b
          have y1 : w7.cell? ⟨kt, 1, none⟩ = some (.bool false) := cell_of_row _ _ _ _ _ _ T7.out.b
          have y2 : w7.cell? ⟨kt, 2, none⟩ = some (.bool false) := cell_of_row _ _ _ _ _ _ T7.out.b
          have y3 : w7.cell? ⟨kt, 3, none⟩ = some (.int .i64 0) := cell_of_row _ _ _ _ _ _ T7.out.b
          have zt : ∀ i, w7.frozen? ⟨kt, i, none⟩ = false := fun i => frozen_of_row _ _ _ _ _ T7.out.b
          have hkp : kt ≠ p := fun e => T7.out.nf (e ▸ .inr (.inl rfl))
          have hkl := T7.out.n1
          have htl := T7.out.hi
          have b5 := (lt_at Q7.out.x.l).c5
          have hp7 := Q7.out.n.pl
          have hl7 := Q7.out.x.hi1
          have hpk : p ≠ kt := fun e => hkp e.symm
          have hlk : kl ≠ kt := fun e => hkl e.symm
          refine hNo 16 fun K hK => ?_
          go_simp
          refine hK.out _ _ ?_ fun hHeld => ?_
          · exact ⟨by simp [go_sem, *], by simp [go_sem, *]⟩
          clear hK K
          try simp only [Act.put, za, zb, zc]
          refine wpAnyH_done (by kernel_rfl) (NoPanic.normal ?_) _
          clear hHeld
          have Q8 := hide ((((Q7.out.setCell T7.out.lo T7.out.nf T7.out.n1 T7.out.n2 T7.out.n3 0 (.int .i64 g.n)).setCell T7.out.lo T7.out.nf T7.out.n1 T7.out.n2 T7.out.n3 1 (.bool g.o)).setCell T7.out.lo T7.out.nf T7.out.n1 T7.out.n2 T7.out.n3 2 (.bool g.h)).setCell T7.out.lo T7.out.nf T7.out.n1 T7.out.n2 T7.out.n3 3 (.int .i64 g.d))
          go_wp2_with (go_at_call 122; refine (ndSend_c p B Fc6 c id (N + 1) _ l.w l.q g _ Q8.out.n L hL').mono ?_; rintro e w9 ⟨v5, rfl, g5, ho5, hg5, hb5⟩; obtain ⟨ao5, cap5, e5, -⟩ := _root_.id ho5; subst e5; have Q9 := hide (Q8.out.below hb5); replace ho5 := hide ho5; replace hg5 := hide hg5; clear hb5; obtain ⟨r0, r1, z⟩ := or_at Q9.out.x.r; have hR9 := Q9.out.x.hi3)
          refine bodyPost_ret (v := .agg #[.slice ao5 L.length cap5, .slice none 0 0]) (by simp [results, Tryz.results84, go_sem, *]; done) rfl ⟨_, _, rfl, Fc6, g5, g5, ?_⟩
          have hg5' := hg5.out
          simp only [World.size_setCell] at hg5'
          have h4 := Q7.out.x.hi3
          have h5 := Q7.out.x.hi1
          have h6 := Q7.out.x.lo1
          exact out_fin Q9.out.x ho5.out (view_nilD _ _) (by omega) (by omega) (fun h => absurd rfl h) (by rw [eG]; exact Q9.out.n.mono (Nat.le_succ _)) Q9.out.s (fun e => by have := Q7.out.n.lt _ e; omega) (fun h => absurd rfl h)
        · go_simp
          have T6 := hide (tx_new Q5.out.x Q5.out.n.lt)
          have Q6 := hide (Q5.out.below (V' := w5.alloc (bunR bun0)) ((Below.refl _ _).alloc (Nat.le_refl _) _))
          obtain ⟨kt, ekt⟩ : ∃ kt, w5.heap.size = kt := ⟨_, rfl⟩
          obtain ⟨w6, ew⟩ : ∃ W, w5.alloc (bunR bun0) = W := ⟨_, rfl⟩
          rw [ew] at T6 Q6
          rw [ekt] at T6 ⊢
          dsimp only [bunR] at ew
          rw [ew]
          clear ew ekt
          obtain ⟨a10, b3⟩ := And.intro Q6.out.n.at'.c10 (lt_at Q6.out.x.l).c3
          refine hK.out _ _ ?_ fun hHeld => ?_
          · exact ⟨a10, b3⟩
          clear hK K
          try simp only [Act.put, za, zb, zc]
          clear a10 b3
          refine hNo 14 fun K hK => ?_
          go_simp
          go_at_call 127
          refine (cTake_c B.ca Fc c.cs c.cy _ l.q t.n true true D.C _ Q6.out.n.ca hb (by omega) g C' hg hC).mono ?_
          rintro e w7 ⟨rfl, Fc6, hca6, hst6⟩
          obtain ⟨n6, s6⟩ := Q6.out.n.setC (M := N + 1) hca6 hst6 (Nat.le_refl _)
          have Q7 := hide (Q6.out.step n6 s6)
          obtain ⟨a10, b3⟩ := And.intro Q7.out.n.at'.c10 (lt_at Q7.out.x.l).c3
          have T7 := hide (T6.out.step s6)
          refine hK.out _ _ ?_ fun hHeld => ?_
          · exact ⟨a10, b3⟩
          clear hK K
          try simp only [Act.put, za, zb, zc]
          have y0 : w7.cell? ⟨kt, 0, none⟩ = some (.int .i64 0) := cell_of_row _ _ _ _ _ _ T7.out.b
          have y1 : w7.cell? ⟨kt, 1, none⟩ = some (.bool false) := cell_of_row _ _ _ _ _ _ T7.out.b
          have y2 : w7.cell? ⟨kt, 2, none⟩ = some (.bool false) := cell_of_row _ _ _ _ _ _ T7.out.b
          have y3 : w7.cell? ⟨kt, 3, none⟩ = some (.int .i64 0) := cell_of_row _ _ _ _ _ _ T7.out.b
          have zt : ∀ i, w7.frozen? ⟨kt, i, none⟩ = false := fun i => frozen_of_row _ _ _ _ _ T7.out.b
          have hkp : kt ≠ p := fun e => T7.out.nf (e ▸ .inr (.inl rfl))
          have hkl := T7.out.n1
          have htl := T7.out.hi
          have b5 := (lt_at Q7.out.x.l).c5
          have hp7 := Q7.out.n.pl
          have hl7 := Q7.out.x.hi1
          have hpk : p ≠ kt := fun e => hkp e.symm
          have hlk : kl ≠ kt := fun e => hkl e.symm
          refine hNo 16 fun K hK => ?_
          go_simp
          refine hK.out _ _ ?_ fun hHeld => ?_
          · exact ⟨by simp [go_sem, *], by simp [go_sem, *]⟩
          clear hK K
          try simp only [Act.put, za, zb, zc]
          refine wpAnyH_done (by kernel_rfl) (NoPanic.normal ?_) _
          clear hHeld
          have Q8 := hide ((((Q7.out.setCell T7.out.lo T7.out.nf T7.out.n1 T7.out.n2 T7.out.n3 0 (.int .i64 g.n)).setCell T7.out.lo T7.out.nf T7.out.n1 T7.out.n2 T7.out.n3 1 (.bool g.o)).setCell T7.out.lo T7.out.nf T7.out.n1 T7.out.n2 T7.out.n3 2 (.bool g.h)).setCell T7.out.lo T7.out.nf T7.out.n1 T7.out.n2 T7.out.n3 3 (.int .i64 g.d))
          go_wp2_with (go_at_call 122; refine (ndSend_c p B Fc6 c id (N + 1) _ l.w l.q g _ Q8.out.n L hL').mono ?_; rintro e w9 ⟨v5, rfl, g5, ho5, hg5, hb5⟩; obtain ⟨ao5, cap5, e5, -⟩ := _root_.id ho5; subst e5; have Q9 := hide (Q8.out.below hb5); replace ho5 := hide ho5; replace hg5 := hide hg5; clear hb5; obtain ⟨r0, r1, z⟩ := or_at Q9.out.x.r; have hR9 := Q9.out.x.hi3)
          refine bodyPost_ret (v := .agg #[.slice ao5 L.length cap5, .slice none 0 0]) (by simp [results, Tryz.results84, go_sem, *]; done) rfl ⟨_, _, rfl, Fc6, g5, g5, ?_⟩
          have hg5' := hg5.out
          simp only [World.size_setCell] at hg5'
          have h4 := Q7.out.x.hi3
          have h5 := Q7.out.x.hi1
          have h6 := Q7.out.x.lo1
          exact out_fin Q9.out.x ho5.out (view_nilD _ _) (by omega) (by omega) (fun h => absurd rfl h) (by rw [eG]; exact Q9.out.n.mono (Nat.le_succ _)) Q9.out.s (fun e => by have := Q7.out.n.lt _ e; omega) (fun h => absurd rfl h)
      · go_simp
        have T5 := hide (tx_new Q4.out.x Q4.out.n.lt)
        have Q5 := hide (Q4.out.below (V' := w4.alloc (bunR bun0)) ((Below.refl _ _).alloc (Nat.le_refl _) _))
        obtain ⟨kt, ekt⟩ : ∃ kt, w4.heap.size = kt := ⟨_, rfl⟩
        obtain ⟨w5, ew⟩ : ∃ W, w4.alloc (bunR bun0) = W := ⟨_, rfl⟩
        rw [ew] at T5 Q5
        rw [ekt] at T5 ⊢
        dsimp only [bunR] at ew
        rw [ew]
        clear ew ekt
        obtain ⟨a10, b3⟩ := And.intro Q5.out.n.at'.c10 (lt_at Q5.out.x.l).c3
        refine hK.out _ _ ?_ fun hHeld => ?_
        · exact ⟨a10, b3⟩
        clear hK K
        try simp only [Act.put, za, zb, zc]
        clear a10 b3
        refine hNo 12 fun K hK => ?_
        go_simp
        go_at_call 108
        refine (cGet_c B.ca Fc c.cs c.cy _ l.q D.C _ Q5.out.n.ca hb t ht).mono ?_
        rintro e w6 ⟨rfl, hbG⟩
        have Q6 := hide (Q5.out.below hbG)
        obtain ⟨a10, b3⟩ := And.intro Q6.out.n.at'.c10 (lt_at Q6.out.x.l).c3
        have T6 := hide (T5.out.step (Step.of_below hbG))
        refine hK.out _ _ ?_ fun hHeld => ?_
        · exact ⟨a10, b3⟩
        clear hK K
        try simp only [Act.put, za, zb, zc]
        clear a10 b3
        refine hTk 13 42 hHeld ?_
        refine hNo 14 fun K hK => ?_
        go_simp
        go_at_call 127
        refine (cTake_c B.ca Fc c.cs c.cy _ l.q t.n true true D.C _ Q6.out.n.ca hb (by omega) g C' hg hC).mono ?_
        rintro e w7 ⟨rfl, Fc6, hca6, hst6⟩
        obtain ⟨n6, s6⟩ := Q6.out.n.setC (M := N + 1) hca6 hst6 (Nat.le_refl _)
        have Q7 := hide (Q6.out.step n6 s6)
        obtain ⟨a10, b3⟩ := And.intro Q7.out.n.at'.c10 (lt_at Q7.out.x.l).c3
        have T7 := hide (T6.out.step s6)
        refine hK.out _ _ ?_ fun hHeld => ?_
        · exact ⟨a10, b3⟩
        clear hK K
        try simp only [Act.put, za, zb, zc]
        have y0 : w7.cell? ⟨kt, 0, none⟩ = some (.int .i64 0) := cell_of_row _ _ _ _ _ _ T7.out.b
        have y1 : w7.cell? ⟨kt, 1, none⟩ = some (.bool false) := cell_of_row _ _ _ _ _ _ T7.out.b
        have y2 : w7.cell? ⟨kt, 2, none⟩ = some (.bool false) := cell_of_row _ _ _ _ _ _ T7.out.b
        have y3 : w7.cell? ⟨kt, 3, none⟩ = some (.int .i64 0) := cell_of_row _ _ _ _ _ _ T7.out.b
        have zt : ∀ i, w7.frozen? ⟨kt, i, none⟩ = false := fun i => frozen_of_row _ _ _ _ _ T7.out.b
        have hkp : kt ≠ p := fun e => T7.out.nf (e ▸ .inr (.inl rfl))
        have hkl := T7.out.n1
        have htl := T7.out.hi
        have b5 := (lt_at Q7.out.x.l).c5
        have hp7 := Q7.out.n.pl
        have hl7 := Q7.out.x.hi1
        have hpk : p ≠ kt := fun e => hkp e.symm
        have hlk : kl ≠ kt := fun e => hkl e.symm
        refine hNo 16 fun K hK => ?_
        go_simp
        refine hK.out _ _ ?_ fun hHeld => ?_
        · exact ⟨by simp [go_sem, *], by simp [go_sem, *]⟩
        clear hK K
        try simp only [Act.put, za, zb, zc]
        refine wpAnyH_done (by kernel_rfl) (NoPanic.normal ?_) _
        clear hHeld
        have Q8 := hide ((((Q7.out.setCell T7.out.lo T7.out.nf T7.out.n1 T7.out.n2 T7.out.n3 0 (.int .i64 g.n)).setCell T7.out.lo T7.out.nf T7.out.n1 T7.out.n2 T7.out.n3 1 (.bool g.o)).setCell T7.out.lo T7.out.nf T7.out.n1 T7.out.n2 T7.out.n3 2 (.bool g.h)).setCell T7.out.lo T7.out.nf T7.out.n1 T7.out.n2 T7.out.n3 3 (.int .i64 g.d))
        go_wp2_with (go_at_call 122; refine (ndSend_c p B Fc6 c id (N + 1) _ l.w l.q g _ Q8.out.n L hL').mono ?_; rintro e w9 ⟨v5, rfl, g5, ho5, hg5, hb5⟩; obtain ⟨ao5, cap5, e5, -⟩ := _root_.id ho5; subst e5; have Q9 := hide (Q8.out.below hb5); replace ho5 := hide ho5; replace hg5 := hide hg5; clear hb5; obtain ⟨r0, r1, z⟩ := or_at Q9.out.x.r; have hR9 := Q9.out.x.hi3)
        refine bodyPost_ret (v := .agg #[.slice ao5 L.length cap5, .slice none 0 0]) (by simp [results, Tryz.results84, go_sem, *]; done) rfl ⟨_, _, rfl, Fc6, g5, g5, ?_⟩
        have hg5' := hg5.out
        simp only [World.size_setCell] at hg5'
        have h4 := Q7.out.x.hi3
        have h5 := Q7.out.x.hi1
        have h6 := Q7.out.x.lo1
        exact out_fin Q9.out.x ho5.out (view_nilD _ _) (by omega) (by omega) (fun h => absurd rfl h) (by rw [eG]; exact Q9.out.n.mono (Nat.le_succ _)) Q9.out.s (fun e => by have := Q7.out.n.lt _ e; omega) (fun h => absurd rfl h)
end Go.Proofs.YtoenjdnccgmhoaaGreatDoor
