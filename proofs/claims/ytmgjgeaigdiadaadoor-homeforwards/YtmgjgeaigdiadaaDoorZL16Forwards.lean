/- layer 16: Env16c L16Forwards, put together. -/
import Derived.Test.YtmgjgeaigdiadaaDoorB43
import Derived.Test.YtmgjgeaigdiadaaDoorB18
import Derived.Test.YtmgjgeaigdiadaaDoorB22
import Derived.Test.YtmgjgeaigdiadaaDoorZHrMath
import Derived.Test.YtmgjgeaigdiadaaDoorB13
namespace Go.Proofs.YtmgjgeaigdiadaaDoor
open Go.ChangeShapes Go.WideShapes Go.ChangeAt Go.RowKit
set_option linter.unusedSimpArgs false
set_option linter.unusedVariables false
set_option maxRecDepth 10000
attribute [local go_sem, local simp] over_const setCell_drewN alloc_drewN Over.cell Over.frozen lt_s1 lt_s2 lt_s3 le_s0 le_s1 le_s2 le_s3 eq_s0 eq_s1 eq_s2 qe_s0
structure Hoz (w V : World) (p : Nat) (B : Bh) (F : Nat → Prop) (c : Cf) (N : Nat) (D : Hm) (K : List (Nat × Obj)) : Prop where
  a : Hone w V p B F c N D
  x : Bz w V (Fh p B F) K
theorem Hdz.one {w V : World} {p : Nat} {B : Bh} {F : Nat → Prop} {q : Nat} {Bq : Bd} {G : Nat → Prop} {c : Cf} {N : Nat} {D : Hm} {K : List (Nat × Obj)} (h : Hdz w V p B F q Bq G c N D K) : Hoz w V p B F c N D K :=
  ⟨h.d.a, fun x hx => by
    obtain ⟨q1, q2, q3, q4⟩ := h.x x hx
    exact ⟨q1, q2, fun e => q3 (.inl e), q4⟩⟩
section
variable {w V V' : World} {p : Nat} {B : Bh} {F F2 : Nat → Prop} {c : Cf} {N M : Nat} {D D2 : Hm} {K : List (Nat × Obj)}
theorem Hoz.below (h : Hoz w V p B F c N D K) (hb : Below V.heap.size V V') : Hoz w V' p B F c N D K := ⟨h.a.below hb, h.x.step (Step.of_below hb)⟩
theorem Hoz.new (h : Hoz w V p B F c N D K) (o : Obj) : Hoz w (V.alloc o) p B F c N D ((V.heap.size, o) :: K) := by
  have h2 := h.below (V' := V.alloc o) ((Below.refl _ _).alloc (Nat.le_refl _) _)
  refine ⟨h2.a, fun x hx => ?_⟩
  rcases List.mem_cons.1 hx with rfl | hx
  · exact ⟨h.a.bel.size, by simp, fun e => by have := h.a.n.lt _ e; omega, heap_alloc_new _ _⟩
  · exact h2.x x hx
theorem Hoz.step (h : Hoz w V p B F c N D K) (hn : HmIs V' p B F2 c M D2) (hs : Step (Fh p B F) (Fh p B F2) V V') : Hoz w V' p B F2 c M D2 K := ⟨h.a.step hn hs, h.x.step hs⟩
theorem Hoz.head {k : Nat} {cs : Array Value} {T : TypeId} (h : Hoz w V p B F c N D ((k, .cells cs T (0, 0)) :: K)) (hk : ∀ x ∈ K, x.1 ≠ k) (i : Nat) (u : Value) : Hoz w (V.setCell ⟨k, i, none⟩ u) p B F c N D ((k, .cells (cs.setIfInBounds i u) T (0, 0)) :: K) := by
  obtain ⟨h1, h2, h3, h4⟩ := h.x (k, .cells cs T (0, 0)) (by simp)
  have hf : FrS (· = k) V (V.setCell ⟨k, i, none⟩ u) := wrK (FrS.refl _ _) u
  refine ⟨h.a.frk hf h1 h3, fun x hx => ?_⟩
  rcases List.mem_cons.1 hx with rfl | hx
  · exact ⟨h1, by simpa using h2, h3, heap_setCell_same _ _ _ _ _ _ h4⟩
  · obtain ⟨q1, q2, q3, q4⟩ := h.x x (by simp [hx])
    exact ⟨q1, by simpa using q2, q3, (Below.heap_setCell _ _ _ _ (hk x hx)).trans q4⟩
theorem Hoz.frs {Fx : Nat → Prop} (h : Hoz w V p B F c N D K) (hf : FrS Fx V V') (h0 : ∀ i, Fx i → w.heap.size ≤ i) (hF : ∀ b, Fh p B F b → ¬ Fx b) (hK : ∀ x ∈ K, ¬ Fx x.1) : Hoz w V' p B F c N D K :=
  ⟨⟨h.a.n.fr hf hF, h.a.lo, h.a.bel.trans (hf.below h0 h.a.bel.size)⟩, fun x hx => by
    obtain ⟨q1, q2, q3, q4⟩ := h.x x hx
    exact ⟨q1, Nat.lt_of_lt_of_le q2 hf.size, q3, (hf.block _ q2 (hK x hx)).trans q4⟩⟩
theorem Hoz.sub {K' : List (Nat × Obj)} (h : Hoz w V p B F c N D K) (hK : ∀ x ∈ K', x ∈ K) : Hoz w V p B F c N D K' := ⟨h.a, fun x hx => h.x x (hK x hx)⟩
end
set_option maxHeartbeats 4000000 in
theorem fwdNo_walk (c : Cf) (node : Int) (ao : Option Addr) (n cap : Nat) (w : World) (hT : Hid (Tab w)) (hn : n ≤ 9223372036854775807) (hno : ¬ (cfgZ c.n c.bl c.tt c.cs c.cy c.cc c.cu c.ct c.cp = 0 ∧ n ≤ 200)) : Calls Tryd.prog 5 #[.agg #[.int .i64 c.n, .int .i64 c.bl, .int .i64 c.tt, .int .i64 c.cs, .int .i64 c.cy, .int .i64 c.cc, .int .i64 c.cu, .int .i64 c.ct, .int .i64 c.cp], .int .i64 node, .slice ao n cap] w fun e w' => e = .returned (.bool true) ∧ Below w.heap.size w w' := by
  have hno' := hide hno
  have hn' := hide hn
  clear hno hn
  go_enter Tryd.func5, Tryd.ntmps5
  go_upto_region 1 with fail
  refine name_world ?_
  intro V hV
  have hB : Hid (Below w.heap.size w V) := by rw [← hV]; exact hide (by all_goals exact belEnd)
  have hX : Hid (V.heap[w.heap.size]? = some (cfR c)) := by rw [← hV]; exact hide (heap_alloc_new w (cfR c))
  clear hV
  obtain ⟨kc, hkc⟩ : ∃ k, Hid (w.heap.size = k) := ⟨_, hide rfl⟩
  rw [hkc.out] at hX
  rw [hkc.out]
  obtain ⟨c0, c1, c2, c3, c4, c5, c6, c7, c8⟩ := cf_at hX.out
  have lc : kc < V.heap.size := (Array.getElem?_eq_some_iff.1 hX.out).1
  go_wp2_with (first | (go_at_call 9; refine (madeNo_c c ao n cap _ hno'.out hn'.out).mono ?_; rintro e w1 ⟨rfl, hb1⟩; obtain ⟨x, rfl⟩ := over hb1; clear hb1; have f1 := x.upB kc) | (go_at_call 10; refine (awake16_c _ (hide (hT.out.lowH (hB.out.trans (Below.mono (B := V.heap.size) (by all_goals exact belEnd) hB.out.size))))).mono ?_; rintro e w2 ⟨rfl, hb2⟩; obtain ⟨y, rfl⟩ := over2 hb2; clear hb2; have f2 := y.upB kc))
  go_ret
  refine ⟨rfl, ?_⟩
  exact hB.out.trans (Below.mono (B := V.heap.size) (by all_goals exact belEnd) hB.out.size)
set_option maxHeartbeats 8000000 in
theorem fwdBad_walk (c : Cf) (node : Int) (ao : Option Addr) (n cap : Nat) (w : World) (hT : Hid (Tab w)) (h0 : Hid (cfgZ c.n c.bl c.tt c.cs c.cy c.cc c.cu c.ct c.cp = 0)) (hlen : Hid (n ≤ 200)) (hno : Hid (nodeB node c.n = false)) : Calls Tryd.prog 5 #[.agg #[.int .i64 c.n, .int .i64 c.bl, .int .i64 c.tt, .int .i64 c.cs, .int .i64 c.cy, .int .i64 c.cc, .int .i64 c.cu, .int .i64 c.ct, .int .i64 c.cp], .int .i64 node, .slice ao n cap] w fun e w' => e = .returned (.bool true) ∧ Below w.heap.size w w' := by
  go_enter Tryd.func5, Tryd.ntmps5
  go_upto_region 1 with fail
  refine name_world ?_
  intro V hV
  have hB : Hid (Below w.heap.size w V) := by rw [← hV]; exact hide (by all_goals exact belEnd)
  have hX : Hid (V.heap[w.heap.size]? = some (cfR c)) := by rw [← hV]; exact hide (heap_alloc_new w (cfR c))
  clear hV
  obtain ⟨kc, hkc⟩ : ∃ k, Hid (w.heap.size = k) := ⟨_, hide rfl⟩
  rw [hkc.out] at hX
  rw [hkc.out]
  obtain ⟨c0, c1, c2, c3, c4, c5, c6, c7, c8⟩ := cf_at hX.out
  have lc : kc < V.heap.size := (Array.getElem?_eq_some_iff.1 hX.out).1
  go_upto_region 2 with (go_at_call 9; refine (madeOk_c c _ n _ _ h0 hlen.out).mono ?_; rintro e w1 ⟨p, q, rfl, B, F, Bq, G, hd1⟩; replace hd1 := hide hd1; clear c0 c1 c2 c3 c4 c5 c6 c7 c8 lc)
  have P1 : Hid (Hdz w w1 p B F q Bq G c 0 (hm0 c) [(kc, cfR c)]) := hide (made_hdz hB.out hd1.out hX.out (by rw [hkc.out]; exact Nat.le_refl _))
  clear hd1 hX hB
  go_wp2_with fail
  go_at_call 10
  refine (awake16_c _ (hide (hT.out.lowH P1.out.d.a.bel))).mono ?_
  rintro e w2 ⟨rfl, hb2⟩
  have P2 := hide (P1.out.below hb2)
  clear hb2 P1
  have Q2 := hide P2.out.one
  clear P2
  obtain ⟨c0, c1, c2, c3, c4, c5, c6, c7, c8⟩ := cf_at (bz_get Q2.out.x (k := kc) (o := cfR c) (by simp)).2
  have lc := (bz_get Q2.out.x (k := kc) (o := cfR c) (by simp)).1
  go_wp2_with (first | (go_at_call 24; refine (refNode_c c.n c.bl c.tt c.cs c.cy c.cc c.cu c.ct c.cp node _ false hno).mono ?_; rintro e w3 ⟨rfl, hb3⟩; have Q3 := hide (Q2.out.below hb3); clear hb3) | (go_at_call 10; refine (awake16_c _ (hide (hT.out.lowH Q3.out.a.bel))).mono ?_; rintro e w4 ⟨rfl, hb4⟩; have Q4 := hide (Q3.out.below hb4); clear hb4))
  go_ret
  exact ⟨rfl, Q4.out.a.bel⟩
set_option maxHeartbeats 8000000 in
theorem fwdOk_walk (c : Cf) (node : Int) (ao : Option Addr) (cap : Nat) (A : List Ac) (w : World) (hT : Hid (Tab w)) (hA : Hid (ActsAt w.heap.size w (.slice ao A.length cap) A)) (hlen : Hid (A.length ≤ 200)) (h0 : Hid (cfgZ c.n c.bl c.tt c.cs c.cy c.cc c.cu c.ct c.cp = 0)) (hnd : Hid (nodeB node c.n = true)) : Calls Tryd.prog 5 #[.agg #[.int .i64 c.n, .int .i64 c.bl, .int .i64 c.tt, .int .i64 c.cs, .int .i64 c.cy, .int .i64 c.cc, .int .i64 c.cu, .int .i64 c.ct, .int .i64 c.cp], .int .i64 node, .slice ao A.length cap] w fun e w' => e = .returned (.bool true) ∧ Below w.heap.size w w' := by
  have hma : A.length ≤ 9223372036854775807 := by have := hlen.out; omega
  have hAI := hide (acts_i64 hA.out)
  go_enter Tryd.func5, Tryd.ntmps5
  go_upto_region 1 with fail
  refine name_world ?_
  intro V hV
  have hB : Hid (Below w.heap.size w V) := by rw [← hV]; exact hide (by all_goals exact belEnd)
  have hX : Hid (V.heap[w.heap.size]? = some (cfR c)) := by rw [← hV]; exact hide (heap_alloc_new w (cfR c))
  clear hV
  obtain ⟨kc, hkc⟩ : ∃ k, Hid (w.heap.size = k) := ⟨_, hide rfl⟩
  rw [hkc.out] at hX
  rw [hkc.out]
  obtain ⟨c0, c1, c2, c3, c4, c5, c6, c7, c8⟩ := cf_at hX.out
  have lc : kc < V.heap.size := (Array.getElem?_eq_some_iff.1 hX.out).1
  go_upto_region 2 with (go_at_call 9; refine (madeOk_c c _ A.length _ _ h0 hlen.out).mono ?_; rintro e w1 ⟨p, q, rfl, B, F, Bq, G, hd1⟩; replace hd1 := hide hd1; clear c0 c1 c2 c3 c4 c5 c6 c7 c8 lc)
  have P1 : Hid (Hdz w w1 p B F q Bq G c 0 (hm0 c) [(kc, cfR c)]) := hide (made_hdz hB.out hd1.out hX.out (by rw [hkc.out]; exact Nat.le_refl _))
  clear hd1 hX hB
  go_wp2_with fail
  go_at_call 10
  refine (awake16_c _ (hide (hT.out.lowH P1.out.d.a.bel))).mono ?_
  rintro e w2 ⟨rfl, hb2⟩
  have P2 := hide (P1.out.below hb2)
  clear hb2 P1
  have Q2 := hide P2.out.one
  clear P2
  have hok := hide Q2.out.a.n.ok
  obtain ⟨c0, c1, c2, c3, c4, c5, c6, c7, c8⟩ := cf_at (bz_get Q2.out.x (k := kc) (o := cfR c) (by simp)).2
  have lc := (bz_get Q2.out.x (k := kc) (o := cfR c) (by simp)).1
  obtain ⟨L0, hL0⟩ : ∃ L, Hid (htL c (hm0 c) ⟨3, node, c.n, 0, 0, 0, false, 0, false, false, 0⟩ 0 0 = L) := ⟨_, rfl⟩
  obtain ⟨D, hD⟩ : ∃ L, Hid (nxHT c (hm0 c) ⟨3, node, c.n, 0, 0, 0, false, 0, false, false, 0⟩ 0 0 = L) := ⟨_, rfl⟩
  have hfw : Hid (FwdH D node) := hide (by rw [← hD.out]; have := nodeB_true.1 hnd.out; exact fwd_first hok.out this.1 this.2)
  go_wp2_with (go_at_call 24; refine (refNode_c c.n c.bl c.tt c.cs c.cy c.cc c.cu c.ct c.cp node _ true hnd).mono ?_; rintro e w3 ⟨rfl, hb3⟩; have Q3 := hide (Q2.out.below hb3); clear hb3 c0 c1 c2 c3 c4 c5 c6 c7 c8 lc; obtain ⟨c0, c1, c2, c3, c4, c5, c6, c7, c8⟩ := cf_at (bz_get Q3.out.x (k := kc) (o := cfR c) (by simp)).2; have lc := (bz_get Q3.out.x (k := kc) (o := cfR c) (by simp)).1)
  go_at_call 13
  refine (hmTake_c p B F c 0 (hm0 c) ⟨3, node, c.n, 0, 0, 0, false, 0, false, false, 0⟩ 0 0 0 _ Q3.out.a.n (hide (hT.out.lowH Q3.out.a.bel)) (hide (Q3.out.a.no0 hT.out)) (by decide) (i64_of_small (x := 3) (by decide) (by decide)) L0 hL0).mono ?_
  rintro e w4 ⟨v4, rfl, F4, g4, hO⟩
  rw [hD.out] at hO
  have Q4 := hide (Q3.out.step hO.nd hO.st)
  clear hO Q3 hL0 hD c0 c1 c2 c3 c4 c5 c6 c7 c8 lc
  go_wp2_with fail
  go_loopw [43] (fun i wr => ∃ (j : Nat) (F : Nat → Prop) (N : Nat), i = .int .i64 j ∧ j ≤ A.length ∧ N ≤ j + 1 ∧ Hoz w wr p B F c N D [(kc, cfR c)]) (fun i _ => A.length - (intOf i).toNat)
  case atStart => exact ⟨0, _, _, rfl, Nat.zero_le _, by omega, Q4.out⟩
  case round =>
    clear Q4
    obtain ⟨j, F, N, rfl, hj, hN, Q6⟩ := hrel
    replace Q6 := hide Q6
    replace hN := hide hN
    by_cases hlt : j < A.length
    · have hlt' : (j : Int) < A.length := by omega
      have hN6 : Hid (N + 8 ≤ 100000) := hide (by have := hN.out; have := hlen.out; omega)
      obtain ⟨b, o', rfl, hbB, hbl, hra⟩ := acts_range (hA.out.below Q6.out.a.bel) hlt
      obtain ⟨y, hy⟩ : ∃ y, A[j] = y := ⟨_, rfl⟩
      have hyk : Hid (I64 y.l.k) := hide (by rw [← hy]; exact hAI.out _ (List.getElem_mem hlt))
      rw [hy] at hra
      clear hy
      · skip
        go_upto_region 7 with fail
        go_step
        go_step
        go_step
        go_step
        refine wpList_load_mid (by rfl) _ _ (by rfl) b (o' + j * 15) (by rfl) (actC y) _ hra Tryd.underlying37 (by rfl) (by exact infoAc) ?_
        clear hra
        go_step
        go_step
        go_step
        refine wpList_store_new _ _ (by rfl) (by rfl) (by rfl) (by rfl) (by exact infoAc) (by rfl) (actC_one y) ?_
        obtain ⟨V7, hV7⟩ : ∃ V, wr.alloc (.cells (actC y).toArray 37) = V := ⟨_, rfl⟩
        have Q7 : Hid (Hoz w V7 p B F c N D [(wr.heap.size, actsO y), (kc, cfR c)]) := by rw [← hV7]; exact hide (Q6.out.new (actsO y))
        rw [hV7]
        clear hV7
        obtain ⟨ka, hka⟩ : ∃ k, Hid (wr.heap.size = k) := ⟨_, hide rfl⟩
        rw [hka.out] at Q7
        rw [hka.out]
        clear Q6
        obtain ⟨a0, a1, a2, a3, a4, a5, a6, a7, a8, a9, a10, a11, a12, a13, a14⟩ := acts_at (bz_get Q7.out.x (k := ka) (o := actsO y) (by simp)).2
        have hka2 := (bz_get Q7.out.x (k := ka) (o := actsO y) (by simp)).1
        have Q8 : Hid (Hoz w (V7.alloc (ltR y.l)) p B F c N D [(V7.heap.size, ltR y.l), (ka, actsO y), (kc, cfR c)]) := hide (Q7.out.new (ltR y.l))
        obtain ⟨ky, hky0⟩ : ∃ k, Hid (V7.heap.size = k) := ⟨_, hide rfl⟩
        rw [hky0.out] at Q8
        go_upto_region 9 with fail
        rw [hky0.out]
        obtain ⟨V8, hV8⟩ : ∃ V, V7.alloc (ltR y.l) = V := ⟨_, rfl⟩
        rw [hV8] at Q8
        dsimp only [ltR] at hV8
        rw [hV8]
        clear hV8 Q7 a0 a1 a2 a3 a4 a5 a6 a7 a8 a9 a10 a11 a12 a13 a14 hka2 hky0
        obtain ⟨b0, b1, b2, b3, b4, b5, b6, b7, b8, b9, b10⟩ := lt_at (bz_get Q8.out.x (k := ky) (o := ltR y.l) (by simp)).2
        obtain ⟨-, -, -, -, -, -, -, -, -, -, -, a11, a12, a13, -⟩ := acts_at (bz_get Q8.out.x (k := ka) (o := actsO y) (by simp)).2
        have hky := (bz_get Q8.out.x (k := ky) (o := ltR y.l) (by simp)).1
        have hka2 := (bz_get Q8.out.x (k := ka) (o := actsO y) (by simp)).1
        obtain ⟨c0, c1, c2, c3, c4, c5, c6, c7, c8⟩ := cf_at (bz_get Q8.out.x (k := kc) (o := cfR c) (by simp)).2
        have hkc2 := (bz_get Q8.out.x (k := kc) (o := cfR c) (by simp)).1
        obtain ⟨z, hz⟩ : ∃ z, Hid (letterZ c.n c.bl c.tt ⟨y.l.k, y.l.a, y.l.b, y.l.q, y.l.s, y.l.w, y.l.r, ⟨y.l.n, y.l.o, y.l.h, y.l.d⟩⟩ = z) := ⟨_, rfl⟩
        by_cases hq0 : y.l.q = 0
        · obtain ⟨t1, t2, t3⟩ := cmpT hq0
          by_cases hk : y.l.k = 1 ∨ y.l.k = 2
          · by_cases ez : z = 0
            · obtain ⟨z1, z2, z3⟩ := cmpT ez
              by_cases eb : y.l.b = c.n
              · obtain ⟨f1, f2, f3⟩ := cmpT eb
                have hle0 : lerr c y.l = 0 := by rw [← hz.out] at ez; exact ez
                have hn1 : y.l.k = 1 → 1 ≤ y.l.n := fun e => (lerr_tok hle0 e).2.1
                replace ez := hide ez
                rcases hk with ek | ek
                · obtain ⟨L, hL⟩ : ∃ L, Hid (htL c D y.l y.d0 y.d1 = L) := ⟨_, rfl⟩
                  obtain ⟨s1, s2, s3⟩ := fwd_math (c := c) (d0 := y.d0) (d1 := y.d1) hfw.out hq0 (.inl ek) hle0 eb hn1
                  rw [hL.out] at s1 s2
                  have hDD := hide s3
                  clear s3
                  replace hq0 := hide hq0
                  replace eb := hide eb
                  replace hle0 := hide hle0
                  have s1' := s1 ek
                  subst s1'
                  clear s1 s2 hn1
                  obtain ⟨m1, n1, o1⟩ := cmpT ek
                  obtain ⟨m2, n2, o2⟩ := cmpF (show ¬ y.l.k = 2 by omega)
                  replace ek := hide ek
                  go_wp2_with (go_at_call 23; refine (refCheck_c c.n c.bl c.tt c.cs c.cy c.cc c.cu c.ct c.cp y.l.k y.l.a y.l.b y.l.q y.l.s y.l.w y.l.r y.l.n y.l.o y.l.h y.l.d _ z hz).mono ?_; rintro e w9 ⟨rfl, hb9⟩; have Q9 := hide (Q8.out.below hb9); clear hb9 Q8; clear b0 b1 b2 b3 b4 b5 b6 b7 b8 b9 b10 a11 a12 a13 hky hka2 c0 c1 c2 c3 c4 c5 c6 c7 c8 hkc2; obtain ⟨b0, b1, b2, b3, b4, b5, b6, b7, b8, b9, b10⟩ := lt_at (bz_get Q9.out.x (k := ky) (o := ltR y.l) (by simp)).2; obtain ⟨-, -, -, -, -, -, -, -, -, -, -, a11, a12, a13, -⟩ := acts_at (bz_get Q9.out.x (k := ka) (o := actsO y) (by simp)).2; have hky := (bz_get Q9.out.x (k := ky) (o := ltR y.l) (by simp)).1; have hka2 := (bz_get Q9.out.x (k := ka) (o := actsO y) (by simp)).1; obtain ⟨c0, c1, c2, c3, c4, c5, c6, c7, c8⟩ := cf_at (bz_get Q9.out.x (k := kc) (o := cfR c) (by simp)).2; have hkc2 := (bz_get Q9.out.x (k := kc) (o := cfR c) (by simp)).1)
                  go_at_call 13
                  refine (hmTake_c p B F c N D y.l y.d0 y.d1 y.d2 _ Q9.out.a.n (hide (hT.out.lowH Q9.out.a.bel)) (hide (Q9.out.a.no0 hT.out)) (by have := hN6.out; omega) hyk.out _ hL).mono ?_
                  rintro e w10 ⟨v10, rfl, F10, g10, hO⟩
                  rw [hDD.out] at hO
                  obtain ⟨ao10, cap10, e10, -⟩ := _root_.id hO.own
                  have e10' : v10 = .slice ao10 1 cap10 := e10
                  subst e10'
                  have Q10 := hide (Q9.out.step hO.nd hO.st)
                  have ow10 := hide hO.own
                  clear hO Q9 e10
                  clear b0 b1 b2 b3 b4 b5 b6 b7 b8 b9 b10 a11 a12 a13 hky hka2 c0 c1 c2 c3 c4 c5 c6 c7 c8 hkc2
                  obtain ⟨b0, b1, b2, b3, b4, b5, b6, b7, b8, b9, b10⟩ := lt_at (bz_get Q10.out.x (k := ky) (o := ltR y.l) (by simp)).2
                  obtain ⟨-, -, -, -, -, -, -, -, -, -, -, a11, a12, a13, -⟩ := acts_at (bz_get Q10.out.x (k := ka) (o := actsO y) (by simp)).2
                  have hky := (bz_get Q10.out.x (k := ky) (o := ltR y.l) (by simp)).1
                  have hka2 := (bz_get Q10.out.x (k := ka) (o := actsO y) (by simp)).1
                  obtain ⟨c0, c1, c2, c3, c4, c5, c6, c7, c8⟩ := cf_at (bz_get Q10.out.x (k := kc) (o := cfR c) (by simp)).2
                  have hkc2 := (bz_get Q10.out.x (k := kc) (o := cfR c) (by simp)).1
                  have hv11 := hide (view_oneT w10 ⟨1, c.n, node, 0, 0, 0, false, y.l.n, y.l.o, y.l.h, y.l.d⟩)
                  go_wp2_with fail
                  go_at_call 12
                  refine (sameT_c _ _ g10 w10.heap.size _ _ (ow10.out.alloc _).view hv11.out).mono ?_
                  rintro e w11 ⟨rfl, n11, rfl⟩
                  have Q12 := hide ((Q10.out.below (V' := w10.alloc (ltR ⟨1, c.n, node, 0, 0, 0, false, y.l.n, y.l.o, y.l.h, y.l.d⟩)) ((Below.refl _ _).alloc (Nat.le_refl _) _)).below (belowN (Below.refl _ _) n11))
                  clear Q10 hv11 ow10
                  clear b0 b1 b2 b3 b4 b5 b6 b7 b8 b9 b10 a11 a12 a13 hky hka2 c0 c1 c2 c3 c4 c5 c6 c7 c8 hkc2
                  go_wp2_with fail
                  go_roundw
                  case rel => exact ⟨j + 1, F10, N + 1, by simp, by omega, by have := hN.out; omega, Q12.out.sub (by simp)⟩
                  case measure => simp [intOf]; omega
                · obtain ⟨L, hL⟩ : ∃ L, Hid (htL c D y.l y.d0 y.d1 = L) := ⟨_, rfl⟩
                  obtain ⟨s1, s2, s3⟩ := fwd_math (c := c) (d0 := y.d0) (d1 := y.d1) hfw.out hq0 (.inr ek) hle0 eb hn1
                  rw [hL.out] at s1 s2
                  have hDD := hide s3
                  clear s3
                  replace hq0 := hide hq0
                  replace eb := hide eb
                  replace hle0 := hide hle0
                  have s2' := s2 ek
                  subst s2'
                  clear s1 s2 hn1
                  obtain ⟨m1, n1, o1⟩ := cmpF (show ¬ y.l.k = 1 by omega)
                  obtain ⟨m2, n2, o2⟩ := cmpT ek
                  replace ek := hide ek
                  go_wp2_with (go_at_call 23; refine (refCheck_c c.n c.bl c.tt c.cs c.cy c.cc c.cu c.ct c.cp y.l.k y.l.a y.l.b y.l.q y.l.s y.l.w y.l.r y.l.n y.l.o y.l.h y.l.d _ z hz).mono ?_; rintro e w9 ⟨rfl, hb9⟩; have Q9 := hide (Q8.out.below hb9); clear hb9 Q8; clear b0 b1 b2 b3 b4 b5 b6 b7 b8 b9 b10 a11 a12 a13 hky hka2 c0 c1 c2 c3 c4 c5 c6 c7 c8 hkc2; obtain ⟨b0, b1, b2, b3, b4, b5, b6, b7, b8, b9, b10⟩ := lt_at (bz_get Q9.out.x (k := ky) (o := ltR y.l) (by simp)).2; obtain ⟨-, -, -, -, -, -, -, -, -, -, -, a11, a12, a13, -⟩ := acts_at (bz_get Q9.out.x (k := ka) (o := actsO y) (by simp)).2; have hky := (bz_get Q9.out.x (k := ky) (o := ltR y.l) (by simp)).1; have hka2 := (bz_get Q9.out.x (k := ka) (o := actsO y) (by simp)).1; obtain ⟨c0, c1, c2, c3, c4, c5, c6, c7, c8⟩ := cf_at (bz_get Q9.out.x (k := kc) (o := cfR c) (by simp)).2; have hkc2 := (bz_get Q9.out.x (k := kc) (o := cfR c) (by simp)).1)
                  go_at_call 13
                  refine (hmTake_c p B F c N D y.l y.d0 y.d1 y.d2 _ Q9.out.a.n (hide (hT.out.lowH Q9.out.a.bel)) (hide (Q9.out.a.no0 hT.out)) (by have := hN6.out; omega) hyk.out _ hL).mono ?_
                  rintro e w10 ⟨v10, rfl, F10, g10, hO⟩
                  rw [hDD.out] at hO
                  obtain ⟨ao10, cap10, e10, -⟩ := _root_.id hO.own
                  have e10' : v10 = .slice ao10 0 cap10 := e10
                  subst e10'
                  have Q10 := hide (Q9.out.step hO.nd hO.st)
                  have ow10 := hide hO.own
                  clear hO Q9 e10
                  clear b0 b1 b2 b3 b4 b5 b6 b7 b8 b9 b10 a11 a12 a13 hky hka2 c0 c1 c2 c3 c4 c5 c6 c7 c8 hkc2
                  obtain ⟨b0, b1, b2, b3, b4, b5, b6, b7, b8, b9, b10⟩ := lt_at (bz_get Q10.out.x (k := ky) (o := ltR y.l) (by simp)).2
                  obtain ⟨-, -, -, -, -, -, -, -, -, -, -, a11, a12, a13, -⟩ := acts_at (bz_get Q10.out.x (k := ka) (o := actsO y) (by simp)).2
                  have hky := (bz_get Q10.out.x (k := ky) (o := ltR y.l) (by simp)).1
                  have hka2 := (bz_get Q10.out.x (k := ka) (o := actsO y) (by simp)).1
                  obtain ⟨c0, c1, c2, c3, c4, c5, c6, c7, c8⟩ := cf_at (bz_get Q10.out.x (k := kc) (o := cfR c) (by simp)).2
                  have hkc2 := (bz_get Q10.out.x (k := kc) (o := cfR c) (by simp)).1
                  go_wp2_with fail
                  go_roundw
                  case rel => exact ⟨j + 1, F10, N + 1, by simp, by omega, by have := hN.out; omega, Q10.out.sub (by simp)⟩
                  case measure => simp [intOf]; omega
              · obtain ⟨f1, f2, f3⟩ := cmpF eb
                replace ez := hide ez
                replace eb := hide eb
                replace hq0 := hide hq0
                rcases hk with ek | ek
                · obtain ⟨m1, n1, o1⟩ := cmpT ek
                  replace ek := hide ek
                  go_wp2_with (go_at_call 23; refine (refCheck_c c.n c.bl c.tt c.cs c.cy c.cc c.cu c.ct c.cp y.l.k y.l.a y.l.b y.l.q y.l.s y.l.w y.l.r y.l.n y.l.o y.l.h y.l.d _ z hz).mono ?_; rintro e w9 ⟨rfl, hb9⟩; have Q9 := hide (Q8.out.below hb9); clear hb9 Q8; clear b0 b1 b2 b3 b4 b5 b6 b7 b8 b9 b10 a11 a12 a13 hky hka2 c0 c1 c2 c3 c4 c5 c6 c7 c8 hkc2; obtain ⟨b0, b1, b2, b3, b4, b5, b6, b7, b8, b9, b10⟩ := lt_at (bz_get Q9.out.x (k := ky) (o := ltR y.l) (by simp)).2; obtain ⟨-, -, -, -, -, -, -, -, -, -, -, a11, a12, a13, -⟩ := acts_at (bz_get Q9.out.x (k := ka) (o := actsO y) (by simp)).2; have hky := (bz_get Q9.out.x (k := ky) (o := ltR y.l) (by simp)).1; have hka2 := (bz_get Q9.out.x (k := ka) (o := actsO y) (by simp)).1; obtain ⟨c0, c1, c2, c3, c4, c5, c6, c7, c8⟩ := cf_at (bz_get Q9.out.x (k := kc) (o := cfR c) (by simp)).2; have hkc2 := (bz_get Q9.out.x (k := kc) (o := cfR c) (by simp)).1)
                  go_roundw
                  case rel => exact ⟨j + 1, F, N, by simp, by omega, by have := hN.out; omega, Q9.out.sub (by simp)⟩
                  case measure => simp [intOf]; omega
                · obtain ⟨m1, n1, o1⟩ := cmpF (show ¬ y.l.k = 1 by omega)
                  obtain ⟨m2, n2, o2⟩ := cmpT ek
                  replace ek := hide ek
                  go_wp2_with (go_at_call 23; refine (refCheck_c c.n c.bl c.tt c.cs c.cy c.cc c.cu c.ct c.cp y.l.k y.l.a y.l.b y.l.q y.l.s y.l.w y.l.r y.l.n y.l.o y.l.h y.l.d _ z hz).mono ?_; rintro e w9 ⟨rfl, hb9⟩; have Q9 := hide (Q8.out.below hb9); clear hb9 Q8; clear b0 b1 b2 b3 b4 b5 b6 b7 b8 b9 b10 a11 a12 a13 hky hka2 c0 c1 c2 c3 c4 c5 c6 c7 c8 hkc2; obtain ⟨b0, b1, b2, b3, b4, b5, b6, b7, b8, b9, b10⟩ := lt_at (bz_get Q9.out.x (k := ky) (o := ltR y.l) (by simp)).2; obtain ⟨-, -, -, -, -, -, -, -, -, -, -, a11, a12, a13, -⟩ := acts_at (bz_get Q9.out.x (k := ka) (o := actsO y) (by simp)).2; have hky := (bz_get Q9.out.x (k := ky) (o := ltR y.l) (by simp)).1; have hka2 := (bz_get Q9.out.x (k := ka) (o := actsO y) (by simp)).1; obtain ⟨c0, c1, c2, c3, c4, c5, c6, c7, c8⟩ := cf_at (bz_get Q9.out.x (k := kc) (o := cfR c) (by simp)).2; have hkc2 := (bz_get Q9.out.x (k := kc) (o := cfR c) (by simp)).1)
                  go_roundw
                  case rel => exact ⟨j + 1, F, N, by simp, by omega, by have := hN.out; omega, Q9.out.sub (by simp)⟩
                  case measure => simp [intOf]; omega
            · obtain ⟨z1, z2, z3⟩ := cmpF ez
              replace ez := hide ez
              replace hq0 := hide hq0
              rcases hk with ek | ek
              · obtain ⟨m1, n1, o1⟩ := cmpT ek
                replace ek := hide ek
                go_wp2_with (go_at_call 23; refine (refCheck_c c.n c.bl c.tt c.cs c.cy c.cc c.cu c.ct c.cp y.l.k y.l.a y.l.b y.l.q y.l.s y.l.w y.l.r y.l.n y.l.o y.l.h y.l.d _ z hz).mono ?_; rintro e w9 ⟨rfl, hb9⟩; have Q9 := hide (Q8.out.below hb9); clear hb9 Q8; clear b0 b1 b2 b3 b4 b5 b6 b7 b8 b9 b10 a11 a12 a13 hky hka2 c0 c1 c2 c3 c4 c5 c6 c7 c8 hkc2; obtain ⟨b0, b1, b2, b3, b4, b5, b6, b7, b8, b9, b10⟩ := lt_at (bz_get Q9.out.x (k := ky) (o := ltR y.l) (by simp)).2; obtain ⟨-, -, -, -, -, -, -, -, -, -, -, a11, a12, a13, -⟩ := acts_at (bz_get Q9.out.x (k := ka) (o := actsO y) (by simp)).2; have hky := (bz_get Q9.out.x (k := ky) (o := ltR y.l) (by simp)).1; have hka2 := (bz_get Q9.out.x (k := ka) (o := actsO y) (by simp)).1; obtain ⟨c0, c1, c2, c3, c4, c5, c6, c7, c8⟩ := cf_at (bz_get Q9.out.x (k := kc) (o := cfR c) (by simp)).2; have hkc2 := (bz_get Q9.out.x (k := kc) (o := cfR c) (by simp)).1)
                go_roundw
                case rel => exact ⟨j + 1, F, N, by simp, by omega, by have := hN.out; omega, Q9.out.sub (by simp)⟩
                case measure => simp [intOf]; omega
              · obtain ⟨m1, n1, o1⟩ := cmpF (show ¬ y.l.k = 1 by omega)
                obtain ⟨m2, n2, o2⟩ := cmpT ek
                replace ek := hide ek
                go_wp2_with (go_at_call 23; refine (refCheck_c c.n c.bl c.tt c.cs c.cy c.cc c.cu c.ct c.cp y.l.k y.l.a y.l.b y.l.q y.l.s y.l.w y.l.r y.l.n y.l.o y.l.h y.l.d _ z hz).mono ?_; rintro e w9 ⟨rfl, hb9⟩; have Q9 := hide (Q8.out.below hb9); clear hb9 Q8; clear b0 b1 b2 b3 b4 b5 b6 b7 b8 b9 b10 a11 a12 a13 hky hka2 c0 c1 c2 c3 c4 c5 c6 c7 c8 hkc2; obtain ⟨b0, b1, b2, b3, b4, b5, b6, b7, b8, b9, b10⟩ := lt_at (bz_get Q9.out.x (k := ky) (o := ltR y.l) (by simp)).2; obtain ⟨-, -, -, -, -, -, -, -, -, -, -, a11, a12, a13, -⟩ := acts_at (bz_get Q9.out.x (k := ka) (o := actsO y) (by simp)).2; have hky := (bz_get Q9.out.x (k := ky) (o := ltR y.l) (by simp)).1; have hka2 := (bz_get Q9.out.x (k := ka) (o := actsO y) (by simp)).1; obtain ⟨c0, c1, c2, c3, c4, c5, c6, c7, c8⟩ := cf_at (bz_get Q9.out.x (k := kc) (o := cfR c) (by simp)).2; have hkc2 := (bz_get Q9.out.x (k := kc) (o := cfR c) (by simp)).1)
                go_roundw
                case rel => exact ⟨j + 1, F, N, by simp, by omega, by have := hN.out; omega, Q9.out.sub (by simp)⟩
                case measure => simp [intOf]; omega
          · obtain ⟨m1, n1, o1⟩ := cmpF (show ¬ y.l.k = 1 by omega)
            obtain ⟨m2, n2, o2⟩ := cmpF (show ¬ y.l.k = 2 by omega)
            replace hk := hide hk
            replace hq0 := hide hq0
            go_wp2_with fail
            go_roundw
            case rel => exact ⟨j + 1, F, N, by simp, by omega, by have := hN.out; omega, Q8.out.sub (by simp)⟩
            case measure => simp [intOf]; omega
        · obtain ⟨t1, t2, t3⟩ := cmpF hq0
          replace hq0 := hide hq0
          go_wp2_with fail
          go_roundw
          case rel => exact ⟨j + 1, F, N, by simp, by omega, by have := hN.out; omega, Q8.out.sub (by simp)⟩
          case measure => simp [intOf]; omega
    · obtain rfl : j = A.length := by omega
      have hml := Q6.out.a.n.ml
      have hb0 := hok.out.b0
      have hlen0 : 0 < D.M.length := by omega
      have hz0 : D.M[0] = bun0 := by
        have h1 := hfw.out.m
        rw [show (0 : Int) = ((0 : Nat) : Int) from rfl, getM_nat hlen0] at h1
        exact h1
      obtain ⟨n3, hn3⟩ : ∃ n, Hid (D.M.length = n) := ⟨_, hide rfl⟩
      have hn3' : (0 : Int) < n3 := by have := hn3.out; omega
      go_wp2_with fail
      go_at_call 18
      refine (hmAll_c p B F c N D _ Q6.out.a.n n3 hn3).mono ?_
      rintro e w8 ⟨rfl, hO8, hb8⟩
      have Q8 := hide (Q6.out.below hb8)
      obtain ⟨-, -, -, k⟩ := view_atB hO8.view rfl
      obtain ⟨o8, e8, hl8, k0, k1, k2, k3⟩ := k 0 hlen0
      simp only [Option.some.injEq, Addr.mk.injEq, true_and, and_true] at e8
      subst e8
      rw [hz0] at k0 k1 k2 k3
      simp only [bun0, Nat.zero_mul, Nat.add_zero, Nat.zero_add] at k0 k1 k2 k3
      clear k hO8 hb8 Q6
      go_wp2_with fail
      go_ret
      exact ⟨rfl, Q8.out.a.bel⟩
theorem HomeForwards_walk (c : Cf) (node : Int) (ao : Option Addr) (n cap : Nat) (A : List Ac) (w : World) (hT : Hid (Tab w)) (hA : ActsAt w.heap.size w (.slice ao n cap) A) : Calls Tryd.prog 5 #[.agg #[.int .i64 c.n, .int .i64 c.bl, .int .i64 c.tt, .int .i64 c.cs, .int .i64 c.cy, .int .i64 c.cc, .int .i64 c.cu, .int .i64 c.ct, .int .i64 c.cp], .int .i64 node, .slice ao n cap] w fun e w' => e = .returned (.bool true) ∧ Below w.heap.size w w' := by
  obtain ⟨ao', cap', e, h1, h2, -⟩ := id hA
  simp only [Value.slice.injEq] at e
  obtain ⟨rfl, rfl, rfl⟩ := e
  by_cases hz : cfgZ c.n c.bl c.tt c.cs c.cy c.cc c.cu c.ct c.cp = 0 ∧ A.length ≤ 200
  · cases hnd : nodeB node c.n
    · exact fwdBad_walk c node ao A.length cap w hT (hide hz.1) (hide hz.2) (hide hnd)
    · exact fwdOk_walk c node ao cap A w hT (hide hA) (hide hz.2) (hide hz.1) (hide hnd)
  · exact fwdNo_walk c node ao A.length cap w hT (by unfold maxLen at h2; omega) hz
end Go.Proofs.YtmgjgeaigdiadaaDoor
