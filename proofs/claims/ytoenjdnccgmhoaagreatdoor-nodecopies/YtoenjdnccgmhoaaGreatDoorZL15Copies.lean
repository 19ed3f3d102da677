/- layer 15: L15Copies, put together. -/
import Derived.Test.YtoenjdnccgmhoaaGreatDoorB43
import Derived.Test.YtoenjdnccgmhoaaGreatDoorZNdM
import Derived.Test.YtoenjdnccgmhoaaGreatDoorZTwo15
import Derived.Test.YtoenjdnccgmhoaaGreatDoorB20
namespace Go.Proofs.YtoenjdnccgmhoaaGreatDoor
open Go.ChangeShapes Go.WideShapes Go.ChangeAt Go.RowKit
set_option linter.unusedSimpArgs false
set_option linter.unusedVariables false
set_option maxRecDepth 10000
attribute [local go_sem, local simp] over_const setCell_drewN alloc_drewN Over.cell Over.frozen lt_s1 lt_s2 lt_s3 le_s0 le_s1 le_s2 le_s3 eq_s0 eq_s1 eq_s2 qe_s0
abbrev LS (c : Cf) (id : Int) (D : Nd) (A : List Ac) (t : Nat) : List Lt := doL c id (play15 c id D (A.take t)) (atB A t)
abbrev NS (c : Cf) (id : Int) (D : Nd) (A : List Ac) (t : Nat) : List Dn := doN c id (play15 c id D (A.take t)) (atB A t)
abbrev TX (p q : Nat) (B B' : Bk) (F F' : Nat → Prop) : Nat → Prop := fun x => Fa p B F x ∨ Fa q B' F' x
theorem Two.tx {w V : World} {p q : Nat} {B B' : Bk} {F F' : Nat → Prop} {c : Cf} {id : Int} {N N' : Nat} {D D' : Nd} (h : Two w V p q B B' F F' c id N N' D D') : ∀ i, TX p q B B' F F' i → i < V.heap.size := fun i e => by rcases e with e | e; exact h.n.lt i e; exact h.k.lt i e
theorem view_lt {V : World} {M : List Dn} {v : Value} {g : Nat} (h : ViewD V v g M) : M ≠ [] → g < V.heap.size := fun e => h.lt_of e
set_option maxHeartbeats 4000000 in
theorem copiesNo_walk (c : Cf) (id : Int) (ao : Option Addr) (n cap : Nat) (w : World) (hT : Hid (Tab w)) (hn : n ≤ 9223372036854775807) (hno : ¬ (cfgZ c.n c.bl c.tt c.cs c.cy c.cc c.cu c.ct c.cp = 0 ∧ nodeB id c.n = true ∧ n ≤ 200)) : Calls Tryz.prog 10 #[.agg #[.int .i64 c.n, .int .i64 c.bl, .int .i64 c.tt, .int .i64 c.cs, .int .i64 c.cy, .int .i64 c.cc, .int .i64 c.cu, .int .i64 c.ct, .int .i64 c.cp], .int .i64 id, .slice ao n cap] w fun e w' => e = .returned (.bool true) ∧ Below w.heap.size w w' := by
  replace hno := hide hno
  replace hn := hide hn
  go_enter Tryz.func10, Tryz.ntmps10
  go_upto_region 1 with fail
  refine name_world ?_
  intro V hV
  have hB : Hid (Below w.heap.size w V) := by rw [← hV]; exact hide (by all_goals exact belEnd)
  have hX : Hid (V.heap[w.heap.size]? = some (cfR c)) := by rw [← hV]; exact hide (heap_alloc_new w (cfR c))
  clear hV
  obtain ⟨kc, hkc⟩ : ∃ k, Hid (w.heap.size = k) := ⟨_, hide rfl⟩
  rw [hkc.out] at hX
  rw [hkc.out]
  obtain ⟨c0, c1, c2, c3, c4, c5, c6, c7, c8⟩ := cf_at hX.out
  have lc : kc < V.heap.size := (Array.getElem?_eq_some_iff.1 hX.out).1
  go_wp2_with (first | (go_at_call 11; refine (madeNo_c c id ao n cap _ hno.out hn.out).mono ?_; rintro e w1 ⟨rfl, hb1⟩; obtain ⟨x, rfl⟩ := over hb1; clear hb1; have f1 := x.upB kc) | (go_at_call 12; refine (awake15_c _ (hide (hT.out.lowB (hB.out.trans (Below.mono (B := V.heap.size) (by all_goals exact belEnd) hB.out.size))))).mono ?_; rintro e w2 ⟨rfl, hb2⟩; obtain ⟨y, rfl⟩ := over2 hb2; clear hb2))
  go_ret
  refine ⟨rfl, ?_⟩
  exact hB.out.trans (Below.mono (B := V.heap.size) (by all_goals exact belEnd) hB.out.size)
set_option maxHeartbeats 8000000 in
theorem copiesNil_walk (c : Cf) (id : Int) (ao : Option Addr) (cap : Nat) (w : World) (hT : Hid (Tab w)) (h0 : Hid (cfgZ c.n c.bl c.tt c.cs c.cy c.cc c.cu c.ct c.cp = 0)) (h1 : Hid (nodeB id c.n = true)) (hcz : cap = 0 ∨ cap ≠ 0) : Calls Tryz.prog 10 #[.agg #[.int .i64 c.n, .int .i64 c.bl, .int .i64 c.tt, .int .i64 c.cs, .int .i64 c.cy, .int .i64 c.cc, .int .i64 c.cu, .int .i64 c.ct, .int .i64 c.cp], .int .i64 id, .slice ao 0 cap] w fun e w' => e = .returned (.bool true) ∧ Below w.heap.size w w' := by
  have hlen : Hid ((0 : Nat) ≤ 200) := hide (by decide)
  obtain ⟨bu, hbu⟩ : ∃ x, Hid (nd0.P.busy = x) := ⟨_, hide rfl⟩
  obtain ⟨op, hop⟩ : ∃ x, Hid (nd0.P.op = x) := ⟨_, hide rfl⟩
  obtain ⟨Ls, hLs⟩ : ∃ x, Hid (allC nd0.C = x) := ⟨_, hide rfl⟩
  obtain ⟨As, hAs⟩ : ∃ x, Hid (nd0.T.A = x) := ⟨_, hide rfl⟩
  have h00 : Hid (0 ≤ 2000) := hide (by decide)
  rcases hcz with rfl | hcz
  all_goals
    go_enter Tryz.func10, Tryz.ntmps10
    go_upto_region 1 with fail
    refine name_world ?_
    intro V hV
    have hB : Hid (Below w.heap.size w V) := by rw [← hV]; exact hide (by all_goals exact belEnd)
    have hX : Hid (V.heap[w.heap.size]? = some (cfR c)) := by rw [← hV]; exact hide (heap_alloc_new w (cfR c))
    clear hV
    obtain ⟨kc, hkc⟩ : ∃ k, Hid (w.heap.size = k) := ⟨_, hide rfl⟩
    rw [hkc.out] at hX
    rw [hkc.out]
    obtain ⟨c0, c1, c2, c3, c4, c5, c6, c7, c8⟩ := cf_at hX.out
    have lc : kc < V.heap.size := (Array.getElem?_eq_some_iff.1 hX.out).1
    go_upto_region 2 with (go_at_call 11; refine (madeOk_c c id _ 0 _ _ h0 h1 hlen.out).mono ?_; rintro e w1 ⟨p, q0, rfl, B, Fc, hn1, hlo1, hb1⟩; clear c0 c1 c2 c3 c4 c5 c6 c7 c8 lc; replace hn1 := hide hn1; replace hlo1 := hide hlo1; replace hb1 := hide hb1)
    have P1 : Hid (One w w1 p B Fc c id 0 nd0) := hide ⟨hn1.out, fun x hx => Nat.le_trans hB.out.size (hlo1.out x hx), hB.out.trans (hb1.out.mono hB.out.size)⟩
    clear hn1 hlo1 hb1 hX hB
    go_wp2_with fail
    go_at_call 12
    refine (awake15_c _ (hide (hT.out.lowB P1.out.bel))).mono ?_
    rintro e w2 ⟨rfl, hb2⟩
    have P2 := hide (P1.out.below hb2)
    clear hb2 P1
    go_wp2_with fail
    refine wp_loop_rounds 1 ?_
    rw [rounds_succ]
    go_wp2_with fail
    go_at_call 21
    refine (ndCopy_c p B Fc c id 0 nd0 w2 P2.out.n).mono ?_
    rintro e w6 ⟨q, rfl, B6, F6, hn6, hl6, hb6⟩
    have E6 := hide (P2.out.two hn6 hl6 hb6)
    clear hn6 hl6 hb6 P2
    go_wp2_with fail
    refine wp_loop_rounds 1 ?_
    rw [rounds_succ]
    go_wp2_with fail
    refine wp_loop_rounds 1 ?_
    rw [rounds_succ]
    go_wp2_with fail
    go_at_call 25
    refine (ndPlace_c p _ _ c id _ nd0 _ E6.out.n (by have := h00.out; omega) bu hbu op hop Ls hLs As hAs).mono ?_
    rintro e w11 ⟨v5, v6, rfl, g12, g13, ho5, ho6, -, -, hb11⟩
    obtain ⟨ao5, cap5, e5, -⟩ := _root_.id ho5
    obtain ⟨ao6, cap6, e6, -⟩ := _root_.id ho6
    subst e5 e6
    have E11 := hide (E6.out.below hb11)
    replace ho5 := hide ho5
    replace ho6 := hide ho6
    clear hb11
    go_wp2_with fail
    go_at_call 25
    refine (ndPlace_c q _ _ c id _ nd0 _ E11.out.k (by have := h00.out; omega) bu hbu op hop Ls hLs As hAs).mono ?_
    rintro e w12 ⟨v7, v8, rfl, g14, g15, ho7, ho8, -, -, hb12⟩
    obtain ⟨ao7, cap7, e7, -⟩ := _root_.id ho7
    obtain ⟨ao8, cap8, e8, -⟩ := _root_.id ho8
    subst e7 e8
    have E12 := hide (E11.out.below hb12)
    have q5 := hide (ho5.out.below hb12)
    have q6 := hide (ho6.out.below hb12)
    replace ho7 := hide ho7
    replace ho8 := hide ho8
    clear hb12
    go_wp2_with fail
    go_at_call 24
    refine (sameP_c _ _ _ _ bu op g12 g14 g13 g15 Ls As _ q5.out.view ho7.out.view q6.out.view ho8.out.view).mono ?_
    rintro e w13 ⟨rfl, hb13⟩
    replace hb13 := hide hb13
    go_wp2_with fail
    go_ret
    exact ⟨rfl, E12.out.bel.trans (hb13.out.mono E12.out.bel.size)⟩
set_option maxHeartbeats 8000000 in
theorem copiesOk_walk (c : Cf) (id : Int) (b o' : Nat) (cap : Nat) (A : List Ac) (w : World) (hT : Hid (Tab w)) (hA : Hid (ActsAt w.heap.size w (.slice (some ⟨b, o', none⟩) A.length cap) A)) (hlen : Hid (A.length ≤ 200)) (hz : 0 < A.length) (hlc : A.length ≤ cap) (hbB : Hid (b < w.heap.size)) (h0 : Hid (cfgZ c.n c.bl c.tt c.cs c.cy c.cc c.cu c.ct c.cp = 0)) (h1 : Hid (nodeB id c.n = true)) : Calls Tryz.prog 10 #[.agg #[.int .i64 c.n, .int .i64 c.bl, .int .i64 c.tt, .int .i64 c.cs, .int .i64 c.cy, .int .i64 c.cc, .int .i64 c.cu, .int .i64 c.ct, .int .i64 c.cp], .int .i64 id, .slice (some ⟨b, o', none⟩) A.length cap] w fun e w' => e = .returned (.bool true) ∧ Below w.heap.size w w' := by
  have hma : A.length ≤ 9223372036854775807 := by have := hlen.out; omega
  have hAI := hide (acts_i64 hA.out)
  obtain ⟨h, hh⟩ : ∃ h, A.length / 2 = h := ⟨_, rfl⟩
  have hh2 : (A.length : Int) / 2 = h := by omega
  have hhn : h ≤ A.length := by omega
  obtain ⟨m, hm⟩ : ∃ m, A.length - h = m := ⟨_, rfl⟩
  have hhc : cap ≠ h ∧ (cap == h) = false ∧ decide (cap = h) = false := ⟨by omega, by simp; omega, by simp; omega⟩
  have hm2 : Hid (m ≤ 200 ∧ h ≤ 200) := hide (by have := hlen.out; omega)
  go_enter Tryz.func10, Tryz.ntmps10
  go_upto_region 1 with fail
  refine name_world ?_
  intro V hV
  have hB : Hid (Below w.heap.size w V) := by rw [← hV]; exact hide (by all_goals exact belEnd)
  have hX : Hid (V.heap[w.heap.size]? = some (cfR c)) := by rw [← hV]; exact hide (heap_alloc_new w (cfR c))
  clear hV
  obtain ⟨kc, hkc⟩ : ∃ k, Hid (w.heap.size = k) := ⟨_, hide rfl⟩
  rw [hkc.out] at hX
  rw [hkc.out]
  obtain ⟨c0, c1, c2, c3, c4, c5, c6, c7, c8⟩ := cf_at hX.out
  have lc : kc < V.heap.size := (Array.getElem?_eq_some_iff.1 hX.out).1
  go_upto_region 2 with (go_at_call 11; refine (madeOk_c c id _ A.length _ _ h0 h1 hlen.out).mono ?_; rintro e w1 ⟨p, q0, rfl, B, Fc, hn1, hlo1, hb1⟩; clear c0 c1 c2 c3 c4 c5 c6 c7 c8 lc; replace hn1 := hide hn1; replace hlo1 := hide hlo1; replace hb1 := hide hb1)
  have P1 : Hid (One w w1 p B Fc c id 0 nd0) := hide ⟨hn1.out, fun x hx => Nat.le_trans hB.out.size (hlo1.out x hx), hB.out.trans (hb1.out.mono hB.out.size)⟩
  clear hn1 hlo1 hb1 hX hB
  go_wp2_with fail
  go_at_call 12
  refine (awake15_c _ (hide (hT.out.lowB P1.out.bel))).mono ?_
  rintro e w2 ⟨rfl, hb2⟩
  have P2 := hide (P1.out.below hb2)
  clear hb2 P1
  go_wp2_with fail
  go_loopw [42] (fun i wr => ∃ (j N : Nat) (F : Nat → Prop), j ≤ h ∧ i = .int .i64 j ∧ N ≤ 3 * j ∧ One w wr p B F c id N (play15 c id nd0 (A.take j))) (fun i _ => h - (intOf i).toNat)
  case atStart => exact ⟨0, 0, _, Nat.zero_le _, rfl, by omega, P2.out⟩
  case round =>
    clear P2
    obtain ⟨j, N, F, hj, rfl, hN, P3⟩ := hrel
    replace P3 := hide P3
    replace hN := hide hN
    by_cases hlt : j < h
    · have hlt' : (j : Int) < h := by omega
      have hjA : j < A.length := by omega
      obtain ⟨b', o'', e', -, hbl, hra⟩ := acts_range (hA.out.below P3.out.bel) hjA
      cases e'
      have hpl := hide (play15_snoc c id nd0 A j hjA)
      obtain ⟨y, hy⟩ : ∃ y, atB A j = y := ⟨_, rfl⟩
      rw [atB_get hjA, hy] at hra
      rw [hy] at hpl
      obtain ⟨hy1, hy2⟩ := hAI.out y (by rw [← hy]; exact atB_mem hjA)
      obtain ⟨D, hD⟩ : ∃ D, play15 c id nd0 (A.take j) = D := ⟨_, rfl⟩
      have hop : Hid (I64 D.P.op.b) := hide (by rw [← hD]; exact play15_op c id _ _ i64_0 (fun x hx => hAI.out x (List.mem_of_mem_take hx)))
      rw [hD] at P3 hpl
      replace hy2 := hide hy2
      have hN6 : Hid (N + 3 ≤ 2000) := hide (by have := hN.out; have := hm2.out; omega)
      clear hD hy hy1
      go_upto_region 7 with fail
      go_step
      go_step
      go_step
      go_step
      refine wpList_load_mid (by rfl) _ _ (by rfl) b (o' + j * 18) (by rfl) (actC y) _ hra Tryz.underlying40 (by rfl) (by exact infoAc) ?_
      clear hra
      go_step
      go_step
      go_step
      refine wpList_store_new _ _ (by rfl) (by rfl) (by rfl) (by rfl) (by exact infoAc) (by rfl) (actC_one y) ?_
      obtain ⟨V7, hV7⟩ : ∃ V, wr.alloc (.cells (actC y).toArray 40) = V := ⟨_, rfl⟩
      have hrn : Hid (V7.rangeAt wr.heap.size 0 (actC y)) := by rw [← hV7]; exact hide (range_new wr y)
      have hbn : Hid (Below wr.heap.size wr V7) := by rw [← hV7]; exact hide ((Below.refl _ _).alloc (Nat.le_refl _) _)
      rw [hV7]
      clear hV7
      obtain ⟨ka, hka⟩ : ∃ k, Hid (wr.heap.size = k) := ⟨_, hide rfl⟩
      rw [hka.out] at hrn
      rw [hka.out]
      have P4 := hide (P3.out.below hbn.out)
      clear P3
      go_upto_region 8 with fail
      go_step
      go_step
      go_step
      go_step
      refine wpList_load_mid (by rfl) _ _ (by rfl) ka 0 (by rfl) (actC y) _ hrn.out Tryz.underlying40 (by rfl) (by exact infoAc) ?_
      go_wp2_with fail
      go_at_call 28
      refine (do15_a p B F c id N D y _ P4.out.n (hide (hT.out.lowB P4.out.bel)) hN6.out hy2.out hop.out _ (hide rfl) _ (hide rfl)).mono ?_
      rintro e w5 ⟨v1, v2, rfl, F5, g1, g2, hO⟩
      have P5 := hide (P4.out.step hO.nd hO.st)
      rw [← hpl.out] at P5
      clear hO P4
      go_wp2_with fail
      go_roundw
      case rel => exact ⟨j + 1, N + 3, F5, by omega, by simp, by have := hN.out; omega, P5.out⟩
      case measure => simp [intOf]; omega
    · obtain rfl : j = h := by omega
      clear hlt hj
      obtain ⟨D, hD⟩ : ∃ D, play15 c id nd0 (A.take j) = D := ⟨_, rfl⟩
      have hopD : Hid (I64 D.P.op.b) := hide (by rw [← hD]; exact play15_op c id _ _ i64_0 (fun x hx => hAI.out x (List.mem_of_mem_take hx)))
      rw [hD] at P3
      have hN3 : Hid (N ≤ 600) := hide (by have := hN.out; have := hm2.out; omega)
      clear hD hN
      go_wp2_with fail
      go_at_call 21
      refine (ndCopy_c p B F c id N D wr P3.out.n).mono ?_
      rintro e w6 ⟨q, rfl, B6, F6, hn6, hl6, hb6⟩
      have E6 := hide (P3.out.two hn6 hl6 hb6)
      clear hn6 hl6 hb6 P3
      go_wp2_with fail
      obtain ⟨Bl, hBl⟩ : ∃ Bl, A.drop j = Bl := ⟨_, rfl⟩
      have hBm : Hid (Bl.length = m) := hide (by rw [← hBl, List.length_drop]; exact hm)
      have hBr : Hid (∀ t : Nat, atB Bl t = atB A (j + t)) := hide (by intro t; rw [← hBl]; exact atB_drop A j t)
      have hBI : Hid (∀ x ∈ Bl, I64 x.op.b ∧ I64 x.l.k) := hide (fun x hx => hAI.out x (by rw [← hBl] at hx; exact List.mem_of_mem_drop hx))
      clear hBl
      have O6 : Hid (Outs w w6 b (TX p q B B6 F F6) (.slice none 0 0) b [] 0 (LS c id D Bl) (NS c id D Bl)) := hide ⟨own_nilO (Nat.lt_of_lt_of_le hbB.out E6.out.bel.size), rfl, ⟨.inl rfl, fun e => by
        have h0 := hbB.out
        rcases e with e | e
        · have := E6.out.lo _ e; omega
        · have := E6.out.lo' _ e; omega, fun _ => rfl⟩, fun t ht => by omega⟩
      go_loopw [14, 58] (fun v i wr => ∃ (t g N1 : Nat) (F1 : Nat → Prop) (O : List Ot), t ≤ m ∧ i = .int .i64 t ∧ N1 ≤ N + 3 * t ∧ Two w wr p q B B6 F1 F6 c id N1 N (play15 c id D (Bl.take t)) D ∧ Outs w wr b (TX p q B B6 F1 F6) v g O t (LS c id D Bl) (NS c id D Bl)) (fun _ i _ => m - (intOf i).toNat)
      case atStart => exact ⟨0, b, N, F, [], Nat.zero_le _, rfl, by omega, E6.out, O6.out⟩
      case round =>
        clear E6 O6
        obtain ⟨t, g, N1, F1, O, ht, rfl, hN1, E7, O7⟩ := hrel
        replace E7 := hide E7
        replace O7 := hide O7
        replace hN1 := hide hN1
        by_cases hlt : t < m
        · have hlt' : (t : Int) < m := by omega
          have hjA : j + t < A.length := by omega
          obtain ⟨b', o'', e', -, hbl, hra⟩ := acts_range (hA.out.below E7.out.bel) hjA
          cases e'
          obtain ⟨y, hy⟩ : ∃ y, atB Bl t = y := ⟨_, rfl⟩
          have htB : t < Bl.length := by rw [hBm.out]; exact hlt
          have hpl := hide (play15_snoc c id D Bl t htB)
          rw [atB_get hjA, ← hBr.out, hy] at hra
          rw [hy] at hpl
          obtain ⟨hy1, hy2⟩ := hBI.out y (by rw [← hy]; exact atB_mem htB)
          obtain ⟨D1, hD1⟩ : ∃ D1, play15 c id D (Bl.take t) = D1 := ⟨_, rfl⟩
          have hop : Hid (I64 D1.P.op.b) := hide (by rw [← hD1]; exact play15_op c id _ _ hopD.out (fun x hx => hBI.out x (List.mem_of_mem_take hx)))
          obtain ⟨L, hL⟩ : ∃ L, Hid (LS c id D Bl t = L) := ⟨_, hide rfl⟩
          obtain ⟨M, hM⟩ : ∃ L, Hid (NS c id D Bl t = L) := ⟨_, hide rfl⟩
          have hLS : Hid (doL c id D1 y = L) := hide (by rw [← hL.out, ← hD1, ← hy])
          have hNS : Hid (doN c id D1 y = M) := hide (by rw [← hM.out, ← hD1, ← hy])
          rw [hD1] at E7 hpl
          replace hy2 := hide hy2
          have hN6 : Hid (N1 + 3 ≤ 2000) := hide (by have := hN1.out; have := hm2.out; have := hN3.out; omega)
          have eo : o' + (j + t) * 18 = o' + j * 18 + t * 18 := by omega
          rw [eo] at hra
          clear hD1 hy hy1 eo htB
          as_aux_lemma =>
            go_upto_region 16 with fail
            go_step
            go_step
            go_step
            go_step
            refine wpList_load_mid (by rfl) _ _ (by rfl) b (o' + j * 18 + t * 18) (by rfl) (actC y) _ hra Tryz.underlying40 (by rfl) (by exact infoAc) ?_
            clear hra
            go_step
            go_step
            go_step
            refine wpList_store_new _ _ (by rfl) (by rfl) (by rfl) (by rfl) (by exact infoAc) (by rfl) (actC_one y) ?_
            obtain ⟨V7, hV7⟩ : ∃ V, wr.alloc (.cells (actC y).toArray 40) = V := ⟨_, rfl⟩
            have hrn : Hid (V7.rangeAt wr.heap.size 0 (actC y)) := by rw [← hV7]; exact hide (range_new wr y)
            have hbn : Hid (Below wr.heap.size wr V7) := by rw [← hV7]; exact hide ((Below.refl _ _).alloc (Nat.le_refl _) _)
            rw [hV7]
            clear hV7
            obtain ⟨ka, hka⟩ : ∃ k, Hid (wr.heap.size = k) := ⟨_, hide rfl⟩
            rw [hka.out] at hrn
            rw [hka.out]
            have E8 := hide (E7.out.below hbn.out)
            have O8 := hide (O7.out.below hbn.out)
            clear E7 O7
            go_upto_region 17 with fail
            go_step
            go_step
            go_step
            go_step
            go_step
            go_step
            go_step
            refine wpList_load_mid (by rfl) _ _ (by rfl) ka 0 (by rfl) (actC y) _ hrn.out Tryz.underlying40 (by rfl) (by exact infoAc) ?_
            go_wp2_with fail
            go_at_call 28
            refine (do15_a p B F1 c id N1 D1 y _ E8.out.n (hide (hT.out.lowB E8.out.bel)) hN6.out hy2.out hop.out L hLS M hNS).mono ?_
            rintro e w9 ⟨v1, v2, rfl, F9, g1, g2, hO⟩
            obtain ⟨ao1, cap1, e1, -⟩ := _root_.id hO.own
            obtain ⟨ao2, cap2, e2, -⟩ := _root_.id hO.dn
            subst e1 e2
            have E9 := hide (E8.out.step hO.nd hO.st)
            rw [← hpl.out] at E9
            have O9 := hide (O8.out.step (X' := TX p q B B6 F9 F6) hO.st.fr (fun _ e => .inl e) (fun x e => by
              rcases e with e | e
              · rcases hO.st.new x e with e | e
                · exact .inl (.inl e)
                · exact .inr e
              · exact .inl (.inr e)))
            have L9 := hide ((lies_out (Y := fun x => Fa q B6 F6 x ∨ x = g) hO (fun x e => by
              rcases e with e | e
              · exact E8.out.k.lt x e
              · have := O8.out.own.lt; omega) (view_lt hO.dn)).mono (X' := fun x => TX p q B B6 F9 F6 x ∨ x = g) (fun x e => by
              rcases e with (e | e) | e
              · exact .inl e
              · exact .inr (.inl e)
              · exact .inr (.inr e)))
            clear hO E8 O8
            have hl : Hid (O.length + [(⟨ao1, L.length, cap1, ao2, M.length, cap2⟩ : Ot)].length ≤ 1000000) := hide (by rw [O9.out.len]; have := hm2.out; simp only [List.length_cons, List.length_nil]; omega)
            have hl2 : Hid (O.length + [(⟨ao1, L.length, cap1, ao2, M.length, cap2⟩ : Ot)].length = t + 1) := hide (by rw [O9.out.len]; rfl)
            go_wp2_with (at_builtin; refine wpList_appO rfl _ _ rfl rfl rfl (O9.out.own.alloc _) (view_oneO _ ⟨ao1, L.length, cap1, ao2, M.length, cap2⟩) hl.out (t + 1) hl2.out ?_; intro ao' cap' w10 g' hown hap; have AP := hide ((O9.out.below ((Below.refl _ _).alloc (Nat.le_refl _) _)).app hbB.out (E9.out.alloc _).bel.size (E9.out.alloc _).tx hown hap (by rw [hL.out, hM.out]; exact L9.out.below ((Below.refl _ _).alloc (Nat.le_refl _) _))); clear hown hap)
            have E10 := hide ((E9.out.alloc _).aside AP.out.2 (fun _ h => h.2) (fun x h1 h2 => O9.out.gd.nx (.inl (h2.1 ▸ h1))) (fun x h1 h2 => O9.out.gd.nx (.inr (h2.1 ▸ h1))))
            go_roundw
            case rel => exact ⟨t + 1, g', N1 + 3, F9, _, by omega, by simp, by have := hN1.out; omega, E10.out, AP.out.1⟩
            case measure => simp [intOf]; omega
        · obtain rfl : t = m := by omega
          clear hlt ht
          obtain ⟨aoO, capO, eO, hlcO, -⟩ := _root_.id O7.out.own
          rw [O7.out.len] at eO hlcO
          subst eO
          have hDe : Hid (play15 c id D (Bl.take t) = play15 c id D Bl) := hide (by rw [List.take_of_length_le (by rw [hBm.out]; exact Nat.le_refl _)])
          rw [hDe.out] at E7
          obtain ⟨Dp, hDp⟩ : ∃ x, Hid (play15 c id D Bl = x) := ⟨_, hide rfl⟩
          rw [hDp.out] at E7
          have hN7 : Hid (N1 ≤ 1200) := hide (by have := hN1.out; have := hm2.out; have := hN3.out; omega)
          clear hN1
          go_wp2_with fail
          go_loopw [73] (fun i wr => ∃ (s N2 : Nat) (F2 : Nat → Prop), s ≤ t ∧ i = .int .i64 s ∧ N2 ≤ N + 3 * s ∧ Two w wr p q B B6 F1 F2 c id N1 N2 Dp (play15 c id D (Bl.take s)) ∧ Outs w wr b (TX p q B B6 F1 F2) (.slice aoO t capO) g O t (LS c id D Bl) (NS c id D Bl)) (fun i _ => t - (intOf i).toNat)
          case atStart => exact ⟨0, N, F6, Nat.zero_le _, rfl, by omega, E7.out, O7.out⟩
          case round =>
            clear E7 O7
            obtain ⟨s, N2, F2, hs, rfl, hN2, E8, O8⟩ := hrel
            replace E8 := hide E8
            replace O8 := hide O8
            replace hN2 := hide hN2
            by_cases hlt : s < t
            · have hlt' : (s : Int) < t := by omega
              have hjA : j + s < A.length := by omega
              obtain ⟨b', o'', e', -, hbl, hra⟩ := acts_range (hA.out.below E8.out.bel) hjA
              cases e'
              obtain ⟨y, hy⟩ : ∃ y, atB Bl s = y := ⟨_, rfl⟩
              have htB : s < Bl.length := by rw [hBm.out]; exact hlt
              have hpl := hide (play15_snoc c id D Bl s htB)
              rw [atB_get hjA, ← hBr.out, hy] at hra
              rw [hy] at hpl
              obtain ⟨hy1, hy2⟩ := hBI.out y (by rw [← hy]; exact atB_mem htB)
              obtain ⟨D1, hD1⟩ : ∃ D1, play15 c id D (Bl.take s) = D1 := ⟨_, rfl⟩
              have hop : Hid (I64 D1.P.op.b) := hide (by rw [← hD1]; exact play15_op c id _ _ hopD.out (fun x hx => hBI.out x (List.mem_of_mem_take hx)))
              obtain ⟨L, hL⟩ : ∃ L, Hid (LS c id D Bl s = L) := ⟨_, hide rfl⟩
              obtain ⟨M, hM⟩ : ∃ L, Hid (NS c id D Bl s = L) := ⟨_, hide rfl⟩
              have hLS : Hid (doL c id D1 y = L) := hide (by rw [← hL.out, ← hD1, ← hy])
              have hNS : Hid (doN c id D1 y = M) := hide (by rw [← hM.out, ← hD1, ← hy])
              rw [hD1] at E8 hpl
              replace hy2 := hide hy2
              have hN6 : Hid (N2 + 3 ≤ 2000) := hide (by have := hN2.out; have := hm2.out; have := hN3.out; omega)
              have eo : o' + (j + s) * 18 = o' + j * 18 + s * 18 := by omega
              rw [eo] at hra
              clear hD1 hy hy1 eo htB
              as_aux_lemma =>
                go_upto_region 21 with fail
                go_step
                go_step
                go_step
                go_step
                go_step
                go_step
                go_step
                refine wpList_load_mid (by rfl) _ _ (by rfl) b (o' + j * 18 + s * 18) (by rfl) (actC y) _ hra Tryz.underlying40 (by rfl) (by exact infoAc) ?_
                clear hra
                go_step
                go_step
                go_step
                go_step
                go_step
                go_step
                refine wpList_store_new _ _ (by rfl) (by rfl) (by rfl) (by rfl) (by exact infoAc) (by rfl) (actC_one y) ?_
                obtain ⟨V7, hV7⟩ : ∃ V, wr.alloc (.cells (actC y).toArray 40) = V := ⟨_, rfl⟩
                have hrn : Hid (V7.rangeAt wr.heap.size 0 (actC y)) := by rw [← hV7]; exact hide (range_new wr y)
                have hbn : Hid (Below wr.heap.size wr V7) := by rw [← hV7]; exact hide ((Below.refl _ _).alloc (Nat.le_refl _) _)
                rw [hV7]
                clear hV7
                obtain ⟨ka, hka⟩ : ∃ k, Hid (wr.heap.size = k) := ⟨_, hide rfl⟩
                rw [hka.out] at hrn
                rw [hka.out]
                have E9 := hide (E8.out.below hbn.out)
                have O9 := hide (O8.out.below hbn.out)
                clear E8 O8
                go_upto_region 22 with fail
                go_step
                go_step
                go_step
                go_step
                refine wpList_load_mid (by rfl) _ _ (by rfl) ka 0 (by rfl) (actC y) _ hrn.out Tryz.underlying40 (by rfl) (by exact infoAc) ?_
                go_wp2_with fail
                go_at_call 28
                refine (do15_a q B6 F2 c id N2 D1 y _ E9.out.k (hide (hT.out.lowB E9.out.bel)) hN6.out hy2.out hop.out L hLS M hNS).mono ?_
                rintro e w9 ⟨v1, v2, rfl, F9, g1, g2, hO⟩
                obtain ⟨ao1, cap1, e1, -⟩ := _root_.id hO.own
                obtain ⟨ao2, cap2, e2, -⟩ := _root_.id hO.dn
                subst e1 e2
                have E10 := hide ((E9.out.swap.step hO.nd hO.st).swap.alloc (outR (.slice ao1 L.length cap1) (.slice ao2 M.length cap2)))
                rw [← hpl.out] at E10
                have O10 := hide ((O9.out.step (X' := TX p q B B6 F1 F9) hO.st.fr (fun _ e => .inr e) (fun x e => by
                  rcases e with e | e
                  · exact .inl (.inl e)
                  · rcases hO.st.new x e with e | e
                    · exact .inl (.inr e)
                    · exact .inr e)).below (V' := w9.alloc (outR (.slice ao1 L.length cap1) (.slice ao2 M.length cap2))) ((Below.refl _ _).alloc (Nat.le_refl _) _))
                have vk1 := hide (hO.own.view.alloc (outR (.slice ao1 L.length cap1) (.slice ao2 M.length cap2)))
                have vk2 := hide (hO.dn.alloc (outR (.slice ao1 L.length cap1) (.slice ao2 M.length cap2)))
                have xk := heap_alloc_new w9 (outR (.slice ao1 L.length cap1) (.slice ao2 M.length cap2))
                clear hO E9 O9
                go_upto_region 23 with fail
                obtain ⟨V8, hV8⟩ : ∃ V, w9.alloc (outR (.slice ao1 L.length cap1) (.slice ao2 M.length cap2)) = V := ⟨_, rfl⟩
                rw [hV8] at E10 O10 vk1 vk2 xk
                dsimp only [outR] at hV8
                rw [hV8]
                clear hV8
                obtain ⟨k8, hk8⟩ : ∃ k, Hid (w9.heap.size = k) := ⟨_, hide rfl⟩
                rw [hk8.out] at xk
                rw [hk8.out]
                obtain ⟨x0, x1, -⟩ := out_at xk
                clear xk
                obtain ⟨-, -, -, kO⟩ := view_atO O10.out.own.view rfl
                obtain ⟨oO, rfl, hgl, q0, q1⟩ := kO s (by rw [O10.out.len]; exact hlt)
                have hLi := O10.out.lies s hlt
                rw [otO_get] at q0 q1
                obtain ⟨x, hx⟩ : ∃ x, otO O s = x := ⟨_, rfl⟩
                rw [hx] at q0 q1
                rw [hx, hL.out, hM.out] at hLi
                obtain ⟨u1, u2, z1, z2, -, -⟩ := hLi
                replace z1 := hide z1
                replace z2 := hide z2
                clear kO hx
                go_wp2_with fail
                refine wp_region_noPanic ?_
                refine wp_region_held_drew (S := (fun w' => w'.cell? ⟨k8, 0, none⟩ = some (.slice ao1 L.length cap1) ∧ w'.cell? ⟨k8, 1, none⟩ = some (.slice ao2 M.length cap2) ∧ w'.cell? ⟨g, oO + s * 2, none⟩ = some (.slice x.xa x.xn x.xc) ∧ w'.cell? ⟨g, oO + s * 2 + 1, none⟩ = some (.slice x.ya x.yn x.yc))) (by kernel_rfl) ?_ (fun hHeld => ?_)
                · exact ⟨x0, x1, q0, q1⟩
                refine hTk 0 81 hHeld ?_
                refine hTk 1 82 hHeld ?_
                refine hTk 2 83 hHeld ?_
                refine hTk 3 84 hHeld ?_
                refine hTk 4 85 hHeld ?_
                refine hTk 5 86 hHeld ?_
                refine hTk 6 87 hHeld ?_
                refine hNo 7 fun K hK => ?_
                go_simp
                go_at_call 22
                refine (sameT_c _ _ g1 u1 L _ (by exact vk1.out.carry (fun _ _ => rfl)) (by exact z1.out.carry (fun _ _ => rfl))).mono ?_
                rintro e w12 ⟨rfl, n1, rfl⟩
                refine hK.out _ _ ?_ fun hHeld => ?_
                · exact ⟨x0, x1, q0, q1⟩
                clear hK K
                try simp only [Act.put, za, zb, zc]
                refine hTk 8 89 hHeld ?_
                refine hTk 9 90 hHeld ?_
                refine hTk 10 91 hHeld ?_
                refine hTk 11 92 hHeld ?_
                refine hTk 12 93 hHeld ?_
                refine hTk 13 94 hHeld ?_
                refine hTk 14 95 hHeld ?_
                refine hTk 15 96 hHeld ?_
                refine hTk 16 97 hHeld ?_
                refine hNo 17 fun K hK => ?_
                go_simp
                go_at_call 23
                refine (doneD_c _ _ g2 u2 M _ (by exact vk2.out.carry (fun _ _ => rfl)) (by exact z2.out.carry (fun _ _ => rfl))).mono ?_
                rintro e w13 ⟨rfl, n2, rfl⟩
                refine hK.out _ _ ?_ fun hHeld => ?_
                · exact ⟨x0, x1, q0, q1⟩
                clear hK K
                try simp only [Act.put, za, zb, zc]
                refine hTk 18 99 hHeld ?_
                refine hTk 19 100 hHeld ?_
                refine wpAnyH_done (by kernel_rfl) (NoPanic.normal ?_) _
                clear hHeld
                go_wp2_with fail
                go_roundw
                case rel => exact ⟨s + 1, N2 + 3, F9, by omega, by simp, by have := hN2.out; omega, E10.out.below (belowN (Below.refl _ _) _), O10.out.below (belowN (Below.refl _ _) _)⟩
                case measure => simp [intOf]; omega
            · obtain rfl : s = t := by omega
              rw [hDe.out, hDp.out] at E8
              have hN8 : Hid (N2 ≤ 1200) := hide (by have := hN2.out; have := hm2.out; have := hN3.out; omega)
              obtain ⟨bu, hbu⟩ : ∃ x, Hid (Dp.P.busy = x) := ⟨_, hide rfl⟩
              obtain ⟨op, hop⟩ : ∃ x, Hid (Dp.P.op = x) := ⟨_, hide rfl⟩
              obtain ⟨Ls, hLs⟩ : ∃ x, Hid (allC Dp.C = x) := ⟨_, hide rfl⟩
              obtain ⟨As, hAs⟩ : ∃ x, Hid (Dp.T.A = x) := ⟨_, hide rfl⟩
              as_aux_lemma =>
                go_wp2_with fail
                go_at_call 25
                refine (ndPlace_c p _ _ c id _ Dp _ E8.out.n (by have := hN7.out; omega) bu hbu op hop Ls hLs As hAs).mono ?_
                rintro e w11 ⟨v5, v6, rfl, g12, g13, ho5, ho6, -, -, hb11⟩
                obtain ⟨ao5, cap5, e5, -⟩ := _root_.id ho5
                obtain ⟨ao6, cap6, e6, -⟩ := _root_.id ho6
                subst e5 e6
                have E11 := hide (E8.out.below hb11)
                replace ho5 := hide ho5
                replace ho6 := hide ho6
                clear hb11
                go_wp2_with fail
                go_at_call 25
                refine (ndPlace_c q _ _ c id _ Dp _ E11.out.k (by have := hN8.out; omega) bu hbu op hop Ls hLs As hAs).mono ?_
                rintro e w12 ⟨v7, v8, rfl, g14, g15, ho7, ho8, -, -, hb12⟩
                obtain ⟨ao7, cap7, e7, -⟩ := _root_.id ho7
                obtain ⟨ao8, cap8, e8, -⟩ := _root_.id ho8
                subst e7 e8
                have E12 := hide (E11.out.below hb12)
                have q5 := hide (ho5.out.below hb12)
                have q6 := hide (ho6.out.below hb12)
                replace ho7 := hide ho7
                replace ho8 := hide ho8
                clear hb12
                go_wp2_with fail
                go_at_call 24
                refine (sameP_c _ _ _ _ bu op g12 g14 g13 g15 Ls As _ q5.out.view ho7.out.view q6.out.view ho8.out.view).mono ?_
                rintro e w13 ⟨rfl, hb13⟩
                replace hb13 := hide hb13
                go_wp2_with fail
                go_ret
                exact ⟨rfl, E12.out.bel.trans (hb13.out.mono E12.out.bel.size)⟩
theorem NodeCopies_walk (n bl tt cs cy cc cu ct cp : Int) (id : Int) (v : Value) (A : List Ac) (w : World) (hT : Hid (Tab w)) (h1 : ActsAt w.heap.size w v A) : Calls Tryz.prog 10 #[.agg #[.int .i64 n, .int .i64 bl, .int .i64 tt, .int .i64 cs, .int .i64 cy, .int .i64 cc, .int .i64 cu, .int .i64 ct, .int .i64 cp], .int .i64 id, v] w fun e w' => e = .returned (.bool true) ∧ Below w.heap.size w w' := by
  obtain ⟨ao, cap, rfl, hlc, hmx, hcs⟩ := _root_.id h1
  by_cases h : cfgZ n bl tt cs cy cc cu ct cp = 0 ∧ nodeB id n = true ∧ A.length ≤ 200
  · by_cases hz : A.length = 0
    · obtain rfl : A = [] := List.eq_nil_of_length_eq_zero hz
      exact copiesNil_walk ⟨n, bl, tt, cs, cy, cc, cu, ct, cp⟩ id ao cap w hT (hide h.1) (hide h.2.1) (Classical.em _)
    · obtain ⟨b, o', rfl, hbB, -⟩ := acts_row h1 (show 0 < A.length by omega)
      exact copiesOk_walk ⟨n, bl, tt, cs, cy, cc, cu, ct, cp⟩ id b o' cap A w hT (hide h1) (hide h.2.2) (by omega) hlc (hide hbB) (hide h.1) (hide h.2.1)
  · exact copiesNo_walk ⟨n, bl, tt, cs, cy, cc, cu, ct, cp⟩ id ao A.length cap w hT (by unfold maxLen at hmx; omega) h
end Go.Proofs.YtoenjdnccgmhoaaGreatDoor
