/- layer 15: Law15 Law15b Made15, put together. -/
import Derived.Test.YtoenjdnccgmhoaaGreatDoorB38
import Derived.Test.YtoenjdnccgmhoaaGreatDoorB30
import Derived.Test.YtoenjdnccgmhoaaGreatDoorB40
import Derived.Test.YtoenjdnccgmhoaaGreatDoorB41
import Derived.Test.YtoenjdnccgmhoaaGreatDoorB42
import Derived.Test.YtoenjdnccgmhoaaGreatDoorB31
namespace Go.Proofs.YtoenjdnccgmhoaaGreatDoor
open Go.ChangeShapes Go.WideShapes Go.ChangeAt Go.RowKit
set_option linter.unusedSimpArgs false
set_option linter.unusedVariables false
set_option maxRecDepth 10000
attribute [local go_sem, local simp] over_const setCell_drewN alloc_drewN Over.cell Over.frozen lt_s1 lt_s2 lt_s3 le_s0 le_s1 le_s2 le_s3 eq_s0 eq_s1 eq_s2 qe_s0
set_option maxHeartbeats 2000000 in
theorem sameT_c (v1 v2 : Value) (b1 b2 : Nat) (L : List Lt) (w : World) (h1 : ViewT w v1 b1 L) (h2 : ViewT w v2 b2 L) : Calls Tryz.prog 22 #[v1, v2] w fun e w' => e = .returned (.bool true) ∧ ∃ n, w' = w.drewN n := by
  obtain ⟨ao1, cap1, rfl, -⟩ := id h1
  obtain ⟨ao2, cap2, rfl, -⟩ := id h2
  obtain ⟨-, hl1, hm1, hc1⟩ := view_atT h1 rfl
  obtain ⟨-, hl2, hm2, hc2⟩ := view_atT h2 rfl
  have hC1 := hide hc1
  have hC2 := hide hc2
  have hmx : L.length ≤ 9223372036854775807 := by unfold maxLen at hm1; omega
  clear hc1 hc2 h1 h2
  go_enter Tryz.func22, Tryz.ntmps22
  go_wp2_with fail
  go_loopw [5] (fun i wr => ∃ j : Nat, j ≤ L.length ∧ i = .int .i64 j ∧ ∃ n, wr = w.drewN n) (fun i _ => L.length - (intOf i).toNat)
  case atStart => exact ⟨0, Nat.zero_le _, rfl, 0, rfl⟩
  case round =>
    obtain ⟨j, hj, rfl, n, rfl⟩ := hrel
    by_cases hlt : j < L.length
    · obtain ⟨o1, rfl, g1, k1⟩ := unhide hC1 j hlt
      obtain ⟨o2, rfl, g2, k2⟩ := unhide hC2 j hlt
      obtain ⟨l, hl⟩ : ∃ l, L[j] = l := ⟨_, rfl⟩
      rw [hl] at k1 k2
      obtain ⟨d0, d1, d2, d3, d4, d5, d6, d7, d8, d9, d10⟩ := k1
      obtain ⟨f0, f1, f2, f3, f4, f5, f6, f7, f8, f9, f10⟩ := k2
      have hlt' : (j : Int) < L.length := by omega
      clear hC1 hC2 hl
      go_wp2_with fail
      go_quiet (fail)
      go_wp2_with fail
      all_goals
        go_roundw
        case rel => exact ⟨j + 1, by omega, by simp, _, rfl⟩
        case measure => simp [intOf]; omega
    · obtain rfl : j = L.length := by omega
      clear hC1 hC2
      go_wp2_with fail
      go_ret
      exact ⟨rfl, n, rfl⟩
set_option maxHeartbeats 2000000 in
theorem doneD_c (v1 v2 : Value) (b1 b2 : Nat) (L : List Dn) (w : World) (h1 : ViewD w v1 b1 L) (h2 : ViewD w v2 b2 L) : Calls Tryz.prog 23 #[v1, v2] w fun e w' => e = .returned (.bool true) ∧ ∃ n, w' = w.drewN n := by
  obtain ⟨ao1, cap1, rfl, -⟩ := id h1
  obtain ⟨ao2, cap2, rfl, -⟩ := id h2
  obtain ⟨-, hl1, hm1, hc1⟩ := view_atD h1 rfl
  obtain ⟨-, hl2, hm2, hc2⟩ := view_atD h2 rfl
  have hC1 := hide hc1
  have hC2 := hide hc2
  have hmx : L.length ≤ 9223372036854775807 := by unfold maxLen at hm1; omega
  clear hc1 hc2 h1 h2
  go_enter Tryz.func23, Tryz.ntmps23
  go_wp2_with fail
  go_loopw [5] (fun i wr => ∃ j : Nat, j ≤ L.length ∧ i = .int .i64 j ∧ ∃ n, wr = w.drewN n) (fun i _ => L.length - (intOf i).toNat)
  case atStart => exact ⟨0, Nat.zero_le _, rfl, 0, rfl⟩
  case round =>
    obtain ⟨j, hj, rfl, n, rfl⟩ := hrel
    by_cases hlt : j < L.length
    · obtain ⟨o1, rfl, g1, k1⟩ := unhide hC1 j hlt
      obtain ⟨o2, rfl, g2, k2⟩ := unhide hC2 j hlt
      obtain ⟨l, hl⟩ : ∃ l, L[j] = l := ⟨_, rfl⟩
      rw [hl] at k1 k2
      obtain ⟨d0, d1, d2, d3, d4, d5, d6⟩ := k1
      obtain ⟨f0, f1, f2, f3, f4, f5, f6⟩ := k2
      have hlt' : (j : Int) < L.length := by omega
      clear hC1 hC2 hl
      go_wp2_with fail
      go_quiet (fail)
      go_wp2_with fail
      all_goals
        go_roundw
        case rel => exact ⟨j + 1, by omega, by simp, _, rfl⟩
        case measure => simp [intOf]; omega
    · obtain rfl : j = L.length := by omega
      clear hC1 hC2
      go_wp2_with fail
      go_ret
      exact ⟨rfl, n, rfl⟩
theorem small15_c (w : World) : Calls Tryz.prog 31 #[] w fun e w' => e = .returned (.agg #[.int .i64 2, .int .i64 2, .int .i64 3, .int .i64 1, .int .i64 1, .int .i64 9, .int .i64 1, .int .i64 0, .int .i64 1]) ∧ Below w.heap.size w w' := by
  go_enter Tryz.func31, Tryz.ntmps31
  go_wp2
  go_returns
  exact ⟨rfl, by go_grown⟩
set_option maxHeartbeats 2000000 in
theorem ndNewNo_c (c : Cf) (id : Int) (w : World) (h0 : Hid (cfgZ c.n c.bl c.tt c.cs c.cy c.cc c.cu c.ct c.cp = 0)) (h1 : Hid (c.n ≤ id)) (h2 : Hid (0 ≤ id)) : Calls Tryz.prog 29 #[.agg #[.int .i64 c.n, .int .i64 c.bl, .int .i64 c.tt, .int .i64 c.cs, .int .i64 c.cy, .int .i64 c.cc, .int .i64 c.cu, .int .i64 c.ct, .int .i64 c.cp], .int .i64 id] w fun e w' => e = .returned (.tuple #[.pointer none, .int .i64 2]) ∧ Below w.heap.size w w' := by
  have g1 : ¬ id < 0 := by have := h2.out; omega
  have g2 : c.n ≤ id := h1.out
  go_enter Tryz.func29, Tryz.ntmps29
  go_wp2_with (go_at_call 68; refine (cfgErr_c c.n c.bl c.tt c.cs c.cy c.cc c.cu c.ct c.cp _ 0 h0).mono ?_; rintro e w1 ⟨rfl, hb1⟩; obtain ⟨x, rfl⟩ := over hb1; clear hb1; have f1 := x.upB (w.heap.size))
  go_ret2
  exact ⟨rfl, by all_goals exact belEnd⟩
theorem Step.belowW {w w0 w' : World} {F F' : Nat → Prop} (h : Step F F' w0 w') (hb : Below w.heap.size w w0) (hF : ∀ b, F b → w.heap.size ≤ b) : Below w.heap.size w w' := hb.trans (h.fr.below hF hb.size)
theorem Step.lo {w0 w' : World} {n : Nat} {F F' : Nat → Prop} (h : Step F F' w0 w') (hF : ∀ b, F b → n ≤ b) (hn : n ≤ w0.heap.size) : ∀ b, F' b → n ≤ b := fun b hb => by rcases h.new b hb with e | e; exact hF b e; omega
abbrev cf0 : Cf := ⟨2, 2, 3, 1, 1, 9, 1, 0, 1⟩
abbrev opA : Op3 := ⟨1, false, 0⟩
abbrev ltA : Lt := ⟨1, 2, 0, 1, 0, 0, false, 3, true, true, 7⟩
theorem aw_L : isL cf0 0 nd0 opA 0 0 = [⟨2, 0, 1, 1, 0, 0, false, 0, false, false, 0⟩, ⟨2, 0, 2, 1, 0, 0, false, 0, false, false, 0⟩] := by kernel_rfl
theorem aw_M : isN cf0 0 nd0 opA = [] := by kernel_rfl
theorem aw_ok : isOk cf0 nd0 opA = true := by kernel_rfl
theorem aw_L2 : tkL cf0 0 (nxIs cf0 0 nd0 opA) ltA 0 0 = [] := by kernel_rfl
theorem aw_M2 : tkN cf0 0 (nxIs cf0 0 nd0 opA) ltA = [⟨0, 1, 1, false, 0, 7, 0⟩] := by kernel_rfl
theorem aw_bu : (nxTake cf0 0 (nxIs cf0 0 nd0 opA) ltA 0 0).P.busy = false := by kernel_rfl
theorem aw_all : allC (nxTake cf0 0 (nxIs cf0 0 nd0 opA) ltA 0 0).C = [⟨1, ⟨3, true, true, 7⟩⟩] := by kernel_rfl
theorem view_twoT (w : World) (a b : Lt) : ViewT (w.alloc (.cells (flatLt [a, b]).toArray 37)) (.slice (some ⟨w.heap.size, 0, none⟩) 2 2) w.heap.size [a, b] :=
  ⟨_, 2, rfl, Nat.le_refl _, by decide, .inr ⟨0, rfl, by simp, fun j hj => by
    rw [Nat.zero_add]
    exact (cell_of_row _ _ _ _ _ _ (heap_alloc_new w _)).trans (by simp)⟩⟩
theorem Tab.lowB {w w' : World} (h : Tab w) (hb : Below w.heap.size w w') : Tab w' := h.step (F := fun _ => False) (F' := fun _ => False) (Step.of_below hb) (fun h => h)
theorem aw_op : (nxIs cf0 0 nd0 opA).P.op.b = 1 := by kernel_rfl
set_option maxHeartbeats 8000000 in
theorem awake15_c (w : World) (hT : Hid (Tab w)) : Calls Tryz.prog 12 #[] w fun e w' => e = .returned (.bool true) ∧ Below w.heap.size w w' := by
  go_enter Tryz.func12, Tryz.ntmps12
  go_wp2_with fail
  go_at_call 31
  refine (small15_c _).mono ?_
  rintro e w0 ⟨rfl, hb0⟩
  go_wp2_with fail
  go_at_call 29
  refine (ndNew_c cf0 0 _ (hide (by decide)) (hide (by decide))).mono ?_
  rintro e w1 ⟨p, rfl, B, Fc, hn1, hlo1, hb1⟩
  have hlo : ∀ b, Fa p B Fc b → w.heap.size ≤ b := fun b hb => Nat.le_trans hb0.size (hlo1 b hb)
  have hB1 : Below w.heap.size w w1 := hb0.trans (hb1.mono hb0.size)
  clear hlo1 hb0 hb1
  replace hn1 := hide hn1
  replace hB1 := hide hB1
  go_wp2_with fail
  go_at_call 31
  refine (small15_c _).mono ?_
  rintro e w2 ⟨rfl, hb2⟩
  go_wp2_with fail
  go_at_call 29
  refine (ndNewNo_c cf0 2 _ (hide (by decide)) (hide (by decide)) (hide (by decide))).mono ?_
  rintro e w3 ⟨rfl, hb3⟩
  have hb13 : Below w1.heap.size w1 w3 := hb2.trans (hb3.mono hb2.size)
  have Q3 : Hid (At5 w3 w3 p B Fc Fc cf0 0 0 nd0 []) := hide ⟨hn1.out.below hb13, fun x hx => (by cases hx), Step.refl _ _⟩
  have hB3 : Hid (Below w.heap.size w w3) := hide (hB1.out.trans (hb13.mono hB1.out.size))
  clear hb2 hb3 hb13 hn1 hB1
  go_wp2_with fail
  go_at_call 15
  refine (ndIssue_c p B Fc cf0 0 0 nd0 opA 0 0 0 _ Q3.out.n (by decide) true (hide aw_ok) _ (hide aw_L) _ (hide aw_M)).mono ?_
  rintro e w4 ⟨v1, v2, rfl, Fc4, g1, g2, hO⟩
  obtain ⟨ao1, cap1, e1, -⟩ := id hO.own
  obtain ⟨ao2, cap2, e2, -⟩ := id hO.dn
  have e1' : v1 = .slice ao1 2 cap1 := e1
  have e2' : v2 = .slice ao2 0 cap2 := e2
  subst e1' e2'
  clear e1 e2
  have Q4 := hide ((Q3.out.step hO.nd hO.st).new (outR (.slice ao1 2 cap1) (.slice ao2 0 cap2)))
  have ow4 := hide (hO.own.alloc (outR (.slice ao1 2 cap1) (.slice ao2 0 cap2)))
  have nf4 := hO.nf1
  have hl4 := hO.own.lt
  clear hO Q3
  obtain ⟨k5, hk5⟩ : ∃ k, Hid (w4.heap.size = k) := ⟨_, hide rfl⟩
  obtain ⟨V4, hV4⟩ : ∃ V, w4.alloc (outR (.slice ao1 2 cap1) (.slice ao2 0 cap2)) = V := ⟨_, rfl⟩
  rw [hk5.out, hV4] at Q4
  rw [hV4] at ow4
  go_wp2_with fail
  rw [hk5.out]
  clear hV4
  have hB4 : Hid (Below w.heap.size w V4) := hide (Q4.out.s.belowW hB3.out hlo)
  have hop4 : I64 (nxIs cf0 0 nd0 opA).P.op.b := by rw [aw_op]; exact ⟨by decide, by decide⟩
  go_at_call 17
  refine (ndTake_c p B Fc4 cf0 0 _ _ ltA 0 0 0 _ Q4.out.n (hide (hT.out.lowB hB4.out)) (by decide) ⟨by decide, by decide⟩ hop4 _ (hide aw_L2) _ (hide aw_M2)).mono ?_
  rintro e w5 ⟨v3, v4, rfl, Fc5, g3, g4, hO⟩
  obtain ⟨ao3, cap3, e3, -⟩ := id hO.own
  obtain ⟨ao4, cap4, e4, -⟩ := id hO.dn
  have e3' : v3 = .slice ao3 0 cap3 := e3
  have e4' : v4 = .slice ao4 1 cap4 := e4
  subst e3' e4'
  clear e3 e4
  have ow5 := hide (ow4.out.fr hO.st.fr nf4)
  have dn5 := hide (hO.dn.alloc (outR (.slice ao3 0 cap3) (.slice ao4 1 cap4)))
  have Q5 := hide ((Q4.out.step hO.nd hO.st).new (outR (.slice ao3 0 cap3) (.slice ao4 1 cap4)))
  replace ow5 := hide (ow5.out.alloc (outR (.slice ao3 0 cap3) (.slice ao4 1 cap4)))
  clear hO Q4 ow4 nf4
  obtain ⟨k7, hk7⟩ : ∃ k, Hid (w5.heap.size = k) := ⟨_, hide rfl⟩
  obtain ⟨V5, hV5⟩ : ∃ V, w5.alloc (outR (.slice ao3 0 cap3) (.slice ao4 1 cap4)) = V := ⟨_, rfl⟩
  rw [hk7.out, hV5] at Q5
  rw [hV5] at ow5 dn5
  go_wp2_with fail
  rw [hk7.out]
  clear hV5
  obtain ⟨opz, hopz⟩ : ∃ x, Hid ((nxTake cf0 0 (nxIs cf0 0 nd0 opA) ltA 0 0).P.op = x) := ⟨_, hide rfl⟩
  obtain ⟨As, hAs⟩ : ∃ x, Hid ((nxTake cf0 0 (nxIs cf0 0 nd0 opA) ltA 0 0).T.A = x) := ⟨_, hide rfl⟩
  go_at_call 25
  refine (ndPlace_c p B Fc5 cf0 0 _ _ _ Q5.out.n (by decide) false (hide aw_bu) opz hopz _ (hide aw_all) As hAs).mono ?_
  rintro e w6 ⟨v5, v6, rfl, g5, g6, ho5, ho6, hg5, hg6, hb6⟩
  obtain ⟨ao5, cap5, e5, -⟩ := id ho5
  obtain ⟨ao6, cap6, e6, -⟩ := id ho6
  have e5' : v5 = .slice ao5 1 cap5 := e5
  subst e5' e6
  clear e5
  have Q6 := hide (Q5.out.below hb6)
  have ow6 := hide (ow5.out.below hb6)
  have dn6 := hide (dn5.out.carry (fun _ h1 => hb6.block _ h1))
  clear Q5 ow5 dn5 hb6 hg5 hg6 ho5 ho6
  obtain ⟨q7, o7⟩ := bz_get Q6.out.x (k := k7) (o := outR (.slice ao3 0 cap3) (.slice ao4 1 cap4)) (by simp)
  obtain ⟨q5, o5⟩ := bz_get Q6.out.x (k := k5) (o := outR (.slice ao1 2 cap1) (.slice ao2 0 cap2)) (by simp)
  obtain ⟨x0, x1, -⟩ := out_at o7
  obtain ⟨y0, y1, -⟩ := out_at o5
  clear o7 o5
  go_wp2_with fail
  obtain ⟨pl, hpl⟩ : ∃ o : Obj, (Obj.cells #[.slice ao5 1 cap5, .bool false, .int .i64 opz.b, .bool opz.w, .int .i64 opz.v, .slice ao6 As.length cap6] 62) = o := ⟨_, rfl⟩
  have hv2 := view_twoT (w6.alloc (.cells #[.slice ao5 1 cap5, .bool false, .int .i64 opz.b, .bool opz.w, .int .i64 opz.v, .slice ao6 As.length cap6] 62)) ⟨2, 0, 1, 1, 0, 0, false, 0, false, false, 0⟩ ⟨2, 0, 2, 1, 0, 0, false, 0, false, false, 0⟩
  rw [World.size_alloc] at hv2
  go_at_call 22
  refine (sameT_c _ _ g1 (w6.heap.size + 1) _ _ ((ow6.out.alloc _).alloc _).view hv2).mono ?_
  rintro e w7 ⟨rfl, n7, rfl⟩
  clear hv2 hpl pl
  go_wp2_with fail
  have hv3 := view_oneD ((w6.alloc (.cells #[.slice ao5 1 cap5, .bool false, .int .i64 opz.b, .bool opz.w, .int .i64 opz.v, .slice ao6 As.length cap6] 62)).alloc (.cells (flatLt [⟨2, 0, 1, 1, 0, 0, false, 0, false, false, 0⟩, ⟨2, 0, 2, 1, 0, 0, false, 0, false, false, 0⟩]).toArray 37)) ⟨0, 1, 1, false, 0, 7, 0⟩
  simp only [World.size_alloc] at hv3
  go_at_call 23
  refine (doneD_c _ _ g4 (w6.heap.size + 1 + 1) [⟨0, 1, 1, false, 0, 7, 0⟩] _ ?_ ?_).mono ?_
  · exact (((dn6.out.alloc _).alloc _).alloc _).carry (fun _ _ => rfl)
  · exact hv3.carry (fun _ _ => rfl)
  rintro e w8 ⟨rfl, n8, rfl⟩
  clear hv3
  go_wp2_with fail
  go_ret
  refine ⟨rfl, ?_⟩
  have hB6 := Q6.out.s.belowW hB3.out hlo
  have hsz := hB6.size
  all_goals exact belEnd
set_option maxHeartbeats 2000000 in
theorem madeNo_c (c : Cf) (id : Int) (ao : Option Addr) (n cap : Nat) (w : World) (h : ¬ (cfgZ c.n c.bl c.tt c.cs c.cy c.cc c.cu c.ct c.cp = 0 ∧ nodeB id c.n = true ∧ n ≤ 200)) (hn : n ≤ 9223372036854775807) : Calls Tryz.prog 11 #[.agg #[.int .i64 c.n, .int .i64 c.bl, .int .i64 c.tt, .int .i64 c.cs, .int .i64 c.cy, .int .i64 c.cc, .int .i64 c.cu, .int .i64 c.ct, .int .i64 c.cp], .int .i64 id, .slice ao n cap] w fun e w' => e = .returned (.tuple #[.pointer none, .pointer none, .bool false]) ∧ Below w.heap.size w w' := by
  obtain ⟨z, hz⟩ : ∃ z, Hid (cfgZ c.n c.bl c.tt c.cs c.cy c.cc c.cu c.ct c.cp = z) := ⟨_, rfl⟩
  obtain ⟨q, hq⟩ : ∃ q, Hid (nodeB id c.n = q) := ⟨_, rfl⟩
  rw [hz.out, hq.out] at h
  by_cases ez : z = 0
  · subst ez
    cases q
    · clear h
      go_enter Tryz.func11, Tryz.ntmps11
      go_wp2_with (first | (go_at_call 13; refine (refConfig_c c.n c.bl c.tt c.cs c.cy c.cc c.cu c.ct c.cp _ 0 hz).mono ?_; rintro e w1 ⟨rfl, hb1⟩; obtain ⟨x, rfl⟩ := over hb1; clear hb1; have f1 := x.upB (w.heap.size)) | (go_at_call 14; refine (refNode_c c.n c.bl c.tt c.cs c.cy c.cc c.cu c.ct c.cp id _ false hq).mono ?_; rintro e w2 ⟨rfl, hb2⟩; obtain ⟨y, rfl⟩ := over2 hb2; clear hb2; have f2 := y.upB (w.heap.size)))
      go_ret3
      exact ⟨rfl, by all_goals exact belEnd⟩
    · have hn2 : (200 : Int) < n := by
        have : ¬ n ≤ 200 := fun e => h ⟨rfl, rfl, e⟩
        omega
      clear h
      go_enter Tryz.func11, Tryz.ntmps11
      go_wp2_with (first | (go_at_call 13; refine (refConfig_c c.n c.bl c.tt c.cs c.cy c.cc c.cu c.ct c.cp _ 0 hz).mono ?_; rintro e w1 ⟨rfl, hb1⟩; obtain ⟨x, rfl⟩ := over hb1; clear hb1; have f1 := x.upB (w.heap.size)) | (go_at_call 14; refine (refNode_c c.n c.bl c.tt c.cs c.cy c.cc c.cu c.ct c.cp id _ true hq).mono ?_; rintro e w2 ⟨rfl, hb2⟩; obtain ⟨y, rfl⟩ := over2 hb2; clear hb2; have f2 := y.upB (w.heap.size)))
      go_ret3
      exact ⟨rfl, by all_goals exact belEnd⟩
  · obtain ⟨e1, e2, e3⟩ := cmpF ez
    replace ez := hide ez
    clear h
    go_enter Tryz.func11, Tryz.ntmps11
    go_wp2_with (first | (go_at_call 13; refine (refConfig_c c.n c.bl c.tt c.cs c.cy c.cc c.cu c.ct c.cp _ z hz).mono ?_; rintro e w1 ⟨rfl, hb1⟩; obtain ⟨x, rfl⟩ := over hb1; clear hb1; have f1 := x.upB (w.heap.size)) | (go_at_call 14; refine (refNode_c c.n c.bl c.tt c.cs c.cy c.cc c.cu c.ct c.cp id _ q hq).mono ?_; rintro e w2 ⟨rfl, hb2⟩; obtain ⟨y, rfl⟩ := over2 hb2; clear hb2; have f2 := y.upB (w.heap.size)))
    go_ret3
    exact ⟨rfl, by all_goals exact belEnd⟩
set_option maxHeartbeats 2000000 in
theorem madeOk_c (c : Cf) (id : Int) (ao : Option Addr) (n cap : Nat) (w : World) (h0 : Hid (cfgZ c.n c.bl c.tt c.cs c.cy c.cc c.cu c.ct c.cp = 0)) (h1 : Hid (nodeB id c.n = true)) (hn : n ≤ 200) : Calls Tryz.prog 11 #[.agg #[.int .i64 c.n, .int .i64 c.bl, .int .i64 c.tt, .int .i64 c.cs, .int .i64 c.cy, .int .i64 c.cc, .int .i64 c.cu, .int .i64 c.ct, .int .i64 c.cp], .int .i64 id, .slice ao n cap] w fun e w' => ∃ p q, e = .returned (.tuple #[ptr p, ptr q, .bool true]) ∧ ∃ B Fc, NdIs w' p B Fc c id 0 nd0 ∧ (∀ b, Fa p B Fc b → w.heap.size ≤ b) ∧ Below w.heap.size w w' := by
  have hn2 : ¬ (200 : Int) < n := by omega
  go_enter Tryz.func11, Tryz.ntmps11
  go_upto_region 3 with (first | (go_at_call 13; refine (refConfig_c c.n c.bl c.tt c.cs c.cy c.cc c.cu c.ct c.cp _ 0 h0).mono ?_; rintro e w1 ⟨rfl, hb1⟩; obtain ⟨x, rfl⟩ := over hb1; clear hb1; have f1 := x.upB (w.heap.size)) | (go_at_call 14; refine (refNode_c c.n c.bl c.tt c.cs c.cy c.cc c.cu c.ct c.cp id _ true h1).mono ?_; rintro e w2 ⟨rfl, hb2⟩; obtain ⟨y, rfl⟩ := over2 hb2; clear hb2; have f2 := y.upB (w.heap.size)))
  refine name_world ?_
  intro V hV
  have hB : Hid (Below w.heap.size w V) := by rw [← hV]; exact hide (by all_goals exact belEnd)
  have kc0 : V.heap[w.heap.size]? = some (cfR c) := by rw [← hV]; exact (y.below.block _ (by simp)).trans (heap_alloc_new w _)
  have hkl : w.heap.size < V.heap.size := by rw [← hV]; exact f2
  obtain ⟨kc, hke⟩ : ∃ kc, w.heap.size = kc := ⟨_, rfl⟩
  rw [hke] at kc0 hkl ⊢
  replace hke := hide hke
  clear hV
  obtain ⟨c0, c1, c2, c3, c4, c5, c6, c7, c8⟩ := cf_at kc0
  go_wp2_with fail
  go_at_call 29
  refine (ndNew_c c id _ h0 h1).mono ?_
  rintro e w3 ⟨p, rfl, B, Fc, hn3, hlo3, hb3⟩
  have kc3 := (hb3.block _ hkl).trans kc0
  have hkl3 := Nat.lt_of_lt_of_le hkl hb3.size
  clear c0 c1 c2 c3 c4 c5 c6 c7 c8
  obtain ⟨c0, c1, c2, c3, c4, c5, c6, c7, c8⟩ := cf_at kc3
  have hp3 := hn3.pl
  replace hn3 := hide hn3
  have hB3 := hide (hB.out.trans (hb3.mono hB.out.size))
  have hlo : Hid (∀ b, Fa p B Fc b → w.heap.size ≤ b) := hide (fun b hb => Nat.le_trans hB.out.size (hlo3 b hb))
  clear hb3 hlo3 hB kc0 hkl
  go_wp2_with (go_at_call 30; refine (rnNewB_c c id _).mono ?_; rintro e w4 ⟨q, rfl, hb4⟩; have hn4 := hide (hn3.out.below hb4); have hB4 := hide (hB3.out.trans (hb4.mono hB3.out.size)); clear hb4)
  go_ret3
  exact ⟨_, _, rfl, _, _, hn4.out, hlo.out, hB4.out⟩
end Go.Proofs.YtoenjdnccgmhoaaGreatDoor
