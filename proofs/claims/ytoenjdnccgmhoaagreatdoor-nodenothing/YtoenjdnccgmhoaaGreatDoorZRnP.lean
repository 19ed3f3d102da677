/- layer 15: RnP, put together. -/
import Derived.Test.YtoenjdnccgmhoaaGreatDoorZRnC
import Derived.Test.YtoenjdnccgmhoaaGreatDoorZRcF
import Derived.Test.YtoenjdnccgmhoaaGreatDoorZRtE
import Derived.Test.YtoenjdnccgmhoaaGreatDoorB43
namespace Go.Proofs.YtoenjdnccgmhoaaGreatDoor
open Go.ChangeShapes Go.WideShapes Go.ChangeAt Go.RowKit
set_option linter.unusedSimpArgs false
set_option linter.unusedVariables false
set_option maxRecDepth 10000
attribute [local go_sem, local simp] over_const setCell_drewN alloc_drewN Over.cell Over.frozen lt_s1 lt_s2 lt_s3 le_s0 le_s1 le_s2 le_s3 eq_s0 eq_s1 eq_s2 qe_s0
theorem clamp_bd (x a b : Int) (h : a ≤ b) : a ≤ clampZ x a b ∧ clampZ x a b ≤ b := by unfold clampZ; (repeat' split) <;> omega
theorem rz_ca {w : World} {k1 p : Nat} {Fr Ft : Nat → Prop} {a b : Int} (h : RcAt w k1 p Fr Ft (clampZ a 1 64) (clampZ b 1 16) [] []) : RcIs w k1 Ft (clampZ a 1 64) (clampZ b 1 16) 0 0 ⟨[], fun _ => bun0⟩ := by
  have h1 := clamp_bd a 1 64 (by decide)
  have h2 := clamp_bd b 1 16 (by decide)
  exact ⟨CInv.new ⟨h1.1, h1.2, h2.1, h2.2, by simp, by simp, fun k => by simp [part]; omega⟩, p, Fr, [], h, ⟨fun x => rfl, Nat.le_refl _⟩⟩
theorem rz_tb {w : World} {k : Nat} (h : w.heap[k]? = some tabO) : RtIs w k k k [] [] :=
  ⟨ob_lt h, ⟨none, 0, cell_of_row _ _ _ _ _ _ h, view_nilA _ _⟩, ⟨none, 0, cell_of_row _ _ _ _ _ _ h, view_nilA _ _⟩, frozen_of_row _ _ _ _ _ h, frozen_of_row _ _ _ _ _ h, fun e => absurd rfl e, fun e => absurd rfl e⟩
theorem allC_nil : allC ⟨[], fun _ => bun0⟩ = [] := by simp [allC, listA]
set_option maxHeartbeats 4000000 in
theorem rnPlaceZ_c (q : Nat) (c : Cf) (id : Int) (w : World) (n0 : Nat) (h : RnZ w n0 q c id) : Calls Tryz.prog 26 #[ptr q] w fun e w' => ∃ v1 v2, e = .returned (.agg #[v1, .bool false, .int .i64 0, .bool false, .int .i64 0, v2]) ∧ ∃ g1 g2, OwnL w' v1 g1 [] ∧ OwnA w' v2 g2 [] ∧ Below w.heap.size w w' := by
  obtain ⟨k1, p, Fr, Ft, k2, k3, h1, h2, h3, h4, -⟩ := h
  have hql := ob_lt h1
  have hk2l := ob_lt h3
  have hk3l := ob_lt h4
  replace h1 := hide h1
  replace h2 := hide h2
  replace h3 := hide h3
  replace h4 := hide h4
  go_enter Tryz.func26, Tryz.ntmps26
  go_upto_region 1 with fail
  refine name_world ?_
  intro V hV
  have hR : V.heap[w.heap.size]? = some (.cells #[.slice none 0 0, .bool false, .int .i64 0, .bool false, .int .i64 0, .slice none 0 0] 62) := by rw [← hV]; exact heap_alloc_new w _
  have hB : Hid (Below w.heap.size w V) := by rw [← hV]; exact hide (by all_goals exact belEnd)
  have hRl0 : w.heap.size < V.heap.size := by rw [← hV]; simp
  obtain ⟨R, hRe⟩ : ∃ R, Hid (w.heap.size = R) := ⟨_, hide rfl⟩
  rw [hRe.out] at hR hRl0 ⊢
  have hRl := hRl0
  clear hV hRl0
  have hqR : ¬ q = R := by have := hRe.out; omega
  have hkR : ¬ k3 = R := by have := hRe.out; omega
  have hq1 := hide ((hB.out.block _ hql).trans h1.out)
  have hc1 := hide (h2.out.carry (fun b _ hl => hB.out.block b hl))
  have ht1 := hide ((hB.out.block _ hk2l).trans h3.out)
  have hp1 := hide ((hB.out.block _ hk3l).trans h4.out)
  have hk2 : k2 < V.heap.size := Nat.lt_of_lt_of_le hk2l hB.out.size
  have hS : Hid (∀ w', Below V.heap.size V w' → w'.cell? ⟨q, 10, none⟩ = some (ptr k1) ∧ w'.cell? ⟨q, 11, none⟩ = some (ptr k2) ∧ w'.cell? ⟨q, 12, none⟩ = some (ptr k3) ∧ w'.cell? ⟨k3, 3, none⟩ = some (.int .i64 0) ∧ w'.cell? ⟨k3, 4, none⟩ = some (.bool false) ∧ w'.cell? ⟨k3, 5, none⟩ = some (.int .i64 0) ∧ w'.cell? ⟨k3, 6, none⟩ = some (.bool false)) := hide (fun w' hb => by
    have e1 := (hb.block _ (ob_lt hq1.out)).trans hq1.out
    have e2 := (hb.block _ (ob_lt hp1.out)).trans hp1.out
    exact ⟨cell_of_row _ _ _ _ _ _ e1, cell_of_row _ _ _ _ _ _ e1, cell_of_row _ _ _ _ _ _ e1, cell_of_row _ _ _ _ _ _ e2, cell_of_row _ _ _ _ _ _ e2, cell_of_row _ _ _ _ _ _ e2, cell_of_row _ _ _ _ _ _ e2⟩)
  have hD : Below V.heap.size V V.drew := (Below.refl _ _).drew
  clear h1 h2 h3 h4
  go_wp2_with fail
  refine wp_region_noPanic ?_
  refine wp_region_held_drew (S := (fun w' => w'.cell? ⟨q, 10, none⟩ = some (ptr k1) ∧ w'.cell? ⟨q, 11, none⟩ = some (ptr k2) ∧ w'.cell? ⟨q, 12, none⟩ = some (ptr k3) ∧ w'.cell? ⟨k3, 3, none⟩ = some (.int .i64 0) ∧ w'.cell? ⟨k3, 4, none⟩ = some (.bool false) ∧ w'.cell? ⟨k3, 5, none⟩ = some (.int .i64 0) ∧ w'.cell? ⟨k3, 6, none⟩ = some (.bool false))) (by kernel_rfl) ?_ (fun hHeld => ?_)
  · exact hS.out _ hD
  refine hTk 0 3 hHeld ?_
  refine hTk 1 4 hHeld ?_
  refine hTk 2 5 hHeld ?_
  refine hTk 3 6 hHeld ?_
  refine hTk 5 8 hHeld ?_
  refine hTk 6 9 hHeld ?_
  refine hTk 7 10 hHeld ?_
  refine hTk 8 11 hHeld ?_
  refine hTk 9 12 hHeld ?_
  refine hTk 10 13 hHeld ?_
  refine hTk 11 14 hHeld ?_
  refine hTk 12 15 hHeld ?_
  refine hTk 13 16 hHeld ?_
  refine hTk 14 17 hHeld ?_
  refine hTk 15 18 hHeld ?_
  refine hTk 16 19 hHeld ?_
  refine hTk 17 20 hHeld ?_
  refine hTk 18 21 hHeld ?_
  refine hTk 19 22 hHeld ?_
  refine hTk 20 23 hHeld ?_
  refine hTk 21 24 hHeld ?_
  refine hTk 22 25 hHeld ?_
  refine hNo 4 fun K hK => ?_
  go_simp
  go_at_call 64
  refine (rcAll_c k1 Ft _ _ 0 0 ⟨[], fun _ => bun0⟩ _ ((rz_ca hc1.out).below hD) (by decide)).mono ?_
  rintro e w2 ⟨v1, g1, rfl, hg1, ho1, hb1⟩
  rw [allC_nil] at ho1
  have hB2 : Below V.heap.size V w2 := hD.trans hb1
  refine hK.out _ _ ?_ fun hHeld => ?_
  · exact hS.out _ hB2
  clear hK K
  try simp only [Act.put, za, zb, zc]
  refine hNo 23 fun K hK => ?_
  go_simp
  go_at_call 65
  refine (rtList_c k2 k2 k2 [] [] _ (rz_tb ((hB2.block _ hk2).trans ht1.out)) (by decide)).mono ?_
  rintro e w3 ⟨v2, rfl, g2, ho2, hg2, hb2⟩
  replace ho2 : OwnA w3 v2 g2 [] := ho2
  have hB3 : Below V.heap.size V w3 := hB2.trans (hb2.mono hB2.size)
  have hg1' : V.heap.size ≤ g1 := hg1
  have hg2' : V.heap.size ≤ g2 := Nat.le_trans hB2.size hg2
  replace ho1 := ho1.below hb2
  obtain ⟨ao1, cap1, e1, -⟩ := _root_.id ho1
  obtain ⟨ao2, cap2, e2, -⟩ := _root_.id ho2
  subst e1 e2
  replace ho1 := hide ho1
  replace ho2 := hide ho2
  have hR3 := (hB3.block R hRl).trans hR
  have hR0 : ∀ i u, #[Value.slice none 0 0, .bool false, .int .i64 0, .bool false, .int .i64 0, .slice none 0 0][i]? = some u → w3.cell? ⟨R, i, none⟩ = some u := fun i u hu => (cell_of_row _ _ _ _ _ _ hR3).trans hu
  obtain ⟨r0, r1, r2, r3, r4, r5⟩ : w3.cell? ⟨R, 0, none⟩ = some (.slice none 0 0) ∧ w3.cell? ⟨R, 1, none⟩ = some (.bool false) ∧ w3.cell? ⟨R, 2, none⟩ = some (.int .i64 0) ∧ w3.cell? ⟨R, 3, none⟩ = some (.bool false) ∧ w3.cell? ⟨R, 4, none⟩ = some (.int .i64 0) ∧ w3.cell? ⟨R, 5, none⟩ = some (.slice none 0 0) := ⟨hR0 _ _ rfl, hR0 _ _ rfl, hR0 _ _ rfl, hR0 _ _ rfl, hR0 _ _ rfl, hR0 _ _ rfl⟩
  have z : ∀ i, w3.frozen? ⟨R, i, none⟩ = false := fun i => frozen_of_row _ _ _ _ _ hR3
  have hRl3 : R < w3.heap.size := Nat.lt_of_lt_of_le hRl hB3.size
  have hS3 := hS.out w3 hB3
  obtain ⟨s0, s1, s2, s3, s4, s5, s6⟩ := hS3
  have hB4 := hide hB3
  refine hK.out _ _ ?_ fun hHeld => ?_
  · exact ⟨s0, s1, s2, s3, s4, s5, s6⟩
  clear hK K
  try simp only [Act.put, za, zb, zc]
  clear hS hR0 hR3 hR hB3
  refine hTk 24 27 hHeld ?_
  refine hNo 25 fun K hK => ?_
  go_simp
  refine hK.out _ _ ?_ fun hHeld => ?_
  · exact ⟨by simp [go_sem, *], by simp [go_sem, *], by simp [go_sem, *], by simp [go_sem, *], by simp [go_sem, *], by simp [go_sem, *], by simp [go_sem, *]⟩
  clear hK K
  try simp only [Act.put, za, zb, zc]
  refine wpAnyH_done (by kernel_rfl) (NoPanic.normal ?_) _
  clear hHeld
  go_wp2_with fail
  refine bodyPost_ret (v := .agg #[.slice ao1 0 cap1, .bool false, .int .i64 0, .bool false, .int .i64 0, .slice ao2 0 cap2]) (by simp [results, Tryz.results26, go_sem, *]; done) rfl ⟨_, _, rfl, g1, g2, ?_⟩
  have hF : FrS (· = R) w3 ((((((w3.setCell ⟨R, 0, none⟩ (.slice ao1 0 cap1)).setCell ⟨R, 1, none⟩ (.bool false)).setCell ⟨R, 2, none⟩ (.int .i64 0)).setCell ⟨R, 3, none⟩ (.bool false)).setCell ⟨R, 4, none⟩ (.int .i64 0)).setCell ⟨R, 5, none⟩ (.slice ao2 0 cap2)) := wrP (wrP (wrP (wrP (wrP (wrP (FrS.refl _ _) _) _) _) _) _) _
  have hRw := hRe.out
  refine ⟨ho1.out.fr hF (by omega), ho2.out.fr hF (by omega), ?_⟩
  exact (hB.out.trans (hB4.out.mono hB.out.size)).trans (hF.below (fun i hi => by omega) (by have := hB.out.size; have := hB4.out.size; omega))
set_option maxHeartbeats 2000000 in
theorem madeZ_c (c : Cf) (id : Int) (ao : Option Addr) (n cap : Nat) (w : World) (h0 : Hid (cfgZ c.n c.bl c.tt c.cs c.cy c.cc c.cu c.ct c.cp = 0)) (h1 : Hid (nodeB id c.n = true)) (hn : n ≤ 200) : Calls Tryz.prog 11 #[.agg #[.int .i64 c.n, .int .i64 c.bl, .int .i64 c.tt, .int .i64 c.cs, .int .i64 c.cy, .int .i64 c.cc, .int .i64 c.cu, .int .i64 c.ct, .int .i64 c.cp], .int .i64 id, .slice ao n cap] w fun e w' => ∃ p q, e = .returned (.tuple #[ptr p, ptr q, .bool true]) ∧ ∃ B Fc, NdIs w' p B Fc c id 0 nd0 ∧ (∀ b, Fa p B Fc b → w.heap.size ≤ b) ∧ (∃ n0, (∀ b, Fa p B Fc b → b < n0) ∧ RnZ w' n0 q c id) ∧ Below w.heap.size w w' := by
  have hn2 : ¬ (200 : Int) < n := by omega
  go_enter Tryz.func11, Tryz.ntmps11
  go_upto_region 3 with (first | (go_at_call 13; refine (refConfig_c c.n c.bl c.tt c.cs c.cy c.cc c.cu c.ct c.cp _ 0 h0).mono ?_; rintro e w1 ⟨rfl, hb1⟩; obtain ⟨x, rfl⟩ := over hb1; clear hb1; have f1 := x.upB (w.heap.size)) | (go_at_call 14; refine (refNode_c c.n c.bl c.tt c.cs c.cy c.cc c.cu c.ct c.cp id _ true h1).mono ?_; rintro e w2 ⟨rfl, hb2⟩; obtain ⟨y, rfl⟩ := over2 hb2; clear hb2; have f2 := y.upB (w.heap.size)))
  refine name_world ?_
  intro V hV
  have hB : Hid (Below w.heap.size w V) := by rw [← hV]; exact hide (by all_goals exact belEnd)
  have kc0 : V.heap[w.heap.size]? = some (cfR c) := by rw [← hV]; exact (y.below.block _ (by simp)).trans (heap_alloc_new w _)
  have hkl : w.heap.size < V.heap.size := by rw [← hV]; exact f2
  obtain ⟨kc, hke⟩ : ∃ kc, w.heap.size = kc := ⟨_, rfl⟩
  rw [hke] at kc0 hkl ⊢
  replace hke := hide hke
  clear hV
  obtain ⟨c0, c1, c2, c3, c4, c5, c6, c7, c8⟩ := cf_at kc0
  go_wp2_with fail
  go_at_call 29
  refine (ndNew_c c id _ h0 h1).mono ?_
  rintro e w3 ⟨p, rfl, B, Fc, hn3, hlo3, hb3⟩
  have kc3 := (hb3.block _ hkl).trans kc0
  have hkl3 := Nat.lt_of_lt_of_le hkl hb3.size
  clear c0 c1 c2 c3 c4 c5 c6 c7 c8
  obtain ⟨c0, c1, c2, c3, c4, c5, c6, c7, c8⟩ := cf_at kc3
  have hp3 := hn3.pl
  replace hn3 := hide hn3
  have hB3 := hide (hB.out.trans (hb3.mono hB.out.size))
  have hlo : Hid (∀ b, Fa p B Fc b → w.heap.size ≤ b) := hide (fun b hb => Nat.le_trans hB.out.size (hlo3 b hb))
  clear hb3 hlo3 hB kc0 hkl
  go_wp2_with (go_at_call 30; refine (rnNewZ_c c id _).mono ?_; rintro e w4 ⟨q, rfl, hz4, hb4⟩; replace hz4 := hide hz4; have hn4 := hide (hn3.out.below hb4); have hB4 := hide (hB3.out.trans (hb4.mono hB3.out.size)); clear hb4)
  go_ret3
  exact ⟨_, _, rfl, _, _, hn4.out, hlo.out, ⟨_, hn3.out.lt, hz4.out⟩, hB4.out⟩
end Go.Proofs.YtoenjdnccgmhoaaGreatDoor
