/- layer 15: RcC RcF, put together. -/
import Derived.Test.YtoenjdnccgmhoaaGreatDoorB29
import Derived.Test.YtoenjdnccgmhoaaGreatDoorB27
import Derived.Test.YtoenjdnccgmhoaaGreatDoorB25
import Derived.Deep.RegionHeld3
namespace Go.Proofs.YtoenjdnccgmhoaaGreatDoor
open Go.ChangeShapes Go.WideShapes Go.ChangeAt Go.RowKit
set_option linter.unusedSimpArgs false
set_option linter.unusedVariables false
set_option maxRecDepth 10000
attribute [local go_sem, local simp] over_const setCell_drewN alloc_drewN Over.cell Over.frozen lt_s1 lt_s2 lt_s3 le_s0 le_s1 le_s2 le_s3 eq_s0 eq_s1 eq_s2 qe_s0
structure RcIs (w : World) (c : Nat) (Ft : Nat → Prop) (S W N : Int) (K : Nat) (C : Ca) : Prop where
  inv : CInv S W N C
  at' : ∃ p Fr M, RcAt w c p Fr Ft S W C.A M ∧ RelM M C K
theorem RcIs.fc {w : World} {c : Nat} {Ft : Nat → Prop} {S W N : Int} {K : Nat} {C : Ca} (h : RcIs w c Ft S W N K C) : Ft c := by obtain ⟨p, Fr, M, h1, _⟩ := h.at'; exact h1.fc
theorem RcIs.lt {w : World} {c : Nat} {Ft : Nat → Prop} {S W N : Int} {K : Nat} {C : Ca} (h : RcIs w c Ft S W N K C) : ∀ b, Ft b → b < w.heap.size := by obtain ⟨p, Fr, M, h1, _⟩ := h.at'; exact h1.lt
theorem RcIs.carry {w w' : World} {c : Nat} {Ft : Nat → Prop} {S W N : Int} {K : Nat} {C : Ca} (h : RcIs w c Ft S W N K C) (hb : ∀ b, Ft b → b < w.heap.size → w'.heap[b]? = w.heap[b]?) : RcIs w' c Ft S W N K C := by
  obtain ⟨p, Fr, M, h1, h2⟩ := h.at'
  exact ⟨h.inv, p, Fr, M, h1.carry hb, h2⟩
theorem RcIs.below {w w' : World} {c : Nat} {Ft : Nat → Prop} {S W N : Int} {K : Nat} {C : Ca} (h : RcIs w c Ft S W N K C) (hf : Below w.heap.size w w') : RcIs w' c Ft S W N K C := h.carry fun b _ hl => hf.block b hl
theorem RcIs.fr {w w' : World} {c : Nat} {Ft F : Nat → Prop} {S W N : Int} {K : Nat} {C : Ca} (h : RcIs w c Ft S W N K C) (hf : FrS F w w') (hd : ∀ b, Ft b → b < w.heap.size → ¬ F b) : RcIs w' c Ft S W N K C := h.carry fun b hb hl => hf.block b hl (hd b hb hl)
theorem RcIs.mono {w : World} {c : Nat} {Ft : Nat → Prop} {S W N N' : Int} {K K' : Nat} {C : Ca} (h : RcIs w c Ft S W N K C) (hN : N ≤ N') (hK : K ≤ K') : RcIs w c Ft S W N' K' C := by
  obtain ⟨p, Fr, M, h1, h2⟩ := h.at'
  exact ⟨h.inv.mono hN, p, Fr, M, h1, h2.mono hK⟩
set_option maxHeartbeats 2000000 in
theorem rcAll_c (c : Nat) (Ft : Nat → Prop) (S W N : Int) (K : Nat) (C : Ca) (w : World) (h : RcIs w c Ft S W N K C) (hK : K ≤ 100000) : Calls Tryz.prog 64 #[ptr c] w fun e w' => ∃ v g, e = .returned v ∧ w.heap.size ≤ g ∧ OwnL w' v g (allC C) ∧ Below w.heap.size w w' := by
  have hlen := h.inv.inv.len
  obtain ⟨p, Fr, M, hA, hR⟩ := h.at'
  have hM := hR.len
  have hT : Hid (∀ x, findL M x = C.T x) := hR.t
  have c0 := hA.c0
  have hcl := hA.lt c hA.fc
  have hH := hide hA
  have hll := listA_len C.A
  clear h hA hR
  go_enter Tryz.func64, Tryz.ntmps64
  go_wp2_with fail
  go_at_call 111
  refine (rList_c p Fr S W C.A _ ((unhide hH).below (belA0 _ _)).rf).mono ?_
  rintro e w1 ⟨v1, g1, rfl, hg1, hO1, hb1⟩
  have hB1 : Below w.heap.size w w1 := (belA0 w _).trans (hb1.mono (by simp))
  have hE1 : OwnL w1 (.slice (some ⟨w.heap.size, 0, none⟩) 0 0) w.heap.size [] := (own_emptyL w (.cells #[] 68)).below hb1
  have hne : w.heap.size ≠ g1 := by simp at hg1; omega
  have hV1 := hide hO1.view
  have hgl := hO1.lt
  obtain ⟨ao1, cap1, rfl, -⟩ := hO1
  obtain ⟨n, hn⟩ : ∃ n, (listA C.A).length = n := ⟨_, rfl⟩
  rw [hn] at hll hV1 ⊢
  replace hn := hide hn
  replace hb1 := hide hB1
  replace hll := hide hll
  replace hE1 := hide hE1
  have hn1 : n ≤ 1024 := by have := unhide hll; omega
  clear c0 hB1 hg1
  go_wp2_with fail
  go_loopw [3, 5] (fun out i wr => ∃ j g : Nat, j ≤ n ∧ i = .int .i64 j ∧ OwnL wr out g ((allC C).take j) ∧ w.heap.size ≤ g ∧ g ≠ g1 ∧ View wr (.slice ao1 n cap1) g1 (listA C.A) ∧ g1 < wr.heap.size ∧ Below w.heap.size w wr) (fun _ i _ => n - (intOf i).toNat)
  case atStart => exact ⟨0, w.heap.size, Nat.zero_le _, rfl, unhide hE1, Nat.le_refl _, hne, unhide hV1, hgl, unhide hb1⟩
  case round =>
    obtain ⟨j, g, hj, rfl, hO, hg, hgn, hV, hg1l, hb⟩ := hrel
    have hO' := hide hO
    obtain ⟨ao, cap, rfl, -⟩ := hO
    have hl1 : ((allC C).take j).length = j := by rw [List.length_take, allC_len, ← listA_len, unhide hn]; omega
    rw [hl1] at hO' ⊢
    by_cases hlt : j < n
    · obtain ⟨-, -, -, hc⟩ := view_at hV rfl
      have hlt2 : j < (listA C.A).length := by rw [unhide hn]; exact hlt
      have htk := hide (allC_take hlt2)
      obtain ⟨o, rfl, hbA, hcell⟩ := hc j hlt2
      generalize (listA C.A)[j] = y at hcell htk
      have hlt' : (j : Int) < n := by omega
      obtain ⟨z, hz⟩ : ∃ z, Hid (C.T y = z) := ⟨_, rfl⟩
      have hfz : Hid (findL M y = z) := (unhide hT y).trans hz.out
      rw [hz.out] at htk
      replace hV := hide hV
      replace hb := hide hb
      replace hl1 := hide hl1
      clear hc hV1 hb1 hE1
      go_wp2_with fail
      refine wp_region_noPanic ?_
      refine wp_region_held_drew (S := (fun w' => w'.cell? ⟨g1, o + j, none⟩ = some (.int .i64 y))) (by kernel_rfl) ?_ (fun hHeld => ?_)
      · exact hcell
      have hO2 : Hid (OwnL wr.drew (.slice ao j cap) g ((allC C).take j)) := (unhide hO').carry rfl
      have hV2 : Hid (View wr.drew (.slice (some ⟨g1, o, none⟩) n cap1) g1 (listA C.A)) := (unhide hV).carry (fun _ _ => rfl)
      have hb2 : Hid (Below w.heap.size w wr.drew) := (unhide hb).drew
      have hg2l : g1 < wr.drew.heap.size := hg1l
      obtain ⟨w2, hw2⟩ : ∃ w2, wr.drew = w2 := ⟨_, rfl⟩
      rw [hw2] at hO2 hV2 hb2 hg2l hHeld ⊢
      clear hw2 hO' hV hb hcell hbA
      refine hTk 0 18 hHeld ?_
      refine hTk 1 19 hHeld ?_
      refine hTk 2 20 hHeld ?_
      refine hTk 3 21 hHeld ?_
      refine hTk 4 22 hHeld ?_
      refine hTk 5 23 hHeld ?_
      refine hTk 6 24 hHeld ?_
      refine hTk 7 25 hHeld ?_
      refine hTk 8 26 hHeld ?_
      refine hTk 9 27 hHeld ?_
      refine hNo 10 fun K hK => ?_
      go_simp
      go_at_call 46
      refine (rcGet_c c p Fr Ft S W y C.A M w2 ((unhide hH).below (unhide hb2)) (by omega) z hfz).mono ?_
      rintro e w3 ⟨rfl, hb3⟩
      have hO3 := hide ((unhide hO2).below hb3)
      have hV3 := hide ((unhide hV2).below hb3)
      have hg3l : g1 < w3.heap.size := Nat.lt_of_lt_of_le hg2l hb3.size
      have hb3' := hide ((unhide hb2).trans (hb3.mono (unhide hb2).size))
      have hcell3 : w3.cell? ⟨g1, o + j, none⟩ = some (.int .i64 y) := keep_cell (hb3.block g1 hg2l) hHeld
      clear hb3 hO2 hV2 hb2
      refine hK.out _ _ ?_ fun hHeld => ?_
      · exact hcell3
      clear hK K
      try simp only [Act.put, za, zb, zc]
      refine hTk 11 29 hHeld ?_
      refine hNo 12 fun K hK => ?_
      go_simp
      have hO4 := hide ((unhide hO3).alloc (.cells #[.int .i64 y, .int .i64 z.n, .bool z.o, .bool z.h, .int .i64 z.d] 68))
      have hV4 := hide ((unhide hV3).alloc (.cells #[.int .i64 y, .int .i64 z.n, .bool z.o, .bool z.h, .int .i64 z.d] 68))
      have hb4 := hide ((unhide hb3').alloc (unhide hb3').size (.cells #[.int .i64 y, .int .i64 z.n, .bool z.o, .bool z.h, .int .i64 z.d] 68))
      have hs4 := view_oneL w3 ⟨y, z⟩
      have hcell4 : (w3.alloc (.cells #[.int .i64 y, .int .i64 z.n, .bool z.o, .bool z.h, .int .i64 z.d] 68)).cell? ⟨g1, o + j, none⟩ = some (.int .i64 y) := keep_cell (Below.heap_alloc _ _ _ hg3l) hcell3
      have hg4l : g1 < (w3.alloc (.cells #[.int .i64 y, .int .i64 z.n, .bool z.o, .bool z.h, .int .i64 z.d] 68)).heap.size := by simp; omega
      have hgg : Hid (w3.heap.size ≠ g1) := by unfold Hid; omega
      obtain ⟨w4, hw4⟩ : ∃ w4, w3.alloc (.cells #[.int .i64 y, .int .i64 z.n, .bool z.o, .bool z.h, .int .i64 z.d] 68) = w4 := ⟨_, rfl⟩
      rw [hw4] at hO4 hV4 hb4 hs4 hcell4 hg4l ⊢
      clear hw4 hO3 hV3 hb3' hcell3
      refine hK.out _ _ ?_ fun hHeld => ?_
      · exact hcell4
      clear hK K
      try simp only [Act.put, za, zb, zc]
      refine hand_call (i := 13) rfl (by kernel_rfl) ?_
      intro o9 ho
      simp at ho
      subst ho
      intro K' hK'
      refine wp_appL (.tmp 18) (.tmp 30) rfl rfl rfl (unhide hO4) hs4 (by have := unhide hl1; simp only [List.length_singleton]; omega) (j + 1) (by have := unhide hl1; simp only [List.length_singleton]; omega) ?_
      intro ao2 cap2 w5 g2 hown2 hap2
      have hg5 : w5.heap[g1]? = w4.heap[g1]? := hap2.fr.block g1 hg4l (fun e => hgn e.symm)
      have hcell5 := keep_cell hg5 hcell4
      have hV5 := hide ((unhide hV4).carry (w' := w5) (fun _ _ => hg5))
      have hs5 := hap2.fr.size
      have hg5l : g1 < w5.heap.size := by omega
      have hb5 := hide ((unhide hb4).trans (hap2.fr.below (fun i hi => by rw [hi]; exact hg) (unhide hb4).size))
      have hl5 : g2 = g ∨ w4.heap.size ≤ g2 := hap2.lies
      have hg2w : w.heap.size ≤ g2 ∧ g2 ≠ g1 := by have := (unhide hb4).size; omega
      replace hown2 := hide hown2
      clear hap2 hO4 hV4 hb4 hs4 hl5
      refine hK'.out _ _ ?_ (fun hHeld => ?_)
      · exact hcell5
      clear hK' K'
      try simp only [Act.put, List.setIfInBounds_toArray, List.set_cons_zero, List.set_cons_succ]
      refine hTk 14 3 hHeld ?_
      refine wpAnyH_done (by kernel_rfl) (NoPanic.normal ?_) _
      clear hHeld
      go_wp2_with fail
      go_roundw
      case rel => exact ⟨j + 1, g2, by omega, by simp, by rw [unhide htk]; exact unhide hown2, hg2w.1, hg2w.2, unhide hV5, hg5l, unhide hb5⟩
      case measure => simp [intOf]; omega
    · obtain rfl : j = n := by omega
      rw [List.take_of_length_le (by rw [allC_len, ← listA_len, unhide hn]; exact Nat.le_refl _)] at hO'
      replace hb := hide hb
      clear hV hV1 hb1
      go_wp2_with fail
      go_ret
      exact ⟨_, g, rfl, hg, unhide hO', unhide hb⟩
end Go.Proofs.YtoenjdnccgmhoaaGreatDoor
