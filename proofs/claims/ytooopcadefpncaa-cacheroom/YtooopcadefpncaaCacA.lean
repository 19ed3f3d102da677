/- The contract of package cache's All (layer 9). -/
import Derived.Test.YtooopcadefpncaaCacB
namespace Go.Proofs.Ytooopcadefpncaa
open Go.ChangeShapes Go.WideShapes Go.ChangeAt Go.RowKit
set_option linter.unusedSimpArgs false
set_option linter.unusedVariables false
set_option maxRecDepth 10000

attribute [local go_sem, local simp] over_const setCell_drewN alloc_drewN Over.cell Over.frozen lt_s1 lt_s2 lt_s3 le_s0 le_s1 le_s2 le_s3 eq_s0 eq_s1 eq_s2 qe_s0

theorem allC_take {C : Ca} {j : Nat} (hj : j < (listA C.A).length) : (allC C).take (j + 1) = (allC C).take j ++ [⟨(listA C.A)[j], C.T (listA C.A)[j]⟩] := by
  have h : j < (allC C).length := by simpa [allC] using hj
  rw [List.take_succ_eq_append_getElem h]
  simp [allC]

set_option maxHeartbeats 2000000 in
theorem cAll_c (c : Nat) (Ft : Nat → Prop) (S W N : Int) (C : Ca) (w : World) (h : CaIs w c Ft S W N C) : Calls Try.prog 23 #[ptr c] w fun e w' => ∃ v g, e = .returned v ∧ w.heap.size ≤ g ∧ OwnL w' v g (allC C) ∧ Below w.heap.size w w' := by
  have hH := hide h
  have hlen := h.inv.inv.len
  have hcl := h.lt c h.fc
  have hpos : Hid (∀ x ∈ listA C.A, I64 x) := fun x hx => by have := h.inv.inv.pos x (mem_listA.1 hx); unfold I64; omega
  obtain ⟨p, t, Fh, c0, c1, hh, hF, hc⟩ := h.at'
  obtain ⟨Fl, hl, hFl, hnt⟩ := hh.ln
  replace hl := hide hl
  have hll := listA_len C.A
  clear h hh
  go_enter Try.func23, Try.ntmps23
  go_wp2_with fail
  go_at_call 44
  refine (list_c p Fl S W C.A w (unhide hl)).mono ?_
  rintro e w1 ⟨v1, g1, rfl, hg1, hO1, hb1⟩
  have hV1 := hide hO1.view
  have hgl := hO1.lt
  obtain ⟨ao1, cap1, rfl, -⟩ := hO1
  obtain ⟨n, hn⟩ : ∃ n, (listA C.A).length = n := ⟨_, rfl⟩
  rw [hn] at hll hV1 ⊢
  replace hn := hide hn
  replace hb1 := hide hb1
  replace hll := hide hll
  have hn1 : n ≤ 1024 := by have := unhide hll; omega
  go_wp2_with fail
  go_loopw [3, 13] (fun out i wr => ∃ j g : Nat, j ≤ n ∧ i = .int .i64 j ∧ OwnL wr out g ((allC C).take j) ∧ w.heap.size ≤ g ∧ (g = g1 → out = .slice none 0 0) ∧ View wr (.slice ao1 n cap1) g1 (listA C.A) ∧ g1 < wr.heap.size ∧ Below w.heap.size w wr) (fun _ i _ => n - (intOf i).toNat)
  case atStart => exact ⟨0, g1, Nat.zero_le _, rfl, own_nilL hgl, hg1, fun _ => rfl, unhide hV1, hgl, unhide hb1⟩
  case round =>
    obtain ⟨j, g, hj, rfl, hO, hg, hnil, hV, hg1l, hb⟩ := hrel
    have hO' := hide hO
    obtain ⟨ao, cap, rfl, -⟩ := hO
    have hl1 : ((allC C).take j).length = j := by rw [List.length_take, allC_len, ← listA_len, unhide hn]; omega
    rw [hl1] at hO' hnil ⊢
    by_cases hlt : j < n
    · obtain ⟨-, -, -, hc⟩ := view_at hV rfl
      have hlt2 : j < (listA C.A).length := by rw [unhide hn]; exact hlt
      have htk := hide (allC_take hlt2)
      have hx := unhide hpos _ (List.getElem_mem hlt2)
      obtain ⟨o, rfl, hbA, hcell⟩ := hc j hlt2
      generalize (listA C.A)[j] = y at hcell htk hx
      have hlt' : (j : Int) < n := by omega
      obtain ⟨z, hz⟩ : ∃ z, Hid (C.T y = z) := ⟨_, rfl⟩
      rw [hz.out] at htk
      have hca := hide ((unhide hH).below hb)
      replace hV := hide hV
      replace hb := hide hb
      replace hnil := hide hnil
      replace hl1 := hide hl1
      clear hc hV1 hb1
      go_wp2_with fail
      go_at_call 20
      refine ((cGet_c c Ft S W N y C _ ((unhide hH).below (unhide hb)) hx z hz)).mono ?_
      rintro e w2 ⟨rfl, hb2⟩
      have hO2 := hide ((unhide hO').below hb2)
      have hV2 := hide ((unhide hV).below hb2)
      have hgl2 : g1 < w2.heap.size := Nat.lt_of_lt_of_le hg1l hb2.size
      have hb2' := hide ((unhide hb).trans (hb2.mono (unhide hb).size))
      clear hb2 hb hV hO' hcell hca
      go_wp2_with (at_builtin; refine wpList_appL rfl _ _ rfl rfl rfl ((unhide hO2).alloc _) (view_oneL w2 ⟨y, z⟩) (by have := unhide hl1; simp only [List.length_singleton]; omega) (j + 1) (by have := unhide hl1; simp only [List.length_singleton, List.length_append]; omega) ?_; intro ao2 cap2 w3 g2 hown2 hap2; replace hown2 := hide hown2; replace hap2 := hide hap2; go_frame)
      go_roundw
      case rel =>
        have hap := unhide hap2
        have hs := (unhide hb2').size
        have kk : w3.heap[g1]? = w2.heap[g1]? := by
          by_cases e : g = g1
          · exact ((hap.nil (unhide hnil e)).block g1 (by simp; omega)).trans (Below.heap_alloc _ _ _ hgl2)
          · exact (hap.fr.block g1 (by simp; omega) (fun e' => e e'.symm)).trans (Below.heap_alloc _ _ _ hgl2)
        refine ⟨j + 1, g2, by omega, by simp, ?_, ?_, fun e => ?_, (unhide hV2).carry (fun _ _ => kk), ?_, ((unhide hb2').alloc hs _).trans (hap.fr.below (fun i hi => by rw [hi]; exact hg) (by simp; omega))⟩
        · rw [unhide htk]; exact unhide hown2
        · rcases hap.lies with e | e
          · omega
          · simp at e; omega
        · have e2 : g2 = g := by
            rcases hap.lies with e' | e'
            · exact e'
            · simp at e'; omega
          exact hap.keep e2 (unhide hnil (by omega))
        · have := hap.fr.size; simp at this; omega
      case measure => simp [intOf]; omega
    · obtain rfl : j = n := by omega
      rw [List.take_of_length_le (by rw [allC_len, ← listA_len, unhide hn]; exact Nat.le_refl _)] at hO'
      replace hb := hide hb
      clear hV hV1 hb1
      go_wp2_with fail
      go_ret
      exact ⟨_, g, rfl, hg, unhide hO', unhide hb⟩
end Go.Proofs.Ytooopcadefpncaa
