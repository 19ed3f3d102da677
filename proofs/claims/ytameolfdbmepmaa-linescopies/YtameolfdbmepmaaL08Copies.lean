/- The walk of LinesCopies: it returns true; no old memory turns. -/
import Derived.Test.YtameolfdbmepmaaLaw08b
namespace Go.Proofs.Ytameolfdbmepmaa
open Go.ChangeShapes Go.WideShapes Go.ChangeAt Go.RowKit
set_option linter.unusedSimpArgs false
set_option linter.unusedVariables false

attribute [local go_sem, local simp] over_const setCell_drewN alloc_drewN Over.cell Over.frozen lt_s1 lt_s2 lt_s3 le_s0 le_s1 le_s2 le_s3 eq_s0 eq_s1 eq_s2 qe_s0

set_option maxHeartbeats 2000000 in
theorem LinesCopies_walk (s t x u : Int) (v : Value) (A : List (Int × Int)) (w : World) (h : ActsAt w.heap.size w v A) : Calls Try.prog 8 #[.agg #[.int .i64 s, .int .i64 t], v, .agg #[.int .i64 x, .int .i64 u]] w fun e w' => e = .returned (.bool true) ∧ Below w.heap.size w w' := by
  have hA := hide h
  obtain ⟨ao, cap, rfl, hlc, hmx, _⟩ := h
  have hmx' : A.length ≤ 9223372036854775807 := by unfold maxLen at hmx; omega
  clear hmx
  go_enter Try.func8, Try.ntmps8
  go_wp2_with fail
  go_at_call 9
  refine (awake8_any _).mono ?_
  rintro e w1 ⟨rfl, hb1⟩
  obtain ⟨B1, B2, hB1, hs1⟩ := boxes hb1
  clear hb1
  by_cases c : 200 < (A.length : Int)
  · replace hB1 := hide hB1
    clear B1 B2
    go_wp2_with fail
    go_at_call 9
    refine (awake8_any _).mono ?_
    rintro e w3 ⟨rfl, hb3⟩
    replace hb3 := hide hb3
    go_wp2_with fail
    go_ret
    exact ⟨rfl, (unhide hB1).trans ((unhide hb3).mono (by omega))⟩
  obtain ⟨_, q0, q1⟩ := B1
  replace B2 := hide B2
  go_wp2_with fail
  go_at_call 10
  refine (new_c s t _).mono ?_
  obtain ⟨S, hS⟩ : ∃ S, Hid (clampZ s 1 64 = S) := ⟨_, rfl⟩
  obtain ⟨W, hW⟩ : ∃ W, Hid (clampZ t 1 16 = W) := ⟨_, rfl⟩
  rw [hS.out, hW.out]
  rintro e w2 ⟨p, F, rfl, hn, hb2, hF⟩
  have hE := hide (Env.first (unhide B2) hB1 hs1 hn hb2 hF)
  clear hb2 hB1 q0 q1 hn B2 hF
  go_wp2_with fail
  go_loopw [35] (fun i wr => ∃ (j : Nat) (F : Nat → Prop) (L : List Int), j ≤ A.length ∧ i = .int .i64 j ∧ Env w wr p F S W L x u ∧ Hid (∀ y ∈ L, ∃ a ∈ A, a.2 = y)) (fun i _ => A.length - (intOf i).toNat)
  case atStart => exact ⟨0, F, [], Nat.zero_le _, rfl, unhide hE, fun y hy => by cases hy⟩
  case round =>
    obtain ⟨j, G, L, hj, rfl, hE2, hM⟩ := hrel
    clear hE
    by_cases hlt : j < A.length
    · have hlt' : (j : Int) < A.length := by omega
      obtain ⟨b, o, rfl, hbB, hbl, a0, a1, a2⟩ := acts_row ((unhide hA).below hE2.bel) hlt
      have hmem := List.getElem_mem hlt
      generalize A[j] = a at a0 a1 a2 hmem
      obtain ⟨k, bl⟩ := a
      dsimp only at a0 a1 a2
      have hM3 : Hid (∀ y ∈ nxAdd S W L bl, ∃ a ∈ A, a.2 = y) := fun y hy => by
        unfold nxAdd at hy
        split at hy
        · rcases List.mem_append.1 hy with h1 | h1
          · exact hM.out y h1
          · simp at h1; exact ⟨_, hmem, h1.symm⟩
        · exact hM.out y hy
      have hM4 : Hid (∀ y ∈ nxUse (nxAdd S W L bl) bl, ∃ a ∈ A, a.2 = y) := fun y hy => by
        unfold nxUse at hy
        split at hy
        · rcases List.mem_append.1 hy with h1 | h1
          · exact hM3.out y (List.mem_of_mem_erase h1)
          · simp at h1; exact ⟨_, hmem, h1.symm⟩
        · exact hM3.out y hy
      clear hmem
      replace hE2 := hide hE2
      go_wp2_with fail
      go_at_call 12
      refine (add_c p G S W bl L _ ((unhide hE2).n.alloc _) a2).mono ?_
      rintro e w3 ⟨rfl, G', hn3, st3⟩
      have hE3 := hide ((unhide hE2).step (belA _ _) hn3 st3)
      have hbox := (((box_new wr k bl _).fr st3.fr (fun e => by have := (unhide hE2).n.lt _ e; omega)) : Box w3 wr.heap.size k bl)
      obtain ⟨-, y0, y1⟩ := hbox
      clear hn3 st3 hE2
      by_cases ck : k = 2
      · subst ck
        go_wp2_with fail
        go_at_call 14
        refine (use_c p G' S W bl _ w3 (unhide hE3).n a2).mono ?_
        rintro e w4 ⟨rfl, G4, hn4, st4⟩
        have hE4 := hide ((unhide hE3).step (Below.refl _ _) hn4 st4)
        clear hn4 st4 hE3 y0 y1
        go_wp2_with fail
        go_roundw
        case rel => exact ⟨j + 1, G4, _, by omega, by simp, unhide hE4, hM4.out⟩
        case measure => simp [intOf]; omega
      · go_wp2_with fail
        go_roundw
        case rel => exact ⟨j + 1, G', _, by omega, by simp, unhide hE3, hM3.out⟩
        case measure => simp [intOf]; omega
    · obtain rfl : j = A.length := by omega
      obtain ⟨-, x0, x1⟩ := hE2.box
      have hI := hide hE2.n.inv
      replace hE2 := hide hE2
      clear hlt
      obtain ⟨⟨v, ok⟩, hvv⟩ : ∃ b, Hid (vicA S W L x u = b) := ⟨_, rfl⟩
      go_wp2_with fail
      go_at_call 23
      refine (list_c p G S W L wr (unhide hE2).n).mono ?_
      rintro e w3 ⟨v1, g1, rfl, hg1, hO1, hb3⟩
      have hE3 := (unhide hE2).quiet hb3
      have s3 := (unhide hE2).n.lt
      have s3' := (unhide hE2).bel.size
      have hF3 : Hid (∀ b, G b → b ≠ g1) := fun b hb e => by have := s3 b hb; omega
      have hg1' : w.heap.size + 2 ≤ g1 := by have := (unhide hE2).box.lt; omega
      have hO1' := hide hO1
      obtain ⟨ao1, cap1, rfl, _⟩ := hO1
      clear hE2 x0 x1 hb3 s3 s3' hg1
      obtain ⟨-, x0, x1⟩ := hE3.box
      replace hE3 := hide hE3
      go_wp2_with fail
      go_at_call 18
      refine (victim_c p G S W x u L w3 (unhide hE3).n).mono ?_
      rw [hvv.out]
      rintro e w4 ⟨rfl, n4, rfl⟩
      go_wp2_with fail
      go_at_call 27
      refine (copy_c p G S W L _ ((unhide hE3).n.drewN _)).mono ?_
      rintro e w5 ⟨pc, Fc, rfl, hnc, hFc, hb5⟩
      have hb5' : Below w3.heap.size w3 w5 := (belD _ _).trans hb5
      have hE5 := (unhide hE3).quiet hb5'
      have hO5 := hide ((unhide hO1').below hb5')
      have hnc5 := hide hnc
      have hd5 : Hid (∀ b, Fc b → ¬ G b ∧ b ≠ g1 ∧ w.heap.size + 2 ≤ b) := fun b hb => by
        have h1 : w3.heap.size ≤ b := hFc b hb
        have h2 := (unhide hO1').lt
        have h3 := (unhide hE3).box.lt
        exact ⟨fun e => by have := (unhide hE3).n.lt b e; omega, by omega, by omega⟩
      clear hE3 hO1' hnc hFc hb5 hb5' x0 x1
      replace hE5 := hide hE5
      go_wp2_with fail
      go_loopw [68] (fun i wr => ∃ (j : Nat) (F : Nat → Prop) (L' : List Int), j ≤ A.length ∧ i = .int .i64 j ∧ Env w wr p F S W L' x u ∧ LnIs wr pc Fc S W L ∧ Own wr (.slice ao1 (listA L).length cap1) g1 (listA L) ∧ (∀ b, F b → ¬ Fc b ∧ b ≠ g1) ∧ Hid (∀ y ∈ L', ∃ a ∈ A.drop j, a.2 = y)) (fun i _ => A.length - (intOf i).toNat)
      case atStart => exact ⟨0, G, L, Nat.zero_le _, rfl, unhide hE5, unhide hnc5, unhide hO5, fun b hb => ⟨fun e => (unhide hd5 b e).1 hb, unhide hF3 b hb⟩, hM⟩
      case round =>
        obtain ⟨j, G6, L6, hj6, rfl, hE6, hnc6, hO6, hd6, hM6⟩ := hrel
        clear hE5 hnc5 hO5
        by_cases hlt : j < A.length
        · have hlt' : (j : Int) < A.length := by omega
          obtain ⟨b, o, rfl, hbB, hbl, a0, a1, a2⟩ := acts_row ((unhide hA).below hE6.bel) hlt
          have hdr := List.drop_eq_getElem_cons hlt
          generalize A[j] = a at a0 a1 a2 hdr
          obtain ⟨k, bl⟩ := a
          dsimp only at a0 a1 a2
          have hI6 := hE6.n.inv.nodup
          have hM7 : Hid (∀ y ∈ L6.erase bl, ∃ a ∈ A.drop (j + 1), a.2 = y) := fun y hy => by
            obtain ⟨a, ha, e⟩ := hM6.out y (List.mem_of_mem_erase hy)
            rw [hdr] at ha
            rcases List.mem_cons.1 ha with rfl | ha
            · dsimp only at e
              rw [← e] at hy
              exact absurd rfl (hI6.mem_erase_iff.1 hy).1
            · exact ⟨a, ha, e⟩
          clear hdr hI6 hM6
          replace hE6 := hide hE6
          replace hnc6 := hide hnc6
          replace hO6 := hide hO6
          go_wp2_with fail
          go_at_call 16
          refine (remove_c p G6 S W bl L6 _ ((unhide hE6).n.alloc _)).mono ?_
          rintro e w7 ⟨rfl, G7, hn7, st7⟩
          have hE7 := hide ((unhide hE6).step (belA _ _) hn7 st7)
          have hnc7 := hide (((unhide hnc6).alloc (.cells #[.int .i64 k, .int .i64 bl] 30)).fr st7.fr (fun b hb _ e => (hd6 b e).1 hb))
          have hO7 := hide (((unhide hO6).alloc (.cells #[.int .i64 k, .int .i64 bl] 30)).fr st7.fr (fun e => (hd6 _ e).2 rfl))
          have hd7 : Hid (∀ b, G7 b → ¬ Fc b ∧ b ≠ g1) := fun b hb => by
            rcases st7.new b hb with h1 | h1
            · exact hd6 b h1
            · simp at h1
              have h2 := (unhide hO6).lt
              exact ⟨fun e => by have := (unhide hnc6).lt b e; omega, by omega⟩
          clear hn7 st7 hE6 hnc6 hO6 hd6
          go_wp2_with fail
          go_roundw
          case rel => exact ⟨j + 1, G7, _, by omega, by simp, unhide hE7, unhide hnc7, unhide hO7, unhide hd7, hM7.out⟩
          case measure => simp [intOf]; omega
        · obtain rfl : j = A.length := by omega
          have hnil : L6 = [] := by
            rw [List.eq_nil_iff_forall_not_mem]
            intro y hy
            obtain ⟨a, ha, _⟩ := hM6.out y hy
            rw [List.drop_eq_nil_of_le (Nat.le_refl _)] at ha
            cases ha
          subst hnil
          obtain ⟨-, x0, x1⟩ := hE6.box
          replace hE6 := hide hE6
          replace hnc6 := hide hnc6
          replace hO6 := hide hO6
          clear hlt hM6
          go_wp2_with fail
          go_at_call 18
          refine (victim_c pc Fc S W x u L _ (unhide hnc6)).mono ?_
          rw [hvv.out]
          rintro e w8 ⟨rfl, n8, rfl⟩
          go_wp2_with fail
          go_at_call 23
          refine (list_c pc Fc S W L _ ((unhide hnc6).drewN _)).mono ?_
          rintro e w9 ⟨v2, g2, rfl, hg2, hO2, hb9⟩
          have hb9' : Below wr.heap.size wr w9 := (belD _ _).trans hb9
          have hE9 := hide ((unhide hE6).quiet hb9')
          have hO9 := hide ((unhide hO6).below hb9')
          have hO2' := hide hO2
          obtain ⟨ao2, cap2, rfl, _⟩ := hO2
          clear hE6 hO6 hb9 hb9' x0 x1 hg2
          go_wp2_with fail
          go_at_call 22
          refine (ints_c _ _ _ _ (listA L) (listA L) _ (unhide hO2').view (unhide hO9).view).mono ?_
          simp only [decide_true]
          rintro e w10 ⟨rfl, n10, rfl⟩
          go_wp2_with fail
          go_at_call 23
          refine (list_c p G6 S W [] _ ((unhide hE9).n.drewN _)).mono ?_
          rw [show listA [] = [] by simp [listA]]
          rintro e w11 ⟨v3, g3, rfl, hg3, hO3, hb11⟩
          obtain ⟨ao3, cap3, rfl, _⟩ := hO3
          replace hb11 := hide hb11
          have hfin : Hid (Below w.heap.size w w11) := ((unhide hE9).quiet ((belD _ _).trans (unhide hb11))).bel
          clear hg3 hb11
          go_wp2_with fail
          go_ret
          exact ⟨rfl, unhide hfin⟩
end Go.Proofs.Ytameolfdbmepmaa
