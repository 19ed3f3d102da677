/- The walk of TableCopies: it returns true; no old memory turns (layer 11). -/
import Derived.Test.YtgaabbnfjapcjaaTell11
import Derived.Test.YtgaabbnfjapcjaaSameA
namespace Go.Proofs.Ytgaabbnfjapcjaa
open Go.ChangeShapes Go.WideShapes Go.ChangeAt Go.RowKit
set_option linter.unusedSimpArgs false
set_option linter.unusedVariables false
set_option maxRecDepth 10000

attribute [local go_sem, local simp] over_const setCell_drewN alloc_drewN Over.cell Over.frozen lt_s1 lt_s2 lt_s3 le_s0 le_s1 le_s2 le_s3 eq_s0 eq_s1 eq_s2 qe_s0

set_option maxHeartbeats 2000000 in
theorem TableCopies_walk (v1 v2 : Value) (A M : List Ac) (w : World) (h1 : ActsAt w.heap.size w v1 A) (h2 : ActsAt w.heap.size w v2 M) : Calls Try.prog 7 #[v1, v2] w fun e w' => e = .returned (.bool true) ∧ Below w.heap.size w w' := by
  have hA := hide h1
  have hM := hide h2
  obtain ⟨ao, cap, rfl, hlc, hmx, _⟩ := h1
  obtain ⟨ao2, cap2, rfl, hlc2, hmx2, _⟩ := h2
  have hma : A.length ≤ 9223372036854775807 := by unfold maxLen at hmx; omega
  have hmm : M.length ≤ 9223372036854775807 := by unfold maxLen at hmx2; omega
  clear hmx hmx2
  go_enter Try.func7, Try.ntmps7
  go_wp2_with fail
  go_at_call 8
  refine (awake11_any _).mono ?_
  rintro e w1 ⟨rfl, hB1⟩
  replace hB1 := hide hB1
  by_cases c : A.length ≤ 200 ∧ M.length ≤ 200
  · obtain ⟨ca, cm⟩ := c
    have ca' : ¬ 200 < (A.length : Int) := by omega
    have cm' : ¬ 200 < (M.length : Int) := by omega
    go_wp2_with fail
    go_at_call 9
    refine (tNew_c w1).mono ?_
    rintro e w2 ⟨c, rfl, t, o, n2, hc2, ht2, ho2, hb2⟩
    have E2 := hide (TEnv.first (unhide hB1) n2 hc2 ht2 ho2 hb2)
    have hs1 := (unhide hB1).size
    clear n2 hb2 hB1
    go_wp2_with fail
    go_at_call 20
    refine (tell_c c t o 0 w.heap.size tb0 _ A w2 (unhide E2).n ((unhide hA).below (unhide E2).bel) (unhide E2).bel.size (unhide E2).t0 (unhide E2).o0 (by omega)).mono ?_
    rintro e w3 ⟨rfl, n3, f3⟩
    obtain ⟨T, hT⟩ : ∃ T, Hid (playT tb0 A = T) := ⟨_, rfl⟩
    rw [hT.out] at n3
    have E3 := hide (((unhide E2).step (Below.refl _ _) n3 f3).mono (N' := 200) (by omega))
    clear n3 f3 E2
    go_wp2_with fail
    go_at_call 18
    refine (tList_c c t o 200 T w3 (unhide E3).n (by decide)).mono ?_
    rintro e w4 ⟨vl, rfl, gl, hl, hgl, hb4⟩
    have E4 := hide ((unhide E3).quiet hb4)
    have hcl := (unhide E3).n.lt
    have htl := (unhide E3).n.tl
    have hol := (unhide E3).n.ol
    have hll := hl.lt
    replace hl := hide hl
    have ht0 := (unhide E3).t0
    have ho0 := (unhide E3).o0
    clear hb4 E3
    go_wp2_with fail
    go_at_call 14
    refine (tCopy_c c t o 200 T w4 (unhide E4).n).mono ?_
    rintro e w5 ⟨c2, rfl, t2, o2, n5, hc5, ht5, ho5, hb5⟩
    have E5 := hide ((unhide E4).quiet hb5)
    have F5 := hide (TEnv.first (unhide E4).bel n5 hc5 ht5 ho5 hb5)
    have l5 := hide ((unhide hl).below hb5)
    have s4 := (unhide E4).bel.size
    clear n5 hb5 E4 hl
    go_wp2_with fail
    go_at_call 20
    refine (tell_c c t o 200 w.heap.size T _ M w5 (unhide E5).n ((unhide hM).below (unhide E5).bel) (unhide E5).bel.size (unhide E5).t0 (unhide E5).o0 (by omega)).mono ?_
    rintro e w6 ⟨rfl, n6, f6⟩
    obtain ⟨T2, hT2⟩ : ∃ T2, Hid (playT T M = T2) := ⟨_, rfl⟩
    rw [hT2.out] at n6
    have E6 := hide (((unhide E5).step (Below.refl _ _) n6 f6).mono (N' := 400) (by omega))
    have F6 : Hid (TEnv w w6 c2 t2 o2 200 T) := hide ⟨(unhide F5).n.fr f6 (by omega) (by omega) (by omega), (unhide F5).c0, (unhide F5).t0, (unhide F5).o0, (unhide E6).bel⟩
    have l6 := hide ((unhide l5).fr f6 (by omega))
    clear n6 f6 E5 F5 l5
    go_wp2_with fail
    go_at_call 18
    refine (tList_c c2 t2 o2 200 T w6 (unhide F6).n (by decide)).mono ?_
    rintro e w7 ⟨vc, rfl, gc, lc, hgc, hb7⟩
    have E7 := hide ((unhide E6).quiet hb7)
    have F7 := hide ((unhide F6).quiet hb7)
    have l7 := hide ((unhide l6).below hb7)
    replace lc := hide lc
    clear hb7 E6 F6 l6
    go_wp2_with fail
    go_at_call 17
    refine (sameA_c _ _ _ _ T.A _ (unhide lc).view (unhide l7).view).mono ?_
    rintro e w8 ⟨rfl, nq, rfl⟩
    have E8 := hide ((unhide E7).quiet (belD w7 nq))
    have F8 := hide ((unhide F7).quiet (belD w7 nq))
    clear E7 F7 l7 lc
    go_wp2_with fail
    go_at_call 20
    refine (tell_c c2 t2 o2 200 w.heap.size T _ M _ (unhide F8).n ((unhide hM).below (unhide F8).bel) (unhide F8).bel.size (unhide F8).t0 (unhide F8).o0 (by omega)).mono ?_
    rintro e w9 ⟨rfl, n9, f9⟩
    rw [hT2.out] at n9
    have F9 := hide (((unhide F8).step (Below.refl _ _) n9 f9).mono (N' := 400) (by omega))
    have E9 : Hid (TEnv w w9 c t o 400 T2) := hide ⟨(unhide E8).n.fr f9 (by omega) (by omega) (by omega), (unhide E8).c0, (unhide E8).t0, (unhide E8).o0, (unhide F9).bel⟩
    clear n9 f9 E8 F8
    go_wp2_with fail
    go_at_call 18
    refine (tList_c c2 t2 o2 400 T2 w9 (unhide F9).n (by decide)).mono ?_
    rintro e w10 ⟨v10, rfl, g10, l10, hg10, hb10⟩
    have E10 := hide ((unhide E9).quiet hb10)
    replace l10 := hide l10
    clear hb10 E9 F9
    go_wp2_with fail
    go_at_call 18
    refine (tList_c c t o 400 T2 w10 (unhide E10).n (by decide)).mono ?_
    rintro e w11 ⟨v11, rfl, g11, l11, hg11, hb11⟩
    have E11 := hide ((unhide E10).quiet hb11)
    have l12 := hide ((unhide l10).below hb11)
    replace l11 := hide l11
    clear hb11 E10 l10
    go_wp2_with fail
    go_at_call 17
    refine (sameA_c _ _ _ _ T2.A _ (unhide l12).view (unhide l11).view).mono ?_
    rintro e w13 ⟨rfl, nq2, rfl⟩
    have hfin := hide ((unhide E11).quiet (belD w11 nq2)).bel
    clear E11 l12 l11
    go_wp2_with fail
    go_ret
    exact ⟨rfl, unhide hfin⟩
  · by_cases ca : 200 < (A.length : Int)
    · go_wp2_with fail
      go_at_call 8
      refine (awake11_any _).mono ?_
      rintro e w9 ⟨rfl, hb9⟩
      replace hb9 := hide hb9
      go_wp2_with fail
      go_ret
      exact ⟨rfl, (unhide hB1).trans ((unhide hb9).mono (unhide hB1).size)⟩
    · have cm : 200 < (M.length : Int) := by omega
      go_wp2_with fail
      go_at_call 8
      refine (awake11_any _).mono ?_
      rintro e w9 ⟨rfl, hb9⟩
      replace hb9 := hide hb9
      go_wp2_with fail
      go_ret
      exact ⟨rfl, (unhide hB1).trans ((unhide hb9).mono (unhide hB1).size)⟩
end Go.Proofs.Ytgaabbnfjapcjaa
