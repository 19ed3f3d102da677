/- The walk of NetCopies: it returns true; no old memory turns. -/
import Derived.Test.YtajcebnbmejamaaPlay
namespace Go.Proofs.Ytajcebnbmejamaa
open Go.ChangeShapes Go.WideShapes Go.ChangeAt Go.RowKit
set_option linter.unusedSimpArgs false
set_option linter.unusedVariables false

attribute [local go_sem, local simp] over_const setCell_drewN alloc_drewN Over.cell Over.frozen lt_s1 lt_s2 lt_s3 le_s0 le_s1 le_s2 le_s3 eq_s0 eq_s1 eq_s2 qe_s0

set_option maxHeartbeats 1000000 in
theorem NetCopies_walk (r : Int) (v v2 : Value) (A A2 : List ActD) (w : World) (h : ActsAt w.heap.size w v A) (h2 : ActsAt w.heap.size w v2 A2) : Calls Try.prog 7 #[.int .i64 r, v, v2] w fun e w' => e = .returned (.bool true) ∧ Below w.heap.size w w' := by
  have hA := hide h
  have hA2 := hide h2
  obtain ⟨ao, cap, rfl, _⟩ := h
  obtain ⟨ao2, cap2, rfl, _⟩ := h2
  go_enter Try.func7, Try.ntmps7
  go_wp2_with fail
  go_at_call 9
  refine (awake6_any _).mono ?_
  rintro e w1 ⟨rfl, hb1⟩
  have s1 := hb1.size
  replace hb1 := hide hb1
  go_wp2_with fail
  go_at_call 10
  refine (great_c w.heap.size _ A _ ((unhide hA).below (unhide hb1)) s1).mono ?_
  rintro e w2 ⟨q, rfl, hb2, _⟩
  have s2 := hb2.size
  have hB2 : Below w.heap.size w w2 := (unhide hb1).trans (hb2.mono s1)
  clear hb1 hb2
  replace hB2 := hide hB2
  cases q
  case true =>
    go_wp2_with fail
    go_at_call 9
    refine (awake6_any _).mono ?_
    rintro e w3 ⟨rfl, hb3⟩
    replace hb3 := hide hb3
    go_wp2_with fail
    go_ret
    exact ⟨rfl, (unhide hB2).trans ((unhide hb3).mono (by omega))⟩
  case false =>
    go_wp2_with fail
    go_at_call 10
    refine (great_c w.heap.size _ A2 _ ((unhide hA2).below (unhide hB2)) (by omega)).mono ?_
    rintro e w3 ⟨q, rfl, hb3, _⟩
    have s3 := hb3.size
    have hB3 : Below w.heap.size w w3 := (unhide hB2).trans (hb3.mono (by omega))
    clear hB2 hb3
    replace hB3 := hide hB3
    cases q
    case true =>
      go_wp2_with fail
      go_at_call 9
      refine (awake6_any _).mono ?_
      rintro e w4 ⟨rfl, hb4⟩
      replace hb4 := hide hb4
      go_wp2_with fail
      go_ret
      exact ⟨rfl, (unhide hB3).trans ((unhide hb4).mono (by omega))⟩
    case false =>
      obtain ⟨P, hP⟩ : ∃ P, w3.heap.size = P := ⟨_, rfl⟩
      obtain ⟨R, hR⟩ : ∃ R, roomZ r = R := ⟨_, rfl⟩
      obtain ⟨L1, hL1⟩ : ∃ L1, Hid (playL R [] A = L1) := ⟨_, rfl⟩
      obtain ⟨L2, hL2⟩ : ∃ L2, Hid (playL R L1 A2 = L2) := ⟨_, rfl⟩
      go_wp2_with fail
      go_at_call 11
      refine (new_c r _).mono ?_
      rw [hR, hP]
      rintro e w4 ⟨rfl, hn4, hb4⟩
      have l4 := hn4.pl
      have hB4 : Below w.heap.size w w4 := (unhide hB3).trans (hb4.mono (by omega))
      have hPw : w.heap.size ≤ P := by omega
      clear hB3 hb4 hR hP
      replace hn4 := hide hn4
      replace hB4 := hide hB4
      go_wp2_with fail
      go_at_call 22
      refine (play_c w.heap.size P P R [] _ A _ (unhide hn4) ((unhide hA).below (unhide hB4)) hPw hPw).mono ?_
      rw [hL1.out]
      rintro e w5 ⟨rfl, g5, hn5, hf5, hg5⟩
      have s5 := hf5.size
      have l5 := hn5.gl
      have hB5 : Below w.heap.size w w5 := (unhide hB4).trans (hf5.below hPw hPw (by omega))
      have hG5 : w.heap.size ≤ g5 := by omega
      clear hn4 hB4 hf5 hg5
      replace hn5 := hide hn5
      replace hB5 := hide hB5
      go_wp2_with fail
      go_at_call 21
      refine (list_v P g5 R L1 _ (unhide hn5) L1.length rfl).mono ?_
      rintro e w6 ⟨ao6, cap6, b6, rfl, v6, hb6, hB6⟩
      have s6 := hB6.size
      have hB6' : Below w.heap.size w w6 := (unhide hB5).trans (hB6.mono (by omega))
      have hn6 := hide ((unhide hn5).below hB6)
      clear hB5 hn5 hB6
      replace v6 := hide v6
      replace hb6 := hide hb6
      replace hB6' := hide hB6'
      go_wp2_with fail
      go_at_call 19
      refine (copy_c P g5 R L1 _ (unhide hn6)).mono ?_
      rintro e w7 ⟨p7, g7, rfl, hc7, hp7, hg7, hB7⟩
      have s7 := hB7.size
      have m7 := hc7.pl
      have o7 := hc7.gl
      have hn7 := hide ((unhide hn6).below hB7)
      have v7 := hide ((unhide v6).below hB7)
      have hB7' : Below w.heap.size w w7 := (unhide hB6').trans (hB7.mono (by omega))
      clear hB6' hn6 v6 hB7
      replace hc7 := hide hc7
      replace hB7' := hide hB7'
      go_wp2_with fail
      go_at_call 22
      refine (play_c w.heap.size P g5 R L1 _ A2 _ (unhide hn7) ((unhide hA2).below (unhide hB7')) hPw hG5).mono ?_
      rw [hL2.out]
      rintro e w8 ⟨rfl, g8, hn8, hf8, hg8⟩
      have s8 := hf8.size
      have l8 := hn8.gl
      have m8 := hn8.pl
      have hc8 := hide ((unhide hc7).fr hf8 (by omega) (by omega) (by omega) (by omega))
      have v8 := hide ((unhide v7).fr hf8 (fun hne => by have := unhide hb6 hne; omega))
      have hB8 : Below w.heap.size w w8 := (unhide hB7').trans (hf8.below hPw hG5 (by omega))
      clear hn7 hc7 v7 hB7' hf8
      replace hn8 := hide hn8
      replace hB8 := hide hB8
      go_wp2_with fail
      go_at_call 21
      refine (list_v p7 g7 R L1 _ (unhide hc8) L1.length rfl).mono ?_
      rintro e w9 ⟨ao9, cap9, b9, rfl, v9, _, hB9⟩
      have s9 := hB9.size
      have hc9 := hide ((unhide hc8).below hB9)
      have hn9 := hide ((unhide hn8).below hB9)
      have u9 := hide ((unhide v8).below hB9)
      have hB9' : Below w.heap.size w w9 := (unhide hB8).trans (hB9.mono (by omega))
      clear hn8 hc8 v8 hB8 hB9
      replace v9 := hide v9
      replace hB9' := hide hB9'
      go_wp2_with fail
      go_at_call 20
      refine (same_c _ _ b9 b6 L1 _ (unhide v9) (unhide u9)).mono ?_
      rintro e w10 ⟨rfl, n10, rfl⟩
      have hc10 := hide ((unhide hc9).drewN n10)
      have hn10 := hide ((unhide hn9).drewN n10)
      have hB10 : Below w.heap.size w (w9.drewN n10) := belowN (unhide hB9') _
      clear hc9 hn9 hB9' v9 u9
      obtain ⟨wa, hwa⟩ : ∃ wa, w9.drewN n10 = wa := ⟨_, rfl⟩
      have sa : wa.heap.size = w9.heap.size := by rw [← hwa]; rfl
      rw [hwa] at hc10 hn10 hB10 ⊢
      clear hwa
      replace hB10 := hide hB10
      go_wp2_with fail
      go_at_call 22
      refine (play_c w.heap.size p7 g7 R L1 _ A2 _ (unhide hc10) ((unhide hA2).below (unhide hB10)) (by omega) (by omega)).mono ?_
      rw [hL2.out]
      rintro e wb ⟨rfl, gb, hcb, hfb, hgb⟩
      have sb := hfb.size
      have hnb := hide ((unhide hn10).fr hfb (by omega) (by omega) (by omega) (by omega))
      have hBb : Below w.heap.size w wb := (unhide hB10).trans (hfb.below (by omega) (by omega) (by omega))
      clear hn10 hc10 hB10 hfb
      replace hcb := hide hcb
      replace hBb := hide hBb
      go_wp2_with fail
      go_at_call 21
      refine (list_v p7 gb R L2 _ (unhide hcb) L2.length rfl).mono ?_
      rintro e wc ⟨aoc, capc, bc, rfl, vc, hbc, hBc⟩
      have sc := hBc.size
      have hnc := hide ((unhide hnb).below hBc)
      have hBc' : Below w.heap.size w wc := (unhide hBb).trans (hBc.mono (by omega))
      clear hnb hcb hBb hBc
      replace vc := hide vc
      replace hbc := hide hbc
      replace hBc' := hide hBc'
      go_wp2_with fail
      go_at_call 21
      refine (list_v P g8 R L2 _ (unhide hnc) L2.length rfl).mono ?_
      rintro e wd ⟨aod, capd, bd, rfl, vd, _, hBd⟩
      have sd := hBd.size
      have ud := hide ((unhide vc).below hBd)
      have hBd' : Below w.heap.size w wd := (unhide hBc').trans (hBd.mono (by omega))
      clear vc hBc' hBd hnc
      replace vd := hide vd
      replace hBd' := hide hBd'
      go_wp2_with fail
      go_at_call 20
      refine (same_c _ _ bc bd L2 _ (unhide ud) (unhide vd)).mono ?_
      rintro e we ⟨rfl, ne, rfl⟩
      go_wp2_with fail
      go_ret
      exact ⟨rfl, belowN (unhide hBd') _⟩
end Go.Proofs.Ytajcebnbmejamaa
