/- The walk of ArbiterCopies: it returns true; no old memory turns (layer 12). -/
import Derived.Test.YtlfdahcbkdiifaaCmp12
namespace Go.Proofs.Ytlfdahcbkdiifaa
open Go.ChangeShapes Go.WideShapes Go.ChangeAt Go.RowKit
set_option linter.unusedSimpArgs false
set_option linter.unusedVariables false
set_option maxRecDepth 10000

attribute [local go_sem, local simp] over_const setCell_drewN alloc_drewN Over.cell Over.frozen lt_s1 lt_s2 lt_s3 le_s0 le_s1 le_s2 le_s3 eq_s0 eq_s1 eq_s2 qe_s0


set_option maxHeartbeats 2000000 in
theorem ArbiterCopies_walk (nodes : Int) (v1 v2 : Value) (A B : List Ac) (w : World) (h1 : ActsAt w.heap.size w v1 A) (h2 : ActsAt w.heap.size w v2 B) : Calls Try.prog 8 #[.int .i64 nodes, v1, v2] w fun e w' => e = .returned (.bool true) ∧ Below w.heap.size w w' := by
  have hA := hide h1
  have hM := hide h2
  obtain ⟨ao, cap, rfl, hlc, hmx, _⟩ := h1
  obtain ⟨ao2, cap2, rfl, hlc2, hmx2, _⟩ := h2
  have hma : A.length ≤ 9223372036854775807 := by unfold maxLen at hmx; omega
  have hmm : B.length ≤ 9223372036854775807 := by unfold maxLen at hmx2; omega
  clear hmx hmx2
  go_enter Try.func8, Try.ntmps8
  go_wp2_with fail
  go_at_call 9
  refine (awake12_any _).mono ?_
  rintro e w1 ⟨rfl, hB1⟩
  replace hB1 := hide hB1
  by_cases n1 : nodes < 1
  · go_wp2_with fail
    go_at_call 9
    refine (awake12_any _).mono ?_
    rintro e w9 ⟨rfl, hb9⟩
    replace hb9 := hide hb9
    go_wp2_with fail
    go_ret
    exact ⟨rfl, (unhide hB1).trans ((unhide hb9).mono (unhide hB1).size)⟩
  by_cases n2 : 64 < nodes
  · go_wp2_with fail
    go_at_call 9
    refine (awake12_any _).mono ?_
    rintro e w9 ⟨rfl, hb9⟩
    replace hb9 := hide hb9
    go_wp2_with fail
    go_ret
    exact ⟨rfl, (unhide hB1).trans ((unhide hb9).mono (unhide hB1).size)⟩
  by_cases ca : 100 < (A.length : Int)
  · go_wp2_with fail
    go_at_call 9
    refine (awake12_any _).mono ?_
    rintro e w9 ⟨rfl, hb9⟩
    replace hb9 := hide hb9
    go_wp2_with fail
    go_ret
    exact ⟨rfl, (unhide hB1).trans ((unhide hb9).mono (unhide hB1).size)⟩
  by_cases cm : 100 < (B.length : Int)
  · go_wp2_with fail
    go_at_call 9
    refine (awake12_any _).mono ?_
    rintro e w9 ⟨rfl, hb9⟩
    replace hb9 := hide hb9
    go_wp2_with fail
    go_ret
    exact ⟨rfl, (unhide hB1).trans ((unhide hb9).mono (unhide hB1).size)⟩
  obtain ⟨N, hN⟩ : ∃ N, Hid (szQ nodes = N) := ⟨_, rfl⟩
  go_wp2_with fail
  go_at_call 10
  refine (aNew_c nodes 3 w1 N 3 hN (hide rfl)).mono ?_
  rintro e w2 ⟨p, rfl, g, F2, h2, hf2, hp2, hb2⟩
  have E2 := hide (AEnv.first (unhide hB1) h2 hf2 hp2 hb2)
  clear h2 hf2 hp2 hb2 hB1 n1 n2
  go_wp2_with fail
  go_at_call 24
  refine (tell12_c p g N 0 w.heap.size _ F2 _ A w2 E2.out.n (hA.out.below E2.out.bel) E2.out.bel.size E2.out.f0 (by omega)).mono ?_
  rintro e w3 ⟨rfl, F3, h3, s3⟩
  obtain ⟨L1, hL1⟩ : ∃ L1, Hid (playQ N (List.replicate 3 rq0) A = L1) := ⟨_, rfl⟩
  rw [hL1.out] at h3
  have E3 := hide ((E2.out.step (Below.refl _ _) h3 s3).mono (M' := 100) (by omega))
  clear h3 s3 E2
  go_wp2_with fail
  go_at_call 19
  refine (aCopy_c p g N 100 L1 F3 w3 E3.out.n (by decide)).mono ?_
  rintro e w4 ⟨pc, rfl, gc, F4, h4, hf4, hp4, hb4⟩
  have P4 := hide (Two.first E3.out h4 hf4 hp4 hb4)
  clear h4 hf4 hp4 hb4 E3
  go_wp2_with fail
  go_at_call 19
  refine (aCopy_c p g N 100 L1 F3 w4 P4.out.a.n (by decide)).mono ?_
  rintro e w5 ⟨pd, rfl, gd, F5, h5, hf5, hp5, hb5⟩
  have Q5 := hide (Two.first P4.out.a h5 hf5 hp5 hb5)
  have R5 := hide (Two.first P4.out.b h5 hf5 hp5 hb5)
  have P5 := hide (P4.out.quiet hb5)
  clear h5 hf5 hp5 hb5 P4
  obtain ⟨L2, hL2⟩ : ∃ L2, Hid (playQ N L1 B = L2) := ⟨_, rfl⟩
  go_wp2_with fail
  go_at_call 24
  refine (tell12_c p g N 100 w.heap.size L1 F3 _ B w5 P5.out.a.n (hM.out.below P5.out.a.bel) P5.out.a.bel.size P5.out.a.f0 (by omega)).mono ?_
  rintro e w6 ⟨rfl, F6, h6, s6⟩
  rw [hL2.out] at h6
  have P6 := hide (P5.out.step h6 s6)
  have R6 := hide (R5.out.aside s6.fr P6.out.a.bel P5.out.pb Q5.out.pb (fun x hx hf => P5.out.dis x hf hx) (fun x hx hf => Q5.out.dis x hf hx))
  clear h6 s6 P5 Q5 R5
  go_wp2_with fail
  go_at_call 24
  refine (tell12_c pc gc N 100 w.heap.size L1 F4 _ B w6 P6.out.b.n (hM.out.below P6.out.b.bel) P6.out.b.bel.size P6.out.b.f0 (by omega)).mono ?_
  rintro e w7 ⟨rfl, F7, h7, s7⟩
  rw [hL2.out] at h7
  have P7 := hide ((P6.out.swap.step h7 s7).swap.mono (K := 200) (K' := 200) (by omega) (by omega))
  have R7 := hide ((R6.out.step h7 s7).mono (K := 200) (K' := 100) (by omega) (by omega))
  clear h7 s7 P6 R6
  go_wp2_with fail
  go_loopw [63] (fun i wr => ∃ j : Nat, j ≤ 3 ∧ i = .int .i64 j ∧ Two w wr p g N 200 L2 F6 pc gc N 200 L2 F7 ∧ Two w wr pc gc N 200 L2 F7 pd gd N 100 L1 F5) (fun i _ => 3 - (intOf i).toNat)
  case atStart => exact ⟨0, Nat.zero_le _, rfl, P7.out, R7.out⟩
  case round =>
    obtain ⟨j, hj, rfl, P1, R1⟩ := hrel
    clear P7 R7
    replace P1 := hide P1
    replace R1 := hide R1
    by_cases hlt : j < 3
    · have hlt' : (j : Int) < 3 := by omega
      obtain ⟨a, ha⟩ : ∃ a, Hid (atCur L2 j = a) := ⟨_, rfl⟩
      obtain ⟨ok, hok⟩ : ∃ ok, Hid (okCur L2 j = ok) := ⟨_, rfl⟩
      obtain ⟨T, hT⟩ : ∃ T, Hid (wtsQ L2 j = T) := ⟨_, rfl⟩
      go_wp2_with fail
      go_at_call 20
      refine (aCur_c p _ _ _ L2 _ j _ P1.out.a.n a ha ok hok).mono ?_
      rintro e w21 ⟨rfl, hb21⟩
      have hb22 := hb21.trans ((belA w21 (atsO a)).mono hb21.size)
      have P22 := hide (P1.out.quiet hb22)
      replace R1 := hide (R1.out.quiet hb22)
      have n22 := hide (ats_new w21 a)
      clear hb21 hb22 P1
      go_wp2_with fail
      go_at_call 20
      refine (aCur_c pc _ _ _ L2 _ j _ P22.out.b.n a ha ok hok).mono ?_
      rintro e w23 ⟨rfl, hb23⟩
      have hb24 := hb23.trans ((belA w23 (atsO a)).mono hb23.size)
      have P24 := hide (P22.out.quiet hb24)
      replace R1 := hide (R1.out.quiet hb24)
      obtain ⟨y9, y0, y1, y2⟩ := n22.out.below hb23
      clear hb23 hb24 P22 n22
      go_wp2_with fail
      go_at_call 22
      refine (aWait_c p _ _ _ L2 _ j _ P24.out.a.n (by decide)).mono ?_
      rintro e w25 ⟨v25, rfl, ob25, hW25, -, hb25⟩
      have P25 := hide (P24.out.quiet hb25)
      replace R1 := hide (R1.out.quiet hb25)
      rw [hT.out] at hW25
      obtain ⟨b25, V25⟩ := hW25.view
      replace V25 := hide V25
      clear hW25 hb25 P24 y9 y0 y1 y2
      go_wp2_with fail
      go_at_call 22
      refine (aWait_c pc _ _ _ L2 _ j _ P25.out.b.n (by decide)).mono ?_
      rintro e w26 ⟨v26, rfl, ob26, hW26, -, hb26⟩
      have P26 := hide (P25.out.quiet hb26)
      replace R1 := hide (R1.out.quiet hb26)
      rw [hT.out] at hW26
      obtain ⟨b26, V26⟩ := hW26.view
      have V27 := hide (V25.out.below hb26)
      replace V26 := hide V26
      clear hW26 hb26 P25 V25
      go_wp2_with fail
      go_at_call 21
      refine (ints_c _ _ _ _ T T _ V27.out V26.out).mono ?_
      rw [show decide (T = T) = true by simp]
      rintro e w28 ⟨rfl, nq, rfl⟩
      have P28 := hide (P26.out.quiet (belD w26 nq))
      replace R1 := hide (R1.out.quiet (belD w26 nq))
      clear P26 V26 V27
      go_wp2_with fail
      go_roundw
      case rel => exact ⟨j + 1, by omega, by simp, P28.out, R1.out⟩
      case measure => simp [intOf]; omega
    · obtain rfl : j = 3 := by omega
      go_wp2_with fail
      go_at_call 24
      refine (tell12_c pd gd N 100 w.heap.size L1 F5 _ B wr R1.out.b.n (hM.out.below R1.out.b.bel) R1.out.b.bel.size R1.out.b.f0 (by omega)).mono ?_
      rintro e w8 ⟨rfl, F8, h8, s8⟩
      rw [hL2.out] at h8
      have R8 := hide ((R1.out.swap.step h8 s8).swap.mono (K := 200) (K' := 200) (by omega) (by omega))
      clear h8 s8 P1 R1
      obtain ⟨a, ha⟩ : ∃ a, Hid (atCur L2 0 = a) := ⟨_, rfl⟩
      obtain ⟨ok, hok⟩ : ∃ ok, Hid (okCur L2 0 = ok) := ⟨_, rfl⟩
      obtain ⟨T, hT⟩ : ∃ T, Hid (wtsQ L2 0 = T) := ⟨_, rfl⟩
      go_wp2_with fail
      go_at_call 20
      refine (aCur_c pc _ _ _ L2 _ 0 _ R8.out.a.n a ha ok hok).mono ?_
      rintro e w21 ⟨rfl, hb21⟩
      have hb22 := hb21.trans ((belA w21 (atsO a)).mono hb21.size)
      have P22 := hide (R8.out.quiet hb22)
      skip
      have n22 := hide (ats_new w21 a)
      clear hb21 hb22 R8
      go_wp2_with fail
      go_at_call 20
      refine (aCur_c pd _ _ _ L2 _ 0 _ P22.out.b.n a ha ok hok).mono ?_
      rintro e w23 ⟨rfl, hb23⟩
      have hb24 := hb23.trans ((belA w23 (atsO a)).mono hb23.size)
      have P24 := hide (P22.out.quiet hb24)
      skip
      obtain ⟨y9, y0, y1, y2⟩ := n22.out.below hb23
      clear hb23 hb24 P22 n22
      go_wp2_with fail
      go_at_call 22
      refine (aWait_c pc _ _ _ L2 _ 0 _ P24.out.a.n (by decide)).mono ?_
      rintro e w25 ⟨v25, rfl, ob25, hW25, -, hb25⟩
      have P25 := hide (P24.out.quiet hb25)
      skip
      rw [hT.out] at hW25
      obtain ⟨b25, V25⟩ := hW25.view
      replace V25 := hide V25
      clear hW25 hb25 P24 y9 y0 y1 y2
      go_wp2_with fail
      go_at_call 22
      refine (aWait_c pd _ _ _ L2 _ 0 _ P25.out.b.n (by decide)).mono ?_
      rintro e w26 ⟨v26, rfl, ob26, hW26, -, hb26⟩
      have P26 := hide (P25.out.quiet hb26)
      skip
      rw [hT.out] at hW26
      obtain ⟨b26, V26⟩ := hW26.view
      have V27 := hide (V25.out.below hb26)
      replace V26 := hide V26
      clear hW26 hb26 P25 V25
      go_wp2_with fail
      go_at_call 21
      refine (ints_c _ _ _ _ T T _ V27.out V26.out).mono ?_
      rw [show decide (T = T) = true by simp]
      rintro e w28 ⟨rfl, nq, rfl⟩
      have P28 := hide (P26.out.quiet (belD w26 nq))
      skip
      clear P26 V26 V27
      go_wp2_with fail
      go_ret
      exact ⟨rfl, P28.out.a.bel⟩
end Go.Proofs.Ytlfdahcbkdiifaa
