/- The walk of ArbiterNothing: it returns true; no old memory turns (layer 12). -/
import Derived.Test.YtlfdahcbkdiifaaCmp12
namespace Go.Proofs.Ytlfdahcbkdiifaa
open Go.ChangeShapes Go.WideShapes Go.ChangeAt Go.RowKit
set_option linter.unusedSimpArgs false
set_option linter.unusedVariables false
set_option maxRecDepth 10000

attribute [local go_sem, local simp] over_const setCell_drewN alloc_drewN Over.cell Over.frozen lt_s1 lt_s2 lt_s3 le_s0 le_s1 le_s2 le_s3 eq_s0 eq_s1 eq_s2 qe_s0

abbrev szO (s t : Int) : Obj := .cells #[.int .i64 s, .int .i64 t] 22
theorem six {w wr : World} {s t : Int} {x : Ac} (hb : Below ((w.alloc (szO s t)).alloc (actsO x)).heap.size ((w.alloc (szO s t)).alloc (actsO x)) wr) :
    wr.cell? ⟨w.heap.size, 0, none⟩ = some (.int .i64 s) ∧ wr.cell? ⟨w.heap.size, 1, none⟩ = some (.int .i64 t) ∧ wr.cell? ⟨w.heap.size + 1, 1, none⟩ = some (.int .i64 x.b) ∧ wr.cell? ⟨w.heap.size + 1, 3, none⟩ = some (.int .i64 x.n) := by
  have e1 := hb.block w.heap.size (by simp only [World.size_alloc]; omega)
  have e2 := hb.block (w.heap.size + 1) (by simp)
  have o1 : ((w.alloc (szO s t)).alloc (actsO x)).heap[w.heap.size]? = some (szO s t) := (Below.heap_alloc _ _ _ (by simp)).trans (heap_alloc_new w _)
  have o2 : ((w.alloc (szO s t)).alloc (actsO x)).heap[w.heap.size + 1]? = some (actsO x) := by have := heap_alloc_new (w.alloc (szO s t)) (actsO x); rwa [World.size_alloc] at this
  rw [o1] at e1
  rw [o2] at e2
  exact ⟨cell_of_row _ _ _ _ _ _ e1, cell_of_row _ _ _ _ _ _ e1, cell_of_row _ _ _ _ _ _ e2, cell_of_row _ _ _ _ _ _ e2⟩

abbrev rq1 : Rq := ⟨[0], 1, 1, []⟩
theorem not_ask {N : Nat} {L : List Rq} {x y : Int} (h : (hasQ L.length x && hasQ N y) = false) : okAsk N L x y = false ∧ atAsk N L x y = at0 ∧ nxAsk N L x y = L := by
  unfold okAsk atAsk nxAsk
  rw [h]
  exact ⟨rfl, rfl, rfl⟩
theorem not_ack {N : Nat} {L : List Rq} {x y : Int} (s : Int) (h : (hasQ L.length x && hasQ N y) = false) : okAck N L x s y = false ∧ atAck N L x s y = at0 ∧ nxAck N L x s y = L := by
  unfold okAck atAck nxAck
  rw [h]
  exact ⟨rfl, rfl, rfl⟩
theorem first_ask {N n : Nat} (hN : 1 ≤ N) (hn : 1 ≤ n) : okAsk N (List.replicate n rq0) 0 0 = true ∧ atAsk N (List.replicate n rq0) 0 0 = ⟨0, 0, 1⟩ ∧ nxAsk N (List.replicate n rq0) 0 0 = (List.replicate n rq0).set 0 rq1 := by
  have h1 : hasQ (List.replicate n rq0).length 0 = true := by unfold hasQ; simp; omega
  have h2 : hasQ N 0 = true := by unfold hasQ; simp; omega
  have h3 : getQ (List.replicate n rq0) 0 = rq0 := by obtain ⟨m, rfl⟩ : ∃ m, n = m + 1 := ⟨n - 1, by omega⟩; rfl
  unfold okAsk atAsk nxAsk
  rw [h1, h2, h3]
  exact ⟨rfl, rfl, rfl⟩
theorem one_cur {n : Nat} (hn : 1 ≤ n) : okCur ((List.replicate n rq0).set 0 rq1) 0 = true ∧ atCur ((List.replicate n rq0).set 0 rq1) 0 = ⟨0, 0, 1⟩ ∧ wtsQ ((List.replicate n rq0).set 0 rq1) 0 = [] := by
  have h1 : hasQ ((List.replicate n rq0).set 0 rq1).length 0 = true := by unfold hasQ; simp; omega
  have h3 : getQ ((List.replicate n rq0).set 0 rq1) 0 = rq1 := by obtain ⟨m, rfl⟩ : ∃ m, n = m + 1 := ⟨n - 1, by omega⟩; rfl
  unfold okCur atCur wtsQ
  rw [h1, h3]
  exact ⟨rfl, rfl, rfl⟩
theorem no_cur {L : List Rq} {x : Int} (h : hasQ L.length x = false) : okCur L x = false ∧ atCur L x = at0 ∧ wtsQ L x = [] ∧ okDone L x 1 = false ∧ nxDone L x 1 = L := by
  unfold okCur atCur wtsQ okDone nxDone
  rw [h]
  exact ⟨rfl, rfl, rfl, rfl, rfl⟩
theorem WtIs.nil {w : World} {v : Value} {ob : Option Nat} (h : WtIs w v ob []) : ∃ a c, v = .slice a 0 c := by
  cases ob with
  | none => exact ⟨none, 0, h.1⟩
  | some b => obtain ⟨ao, cap, e, _⟩ := h; exact ⟨ao, cap, e⟩


set_option maxHeartbeats 2000000 in
theorem ArbiterNothing_walk (s t : Int) (x : Ac) (w : World) : Calls Try.prog 6 #[.agg #[.int .i64 s, .int .i64 t], .agg #[.int .i64 x.k, .int .i64 x.b, .int .i64 x.s, .int .i64 x.n]] w fun e w' => e = .returned (.bool true) ∧ Below w.heap.size w w' := by
  have hW : Hid (Below w.heap.size w ((w.alloc (szO s t)).alloc (actsO x))) := hide (((Below.refl _ _).alloc (Nat.le_refl _) _).alloc (by simp) _)
  go_enter Try.func6, Try.ntmps6
  go_wp2_with fail
  go_at_call 9
  refine (awake12_any _).mono ?_
  rintro e w1 ⟨rfl, hB1⟩
  obtain ⟨z0, z1, z2, z3⟩ := six (w := w) (s := s) (t := t) (x := x) hB1
  replace hB1 := hide hB1
  by_cases n1 : s < 1
  · go_wp2_with fail
    go_at_call 9
    refine (awake12_any _).mono ?_
    rintro e w9 ⟨rfl, hb9⟩
    replace hb9 := hide hb9
    go_wp2_with fail
    go_ret
    exact ⟨rfl, (unhide hW).trans (((unhide hB1).trans ((unhide hb9).mono (unhide hB1).size)).mono (unhide hW).size)⟩
  by_cases n2 : 64 < s
  · go_wp2_with fail
    go_at_call 9
    refine (awake12_any _).mono ?_
    rintro e w9 ⟨rfl, hb9⟩
    replace hb9 := hide hb9
    go_wp2_with fail
    go_ret
    exact ⟨rfl, (unhide hW).trans (((unhide hB1).trans ((unhide hb9).mono (unhide hB1).size)).mono (unhide hW).size)⟩
  by_cases n3 : t < 1
  · go_wp2_with fail
    go_at_call 9
    refine (awake12_any _).mono ?_
    rintro e w9 ⟨rfl, hb9⟩
    replace hb9 := hide hb9
    go_wp2_with fail
    go_ret
    exact ⟨rfl, (unhide hW).trans (((unhide hB1).trans ((unhide hb9).mono (unhide hB1).size)).mono (unhide hW).size)⟩
  by_cases n4 : 64 < t
  · go_wp2_with fail
    go_at_call 9
    refine (awake12_any _).mono ?_
    rintro e w9 ⟨rfl, hb9⟩
    replace hb9 := hide hb9
    go_wp2_with fail
    go_ret
    exact ⟨rfl, (unhide hW).trans (((unhide hB1).trans ((unhide hb9).mono (unhide hB1).size)).mono (unhide hW).size)⟩
  obtain ⟨N, hN⟩ : ∃ N, Hid (szQ s = N) := ⟨_, rfl⟩
  obtain ⟨n, hn⟩ : ∃ n, Hid (szQ t = n) := ⟨_, rfl⟩
  have hNs : (N : Int) = s := by have := szQ_in (x := s) (by omega) n2; rw [hN.out] at this; exact this
  have hnt : (n : Int) = t := by have := szQ_in (x := t) (by omega) n4; rw [hn.out] at this; exact this
  have hN1 : 1 ≤ N := by omega
  have hn1 : 1 ≤ n := by omega
  replace hNs := hide hNs
  replace hnt := hide hnt
  go_wp2_with fail
  go_at_call 10
  refine (aNew_c s t w1 N n hN hn).mono ?_
  rintro e w2 ⟨p, rfl, g, F2, h2, hf2, hp2, hb2⟩
  have E2 := hide (AEnv.first (unhide hB1) h2 hf2 hp2 hb2)
  clear h2 hf2 hp2 hb2 z0 z1 z2 z3
  go_wp2_with fail
  go_at_call 12
  refine (aAsk_c p g N 0 _ F2 0 0 w2 E2.out.n (by decide) ⟨0, 0, 1⟩ (hide (first_ask hN1 hn1).2.1) true (hide (first_ask hN1 hn1).1)).mono ?_
  rintro e w3 ⟨rfl, F3, h3, s3⟩
  rw [(first_ask hN1 hn1).2.2] at h3
  have hone := hide (one_cur hn1)
  have hlen : ((List.replicate n rq0).set 0 rq1).length = n := by simp
  obtain ⟨L1, hL1⟩ : ∃ L1, (List.replicate n rq0).set 0 rq1 = L1 := ⟨_, rfl⟩
  rw [hL1] at h3 hone hlen
  replace hL1 := hide hL1
  have E3 := hide (E2.out.step (Below.refl _ _) h3 s3)
  clear h3 s3 E2 hB1
  obtain ⟨z0, z1, z2, z3⟩ := six E3.out.bel
  by_cases b0 : x.b < 0 ∨ t ≤ x.b
  · have hq : hasQ L1.length x.b = false := by rw [hlen]; exact hasQ_no.2 (by have := hnt.out; omega)
    have hnot : Hid ((hasQ L1.length x.b && hasQ N x.n) = false) := hide (by rw [hq]; rfl)
    have hno := hide (no_cur hq)
    clear hq hlen
    rcases b0 with b0 | b0
    all_goals
      go_wp2_with fail
      go_at_call 12
      refine (aAsk_c p g N 1 L1 F3 x.b x.n w3 E3.out.n (by decide) at0 (hide (not_ask hnot.out).2.1) false (hide (not_ask hnot.out).1)).mono ?_
      rintro e w4 ⟨rfl, F4, h4, s4⟩
      rw [(not_ask hnot.out).2.2] at h4
      have E5 := hide ((E3.out.step (Below.refl _ _) h4 s4).quiet (belA w4 (atsO at0)))
      clear h4 s4 E3 z0 z1 z2 z3
      obtain ⟨z0, z1, z2, z3⟩ := six E5.out.bel
      go_wp2_with fail
      go_at_call 17
      refine (aAck_c p g N 2 L1 F4 x.b 1 x.n _ E5.out.n (by decide) at0 (hide (not_ack 1 hnot.out).2.1) false (hide (not_ack 1 hnot.out).1)).mono ?_
      rintro e w6 ⟨rfl, F6, h6, s6⟩
      rw [(not_ack 1 hnot.out).2.2] at h6
      have E7 := hide ((E5.out.step (Below.refl _ _) h6 s6).quiet (belA w6 (atsO at0)))
      clear h6 s6 E5 z0 z1 z2 z3
      obtain ⟨z0, z1, z2, z3⟩ := six E7.out.bel
      obtain ⟨a8, ha8⟩ : ∃ a8, Hid (atCur L1 x.b = a8) := ⟨_, rfl⟩
      go_wp2_with fail
      go_at_call 20
      refine (aCur_c p g N 3 L1 F6 x.b _ E7.out.n a8 ha8 false (hide hno.out.1)).mono ?_
      rintro e w8 ⟨rfl, hb8⟩
      have E9 := hide ((E7.out.quiet hb8).quiet (belA w8 (atsO a8)))
      clear hb8 E7 z0 z1 z2 z3
      obtain ⟨z0, z1, z2, z3⟩ := six E9.out.bel
      go_wp2_with fail
      go_at_call 20
      refine (aCur_c p g N 3 L1 F6 0 _ E9.out.n ⟨0, 0, 1⟩ (hide hone.out.2.1) true (hide hone.out.1)).mono ?_
      rintro e w10 ⟨rfl, hb10⟩
      have n10 := hide (LAt.new (E9.out.quiet hb10).n ⟨0, 0, 1⟩)
      have E11 := hide ((E9.out.quiet hb10).quiet (belA w10 (atsO ⟨0, 0, 1⟩)))
      clear hb10 E9 z0 z1 z2 z3
      obtain ⟨z0, z1, z2, z3⟩ := six E11.out.bel
      go_wp2_with fail
      go_at_call 22
      refine (aWait_c p g N 3 L1 F6 x.b _ E11.out.n (by decide)).mono ?_
      rintro e w12 ⟨v12, rfl, ob12, hW12, -, hb12⟩
      rw [hno.out.2.2.1] at hW12
      obtain ⟨ua, uc, rfl⟩ := hW12.nil
      have n12 := hide (n10.out.quiet hb12)
      have E12 := hide (E11.out.quiet hb12)
      clear hW12 hb12 E11 n10 z0 z1 z2 z3
      obtain ⟨z0, z1, z2, z3⟩ := six E12.out.bel
      go_wp2_with fail
      go_at_call 15
      refine (aDone_c p g N 3 L1 F6 x.b 1 w12 E12.out.n false (hide hno.out.2.2.2.1)).mono ?_
      rintro e w13 ⟨rfl, F13, h13, s13⟩
      rw [hno.out.2.2.2.2] at h13
      have n13 := hide (n12.out.step s13)
      have E13 := hide (E12.out.step (Below.refl _ _) h13 s13)
      obtain ⟨y9, y0, y1, y2⟩ := n13.out.at'
      clear h13 s13 E12 n12 z0 z1 z2 z3
      go_wp2_with fail
      go_at_call 22
      refine (aWait_c p g N 3 L1 F13 0 _ E13.out.n (by decide)).mono ?_
      rintro e w15 ⟨v15, rfl, ob15, hW15, -, hb15⟩
      rw [hone.out.2.2] at hW15
      obtain ⟨va, vc, rfl⟩ := hW15.nil
      have hfin := hide (E13.out.quiet hb15).bel
      clear hW15 hb15
      go_wp2_with fail
      go_ret
      exact ⟨rfl, (unhide hW).trans (hfin.out.mono (unhide hW).size)⟩
  · have b1 : ¬ x.b < 0 := by omega
    have b2 : x.b < t := by omega
    by_cases d0 : x.n < 0 ∨ s ≤ x.n
    · have hq : hasQ N x.n = false := hasQ_no.2 (by have := hNs.out; omega)
      have hnot : Hid ((hasQ L1.length x.b && hasQ N x.n) = false) := hide (by rw [hq]; simp)
      obtain ⟨on, hon⟩ : ∃ on, Hid (okCur L1 x.b = on) := ⟨_, rfl⟩
      clear hq hlen b0
      rcases d0 with d0 | d0
      all_goals
        go_wp2_with fail
        go_at_call 12
        refine (aAsk_c p g N 1 L1 F3 x.b x.n w3 E3.out.n (by decide) at0 (hide (not_ask hnot.out).2.1) false (hide (not_ask hnot.out).1)).mono ?_
        rintro e w4 ⟨rfl, F4, h4, s4⟩
        rw [(not_ask hnot.out).2.2] at h4
        have E5 := hide ((E3.out.step (Below.refl _ _) h4 s4).quiet (belA w4 (atsO at0)))
        clear h4 s4 E3 z0 z1 z2 z3
        obtain ⟨z0, z1, z2, z3⟩ := six E5.out.bel
        go_wp2_with fail
        go_at_call 17
        refine (aAck_c p g N 2 L1 F4 x.b 1 x.n _ E5.out.n (by decide) at0 (hide (not_ack 1 hnot.out).2.1) false (hide (not_ack 1 hnot.out).1)).mono ?_
        rintro e w6 ⟨rfl, F6, h6, s6⟩
        rw [(not_ack 1 hnot.out).2.2] at h6
        have E7 := hide ((E5.out.step (Below.refl _ _) h6 s6).quiet (belA w6 (atsO at0)))
        clear h6 s6 E5 z0 z1 z2 z3
        obtain ⟨z0, z1, z2, z3⟩ := six E7.out.bel
        obtain ⟨a8, ha8⟩ : ∃ a8, Hid (atCur L1 x.b = a8) := ⟨_, rfl⟩
        go_wp2_with fail
        go_at_call 20
        refine (aCur_c p g N 3 L1 F6 x.b _ E7.out.n a8 ha8 on hon).mono ?_
        rintro e w8 ⟨rfl, hb8⟩
        have E9 := hide ((E7.out.quiet hb8).quiet (belA w8 (atsO a8)))
        clear hb8 E7 z0 z1 z2 z3
        obtain ⟨z0, z1, z2, z3⟩ := six E9.out.bel
        go_wp2_with fail
        go_at_call 20
        refine (aCur_c p g N 3 L1 F6 0 _ E9.out.n ⟨0, 0, 1⟩ (hide hone.out.2.1) true (hide hone.out.1)).mono ?_
        rintro e w10 ⟨rfl, hb10⟩
        have n10 := hide (LAt.new (E9.out.quiet hb10).n ⟨0, 0, 1⟩)
        have E11 := hide ((E9.out.quiet hb10).quiet (belA w10 (atsO ⟨0, 0, 1⟩)))
        clear hb10 E9 z0 z1 z2 z3
        obtain ⟨z0, z1, z2, z3⟩ := six E11.out.bel
        obtain ⟨y9, y0, y1, y2⟩ := n10.out.at'
        clear n10
        go_wp2_with fail
        go_at_call 22
        refine (aWait_c p g N 3 L1 F6 0 _ E11.out.n (by decide)).mono ?_
        rintro e w15 ⟨v15, rfl, ob15, hW15, -, hb15⟩
        rw [hone.out.2.2] at hW15
        obtain ⟨va, vc, rfl⟩ := hW15.nil
        have hfin := hide (E11.out.quiet hb15).bel
        clear hW15 hb15
        go_wp2_with fail
        go_ret
        exact ⟨rfl, (unhide hW).trans (hfin.out.mono (unhide hW).size)⟩
    · have d1 : ¬ x.n < 0 := by omega
      have d2 : x.n < s := by omega
      clear b0 d0
      go_wp2_with fail
      go_ret
      exact ⟨rfl, (unhide hW).trans (E3.out.bel.mono (unhide hW).size)⟩
end Go.Proofs.Ytlfdahcbkdiifaa
