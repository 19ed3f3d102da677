/- The walk of ArbiterOnce: it returns true; no old memory turns (layer 12). -/
import Derived.Test.YtlfdahcbkdiifaaCmp12
namespace Go.Proofs.Ytlfdahcbkdiifaa
open Go.ChangeShapes Go.WideShapes Go.ChangeAt Go.RowKit
set_option linter.unusedSimpArgs false
set_option linter.unusedVariables false
set_option maxRecDepth 10000

attribute [local go_sem, local simp] over_const setCell_drewN alloc_drewN Over.cell Over.frozen lt_s1 lt_s2 lt_s3 le_s0 le_s1 le_s2 le_s3 eq_s0 eq_s1 eq_s2 qe_s0

/-- One is active, the first. -/
def On1 (L : List Rq) : Prop := ∃ A, L = [⟨A, 1, 1, []⟩]
/-- It is ending, and the last node doesn't know it. -/
def On2 (N : Nat) (L : List Rq) : Prop := ∃ A kn, L = [⟨A, 1, 2, kn⟩] ∧ ((N : Int) - 1) ∉ kn

theorem on1_first {N : Nat} (hN : 2 ≤ N) : okAsk N [rq0] 0 0 = true ∧ atAsk N [rq0] 0 0 = ⟨0, 0, 1⟩ ∧ On1 (nxAsk N [rq0] 0 0) := by
  have h2 : hasQ N 0 = true := by unfold hasQ; simp; omega
  unfold okAsk atAsk nxAsk
  rw [h2]
  exact ⟨rfl, rfl, [0], rfl⟩
theorem on1_ask {N : Nat} {L : List Rq} (h : On1 L) (y : Int) : okAsk N L 0 y = false ∧ On1 (nxAsk N L 0 y) := by
  obtain ⟨A, rfl⟩ := h
  unfold okAsk nxAsk
  cases hasQ N y with
  | false => exact ⟨rfl, A, rfl⟩
  | true => exact ⟨rfl, A ++ [y], rfl⟩
theorem on1_ack {N : Nat} {L : List Rq} (h : On1 L) (s y : Int) : okAck N L 0 s y = false ∧ On1 (nxAck N L 0 s y) := by
  obtain ⟨A, rfl⟩ := h
  unfold okAck nxAck
  have e : isEQ (getQ [⟨A, 1, 1, []⟩] 0) s = false := by unfold isEQ; simp [getQ]
  unfold okKQ nxKQ
  rw [e]
  cases hasQ N y with
  | false => exact ⟨rfl, A, rfl⟩
  | true => exact ⟨rfl, A, rfl⟩
theorem on1_done {N : Nat} {L : List Rq} (h : On1 L) : okDone L 0 1 = true ∧ On2 N (nxDone L 0 1) := by
  obtain ⟨A, rfl⟩ := h
  exact ⟨rfl, A, [], rfl, by simp⟩
theorem on2_done {N : Nat} {L : List Rq} (h : On2 N L) : okDone L 0 1 = false ∧ On2 N (nxDone L 0 1) := by
  obtain ⟨A, kn, rfl, hk⟩ := h
  exact ⟨rfl, A, kn, rfl, hk⟩
theorem on2_ack {N : Nat} {L : List Rq} (h : On2 N L) (hN : 1 ≤ N) {y : Int} (hy : y ≠ (N : Int) - 1) : okAck N L 0 1 y = false ∧ On2 N (nxAck N L 0 1 y) := by
  obtain ⟨A, kn, rfl, hk⟩ := h
  have hno : ((N : Int) - 1) ∉ kn ++ [y] := by simp [hk]; exact fun e => hy e.symm
  have ha : allKQ N (kn ++ [y]) = false := by
    cases e : allKQ N (kn ++ [y]) with
    | false => rfl
    | true => have := allKQ_iff.1 e (N - 1) (by omega); rw [show ((N - 1 : Nat) : Int) = (N : Int) - 1 by omega] at this; exact absurd this hno
  have hg : getQ [(⟨A, 1, 2, kn⟩ : Rq)] 0 = ⟨A, 1, 2, kn⟩ := rfl
  have e : isEQ (⟨A, 1, 2, kn⟩ : Rq) 1 = true := by unfold isEQ; simp
  have hq : knQ N ⟨A, 1, 2, kn⟩ y = ⟨A, 1, 2, kn ++ [y]⟩ := by unfold knQ; dsimp only; rw [ha]; rfl
  unfold okAck nxAck okKQ nxKQ
  rw [hg, e, hq]
  cases hasQ N y with
  | false => exact ⟨rfl, A, kn, rfl, hk⟩
  | true => exact ⟨rfl, A, kn ++ [y], rfl, hno⟩
theorem on2_cur {N : Nat} {L : List Rq} (h : On2 N L) : okCur L 0 = false ∧ atCur L 0 = at0 := by
  obtain ⟨A, kn, rfl, hk⟩ := h
  exact ⟨rfl, rfl⟩


set_option maxHeartbeats 2000000 in
theorem ArbiterOnce_walk (nodes : Int) (v1 : Value) (A : List Ac) (w : World) (h1 : ActsAt w.heap.size w v1 A) : Calls Try.prog 5 #[.int .i64 nodes, v1] w fun e w' => e = .returned (.bool true) ∧ Below w.heap.size w w' := by
  have hA := hide h1
  obtain ⟨ao, cap, rfl, hlc, hmx, _⟩ := h1
  have hma : A.length ≤ 9223372036854775807 := by unfold maxLen at hmx; omega
  clear hmx
  go_enter Try.func5, Try.ntmps5
  go_wp2_with fail
  go_at_call 9
  refine (awake12_any _).mono ?_
  rintro e w1 ⟨rfl, hB1⟩
  replace hB1 := hide hB1
  by_cases n1 : nodes < 2
  · go_wp2_with fail
    go_at_call 9
    refine (awake12_any _).mono ?_
    rintro e w9 ⟨rfl, hb9⟩
    replace hb9 := hide hb9
    go_wp2_with fail
    go_ret
    exact ⟨rfl, (unhide hB1).trans ((unhide hb9).mono (unhide hB1).size)⟩
  by_cases n2 : 64 < nodes
  · go_wp2_with fail
    go_at_call 9
    refine (awake12_any _).mono ?_
    rintro e w9 ⟨rfl, hb9⟩
    replace hb9 := hide hb9
    go_wp2_with fail
    go_ret
    exact ⟨rfl, (unhide hB1).trans ((unhide hb9).mono (unhide hB1).size)⟩
  by_cases ca : 100 < (A.length : Int)
  · go_wp2_with fail
    go_at_call 9
    refine (awake12_any _).mono ?_
    rintro e w9 ⟨rfl, hb9⟩
    replace hb9 := hide hb9
    go_wp2_with fail
    go_ret
    exact ⟨rfl, (unhide hB1).trans ((unhide hb9).mono (unhide hB1).size)⟩
  obtain ⟨N, hN⟩ : ∃ N, Hid (szQ nodes = N) := ⟨_, rfl⟩
  have hNs : (N : Int) = nodes := by have := szQ_in (x := nodes) (by omega) n2; rw [hN.out] at this; exact this
  have hN2 : 2 ≤ N := by omega
  have hw1 : IntKind.i64.wrap (nodes - 1) = nodes - 1 := by rw [IntKind.wrap_i64]; omega
  replace hNs := hide hNs
  go_wp2_with fail
  go_at_call 10
  refine (aNew_c nodes 1 w1 N 1 hN (hide rfl)).mono ?_
  rintro e w2 ⟨p, rfl, g, F2, h2, hf2, hp2, hb2⟩
  have E2 : Hid (AEnv w w2 p g N 0 [rq0] F2) := hide (AEnv.first (unhide hB1) h2 hf2 hp2 hb2)
  clear h2 hf2 hp2 hb2 hB1
  go_wp2_with fail
  go_at_call 12
  refine (aAsk_c p g N 0 _ F2 0 0 w2 E2.out.n (by decide) ⟨0, 0, 1⟩ (hide (on1_first hN2).2.1) true (hide (on1_first hN2).1)).mono ?_
  rintro e w3 ⟨rfl, F3, h3, s3⟩
  have o3 := hide (on1_first hN2).2.2
  have E3 := hide (E2.out.step (Below.refl _ _) h3 s3)
  obtain ⟨L3, hL3⟩ : ∃ L3, nxAsk N [rq0] 0 0 = L3 := ⟨_, rfl⟩
  rw [hL3] at o3 E3
  clear h3 s3 E2 hL3
  obtain ⟨a4, ha4⟩ : ∃ a4, Hid (atAsk N L3 0 1 = a4) := ⟨_, rfl⟩
  go_wp2_with fail
  go_at_call 12
  refine (aAsk_c p g N 1 L3 F3 0 1 w3 E3.out.n (by decide) a4 ha4 false (hide (on1_ask o3.out 1).1)).mono ?_
  rintro e w4 ⟨rfl, F4, h4, s4⟩
  have o4 := hide (on1_ask (N := N) o3.out 1).2
  have E4 := hide (E3.out.step (Below.refl _ _) h4 s4)
  obtain ⟨L4, hL4⟩ : ∃ L4, nxAsk N L3 0 1 = L4 := ⟨_, rfl⟩
  rw [hL4] at o4 E4
  clear h4 s4 E3 hL4 o3 ha4
  go_wp2_with fail
  go_loopw [44] (fun i wr => ∃ j : Nat, j ≤ A.length ∧ i = .int .i64 j ∧ ∃ L F, AEnv w wr p g N (2 + 2 * j) L F ∧ On1 L) (fun i _ => A.length - (intOf i).toNat)
  case atStart => exact ⟨0, Nat.zero_le _, rfl, L4, F4, E4.out, o4.out⟩
  case round =>
    obtain ⟨j, hj, rfl, L, F, E1, o1⟩ := hrel
    clear E4 o4
    replace o1 := hide o1
    by_cases hlt : j < A.length
    · have hlt' : (j : Int) < A.length := by omega
      obtain ⟨b, o', rfl, hbB, hbl, -, r0, r1, r2, r3⟩ := acts_row (hA.out.below E1.bel) hlt
      generalize A[j] = x at r0 r1 r2 r3
      obtain ⟨k, xb, xs, xn⟩ := x
      have hbF : ¬ F wr.heap.size := fun e => by have := E1.n.lt _ e; omega
      have E5 := hide (E1.quiet (belA wr (actsO ⟨k, xb, xs, xn⟩)))
      have c5 := hide (acts_new wr ⟨k, xb, xs, xn⟩)
      clear E1
      obtain ⟨a5, ha5⟩ : ∃ a5, Hid (atAsk N L 0 xn = a5) := ⟨_, rfl⟩
      go_wp2_with fail
      go_at_call 12
      refine (aAsk_c p g N (2 + 2 * j) L F 0 xn _ E5.out.n (by omega) a5 ha5 false (hide (on1_ask o1.out xn).1)).mono ?_
      rintro e w6 ⟨rfl, F6, h6, s6⟩
      have o6 := hide (on1_ask (N := N) o1.out xn).2
      have E7 := hide ((E5.out.step (Below.refl _ _) h6 s6).quiet (belA w6 (atsO a5)))
      have c7 := (c5.out.carry (s6.keep hbF c5.out.lt).1).below (belA w6 (atsO a5))
      obtain ⟨y9, y0, y1, y2, y3⟩ := c7
      obtain ⟨L7, hL7⟩ : ∃ L7, nxAsk N L 0 xn = L7 := ⟨_, rfl⟩
      rw [hL7] at o6 E7
      clear h6 s6 E5 c5 hL7 ha5
      obtain ⟨a8, ha8⟩ : ∃ a8, Hid (atAck N L7 0 xs xn = a8) := ⟨_, rfl⟩
      go_wp2_with fail
      go_at_call 17
      refine (aAck_c p g N (2 + 2 * j + 1) L7 F6 0 xs xn _ E7.out.n (by omega) a8 ha8 false (hide (on1_ack o6.out xs xn).1)).mono ?_
      rintro e w8 ⟨rfl, F8, h8, s8⟩
      have o8 := hide (on1_ack (N := N) o6.out xs xn).2
      have E9 := hide ((E7.out.step (Below.refl _ _) h8 s8).quiet (belA w8 (atsO a8)))
      clear h8 s8 E7 o6 ha8 y9 y0 y1 y2 y3
      go_wp2_with fail
      go_roundw
      case rel => exact ⟨j + 1, by omega, by simp, _, _, E9.out.mono (by omega), o8.out⟩
      case measure => simp [intOf]; omega
    · obtain rfl : j = A.length := by omega
      have E5 := hide (E1.mono (M' := 300) (by omega))
      clear E1
      go_wp2_with fail
      go_at_call 15
      refine (aDone_c p g N 300 L F 0 1 wr E5.out.n true (hide (on1_done (N := N) o1.out).1)).mono ?_
      rintro e w6 ⟨rfl, F6, h6, s6⟩
      have o6 := hide (on1_done (N := N) o1.out).2
      have E6 := hide (E5.out.step (Below.refl _ _) h6 s6)
      obtain ⟨L6, hL6⟩ : ∃ L6, nxDone L 0 1 = L6 := ⟨_, rfl⟩
      rw [hL6] at o6 E6
      clear h6 s6 E5 hL6 o1
      go_wp2_with fail
      go_at_call 15
      refine (aDone_c p g N 300 L6 F6 0 1 w6 E6.out.n false (hide (on2_done o6.out).1)).mono ?_
      rintro e w7 ⟨rfl, F7, h7, s7⟩
      have o7 := hide (on2_done o6.out).2
      have E7 := hide (E6.out.step (Below.refl _ _) h7 s7)
      obtain ⟨L7, hL7⟩ : ∃ L7, nxDone L6 0 1 = L7 := ⟨_, rfl⟩
      rw [hL7] at o7 E7
      clear h7 s7 E6 hL7 o6
      go_wp2_with fail
      obtain ⟨wo, hwo⟩ : ∃ wo, wo = wr := ⟨_, rfl⟩
      subst hwo
      go_loopw [76] (fun i wr => ∃ j : Nat, j ≤ A.length ∧ i = .int .i64 j ∧ ∃ L F, AEnv w wr p g N (300 + j) L F ∧ On2 N L) (fun i _ => A.length - (intOf i).toNat)
      case atStart => exact ⟨0, Nat.zero_le _, rfl, L7, F7, E7.out, o7.out⟩
      case round =>
        obtain ⟨j, hj, rfl, L1, F1, E1, o1⟩ := hrel
        clear E7 o7
        replace o1 := hide o1
        by_cases hlt : j < A.length
        · have hlt' : (j : Int) < A.length := by omega
          obtain ⟨b, o', rfl, hbB, hbl, -, r0, r1, r2, r3⟩ := acts_row (hA.out.below E1.bel) hlt
          generalize A[j] = x at r0 r1 r2 r3
          obtain ⟨k, xb, xs, xn⟩ := x
          have E5 := hide (E1.quiet (belA wr (actsO ⟨k, xb, xs, xn⟩)))
          clear E1
          by_cases e : xn = nodes - 1
          · have e' : decide (xn = nodes - 1) = true ∧ (xn == nodes - 1) = true := ⟨by simpa using e, by simpa using e⟩
            replace e := hide e
            go_wp2_with fail
            go_roundw
            case rel => exact ⟨j + 1, by omega, by simp, _, _, E5.out.mono (by omega), o1.out⟩
            case measure => simp [intOf]; omega
          · have e' : decide (xn = nodes - 1) = false ∧ (xn == nodes - 1) = false := ⟨by simpa using e, by simpa using e⟩
            have hy : xn ≠ (N : Int) - 1 := by rw [hNs.out]; exact e
            replace e := hide e
            replace hy := hide hy
            obtain ⟨a8, ha8⟩ : ∃ a8, Hid (atAck N L1 0 1 xn = a8) := ⟨_, rfl⟩
            go_wp2_with fail
            go_at_call 17
            refine (aAck_c p g N (300 + j) L1 F1 0 1 xn _ E5.out.n (by omega) a8 ha8 false (hide (on2_ack o1.out (by omega) hy.out).1)).mono ?_
            rintro e w8 ⟨rfl, F8, h8, s8⟩
            have o8 := hide (on2_ack o1.out (by omega) hy.out).2
            have E9 := hide ((E5.out.step (Below.refl _ _) h8 s8).quiet (belA w8 (atsO a8)))
            clear h8 s8 E5 o1 ha8
            go_wp2_with fail
            go_roundw
            case rel => exact ⟨j + 1, by omega, by simp, _, _, E9.out.mono (by omega), o8.out⟩
            case measure => simp [intOf]; omega
        · obtain rfl : j = A.length := by omega
          have E5 := hide (E1.mono (M' := 400) (by omega))
          clear E1
          go_wp2_with fail
          go_at_call 20
          refine (aCur_c p g N 400 L1 F1 0 wr E5.out.n at0 (hide (on2_cur o1.out).2) false (hide (on2_cur o1.out).1)).mono ?_
          rintro e w9 ⟨rfl, hb9⟩
          have hfin := hide ((E5.out.quiet hb9).quiet (belA w9 (atsO at0))).bel
          clear hb9 E5
          go_wp2_with fail
          go_ret
          exact ⟨rfl, hfin.out⟩
end Go.Proofs.Ytlfdahcbkdiifaa
