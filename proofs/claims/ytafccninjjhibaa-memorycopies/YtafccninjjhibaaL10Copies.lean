/- The walk of MemoryCopies: it returns true; no old memory turns. Written by wip/gen10l.py. -/
import Derived.Test.YtafccninjjhibaaLaw10
import Derived.Test.YtafccninjjhibaaRmA
namespace Go.Proofs.Ytafccninjjhibaa
open Go.ChangeShapes Go.WideShapes Go.ChangeAt Go.RowKit
set_option linter.unusedSimpArgs false
set_option linter.unusedVariables false
set_option maxRecDepth 10000

attribute [local go_sem, local simp] over_const setCell_drewN alloc_drewN Over.cell Over.frozen lt_s1 lt_s2 lt_s3 le_s0 le_s1 le_s2 le_s3 eq_s0 eq_s1 eq_s2 qe_s0

set_option maxHeartbeats 1000000 in
theorem MemoryCopies_walk (s t : Int) (v : Value) (A : List Ac) (w : World) (h : ActsAt w.heap.size w v A) : Calls Try.prog 7 #[.agg #[.int .i64 s, .int .i64 t], v] w fun e w' => e = .returned (.bool true) ∧ Below w.heap.size w w' := by
  have hfld := field_n
  have hA := hide h
  obtain ⟨ao, cap, rfl, hlc, hmx, _⟩ := h
  have hmx' : A.length ≤ 9223372036854775807 := by unfold maxLen at hmx; omega
  clear hmx
  go_enter Try.func7, Try.ntmps7
  go_wp2_with fail
  go_at_call 8
  refine (awake10_any _).mono ?_
  rintro e w1 ⟨rfl, hb1⟩
  obtain ⟨X1, hB1, hs1⟩ := box1 hb1
  clear hb1
  replace X1 := hide X1
  go_wp2_with fail
  go_at_call 9
  refine (right_c _ A w1 ((unhide hA).below hB1).up).mono ?_
  rintro e w2 ⟨q, rfl, hb2, hq⟩
  have X2 := (unhide X1).below hb2
  have hB2 := hide (hB1.trans (hb2.mono hB1.size))
  clear hB1 hb2 hs1 X1
  cases q
  · clear X2
    go_wp2_with fail
    go_at_call 8
    refine (awake10_any _).mono ?_
    rintro e w9 ⟨rfl, hb9⟩
    replace hb9 := hide hb9
    go_wp2_with fail
    go_ret
    exact ⟨rfl, (unhide hB2).trans ((unhide hb9).mono (unhide hB2).size)⟩
  have hf : Hid (Fine A) := hq rfl
  have hlen : A.length ≤ 200 := hf.out.1
  clear hq
  obtain ⟨q4, q0, q1⟩ := id X2
  replace X2 := hide X2
  by_cases c0 : 1048576 < t
  · clear hf
    go_wp2_with fail
    go_at_call 8
    refine (awake10_any _).mono ?_
    rintro e w9 ⟨rfl, hb9⟩
    replace hb9 := hide hb9
    go_wp2_with fail
    go_ret
    exact ⟨rfl, (unhide hB2).trans ((unhide hb9).mono (unhide hB2).size)⟩
  obtain ⟨L0, hL0⟩ : ∃ L0, Hid (newM s t = L0) := ⟨_, rfl⟩
  obtain ⟨n, hn⟩ : ∃ n, Hid (L0.length = n) := ⟨_, rfl⟩
  go_wp2_with fail
  go_at_call 10
  refine (mNew_c s t 1048576 _ (by omega) (by decide)).mono ?_
  rw [hL0.out]
  rintro e w3 ⟨p, g, rfl, h3, hp3, hg3, hb3⟩
  have E3 := hide (MEnv.first (unhide hB2) h3 hp3 hg3 hb3)
  have hgl := h3.gl
  have hpl := h3.pl
  clear h3 hp3 hg3 hb3 q0 q1 X2 hB2 q4
  go_wp2_with fail
  go_at_call 17
  refine (mAll_c p g _ L0 w3 (unhide E3).n n hn).mono ?_
  rintro e w4 ⟨rfl, hO4, hb4⟩
  have E4 := hide ((unhide E3).quiet hb4)
  have hal := hO4.lt
  have hw3 : w.heap.size ≤ w3.heap.size := (unhide E3).bel.size
  replace hO4 := hide hO4
  clear E3 hb4
  go_wp2_with fail
  go_at_call 20
  refine (mCopy_c p g _ L0 w4 (unhide E4).n).mono ?_
  rintro e w5 ⟨p2, g2, rfl, h5, hp5, hg5, hb5⟩
  have E5 := hide ((unhide E4).quiet hb5)
  have hO5 := hide ((unhide hO4).below hb5)
  replace h5 := hide h5
  clear hO4 E4 hb5
  go_wp2_with fail
  go_loopw [40] (fun i wr => ∃ (j : Nat) (L : List Bun), j ≤ A.length ∧ i = .int .i64 j ∧ MEnv w wr p g (((j : Int) + 1) * 1048576) L ∧ MemIs wr p2 g2 1048576 L0 ∧ OwnB wr (slB w3.heap.size n) w3.heap.size L0 ∧ Hid (L.length = n)) (fun i _ => A.length - (intOf i).toNat)
  case atStart => exact ⟨0, L0, Nat.zero_le _, rfl, by simpa using unhide E5, unhide h5, unhide hO5, hn⟩
  case round =>
    obtain ⟨j, L, hj, rfl, E6, h6, hO6, hn6⟩ := hrel
    clear E5 h5 hO5
    by_cases hlt : j < A.length
    · have hlt' : (j : Int) < A.length := by omega
      obtain ⟨b, o, rfl, hbB, hbl, r0, r1, r2, r3, r4, r5, r6, r7, r8⟩ := acts_row ((unhide hA).below E6.bel) hlt
      obtain ⟨hok, hle⟩ := hf.out.2 _ (List.getElem_mem hlt)
      generalize A[j] = a at r0 r1 r2 r3 r4 r5 r6 r7 r8 hok hle
      replace hok := hide hok
      have hgl6 := E6.n.gl
      replace E6 := hide E6
      replace h6 := hide h6
      replace hO6 := hide hO6
      have hp6 := (unhide h6).pl
      have hg6 := (unhide h6).gl
      have ho6 := (unhide hO6).lt
      obtain ⟨q, hq⟩ : ∃ q, Hid (hasM L a.bl = q) := ⟨_, rfl⟩
      go_wp2_with fail
      go_at_call 13
      refine (mPut_c p g _ 1048576 a.bl a.t L _ ((unhide E6).n.alloc (acO a)) (unhide hok) hle (by omega) q hq _ rfl).mono ?_
      rintro e w7 ⟨rfl, h7, f7⟩
      have E7 := hide (((unhide E6).step (belA wr (acO a)) h7 f7).mono (N' := ((j + 1 : Nat) : Int) * 1048576 + 1048576) (by omega))
      have y7 := (ac_new wr a).fr f7 (by omega)
      have h8 := hide (((unhide h6).alloc (acO a)).fr f7 (by omega) (by omega))
      have hO8 := hide (((unhide hO6).alloc (acO a)).fr f7 (by omega))
      clear h7 f7 E6 h6 hO6 r0 r1 r2 r3 r4 r5 r6 r7 r8
      obtain ⟨-, r0, r1, r2, r3, r4, r5, r6, r7, r8⟩ := y7
      go_wp2_with fail
      go_at_call 15
      refine (mTake_c p g _ a.bl a.ct a.o a.d _ w7 (unhide E7).n (by omega) _ rfl _ rfl).mono ?_
      rintro e w9 ⟨rfl, h9, f9⟩
      have E9 := hide ((unhide E7).step (Below.refl _ _) h9 f9)
      have h10 := hide ((unhide h8).fr f9 (by omega) (by omega))
      have hO10 := hide ((unhide hO8).fr f9 (by omega))
      have hn10 : Hid ((takM (putM L a.bl a.t) a.bl a.ct a.o).length = n) := by unfold Hid; rw [takM_len, putM_len]; exact hn6.out
      clear h9 f9 E7 h8 hO8 r0 r1 r2 r3 r4 r5 r6 r7 r8
      go_wp2_with fail
      go_roundw
      case rel => exact ⟨j + 1, _, by omega, by simp, (unhide E9).mono (by omega), unhide h10, unhide hO10, hn10⟩
      case measure => simp [intOf]; omega
    · obtain rfl : j = A.length := by omega
      have E7 := hide (E6.mono (N' := 300000000) (by omega))
      have hp6 := h6.pl
      have hg6 := h6.gl
      have ho6 := hO6.lt
      have hpl6 := E6.n.pl
      have hgl6 := E6.n.gl
      replace h6 := hide h6
      replace hO6 := hide hO6
      clear E6 hlt
      go_wp2_with fail
      go_at_call 17
      refine (mAll_c p g _ L wr (unhide E7).n n hn6).mono ?_
      rintro e w7 ⟨rfl, hN7, hb7⟩
      have E8 := hide ((unhide E7).quiet hb7)
      have h8 := hide ((unhide h6).below hb7)
      have hO8 := hide ((unhide hO6).below hb7)
      have hnl := hN7.lt
      replace hN7 := hide hN7
      clear E7 h6 hO6 hb7
      go_wp2_with fail
      go_at_call 17
      refine (mAll_c p2 g2 _ L0 w7 (unhide h8) n hn).mono ?_
      rintro e w8 ⟨rfl, hC8, hb8⟩
      have E9 := hide ((unhide E8).quiet hb8)
      have h9 := hide ((unhide h8).below hb8)
      have hO9 := hide ((unhide hO8).below hb8)
      have hN9 := hide ((unhide hN7).below hb8)
      replace hC8 := hide hC8
      clear E8 h8 hO8 hN7 hb8
      go_wp2_with fail
      go_at_call 16
      refine (sameB_c _ _ _ _ L0 _ (unhide hC8).view (unhide hO9).view).mono ?_
      rintro e w9 ⟨rfl, nq, rfl⟩
      have E10 := hide ((unhide E9).quiet (belD w8 nq))
      have h10 := hide ((unhide h9).drewN nq)
      have hN10 := hide ((unhide hN9).below (belD w8 nq))
      clear E9 h9 hO9 hN9 hC8
      go_wp2_with fail
      go_at_call 15
      refine (mTake_c p2 g2 _ 0 1 true true L0 _ (unhide h10) (by decide) _ rfl _ rfl).mono ?_
      rintro e w11 ⟨rfl, h11, f11⟩
      have hm11 := hide ((unhide E10).n.fr f11 (by omega) (by omega))
      have hB11 := hide ((unhide E10).bel.trans (f11.below (fun i hi => by omega) (unhide E10).bel.size))
      have hN11 := hide ((unhide hN10).fr f11 (by omega))
      replace h11 := hide h11
      clear E10 h10 hN10 f11
      obtain ⟨q, hq⟩ : ∃ q, Hid (hasM (takM L0 0 1 true) 0 = q) := ⟨_, rfl⟩
      go_wp2_with fail
      go_at_call 13
      refine (mPut_c p2 g2 _ 7 0 ⟨7, false, false, 0⟩ _ _ (unhide h11) (by simp [okB]) (by decide) (by decide) q hq _ rfl).mono ?_
      rintro e w12 ⟨rfl, h12, f12⟩
      have hm12 := hide ((unhide hm11).fr f12 (by omega) (by omega))
      have hB12 := hide ((unhide hB11).trans (f12.below (fun i hi => by omega) (unhide hB11).size))
      have hN12 := hide ((unhide hN11).fr f12 (by omega))
      clear hm11 hB11 hN11 h11 h12 f12
      go_wp2_with fail
      go_at_call 17
      refine (mAll_c p g _ L w12 (unhide hm12) n hn6).mono ?_
      rintro e w13 ⟨rfl, hD13, hb13⟩
      have hN13 := hide ((unhide hN12).below hb13)
      have hB13 := hide ((unhide hB12).trans (hb13.mono (unhide hB12).size))
      replace hD13 := hide hD13
      clear hN12 hB12 hm12 hb13
      go_wp2_with fail
      go_at_call 16
      refine (sameB_c _ _ _ _ L _ (unhide hD13).view (unhide hN13).view).mono ?_
      rintro e w14 ⟨rfl, nq2, rfl⟩
      have hfin := hide (belowN (unhide hB13) nq2)
      go_wp2_with fail
      go_ret
      exact ⟨rfl, unhide hfin⟩
end Go.Proofs.Ytafccninjjhibaa
