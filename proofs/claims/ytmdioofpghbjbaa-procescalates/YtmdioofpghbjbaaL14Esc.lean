/- The walk of ProcEscalates: it returns true; no old memory turns (layer 14). -/
import Derived.Test.YtmdioofpghbjbaaLaw14
import Derived.Test.YtmdioofpghbjbaaStdMath
import Derived.Test.YtmdioofpghbjbaaTimRef
namespace Go.Proofs.Ytmdioofpghbjbaa
open Go.ChangeShapes Go.WideShapes Go.ChangeAt Go.RowKit
set_option linter.unusedSimpArgs false
set_option linter.unusedVariables false
set_option maxRecDepth 10000

attribute [local go_sem, local simp] over_const setCell_drewN alloc_drewN Over.cell Over.frozen lt_s1 lt_s2 lt_s3 le_s0 le_s1 le_s2 le_s3 eq_s0 eq_s1 eq_s2 qe_s0

theorem esc_on (wa tr l t : Int) (o : Bool) : nxT wa tr ⟨0, l, t, o, op30, true⟩ = ⟨0, (tickT l t o wa tr).l, (tickT l t o wa tr).t, (tickT l t o wa tr).o, op30, true⟩ := rfl
theorem esc_over (wa tr t : Int) : tickT 0 t true wa tr = ⟨0, t, true, 0⟩ := rfl

set_option maxHeartbeats 2000000 in
theorem ProcEscalates_walk (wa tr x : Int) (w : World) : Calls Try.prog 5 #[.int .i64 wa, .int .i64 tr, .int .i64 x] w fun e w' => e = .returned (.bool true) ∧ Below w.heap.size w w' := by
  by_cases hin : (1 ≤ wa ∧ wa ≤ 16) ∧ 0 ≤ tr ∧ tr ≤ 6
  · obtain ⟨⟨i1, i2⟩, i3, i4⟩ := hin
    obtain ⟨T, rfl⟩ : ∃ T : Nat, tr = T := ⟨tr.toNat, by omega⟩
    have hT : T ≤ 8 := by omega
    obtain ⟨k0, m0, e0⟩ := rem_u x 50 (by decide) (by decide)
    have hN0 := totZ_long wa T i1 (by omega) hT
    have hb := longZ_bd wa T i1 (by omega) hT
    have hm' := longZ_mono wa (by omega) (Nat.zero_le T)
    rw [longZ_zero] at hm'
    obtain ⟨n, hnn⟩ : ∃ n : Nat, totZ wa T = n := ⟨(totZ wa T).toNat, by omega⟩
    have hN : Hid ((n : Int) = 2 * longZ wa T - wa) := by rw [← hnn]; exact hN0
    have n1 : 1 ≤ n := by have := hN.out; omega
    have n2 : n ≤ 32768 := by have := hN.out; omega
    have hn := hide hnn
    clear hb hm' hN0 hnn
    have hmx : max wa 1 = wa := by omega
    have d1 : decide (wa < 1) = false := by simp; omega
    have d2 : decide (16 < wa) = false := by simp; omega
    have d3 : decide ((T : Int) < 0) = false := by simp
    have d4 : decide (6 < (T : Int)) = false := by simp; omega
    replace i1 := hide i1
    replace i2 := hide i2
    clear i3 i4
    go_enter Try.func5, Try.ntmps5
    go_wp2_with fail
    go_at_call 8
    refine (awake14_any _).mono ?_
    rintro e w1 ⟨rfl, hb1⟩
    replace hb1 := hide hb1
    go_wp2_with fail
    go_at_call 9
    refine (pNew_c wa T w1 (by have := i2.out; omega) (by omega)).mono ?_
    rintro e w2 ⟨p, rfl, hn2, hp2, hb2⟩
    have P2 := hide (PEnv.first hb1.out hn2 hp2 hb2)
    clear hn2 hp2 hb2 hb1
    go_wp2_with fail
    go_at_call 10
    refine (pIss_c p wa T pm0 op30 w2 P2.out.n true (hide rfl)).mono ?_
    rintro e w3 ⟨rfl, h3, f3⟩
    have P3 : Hid (PEnv w w3 p wa T ⟨0, wa, 0, false, op30, true⟩) := hide (by have := P2.out.step h3 f3; rw [show nxI wa pm0 op30 = ⟨0, max wa 1, 0, false, op30, true⟩ from rfl, hmx] at this; exact this)
    clear h3 f3 P2 hmx
    go_wp2_with fail
    go_at_call 20
    refine (refTotT_c wa T w3 n hn).mono ?_
    rintro e w' ⟨rfl, hw'⟩
    rw [hw']
    clear hw' w'
    go_wp2_with fail
    rw [e0]
    replace e0 := hide e0
    go_loopw [9, 48] (fun ag i wr => ∃ (k : Nat) (l t again : Int) (o : Bool), k ≤ n + k0 ∧ i = .int .i64 k ∧ ag = .int .i64 again ∧ PEnv w wr p wa T ⟨0, l, t, o, op30, true⟩ ∧ Hid ((k ≤ n ∧ StandsAt wa T k l t o again) ∨ (n < k ∧ o = true ∧ l = 0 ∧ again = T))) (fun _ i _ => n + k0 - (intOf i).toNat)
    case atStart => exact ⟨0, wa, 0, 0, false, Nat.zero_le _, rfl, rfl, P3.out, hide (.inl ⟨Nat.zero_le _, stands_start i1.out⟩)⟩
    case round =>
      obtain ⟨k, l, t, again, o, hk, rfl, rfl, P4, hst⟩ := hrel
      replace P4 := hide P4
      clear P3
      by_cases hlt : k < n + k0
      · have hlt' : (k : Int) < n + k0 := by omega
        by_cases hkn : k < n
        · have hkn' : (k : Int) < n := by omega
          have hst1 : StandsAt wa T k l t o again := by rcases hst.out with ⟨_, h⟩ | ⟨h, _⟩; exact h; omega
          obtain ⟨rfl, g1, g2, g3, g4, ⟨rl, rt, ro, rn⟩, hr, hc⟩ := stands_tick i1.out (by have := i2.out; omega) hT hst1 (by rw [← hN.out]; exact hkn')
          rw [← hN.out] at hc
          dsimp only at hc
          have hP : nxT wa T ⟨0, l, t, false, op30, true⟩ = ⟨0, rl, rt, ro, op30, true⟩ := by rw [esc_on, hr]
          have hD : Hid (doT wa T ⟨0, l, t, false, op30, true⟩ = rn) := by show (tickT l t false wa T).n = rn; rw [hr]
          clear hr hst hst1
          rcases hc with ⟨rfl, rfl, e, hs⟩ | ⟨rfl, rfl, e, hs⟩ | ⟨rfl, rfl, e, hs⟩
          all_goals
            replace hs := hide hs
            replace hP := hide hP
            first | (have ne : decide ((k : Int) = n - 1) = false := by simp; omega) | (have ne : (k : Int) = n - 1 := by omega)
            try (have ne2 : ((k : Int) == n - 1) = false := by simp; omega)
            have ng : decide ((n : Int) ≤ k) = false := by simp; omega
            have ng2 : ¬ (n : Int) ≤ k := by omega
            go_wp2_with fail
            go_at_call 14
            refine (pTick_c p wa T _ wr P4.out.n _ hD).mono ?_
            rintro e5 w5 ⟨rfl, h5, f5⟩
            have P5 := hide (P4.out.step h5 f5)
            rw [hP.out] at P5
            clear h5 f5 P4
            go_wp2_with fail
            go_roundw
            case rel => exact ⟨k + 1, rl, rt, _, _, by omega, by go_num, by first | rfl | go_num, P5.out, hide (.inl ⟨by omega, by rw [show ((k + 1 : Nat) : Int) = (k : Int) + 1 by omega]; exact hs.out⟩)⟩
            case measure => simp [intOf]; omega
        · have h6 : o = true ∧ l = 0 ∧ again = T := by
            rcases hst.out with ⟨h, hs⟩ | ⟨_, h1, h2, h3⟩
            · obtain rfl : k = n := by omega
              rcases hs with ⟨rfl, j, hj, rfl, rfl, l1, l2, e⟩ | ⟨h1, h2, _, h4, _⟩
              · have := hN.out; have := longZ_mono wa (by have := i1.out; omega) hj; omega
              · exact ⟨h1, h2, h4⟩
            · exact ⟨h1, h2, h3⟩
          obtain ⟨rfl, rfl, rfl⟩ := h6
          have hP : nxT wa T ⟨0, 0, t, true, op30, true⟩ = ⟨0, 0, t, true, op30, true⟩ := rfl
          have ne : decide ((k : Int) = n - 1) = false := by simp; omega
          have ne2 : ((k : Int) == n - 1) = false := by simp; omega
          have ng : decide ((n : Int) ≤ k) = true := by simp; omega
          have ng2 : (n : Int) ≤ k := by omega
          clear hst
          replace hP := hide hP
          go_wp2_with fail
          go_at_call 14
          refine (pTick_c p wa T _ wr P4.out.n 0 (hide rfl)).mono ?_
          rintro e5 w5 ⟨rfl, h5, f5⟩
          have P5 := hide (P4.out.step h5 f5)
          rw [hP.out] at P5
          clear h5 f5 P4
          go_wp2_with fail
          go_roundw
          case rel => exact ⟨k + 1, 0, t, _, _, by omega, by go_num, rfl, P5.out, hide (.inr ⟨by omega, rfl, rfl, rfl⟩)⟩
          case measure => simp [intOf]; omega
      · have h6 : again = T := by
          rcases hst.out with ⟨h, hs⟩ | ⟨_, h1, h2, h3⟩
          · obtain rfl : k = n := by omega
            rcases hs with ⟨rfl, j, hj, rfl, rfl, l1, l2, e⟩ | ⟨h1, h2, _, h4, _⟩
            · have := hN.out; have := longZ_mono wa (by have := i1.out; omega) hj; omega
            · exact h4
          · exact h3
        subst h6
        obtain rfl : k = n + k0 := by omega
        clear hst
        go_wp2_with fail
        go_ret
        exact ⟨rfl, P4.out.bel⟩
  · by_cases c1 : wa < 1 <;> by_cases c2 : 16 < wa <;> by_cases c3 : tr < 0 <;> by_cases c4 : 6 < tr
    all_goals first | omega | skip
    all_goals
      clear hin
      go_enter Try.func5, Try.ntmps5
      go_wp2_with (go_at_call 8; refine (awake14_any _).mono ?_; rintro e w' ⟨rfl, hb⟩; obtain ⟨x1, rfl⟩ := over hb; clear hb)
      go_ret
      refine ⟨rfl, ?_⟩
      repeat' first | with_reducible exact Below.refl _ _ | with_reducible refine Below.setCell ?_ ?_ _ | with_reducible refine Below.alloc ?_ ?_ _ | with_reducible refine Below.drew ?_ | with_reducible refine belowN ?_ _ | with_reducible refine Over.go _ ?_ ?_ | with_reducible exact Nat.le_refl _ | with_reducible refine Over.sz _ _ ?_ | with_reducible refine le_alloc ?_ | with_reducible refine le_setCell ?_ | with_reducible refine le_drewN ?_ | with_reducible refine le_drew ?_ | omega | (dsimp only; omega)
end Go.Proofs.Ytmdioofpghbjbaa
