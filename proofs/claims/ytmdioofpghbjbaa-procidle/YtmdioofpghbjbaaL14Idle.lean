/- The walk of ProcIdle: it returns true; no old memory turns (layer 14). -/
import Derived.Test.YtmdioofpghbjbaaLaw14
namespace Go.Proofs.Ytmdioofpghbjbaa
open Go.ChangeShapes Go.WideShapes Go.ChangeAt Go.RowKit
set_option linter.unusedSimpArgs false
set_option linter.unusedVariables false
set_option maxRecDepth 10000

attribute [local go_sem, local simp] over_const setCell_drewN alloc_drewN Over.cell Over.frozen lt_s1 lt_s2 lt_s3 le_s0 le_s1 le_s2 le_s3 eq_s0 eq_s1 eq_s2 qe_s0

set_option maxHeartbeats 2000000 in
theorem ProcIdle_walk (wa tr x0 x1 : Int) (w : World) (h1 : wa ≤ 9223372036854775807) (h2 : tr ≤ 9223372036854775807) :
    Calls Try.prog 6 #[.int .i64 wa, .int .i64 tr, .agg #[.int .i64 x0, .int .i64 x1]] w fun e w' => e = .returned (.bool true) ∧ Below w.heap.size w w' := by
  by_cases hin : (1 ≤ wa ∧ wa ≤ 16) ∧ 0 ≤ tr ∧ tr ≤ 6
  · obtain ⟨⟨i1, i2⟩, i3, i4⟩ := hin
    obtain ⟨n0, m0, e0⟩ := rem_u x0 40 (by decide) (by decide)
    obtain ⟨n1, m1, e1⟩ := rem_u x1 200 (by decide) (by decide)
    have d1 : decide (wa < 1) = false := by simp; omega
    have d2 : decide (16 < wa) = false := by simp; omega
    have d3 : decide ((tr : Int) < 0) = false := by simp; omega
    have d4 : decide (6 < (tr : Int)) = false := by simp; omega
    clear i1 i2 i3 i4
    go_enter Try.func6, Try.ntmps6
    go_wp2_with fail
    go_at_call 8
    refine (awake14_any _).mono ?_
    rintro e w1 ⟨rfl, hb1⟩
    have q0 := (hb1.cell (p := ⟨w.heap.size, 0, none⟩) (by simp)).trans (show _ = some (.int .i64 x0) by simp [go_sem])
    have q1 := (hb1.cell (p := ⟨w.heap.size, 1, none⟩) (by simp)).trans (show _ = some (.int .i64 x1) by simp [go_sem])
    have s1 : w.heap.size < w1.heap.size := Nat.lt_of_lt_of_le (by simp) hb1.size
    have B1 := hide ((belA w (.cells #[.int .i64 x0, .int .i64 x1] 48)).trans (hb1.mono (by simp)))
    clear hb1
    go_wp2_with fail
    go_at_call 9
    refine (pNew_c wa tr w1 h1 h2).mono ?_
    rintro e w2 ⟨p, rfl, hn2, hp2, hb2⟩
    have P2 := hide (PEnv.first B1.out hn2 hp2 hb2)
    have r0 := (hb2.cell (p := ⟨w.heap.size, 0, none⟩) s1).trans q0
    have r1 := (hb2.cell (p := ⟨w.heap.size, 1, none⟩) s1).trans q1
    have s2 : w.heap.size < w2.heap.size := Nat.lt_of_lt_of_le s1 hb2.size
    have np : w.heap.size ≠ p := by omega
    clear hn2 hp2 hb2 B1 q0 q1 s1
    go_wp2_with fail
    go_at_call 9
    refine (pNew_c wa tr w2 h1 h2).mono ?_
    rintro e w3 ⟨q, rfl, hn3, hp3, hb3⟩
    have Q3 := hide (PEnv.first P2.out.bel hn3 hp3 hb3)
    have npq : p ≠ q := by have := P2.out.n.lt; omega
    have P3 := hide (P2.out.quiet hb3)
    have q0 := (hb3.cell (p := ⟨w.heap.size, 0, none⟩) s2).trans r0
    have q1 := (hb3.cell (p := ⟨w.heap.size, 1, none⟩) s2).trans r1
    have s3 : w.heap.size < w3.heap.size := Nat.lt_of_lt_of_le s2 hb3.size
    have nq : w.heap.size ≠ q := by omega
    clear hn3 hp3 hb3 P2 r0 r1 s2
    go_wp2_with fail
    rw [e0]
    replace e0 := hide e0
    go_loopw [45] (fun i wr => ∃ j : Nat, j ≤ n0 ∧ i = .int .i64 j ∧ PEnv w wr p wa tr pm0 ∧ PEnv w wr q wa tr pm0 ∧ w.heap.size < wr.heap.size ∧ Hid (wr.cell? ⟨w.heap.size, 1, none⟩ = some (.int .i64 x1))) (fun i _ => n0 - (intOf i).toNat)
    case atStart => exact ⟨0, Nat.zero_le _, rfl, P3.out, Q3.out, s3, hide q1⟩
    case round =>
      clear P3 Q3 q0 q1 s3
      obtain ⟨j, hj, rfl, P4, Q4, s4, c1⟩ := hrel
      replace P4 := hide P4
      replace Q4 := hide Q4
      by_cases hlt : j < n0
      · have hlt' : (j : Int) < n0 := by omega
        go_wp2_with fail
        go_at_call 14
        refine (pTick_c p wa tr pm0 wr P4.out.n 0 (hide rfl)).mono ?_
        rintro e w5 ⟨rfl, h5, f5⟩
        have P5 : Hid (PEnv w w5 p wa tr pm0) := hide (P4.out.step h5 f5)
        have Q5 := hide (Q4.out.aside f5 P4.out.p0 npq.symm)
        have c5 : Hid (w5.cell? ⟨w.heap.size, 1, none⟩ = some (.int .i64 x1)) := hide ((f5.cell s4 np).trans c1.out)
        have s5 := Nat.lt_of_lt_of_le s4 f5.size
        clear h5 f5 P4 Q4 c1 s4
        go_wp2_with fail
        go_roundw
        case rel => exact ⟨j + 1, by omega, by simp, P5.out, Q5.out, s5, c5⟩
        case measure => simp [intOf]; omega
      · obtain rfl : j = n0 := by omega
        clear hlt hj
        go_wp2_with fail
        go_at_call 10
        refine (pIss_c p wa tr pm0 op30 wr P4.out.n true (hide rfl)).mono ?_
        rintro e w5 ⟨rfl, h5, f5⟩
        have P5 := hide (P4.out.step h5 f5)
        have Q5 := hide (Q4.out.aside f5 P4.out.p0 npq.symm)
        have c5 := (f5.cell s4 np).trans c1.out
        have s5 := Nat.lt_of_lt_of_le s4 f5.size
        clear h5 f5 P4 Q4 c1 s4
        go_wp2_with fail
        go_at_call 10
        refine (pIss_c q wa tr pm0 op30 w5 Q5.out.n true (hide rfl)).mono ?_
        rintro e w6 ⟨rfl, h6, f6⟩
        have Q6 := hide (Q5.out.step h6 f6)
        have P6 := hide (P5.out.aside f6 Q5.out.p0 npq)
        have c6 := (f6.cell s5 nq).trans c5
        clear h6 f6 P5 Q5 c5 s5
        go_wp2_with fail
        rw [e1]
        replace e1 := hide e1
        go_loopw [62] (fun i wr => ∃ (j : Nat) (P : Pm), j ≤ n1 ∧ i = .int .i64 j ∧ PEnv w wr p wa tr P ∧ PEnv w wr q wa tr P) (fun i _ => n1 - (intOf i).toNat)
        case atStart => exact ⟨0, _, Nat.zero_le _, rfl, P6.out, Q6.out⟩
        case round =>
          clear P6 Q6 c6
          obtain ⟨j, P, hj, rfl, P4, Q4⟩ := hrel
          replace P4 := hide P4
          replace Q4 := hide Q4
          by_cases hlt : j < n1
          · have hlt' : (j : Int) < n1 := by omega
            obtain ⟨n, hn⟩ : ∃ n, Hid (doT wa tr P = n) := ⟨_, rfl⟩
            go_wp2_with fail
            go_at_call 14
            refine (pTick_c p wa tr P wr P4.out.n n hn).mono ?_
            rintro e w7 ⟨rfl, h7, f7⟩
            have P7 := hide (P4.out.step h7 f7)
            have Q7 := hide (Q4.out.aside f7 P4.out.p0 npq.symm)
            clear h7 f7 P4 Q4
            go_wp2_with fail
            go_at_call 14
            refine (pTick_c q wa tr P w7 Q7.out.n n hn).mono ?_
            rintro e w8 ⟨rfl, h8, f8⟩
            have Q8 := hide (Q7.out.step h8 f8)
            have P8 := hide (P7.out.aside f8 Q7.out.p0 npq)
            clear h8 f8 P7 Q7
            go_wp2_with fail
            go_roundw
            case rel => exact ⟨j + 1, _, by omega, by simp, P8.out, Q8.out⟩
            case measure => simp [intOf]; omega
          · obtain rfl : j = n1 := by omega
            go_wp2_with fail
            go_ret
            exact ⟨rfl, P4.out.bel⟩
  · by_cases c1 : wa < 1 <;> by_cases c2 : 16 < wa <;> by_cases c3 : tr < 0 <;> by_cases c4 : 6 < tr
    all_goals first | omega | skip
    all_goals
      clear hin
      go_enter Try.func6, Try.ntmps6
      go_wp2_with (go_at_call 8; first | (refine (awake14_any _).mono ?_; rintro e w' ⟨rfl, hb⟩; obtain ⟨x, rfl⟩ := over hb; clear hb))
      go_ret
      refine ⟨rfl, ?_⟩
      repeat' first | with_reducible exact Below.refl _ _ | with_reducible refine Below.setCell ?_ ?_ _ | with_reducible refine Below.alloc ?_ ?_ _ | with_reducible refine Below.drew ?_ | with_reducible refine belowN ?_ _ | with_reducible refine Over.go _ ?_ ?_ | with_reducible exact Nat.le_refl _ | with_reducible refine Over.sz _ _ ?_ | with_reducible refine le_alloc ?_ | with_reducible refine le_setCell ?_ | with_reducible refine le_drewN ?_ | with_reducible refine le_drew ?_ | omega | (dsimp only; omega)
end Go.Proofs.Ytmdioofpghbjbaa
