/- The walk of ProcOne: it returns true; no old memory turns (layer 14). -/
import Derived.Test.YtmdioofpghbjbaaLaw14
import Derived.Test.YtmdioofpghbjbaaActs14
namespace Go.Proofs.Ytmdioofpghbjbaa
open Go.ChangeShapes Go.WideShapes Go.ChangeAt Go.RowKit
set_option linter.unusedSimpArgs false
set_option linter.unusedVariables false
set_option maxRecDepth 10000

attribute [local go_sem, local simp] over_const setCell_drewN alloc_drewN Over.cell Over.frozen lt_s1 lt_s2 lt_s3 le_s0 le_s1 le_s2 le_s3 eq_s0 eq_s1 eq_s2 qe_s0

set_option maxHeartbeats 2000000 in
theorem ProcOne_walk (v : Value) (A : List Op3) (x : Int) (w : World) (h1 : OpsAt w.heap.size w v A) : Calls Try.prog 4 #[v, .int .i64 x] w fun e w' => e = .returned (.bool true) ∧ Below w.heap.size w w' := by
  have hA := hide h1
  obtain ⟨ao, cap, rfl, hlc, hmx, _⟩ := h1
  have hma : A.length ≤ 9223372036854775807 := by unfold maxLen at hmx; omega
  clear hmx
  obtain ⟨n0, m0, e0⟩ := rem_u x 5 (by decide) (by decide)
  by_cases ca : 100 < (A.length : Int)
  · go_enter Try.func4, Try.ntmps4
    go_wp2_with (go_at_call 8; refine (awake14_any _).mono ?_; rintro e w' ⟨rfl, hb⟩; obtain ⟨x1, rfl⟩ := over hb; clear hb)
    go_ret
    refine ⟨rfl, ?_⟩
    repeat' first | with_reducible exact Below.refl _ _ | with_reducible refine Below.setCell ?_ ?_ _ | with_reducible refine Below.alloc ?_ ?_ _ | with_reducible refine Below.drew ?_ | with_reducible refine belowN ?_ _ | with_reducible refine Over.go _ ?_ ?_ | with_reducible exact Nat.le_refl _ | with_reducible refine Over.sz _ _ ?_ | with_reducible refine le_alloc ?_ | with_reducible refine le_setCell ?_ | with_reducible refine le_drewN ?_ | with_reducible refine le_drew ?_ | omega | (dsimp only; omega)
  · have dca : decide (100 < (A.length : Int)) = false := by simp; omega
    go_enter Try.func4, Try.ntmps4
    go_wp2_with fail
    go_at_call 8
    refine (awake14_any _).mono ?_
    rintro e w1 ⟨rfl, hb1⟩
    replace hb1 := hide hb1
    go_wp2_with fail
    go_at_call 9
    refine (pNew_c 1 1 w1 (by decide) (by decide)).mono ?_
    rintro e w2 ⟨p, rfl, hn2, hp2, hb2⟩
    have P2 := hide (PEnv.first hb1.out hn2 hp2 hb2)
    clear hn2 hp2 hb2 hb1
    go_wp2_with fail
    go_loopw [27] (fun i wr => ∃ j : Nat, j ≤ A.length ∧ i = .int .i64 j ∧ PEnv w wr p 1 1 ⟨j, 0, 0, false, op30, false⟩) (fun i _ => A.length - (intOf i).toNat)
    case atStart => exact ⟨0, Nat.zero_le _, rfl, P2.out⟩
    case round =>
      clear P2
      obtain ⟨j, hj, rfl, P3⟩ := hrel
      replace P3 := hide P3
      by_cases hlt : j < A.length
      · have hlt' : (j : Int) < A.length := by omega
        obtain ⟨b, o', rfl, hbB, hbl, -, r0, r1, r2⟩ := ops_row (hA.out.below P3.out.bel) hlt
        obtain ⟨y, hy⟩ : ∃ y, A[j] = y := ⟨_, rfl⟩
        rw [hy] at r0 r1 r2
        obtain ⟨yb, yw, yv⟩ := y
        clear hy
        dsimp only at r0 r1 r2
        have P4 := hide (P3.out.quiet (belA wr (opO ⟨yb, yw, yv⟩)))
        have hbp : wr.heap.size ≠ p := by have := P3.out.n.lt; omega
        go_wp2_with fail
        go_at_call 10
        refine (pIss_c p 1 1 _ ⟨yb, yw, yv⟩ _ P4.out.n true (hide rfl)).mono ?_
        rintro e w5 ⟨rfl, h5, f5⟩
        have P5 : Hid (PEnv w w5 p 1 1 ⟨j, 1, 0, false, ⟨yb, yw, yv⟩, true⟩) := hide (P4.out.step h5 f5)
        have O5 : Hid (OpAt w5 wr.heap.size ⟨yb, yw, yv⟩) := hide ((ops_new wr ⟨yb, yw, yv⟩).fr f5 hbp)
        clear h5 f5 P4 P3 r0 r1 r2
        obtain ⟨B, eB⟩ : ∃ B, wr.heap.size = B := ⟨_, rfl⟩
        rw [eB] at O5 hbp
        go_wp2_with fail
        go_at_call 10
        refine (pIss_c p 1 1 _ op30 _ P5.out.n false (hide rfl)).mono ?_
        rintro e w6 ⟨rfl, h6, f6⟩
        have P6 : Hid (PEnv w w6 p 1 1 ⟨j, 1, 0, false, ⟨yb, yw, yv⟩, true⟩) := hide (P5.out.step h6 f6)
        have O6 := hide (O5.out.fr f6 hbp)
        clear h6 f6 P5 O5
        go_wp2_with fail
        rw [e0]
        replace e0 := hide e0
        clear eB
        go_loopw [45] (fun i wr => ∃ (q : Nat) (l t : Int) (o : Bool), q ≤ n0 ∧ i = .int .i64 q ∧ PEnv w wr p 1 1 ⟨j, l, t, o, ⟨yb, yw, yv⟩, true⟩ ∧ OpAt wr B ⟨yb, yw, yv⟩) (fun i _ => n0 - (intOf i).toNat)
        case atStart => exact ⟨0, 1, 0, false, Nat.zero_le _, rfl, P6.out, O6.out⟩
        case round =>
          clear P6 O6
          obtain ⟨q, l, t, o, hq, rfl, P7, O7⟩ := hrel
          replace P7 := hide P7
          replace O7 := hide O7
          by_cases hql : q < n0
          · have hql' : (q : Int) < n0 := by omega
            go_wp2_with fail
            go_at_call 14
            refine (pTick_c p 1 1 _ _ P7.out.n _ (hide rfl)).mono ?_
            rintro e w8 ⟨rfl, h8, f8⟩
            have P8 := hide (P7.out.step h8 f8)
            have O8 := hide (O7.out.fr f8 hbp)
            clear h8 f8 P7 O7
            go_wp2_with fail
            go_roundw
            case rel => exact ⟨q + 1, _, _, _, by omega, by simp, P8.out, O8.out⟩
            case measure => simp [intOf]; omega
          · obtain rfl : q = n0 := by omega
            clear hql hq
            go_wp2_with fail
            go_at_call 17
            refine (pPend_c p 1 1 _ _ P7.out.n ⟨yb, yw, yv⟩ (hide rfl) true (hide rfl)).mono ?_
            rintro e w9 ⟨rfl, hb9⟩
            have hb10 := hb9.trans ((belA w9 (opO ⟨yb, yw, yv⟩)).mono hb9.size)
            have P10 := hide (P7.out.quiet hb10)
            have O10 := hide (O7.out.below hb10)
            have G10 := hide (ops_new w9 ⟨yb, yw, yv⟩)
            have hgp : w9.heap.size ≠ p := by have := P7.out.n.lt; have := hb9.size; omega
            clear hb9 hb10 P7 O7
            go_wp2_with fail
            go_at_call 12
            refine (pFin_c p 1 1 _ _ P10.out.n (by dsimp only; omega) ((j : Int) + 1) (hide rfl) true (hide rfl)).mono ?_
            rintro e w11 ⟨rfl, h11, f11⟩
            have P11 : Hid (PEnv w w11 p 1 1 ⟨((j + 1 : Nat) : Int), 0, 0, false, op30, false⟩) := hide (by rw [show ((j + 1 : Nat) : Int) = (j : Int) + 1 by omega]; exact P10.out.step h11 f11)
            obtain ⟨y9, y0, y1, y2⟩ := O10.out.fr f11 hbp
            obtain ⟨z9, z0, z1, z2⟩ := G10.out.fr f11 hgp
            clear h11 f11 P10 O10 G10
            dsimp only at y0 y1 y2 z0 z1 z2
            go_wp2_with fail
            go_roundw
            case rel => exact ⟨j + 1, by omega, by simp, P11.out⟩
            case measure => simp [intOf]; omega
      · obtain rfl : j = A.length := by omega
        go_wp2_with fail
        go_at_call 17
        refine (pPend_c p 1 1 _ _ P3.out.n op30 (hide rfl) false (hide rfl)).mono ?_
        rintro e w9 ⟨rfl, hb9⟩
        have P9 := hide ((P3.out.quiet hb9).quiet (belA w9 (opO op30)))
        clear hb9 P3
        go_wp2_with fail
        go_ret
        exact ⟨rfl, P9.out.bel⟩
end Go.Proofs.Ytmdioofpghbjbaa
