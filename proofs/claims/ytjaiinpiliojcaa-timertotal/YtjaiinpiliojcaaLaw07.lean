/- Layer 7: the document's fixed answers (awake). -/
import Derived.Test.YtjaiinpiliojcaaTimAt
namespace Go.Proofs.Ytjaiinpiliojcaa
open Go.ChangeShapes Go.WideShapes Go.ChangeAt Go.RowKit
set_option linter.unusedSimpArgs false
set_option linter.unusedVariables false

attribute [local go_sem, local simp] over_const setCell_drewN alloc_drewN Over.cell Over.frozen lt_s1 lt_s2 lt_s3 le_s0 le_s1 le_s2 le_s3 eq_s0 eq_s1 eq_s2 qe_s0

theorem awake_states : tickT 2 0 false 2 1 = ⟨1, 0, false, 0⟩ ∧ tickT 1 0 false 2 1 = ⟨4, 1, false, 1⟩ ∧ tickT 4 1 false 2 1 = ⟨3, 1, false, 0⟩ ∧ tickT 3 1 false 2 1 = ⟨2, 1, false, 0⟩ ∧ tickT 2 1 false 2 1 = ⟨1, 1, false, 0⟩ ∧ tickT 1 1 false 2 1 = ⟨0, 1, true, 2⟩ ∧ tickT 0 1 true 2 1 = ⟨0, 1, true, 0⟩ := by
  refine ⟨rfl, ?_, rfl, rfl, rfl, rfl, rfl⟩
  have e : doubleZ 2 1 1048576 = 4 := longZ_double 2 1 (by omega) (by omega) (by omega)
  simp [tickT, e]
  rfl

/-- The timer and the number, ahead of round k. -/
def awS (k : Nat) : Tk := if k = 0 then ⟨2, 0, false, 0⟩ else if k = 1 then ⟨1, 0, false, 0⟩ else if k = 2 then ⟨4, 1, false, 1⟩ else if k = 3 then ⟨3, 1, false, 0⟩ else if k = 4 then ⟨2, 1, false, 0⟩ else if k = 5 then ⟨1, 1, false, 0⟩ else if k = 6 then ⟨0, 1, true, 2⟩ else ⟨0, 1, true, 0⟩

set_option maxHeartbeats 2000000 in
theorem awake7_any (w : World) : Calls Try.prog 10 #[] w fun e w' => e = .returned (.bool true) ∧ Below w.heap.size w w' := by
  have hs := hide awake_states
  have ht := hide (show totZ 2 1 = 6 by rfl)
  go_enter Try.func10, Try.ntmps10
  go_wp2_with fail
  go_at_call 11
  refine (startT_c 2 _ 2 rfl).mono ?_
  rintro e w1 ⟨rfl, hb1⟩
  have s1 := hb1.size
  replace hb1 := hide hb1
  go_wp2_with fail
  go_loopw [10] (fun i wr => ∃ (k : Nat), k ≤ 7 ∧ i = .int .i64 k ∧ TimAt wr w1.heap.size (awS k).l (awS k).t (awS k).o ∧ w1.heap.size + 1 < wr.heap.size ∧ wr.cell? ⟨w1.heap.size + 1, 0, none⟩ = some (.int .i64 0) ∧ wr.cell? ⟨w1.heap.size + 1, 1, none⟩ = some (.int .i64 1) ∧ wr.cell? ⟨w1.heap.size + 1, 2, none⟩ = some (.int .i64 0) ∧ wr.cell? ⟨w1.heap.size + 1, 3, none⟩ = some (.int .i64 0) ∧ wr.cell? ⟨w1.heap.size + 1, 4, none⟩ = some (.int .i64 0) ∧ wr.cell? ⟨w1.heap.size + 1, 5, none⟩ = some (.int .i64 2) ∧ wr.cell? ⟨w1.heap.size + 1, 6, none⟩ = some (.int .i64 0) ∧ Below w.heap.size w wr) (fun i _ => 7 - (intOf i).toNat)
  case atStart =>
    refine ⟨0, by omega, rfl, ⟨?_, ?_, ?_, ?_, ?_, ?_, ?_⟩, ?_, ?_, ?_, ?_, ?_, ?_, ?_, ?_, ?_⟩
    case refine_16 =>
      have := unhide hb1
      repeat' first | with_reducible exact Below.refl _ _ | with_reducible refine Below.setCell ?_ ?_ _ | with_reducible refine Below.alloc ?_ ?_ _ | with_reducible refine Below.drew ?_ | with_reducible refine belowN ?_ _ | with_reducible refine Over.go _ ?_ ?_ | with_reducible exact Nat.le_refl _ | with_reducible refine Over.sz _ _ ?_ | with_reducible refine le_alloc ?_ | with_reducible refine le_setCell ?_ | with_reducible refine le_drewN ?_ | with_reducible refine le_drew ?_ | omega | (dsimp only; omega)
    all_goals simp [go_sem, awS]
  case round =>
    obtain ⟨k, hk, rfl, hT, hl, d0, d1, d2, d3, d4, d5, d6, hb⟩ := hrel
    by_cases hlt : k < 7
    · have hlt' : (k : Int) < 7 := by omega
      have sz := hb.size
      -- ROUNDS (wip/gen07.py)
      obtain rfl | rfl | rfl | rfl | rfl | rfl | rfl : k = 0 ∨ k = 1 ∨ k = 2 ∨ k = 3 ∨ k = 4 ∨ k = 5 ∨ k = 6 := by omega
      · replace hT : TimAt wr w1.heap.size 2 0 false := hT
        obtain ⟨h0, c0, c1, c2, z0, z1, z2⟩ := hT
        replace hb := hide hb
        go_wp2_with fail
        go_at_call 8
        refine (tick_c 2 0 false 2 1 _ (by omega) (by omega) (by omega) (by omega) ⟨1, 0, false, 0⟩ (unhide hs).1).mono ?_
        dsimp only
        rintro e w2 ⟨rfl, hb2⟩
        have s2 := hb2.size
        have hT2 : TimAt w2 w1.heap.size 2 0 false := TimAt.below ⟨h0, c0, c1, c2, z0, z1, z2⟩ hb2
        have e0 := (hb2.cell (p := ⟨w1.heap.size + 1, 0, none⟩) hl).trans d0
        have e1 := (hb2.cell (p := ⟨w1.heap.size + 1, 1, none⟩) hl).trans d1
        have e2 := (hb2.cell (p := ⟨w1.heap.size + 1, 2, none⟩) hl).trans d2
        have e3 := (hb2.cell (p := ⟨w1.heap.size + 1, 3, none⟩) hl).trans d3
        have e4 := (hb2.cell (p := ⟨w1.heap.size + 1, 4, none⟩) hl).trans d4
        have e5 := (hb2.cell (p := ⟨w1.heap.size + 1, 5, none⟩) hl).trans d5
        have e6 := (hb2.cell (p := ⟨w1.heap.size + 1, 6, none⟩) hl).trans d6
        have HT2 := hide hT2
        obtain ⟨k0, k1, k2, k3, y0, y1, y2⟩ := hT2
        replace hb2 := hide hb2
        clear c0 c1 c2 z0 z1 z2 d0 d1 d2 d3 d4 d5 d6
        go_wp2_with fail
        go_roundw
        case rel => exact ⟨1, by omega, by go_num, (unhide HT2).set 1 0 false, by simp; omega, by simp [go_sem, *], by simp [go_sem, *], by simp [go_sem, *], by simp [go_sem, *], by simp [go_sem, *], by simp [go_sem, *], by simp [go_sem, *], ((unhide hb).trans ((unhide hb2).mono sz)).setCell s1 _ |>.setCell s1 _ |>.setCell s1 _⟩
        case measure => simp [intOf]
      · replace hT : TimAt wr w1.heap.size 1 0 false := hT
        obtain ⟨h0, c0, c1, c2, z0, z1, z2⟩ := hT
        replace hb := hide hb
        go_wp2_with fail
        go_at_call 8
        refine (tick_c 1 0 false 2 1 _ (by omega) (by omega) (by omega) (by omega) ⟨4, 1, false, 1⟩ (unhide hs).2.1).mono ?_
        dsimp only
        rintro e w2 ⟨rfl, hb2⟩
        have s2 := hb2.size
        have hT2 : TimAt w2 w1.heap.size 1 0 false := TimAt.below ⟨h0, c0, c1, c2, z0, z1, z2⟩ hb2
        have e0 := (hb2.cell (p := ⟨w1.heap.size + 1, 0, none⟩) hl).trans d0
        have e1 := (hb2.cell (p := ⟨w1.heap.size + 1, 1, none⟩) hl).trans d1
        have e2 := (hb2.cell (p := ⟨w1.heap.size + 1, 2, none⟩) hl).trans d2
        have e3 := (hb2.cell (p := ⟨w1.heap.size + 1, 3, none⟩) hl).trans d3
        have e4 := (hb2.cell (p := ⟨w1.heap.size + 1, 4, none⟩) hl).trans d4
        have e5 := (hb2.cell (p := ⟨w1.heap.size + 1, 5, none⟩) hl).trans d5
        have e6 := (hb2.cell (p := ⟨w1.heap.size + 1, 6, none⟩) hl).trans d6
        have HT2 := hide hT2
        obtain ⟨k0, k1, k2, k3, y0, y1, y2⟩ := hT2
        replace hb2 := hide hb2
        clear c0 c1 c2 z0 z1 z2 d0 d1 d2 d3 d4 d5 d6
        go_wp2_with fail
        go_roundw
        case rel => exact ⟨2, by omega, by go_num, (unhide HT2).set 4 1 false, by simp; omega, by simp [go_sem, *], by simp [go_sem, *], by simp [go_sem, *], by simp [go_sem, *], by simp [go_sem, *], by simp [go_sem, *], by simp [go_sem, *], ((unhide hb).trans ((unhide hb2).mono sz)).setCell s1 _ |>.setCell s1 _ |>.setCell s1 _⟩
        case measure => simp [intOf]
      · replace hT : TimAt wr w1.heap.size 4 1 false := hT
        obtain ⟨h0, c0, c1, c2, z0, z1, z2⟩ := hT
        replace hb := hide hb
        go_wp2_with fail
        go_at_call 8
        refine (tick_c 4 1 false 2 1 _ (by omega) (by omega) (by omega) (by omega) ⟨3, 1, false, 0⟩ (unhide hs).2.2.1).mono ?_
        dsimp only
        rintro e w2 ⟨rfl, hb2⟩
        have s2 := hb2.size
        have hT2 : TimAt w2 w1.heap.size 4 1 false := TimAt.below ⟨h0, c0, c1, c2, z0, z1, z2⟩ hb2
        have e0 := (hb2.cell (p := ⟨w1.heap.size + 1, 0, none⟩) hl).trans d0
        have e1 := (hb2.cell (p := ⟨w1.heap.size + 1, 1, none⟩) hl).trans d1
        have e2 := (hb2.cell (p := ⟨w1.heap.size + 1, 2, none⟩) hl).trans d2
        have e3 := (hb2.cell (p := ⟨w1.heap.size + 1, 3, none⟩) hl).trans d3
        have e4 := (hb2.cell (p := ⟨w1.heap.size + 1, 4, none⟩) hl).trans d4
        have e5 := (hb2.cell (p := ⟨w1.heap.size + 1, 5, none⟩) hl).trans d5
        have e6 := (hb2.cell (p := ⟨w1.heap.size + 1, 6, none⟩) hl).trans d6
        have HT2 := hide hT2
        obtain ⟨k0, k1, k2, k3, y0, y1, y2⟩ := hT2
        replace hb2 := hide hb2
        clear c0 c1 c2 z0 z1 z2 d0 d1 d2 d3 d4 d5 d6
        go_wp2_with fail
        go_roundw
        case rel => exact ⟨3, by omega, by go_num, (unhide HT2).set 3 1 false, by simp; omega, by simp [go_sem, *], by simp [go_sem, *], by simp [go_sem, *], by simp [go_sem, *], by simp [go_sem, *], by simp [go_sem, *], by simp [go_sem, *], ((unhide hb).trans ((unhide hb2).mono sz)).setCell s1 _ |>.setCell s1 _ |>.setCell s1 _⟩
        case measure => simp [intOf]
      · replace hT : TimAt wr w1.heap.size 3 1 false := hT
        obtain ⟨h0, c0, c1, c2, z0, z1, z2⟩ := hT
        replace hb := hide hb
        go_wp2_with fail
        go_at_call 8
        refine (tick_c 3 1 false 2 1 _ (by omega) (by omega) (by omega) (by omega) ⟨2, 1, false, 0⟩ (unhide hs).2.2.2.1).mono ?_
        dsimp only
        rintro e w2 ⟨rfl, hb2⟩
        have s2 := hb2.size
        have hT2 : TimAt w2 w1.heap.size 3 1 false := TimAt.below ⟨h0, c0, c1, c2, z0, z1, z2⟩ hb2
        have e0 := (hb2.cell (p := ⟨w1.heap.size + 1, 0, none⟩) hl).trans d0
        have e1 := (hb2.cell (p := ⟨w1.heap.size + 1, 1, none⟩) hl).trans d1
        have e2 := (hb2.cell (p := ⟨w1.heap.size + 1, 2, none⟩) hl).trans d2
        have e3 := (hb2.cell (p := ⟨w1.heap.size + 1, 3, none⟩) hl).trans d3
        have e4 := (hb2.cell (p := ⟨w1.heap.size + 1, 4, none⟩) hl).trans d4
        have e5 := (hb2.cell (p := ⟨w1.heap.size + 1, 5, none⟩) hl).trans d5
        have e6 := (hb2.cell (p := ⟨w1.heap.size + 1, 6, none⟩) hl).trans d6
        have HT2 := hide hT2
        obtain ⟨k0, k1, k2, k3, y0, y1, y2⟩ := hT2
        replace hb2 := hide hb2
        clear c0 c1 c2 z0 z1 z2 d0 d1 d2 d3 d4 d5 d6
        go_wp2_with fail
        go_roundw
        case rel => exact ⟨4, by omega, by go_num, (unhide HT2).set 2 1 false, by simp; omega, by simp [go_sem, *], by simp [go_sem, *], by simp [go_sem, *], by simp [go_sem, *], by simp [go_sem, *], by simp [go_sem, *], by simp [go_sem, *], ((unhide hb).trans ((unhide hb2).mono sz)).setCell s1 _ |>.setCell s1 _ |>.setCell s1 _⟩
        case measure => simp [intOf]
      · replace hT : TimAt wr w1.heap.size 2 1 false := hT
        obtain ⟨h0, c0, c1, c2, z0, z1, z2⟩ := hT
        replace hb := hide hb
        go_wp2_with fail
        go_at_call 8
        refine (tick_c 2 1 false 2 1 _ (by omega) (by omega) (by omega) (by omega) ⟨1, 1, false, 0⟩ (unhide hs).2.2.2.2.1).mono ?_
        dsimp only
        rintro e w2 ⟨rfl, hb2⟩
        have s2 := hb2.size
        have hT2 : TimAt w2 w1.heap.size 2 1 false := TimAt.below ⟨h0, c0, c1, c2, z0, z1, z2⟩ hb2
        have e0 := (hb2.cell (p := ⟨w1.heap.size + 1, 0, none⟩) hl).trans d0
        have e1 := (hb2.cell (p := ⟨w1.heap.size + 1, 1, none⟩) hl).trans d1
        have e2 := (hb2.cell (p := ⟨w1.heap.size + 1, 2, none⟩) hl).trans d2
        have e3 := (hb2.cell (p := ⟨w1.heap.size + 1, 3, none⟩) hl).trans d3
        have e4 := (hb2.cell (p := ⟨w1.heap.size + 1, 4, none⟩) hl).trans d4
        have e5 := (hb2.cell (p := ⟨w1.heap.size + 1, 5, none⟩) hl).trans d5
        have e6 := (hb2.cell (p := ⟨w1.heap.size + 1, 6, none⟩) hl).trans d6
        have HT2 := hide hT2
        obtain ⟨k0, k1, k2, k3, y0, y1, y2⟩ := hT2
        replace hb2 := hide hb2
        clear c0 c1 c2 z0 z1 z2 d0 d1 d2 d3 d4 d5 d6
        go_wp2_with fail
        go_roundw
        case rel => exact ⟨5, by omega, by go_num, (unhide HT2).set 1 1 false, by simp; omega, by simp [go_sem, *], by simp [go_sem, *], by simp [go_sem, *], by simp [go_sem, *], by simp [go_sem, *], by simp [go_sem, *], by simp [go_sem, *], ((unhide hb).trans ((unhide hb2).mono sz)).setCell s1 _ |>.setCell s1 _ |>.setCell s1 _⟩
        case measure => simp [intOf]
      · replace hT : TimAt wr w1.heap.size 1 1 false := hT
        obtain ⟨h0, c0, c1, c2, z0, z1, z2⟩ := hT
        replace hb := hide hb
        go_wp2_with fail
        go_at_call 8
        refine (tick_c 1 1 false 2 1 _ (by omega) (by omega) (by omega) (by omega) ⟨0, 1, true, 2⟩ (unhide hs).2.2.2.2.2.1).mono ?_
        dsimp only
        rintro e w2 ⟨rfl, hb2⟩
        have s2 := hb2.size
        have hT2 : TimAt w2 w1.heap.size 1 1 false := TimAt.below ⟨h0, c0, c1, c2, z0, z1, z2⟩ hb2
        have e0 := (hb2.cell (p := ⟨w1.heap.size + 1, 0, none⟩) hl).trans d0
        have e1 := (hb2.cell (p := ⟨w1.heap.size + 1, 1, none⟩) hl).trans d1
        have e2 := (hb2.cell (p := ⟨w1.heap.size + 1, 2, none⟩) hl).trans d2
        have e3 := (hb2.cell (p := ⟨w1.heap.size + 1, 3, none⟩) hl).trans d3
        have e4 := (hb2.cell (p := ⟨w1.heap.size + 1, 4, none⟩) hl).trans d4
        have e5 := (hb2.cell (p := ⟨w1.heap.size + 1, 5, none⟩) hl).trans d5
        have e6 := (hb2.cell (p := ⟨w1.heap.size + 1, 6, none⟩) hl).trans d6
        have HT2 := hide hT2
        obtain ⟨k0, k1, k2, k3, y0, y1, y2⟩ := hT2
        replace hb2 := hide hb2
        clear c0 c1 c2 z0 z1 z2 d0 d1 d2 d3 d4 d5 d6
        go_wp2_with fail
        go_roundw
        case rel => exact ⟨6, by omega, by go_num, (unhide HT2).set 0 1 true, by simp; omega, by simp [go_sem, *], by simp [go_sem, *], by simp [go_sem, *], by simp [go_sem, *], by simp [go_sem, *], by simp [go_sem, *], by simp [go_sem, *], ((unhide hb).trans ((unhide hb2).mono sz)).setCell s1 _ |>.setCell s1 _ |>.setCell s1 _⟩
        case measure => simp [intOf]
      · replace hT : TimAt wr w1.heap.size 0 1 true := hT
        obtain ⟨h0, c0, c1, c2, z0, z1, z2⟩ := hT
        replace hb := hide hb
        go_wp2_with fail
        go_at_call 8
        refine (tick_c 0 1 true 2 1 _ (by omega) (by omega) (by omega) (by omega) ⟨0, 1, true, 0⟩ (unhide hs).2.2.2.2.2.2).mono ?_
        dsimp only
        rintro e w2 ⟨rfl, hb2⟩
        have s2 := hb2.size
        have hT2 : TimAt w2 w1.heap.size 0 1 true := TimAt.below ⟨h0, c0, c1, c2, z0, z1, z2⟩ hb2
        have e0 := (hb2.cell (p := ⟨w1.heap.size + 1, 0, none⟩) hl).trans d0
        have e1 := (hb2.cell (p := ⟨w1.heap.size + 1, 1, none⟩) hl).trans d1
        have e2 := (hb2.cell (p := ⟨w1.heap.size + 1, 2, none⟩) hl).trans d2
        have e3 := (hb2.cell (p := ⟨w1.heap.size + 1, 3, none⟩) hl).trans d3
        have e4 := (hb2.cell (p := ⟨w1.heap.size + 1, 4, none⟩) hl).trans d4
        have e5 := (hb2.cell (p := ⟨w1.heap.size + 1, 5, none⟩) hl).trans d5
        have e6 := (hb2.cell (p := ⟨w1.heap.size + 1, 6, none⟩) hl).trans d6
        have HT2 := hide hT2
        obtain ⟨k0, k1, k2, k3, y0, y1, y2⟩ := hT2
        replace hb2 := hide hb2
        clear c0 c1 c2 z0 z1 z2 d0 d1 d2 d3 d4 d5 d6
        go_wp2_with fail
        go_roundw
        case rel => exact ⟨7, by omega, by go_num, (unhide HT2).set 0 1 true, by simp; omega, by simp [go_sem, *], by simp [go_sem, *], by simp [go_sem, *], by simp [go_sem, *], by simp [go_sem, *], by simp [go_sem, *], by simp [go_sem, *], ((unhide hb).trans ((unhide hb2).mono sz)).setCell s1 _ |>.setCell s1 _ |>.setCell s1 _⟩
        case measure => simp [intOf]
    · obtain rfl : k = 7 := by omega
      replace hT : TimAt wr w1.heap.size 0 1 true := hT
      obtain ⟨h0, c0, c1, c2, z0, z1, z2⟩ := hT
      replace hb := hide hb
      go_wp2_with (go_at_call 13; refine (totT_c 2 1 _ 6 ht).mono ?_; rintro e w' ⟨rfl, rfl⟩)
      go_ret
      exact ⟨rfl, unhide hb⟩
end Go.Proofs.Ytjaiinpiliojcaa
