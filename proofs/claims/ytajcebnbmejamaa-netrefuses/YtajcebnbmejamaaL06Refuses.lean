/- The walk of NetRefuses: it returns true; no old memory turns. -/
import Derived.Test.YtajcebnbmejamaaL06Sums
import Derived.Test.YtajcebnbmejamaaHand
import Derived.Deep.CutRange
namespace Go.Proofs.Ytajcebnbmejamaa
open Go.ChangeShapes Go.WideShapes Go.ChangeAt Go.RowKit
set_option linter.unusedSimpArgs false
set_option linter.unusedVariables false

attribute [local go_sem, local simp] over_const setCell_drewN alloc_drewN Over.cell Over.frozen lt_s1 lt_s2 lt_s3 le_s0 le_s1 le_s2 le_s3 eq_s0 eq_s1 eq_s2 qe_s0

set_option maxHeartbeats 1000000 in
theorem NetRefuses_walk (r : Int) (v : Value) (A : List ActD) (w : World) (h : ActsAt w.heap.size w v A) : Calls Try.prog 4 #[.int .i64 r, v] w fun e w' => e = .returned (.bool true) ∧ Below w.heap.size w w' := by
  have hA := hide h
  obtain ⟨ao, cap, rfl, hlc, hmx, _⟩ := h
  have hmx' : cap ≤ 9223372036854775807 := by unfold maxLen at hmx; omega
  go_enter Try.func4, Try.ntmps4
  go_wp2_with fail
  go_at_call 9
  refine (awake6_any _).mono ?_
  rintro e w1 ⟨rfl, hb1⟩
  have s1 := hb1.size
  have hA1 : Hid (ActsAt w.heap.size w1 (.slice ao A.length cap) A) := (unhide hA).below hb1
  replace hb1 := hide hb1
  go_wp2_with fail
  go_at_call 10
  refine (great_c w.heap.size _ A _ (unhide hA1) s1).mono ?_
  rintro e w2 ⟨q, rfl, hb2, hq⟩
  have s2 := hb2.size
  have hB2 : Below w.heap.size w w2 := (unhide hb1).trans (hb2.mono s1)
  clear hb1 hb2 hA1
  cases q
  case true =>
    clear hq
    replace hB2 := hide hB2
    go_wp2_with fail
    go_at_call 9
    refine (awake6_any _).mono ?_
    rintro e w3 ⟨rfl, hb3⟩
    replace hb3 := hide hb3
    go_wp2_with fail
    go_ret
    exact ⟨rfl, (unhide hB2).trans ((unhide hb3).mono (by omega))⟩
  case false =>
    obtain ⟨h200, h50⟩ := hq rfl
    replace hB2 := hide hB2
    replace h50 := hide h50
    clear hq
    go_wp2_with fail
    go_at_call 11
    refine (new_c r _).mono ?_
    obtain ⟨R, hR⟩ : ∃ R, roomZ r = R := ⟨_, rfl⟩
    obtain ⟨P, hP⟩ : ∃ P, w2.heap.size = P := ⟨_, rfl⟩
    obtain ⟨mx, hmxr⟩ : ∃ mx : Int, (if r < 0 then 0 else r) = mx := ⟨_, rfl⟩
    have hRm : R ≤ mx := by rw [← hR, ← hmxr]; unfold roomZ; split <;> (try split) <;> omega
    rw [hR, hP]
    rintro e w3 ⟨rfl, hn3, hb3⟩
    have l3 := hn3.pl
    have hB3 : Below w.heap.size w w3 := (unhide hB2).trans (hb3.mono (by omega))
    have hPw : w.heap.size ≤ P := by omega
    clear hB2 hb3 hR hP
    replace hn3 := hide hn3
    replace hB3 := hide hB3
    go_wp2_with fail
    go_loopw [23] (fun i wr => ∃ (j g : Nat) (L : List Lt), j ≤ A.length ∧ i = .int .i64 j ∧ NetIs wr P g R L ∧ w.heap.size ≤ g ∧ Below w.heap.size w wr) (fun i _ => A.length - (intOf i).toNat)
    case atStart => exact ⟨0, P, [], Nat.zero_le _, rfl, unhide hn3, hPw, unhide hB3⟩
    case round =>
      obtain ⟨j, g, L, hj, rfl, hn, hg, hb⟩ := hrel
      have lp := hn.pl
      have lg := hn.gl
      have ll := hn.len
      have sz := hb.size
      by_cases hlt : j < A.length
      · obtain ⟨ba, o, aoj, capj, rfl, hl, c0, c1, c2, hv, h7, h8, h9⟩ := acts_row (unhide hA) hb hlt
        have hm50 := unhide h50 j hlt
        generalize A[j] = a at c0 c1 c2 hv h7 h9 hm50
        obtain ⟨k, i, va, bm, M⟩ := a
        dsimp only at c0 c1 c2 hv h7 h9 hm50
        have hlt' : (j : Int) < A.length := by omega
        replace hb := hide hb
        replace hn := hide hn
        replace hv := hide hv
        replace h9 := hide h9
        clear hn3 hB3
        go_wp2_with fail
        go_at_call 21
        refine (list_v P g R L _ ((unhide hn).alloc _) L.length rfl).mono ?_
        rintro e w4 ⟨ao4, cap4, b4, rfl, v4, hb4, hB4⟩
        have s4 := hB4.size
        simp only [World.size_alloc] at s4 hb4
        have hX4 := (hB4.block wr.heap.size (by simp)).trans (alloc_at0 wr _)
        obtain ⟨x0, x1, x2⟩ := box_act (w := w4) (b := wr.heap.size) hX4
        have hn4 := hide (((unhide hn).alloc _).below hB4)
        have hv4 := hide (((unhide hv).alloc _).below hB4)
        have hB4' : Below w.heap.size w w4 := ((unhide hb).alloc sz _).trans (hB4.mono (by simp; omega))
        clear hn hv hb hB4
        replace hX4 := hide hX4
        replace v4 := hide v4
        replace hb4 := hide hb4
        replace hB4' := hide hB4'
        go_wp2_with fail
        go_at_call 13
        refine (send_c P g bm R L M _ _ (unhide hn4) (unhide hv4)).mono ?_
        obtain ⟨N, hN⟩ : ∃ N, Hid (nxS R L M = N) := ⟨_, rfl⟩
        obtain ⟨ok, hok⟩ : ∃ ok, okS R L M = ok := ⟨_, rfl⟩
        rw [hok, hN.out]
        rintro e w5 ⟨rfl, g5, hn5, hf5, hg5⟩
        have s5 := hf5.size
        have l5 := hn5.gl
        have hX5 := (hf5.block wr.heap.size (by omega) (by omega) (by omega)).trans (unhide hX4)
        obtain ⟨y0, y1, y2⟩ := box_act (w := w5) (b := wr.heap.size) hX5
        have v5 := hide ((unhide v4).fr hf5 (fun hne => by have := unhide hb4 hne; omega))
        have hB5 : Below w.heap.size w w5 := (unhide hB4').trans (hf5.below hPw hg (by omega))
        have hG5 : w.heap.size ≤ g5 := by omega
        have hle5 := hn5.le
        clear hX4 v4 hB4' hn4 hv4 hf5 x0 x1 x2
        have hnx := hide hn5
        replace hX5 := hide hX5
        replace hB5 := hide hB5
        clear hn5 hg5 hb4 h9
        cases ok
        case true =>
          have hNl : N.length = L.length + M.length := by rw [← hN.out]; simp [nxS, hok]
          have hnm : decide (mx < (L.length : Int) + M.length) = false := by simp; omega
          have hwr : IntKind.i64.wrap ((L.length : Int) + M.length) = (L.length : Int) + M.length := by rw [IntKind.wrap_i64]; omega
          replace hNl := hide hNl
          replace hok := hide hok
          clear hN
          have hXx := hide (show wr.heap.size < w5.heap.size by omega)
          have vx := v5
          have hBx := hB5
          clear v5 hB5
          go_wp2_with fail
          refine wp_region_noPanic ?_
          refine wp_region_held_drew (S := (fun wx : World => wx.cell? ⟨wr.heap.size, 2, none⟩ = some (.slice aoj M.length capj))) (by kernel_rfl) ?_ (fun hHeld => ?_)
          · exact y2
          refine hand_take (i := 0) (d := some 33) (v := ?_) rfl (by kernel_rfl) (by kernel_rfl) (by kernel_rfl) (fun _ _ _ h => h) ?_ hHeld ?_
          rotate_left
          · intro o ho
            simp at ho
            subst ho
            intro wz hSw
            try dsimp only at hSw
            go_simp
            try with_reducible rfl
          try simp only [Act.put, List.setIfInBounds_toArray, List.set_cons_zero, List.set_cons_succ]
          refine hand_take (i := 3) (d := some 36) (v := ?_) rfl (by kernel_rfl) (by kernel_rfl) (by kernel_rfl) (fun _ _ _ h => h) ?_ hHeld ?_
          rotate_left
          · intro o ho
            simp at ho
            subst ho
            intro wz hSw
            try dsimp only at hSw
            go_simp
            try with_reducible rfl
          try simp only [Act.put, List.setIfInBounds_toArray, List.set_cons_zero, List.set_cons_succ]
          refine hand_take (i := 4) (d := some 37) (v := ?_) rfl (by kernel_rfl) (by kernel_rfl) (by kernel_rfl) (fun _ _ _ h => h) ?_ hHeld ?_
          rotate_left
          · intro o ho
            simp at ho
            subst ho
            intro wz hSw
            try dsimp only at hSw
            go_simp
            try with_reducible rfl
          try simp only [Act.put, List.setIfInBounds_toArray, List.set_cons_zero, List.set_cons_succ]
          refine hand_call (i := 1) rfl (by kernel_rfl) ?_
          intro o ho
          simp at ho
          subst ho
          intro K hK
          go_simp
          go_at_call 21
          refine (list_v P g5 R N _ (by first | exact unhide hnx | exact (unhide hnx).drew) (L.length + M.length) (unhide hNl)).mono ?_
          rintro e w6 ⟨ao6, cap6, b6, rfl, v6, _, hB6⟩
          have hnx2 := hide (NetIs.below (p := P) (g := g5) (R := R) (L := N) (by first | exact unhide hnx | exact (unhide hnx).drew) hB6)
          have hB7 : Below w.heap.size w w6 := Below.trans (by first | exact unhide hBx | exact (unhide hBx).drew) (hB6.mono (by have := (unhide hBx).size; first | exact this | (simp; done) | (simp; omega)))
          have z2 : w6.cell? ⟨wr.heap.size, 2, none⟩ = some (.slice aoj M.length capj) := (hB6.cell (p := ⟨wr.heap.size, 2, none⟩) (by first | exact unhide hXx | (simp; exact unhide hXx))).trans y2
          have z0 : w6.cell? ⟨wr.heap.size, 0, none⟩ = some (.int .i64 k) := (hB6.cell (p := ⟨wr.heap.size, 0, none⟩) (by first | exact unhide hXx | (simp; exact unhide hXx))).trans y0
          have z1 : w6.cell? ⟨wr.heap.size, 1, none⟩ = some (.int .i64 i) := (hB6.cell (p := ⟨wr.heap.size, 1, none⟩) (by first | exact unhide hXx | (simp; exact unhide hXx))).trans y1
          have hXx2 := hide (Nat.lt_of_lt_of_le (unhide hXx) hB6.size)
          have vx2 := hide (View.below (L := L) (by first | exact unhide vx | exact View.carry (unhide vx) fun _ _ => rfl) hB6)
          clear hnx hXx vx hBx
          have hnx := hnx2
          have hXx := hXx2
          have vx := vx2
          have hBx := hide hB7
          clear hnx2 hXx2 vx2 hB7 y2 y0 y1 hB6 hHeld
          have y2 := z2
          have y1 := z1
          have y0 := z0
          clear z2 z1 z0
          replace v6 := hide v6

          refine hK.out _ _ ?_ (fun hHeld => ?_)
          · exact y2
          clear hK K
          try simp only [Act.put, List.setIfInBounds_toArray, List.set_cons_zero, List.set_cons_succ]
          refine hand_take (i := 2) (d := some 35) (v := ?_) rfl (by kernel_rfl) (by kernel_rfl) (by kernel_rfl) (fun _ _ _ h => h) ?_ hHeld ?_
          rotate_left
          · intro o ho
            simp at ho
            subst ho
            intro wz hSw
            try dsimp only at hSw
            go_simp
            try with_reducible rfl
          try simp only [Act.put, List.setIfInBounds_toArray, List.set_cons_zero, List.set_cons_succ]
          refine hand_take (i := 5) (d := some 38) (v := ?_) rfl (by kernel_rfl) (by kernel_rfl) (by kernel_rfl) (fun _ _ _ h => h) ?_ hHeld ?_
          rotate_left
          · intro o ho
            simp at ho
            subst ho
            intro wz hSw
            try dsimp only at hSw
            go_simp
            try with_reducible rfl
          try simp only [Act.put, List.setIfInBounds_toArray, List.set_cons_zero, List.set_cons_succ]
          refine hand_take (i := 6) (d := some 39) (v := ?_) rfl (by kernel_rfl) (by kernel_rfl) (by kernel_rfl) (fun _ _ _ h => h) ?_ hHeld ?_
          rotate_left
          · intro o ho
            simp at ho
            subst ho
            intro wz hSw
            try dsimp only at hSw
            go_simp
            try with_reducible rfl
          try simp only [Act.put, List.setIfInBounds_toArray, List.set_cons_zero, List.set_cons_succ]
          refine hand_take (i := 7) (d := some 40) (v := ?_) rfl (by kernel_rfl) (by kernel_rfl) (by kernel_rfl) (fun _ _ _ h => h) ?_ hHeld ?_
          rotate_left
          · intro o ho
            simp at ho
            subst ho
            intro wz hSw
            try dsimp only at hSw
            go_simp
            try with_reducible rfl
          try simp only [Act.put, List.setIfInBounds_toArray, List.set_cons_zero, List.set_cons_succ]
          refine hand_take (i := 8) (d := some 41) (v := ?_) rfl (by kernel_rfl) (by kernel_rfl) (by kernel_rfl) (fun _ _ _ h => h) ?_ hHeld ?_
          rotate_left
          · intro o ho
            simp at ho
            subst ho
            intro wz hSw
            try dsimp only at hSw
            go_simp
            try with_reducible rfl
          try simp only [Act.put, List.setIfInBounds_toArray, List.set_cons_zero, List.set_cons_succ]
          refine hand_take (i := 9) (d := some 42) (v := ?_) rfl (by kernel_rfl) (by kernel_rfl) (by kernel_rfl) (fun _ _ _ h => h) ?_ hHeld ?_
          rotate_left
          · intro o ho
            simp at ho
            subst ho
            intro wz hSw
            try dsimp only at hSw
            go_simp
            try with_reducible rfl
          try simp only [Act.put, List.setIfInBounds_toArray, List.set_cons_zero, List.set_cons_succ]
          refine hand_skip (i := 10) (d := some 43) rfl (by kernel_rfl) (by kernel_rfl) (by kernel_rfl) (fun _ _ _ h => h) hHeld ?_
          try simp only [Act.put, List.setIfInBounds_toArray, List.set_cons_zero, List.set_cons_succ]
          refine hand_skip (i := 11) (d := some 44) rfl (by kernel_rfl) (by kernel_rfl) (by kernel_rfl) (fun _ _ _ h => h) hHeld ?_
          try simp only [Act.put, List.setIfInBounds_toArray, List.set_cons_zero, List.set_cons_succ]
          refine hand_skip (i := 12) (d := some 45) rfl (by kernel_rfl) (by kernel_rfl) (by kernel_rfl) (fun _ _ _ h => h) hHeld ?_
          try simp only [Act.put, List.setIfInBounds_toArray, List.set_cons_zero, List.set_cons_succ]
          refine hand_skip (i := 13) (d := some 46) rfl (by kernel_rfl) (by kernel_rfl) (by kernel_rfl) (fun _ _ _ h => h) hHeld ?_
          try simp only [Act.put, List.setIfInBounds_toArray, List.set_cons_zero, List.set_cons_succ]
          refine hand_skip (i := 14) (d := some 47) rfl (by kernel_rfl) (by kernel_rfl) (by kernel_rfl) (fun _ _ _ h => h) hHeld ?_
          try simp only [Act.put, List.setIfInBounds_toArray, List.set_cons_zero, List.set_cons_succ]
          refine hand_take (i := 15) (d := some 48) (v := ?_) rfl (by kernel_rfl) (by kernel_rfl) (by kernel_rfl) (fun _ _ _ h => h) ?_ hHeld ?_
          rotate_left
          · intro o ho
            simp at ho
            subst ho
            intro wz hSw
            try dsimp only at hSw
            go_simp
            try with_reducible rfl
          try simp only [Act.put, List.setIfInBounds_toArray, List.set_cons_zero, List.set_cons_succ]
          refine hand_take (i := 16) (d := some 49) (v := ?_) rfl (by kernel_rfl) (by kernel_rfl) (by kernel_rfl) (fun _ _ _ h => h) ?_ hHeld ?_
          rotate_left
          · intro o ho
            simp at ho
            subst ho
            intro wz hSw
            try dsimp only at hSw
            go_simp
            try with_reducible rfl
          try simp only [Act.put, List.setIfInBounds_toArray, List.set_cons_zero, List.set_cons_succ]
          refine hand_take (i := 17) (d := some 50) (v := ?_) rfl (by kernel_rfl) (by kernel_rfl) (by kernel_rfl) (fun _ _ _ h => h) ?_ hHeld ?_
          rotate_left
          · intro o ho
            simp at ho
            subst ho
            intro wz hSw
            try dsimp only at hSw
            go_simp
            try with_reducible rfl
          try simp only [Act.put, List.setIfInBounds_toArray, List.set_cons_zero, List.set_cons_succ]
          refine hand_take (i := 18) (d := some 51) (v := ?_) rfl (by kernel_rfl) (by kernel_rfl) (by kernel_rfl) (fun _ _ _ h => h) ?_ hHeld ?_
          rotate_left
          · intro o ho
            simp at ho
            subst ho
            intro wz hSw
            try dsimp only at hSw
            go_simp
            try with_reducible rfl
          try simp only [Act.put, List.setIfInBounds_toArray, List.set_cons_zero, List.set_cons_succ]
          refine hand_take (i := 19) (d := some 52) (v := ?_) rfl (by kernel_rfl) (by kernel_rfl) (by kernel_rfl) (fun _ _ _ h => h) ?_ hHeld ?_
          rotate_left
          · intro o ho
            simp at ho
            subst ho
            intro wz hSw
            try dsimp only at hSw
            go_simp
            try with_reducible rfl
          try simp only [Act.put, List.setIfInBounds_toArray, List.set_cons_zero, List.set_cons_succ]
          refine hand_take (i := 20) (d := some 53) (v := ?_) rfl (by kernel_rfl) (by kernel_rfl) (by kernel_rfl) (fun _ _ _ h => h) ?_ hHeld ?_
          rotate_left
          · intro o ho
            simp at ho
            subst ho
            intro wz hSw
            try dsimp only at hSw
            go_simp
            try with_reducible rfl
          try simp only [Act.put, List.setIfInBounds_toArray, List.set_cons_zero, List.set_cons_succ]
          refine hand_take (i := 23) (d := some 56) (v := ?_) rfl (by kernel_rfl) (by kernel_rfl) (by kernel_rfl) (fun _ _ _ h => h) ?_ hHeld ?_
          rotate_left
          · intro o ho
            simp at ho
            subst ho
            intro wz hSw
            try dsimp only at hSw
            go_simp
            try with_reducible rfl
          try simp only [Act.put, List.setIfInBounds_toArray, List.set_cons_zero, List.set_cons_succ]
          refine hand_take (i := 24) (d := some 57) (v := ?_) rfl (by kernel_rfl) (by kernel_rfl) (by kernel_rfl) (fun _ _ _ h => h) ?_ hHeld ?_
          rotate_left
          · intro o ho
            simp at ho
            subst ho
            intro wz hSw
            try dsimp only at hSw
            go_simp
            try with_reducible rfl
          try simp only [Act.put, List.setIfInBounds_toArray, List.set_cons_zero, List.set_cons_succ]
          refine hand_take (i := 25) (d := some 58) (v := ?_) rfl (by kernel_rfl) (by kernel_rfl) (by kernel_rfl) (fun _ _ _ h => h) ?_ hHeld ?_
          rotate_left
          · intro o ho
            simp at ho
            subst ho
            intro wz hSw
            try dsimp only at hSw
            go_simp
            try with_reducible rfl
          try simp only [Act.put, List.setIfInBounds_toArray, List.set_cons_zero, List.set_cons_succ]
          refine hand_take (i := 26) (d := some 59) (v := ?_) rfl (by kernel_rfl) (by kernel_rfl) (by kernel_rfl) (fun _ _ _ h => h) ?_ hHeld ?_
          rotate_left
          · intro o ho
            simp at ho
            subst ho
            intro wz hSw
            try dsimp only at hSw
            go_simp
            try with_reducible rfl
          try simp only [Act.put, List.setIfInBounds_toArray, List.set_cons_zero, List.set_cons_succ]
          refine hand_take (i := 27) (d := some 60) (v := ?_) rfl (by kernel_rfl) (by kernel_rfl) (by kernel_rfl) (fun _ _ _ h => h) ?_ hHeld ?_
          rotate_left
          · intro o ho
            simp at ho
            subst ho
            intro wz hSw
            try dsimp only at hSw
            go_simp
            try with_reducible rfl
          try simp only [Act.put, List.setIfInBounds_toArray, List.set_cons_zero, List.set_cons_succ]
          refine hand_take (i := 28) (d := some 61) (v := ?_) rfl (by kernel_rfl) (by kernel_rfl) (by kernel_rfl) (fun _ _ _ h => h) ?_ hHeld ?_
          rotate_left
          · intro o ho
            simp at ho
            subst ho
            intro wz hSw
            try dsimp only at hSw
            go_simp
            try with_reducible rfl
          try simp only [Act.put, List.setIfInBounds_toArray, List.set_cons_zero, List.set_cons_succ]
          refine hand_call (i := 21) rfl (by kernel_rfl) ?_
          intro o ho
          simp at ho
          subst ho
          intro K hK
          go_simp
          go_at_call 21
          refine (list_v P g5 R N _ (by first | exact unhide hnx | exact (unhide hnx).drew) (L.length + M.length) (unhide hNl)).mono ?_
          rintro e w7 ⟨ao7, cap7, b7, rfl, v7, _, hB6⟩
          have hnx2 := hide (NetIs.below (p := P) (g := g5) (R := R) (L := N) (by first | exact unhide hnx | exact (unhide hnx).drew) hB6)
          have hB7 : Below w.heap.size w w7 := Below.trans (by first | exact unhide hBx | exact (unhide hBx).drew) (hB6.mono (by have := (unhide hBx).size; first | exact this | (simp; done) | (simp; omega)))
          have z2 : w7.cell? ⟨wr.heap.size, 2, none⟩ = some (.slice aoj M.length capj) := (hB6.cell (p := ⟨wr.heap.size, 2, none⟩) (by first | exact unhide hXx | (simp; exact unhide hXx))).trans y2
          have z0 : w7.cell? ⟨wr.heap.size, 0, none⟩ = some (.int .i64 k) := (hB6.cell (p := ⟨wr.heap.size, 0, none⟩) (by first | exact unhide hXx | (simp; exact unhide hXx))).trans y0
          have z1 : w7.cell? ⟨wr.heap.size, 1, none⟩ = some (.int .i64 i) := (hB6.cell (p := ⟨wr.heap.size, 1, none⟩) (by first | exact unhide hXx | (simp; exact unhide hXx))).trans y1
          have hXx2 := hide (Nat.lt_of_lt_of_le (unhide hXx) hB6.size)
          have vx2 := hide (View.below (L := L) (by first | exact unhide vx | exact View.carry (unhide vx) fun _ _ => rfl) hB6)
          clear hnx hXx vx hBx
          have hnx := hnx2
          have hXx := hXx2
          have vx := vx2
          have hBx := hide hB7
          clear hnx2 hXx2 vx2 hB7 y2 y0 y1 hB6 hHeld
          have y2 := z2
          have y1 := z1
          have y0 := z0
          clear z2 z1 z0
          replace v7 := hide v7

          refine hK.out _ _ ?_ (fun hHeld => ?_)
          · exact y2
          clear hK K
          try simp only [Act.put, List.setIfInBounds_toArray, List.set_cons_zero, List.set_cons_succ]
          refine hand_take (i := 22) (d := some 55) (v := ?_) rfl (by kernel_rfl) (by kernel_rfl) (by kernel_rfl) (fun _ _ _ h => h) ?_ hHeld ?_
          rotate_left
          · intro o ho
            simp at ho
            subst ho
            intro wz hSw
            try dsimp only at hSw
            go_simp
            try with_reducible rfl
          try simp only [Act.put, List.setIfInBounds_toArray, List.set_cons_zero, List.set_cons_succ]
          refine hand_take (i := 29) (d := some 62) (v := ?_) rfl (by kernel_rfl) (by kernel_rfl) (by kernel_rfl) (fun _ _ _ h => h) ?_ hHeld ?_
          rotate_left
          · intro o ho
            simp at ho
            subst ho
            intro wz hSw
            try dsimp only at hSw
            go_simp
            try with_reducible rfl
          try simp only [Act.put, List.setIfInBounds_toArray, List.set_cons_zero, List.set_cons_succ]
          refine hand_take (i := 30) (d := some 63) (v := ?_) rfl (by kernel_rfl) (by kernel_rfl) (by kernel_rfl) (fun _ _ _ h => h) ?_ hHeld ?_
          rotate_left
          · intro o ho
            simp at ho
            subst ho
            intro wz hSw
            try dsimp only at hSw
            go_simp
            try with_reducible rfl
          try simp only [Act.put, List.setIfInBounds_toArray, List.set_cons_zero, List.set_cons_succ]
          refine hand_take (i := 31) (d := some 64) (v := ?_) rfl (by kernel_rfl) (by kernel_rfl) (by kernel_rfl) (fun _ _ _ h => h) ?_ hHeld ?_
          rotate_left
          · intro o ho
            simp at ho
            subst ho
            intro wz hSw
            try dsimp only at hSw
            go_simp
            try with_reducible rfl
          try simp only [Act.put, List.setIfInBounds_toArray, List.set_cons_zero, List.set_cons_succ]
          refine wpAnyH_done (by kernel_rfl) (NoPanic.normal ?_) _
          clear hHeld
          by_cases ck : (1 : Int) < k
          · go_wp2_with (go_at_call 15; refine (take_c P g5 R i N _ (unhide hnx)).mono ?_; rintro e wt ⟨rfl, hnt, hft⟩; replace hnt := hide hnt; replace hft := hide hft)
            go_roundw
            case rel => exact ⟨j + 1, g5, _, by omega, by simp, unhide hnt, hG5, (unhide hBx).trans ((unhide hft).below hPw hG5 (unhide hBx).size)⟩
            case measure => simp [intOf]; omega
          · go_wp2_with fail
            go_roundw
            case rel => exact ⟨j + 1, g5, N, by omega, by simp, unhide hnx, hG5, unhide hBx⟩
            case measure => simp [intOf]; omega
        case false =>
          have hNL : Hid (N = L) := by rw [← hN.out]; show nxS R L M = L; simp [nxS, hok]
          have hNl : N.length = L.length := by rw [hNL.out]
          have hnm : decide (mx < (L.length : Int)) = false := by simp; omega
          replace hNl := hide hNl
          replace hok := hide hok
          clear hN
          have hXx := hide (show wr.heap.size < w5.heap.size by omega)
          have vx := v5
          have hBx := hB5
          clear v5 hB5
          go_wp2_with fail
          refine wp_region_noPanic ?_
          refine wp_region_held_drew (S := (fun wx : World => wx.cell? ⟨wr.heap.size, 2, none⟩ = some (.slice aoj M.length capj))) (by kernel_rfl) ?_ (fun hHeld => ?_)
          · exact y2
          refine hand_take (i := 0) (d := some 33) (v := ?_) rfl (by kernel_rfl) (by kernel_rfl) (by kernel_rfl) (fun _ _ _ h => h) ?_ hHeld ?_
          rotate_left
          · intro o ho
            simp at ho
            subst ho
            intro wz hSw
            try dsimp only at hSw
            go_simp
            try with_reducible rfl
          try simp only [Act.put, List.setIfInBounds_toArray, List.set_cons_zero, List.set_cons_succ]
          refine hand_take (i := 3) (d := some 36) (v := ?_) rfl (by kernel_rfl) (by kernel_rfl) (by kernel_rfl) (fun _ _ _ h => h) ?_ hHeld ?_
          rotate_left
          · intro o ho
            simp at ho
            subst ho
            intro wz hSw
            try dsimp only at hSw
            go_simp
            try with_reducible rfl
          try simp only [Act.put, List.setIfInBounds_toArray, List.set_cons_zero, List.set_cons_succ]
          refine hand_take (i := 4) (d := some 37) (v := ?_) rfl (by kernel_rfl) (by kernel_rfl) (by kernel_rfl) (fun _ _ _ h => h) ?_ hHeld ?_
          rotate_left
          · intro o ho
            simp at ho
            subst ho
            intro wz hSw
            try dsimp only at hSw
            go_simp
            try with_reducible rfl
          try simp only [Act.put, List.setIfInBounds_toArray, List.set_cons_zero, List.set_cons_succ]
          refine hand_call (i := 1) rfl (by kernel_rfl) ?_
          intro o ho
          simp at ho
          subst ho
          intro K hK
          go_simp
          go_at_call 21
          refine (list_v P g5 R N _ (by first | exact unhide hnx | exact (unhide hnx).drew) L.length (unhide hNl)).mono ?_
          rintro e w6 ⟨ao6, cap6, b6, rfl, v6, _, hB6⟩
          have hnx2 := hide (NetIs.below (p := P) (g := g5) (R := R) (L := N) (by first | exact unhide hnx | exact (unhide hnx).drew) hB6)
          have hB7 : Below w.heap.size w w6 := Below.trans (by first | exact unhide hBx | exact (unhide hBx).drew) (hB6.mono (by have := (unhide hBx).size; first | exact this | (simp; done) | (simp; omega)))
          have z2 : w6.cell? ⟨wr.heap.size, 2, none⟩ = some (.slice aoj M.length capj) := (hB6.cell (p := ⟨wr.heap.size, 2, none⟩) (by first | exact unhide hXx | (simp; exact unhide hXx))).trans y2
          have z0 : w6.cell? ⟨wr.heap.size, 0, none⟩ = some (.int .i64 k) := (hB6.cell (p := ⟨wr.heap.size, 0, none⟩) (by first | exact unhide hXx | (simp; exact unhide hXx))).trans y0
          have z1 : w6.cell? ⟨wr.heap.size, 1, none⟩ = some (.int .i64 i) := (hB6.cell (p := ⟨wr.heap.size, 1, none⟩) (by first | exact unhide hXx | (simp; exact unhide hXx))).trans y1
          have hXx2 := hide (Nat.lt_of_lt_of_le (unhide hXx) hB6.size)
          have vx2 := hide (View.below (L := L) (by first | exact unhide vx | exact View.carry (unhide vx) fun _ _ => rfl) hB6)
          clear hnx hXx vx hBx
          have hnx := hnx2
          have hXx := hXx2
          have vx := vx2
          have hBx := hide hB7
          clear hnx2 hXx2 vx2 hB7 y2 y0 y1 hB6 hHeld
          have y2 := z2
          have y1 := z1
          have y0 := z0
          clear z2 z1 z0
          replace v6 := hide v6

          refine hK.out _ _ ?_ (fun hHeld => ?_)
          · exact y2
          clear hK K
          try simp only [Act.put, List.setIfInBounds_toArray, List.set_cons_zero, List.set_cons_succ]
          refine hand_take (i := 2) (d := some 35) (v := ?_) rfl (by kernel_rfl) (by kernel_rfl) (by kernel_rfl) (fun _ _ _ h => h) ?_ hHeld ?_
          rotate_left
          · intro o ho
            simp at ho
            subst ho
            intro wz hSw
            try dsimp only at hSw
            go_simp
            try with_reducible rfl
          try simp only [Act.put, List.setIfInBounds_toArray, List.set_cons_zero, List.set_cons_succ]
          refine hand_take (i := 5) (d := some 38) (v := ?_) rfl (by kernel_rfl) (by kernel_rfl) (by kernel_rfl) (fun _ _ _ h => h) ?_ hHeld ?_
          rotate_left
          · intro o ho
            simp at ho
            subst ho
            intro wz hSw
            try dsimp only at hSw
            go_simp
            try with_reducible rfl
          try simp only [Act.put, List.setIfInBounds_toArray, List.set_cons_zero, List.set_cons_succ]
          refine hand_take (i := 6) (d := some 39) (v := ?_) rfl (by kernel_rfl) (by kernel_rfl) (by kernel_rfl) (fun _ _ _ h => h) ?_ hHeld ?_
          rotate_left
          · intro o ho
            simp at ho
            subst ho
            intro wz hSw
            try dsimp only at hSw
            go_simp
            try with_reducible rfl
          try simp only [Act.put, List.setIfInBounds_toArray, List.set_cons_zero, List.set_cons_succ]
          refine hand_take (i := 7) (d := some 40) (v := ?_) rfl (by kernel_rfl) (by kernel_rfl) (by kernel_rfl) (fun _ _ _ h => h) ?_ hHeld ?_
          rotate_left
          · intro o ho
            simp at ho
            subst ho
            intro wz hSw
            try dsimp only at hSw
            go_simp
            try with_reducible rfl
          try simp only [Act.put, List.setIfInBounds_toArray, List.set_cons_zero, List.set_cons_succ]
          refine hand_take (i := 8) (d := some 41) (v := ?_) rfl (by kernel_rfl) (by kernel_rfl) (by kernel_rfl) (fun _ _ _ h => h) ?_ hHeld ?_
          rotate_left
          · intro o ho
            simp at ho
            subst ho
            intro wz hSw
            try dsimp only at hSw
            go_simp
            try with_reducible rfl
          try simp only [Act.put, List.setIfInBounds_toArray, List.set_cons_zero, List.set_cons_succ]
          refine hand_take (i := 9) (d := some 42) (v := ?_) rfl (by kernel_rfl) (by kernel_rfl) (by kernel_rfl) (fun _ _ _ h => h) ?_ hHeld ?_
          rotate_left
          · intro o ho
            simp at ho
            subst ho
            intro wz hSw
            try dsimp only at hSw
            go_simp
            try with_reducible rfl
          try simp only [Act.put, List.setIfInBounds_toArray, List.set_cons_zero, List.set_cons_succ]
          refine hand_take (i := 10) (d := some 43) (v := ?_) rfl (by kernel_rfl) (by kernel_rfl) (by kernel_rfl) (fun _ _ _ h => h) ?_ hHeld ?_
          rotate_left
          · intro o ho
            simp at ho
            subst ho
            intro wz hSw
            try dsimp only at hSw
            go_simp
            try with_reducible rfl
          try simp only [Act.put, List.setIfInBounds_toArray, List.set_cons_zero, List.set_cons_succ]
          refine hand_take (i := 12) (d := some 45) (v := ?_) rfl (by kernel_rfl) (by kernel_rfl) (by kernel_rfl) (fun _ _ _ h => h) ?_ hHeld ?_
          rotate_left
          · intro o ho
            simp at ho
            subst ho
            intro wz hSw
            try dsimp only at hSw
            go_simp
            try with_reducible rfl
          try simp only [Act.put, List.setIfInBounds_toArray, List.set_cons_zero, List.set_cons_succ]
          refine hand_call (i := 11) rfl (by kernel_rfl) ?_
          intro o ho
          simp at ho
          subst ho
          intro K hK
          go_simp
          go_at_call 21
          refine (list_v P g5 R N _ (by first | exact unhide hnx | exact (unhide hnx).drew) L.length (unhide hNl)).mono ?_
          rintro e w7 ⟨ao7, cap7, b7, rfl, v7, _, hB6⟩
          have hnx2 := hide (NetIs.below (p := P) (g := g5) (R := R) (L := N) (by first | exact unhide hnx | exact (unhide hnx).drew) hB6)
          have hB7 : Below w.heap.size w w7 := Below.trans (by first | exact unhide hBx | exact (unhide hBx).drew) (hB6.mono (by have := (unhide hBx).size; first | exact this | (simp; done) | (simp; omega)))
          have z2 : w7.cell? ⟨wr.heap.size, 2, none⟩ = some (.slice aoj M.length capj) := (hB6.cell (p := ⟨wr.heap.size, 2, none⟩) (by first | exact unhide hXx | (simp; exact unhide hXx))).trans y2
          have z0 : w7.cell? ⟨wr.heap.size, 0, none⟩ = some (.int .i64 k) := (hB6.cell (p := ⟨wr.heap.size, 0, none⟩) (by first | exact unhide hXx | (simp; exact unhide hXx))).trans y0
          have z1 : w7.cell? ⟨wr.heap.size, 1, none⟩ = some (.int .i64 i) := (hB6.cell (p := ⟨wr.heap.size, 1, none⟩) (by first | exact unhide hXx | (simp; exact unhide hXx))).trans y1
          have hXx2 := hide (Nat.lt_of_lt_of_le (unhide hXx) hB6.size)
          have vx2 := hide (View.below (L := L) (by first | exact unhide vx | exact View.carry (unhide vx) fun _ _ => rfl) hB6)
          clear hnx hXx vx hBx
          have hnx := hnx2
          have hXx := hXx2
          have vx := vx2
          have hBx := hide hB7
          clear hnx2 hXx2 vx2 hB7 y2 y0 y1 hB6 hHeld
          have y2 := z2
          have y1 := z1
          have y0 := z0
          clear z2 z1 z0
          replace v7 := hide v7

          refine hK.out _ _ ?_ (fun hHeld => ?_)
          · exact y2
          clear hK K
          try simp only [Act.put, List.setIfInBounds_toArray, List.set_cons_zero, List.set_cons_succ]
          refine hand_call (i := 13) rfl (by kernel_rfl) ?_
          intro o ho
          simp at ho
          subst ho
          intro K hK
          go_simp
          go_at_call 20
          refine (same_c _ _ b7 b4 L _ (by have vv := unhide v7; rw [hNL.out] at vv; exact vv) (unhide vx)).mono ?_
          rintro e w8 ⟨rfl, n8, hw8⟩
          have hnx2 : Hid (NetIs w8 P g5 R N) := by rw [hw8]; exact (unhide hnx).drewN n8
          have hBx2 : Hid (Below w.heap.size w w8) := by rw [hw8]; exact belowN (unhide hBx) n8
          have z2 : w8.cell? ⟨wr.heap.size, 2, none⟩ = some (.slice aoj M.length capj) := by rw [hw8]; exact y2
          have z1 : w8.cell? ⟨wr.heap.size, 1, none⟩ = some (.int .i64 i) := by rw [hw8]; exact y1
          have z0 : w8.cell? ⟨wr.heap.size, 0, none⟩ = some (.int .i64 k) := by rw [hw8]; exact y0
          clear hw8 hnx hBx y0 y1 y2 hHeld vx v7 hXx
          have hnx := hnx2
          have hBx := hBx2
          have y2 := z2
          have y1 := z1
          have y0 := z0
          clear z2 z1 z0 hnx2 hBx2
          refine hK.out _ _ ?_ (fun hHeld => ?_)
          · exact y2
          clear hK K
          try simp only [Act.put, List.setIfInBounds_toArray, List.set_cons_zero, List.set_cons_succ]
          refine hand_take (i := 14) (d := some 47) (v := ?_) rfl (by kernel_rfl) (by kernel_rfl) (by kernel_rfl) (fun _ _ _ h => h) ?_ hHeld ?_
          rotate_left
          · intro o ho
            simp at ho
            subst ho
            intro wz hSw
            try dsimp only at hSw
            go_simp
            try with_reducible rfl
          try simp only [Act.put, List.setIfInBounds_toArray, List.set_cons_zero, List.set_cons_succ]
          refine hand_take (i := 15) (d := some 48) (v := ?_) rfl (by kernel_rfl) (by kernel_rfl) (by kernel_rfl) (fun _ _ _ h => h) ?_ hHeld ?_
          rotate_left
          · intro o ho
            simp at ho
            subst ho
            intro wz hSw
            try dsimp only at hSw
            go_simp
            try with_reducible rfl
          try simp only [Act.put, List.setIfInBounds_toArray, List.set_cons_zero, List.set_cons_succ]
          refine hand_take (i := 16) (d := some 49) (v := ?_) rfl (by kernel_rfl) (by kernel_rfl) (by kernel_rfl) (fun _ _ _ h => h) ?_ hHeld ?_
          rotate_left
          · intro o ho
            simp at ho
            subst ho
            intro wz hSw
            try dsimp only at hSw
            go_simp
            try with_reducible rfl
          try simp only [Act.put, List.setIfInBounds_toArray, List.set_cons_zero, List.set_cons_succ]
          refine hand_take (i := 17) (d := some 50) (v := ?_) rfl (by kernel_rfl) (by kernel_rfl) (by kernel_rfl) (fun _ _ _ h => h) ?_ hHeld ?_
          rotate_left
          · intro o ho
            simp at ho
            subst ho
            intro wz hSw
            try dsimp only at hSw
            go_simp
            try with_reducible rfl
          try simp only [Act.put, List.setIfInBounds_toArray, List.set_cons_zero, List.set_cons_succ]
          refine hand_take (i := 18) (d := some 51) (v := ?_) rfl (by kernel_rfl) (by kernel_rfl) (by kernel_rfl) (fun _ _ _ h => h) ?_ hHeld ?_
          rotate_left
          · intro o ho
            simp at ho
            subst ho
            intro wz hSw
            try dsimp only at hSw
            go_simp
            try with_reducible rfl
          try simp only [Act.put, List.setIfInBounds_toArray, List.set_cons_zero, List.set_cons_succ]
          refine hand_take (i := 19) (d := some 52) (v := ?_) rfl (by kernel_rfl) (by kernel_rfl) (by kernel_rfl) (fun _ _ _ h => h) ?_ hHeld ?_
          rotate_left
          · intro o ho
            simp at ho
            subst ho
            intro wz hSw
            try dsimp only at hSw
            go_simp
            try with_reducible rfl
          try simp only [Act.put, List.setIfInBounds_toArray, List.set_cons_zero, List.set_cons_succ]
          refine hand_skip (i := 20) (d := some 53) rfl (by kernel_rfl) (by kernel_rfl) (by kernel_rfl) (fun _ _ _ h => h) hHeld ?_
          try simp only [Act.put, List.setIfInBounds_toArray, List.set_cons_zero, List.set_cons_succ]
          refine hand_skip (i := 21) (d := some 54) rfl (by kernel_rfl) (by kernel_rfl) (by kernel_rfl) (fun _ _ _ h => h) hHeld ?_
          try simp only [Act.put, List.setIfInBounds_toArray, List.set_cons_zero, List.set_cons_succ]
          refine hand_skip (i := 22) (d := some 55) rfl (by kernel_rfl) (by kernel_rfl) (by kernel_rfl) (fun _ _ _ h => h) hHeld ?_
          try simp only [Act.put, List.setIfInBounds_toArray, List.set_cons_zero, List.set_cons_succ]
          refine hand_skip (i := 23) (d := some 56) rfl (by kernel_rfl) (by kernel_rfl) (by kernel_rfl) (fun _ _ _ h => h) hHeld ?_
          try simp only [Act.put, List.setIfInBounds_toArray, List.set_cons_zero, List.set_cons_succ]
          refine hand_skip (i := 24) (d := some 57) rfl (by kernel_rfl) (by kernel_rfl) (by kernel_rfl) (fun _ _ _ h => h) hHeld ?_
          try simp only [Act.put, List.setIfInBounds_toArray, List.set_cons_zero, List.set_cons_succ]
          refine hand_skip (i := 25) (d := some 58) rfl (by kernel_rfl) (by kernel_rfl) (by kernel_rfl) (fun _ _ _ h => h) hHeld ?_
          try simp only [Act.put, List.setIfInBounds_toArray, List.set_cons_zero, List.set_cons_succ]
          refine hand_skip (i := 26) (d := some 59) rfl (by kernel_rfl) (by kernel_rfl) (by kernel_rfl) (fun _ _ _ h => h) hHeld ?_
          try simp only [Act.put, List.setIfInBounds_toArray, List.set_cons_zero, List.set_cons_succ]
          refine hand_skip (i := 27) (d := some 60) rfl (by kernel_rfl) (by kernel_rfl) (by kernel_rfl) (fun _ _ _ h => h) hHeld ?_
          try simp only [Act.put, List.setIfInBounds_toArray, List.set_cons_zero, List.set_cons_succ]
          refine hand_skip (i := 28) (d := some 61) rfl (by kernel_rfl) (by kernel_rfl) (by kernel_rfl) (fun _ _ _ h => h) hHeld ?_
          try simp only [Act.put, List.setIfInBounds_toArray, List.set_cons_zero, List.set_cons_succ]
          refine hand_skip (i := 29) (d := some 62) rfl (by kernel_rfl) (by kernel_rfl) (by kernel_rfl) (fun _ _ _ h => h) hHeld ?_
          try simp only [Act.put, List.setIfInBounds_toArray, List.set_cons_zero, List.set_cons_succ]
          refine hand_take (i := 30) (d := some 63) (v := ?_) rfl (by kernel_rfl) (by kernel_rfl) (by kernel_rfl) (fun _ _ _ h => h) ?_ hHeld ?_
          rotate_left
          · intro o ho
            simp at ho
            subst ho
            intro wz hSw
            try dsimp only at hSw
            go_simp
            try with_reducible rfl
          try simp only [Act.put, List.setIfInBounds_toArray, List.set_cons_zero, List.set_cons_succ]
          refine hand_take (i := 31) (d := some 64) (v := ?_) rfl (by kernel_rfl) (by kernel_rfl) (by kernel_rfl) (fun _ _ _ h => h) ?_ hHeld ?_
          rotate_left
          · intro o ho
            simp at ho
            subst ho
            intro wz hSw
            try dsimp only at hSw
            go_simp
            try with_reducible rfl
          try simp only [Act.put, List.setIfInBounds_toArray, List.set_cons_zero, List.set_cons_succ]
          refine wpAnyH_done (by kernel_rfl) (NoPanic.normal ?_) _
          clear hHeld
          by_cases ck : (1 : Int) < k
          · go_wp2_with (go_at_call 15; refine (take_c P g5 R i N _ (unhide hnx)).mono ?_; rintro e wt ⟨rfl, hnt, hft⟩; replace hnt := hide hnt; replace hft := hide hft)
            go_roundw
            case rel => exact ⟨j + 1, g5, _, by omega, by simp, unhide hnt, hG5, (unhide hBx).trans ((unhide hft).below hPw hG5 (unhide hBx).size)⟩
            case measure => simp [intOf]; omega
          · go_wp2_with fail
            go_roundw
            case rel => exact ⟨j + 1, g5, N, by omega, by simp, unhide hnx, hG5, unhide hBx⟩
            case measure => simp [intOf]; omega
      · replace hb := hide hb
        replace hn := hide hn
        go_wp2_with fail
        go_ret
        exact ⟨rfl, unhide hb⟩
end Go.Proofs.Ytajcebnbmejamaa
