/- The walk of ProcPlays: it returns true; no old memory turns (layer 14). -/
import Derived.Test.YtmdioofpghbjbaaLaw14
import Derived.Test.YtmdioofpghbjbaaActs14
import Derived.Test.YtmdioofpghbjbaaRpB
namespace Go.Proofs.Ytmdioofpghbjbaa
open Go.ChangeShapes Go.WideShapes Go.ChangeAt Go.RowKit
set_option linter.unusedSimpArgs false
set_option linter.unusedVariables false
set_option maxRecDepth 10000

attribute [local go_sem, local simp] over_const setCell_drewN alloc_drewN Over.cell Over.frozen lt_s1 lt_s2 lt_s3 le_s0 le_s1 le_s2 le_s3 eq_s0 eq_s1 eq_s2 qe_s0

/-- The program's processor and the document's, apart. -/
structure BEnv (w wr : World) (p r : Nat) (wa tr : Int) (P Q : Pm) : Prop where
  a : PEnv w wr p wa tr P
  m : RpIs wr r wa tr Q
  r0 : w.heap.size ≤ r
  ne : p ≠ r

section
variable {w wr wz w3 : World} {p q r : Nat} {wa tr : Int} {P P' Q Q' : Pm}
theorem BEnv.quiet (h : BEnv w wr p r wa tr P Q) (hz : Below wr.heap.size wr wz) : BEnv w wz p r wa tr P Q := ⟨h.a.quiet hz, h.m.below hz, h.r0, h.ne⟩
theorem BEnv.prog (h : BEnv w wr p r wa tr P Q) (hn : PrIs w3 p wa tr P') (hf : FrS (· = p) wr w3) : BEnv w w3 p r wa tr P' Q := ⟨h.a.step hn hf, h.m.fr hf (fun e => h.ne e.symm), h.r0, h.ne⟩
theorem BEnv.doc (h : BEnv w wr p r wa tr P Q) (hn : RpIs w3 r wa tr Q') (hf : FrS (· = r) wr w3) : BEnv w w3 p r wa tr P Q' := ⟨h.a.aside hf h.r0 h.ne, hn, h.r0, h.ne⟩
theorem BEnv.turn (h : BEnv w wr p r wa tr P Q) (hq : PEnv w wr q wa tr P') (hn : q ≠ r) : BEnv w wr q r wa tr P' Q := ⟨hq, h.m, h.r0, hn⟩
end


set_option maxHeartbeats 4000000 in
theorem ProcPlays_walk (wa tr : Int) (v : Value) (A : List Ac) (w : World) (b1 : wa ≤ 9223372036854775807) (b2 : tr ≤ 9223372036854775807) (h1 : ActsAt w.heap.size w v A) : Calls Try.prog 3 #[.int .i64 wa, .int .i64 tr, v] w fun e w' => e = .returned (.bool true) ∧ Below w.heap.size w w' := by
  have hA := hide h1
  obtain ⟨ao, cap, rfl, hlc, hmx, -⟩ := h1
  have hma : A.length ≤ 9223372036854775807 := by unfold maxLen at hmx; omega
  clear hmx
  by_cases ca : 300 < (A.length : Int)
  · go_enter Try.func3, Try.ntmps3
    go_wp2_with (go_at_call 8; refine (awake14_any _).mono ?_; rintro e w' ⟨rfl, hb⟩; obtain ⟨x1, rfl⟩ := over hb; clear hb)
    go_ret
    refine ⟨rfl, ?_⟩
    repeat' first | with_reducible exact Below.refl _ _ | with_reducible refine Below.setCell ?_ ?_ _ | with_reducible refine Below.alloc ?_ ?_ _ | with_reducible refine Below.drew ?_ | with_reducible refine belowN ?_ _ | with_reducible refine Over.go _ ?_ ?_ | with_reducible exact Nat.le_refl _ | with_reducible refine Over.sz _ _ ?_ | with_reducible refine le_alloc ?_ | with_reducible refine le_setCell ?_ | with_reducible refine le_drewN ?_ | with_reducible refine le_drew ?_ | omega | (dsimp only; omega)
  · have dca : decide (300 < (A.length : Int)) = false := by simp; omega
    go_enter Try.func3, Try.ntmps3
    go_wp2_with fail
    go_at_call 8
    refine (awake14_any _).mono ?_
    rintro e w1 ⟨rfl, hb1⟩
    replace hb1 := hide hb1
    go_wp2_with fail
    go_at_call 9
    refine (pNew_c wa tr w1 b1 b2).mono ?_
    rintro e w2 ⟨p, rfl, hn2, hp2, hb2⟩
    have P2 := hide (PEnv.first hb1.out hn2 hp2 hb2)
    have B2 : Hid (BEnv w (w2.alloc (.cells (rpC wa tr 0 op30 false 0 0 false) 32)) p w2.heap.size wa tr pm0 pm0) := hide ⟨P2.out.quiet (belA _ _), rp_new w2 wa tr b1 b2, P2.out.bel.size, by have := P2.out.n.lt; omega⟩
    obtain ⟨r, hr⟩ : ∃ r, w2.heap.size = r := ⟨_, rfl⟩
    rw [hr] at B2
    clear hn2 hp2 hb2 hb1 P2
    go_wp2_with fail
    try rw [hr]
    clear hr
    replace ca := hide ca
    go_loopw [7, 37] (fun pv i wr => ∃ (j p : Nat) (P : Pm), j ≤ A.length ∧ i = .int .i64 j ∧ pv = ptr p ∧ BEnv w wr p r wa tr P P ∧ P.k ≤ j) (fun _ i _ => A.length - (intOf i).toNat)
    case atStart => exact ⟨0, p, pm0, Nat.zero_le _, rfl, rfl, B2.out, Int.le_refl _⟩
    case round =>
      clear B2
      obtain ⟨j, p, P, hj, rfl, rfl, T0, hk⟩ := hrel
      replace T0 := hide T0
      by_cases hlt : j < A.length
      · have hlt' : (j : Int) < A.length := by omega
        have hk9 : P.k < 100000 := by have := ca.out; omega
        obtain ⟨b, o', rfl, hbB, hbl, -, r0, r1, r2, r3⟩ := acts_row (hA.out.below T0.out.a.bel) hlt
        obtain ⟨y, hy⟩ : ∃ y, A[j] = y := ⟨_, rfl⟩
        rw [hy] at r0 r1 r2 r3
        obtain ⟨yk, yb, yw, yv⟩ := y
        clear hy
        dsimp only at r0 r1 r2 r3
        have T1 := hide (T0.out.quiet (belA wr (actsO ⟨yk, yb, yw, yv⟩)))
        have hbp : wr.heap.size ≠ p := by have := T0.out.a.n.lt; omega
        have hbr : wr.heap.size ≠ r := by have := T0.out.m.lt; omega
        clear T0
        by_cases k1 : yk = 1
        · subst k1
          obtain ⟨zl, z0, z1, z2, z3⟩ := acts_new wr ⟨1, yb, yw, yv⟩
          dsimp only at z0 z1 z2 z3
          go_wp2_with fail
          refine wp_region_noPanic ?_
          refine wp_region_held_drew (S := (fun w' => w'.cell? ⟨wr.heap.size, 1, none⟩ = some (.int .i64 yb) ∧ w'.cell? ⟨wr.heap.size, 2, none⟩ = some (.bool yw) ∧ w'.cell? ⟨wr.heap.size, 3, none⟩ = some (.int .i64 yv))) (by kernel_rfl) ?_ (fun hHeld => ?_)
          · exact ⟨z1, z2, z3⟩
          have T2 := hide (T1.out.quiet ((Below.refl _ _).drew))
          have zl' : wr.heap.size < (wr.alloc (actsO ⟨1, yb, yw, yv⟩)).drew.heap.size := zl
          obtain ⟨wd, hwd⟩ : ∃ wd, (wr.alloc (actsO ⟨1, yb, yw, yv⟩)).drew = wd := ⟨_, rfl⟩
          rw [hwd] at T2 zl'
          dsimp only [actsO] at hwd
          rw [hwd] at hHeld ⊢
          clear hwd zl z0 z1 z2 z3 r0 r1 r2 r3 T1
          refine hand_take (i := 0) (d := some 45) (v := ?_) rfl (by kernel_rfl) (by kernel_rfl) (by kernel_rfl) (fun _ _ _ h => h) ?_ hHeld ?_
          rotate_left
          · intro o ho
            simp at ho
            subst ho
            intro wz hSw
            try dsimp only at hSw
            go_simp
            try with_reducible rfl
          try simp only [Act.put, List.setIfInBounds_toArray, List.set_cons_zero, List.set_cons_succ]
          refine hand_take (i := 1) (d := some 46) (v := ?_) rfl (by kernel_rfl) (by kernel_rfl) (by kernel_rfl) (fun _ _ _ h => h) ?_ hHeld ?_
          rotate_left
          · intro o ho
            simp at ho
            subst ho
            intro wz hSw
            try dsimp only at hSw
            go_simp
            try with_reducible rfl
          try simp only [Act.put, List.setIfInBounds_toArray, List.set_cons_zero, List.set_cons_succ]
          refine hand_take (i := 2) (d := some 47) (v := ?_) rfl (by kernel_rfl) (by kernel_rfl) (by kernel_rfl) (fun _ _ _ h => h) ?_ hHeld ?_
          rotate_left
          · intro o ho
            simp at ho
            subst ho
            intro wz hSw
            try dsimp only at hSw
            go_simp
            try with_reducible rfl
          try simp only [Act.put, List.setIfInBounds_toArray, List.set_cons_zero, List.set_cons_succ]
          refine hand_take (i := 4) (d := some 49) (v := ?_) rfl (by kernel_rfl) (by kernel_rfl) (by kernel_rfl) (fun _ _ _ h => h) ?_ hHeld ?_
          rotate_left
          · intro o ho
            simp at ho
            subst ho
            intro wz hSw
            try dsimp only at hSw
            go_simp
            try with_reducible rfl
          try simp only [Act.put, List.setIfInBounds_toArray, List.set_cons_zero, List.set_cons_succ]
          refine hand_take (i := 5) (d := some 50) (v := ?_) rfl (by kernel_rfl) (by kernel_rfl) (by kernel_rfl) (fun _ _ _ h => h) ?_ hHeld ?_
          rotate_left
          · intro o ho
            simp at ho
            subst ho
            intro wz hSw
            try dsimp only at hSw
            go_simp
            try with_reducible rfl
          try simp only [Act.put, List.setIfInBounds_toArray, List.set_cons_zero, List.set_cons_succ]
          refine hand_take (i := 6) (d := some 51) (v := ?_) rfl (by kernel_rfl) (by kernel_rfl) (by kernel_rfl) (fun _ _ _ h => h) ?_ hHeld ?_
          rotate_left
          · intro o ho
            simp at ho
            subst ho
            intro wz hSw
            try dsimp only at hSw
            go_simp
            try with_reducible rfl
          try simp only [Act.put, List.setIfInBounds_toArray, List.set_cons_zero, List.set_cons_succ]
          obtain ⟨ok, hok⟩ : ∃ ok, Hid ((!P.busy) = ok) := ⟨_, rfl⟩
          refine hand_call (i := 3) rfl (by kernel_rfl) ?_
          intro o ho
          simp at ho
          subst ho
          intro K hK
          go_simp
          go_at_call 10
          refine (pIss_c p wa tr P ⟨yb, yw, yv⟩ wd T2.out.a.n ok hok).mono ?_
          rintro e w3 ⟨rfl, h3, f3⟩
          have T3 := hide (T2.out.prog h3 f3)
          have e1 := (f3.cell zl' hbp).trans hHeld.1
          have e2 := (f3.cell zl' hbp).trans hHeld.2.1
          have e3 := (f3.cell zl' hbp).trans hHeld.2.2
          have zl3 := Nat.lt_of_lt_of_le zl' f3.size
          clear h3 f3 T2 zl'
          refine hK.out _ _ ?_ (fun hHeld => ?_)
          · exact ⟨e1, e2, e3⟩
          clear hK K
          try simp only [Act.put, List.setIfInBounds_toArray, List.set_cons_zero, List.set_cons_succ]
          clear e1 e2 e3
          refine hand_call (i := 7) rfl (by kernel_rfl) ?_
          intro o ho
          simp at ho
          subst ho
          intro K hK
          go_simp
          go_at_call 11
          refine (rIss_c r wa tr P ⟨yb, yw, yv⟩ w3 T3.out.m ok hok).mono ?_
          rintro e w4 ⟨rfl, h4, f4⟩
          have T := hide (T3.out.doc h4 f4)
          have e1 := (f4.cell zl3 hbr).trans hHeld.1
          have e2 := (f4.cell zl3 hbr).trans hHeld.2.1
          have e3 := (f4.cell zl3 hbr).trans hHeld.2.2
          clear h4 f4 T3 zl3
          refine hK.out _ _ ?_ (fun hHeld => ?_)
          · exact ⟨e1, e2, e3⟩
          clear hK K
          try simp only [Act.put, List.setIfInBounds_toArray, List.set_cons_zero, List.set_cons_succ]
          clear e1 e2 e3
          refine hand_take (i := 8) (d := some 53) (v := .bool false) rfl (by kernel_rfl) (by kernel_rfl) (by kernel_rfl) (fun _ _ _ h => h) ?_ hHeld ?_
          · intro o ho
            simp at ho
            subst ho
            intro wz hSw
            try dsimp only at hSw
            go_simp
          try simp only [Act.put, List.setIfInBounds_toArray, List.set_cons_zero, List.set_cons_succ]
          refine wpAnyH_done (by kernel_rfl) (NoPanic.normal ?_) _
          clear hHeld
          have hk1 : (nxI wa P ⟨yb, yw, yv⟩).k ≤ j + 1 := by rw [nxI_k]; omega
          obtain ⟨R, hR⟩ : ∃ R, nxI wa P ⟨yb, yw, yv⟩ = R := ⟨_, rfl⟩
          rw [hR] at T hk1
          clear hR
          obtain ⟨k, l, t, o, ⟨xb, xw, xv⟩, busy⟩ := R
          obtain ⟨l', t', o', -, hob⟩ := T.out.m.ob
          replace hob := hide hob
          go_wp2_with fail
          go_at_call 17
          refine (pPend_c p wa tr _ _ T.out.a.n ⟨xb, xw, xv⟩ (hide rfl) busy (hide rfl)).mono ?_
          rintro e w21 ⟨rfl, hb21⟩
          have hb22 := hb21.trans ((belA w21 (opO ⟨xb, xw, xv⟩)).mono hb21.size)
          have T2 := hide (T.out.quiet hb22)
          obtain ⟨zl, z0, z1, z2⟩ := ops_new w21 ⟨xb, xw, xv⟩
          obtain ⟨yl, y0, y1, y2, y3, y4, y5, y6, y7, y8, y9, fy⟩ := rp_at ((hb22.block r T.out.m.lt).trans hob.out)
          clear hob T hb21 hb22 y0 y1 y2 y7 y8 y9 fy yl
          have zl' : w21.heap.size < (w21.alloc (opO ⟨xb, xw, xv⟩)).heap.size := zl
          dsimp only at z0 z1 z2
          go_wp2_with fail
          refine wp_region_noPanic ?_
          refine wp_region_held_drew (S := (fun w' => w'.cell? ⟨w21.heap.size, 0, none⟩ = some (.int .i64 xb) ∧ w'.cell? ⟨w21.heap.size, 1, none⟩ = some (.bool xw) ∧ w'.cell? ⟨w21.heap.size, 2, none⟩ = some (.int .i64 xv) ∧ w'.cell? ⟨r, 3, none⟩ = some (.int .i64 xb) ∧ w'.cell? ⟨r, 4, none⟩ = some (.bool xw) ∧ w'.cell? ⟨r, 5, none⟩ = some (.int .i64 xv) ∧ w'.cell? ⟨r, 6, none⟩ = some (.bool busy))) (by kernel_rfl) ?_ (fun hHeld => ?_)
          · exact ⟨z0, z1, z2, y3, y4, y5, y6⟩
          have T3 := hide (T2.out.quiet ((Below.refl _ _).drew))
          obtain ⟨wd, hwd⟩ : ∃ wd, (w21.alloc (opO ⟨xb, xw, xv⟩)).drew = wd := ⟨_, rfl⟩
          rw [hwd] at T3
          dsimp only [opO] at hwd
          rw [hwd] at hHeld ⊢
          clear hwd zl zl' z0 z1 z2 y3 y4 y5 y6 T2
          refine hand_take (i := 0) (d := some 98) (v := ?_) rfl (by kernel_rfl) (by kernel_rfl) (by kernel_rfl) (fun _ _ _ h => h) ?_ hHeld ?_
          rotate_left
          · intro o ho
            simp at ho
            subst ho
            intro wz hSw
            try dsimp only at hSw
            go_simp
            try with_reducible rfl
          try simp only [Act.put, List.setIfInBounds_toArray, List.set_cons_zero, List.set_cons_succ]
          refine hand_take (i := 1) (d := some 99) (v := ?_) rfl (by kernel_rfl) (by kernel_rfl) (by kernel_rfl) (fun _ _ _ h => h) ?_ hHeld ?_
          rotate_left
          · intro o ho
            simp at ho
            subst ho
            intro wz hSw
            try dsimp only at hSw
            go_simp
            try with_reducible rfl
          try simp only [Act.put, List.setIfInBounds_toArray, List.set_cons_zero, List.set_cons_succ]
          refine hand_take (i := 2) (d := some 100) (v := ?_) rfl (by kernel_rfl) (by kernel_rfl) (by kernel_rfl) (fun _ _ _ h => h) ?_ hHeld ?_
          rotate_left
          · intro o ho
            simp at ho
            subst ho
            intro wz hSw
            try dsimp only at hSw
            go_simp
            try with_reducible rfl
          try simp only [Act.put, List.setIfInBounds_toArray, List.set_cons_zero, List.set_cons_succ]
          refine hand_take (i := 3) (d := some 101) (v := ?_) rfl (by kernel_rfl) (by kernel_rfl) (by kernel_rfl) (fun _ _ _ h => h) ?_ hHeld ?_
          rotate_left
          · intro o ho
            simp at ho
            subst ho
            intro wz hSw
            try dsimp only at hSw
            go_simp
            try with_reducible rfl
          try simp only [Act.put, List.setIfInBounds_toArray, List.set_cons_zero, List.set_cons_succ]
          refine hand_take (i := 4) (d := some 102) (v := ?_) rfl (by kernel_rfl) (by kernel_rfl) (by kernel_rfl) (fun _ _ _ h => h) ?_ hHeld ?_
          rotate_left
          · intro o ho
            simp at ho
            subst ho
            intro wz hSw
            try dsimp only at hSw
            go_simp
            try with_reducible rfl
          try simp only [Act.put, List.setIfInBounds_toArray, List.set_cons_zero, List.set_cons_succ]
          refine hand_take (i := 5) (d := some 103) (v := .bool false) rfl (by kernel_rfl) (by kernel_rfl) (by kernel_rfl) (fun _ _ _ h => h) ?_ hHeld ?_
          · intro o ho
            simp at ho
            subst ho
            intro wz hSw
            try dsimp only at hSw
            go_simp
          try simp only [Act.put, List.setIfInBounds_toArray, List.set_cons_zero, List.set_cons_succ]
          refine hand_take (i := 6) (d := some 104) (v := ?_) rfl (by kernel_rfl) (by kernel_rfl) (by kernel_rfl) (fun _ _ _ h => h) ?_ hHeld ?_
          rotate_left
          · intro o ho
            simp at ho
            subst ho
            intro wz hSw
            try dsimp only at hSw
            go_simp
            try with_reducible rfl
          try simp only [Act.put, List.setIfInBounds_toArray, List.set_cons_zero, List.set_cons_succ]
          refine hand_take (i := 7) (d := some 105) (v := ?_) rfl (by kernel_rfl) (by kernel_rfl) (by kernel_rfl) (fun _ _ _ h => h) ?_ hHeld ?_
          rotate_left
          · intro o ho
            simp at ho
            subst ho
            intro wz hSw
            try dsimp only at hSw
            go_simp
            try with_reducible rfl
          try simp only [Act.put, List.setIfInBounds_toArray, List.set_cons_zero, List.set_cons_succ]
          refine hand_take (i := 8) (d := some 106) (v := ?_) rfl (by kernel_rfl) (by kernel_rfl) (by kernel_rfl) (fun _ _ _ h => h) ?_ hHeld ?_
          rotate_left
          · intro o ho
            simp at ho
            subst ho
            intro wz hSw
            try dsimp only at hSw
            go_simp
            try with_reducible rfl
          try simp only [Act.put, List.setIfInBounds_toArray, List.set_cons_zero, List.set_cons_succ]
          refine hand_take (i := 9) (d := some 107) (v := ?_) rfl (by kernel_rfl) (by kernel_rfl) (by kernel_rfl) (fun _ _ _ h => h) ?_ hHeld ?_
          rotate_left
          · intro o ho
            simp at ho
            subst ho
            intro wz hSw
            try dsimp only at hSw
            go_simp
            try with_reducible rfl
          try simp only [Act.put, List.setIfInBounds_toArray, List.set_cons_zero, List.set_cons_succ]
          refine hand_take (i := 10) (d := some 108) (v := ?_) rfl (by kernel_rfl) (by kernel_rfl) (by kernel_rfl) (fun _ _ _ h => h) ?_ hHeld ?_
          rotate_left
          · intro o ho
            simp at ho
            subst ho
            intro wz hSw
            try dsimp only at hSw
            go_simp
            try with_reducible rfl
          try simp only [Act.put, List.setIfInBounds_toArray, List.set_cons_zero, List.set_cons_succ]
          refine hand_take (i := 11) (d := some 109) (v := ?_) rfl (by kernel_rfl) (by kernel_rfl) (by kernel_rfl) (fun _ _ _ h => h) ?_ hHeld ?_
          rotate_left
          · intro o ho
            simp at ho
            subst ho
            intro wz hSw
            try dsimp only at hSw
            go_simp
            try with_reducible rfl
          try simp only [Act.put, List.setIfInBounds_toArray, List.set_cons_zero, List.set_cons_succ]
          refine hand_take (i := 12) (d := some 110) (v := .bool false) rfl (by kernel_rfl) (by kernel_rfl) (by kernel_rfl) (fun _ _ _ h => h) ?_ hHeld ?_
          · intro o ho
            simp at ho
            subst ho
            intro wz hSw
            try dsimp only at hSw
            go_simp
          try simp only [Act.put, List.setIfInBounds_toArray, List.set_cons_zero, List.set_cons_succ]
          refine hand_take (i := 13) (d := some 111) (v := .bool false) rfl (by kernel_rfl) (by kernel_rfl) (by kernel_rfl) (fun _ _ _ h => h) ?_ hHeld ?_
          · intro o ho
            simp at ho
            subst ho
            intro wz hSw
            try dsimp only at hSw
            go_simp
          try simp only [Act.put, List.setIfInBounds_toArray, List.set_cons_zero, List.set_cons_succ]
          refine hand_take (i := 14) (d := some 112) (v := ?_) rfl (by kernel_rfl) (by kernel_rfl) (by kernel_rfl) (fun _ _ _ h => h) ?_ hHeld ?_
          rotate_left
          · intro o ho
            simp at ho
            subst ho
            intro wz hSw
            try dsimp only at hSw
            go_simp
            try with_reducible rfl
          try simp only [Act.put, List.setIfInBounds_toArray, List.set_cons_zero, List.set_cons_succ]
          refine hand_take (i := 15) (d := some 113) (v := ?_) rfl (by kernel_rfl) (by kernel_rfl) (by kernel_rfl) (fun _ _ _ h => h) ?_ hHeld ?_
          rotate_left
          · intro o ho
            simp at ho
            subst ho
            intro wz hSw
            try dsimp only at hSw
            go_simp
            try with_reducible rfl
          try simp only [Act.put, List.setIfInBounds_toArray, List.set_cons_zero, List.set_cons_succ]
          refine hand_take (i := 17) (d := some 115) (v := ?_) rfl (by kernel_rfl) (by kernel_rfl) (by kernel_rfl) (fun _ _ _ h => h) ?_ hHeld ?_
          rotate_left
          · intro o ho
            simp at ho
            subst ho
            intro wz hSw
            try dsimp only at hSw
            go_simp
            try with_reducible rfl
          try simp only [Act.put, List.setIfInBounds_toArray, List.set_cons_zero, List.set_cons_succ]
          refine hand_call (i := 16) rfl (by kernel_rfl) ?_
          intro o ho
          simp at ho
          subst ho
          intro K hK
          go_simp
          go_at_call 18
          refine (pPin_c p wa tr _ wd T3.out.a.n _ (hide rfl)).mono ?_
          rintro e w' ⟨rfl, hw'⟩
          rw [hw']
          clear hw' w'
          refine hK.out _ _ ?_ (fun hHeld => ?_)
          · exact hHeld
          clear hK K
          try simp only [Act.put, List.setIfInBounds_toArray, List.set_cons_zero, List.set_cons_succ]
          refine hand_call (i := 18) rfl (by kernel_rfl) ?_
          intro o ho
          simp at ho
          subst ho
          intro K hK
          go_simp
          go_at_call 19
          refine (rPin_c r wa tr _ wd T3.out.m _ (hide rfl)).mono ?_
          rintro e w' ⟨rfl, hw'⟩
          rw [hw']
          clear hw' w'
          refine hK.out _ _ ?_ (fun hHeld => ?_)
          · exact hHeld
          clear hK K
          try simp only [Act.put, List.setIfInBounds_toArray, List.set_cons_zero, List.set_cons_succ]
          refine hand_take (i := 19) (d := some 117) (v := .bool false) rfl (by kernel_rfl) (by kernel_rfl) (by kernel_rfl) (fun _ _ _ h => h) ?_ hHeld ?_
          · intro o ho
            simp at ho
            subst ho
            intro wz hSw
            try dsimp only at hSw
            go_simp
          try simp only [Act.put, List.setIfInBounds_toArray, List.set_cons_zero, List.set_cons_succ]
          refine hand_take (i := 20) (d := some 118) (v := .bool false) rfl (by kernel_rfl) (by kernel_rfl) (by kernel_rfl) (fun _ _ _ h => h) ?_ hHeld ?_
          · intro o ho
            simp at ho
            subst ho
            intro wz hSw
            try dsimp only at hSw
            go_simp
          try simp only [Act.put, List.setIfInBounds_toArray, List.set_cons_zero, List.set_cons_succ]
          refine wpAnyH_done (by kernel_rfl) (NoPanic.normal ?_) _
          clear hHeld
          go_wp2_with fail
          go_roundw
          case rel => exact ⟨j + 1, p, _, by omega, by simp, rfl, T3.out, by have := hk1; dsimp only at this ⊢; omega⟩
          case measure => simp [intOf]; omega
        by_cases k2 : yk = 2
        · subst k2
          clear k1
          obtain ⟨n, hn⟩ : ∃ n, Hid (numF P = n) := ⟨_, rfl⟩
          obtain ⟨ok, hok⟩ : ∃ ok, Hid (P.busy = ok) := ⟨_, rfl⟩
          go_wp2_with fail
          go_at_call 12
          refine (pFin_c p wa tr P _ T1.out.a.n hk9 n hn ok hok).mono ?_
          rintro e w3 ⟨rfl, h3, f3⟩
          have T3 := hide (T1.out.prog h3 f3)
          clear h3 f3 T1 r0 r1 r2 r3
          go_wp2_with fail
          go_at_call 13
          refine (rFin_c r wa tr P w3 T3.out.m hk9 n hn ok hok).mono ?_
          rintro e w4 ⟨rfl, h4, f4⟩
          have T := hide (T3.out.doc h4 f4)
          clear h4 f4 T3 hn hok
          have hk1 : (nxF P).k ≤ j + 1 := by have := nxF_k P; omega
          obtain ⟨R, hR⟩ : ∃ R, nxF P = R := ⟨_, rfl⟩
          rw [hR] at T hk1
          clear hR
          obtain ⟨k, l, t, o, ⟨xb, xw, xv⟩, busy⟩ := R
          obtain ⟨l', t', o', -, hob⟩ := T.out.m.ob
          replace hob := hide hob
          go_wp2_with fail
          go_at_call 17
          refine (pPend_c p wa tr _ _ T.out.a.n ⟨xb, xw, xv⟩ (hide rfl) busy (hide rfl)).mono ?_
          rintro e w21 ⟨rfl, hb21⟩
          have hb22 := hb21.trans ((belA w21 (opO ⟨xb, xw, xv⟩)).mono hb21.size)
          have T2 := hide (T.out.quiet hb22)
          obtain ⟨zl, z0, z1, z2⟩ := ops_new w21 ⟨xb, xw, xv⟩
          obtain ⟨yl, y0, y1, y2, y3, y4, y5, y6, y7, y8, y9, fy⟩ := rp_at ((hb22.block r T.out.m.lt).trans hob.out)
          clear hob T hb21 hb22 y0 y1 y2 y7 y8 y9 fy yl
          have zl' : w21.heap.size < (w21.alloc (opO ⟨xb, xw, xv⟩)).heap.size := zl
          dsimp only at z0 z1 z2
          go_wp2_with fail
          refine wp_region_noPanic ?_
          refine wp_region_held_drew (S := (fun w' => w'.cell? ⟨w21.heap.size, 0, none⟩ = some (.int .i64 xb) ∧ w'.cell? ⟨w21.heap.size, 1, none⟩ = some (.bool xw) ∧ w'.cell? ⟨w21.heap.size, 2, none⟩ = some (.int .i64 xv) ∧ w'.cell? ⟨r, 3, none⟩ = some (.int .i64 xb) ∧ w'.cell? ⟨r, 4, none⟩ = some (.bool xw) ∧ w'.cell? ⟨r, 5, none⟩ = some (.int .i64 xv) ∧ w'.cell? ⟨r, 6, none⟩ = some (.bool busy))) (by kernel_rfl) ?_ (fun hHeld => ?_)
          · exact ⟨z0, z1, z2, y3, y4, y5, y6⟩
          have T3 := hide (T2.out.quiet ((Below.refl _ _).drew))
          obtain ⟨wd, hwd⟩ : ∃ wd, (w21.alloc (opO ⟨xb, xw, xv⟩)).drew = wd := ⟨_, rfl⟩
          rw [hwd] at T3
          dsimp only [opO] at hwd
          rw [hwd] at hHeld ⊢
          clear hwd zl zl' z0 z1 z2 y3 y4 y5 y6 T2
          refine hand_take (i := 0) (d := some 98) (v := ?_) rfl (by kernel_rfl) (by kernel_rfl) (by kernel_rfl) (fun _ _ _ h => h) ?_ hHeld ?_
          rotate_left
          · intro o ho
            simp at ho
            subst ho
            intro wz hSw
            try dsimp only at hSw
            go_simp
            try with_reducible rfl
          try simp only [Act.put, List.setIfInBounds_toArray, List.set_cons_zero, List.set_cons_succ]
          refine hand_take (i := 1) (d := some 99) (v := ?_) rfl (by kernel_rfl) (by kernel_rfl) (by kernel_rfl) (fun _ _ _ h => h) ?_ hHeld ?_
          rotate_left
          · intro o ho
            simp at ho
            subst ho
            intro wz hSw
            try dsimp only at hSw
            go_simp
            try with_reducible rfl
          try simp only [Act.put, List.setIfInBounds_toArray, List.set_cons_zero, List.set_cons_succ]
          refine hand_take (i := 2) (d := some 100) (v := ?_) rfl (by kernel_rfl) (by kernel_rfl) (by kernel_rfl) (fun _ _ _ h => h) ?_ hHeld ?_
          rotate_left
          · intro o ho
            simp at ho
            subst ho
            intro wz hSw
            try dsimp only at hSw
            go_simp
            try with_reducible rfl
          try simp only [Act.put, List.setIfInBounds_toArray, List.set_cons_zero, List.set_cons_succ]
          refine hand_take (i := 3) (d := some 101) (v := ?_) rfl (by kernel_rfl) (by kernel_rfl) (by kernel_rfl) (fun _ _ _ h => h) ?_ hHeld ?_
          rotate_left
          · intro o ho
            simp at ho
            subst ho
            intro wz hSw
            try dsimp only at hSw
            go_simp
            try with_reducible rfl
          try simp only [Act.put, List.setIfInBounds_toArray, List.set_cons_zero, List.set_cons_succ]
          refine hand_take (i := 4) (d := some 102) (v := ?_) rfl (by kernel_rfl) (by kernel_rfl) (by kernel_rfl) (fun _ _ _ h => h) ?_ hHeld ?_
          rotate_left
          · intro o ho
            simp at ho
            subst ho
            intro wz hSw
            try dsimp only at hSw
            go_simp
            try with_reducible rfl
          try simp only [Act.put, List.setIfInBounds_toArray, List.set_cons_zero, List.set_cons_succ]
          refine hand_take (i := 5) (d := some 103) (v := .bool false) rfl (by kernel_rfl) (by kernel_rfl) (by kernel_rfl) (fun _ _ _ h => h) ?_ hHeld ?_
          · intro o ho
            simp at ho
            subst ho
            intro wz hSw
            try dsimp only at hSw
            go_simp
          try simp only [Act.put, List.setIfInBounds_toArray, List.set_cons_zero, List.set_cons_succ]
          refine hand_take (i := 6) (d := some 104) (v := ?_) rfl (by kernel_rfl) (by kernel_rfl) (by kernel_rfl) (fun _ _ _ h => h) ?_ hHeld ?_
          rotate_left
          · intro o ho
            simp at ho
            subst ho
            intro wz hSw
            try dsimp only at hSw
            go_simp
            try with_reducible rfl
          try simp only [Act.put, List.setIfInBounds_toArray, List.set_cons_zero, List.set_cons_succ]
          refine hand_take (i := 7) (d := some 105) (v := ?_) rfl (by kernel_rfl) (by kernel_rfl) (by kernel_rfl) (fun _ _ _ h => h) ?_ hHeld ?_
          rotate_left
          · intro o ho
            simp at ho
            subst ho
            intro wz hSw
            try dsimp only at hSw
            go_simp
            try with_reducible rfl
          try simp only [Act.put, List.setIfInBounds_toArray, List.set_cons_zero, List.set_cons_succ]
          refine hand_take (i := 8) (d := some 106) (v := ?_) rfl (by kernel_rfl) (by kernel_rfl) (by kernel_rfl) (fun _ _ _ h => h) ?_ hHeld ?_
          rotate_left
          · intro o ho
            simp at ho
            subst ho
            intro wz hSw
            try dsimp only at hSw
            go_simp
            try with_reducible rfl
          try simp only [Act.put, List.setIfInBounds_toArray, List.set_cons_zero, List.set_cons_succ]
          refine hand_take (i := 9) (d := some 107) (v := ?_) rfl (by kernel_rfl) (by kernel_rfl) (by kernel_rfl) (fun _ _ _ h => h) ?_ hHeld ?_
          rotate_left
          · intro o ho
            simp at ho
            subst ho
            intro wz hSw
            try dsimp only at hSw
            go_simp
            try with_reducible rfl
          try simp only [Act.put, List.setIfInBounds_toArray, List.set_cons_zero, List.set_cons_succ]
          refine hand_take (i := 10) (d := some 108) (v := ?_) rfl (by kernel_rfl) (by kernel_rfl) (by kernel_rfl) (fun _ _ _ h => h) ?_ hHeld ?_
          rotate_left
          · intro o ho
            simp at ho
            subst ho
            intro wz hSw
            try dsimp only at hSw
            go_simp
            try with_reducible rfl
          try simp only [Act.put, List.setIfInBounds_toArray, List.set_cons_zero, List.set_cons_succ]
          refine hand_take (i := 11) (d := some 109) (v := ?_) rfl (by kernel_rfl) (by kernel_rfl) (by kernel_rfl) (fun _ _ _ h => h) ?_ hHeld ?_
          rotate_left
          · intro o ho
            simp at ho
            subst ho
            intro wz hSw
            try dsimp only at hSw
            go_simp
            try with_reducible rfl
          try simp only [Act.put, List.setIfInBounds_toArray, List.set_cons_zero, List.set_cons_succ]
          refine hand_take (i := 12) (d := some 110) (v := .bool false) rfl (by kernel_rfl) (by kernel_rfl) (by kernel_rfl) (fun _ _ _ h => h) ?_ hHeld ?_
          · intro o ho
            simp at ho
            subst ho
            intro wz hSw
            try dsimp only at hSw
            go_simp
          try simp only [Act.put, List.setIfInBounds_toArray, List.set_cons_zero, List.set_cons_succ]
          refine hand_take (i := 13) (d := some 111) (v := .bool false) rfl (by kernel_rfl) (by kernel_rfl) (by kernel_rfl) (fun _ _ _ h => h) ?_ hHeld ?_
          · intro o ho
            simp at ho
            subst ho
            intro wz hSw
            try dsimp only at hSw
            go_simp
          try simp only [Act.put, List.setIfInBounds_toArray, List.set_cons_zero, List.set_cons_succ]
          refine hand_take (i := 14) (d := some 112) (v := ?_) rfl (by kernel_rfl) (by kernel_rfl) (by kernel_rfl) (fun _ _ _ h => h) ?_ hHeld ?_
          rotate_left
          · intro o ho
            simp at ho
            subst ho
            intro wz hSw
            try dsimp only at hSw
            go_simp
            try with_reducible rfl
          try simp only [Act.put, List.setIfInBounds_toArray, List.set_cons_zero, List.set_cons_succ]
          refine hand_take (i := 15) (d := some 113) (v := ?_) rfl (by kernel_rfl) (by kernel_rfl) (by kernel_rfl) (fun _ _ _ h => h) ?_ hHeld ?_
          rotate_left
          · intro o ho
            simp at ho
            subst ho
            intro wz hSw
            try dsimp only at hSw
            go_simp
            try with_reducible rfl
          try simp only [Act.put, List.setIfInBounds_toArray, List.set_cons_zero, List.set_cons_succ]
          refine hand_take (i := 17) (d := some 115) (v := ?_) rfl (by kernel_rfl) (by kernel_rfl) (by kernel_rfl) (fun _ _ _ h => h) ?_ hHeld ?_
          rotate_left
          · intro o ho
            simp at ho
            subst ho
            intro wz hSw
            try dsimp only at hSw
            go_simp
            try with_reducible rfl
          try simp only [Act.put, List.setIfInBounds_toArray, List.set_cons_zero, List.set_cons_succ]
          refine hand_call (i := 16) rfl (by kernel_rfl) ?_
          intro o ho
          simp at ho
          subst ho
          intro K hK
          go_simp
          go_at_call 18
          refine (pPin_c p wa tr _ wd T3.out.a.n _ (hide rfl)).mono ?_
          rintro e w' ⟨rfl, hw'⟩
          rw [hw']
          clear hw' w'
          refine hK.out _ _ ?_ (fun hHeld => ?_)
          · exact hHeld
          clear hK K
          try simp only [Act.put, List.setIfInBounds_toArray, List.set_cons_zero, List.set_cons_succ]
          refine hand_call (i := 18) rfl (by kernel_rfl) ?_
          intro o ho
          simp at ho
          subst ho
          intro K hK
          go_simp
          go_at_call 19
          refine (rPin_c r wa tr _ wd T3.out.m _ (hide rfl)).mono ?_
          rintro e w' ⟨rfl, hw'⟩
          rw [hw']
          clear hw' w'
          refine hK.out _ _ ?_ (fun hHeld => ?_)
          · exact hHeld
          clear hK K
          try simp only [Act.put, List.setIfInBounds_toArray, List.set_cons_zero, List.set_cons_succ]
          refine hand_take (i := 19) (d := some 117) (v := .bool false) rfl (by kernel_rfl) (by kernel_rfl) (by kernel_rfl) (fun _ _ _ h => h) ?_ hHeld ?_
          · intro o ho
            simp at ho
            subst ho
            intro wz hSw
            try dsimp only at hSw
            go_simp
          try simp only [Act.put, List.setIfInBounds_toArray, List.set_cons_zero, List.set_cons_succ]
          refine hand_take (i := 20) (d := some 118) (v := .bool false) rfl (by kernel_rfl) (by kernel_rfl) (by kernel_rfl) (fun _ _ _ h => h) ?_ hHeld ?_
          · intro o ho
            simp at ho
            subst ho
            intro wz hSw
            try dsimp only at hSw
            go_simp
          try simp only [Act.put, List.setIfInBounds_toArray, List.set_cons_zero, List.set_cons_succ]
          refine wpAnyH_done (by kernel_rfl) (NoPanic.normal ?_) _
          clear hHeld
          go_wp2_with fail
          go_roundw
          case rel => exact ⟨j + 1, p, _, by omega, by simp, rfl, T3.out, by have := hk1; dsimp only at this ⊢; omega⟩
          case measure => simp [intOf]; omega
        by_cases k3 : yk = 3
        · subst k3
          clear k1 k2
          obtain ⟨n, hn⟩ : ∃ n, Hid (doT wa tr P = n) := ⟨_, rfl⟩
          go_wp2_with fail
          go_at_call 14
          refine (pTick_c p wa tr P _ T1.out.a.n n hn).mono ?_
          rintro e w3 ⟨rfl, h3, f3⟩
          have T3 := hide (T1.out.prog h3 f3)
          clear h3 f3 T1 r0 r1 r2 r3
          go_wp2_with fail
          go_at_call 15
          refine (rTick_c r wa tr P w3 T3.out.m n hn).mono ?_
          rintro e w4 ⟨rfl, h4, f4⟩
          have T := hide (T3.out.doc h4 f4)
          clear h4 f4 T3 hn
          have hk1 : (nxT wa tr P).k ≤ j + 1 := by rw [nxT_k]; omega
          obtain ⟨R, hR⟩ : ∃ R, nxT wa tr P = R := ⟨_, rfl⟩
          rw [hR] at T hk1
          clear hR
          obtain ⟨k, l, t, o, ⟨xb, xw, xv⟩, busy⟩ := R
          obtain ⟨l', t', o', -, hob⟩ := T.out.m.ob
          replace hob := hide hob
          go_wp2_with fail
          go_at_call 17
          refine (pPend_c p wa tr _ _ T.out.a.n ⟨xb, xw, xv⟩ (hide rfl) busy (hide rfl)).mono ?_
          rintro e w21 ⟨rfl, hb21⟩
          have hb22 := hb21.trans ((belA w21 (opO ⟨xb, xw, xv⟩)).mono hb21.size)
          have T2 := hide (T.out.quiet hb22)
          obtain ⟨zl, z0, z1, z2⟩ := ops_new w21 ⟨xb, xw, xv⟩
          obtain ⟨yl, y0, y1, y2, y3, y4, y5, y6, y7, y8, y9, fy⟩ := rp_at ((hb22.block r T.out.m.lt).trans hob.out)
          clear hob T hb21 hb22 y0 y1 y2 y7 y8 y9 fy yl
          have zl' : w21.heap.size < (w21.alloc (opO ⟨xb, xw, xv⟩)).heap.size := zl
          dsimp only at z0 z1 z2
          go_wp2_with fail
          refine wp_region_noPanic ?_
          refine wp_region_held_drew (S := (fun w' => w'.cell? ⟨w21.heap.size, 0, none⟩ = some (.int .i64 xb) ∧ w'.cell? ⟨w21.heap.size, 1, none⟩ = some (.bool xw) ∧ w'.cell? ⟨w21.heap.size, 2, none⟩ = some (.int .i64 xv) ∧ w'.cell? ⟨r, 3, none⟩ = some (.int .i64 xb) ∧ w'.cell? ⟨r, 4, none⟩ = some (.bool xw) ∧ w'.cell? ⟨r, 5, none⟩ = some (.int .i64 xv) ∧ w'.cell? ⟨r, 6, none⟩ = some (.bool busy))) (by kernel_rfl) ?_ (fun hHeld => ?_)
          · exact ⟨z0, z1, z2, y3, y4, y5, y6⟩
          have T3 := hide (T2.out.quiet ((Below.refl _ _).drew))
          obtain ⟨wd, hwd⟩ : ∃ wd, (w21.alloc (opO ⟨xb, xw, xv⟩)).drew = wd := ⟨_, rfl⟩
          rw [hwd] at T3
          dsimp only [opO] at hwd
          rw [hwd] at hHeld ⊢
          clear hwd zl zl' z0 z1 z2 y3 y4 y5 y6 T2
          refine hand_take (i := 0) (d := some 98) (v := ?_) rfl (by kernel_rfl) (by kernel_rfl) (by kernel_rfl) (fun _ _ _ h => h) ?_ hHeld ?_
          rotate_left
          · intro o ho
            simp at ho
            subst ho
            intro wz hSw
            try dsimp only at hSw
            go_simp
            try with_reducible rfl
          try simp only [Act.put, List.setIfInBounds_toArray, List.set_cons_zero, List.set_cons_succ]
          refine hand_take (i := 1) (d := some 99) (v := ?_) rfl (by kernel_rfl) (by kernel_rfl) (by kernel_rfl) (fun _ _ _ h => h) ?_ hHeld ?_
          rotate_left
          · intro o ho
            simp at ho
            subst ho
            intro wz hSw
            try dsimp only at hSw
            go_simp
            try with_reducible rfl
          try simp only [Act.put, List.setIfInBounds_toArray, List.set_cons_zero, List.set_cons_succ]
          refine hand_take (i := 2) (d := some 100) (v := ?_) rfl (by kernel_rfl) (by kernel_rfl) (by kernel_rfl) (fun _ _ _ h => h) ?_ hHeld ?_
          rotate_left
          · intro o ho
            simp at ho
            subst ho
            intro wz hSw
            try dsimp only at hSw
            go_simp
            try with_reducible rfl
          try simp only [Act.put, List.setIfInBounds_toArray, List.set_cons_zero, List.set_cons_succ]
          refine hand_take (i := 3) (d := some 101) (v := ?_) rfl (by kernel_rfl) (by kernel_rfl) (by kernel_rfl) (fun _ _ _ h => h) ?_ hHeld ?_
          rotate_left
          · intro o ho
            simp at ho
            subst ho
            intro wz hSw
            try dsimp only at hSw
            go_simp
            try with_reducible rfl
          try simp only [Act.put, List.setIfInBounds_toArray, List.set_cons_zero, List.set_cons_succ]
          refine hand_take (i := 4) (d := some 102) (v := ?_) rfl (by kernel_rfl) (by kernel_rfl) (by kernel_rfl) (fun _ _ _ h => h) ?_ hHeld ?_
          rotate_left
          · intro o ho
            simp at ho
            subst ho
            intro wz hSw
            try dsimp only at hSw
            go_simp
            try with_reducible rfl
          try simp only [Act.put, List.setIfInBounds_toArray, List.set_cons_zero, List.set_cons_succ]
          refine hand_take (i := 5) (d := some 103) (v := .bool false) rfl (by kernel_rfl) (by kernel_rfl) (by kernel_rfl) (fun _ _ _ h => h) ?_ hHeld ?_
          · intro o ho
            simp at ho
            subst ho
            intro wz hSw
            try dsimp only at hSw
            go_simp
          try simp only [Act.put, List.setIfInBounds_toArray, List.set_cons_zero, List.set_cons_succ]
          refine hand_take (i := 6) (d := some 104) (v := ?_) rfl (by kernel_rfl) (by kernel_rfl) (by kernel_rfl) (fun _ _ _ h => h) ?_ hHeld ?_
          rotate_left
          · intro o ho
            simp at ho
            subst ho
            intro wz hSw
            try dsimp only at hSw
            go_simp
            try with_reducible rfl
          try simp only [Act.put, List.setIfInBounds_toArray, List.set_cons_zero, List.set_cons_succ]
          refine hand_take (i := 7) (d := some 105) (v := ?_) rfl (by kernel_rfl) (by kernel_rfl) (by kernel_rfl) (fun _ _ _ h => h) ?_ hHeld ?_
          rotate_left
          · intro o ho
            simp at ho
            subst ho
            intro wz hSw
            try dsimp only at hSw
            go_simp
            try with_reducible rfl
          try simp only [Act.put, List.setIfInBounds_toArray, List.set_cons_zero, List.set_cons_succ]
          refine hand_take (i := 8) (d := some 106) (v := ?_) rfl (by kernel_rfl) (by kernel_rfl) (by kernel_rfl) (fun _ _ _ h => h) ?_ hHeld ?_
          rotate_left
          · intro o ho
            simp at ho
            subst ho
            intro wz hSw
            try dsimp only at hSw
            go_simp
            try with_reducible rfl
          try simp only [Act.put, List.setIfInBounds_toArray, List.set_cons_zero, List.set_cons_succ]
          refine hand_take (i := 9) (d := some 107) (v := ?_) rfl (by kernel_rfl) (by kernel_rfl) (by kernel_rfl) (fun _ _ _ h => h) ?_ hHeld ?_
          rotate_left
          · intro o ho
            simp at ho
            subst ho
            intro wz hSw
            try dsimp only at hSw
            go_simp
            try with_reducible rfl
          try simp only [Act.put, List.setIfInBounds_toArray, List.set_cons_zero, List.set_cons_succ]
          refine hand_take (i := 10) (d := some 108) (v := ?_) rfl (by kernel_rfl) (by kernel_rfl) (by kernel_rfl) (fun _ _ _ h => h) ?_ hHeld ?_
          rotate_left
          · intro o ho
            simp at ho
            subst ho
            intro wz hSw
            try dsimp only at hSw
            go_simp
            try with_reducible rfl
          try simp only [Act.put, List.setIfInBounds_toArray, List.set_cons_zero, List.set_cons_succ]
          refine hand_take (i := 11) (d := some 109) (v := ?_) rfl (by kernel_rfl) (by kernel_rfl) (by kernel_rfl) (fun _ _ _ h => h) ?_ hHeld ?_
          rotate_left
          · intro o ho
            simp at ho
            subst ho
            intro wz hSw
            try dsimp only at hSw
            go_simp
            try with_reducible rfl
          try simp only [Act.put, List.setIfInBounds_toArray, List.set_cons_zero, List.set_cons_succ]
          refine hand_take (i := 12) (d := some 110) (v := .bool false) rfl (by kernel_rfl) (by kernel_rfl) (by kernel_rfl) (fun _ _ _ h => h) ?_ hHeld ?_
          · intro o ho
            simp at ho
            subst ho
            intro wz hSw
            try dsimp only at hSw
            go_simp
          try simp only [Act.put, List.setIfInBounds_toArray, List.set_cons_zero, List.set_cons_succ]
          refine hand_take (i := 13) (d := some 111) (v := .bool false) rfl (by kernel_rfl) (by kernel_rfl) (by kernel_rfl) (fun _ _ _ h => h) ?_ hHeld ?_
          · intro o ho
            simp at ho
            subst ho
            intro wz hSw
            try dsimp only at hSw
            go_simp
          try simp only [Act.put, List.setIfInBounds_toArray, List.set_cons_zero, List.set_cons_succ]
          refine hand_take (i := 14) (d := some 112) (v := ?_) rfl (by kernel_rfl) (by kernel_rfl) (by kernel_rfl) (fun _ _ _ h => h) ?_ hHeld ?_
          rotate_left
          · intro o ho
            simp at ho
            subst ho
            intro wz hSw
            try dsimp only at hSw
            go_simp
            try with_reducible rfl
          try simp only [Act.put, List.setIfInBounds_toArray, List.set_cons_zero, List.set_cons_succ]
          refine hand_take (i := 15) (d := some 113) (v := ?_) rfl (by kernel_rfl) (by kernel_rfl) (by kernel_rfl) (fun _ _ _ h => h) ?_ hHeld ?_
          rotate_left
          · intro o ho
            simp at ho
            subst ho
            intro wz hSw
            try dsimp only at hSw
            go_simp
            try with_reducible rfl
          try simp only [Act.put, List.setIfInBounds_toArray, List.set_cons_zero, List.set_cons_succ]
          refine hand_take (i := 17) (d := some 115) (v := ?_) rfl (by kernel_rfl) (by kernel_rfl) (by kernel_rfl) (fun _ _ _ h => h) ?_ hHeld ?_
          rotate_left
          · intro o ho
            simp at ho
            subst ho
            intro wz hSw
            try dsimp only at hSw
            go_simp
            try with_reducible rfl
          try simp only [Act.put, List.setIfInBounds_toArray, List.set_cons_zero, List.set_cons_succ]
          refine hand_call (i := 16) rfl (by kernel_rfl) ?_
          intro o ho
          simp at ho
          subst ho
          intro K hK
          go_simp
          go_at_call 18
          refine (pPin_c p wa tr _ wd T3.out.a.n _ (hide rfl)).mono ?_
          rintro e w' ⟨rfl, hw'⟩
          rw [hw']
          clear hw' w'
          refine hK.out _ _ ?_ (fun hHeld => ?_)
          · exact hHeld
          clear hK K
          try simp only [Act.put, List.setIfInBounds_toArray, List.set_cons_zero, List.set_cons_succ]
          refine hand_call (i := 18) rfl (by kernel_rfl) ?_
          intro o ho
          simp at ho
          subst ho
          intro K hK
          go_simp
          go_at_call 19
          refine (rPin_c r wa tr _ wd T3.out.m _ (hide rfl)).mono ?_
          rintro e w' ⟨rfl, hw'⟩
          rw [hw']
          clear hw' w'
          refine hK.out _ _ ?_ (fun hHeld => ?_)
          · exact hHeld
          clear hK K
          try simp only [Act.put, List.setIfInBounds_toArray, List.set_cons_zero, List.set_cons_succ]
          refine hand_take (i := 19) (d := some 117) (v := .bool false) rfl (by kernel_rfl) (by kernel_rfl) (by kernel_rfl) (fun _ _ _ h => h) ?_ hHeld ?_
          · intro o ho
            simp at ho
            subst ho
            intro wz hSw
            try dsimp only at hSw
            go_simp
          try simp only [Act.put, List.setIfInBounds_toArray, List.set_cons_zero, List.set_cons_succ]
          refine hand_take (i := 20) (d := some 118) (v := .bool false) rfl (by kernel_rfl) (by kernel_rfl) (by kernel_rfl) (fun _ _ _ h => h) ?_ hHeld ?_
          · intro o ho
            simp at ho
            subst ho
            intro wz hSw
            try dsimp only at hSw
            go_simp
          try simp only [Act.put, List.setIfInBounds_toArray, List.set_cons_zero, List.set_cons_succ]
          refine wpAnyH_done (by kernel_rfl) (NoPanic.normal ?_) _
          clear hHeld
          go_wp2_with fail
          go_roundw
          case rel => exact ⟨j + 1, p, _, by omega, by simp, rfl, T3.out, by have := hk1; dsimp only at this ⊢; omega⟩
          case measure => simp [intOf]; omega
        by_cases k4 : yk = 4
        · subst k4
          clear k1 k2 k3
          go_wp2_with fail
          go_at_call 16
          refine (pCopy_c p wa tr P _ T1.out.a.n).mono ?_
          rintro e w3 ⟨c, rfl, h3, hc3, hb3⟩
          have T3 := hide (T1.out.quiet hb3)
          have C3 := hide (PEnv.first T1.out.a.bel h3 hc3 hb3)
          have ncp : c ≠ p := by have := T1.out.a.n.lt; omega
          have ncr : c ≠ r := by have := T1.out.m.lt; omega
          clear h3 hc3 hb3 T1 r0 r1 r2 r3
          go_wp2_with fail
          go_at_call 12
          refine (pFin_c p wa tr P _ T3.out.a.n hk9 _ (hide rfl) _ (hide rfl)).mono ?_
          rintro e w4 ⟨rfl, h4, f4⟩
          have T4 := hide (T3.out.prog h4 f4)
          have C4 := hide (C3.out.aside f4 T3.out.a.p0 ncp)
          clear h4 f4 T3 C3
          go_wp2_with fail
          go_at_call 10
          refine (pIss_c p wa tr _ ⟨99, false, 0⟩ _ T4.out.a.n _ (hide rfl)).mono ?_
          rintro e w5 ⟨rfl, h5, f5⟩
          have C5 := hide (C4.out.aside f5 T4.out.a.p0 ncp)
          have T := hide ((T4.out.prog h5 f5).turn C5.out ncr)
          clear h5 f5 T4 C4 C5
          have hk1 : P.k ≤ j + 1 := by omega
          obtain ⟨R, hR⟩ : ∃ R, P = R := ⟨_, rfl⟩
          rw [hR] at T hk1
          clear hR
          obtain ⟨k, l, t, o, ⟨xb, xw, xv⟩, busy⟩ := R
          obtain ⟨l', t', o', -, hob⟩ := T.out.m.ob
          replace hob := hide hob
          go_wp2_with fail
          go_at_call 17
          refine (pPend_c c wa tr _ _ T.out.a.n ⟨xb, xw, xv⟩ (hide rfl) busy (hide rfl)).mono ?_
          rintro e w21 ⟨rfl, hb21⟩
          have hb22 := hb21.trans ((belA w21 (opO ⟨xb, xw, xv⟩)).mono hb21.size)
          have T2 := hide (T.out.quiet hb22)
          obtain ⟨zl, z0, z1, z2⟩ := ops_new w21 ⟨xb, xw, xv⟩
          obtain ⟨yl, y0, y1, y2, y3, y4, y5, y6, y7, y8, y9, fy⟩ := rp_at ((hb22.block r T.out.m.lt).trans hob.out)
          clear hob T hb21 hb22 y0 y1 y2 y7 y8 y9 fy yl
          have zl' : w21.heap.size < (w21.alloc (opO ⟨xb, xw, xv⟩)).heap.size := zl
          dsimp only at z0 z1 z2
          go_wp2_with fail
          refine wp_region_noPanic ?_
          refine wp_region_held_drew (S := (fun w' => w'.cell? ⟨w21.heap.size, 0, none⟩ = some (.int .i64 xb) ∧ w'.cell? ⟨w21.heap.size, 1, none⟩ = some (.bool xw) ∧ w'.cell? ⟨w21.heap.size, 2, none⟩ = some (.int .i64 xv) ∧ w'.cell? ⟨r, 3, none⟩ = some (.int .i64 xb) ∧ w'.cell? ⟨r, 4, none⟩ = some (.bool xw) ∧ w'.cell? ⟨r, 5, none⟩ = some (.int .i64 xv) ∧ w'.cell? ⟨r, 6, none⟩ = some (.bool busy))) (by kernel_rfl) ?_ (fun hHeld => ?_)
          · exact ⟨z0, z1, z2, y3, y4, y5, y6⟩
          have T3 := hide (T2.out.quiet ((Below.refl _ _).drew))
          obtain ⟨wd, hwd⟩ : ∃ wd, (w21.alloc (opO ⟨xb, xw, xv⟩)).drew = wd := ⟨_, rfl⟩
          rw [hwd] at T3
          dsimp only [opO] at hwd
          rw [hwd] at hHeld ⊢
          clear hwd zl zl' z0 z1 z2 y3 y4 y5 y6 T2
          refine hand_take (i := 0) (d := some 98) (v := ?_) rfl (by kernel_rfl) (by kernel_rfl) (by kernel_rfl) (fun _ _ _ h => h) ?_ hHeld ?_
          rotate_left
          · intro o ho
            simp at ho
            subst ho
            intro wz hSw
            try dsimp only at hSw
            go_simp
            try with_reducible rfl
          try simp only [Act.put, List.setIfInBounds_toArray, List.set_cons_zero, List.set_cons_succ]
          refine hand_take (i := 1) (d := some 99) (v := ?_) rfl (by kernel_rfl) (by kernel_rfl) (by kernel_rfl) (fun _ _ _ h => h) ?_ hHeld ?_
          rotate_left
          · intro o ho
            simp at ho
            subst ho
            intro wz hSw
            try dsimp only at hSw
            go_simp
            try with_reducible rfl
          try simp only [Act.put, List.setIfInBounds_toArray, List.set_cons_zero, List.set_cons_succ]
          refine hand_take (i := 2) (d := some 100) (v := ?_) rfl (by kernel_rfl) (by kernel_rfl) (by kernel_rfl) (fun _ _ _ h => h) ?_ hHeld ?_
          rotate_left
          · intro o ho
            simp at ho
            subst ho
            intro wz hSw
            try dsimp only at hSw
            go_simp
            try with_reducible rfl
          try simp only [Act.put, List.setIfInBounds_toArray, List.set_cons_zero, List.set_cons_succ]
          refine hand_take (i := 3) (d := some 101) (v := ?_) rfl (by kernel_rfl) (by kernel_rfl) (by kernel_rfl) (fun _ _ _ h => h) ?_ hHeld ?_
          rotate_left
          · intro o ho
            simp at ho
            subst ho
            intro wz hSw
            try dsimp only at hSw
            go_simp
            try with_reducible rfl
          try simp only [Act.put, List.setIfInBounds_toArray, List.set_cons_zero, List.set_cons_succ]
          refine hand_take (i := 4) (d := some 102) (v := ?_) rfl (by kernel_rfl) (by kernel_rfl) (by kernel_rfl) (fun _ _ _ h => h) ?_ hHeld ?_
          rotate_left
          · intro o ho
            simp at ho
            subst ho
            intro wz hSw
            try dsimp only at hSw
            go_simp
            try with_reducible rfl
          try simp only [Act.put, List.setIfInBounds_toArray, List.set_cons_zero, List.set_cons_succ]
          refine hand_take (i := 5) (d := some 103) (v := .bool false) rfl (by kernel_rfl) (by kernel_rfl) (by kernel_rfl) (fun _ _ _ h => h) ?_ hHeld ?_
          · intro o ho
            simp at ho
            subst ho
            intro wz hSw
            try dsimp only at hSw
            go_simp
          try simp only [Act.put, List.setIfInBounds_toArray, List.set_cons_zero, List.set_cons_succ]
          refine hand_take (i := 6) (d := some 104) (v := ?_) rfl (by kernel_rfl) (by kernel_rfl) (by kernel_rfl) (fun _ _ _ h => h) ?_ hHeld ?_
          rotate_left
          · intro o ho
            simp at ho
            subst ho
            intro wz hSw
            try dsimp only at hSw
            go_simp
            try with_reducible rfl
          try simp only [Act.put, List.setIfInBounds_toArray, List.set_cons_zero, List.set_cons_succ]
          refine hand_take (i := 7) (d := some 105) (v := ?_) rfl (by kernel_rfl) (by kernel_rfl) (by kernel_rfl) (fun _ _ _ h => h) ?_ hHeld ?_
          rotate_left
          · intro o ho
            simp at ho
            subst ho
            intro wz hSw
            try dsimp only at hSw
            go_simp
            try with_reducible rfl
          try simp only [Act.put, List.setIfInBounds_toArray, List.set_cons_zero, List.set_cons_succ]
          refine hand_take (i := 8) (d := some 106) (v := ?_) rfl (by kernel_rfl) (by kernel_rfl) (by kernel_rfl) (fun _ _ _ h => h) ?_ hHeld ?_
          rotate_left
          · intro o ho
            simp at ho
            subst ho
            intro wz hSw
            try dsimp only at hSw
            go_simp
            try with_reducible rfl
          try simp only [Act.put, List.setIfInBounds_toArray, List.set_cons_zero, List.set_cons_succ]
          refine hand_take (i := 9) (d := some 107) (v := ?_) rfl (by kernel_rfl) (by kernel_rfl) (by kernel_rfl) (fun _ _ _ h => h) ?_ hHeld ?_
          rotate_left
          · intro o ho
            simp at ho
            subst ho
            intro wz hSw
            try dsimp only at hSw
            go_simp
            try with_reducible rfl
          try simp only [Act.put, List.setIfInBounds_toArray, List.set_cons_zero, List.set_cons_succ]
          refine hand_take (i := 10) (d := some 108) (v := ?_) rfl (by kernel_rfl) (by kernel_rfl) (by kernel_rfl) (fun _ _ _ h => h) ?_ hHeld ?_
          rotate_left
          · intro o ho
            simp at ho
            subst ho
            intro wz hSw
            try dsimp only at hSw
            go_simp
            try with_reducible rfl
          try simp only [Act.put, List.setIfInBounds_toArray, List.set_cons_zero, List.set_cons_succ]
          refine hand_take (i := 11) (d := some 109) (v := ?_) rfl (by kernel_rfl) (by kernel_rfl) (by kernel_rfl) (fun _ _ _ h => h) ?_ hHeld ?_
          rotate_left
          · intro o ho
            simp at ho
            subst ho
            intro wz hSw
            try dsimp only at hSw
            go_simp
            try with_reducible rfl
          try simp only [Act.put, List.setIfInBounds_toArray, List.set_cons_zero, List.set_cons_succ]
          refine hand_take (i := 12) (d := some 110) (v := .bool false) rfl (by kernel_rfl) (by kernel_rfl) (by kernel_rfl) (fun _ _ _ h => h) ?_ hHeld ?_
          · intro o ho
            simp at ho
            subst ho
            intro wz hSw
            try dsimp only at hSw
            go_simp
          try simp only [Act.put, List.setIfInBounds_toArray, List.set_cons_zero, List.set_cons_succ]
          refine hand_take (i := 13) (d := some 111) (v := .bool false) rfl (by kernel_rfl) (by kernel_rfl) (by kernel_rfl) (fun _ _ _ h => h) ?_ hHeld ?_
          · intro o ho
            simp at ho
            subst ho
            intro wz hSw
            try dsimp only at hSw
            go_simp
          try simp only [Act.put, List.setIfInBounds_toArray, List.set_cons_zero, List.set_cons_succ]
          refine hand_take (i := 14) (d := some 112) (v := ?_) rfl (by kernel_rfl) (by kernel_rfl) (by kernel_rfl) (fun _ _ _ h => h) ?_ hHeld ?_
          rotate_left
          · intro o ho
            simp at ho
            subst ho
            intro wz hSw
            try dsimp only at hSw
            go_simp
            try with_reducible rfl
          try simp only [Act.put, List.setIfInBounds_toArray, List.set_cons_zero, List.set_cons_succ]
          refine hand_take (i := 15) (d := some 113) (v := ?_) rfl (by kernel_rfl) (by kernel_rfl) (by kernel_rfl) (fun _ _ _ h => h) ?_ hHeld ?_
          rotate_left
          · intro o ho
            simp at ho
            subst ho
            intro wz hSw
            try dsimp only at hSw
            go_simp
            try with_reducible rfl
          try simp only [Act.put, List.setIfInBounds_toArray, List.set_cons_zero, List.set_cons_succ]
          refine hand_take (i := 17) (d := some 115) (v := ?_) rfl (by kernel_rfl) (by kernel_rfl) (by kernel_rfl) (fun _ _ _ h => h) ?_ hHeld ?_
          rotate_left
          · intro o ho
            simp at ho
            subst ho
            intro wz hSw
            try dsimp only at hSw
            go_simp
            try with_reducible rfl
          try simp only [Act.put, List.setIfInBounds_toArray, List.set_cons_zero, List.set_cons_succ]
          refine hand_call (i := 16) rfl (by kernel_rfl) ?_
          intro o ho
          simp at ho
          subst ho
          intro K hK
          go_simp
          go_at_call 18
          refine (pPin_c c wa tr _ wd T3.out.a.n _ (hide rfl)).mono ?_
          rintro e w' ⟨rfl, hw'⟩
          rw [hw']
          clear hw' w'
          refine hK.out _ _ ?_ (fun hHeld => ?_)
          · exact hHeld
          clear hK K
          try simp only [Act.put, List.setIfInBounds_toArray, List.set_cons_zero, List.set_cons_succ]
          refine hand_call (i := 18) rfl (by kernel_rfl) ?_
          intro o ho
          simp at ho
          subst ho
          intro K hK
          go_simp
          go_at_call 19
          refine (rPin_c r wa tr _ wd T3.out.m _ (hide rfl)).mono ?_
          rintro e w' ⟨rfl, hw'⟩
          rw [hw']
          clear hw' w'
          refine hK.out _ _ ?_ (fun hHeld => ?_)
          · exact hHeld
          clear hK K
          try simp only [Act.put, List.setIfInBounds_toArray, List.set_cons_zero, List.set_cons_succ]
          refine hand_take (i := 19) (d := some 117) (v := .bool false) rfl (by kernel_rfl) (by kernel_rfl) (by kernel_rfl) (fun _ _ _ h => h) ?_ hHeld ?_
          · intro o ho
            simp at ho
            subst ho
            intro wz hSw
            try dsimp only at hSw
            go_simp
          try simp only [Act.put, List.setIfInBounds_toArray, List.set_cons_zero, List.set_cons_succ]
          refine hand_take (i := 20) (d := some 118) (v := .bool false) rfl (by kernel_rfl) (by kernel_rfl) (by kernel_rfl) (fun _ _ _ h => h) ?_ hHeld ?_
          · intro o ho
            simp at ho
            subst ho
            intro wz hSw
            try dsimp only at hSw
            go_simp
          try simp only [Act.put, List.setIfInBounds_toArray, List.set_cons_zero, List.set_cons_succ]
          refine wpAnyH_done (by kernel_rfl) (NoPanic.normal ?_) _
          clear hHeld
          go_wp2_with fail
          go_roundw
          case rel => exact ⟨j + 1, c, _, by omega, by simp, rfl, T3.out, by have := hk1; dsimp only at this ⊢; omega⟩
          case measure => simp [intOf]; omega
        · have k1' : decide (yk = 1) = false ∧ (yk == 1) = false := ⟨by simpa using k1, by simpa using k1⟩
          have k2' : decide (yk = 2) = false ∧ (yk == 2) = false := ⟨by simpa using k2, by simpa using k2⟩
          have k3' : decide (yk = 3) = false ∧ (yk == 3) = false := ⟨by simpa using k3, by simpa using k3⟩
          have k4' : decide (yk = 4) = false ∧ (yk == 4) = false := ⟨by simpa using k4, by simpa using k4⟩
          replace k1 := hide k1
          replace k2 := hide k2
          replace k3 := hide k3
          replace k4 := hide k4
          have T := T1
          clear T1
          have hk1 : P.k ≤ j + 1 := by omega
          obtain ⟨R, hR⟩ : ∃ R, P = R := ⟨_, rfl⟩
          rw [hR] at T hk1
          clear hR
          obtain ⟨k, l, t, o, ⟨xb, xw, xv⟩, busy⟩ := R
          obtain ⟨l', t', o', -, hob⟩ := T.out.m.ob
          replace hob := hide hob
          go_wp2_with fail
          go_at_call 17
          refine (pPend_c p wa tr _ _ T.out.a.n ⟨xb, xw, xv⟩ (hide rfl) busy (hide rfl)).mono ?_
          rintro e w21 ⟨rfl, hb21⟩
          have hb22 := hb21.trans ((belA w21 (opO ⟨xb, xw, xv⟩)).mono hb21.size)
          have T2 := hide (T.out.quiet hb22)
          obtain ⟨zl, z0, z1, z2⟩ := ops_new w21 ⟨xb, xw, xv⟩
          obtain ⟨yl, y0, y1, y2, y3, y4, y5, y6, y7, y8, y9, fy⟩ := rp_at ((hb22.block r T.out.m.lt).trans hob.out)
          clear hob T hb21 hb22 y0 y1 y2 y7 y8 y9 fy yl
          have zl' : w21.heap.size < (w21.alloc (opO ⟨xb, xw, xv⟩)).heap.size := zl
          dsimp only at z0 z1 z2
          go_wp2_with fail
          refine wp_region_noPanic ?_
          refine wp_region_held_drew (S := (fun w' => w'.cell? ⟨w21.heap.size, 0, none⟩ = some (.int .i64 xb) ∧ w'.cell? ⟨w21.heap.size, 1, none⟩ = some (.bool xw) ∧ w'.cell? ⟨w21.heap.size, 2, none⟩ = some (.int .i64 xv) ∧ w'.cell? ⟨r, 3, none⟩ = some (.int .i64 xb) ∧ w'.cell? ⟨r, 4, none⟩ = some (.bool xw) ∧ w'.cell? ⟨r, 5, none⟩ = some (.int .i64 xv) ∧ w'.cell? ⟨r, 6, none⟩ = some (.bool busy))) (by kernel_rfl) ?_ (fun hHeld => ?_)
          · exact ⟨z0, z1, z2, y3, y4, y5, y6⟩
          have T3 := hide (T2.out.quiet ((Below.refl _ _).drew))
          obtain ⟨wd, hwd⟩ : ∃ wd, (w21.alloc (opO ⟨xb, xw, xv⟩)).drew = wd := ⟨_, rfl⟩
          rw [hwd] at T3
          dsimp only [opO] at hwd
          rw [hwd] at hHeld ⊢
          clear hwd zl zl' z0 z1 z2 y3 y4 y5 y6 T2
          refine hand_take (i := 0) (d := some 98) (v := ?_) rfl (by kernel_rfl) (by kernel_rfl) (by kernel_rfl) (fun _ _ _ h => h) ?_ hHeld ?_
          rotate_left
          · intro o ho
            simp at ho
            subst ho
            intro wz hSw
            try dsimp only at hSw
            go_simp
            try with_reducible rfl
          try simp only [Act.put, List.setIfInBounds_toArray, List.set_cons_zero, List.set_cons_succ]
          refine hand_take (i := 1) (d := some 99) (v := ?_) rfl (by kernel_rfl) (by kernel_rfl) (by kernel_rfl) (fun _ _ _ h => h) ?_ hHeld ?_
          rotate_left
          · intro o ho
            simp at ho
            subst ho
            intro wz hSw
            try dsimp only at hSw
            go_simp
            try with_reducible rfl
          try simp only [Act.put, List.setIfInBounds_toArray, List.set_cons_zero, List.set_cons_succ]
          refine hand_take (i := 2) (d := some 100) (v := ?_) rfl (by kernel_rfl) (by kernel_rfl) (by kernel_rfl) (fun _ _ _ h => h) ?_ hHeld ?_
          rotate_left
          · intro o ho
            simp at ho
            subst ho
            intro wz hSw
            try dsimp only at hSw
            go_simp
            try with_reducible rfl
          try simp only [Act.put, List.setIfInBounds_toArray, List.set_cons_zero, List.set_cons_succ]
          refine hand_take (i := 3) (d := some 101) (v := ?_) rfl (by kernel_rfl) (by kernel_rfl) (by kernel_rfl) (fun _ _ _ h => h) ?_ hHeld ?_
          rotate_left
          · intro o ho
            simp at ho
            subst ho
            intro wz hSw
            try dsimp only at hSw
            go_simp
            try with_reducible rfl
          try simp only [Act.put, List.setIfInBounds_toArray, List.set_cons_zero, List.set_cons_succ]
          refine hand_take (i := 4) (d := some 102) (v := ?_) rfl (by kernel_rfl) (by kernel_rfl) (by kernel_rfl) (fun _ _ _ h => h) ?_ hHeld ?_
          rotate_left
          · intro o ho
            simp at ho
            subst ho
            intro wz hSw
            try dsimp only at hSw
            go_simp
            try with_reducible rfl
          try simp only [Act.put, List.setIfInBounds_toArray, List.set_cons_zero, List.set_cons_succ]
          refine hand_take (i := 5) (d := some 103) (v := .bool false) rfl (by kernel_rfl) (by kernel_rfl) (by kernel_rfl) (fun _ _ _ h => h) ?_ hHeld ?_
          · intro o ho
            simp at ho
            subst ho
            intro wz hSw
            try dsimp only at hSw
            go_simp
          try simp only [Act.put, List.setIfInBounds_toArray, List.set_cons_zero, List.set_cons_succ]
          refine hand_take (i := 6) (d := some 104) (v := ?_) rfl (by kernel_rfl) (by kernel_rfl) (by kernel_rfl) (fun _ _ _ h => h) ?_ hHeld ?_
          rotate_left
          · intro o ho
            simp at ho
            subst ho
            intro wz hSw
            try dsimp only at hSw
            go_simp
            try with_reducible rfl
          try simp only [Act.put, List.setIfInBounds_toArray, List.set_cons_zero, List.set_cons_succ]
          refine hand_take (i := 7) (d := some 105) (v := ?_) rfl (by kernel_rfl) (by kernel_rfl) (by kernel_rfl) (fun _ _ _ h => h) ?_ hHeld ?_
          rotate_left
          · intro o ho
            simp at ho
            subst ho
            intro wz hSw
            try dsimp only at hSw
            go_simp
            try with_reducible rfl
          try simp only [Act.put, List.setIfInBounds_toArray, List.set_cons_zero, List.set_cons_succ]
          refine hand_take (i := 8) (d := some 106) (v := ?_) rfl (by kernel_rfl) (by kernel_rfl) (by kernel_rfl) (fun _ _ _ h => h) ?_ hHeld ?_
          rotate_left
          · intro o ho
            simp at ho
            subst ho
            intro wz hSw
            try dsimp only at hSw
            go_simp
            try with_reducible rfl
          try simp only [Act.put, List.setIfInBounds_toArray, List.set_cons_zero, List.set_cons_succ]
          refine hand_take (i := 9) (d := some 107) (v := ?_) rfl (by kernel_rfl) (by kernel_rfl) (by kernel_rfl) (fun _ _ _ h => h) ?_ hHeld ?_
          rotate_left
          · intro o ho
            simp at ho
            subst ho
            intro wz hSw
            try dsimp only at hSw
            go_simp
            try with_reducible rfl
          try simp only [Act.put, List.setIfInBounds_toArray, List.set_cons_zero, List.set_cons_succ]
          refine hand_take (i := 10) (d := some 108) (v := ?_) rfl (by kernel_rfl) (by kernel_rfl) (by kernel_rfl) (fun _ _ _ h => h) ?_ hHeld ?_
          rotate_left
          · intro o ho
            simp at ho
            subst ho
            intro wz hSw
            try dsimp only at hSw
            go_simp
            try with_reducible rfl
          try simp only [Act.put, List.setIfInBounds_toArray, List.set_cons_zero, List.set_cons_succ]
          refine hand_take (i := 11) (d := some 109) (v := ?_) rfl (by kernel_rfl) (by kernel_rfl) (by kernel_rfl) (fun _ _ _ h => h) ?_ hHeld ?_
          rotate_left
          · intro o ho
            simp at ho
            subst ho
            intro wz hSw
            try dsimp only at hSw
            go_simp
            try with_reducible rfl
          try simp only [Act.put, List.setIfInBounds_toArray, List.set_cons_zero, List.set_cons_succ]
          refine hand_take (i := 12) (d := some 110) (v := .bool false) rfl (by kernel_rfl) (by kernel_rfl) (by kernel_rfl) (fun _ _ _ h => h) ?_ hHeld ?_
          · intro o ho
            simp at ho
            subst ho
            intro wz hSw
            try dsimp only at hSw
            go_simp
          try simp only [Act.put, List.setIfInBounds_toArray, List.set_cons_zero, List.set_cons_succ]
          refine hand_take (i := 13) (d := some 111) (v := .bool false) rfl (by kernel_rfl) (by kernel_rfl) (by kernel_rfl) (fun _ _ _ h => h) ?_ hHeld ?_
          · intro o ho
            simp at ho
            subst ho
            intro wz hSw
            try dsimp only at hSw
            go_simp
          try simp only [Act.put, List.setIfInBounds_toArray, List.set_cons_zero, List.set_cons_succ]
          refine hand_take (i := 14) (d := some 112) (v := ?_) rfl (by kernel_rfl) (by kernel_rfl) (by kernel_rfl) (fun _ _ _ h => h) ?_ hHeld ?_
          rotate_left
          · intro o ho
            simp at ho
            subst ho
            intro wz hSw
            try dsimp only at hSw
            go_simp
            try with_reducible rfl
          try simp only [Act.put, List.setIfInBounds_toArray, List.set_cons_zero, List.set_cons_succ]
          refine hand_take (i := 15) (d := some 113) (v := ?_) rfl (by kernel_rfl) (by kernel_rfl) (by kernel_rfl) (fun _ _ _ h => h) ?_ hHeld ?_
          rotate_left
          · intro o ho
            simp at ho
            subst ho
            intro wz hSw
            try dsimp only at hSw
            go_simp
            try with_reducible rfl
          try simp only [Act.put, List.setIfInBounds_toArray, List.set_cons_zero, List.set_cons_succ]
          refine hand_take (i := 17) (d := some 115) (v := ?_) rfl (by kernel_rfl) (by kernel_rfl) (by kernel_rfl) (fun _ _ _ h => h) ?_ hHeld ?_
          rotate_left
          · intro o ho
            simp at ho
            subst ho
            intro wz hSw
            try dsimp only at hSw
            go_simp
            try with_reducible rfl
          try simp only [Act.put, List.setIfInBounds_toArray, List.set_cons_zero, List.set_cons_succ]
          refine hand_call (i := 16) rfl (by kernel_rfl) ?_
          intro o ho
          simp at ho
          subst ho
          intro K hK
          go_simp
          go_at_call 18
          refine (pPin_c p wa tr _ wd T3.out.a.n _ (hide rfl)).mono ?_
          rintro e w' ⟨rfl, hw'⟩
          rw [hw']
          clear hw' w'
          refine hK.out _ _ ?_ (fun hHeld => ?_)
          · exact hHeld
          clear hK K
          try simp only [Act.put, List.setIfInBounds_toArray, List.set_cons_zero, List.set_cons_succ]
          refine hand_call (i := 18) rfl (by kernel_rfl) ?_
          intro o ho
          simp at ho
          subst ho
          intro K hK
          go_simp
          go_at_call 19
          refine (rPin_c r wa tr _ wd T3.out.m _ (hide rfl)).mono ?_
          rintro e w' ⟨rfl, hw'⟩
          rw [hw']
          clear hw' w'
          refine hK.out _ _ ?_ (fun hHeld => ?_)
          · exact hHeld
          clear hK K
          try simp only [Act.put, List.setIfInBounds_toArray, List.set_cons_zero, List.set_cons_succ]
          refine hand_take (i := 19) (d := some 117) (v := .bool false) rfl (by kernel_rfl) (by kernel_rfl) (by kernel_rfl) (fun _ _ _ h => h) ?_ hHeld ?_
          · intro o ho
            simp at ho
            subst ho
            intro wz hSw
            try dsimp only at hSw
            go_simp
          try simp only [Act.put, List.setIfInBounds_toArray, List.set_cons_zero, List.set_cons_succ]
          refine hand_take (i := 20) (d := some 118) (v := .bool false) rfl (by kernel_rfl) (by kernel_rfl) (by kernel_rfl) (fun _ _ _ h => h) ?_ hHeld ?_
          · intro o ho
            simp at ho
            subst ho
            intro wz hSw
            try dsimp only at hSw
            go_simp
          try simp only [Act.put, List.setIfInBounds_toArray, List.set_cons_zero, List.set_cons_succ]
          refine wpAnyH_done (by kernel_rfl) (NoPanic.normal ?_) _
          clear hHeld
          go_wp2_with fail
          go_roundw
          case rel => exact ⟨j + 1, p, _, by omega, by simp, rfl, T3.out, by have := hk1; dsimp only at this ⊢; omega⟩
          case measure => simp [intOf]; omega
      · go_wp2_with fail
        go_ret
        exact ⟨rfl, T0.out.a.bel⟩
end Go.Proofs.Ytmdioofpghbjbaa
