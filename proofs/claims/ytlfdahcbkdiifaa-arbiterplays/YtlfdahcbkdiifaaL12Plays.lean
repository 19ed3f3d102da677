/- The walk of ArbiterPlays: it returns true; no old memory turns (layer 12). -/
import Derived.Test.YtlfdahcbkdiifaaCmp12
import Derived.Test.YtlfdahcbkdiifaaPd12
namespace Go.Proofs.Ytlfdahcbkdiifaa
open Go.ChangeShapes Go.WideShapes Go.ChangeAt Go.RowKit
set_option linter.unusedSimpArgs false
set_option linter.unusedVariables false
set_option maxRecDepth 10000

attribute [local go_sem, local simp] over_const setCell_drewN alloc_drewN Over.cell Over.frozen lt_s1 lt_s2 lt_s3 le_s0 le_s1 le_s2 le_s3 eq_s0 eq_s1 eq_s2 qe_s0



set_option maxHeartbeats 8000000 in
theorem ArbiterPlays_walk (s t : Int) (v1 : Value) (A : List Ac) (ask : Int) (w : World) (h1 : ActsAt w.heap.size w v1 A) : Calls Try.prog 3 #[.agg #[.int .i64 s, .int .i64 t], v1, .int .i64 ask] w fun e w' => e = .returned (.bool true) ∧ Below w.heap.size w w' := by
  have hA := hide (h1.below (belA w (szO s t)))
  obtain ⟨ao, cap, rfl, hlc, hmx, _⟩ := h1
  have hma : A.length ≤ 9223372036854775807 := by unfold maxLen at hmx; omega
  clear hmx
  have hW : Hid (Below w.heap.size w (w.alloc (szO s t))) := hide (belA w _)
  go_enter Try.func3, Try.ntmps3
  go_wp2_with fail
  go_at_call 9
  refine (awake12_any _).mono ?_
  rintro e w1 ⟨rfl, hB1⟩
  obtain ⟨z0, z1⟩ := sz_cells hB1
  replace hB1 := hide hB1
  by_cases ca : 100 < (A.length : Int)
  · go_wp2_with fail
    go_at_call 9
    refine (awake12_any _).mono ?_
    rintro e w9 ⟨rfl, hb9⟩
    replace hb9 := hide hb9
    go_wp2_with fail
    go_ret
    exact ⟨rfl, (unhide hW).trans (((unhide hB1).trans ((unhide hb9).mono (unhide hB1).size)).mono (unhide hW).size)⟩
  obtain ⟨N, hN⟩ : ∃ N, Hid (szQ s = N) := ⟨_, rfl⟩
  obtain ⟨n, hn⟩ : ∃ n, Hid (szQ t = n) := ⟨_, rfl⟩
  go_wp2_with fail
  refine wp_region_noPanic ?_
  refine wp_region_held_drew (S := (fun w' => w'.cell? ⟨w.heap.size, 0, none⟩ = some (.int .i64 s) ∧ w'.cell? ⟨w.heap.size, 1, none⟩ = some (.int .i64 t))) (by kernel_rfl) ?_ (fun hHeld => ?_)
  · exact ⟨z0, z1⟩
  refine hand_take (i := 0) (d := some 39) (v := ?_) rfl (by kernel_rfl) (by kernel_rfl) (by kernel_rfl) (fun _ _ _ h => h) ?_ hHeld ?_
  rotate_left
  · intro o ho
    simp at ho
    subst ho
    intro wz hSw
    try dsimp only at hSw
    go_simp
    try with_reducible rfl
  try simp only [Act.put, List.setIfInBounds_toArray, List.set_cons_zero, List.set_cons_succ]
  refine hand_take (i := 1) (d := some 40) (v := ?_) rfl (by kernel_rfl) (by kernel_rfl) (by kernel_rfl) (fun _ _ _ h => h) ?_ hHeld ?_
  rotate_left
  · intro o ho
    simp at ho
    subst ho
    intro wz hSw
    try dsimp only at hSw
    go_simp
    try with_reducible rfl
  try simp only [Act.put, List.setIfInBounds_toArray, List.set_cons_zero, List.set_cons_succ]
  refine hand_take (i := 2) (d := some 41) (v := ?_) rfl (by kernel_rfl) (by kernel_rfl) (by kernel_rfl) (fun _ _ _ h => h) ?_ hHeld ?_
  rotate_left
  · intro o ho
    simp at ho
    subst ho
    intro wz hSw
    try dsimp only at hSw
    go_simp
    try with_reducible rfl
  try simp only [Act.put, List.setIfInBounds_toArray, List.set_cons_zero, List.set_cons_succ]
  refine hand_take (i := 3) (d := some 42) (v := ?_) rfl (by kernel_rfl) (by kernel_rfl) (by kernel_rfl) (fun _ _ _ h => h) ?_ hHeld ?_
  rotate_left
  · intro o ho
    simp at ho
    subst ho
    intro wz hSw
    try dsimp only at hSw
    go_simp
    try with_reducible rfl
  try simp only [Act.put, List.setIfInBounds_toArray, List.set_cons_zero, List.set_cons_succ]
  refine hand_take (i := 5) (d := some 44) (v := ?_) rfl (by kernel_rfl) (by kernel_rfl) (by kernel_rfl) (fun _ _ _ h => h) ?_ hHeld ?_
  rotate_left
  · intro o ho
    simp at ho
    subst ho
    intro wz hSw
    try dsimp only at hSw
    go_simp
    try with_reducible rfl
  try simp only [Act.put, List.setIfInBounds_toArray, List.set_cons_zero, List.set_cons_succ]
  refine hand_take (i := 6) (d := some 45) (v := ?_) rfl (by kernel_rfl) (by kernel_rfl) (by kernel_rfl) (fun _ _ _ h => h) ?_ hHeld ?_
  rotate_left
  · intro o ho
    simp at ho
    subst ho
    intro wz hSw
    try dsimp only at hSw
    go_simp
    try with_reducible rfl
  try simp only [Act.put, List.setIfInBounds_toArray, List.set_cons_zero, List.set_cons_succ]
  refine hand_take (i := 7) (d := some 46) (v := ?_) rfl (by kernel_rfl) (by kernel_rfl) (by kernel_rfl) (fun _ _ _ h => h) ?_ hHeld ?_
  rotate_left
  · intro o ho
    simp at ho
    subst ho
    intro wz hSw
    try dsimp only at hSw
    go_simp
    try with_reducible rfl
  try simp only [Act.put, List.setIfInBounds_toArray, List.set_cons_zero, List.set_cons_succ]
  refine hand_take (i := 8) (d := some 47) (v := ?_) rfl (by kernel_rfl) (by kernel_rfl) (by kernel_rfl) (fun _ _ _ h => h) ?_ hHeld ?_
  rotate_left
  · intro o ho
    simp at ho
    subst ho
    intro wz hSw
    try dsimp only at hSw
    go_simp
    try with_reducible rfl
  try simp only [Act.put, List.setIfInBounds_toArray, List.set_cons_zero, List.set_cons_succ]
  refine hand_call (i := 4) rfl (by kernel_rfl) ?_
  intro o ho
  simp at ho
  subst ho
  intro K hK
  go_simp
  go_at_call 10
  refine (aNew_c s t w1.drew N n hN hn).mono ?_
  rintro e w2 ⟨p, rfl, g, F2, h2, hf2, hp2, hb2⟩
  have E2 := hide (AEnv.first (unhide hB1).drew h2 hf2 hp2 hb2)
  clear h2 hf2 hp2 hb2 z0 z1
  obtain ⟨z0, z1⟩ := sz_cells E2.out.bel
  refine hK.out _ _ ?_ (fun hHeld => ?_)
  · exact ⟨z0, z1⟩
  clear hK K
  try simp only [Act.put, List.setIfInBounds_toArray, List.set_cons_zero, List.set_cons_succ]
  refine hand_call (i := 9) rfl (by kernel_rfl) ?_
  intro o ho
  simp at ho
  subst ho
  intro K hK
  go_simp
  go_at_call 11
  refine (dNew_c s t w2 N n hN hn).mono ?_
  rintro e w3 ⟨q, rfl, h, F3, h3, hf3, hp3, hb3⟩
  have P3 := hide (PD.first E2.out h3 hf3 hp3 hb3)
  clear h3 hf3 hp3 hb3 E2 z0 z1 hB1
  obtain ⟨z0, z1⟩ := sz_cells P3.out.a.bel
  refine hK.out _ _ ?_ (fun hHeld => ?_)
  · exact ⟨z0, z1⟩
  clear hK K
  try simp only [Act.put, List.setIfInBounds_toArray, List.set_cons_zero, List.set_cons_succ]
  clear z0 z1
  refine hand_take (i := 10) (d := some 7) (v := ?_) rfl (by kernel_rfl) (by kernel_rfl) (by kernel_rfl) (fun _ _ _ h => h) ?_ hHeld ?_
  rotate_left
  · intro o ho
    simp at ho
    subst ho
    intro wz hSw
    try dsimp only at hSw
    go_simp
    try with_reducible rfl
  try simp only [Act.put, List.setIfInBounds_toArray, List.set_cons_zero, List.set_cons_succ]
  refine hand_take (i := 11) (d := some 8) (v := ?_) rfl (by kernel_rfl) (by kernel_rfl) (by kernel_rfl) (fun _ _ _ h => h) ?_ hHeld ?_
  rotate_left
  · intro o ho
    simp at ho
    subst ho
    intro wz hSw
    try dsimp only at hSw
    go_simp
    try with_reducible rfl
  try simp only [Act.put, List.setIfInBounds_toArray, List.set_cons_zero, List.set_cons_succ]
  refine wpAnyH_done (by kernel_rfl) (NoPanic.normal ?_) _
  clear hHeld
  go_wp2_with fail
  go_loopw [53, 7] (fun i av wr => ∃ j : Nat, j ≤ A.length ∧ i = .int .i64 j ∧ ∃ p g L F F', av = ptr p ∧ PD (w.alloc (szO s t)) wr p g N (70 * j) L F q h (70 * j) L F') (fun i _ _ => A.length - (intOf i).toNat)
  case atStart => exact ⟨0, Nat.zero_le _, rfl, p, _, _, _, _, rfl, P3.out⟩
  case round =>
    obtain ⟨j, hj, rfl, p1, g1, L, F, F', rfl, P1⟩ := hrel
    clear P3
    by_cases hlt : j < A.length
    · have hlt' : (j : Int) < A.length := by omega
      obtain ⟨b, o1, rfl, hbB, hbl, -, r0, r1, r2, r3⟩ := acts_row (hA.out.below (P1.a.bel.mono (by simp))) hlt
      generalize A[j] = x at r0 r1 r2 r3
      obtain ⟨k, xb, xs, xn⟩ := x
      have nXF : ¬ F wr.heap.size := fun e => by have := P1.a.n.lt _ e; omega
      have nXG : ¬ F' wr.heap.size := fun e => by have := P1.d.lt _ e; omega
      have P3 := hide (P1.quiet (belA wr (actsO ⟨k, xb, xs, xn⟩)))
      have hX := xat_new wr ⟨k, xb, xs, xn⟩
      have P1l := P1.a.n.pl
      have P1q := P1.d.ql
      have P1s := P1.a.bel.size
      clear P1
      by_cases k1 : k = 1
      · subst k1
        as_aux_lemma =>
          obtain ⟨a, ha⟩ : ∃ a, Hid (atAsk N L xb xn = a) := ⟨_, rfl⟩
          obtain ⟨ok, hok⟩ : ∃ ok, Hid (okAsk N L xb xn = ok) := ⟨_, rfl⟩
          go_wp2_with fail
          go_at_call 12
          refine (aAsk_c p1 g1 N (70 * j) L F xb xn _ P3.out.a.n (by omega) a ha ok hok).mono ?_
          rintro e w4 ⟨rfl, F4, h4, s4⟩
          have P4 := hide ((P3.out.prog h4 s4).quiet (belA w4 (atsO a)))
          have n4 := hide (ats_new w4 a)
          have nF4 : ¬ F' w4.heap.size := fun e => by have := (P3.out.prog h4 s4).d.lt _ e; omega
          have hX4 := hX.trans2 (s4.keep nXF hX.lt).1 (Below.heap_alloc _ (atsO a) _ (Nat.lt_of_lt_of_le hX.lt s4.fr.size))
          have nX4 : ¬ F4 wr.heap.size := (s4.keep nXF hX.lt).2.1
          obtain ⟨z0, z1, z2, z3⟩ := hX4.cells
          clear h4 s4 P3 nXF hX
          go_wp2_with fail
          go_at_call 13
          refine (dAsk_c q h N (70 * j) L F' xb xn _ P4.out.d (by omega) a ha ok hok).mono ?_
          rintro e w5 ⟨rfl, F5, h5, s5⟩
          have P5 := hide ((P4.out.doc h5 s5).quiet (belA w5 (atsO a)))
          have hX5 := hX4.trans2 (s5.keep nXG hX4.lt).1 (Below.heap_alloc _ (atsO a) _ (Nat.lt_of_lt_of_le hX4.lt s5.fr.size))
          have nX5 : ¬ F5 wr.heap.size := (s5.keep nXG hX4.lt).2.1
          obtain ⟨y9, y0, y1, y2⟩ := n4.out.carry (s5.keep nF4 n4.out.lt).1
          clear h5 s5 P4 n4 nF4 z0 z1 z2 z3 nXG hX4
          have P9 := hide (P5.out.mono (K := 70 * (j + 1)) (by omega))
          clear P5
          obtain ⟨a, ha⟩ : ∃ a, Hid (atCur (nxAsk N L xb xn) ask = a) := ⟨_, rfl⟩
          obtain ⟨ok, hok⟩ : ∃ ok, Hid (okCur (nxAsk N L xb xn) ask = ok) := ⟨_, rfl⟩
          obtain ⟨T, hT⟩ : ∃ T, Hid (wtsQ (nxAsk N L xb xn) ask = T) := ⟨_, rfl⟩
          go_wp2_with fail
          go_at_call 20
          refine (aCur_c p1 _ _ _ (nxAsk N L xb xn) _ ask _ P9.out.a.n a ha ok hok).mono ?_
          rintro e w21 ⟨rfl, hb21⟩
          have hb22 := hb21.trans ((belA w21 (atsO a)).mono hb21.size)
          have P22 := hide (P9.out.quiet hb22)
          have n22 := hide (ats_new w21 a)
          clear hb21 hb22 P9
          go_wp2_with fail
          go_at_call 14
          refine (dCur_c q _ _ _ (nxAsk N L xb xn) _ ask _ P22.out.d (by omega) a ha ok hok).mono ?_
          rintro e w23 ⟨rfl, hb23⟩
          have hb24 := hb23.trans ((belA w23 (atsO a)).mono hb23.size)
          have P24 := hide (P22.out.quiet hb24)
          obtain ⟨y9, y0, y1, y2⟩ := n22.out.below hb23
          clear hb23 hb24 P22 n22
          go_wp2_with fail
          go_at_call 22
          refine (aWait_c p1 _ _ _ (nxAsk N L xb xn) _ ask _ P24.out.a.n (by omega)).mono ?_
          rintro e w25 ⟨v25, rfl, ob25, hW25, -, hb25⟩
          have P25 := hide (P24.out.quiet hb25)
          rw [hT.out] at hW25
          obtain ⟨b25, V25⟩ := hW25.view
          replace V25 := hide V25
          clear hW25 hb25 P24 y9 y0 y1 y2
          go_wp2_with fail
          go_at_call 23
          refine (dWait_c q _ _ _ (nxAsk N L xb xn) _ ask _ P25.out.d (by omega)).mono ?_
          rintro e w26 ⟨v26, rfl, b26, V26, hb26⟩
          have P26 := hide (P25.out.quiet hb26)
          rw [hT.out] at V26
          have V27 := hide (V25.out.below hb26)
          replace V26 := hide V26
          clear hb26 P25 V25
          go_wp2_with fail
          go_at_call 21
          refine (ints_c _ _ _ _ T T _ V27.out V26.out).mono ?_
          rw [show decide (T = T) = true by simp]
          rintro e w28 ⟨rfl, nq, rfl⟩
          have P28 := hide (P26.out.quiet (belD w26 nq))
          clear P26 V26 V27
          go_wp2_with fail
          go_roundw
          case rel => exact ⟨j + 1, by omega, by simp, p1, _, _, _, _, rfl, P28.out.mono (by omega)⟩
          case measure => simp [intOf]; omega
      by_cases k3 : k = 3
      · subst k3
        as_aux_lemma =>
          obtain ⟨a, ha⟩ : ∃ a, Hid (atAck N L xb xs xn = a) := ⟨_, rfl⟩
          obtain ⟨ok, hok⟩ : ∃ ok, Hid (okAck N L xb xs xn = ok) := ⟨_, rfl⟩
          go_wp2_with fail
          go_at_call 17
          refine (aAck_c p1 g1 N (70 * j) L F xb xs xn _ P3.out.a.n (by omega) a ha ok hok).mono ?_
          rintro e w4 ⟨rfl, F4, h4, s4⟩
          have P4 := hide ((P3.out.prog h4 s4).quiet (belA w4 (atsO a)))
          have n4 := hide (ats_new w4 a)
          have nF4 : ¬ F' w4.heap.size := fun e => by have := (P3.out.prog h4 s4).d.lt _ e; omega
          have hX4 := hX.trans2 (s4.keep nXF hX.lt).1 (Below.heap_alloc _ (atsO a) _ (Nat.lt_of_lt_of_le hX.lt s4.fr.size))
          have nX4 : ¬ F4 wr.heap.size := (s4.keep nXF hX.lt).2.1
          obtain ⟨z0, z1, z2, z3⟩ := hX4.cells
          clear h4 s4 P3 nXF hX
          go_wp2_with fail
          go_at_call 18
          refine (dAck_c q h N (70 * j) L F' xb xs xn _ P4.out.d (by omega) a ha ok hok).mono ?_
          rintro e w5 ⟨rfl, F5, h5, s5⟩
          have P5 := hide ((P4.out.doc h5 s5).quiet (belA w5 (atsO a)))
          have hX5 := hX4.trans2 (s5.keep nXG hX4.lt).1 (Below.heap_alloc _ (atsO a) _ (Nat.lt_of_lt_of_le hX4.lt s5.fr.size))
          have nX5 : ¬ F5 wr.heap.size := (s5.keep nXG hX4.lt).2.1
          obtain ⟨y9, y0, y1, y2⟩ := n4.out.carry (s5.keep nF4 n4.out.lt).1
          clear h5 s5 P4 n4 nF4 z0 z1 z2 z3 nXG hX4
          have P9 := hide (P5.out.mono (K := 70 * (j + 1)) (by omega))
          clear P5
          obtain ⟨a, ha⟩ : ∃ a, Hid (atCur (nxAck N L xb xs xn) ask = a) := ⟨_, rfl⟩
          obtain ⟨ok, hok⟩ : ∃ ok, Hid (okCur (nxAck N L xb xs xn) ask = ok) := ⟨_, rfl⟩
          obtain ⟨T, hT⟩ : ∃ T, Hid (wtsQ (nxAck N L xb xs xn) ask = T) := ⟨_, rfl⟩
          go_wp2_with fail
          go_at_call 20
          refine (aCur_c p1 _ _ _ (nxAck N L xb xs xn) _ ask _ P9.out.a.n a ha ok hok).mono ?_
          rintro e w21 ⟨rfl, hb21⟩
          have hb22 := hb21.trans ((belA w21 (atsO a)).mono hb21.size)
          have P22 := hide (P9.out.quiet hb22)
          have n22 := hide (ats_new w21 a)
          clear hb21 hb22 P9
          go_wp2_with fail
          go_at_call 14
          refine (dCur_c q _ _ _ (nxAck N L xb xs xn) _ ask _ P22.out.d (by omega) a ha ok hok).mono ?_
          rintro e w23 ⟨rfl, hb23⟩
          have hb24 := hb23.trans ((belA w23 (atsO a)).mono hb23.size)
          have P24 := hide (P22.out.quiet hb24)
          obtain ⟨y9, y0, y1, y2⟩ := n22.out.below hb23
          clear hb23 hb24 P22 n22
          go_wp2_with fail
          go_at_call 22
          refine (aWait_c p1 _ _ _ (nxAck N L xb xs xn) _ ask _ P24.out.a.n (by omega)).mono ?_
          rintro e w25 ⟨v25, rfl, ob25, hW25, -, hb25⟩
          have P25 := hide (P24.out.quiet hb25)
          rw [hT.out] at hW25
          obtain ⟨b25, V25⟩ := hW25.view
          replace V25 := hide V25
          clear hW25 hb25 P24 y9 y0 y1 y2
          go_wp2_with fail
          go_at_call 23
          refine (dWait_c q _ _ _ (nxAck N L xb xs xn) _ ask _ P25.out.d (by omega)).mono ?_
          rintro e w26 ⟨v26, rfl, b26, V26, hb26⟩
          have P26 := hide (P25.out.quiet hb26)
          rw [hT.out] at V26
          have V27 := hide (V25.out.below hb26)
          replace V26 := hide V26
          clear hb26 P25 V25
          go_wp2_with fail
          go_at_call 21
          refine (ints_c _ _ _ _ T T _ V27.out V26.out).mono ?_
          rw [show decide (T = T) = true by simp]
          rintro e w28 ⟨rfl, nq, rfl⟩
          have P28 := hide (P26.out.quiet (belD w26 nq))
          clear P26 V26 V27
          go_wp2_with fail
          go_roundw
          case rel => exact ⟨j + 1, by omega, by simp, p1, _, _, _, _, rfl, P28.out.mono (by omega)⟩
          case measure => simp [intOf]; omega
      by_cases k2 : k = 2
      · subst k2
        as_aux_lemma =>
          obtain ⟨a4, ha4⟩ : ∃ a4, Hid (atCur L xb = a4) := ⟨_, rfl⟩
          obtain ⟨ok4, hok4⟩ : ∃ ok4, Hid (okCur L xb = ok4) := ⟨_, rfl⟩
          go_wp2_with fail
          go_at_call 14
          refine (dCur_c q h N (70 * j) L F' xb _ P3.out.d (by omega) a4 ha4 ok4 hok4).mono ?_
          rintro e w4 ⟨rfl, hb4⟩
          obtain ⟨z0, z1, z2, z3⟩ := (hX.below hb4).cells
          have zf := (hX.below hb4).fro
          have zl := (hX.below hb4).lt
          cases ok4 with
          | false =>
            obtain ⟨okd, hokd⟩ : ∃ okd, Hid (okDone L xb xs = okd) := ⟨_, rfl⟩
            go_wp2_with fail
            refine name_world ?_
            intro W hWe
            have hXW : XAt W wr.heap.size ⟨2, xb, xs, xn⟩ := by rw [← hWe]; (exact (hX.below hb4).below (belA _ _))
            have P5 : Hid (PD (w.alloc (szO s t)) W p1 g1 N (70 * j) L F q h (70 * j) L F') := by rw [← hWe]; (exact hide ((P3.out.quiet hb4).quiet (belA _ _)))
            clear hWe z0 z1 z2 z3 zf zl hX P3 hb4
            obtain ⟨z0, z1, z2, z3⟩ := hXW.cells
            have P6 := hide (P5.out.quiet (Below.refl _ _).drew)
            have hX6 : XAt W.drew wr.heap.size ⟨2, xb, xs, xn⟩ := hXW
            clear P5 hXW
            go_wp2_with fail
            refine wp_region_noPanic ?_
            refine wp_region_held_drew (S := (fun w' => w'.cell? ⟨wr.heap.size, 1, none⟩ = some (.int .i64 xb) ∧ w'.cell? ⟨wr.heap.size, 2, none⟩ = some (.int .i64 xs))) (by kernel_rfl) ?_ (fun hHeld => ?_)
            · exact ⟨z1, z2⟩
            refine hand_take (i := 0) (d := some 106) (v := ?_) rfl (by kernel_rfl) (by kernel_rfl) (by kernel_rfl) (fun _ _ _ h => h) ?_ hHeld ?_
            rotate_left
            · intro o ho
              simp at ho
              subst ho
              intro wz hSw
              try dsimp only at hSw
              go_simp
              try with_reducible rfl
            try simp only [Act.put, List.setIfInBounds_toArray, List.set_cons_zero, List.set_cons_succ]
            refine hand_take (i := 1) (d := some 107) (v := ?_) rfl (by kernel_rfl) (by kernel_rfl) (by kernel_rfl) (fun _ _ _ h => h) ?_ hHeld ?_
            rotate_left
            · intro o ho
              simp at ho
              subst ho
              intro wz hSw
              try dsimp only at hSw
              go_simp
              try with_reducible rfl
            try simp only [Act.put, List.setIfInBounds_toArray, List.set_cons_zero, List.set_cons_succ]
            refine hand_take (i := 2) (d := some 108) (v := ?_) rfl (by kernel_rfl) (by kernel_rfl) (by kernel_rfl) (fun _ _ _ h => h) ?_ hHeld ?_
            rotate_left
            · intro o ho
              simp at ho
              subst ho
              intro wz hSw
              try dsimp only at hSw
              go_simp
              try with_reducible rfl
            try simp only [Act.put, List.setIfInBounds_toArray, List.set_cons_zero, List.set_cons_succ]
            refine hand_take (i := 3) (d := some 109) (v := ?_) rfl (by kernel_rfl) (by kernel_rfl) (by kernel_rfl) (fun _ _ _ h => h) ?_ hHeld ?_
            rotate_left
            · intro o ho
              simp at ho
              subst ho
              intro wz hSw
              try dsimp only at hSw
              go_simp
              try with_reducible rfl
            try simp only [Act.put, List.setIfInBounds_toArray, List.set_cons_zero, List.set_cons_succ]
            refine hand_take (i := 4) (d := some 110) (v := ?_) rfl (by kernel_rfl) (by kernel_rfl) (by kernel_rfl) (fun _ _ _ h => h) ?_ hHeld ?_
            rotate_left
            · intro o ho
              simp at ho
              subst ho
              intro wz hSw
              try dsimp only at hSw
              go_simp
              try with_reducible rfl
            try simp only [Act.put, List.setIfInBounds_toArray, List.set_cons_zero, List.set_cons_succ]
            refine hand_take (i := 6) (d := some 112) (v := ?_) rfl (by kernel_rfl) (by kernel_rfl) (by kernel_rfl) (fun _ _ _ h => h) ?_ hHeld ?_
            rotate_left
            · intro o ho
              simp at ho
              subst ho
              intro wz hSw
              try dsimp only at hSw
              go_simp
              try with_reducible rfl
            try simp only [Act.put, List.setIfInBounds_toArray, List.set_cons_zero, List.set_cons_succ]
            refine hand_take (i := 7) (d := some 113) (v := ?_) rfl (by kernel_rfl) (by kernel_rfl) (by kernel_rfl) (fun _ _ _ h => h) ?_ hHeld ?_
            rotate_left
            · intro o ho
              simp at ho
              subst ho
              intro wz hSw
              try dsimp only at hSw
              go_simp
              try with_reducible rfl
            try simp only [Act.put, List.setIfInBounds_toArray, List.set_cons_zero, List.set_cons_succ]
            refine hand_take (i := 8) (d := some 114) (v := ?_) rfl (by kernel_rfl) (by kernel_rfl) (by kernel_rfl) (fun _ _ _ h => h) ?_ hHeld ?_
            rotate_left
            · intro o ho
              simp at ho
              subst ho
              intro wz hSw
              try dsimp only at hSw
              go_simp
              try with_reducible rfl
            try simp only [Act.put, List.setIfInBounds_toArray, List.set_cons_zero, List.set_cons_succ]
            refine hand_take (i := 9) (d := some 115) (v := ?_) rfl (by kernel_rfl) (by kernel_rfl) (by kernel_rfl) (fun _ _ _ h => h) ?_ hHeld ?_
            rotate_left
            · intro o ho
              simp at ho
              subst ho
              intro wz hSw
              try dsimp only at hSw
              go_simp
              try with_reducible rfl
            try simp only [Act.put, List.setIfInBounds_toArray, List.set_cons_zero, List.set_cons_succ]
            refine hand_take (i := 10) (d := some 116) (v := ?_) rfl (by kernel_rfl) (by kernel_rfl) (by kernel_rfl) (fun _ _ _ h => h) ?_ hHeld ?_
            rotate_left
            · intro o ho
              simp at ho
              subst ho
              intro wz hSw
              try dsimp only at hSw
              go_simp
              try with_reducible rfl
            try simp only [Act.put, List.setIfInBounds_toArray, List.set_cons_zero, List.set_cons_succ]
            refine hand_call (i := 5) rfl (by kernel_rfl) ?_
            intro o ho
            simp at ho
            subst ho
            intro K hK
            go_simp
            go_at_call 15
            refine (aDone_c p1 g1 N (70 * j) L F xb xs W.drew P6.out.a.n okd hokd).mono ?_
            rintro e w6 ⟨rfl, F6, h6, s6⟩
            have P7 := hide (P6.out.prog h6 s6)
            have hX7 := hX6.carry (s6.keep nXF hX6.lt).1
            clear h6 s6 P6 hX6 z0 z1 z2 z3
            obtain ⟨z0, z1, z2, z3⟩ := hX7.cells
            refine hK.out _ _ ?_ (fun hHeld => ?_)
            · exact ⟨z1, z2⟩
            clear hK K
            try simp only [Act.put, List.setIfInBounds_toArray, List.set_cons_zero, List.set_cons_succ]
            refine hand_call (i := 11) rfl (by kernel_rfl) ?_
            intro o ho
            simp at ho
            subst ho
            intro K hK
            go_simp
            go_at_call 16
            refine (dDone_c q h N (70 * j) L F' xb xs w6 P7.out.d okd hokd).mono ?_
            rintro e w7 ⟨rfl, h7, s7⟩
            have P9 := hide ((P7.out.doc h7 s7).mono (K := 70 * (j + 1)) (by omega))
            have hX8 := hX7.carry (s7.keep nXG hX7.lt).1
            clear h7 s7 P7 hX7 z0 z1 z2 z3
            obtain ⟨z0, z1, z2, z3⟩ := hX8.cells
            refine hK.out _ _ ?_ (fun hHeld => ?_)
            · exact ⟨z1, z2⟩
            clear hK K
            try simp only [Act.put, List.setIfInBounds_toArray, List.set_cons_zero, List.set_cons_succ]
            refine hand_take (i := 12) (d := some 118) (v := .bool false) rfl (by kernel_rfl) (by kernel_rfl) (by kernel_rfl) (fun _ _ _ h => h) ?_ hHeld ?_
            · intro o ho
              simp at ho
              subst ho
              intro wz hSw
              try dsimp only at hSw
              go_simp; try simp
            try simp only [Act.put, List.setIfInBounds_toArray, List.set_cons_zero, List.set_cons_succ]
            refine wpAnyH_done (by kernel_rfl) (NoPanic.normal ?_) _
            clear hHeld
            clear z0 z1 z2 z3 hX8
            obtain ⟨a, ha⟩ : ∃ a, Hid (atCur (nxDone L xb xs) ask = a) := ⟨_, rfl⟩
            obtain ⟨ok, hok⟩ : ∃ ok, Hid (okCur (nxDone L xb xs) ask = ok) := ⟨_, rfl⟩
            obtain ⟨T, hT⟩ : ∃ T, Hid (wtsQ (nxDone L xb xs) ask = T) := ⟨_, rfl⟩
            go_wp2_with fail
            go_at_call 20
            refine (aCur_c p1 _ _ _ (nxDone L xb xs) _ ask _ P9.out.a.n a ha ok hok).mono ?_
            rintro e w21 ⟨rfl, hb21⟩
            have hb22 := hb21.trans ((belA w21 (atsO a)).mono hb21.size)
            have P22 := hide (P9.out.quiet hb22)
            have n22 := hide (ats_new w21 a)
            clear hb21 hb22 P9
            go_wp2_with fail
            go_at_call 14
            refine (dCur_c q _ _ _ (nxDone L xb xs) _ ask _ P22.out.d (by omega) a ha ok hok).mono ?_
            rintro e w23 ⟨rfl, hb23⟩
            have hb24 := hb23.trans ((belA w23 (atsO a)).mono hb23.size)
            have P24 := hide (P22.out.quiet hb24)
            obtain ⟨y9, y0, y1, y2⟩ := n22.out.below hb23
            clear hb23 hb24 P22 n22
            go_wp2_with fail
            go_at_call 22
            refine (aWait_c p1 _ _ _ (nxDone L xb xs) _ ask _ P24.out.a.n (by omega)).mono ?_
            rintro e w25 ⟨v25, rfl, ob25, hW25, -, hb25⟩
            have P25 := hide (P24.out.quiet hb25)
            rw [hT.out] at hW25
            obtain ⟨b25, V25⟩ := hW25.view
            replace V25 := hide V25
            clear hW25 hb25 P24 y9 y0 y1 y2
            go_wp2_with fail
            go_at_call 23
            refine (dWait_c q _ _ _ (nxDone L xb xs) _ ask _ P25.out.d (by omega)).mono ?_
            rintro e w26 ⟨v26, rfl, b26, V26, hb26⟩
            have P26 := hide (P25.out.quiet hb26)
            rw [hT.out] at V26
            have V27 := hide (V25.out.below hb26)
            replace V26 := hide V26
            clear hb26 P25 V25
            go_wp2_with fail
            go_at_call 21
            refine (ints_c _ _ _ _ T T _ V27.out V26.out).mono ?_
            rw [show decide (T = T) = true by simp]
            rintro e w28 ⟨rfl, nq, rfl⟩
            have P28 := hide (P26.out.quiet (belD w26 nq))
            clear P26 V26 V27
            go_wp2_with fail
            go_roundw
            case rel => exact ⟨j + 1, by omega, by simp, p1, _, _, _, _, rfl, P28.out.mono (by omega)⟩
            case measure => simp [intOf]; omega
          | true =>
            obtain ⟨okd, hokd⟩ : ∃ okd, Hid (okDone L xb xs = okd) := ⟨_, rfl⟩
            go_wp2_with fail
            refine name_world ?_
            intro W hWe
            have hXW : XAt W wr.heap.size ⟨2, xb, xs, xn⟩ := by rw [← hWe]; (exact (hX.below hb4).below (belA _ _))
            have P5 : Hid (PD (w.alloc (szO s t)) W p1 g1 N (70 * j) L F q h (70 * j) L F') := by rw [← hWe]; (exact hide ((P3.out.quiet hb4).quiet (belA _ _)))
            clear hWe z0 z1 z2 z3 zf zl hX P3 hb4
            obtain ⟨z0, z1, z2, z3⟩ := hXW.cells
            have P6 := hide (P5.out.quiet (Below.refl _ _).drew)
            have hX6 : XAt W.drew wr.heap.size ⟨2, xb, xs, xn⟩ := hXW
            clear P5 hXW
            go_wp2_with fail
            refine wp_region_noPanic ?_
            refine wp_region_held_drew (S := (fun w' => w'.cell? ⟨wr.heap.size, 1, none⟩ = some (.int .i64 xb) ∧ w'.cell? ⟨wr.heap.size, 2, none⟩ = some (.int .i64 xs))) (by kernel_rfl) ?_ (fun hHeld => ?_)
            · exact ⟨z1, z2⟩
            refine hand_take (i := 0) (d := some 106) (v := ?_) rfl (by kernel_rfl) (by kernel_rfl) (by kernel_rfl) (fun _ _ _ h => h) ?_ hHeld ?_
            rotate_left
            · intro o ho
              simp at ho
              subst ho
              intro wz hSw
              try dsimp only at hSw
              go_simp
              try with_reducible rfl
            try simp only [Act.put, List.setIfInBounds_toArray, List.set_cons_zero, List.set_cons_succ]
            refine hand_take (i := 1) (d := some 107) (v := ?_) rfl (by kernel_rfl) (by kernel_rfl) (by kernel_rfl) (fun _ _ _ h => h) ?_ hHeld ?_
            rotate_left
            · intro o ho
              simp at ho
              subst ho
              intro wz hSw
              try dsimp only at hSw
              go_simp
              try with_reducible rfl
            try simp only [Act.put, List.setIfInBounds_toArray, List.set_cons_zero, List.set_cons_succ]
            refine hand_take (i := 2) (d := some 108) (v := ?_) rfl (by kernel_rfl) (by kernel_rfl) (by kernel_rfl) (fun _ _ _ h => h) ?_ hHeld ?_
            rotate_left
            · intro o ho
              simp at ho
              subst ho
              intro wz hSw
              try dsimp only at hSw
              go_simp
              try with_reducible rfl
            try simp only [Act.put, List.setIfInBounds_toArray, List.set_cons_zero, List.set_cons_succ]
            refine hand_take (i := 3) (d := some 109) (v := ?_) rfl (by kernel_rfl) (by kernel_rfl) (by kernel_rfl) (fun _ _ _ h => h) ?_ hHeld ?_
            rotate_left
            · intro o ho
              simp at ho
              subst ho
              intro wz hSw
              try dsimp only at hSw
              go_simp
              try with_reducible rfl
            try simp only [Act.put, List.setIfInBounds_toArray, List.set_cons_zero, List.set_cons_succ]
            refine hand_take (i := 4) (d := some 110) (v := ?_) rfl (by kernel_rfl) (by kernel_rfl) (by kernel_rfl) (fun _ _ _ h => h) ?_ hHeld ?_
            rotate_left
            · intro o ho
              simp at ho
              subst ho
              intro wz hSw
              try dsimp only at hSw
              go_simp
              try with_reducible rfl
            try simp only [Act.put, List.setIfInBounds_toArray, List.set_cons_zero, List.set_cons_succ]
            refine hand_take (i := 6) (d := some 112) (v := ?_) rfl (by kernel_rfl) (by kernel_rfl) (by kernel_rfl) (fun _ _ _ h => h) ?_ hHeld ?_
            rotate_left
            · intro o ho
              simp at ho
              subst ho
              intro wz hSw
              try dsimp only at hSw
              go_simp
              try with_reducible rfl
            try simp only [Act.put, List.setIfInBounds_toArray, List.set_cons_zero, List.set_cons_succ]
            refine hand_take (i := 7) (d := some 113) (v := ?_) rfl (by kernel_rfl) (by kernel_rfl) (by kernel_rfl) (fun _ _ _ h => h) ?_ hHeld ?_
            rotate_left
            · intro o ho
              simp at ho
              subst ho
              intro wz hSw
              try dsimp only at hSw
              go_simp
              try with_reducible rfl
            try simp only [Act.put, List.setIfInBounds_toArray, List.set_cons_zero, List.set_cons_succ]
            refine hand_take (i := 8) (d := some 114) (v := ?_) rfl (by kernel_rfl) (by kernel_rfl) (by kernel_rfl) (fun _ _ _ h => h) ?_ hHeld ?_
            rotate_left
            · intro o ho
              simp at ho
              subst ho
              intro wz hSw
              try dsimp only at hSw
              go_simp
              try with_reducible rfl
            try simp only [Act.put, List.setIfInBounds_toArray, List.set_cons_zero, List.set_cons_succ]
            refine hand_take (i := 9) (d := some 115) (v := ?_) rfl (by kernel_rfl) (by kernel_rfl) (by kernel_rfl) (fun _ _ _ h => h) ?_ hHeld ?_
            rotate_left
            · intro o ho
              simp at ho
              subst ho
              intro wz hSw
              try dsimp only at hSw
              go_simp
              try with_reducible rfl
            try simp only [Act.put, List.setIfInBounds_toArray, List.set_cons_zero, List.set_cons_succ]
            refine hand_take (i := 10) (d := some 116) (v := ?_) rfl (by kernel_rfl) (by kernel_rfl) (by kernel_rfl) (fun _ _ _ h => h) ?_ hHeld ?_
            rotate_left
            · intro o ho
              simp at ho
              subst ho
              intro wz hSw
              try dsimp only at hSw
              go_simp
              try with_reducible rfl
            try simp only [Act.put, List.setIfInBounds_toArray, List.set_cons_zero, List.set_cons_succ]
            refine hand_call (i := 5) rfl (by kernel_rfl) ?_
            intro o ho
            simp at ho
            subst ho
            intro K hK
            go_simp
            go_at_call 15
            refine (aDone_c p1 g1 N (70 * j) L F xb xs W.drew P6.out.a.n okd hokd).mono ?_
            rintro e w6 ⟨rfl, F6, h6, s6⟩
            have P7 := hide (P6.out.prog h6 s6)
            have hX7 := hX6.carry (s6.keep nXF hX6.lt).1
            clear h6 s6 P6 hX6 z0 z1 z2 z3
            obtain ⟨z0, z1, z2, z3⟩ := hX7.cells
            refine hK.out _ _ ?_ (fun hHeld => ?_)
            · exact ⟨z1, z2⟩
            clear hK K
            try simp only [Act.put, List.setIfInBounds_toArray, List.set_cons_zero, List.set_cons_succ]
            refine hand_call (i := 11) rfl (by kernel_rfl) ?_
            intro o ho
            simp at ho
            subst ho
            intro K hK
            go_simp
            go_at_call 16
            refine (dDone_c q h N (70 * j) L F' xb xs w6 P7.out.d okd hokd).mono ?_
            rintro e w7 ⟨rfl, h7, s7⟩
            have P9 := hide ((P7.out.doc h7 s7).mono (K := 70 * (j + 1)) (by omega))
            have hX8 := hX7.carry (s7.keep nXG hX7.lt).1
            clear h7 s7 P7 hX7 z0 z1 z2 z3
            obtain ⟨z0, z1, z2, z3⟩ := hX8.cells
            refine hK.out _ _ ?_ (fun hHeld => ?_)
            · exact ⟨z1, z2⟩
            clear hK K
            try simp only [Act.put, List.setIfInBounds_toArray, List.set_cons_zero, List.set_cons_succ]
            refine hand_take (i := 12) (d := some 118) (v := .bool false) rfl (by kernel_rfl) (by kernel_rfl) (by kernel_rfl) (fun _ _ _ h => h) ?_ hHeld ?_
            · intro o ho
              simp at ho
              subst ho
              intro wz hSw
              try dsimp only at hSw
              go_simp; try simp
            try simp only [Act.put, List.setIfInBounds_toArray, List.set_cons_zero, List.set_cons_succ]
            refine wpAnyH_done (by kernel_rfl) (NoPanic.normal ?_) _
            clear hHeld
            clear z0 z1 z2 z3 hX8
            obtain ⟨a, ha⟩ : ∃ a, Hid (atCur (nxDone L xb xs) ask = a) := ⟨_, rfl⟩
            obtain ⟨ok, hok⟩ : ∃ ok, Hid (okCur (nxDone L xb xs) ask = ok) := ⟨_, rfl⟩
            obtain ⟨T, hT⟩ : ∃ T, Hid (wtsQ (nxDone L xb xs) ask = T) := ⟨_, rfl⟩
            go_wp2_with fail
            go_at_call 20
            refine (aCur_c p1 _ _ _ (nxDone L xb xs) _ ask _ P9.out.a.n a ha ok hok).mono ?_
            rintro e w21 ⟨rfl, hb21⟩
            have hb22 := hb21.trans ((belA w21 (atsO a)).mono hb21.size)
            have P22 := hide (P9.out.quiet hb22)
            have n22 := hide (ats_new w21 a)
            clear hb21 hb22 P9
            go_wp2_with fail
            go_at_call 14
            refine (dCur_c q _ _ _ (nxDone L xb xs) _ ask _ P22.out.d (by omega) a ha ok hok).mono ?_
            rintro e w23 ⟨rfl, hb23⟩
            have hb24 := hb23.trans ((belA w23 (atsO a)).mono hb23.size)
            have P24 := hide (P22.out.quiet hb24)
            obtain ⟨y9, y0, y1, y2⟩ := n22.out.below hb23
            clear hb23 hb24 P22 n22
            go_wp2_with fail
            go_at_call 22
            refine (aWait_c p1 _ _ _ (nxDone L xb xs) _ ask _ P24.out.a.n (by omega)).mono ?_
            rintro e w25 ⟨v25, rfl, ob25, hW25, -, hb25⟩
            have P25 := hide (P24.out.quiet hb25)
            rw [hT.out] at hW25
            obtain ⟨b25, V25⟩ := hW25.view
            replace V25 := hide V25
            clear hW25 hb25 P24 y9 y0 y1 y2
            go_wp2_with fail
            go_at_call 23
            refine (dWait_c q _ _ _ (nxDone L xb xs) _ ask _ P25.out.d (by omega)).mono ?_
            rintro e w26 ⟨v26, rfl, b26, V26, hb26⟩
            have P26 := hide (P25.out.quiet hb26)
            rw [hT.out] at V26
            have V27 := hide (V25.out.below hb26)
            replace V26 := hide V26
            clear hb26 P25 V25
            go_wp2_with fail
            go_at_call 21
            refine (ints_c _ _ _ _ T T _ V27.out V26.out).mono ?_
            rw [show decide (T = T) = true by simp]
            rintro e w28 ⟨rfl, nq, rfl⟩
            have P28 := hide (P26.out.quiet (belD w26 nq))
            clear P26 V26 V27
            go_wp2_with fail
            go_roundw
            case rel => exact ⟨j + 1, by omega, by simp, p1, _, _, _, _, rfl, P28.out.mono (by omega)⟩
            case measure => simp [intOf]; omega
      by_cases k5 : k = 5
      · subst k5
        as_aux_lemma =>
          obtain ⟨a4, ha4⟩ : ∃ a4, Hid (atCur L xb = a4) := ⟨_, rfl⟩
          obtain ⟨ok4, hok4⟩ : ∃ ok4, Hid (okCur L xb = ok4) := ⟨_, rfl⟩
          go_wp2_with fail
          go_at_call 14
          refine (dCur_c q h N (70 * j) L F' xb _ P3.out.d (by omega) a4 ha4 ok4 hok4).mono ?_
          rintro e w4 ⟨rfl, hb4⟩
          obtain ⟨z0, z1, z2, z3⟩ := (hX.below hb4).cells
          have zf := (hX.below hb4).fro
          have zl := (hX.below hb4).lt
          cases ok4 with
          | false =>
            obtain ⟨okd, hokd⟩ : ∃ okd, Hid (okDone L xb xs = okd) := ⟨_, rfl⟩
            go_wp2_with fail
            refine name_world ?_
            intro W hWe
            have hXW : XAt W wr.heap.size ⟨5, xb, xs, xn⟩ := by rw [← hWe]; (exact (hX.below hb4).below (belA _ _))
            have P5 : Hid (PD (w.alloc (szO s t)) W p1 g1 N (70 * j) L F q h (70 * j) L F') := by rw [← hWe]; (exact hide ((P3.out.quiet hb4).quiet (belA _ _)))
            clear hWe z0 z1 z2 z3 zf zl hX P3 hb4
            obtain ⟨z0, z1, z2, z3⟩ := hXW.cells
            have P6 := hide (P5.out.quiet (Below.refl _ _).drew)
            have hX6 : XAt W.drew wr.heap.size ⟨5, xb, xs, xn⟩ := hXW
            clear P5 hXW
            go_wp2_with fail
            refine wp_region_noPanic ?_
            refine wp_region_held_drew (S := (fun w' => w'.cell? ⟨wr.heap.size, 1, none⟩ = some (.int .i64 xb) ∧ w'.cell? ⟨wr.heap.size, 2, none⟩ = some (.int .i64 xs))) (by kernel_rfl) ?_ (fun hHeld => ?_)
            · exact ⟨z1, z2⟩
            refine hand_take (i := 0) (d := some 106) (v := ?_) rfl (by kernel_rfl) (by kernel_rfl) (by kernel_rfl) (fun _ _ _ h => h) ?_ hHeld ?_
            rotate_left
            · intro o ho
              simp at ho
              subst ho
              intro wz hSw
              try dsimp only at hSw
              go_simp
              try with_reducible rfl
            try simp only [Act.put, List.setIfInBounds_toArray, List.set_cons_zero, List.set_cons_succ]
            refine hand_take (i := 1) (d := some 107) (v := ?_) rfl (by kernel_rfl) (by kernel_rfl) (by kernel_rfl) (fun _ _ _ h => h) ?_ hHeld ?_
            rotate_left
            · intro o ho
              simp at ho
              subst ho
              intro wz hSw
              try dsimp only at hSw
              go_simp
              try with_reducible rfl
            try simp only [Act.put, List.setIfInBounds_toArray, List.set_cons_zero, List.set_cons_succ]
            refine hand_take (i := 2) (d := some 108) (v := ?_) rfl (by kernel_rfl) (by kernel_rfl) (by kernel_rfl) (fun _ _ _ h => h) ?_ hHeld ?_
            rotate_left
            · intro o ho
              simp at ho
              subst ho
              intro wz hSw
              try dsimp only at hSw
              go_simp
              try with_reducible rfl
            try simp only [Act.put, List.setIfInBounds_toArray, List.set_cons_zero, List.set_cons_succ]
            refine hand_take (i := 3) (d := some 109) (v := ?_) rfl (by kernel_rfl) (by kernel_rfl) (by kernel_rfl) (fun _ _ _ h => h) ?_ hHeld ?_
            rotate_left
            · intro o ho
              simp at ho
              subst ho
              intro wz hSw
              try dsimp only at hSw
              go_simp
              try with_reducible rfl
            try simp only [Act.put, List.setIfInBounds_toArray, List.set_cons_zero, List.set_cons_succ]
            refine hand_take (i := 4) (d := some 110) (v := ?_) rfl (by kernel_rfl) (by kernel_rfl) (by kernel_rfl) (fun _ _ _ h => h) ?_ hHeld ?_
            rotate_left
            · intro o ho
              simp at ho
              subst ho
              intro wz hSw
              try dsimp only at hSw
              go_simp
              try with_reducible rfl
            try simp only [Act.put, List.setIfInBounds_toArray, List.set_cons_zero, List.set_cons_succ]
            refine hand_take (i := 6) (d := some 112) (v := ?_) rfl (by kernel_rfl) (by kernel_rfl) (by kernel_rfl) (fun _ _ _ h => h) ?_ hHeld ?_
            rotate_left
            · intro o ho
              simp at ho
              subst ho
              intro wz hSw
              try dsimp only at hSw
              go_simp
              try with_reducible rfl
            try simp only [Act.put, List.setIfInBounds_toArray, List.set_cons_zero, List.set_cons_succ]
            refine hand_take (i := 7) (d := some 113) (v := ?_) rfl (by kernel_rfl) (by kernel_rfl) (by kernel_rfl) (fun _ _ _ h => h) ?_ hHeld ?_
            rotate_left
            · intro o ho
              simp at ho
              subst ho
              intro wz hSw
              try dsimp only at hSw
              go_simp
              try with_reducible rfl
            try simp only [Act.put, List.setIfInBounds_toArray, List.set_cons_zero, List.set_cons_succ]
            refine hand_take (i := 8) (d := some 114) (v := ?_) rfl (by kernel_rfl) (by kernel_rfl) (by kernel_rfl) (fun _ _ _ h => h) ?_ hHeld ?_
            rotate_left
            · intro o ho
              simp at ho
              subst ho
              intro wz hSw
              try dsimp only at hSw
              go_simp
              try with_reducible rfl
            try simp only [Act.put, List.setIfInBounds_toArray, List.set_cons_zero, List.set_cons_succ]
            refine hand_take (i := 9) (d := some 115) (v := ?_) rfl (by kernel_rfl) (by kernel_rfl) (by kernel_rfl) (fun _ _ _ h => h) ?_ hHeld ?_
            rotate_left
            · intro o ho
              simp at ho
              subst ho
              intro wz hSw
              try dsimp only at hSw
              go_simp
              try with_reducible rfl
            try simp only [Act.put, List.setIfInBounds_toArray, List.set_cons_zero, List.set_cons_succ]
            refine hand_take (i := 10) (d := some 116) (v := ?_) rfl (by kernel_rfl) (by kernel_rfl) (by kernel_rfl) (fun _ _ _ h => h) ?_ hHeld ?_
            rotate_left
            · intro o ho
              simp at ho
              subst ho
              intro wz hSw
              try dsimp only at hSw
              go_simp
              try with_reducible rfl
            try simp only [Act.put, List.setIfInBounds_toArray, List.set_cons_zero, List.set_cons_succ]
            refine hand_call (i := 5) rfl (by kernel_rfl) ?_
            intro o ho
            simp at ho
            subst ho
            intro K hK
            go_simp
            go_at_call 15
            refine (aDone_c p1 g1 N (70 * j) L F xb xs W.drew P6.out.a.n okd hokd).mono ?_
            rintro e w6 ⟨rfl, F6, h6, s6⟩
            have P7 := hide (P6.out.prog h6 s6)
            have hX7 := hX6.carry (s6.keep nXF hX6.lt).1
            clear h6 s6 P6 hX6 z0 z1 z2 z3
            obtain ⟨z0, z1, z2, z3⟩ := hX7.cells
            refine hK.out _ _ ?_ (fun hHeld => ?_)
            · exact ⟨z1, z2⟩
            clear hK K
            try simp only [Act.put, List.setIfInBounds_toArray, List.set_cons_zero, List.set_cons_succ]
            refine hand_call (i := 11) rfl (by kernel_rfl) ?_
            intro o ho
            simp at ho
            subst ho
            intro K hK
            go_simp
            go_at_call 16
            refine (dDone_c q h N (70 * j) L F' xb xs w6 P7.out.d okd hokd).mono ?_
            rintro e w7 ⟨rfl, h7, s7⟩
            have P9 := hide ((P7.out.doc h7 s7).mono (K := 70 * (j + 1)) (by omega))
            have hX8 := hX7.carry (s7.keep nXG hX7.lt).1
            clear h7 s7 P7 hX7 z0 z1 z2 z3
            obtain ⟨z0, z1, z2, z3⟩ := hX8.cells
            refine hK.out _ _ ?_ (fun hHeld => ?_)
            · exact ⟨z1, z2⟩
            clear hK K
            try simp only [Act.put, List.setIfInBounds_toArray, List.set_cons_zero, List.set_cons_succ]
            refine hand_take (i := 12) (d := some 118) (v := .bool false) rfl (by kernel_rfl) (by kernel_rfl) (by kernel_rfl) (fun _ _ _ h => h) ?_ hHeld ?_
            · intro o ho
              simp at ho
              subst ho
              intro wz hSw
              try dsimp only at hSw
              go_simp; try simp
            try simp only [Act.put, List.setIfInBounds_toArray, List.set_cons_zero, List.set_cons_succ]
            refine wpAnyH_done (by kernel_rfl) (NoPanic.normal ?_) _
            clear hHeld
            clear z0 z1 z2 z3 hX8
            obtain ⟨a, ha⟩ : ∃ a, Hid (atCur (nxDone L xb xs) ask = a) := ⟨_, rfl⟩
            obtain ⟨ok, hok⟩ : ∃ ok, Hid (okCur (nxDone L xb xs) ask = ok) := ⟨_, rfl⟩
            obtain ⟨T, hT⟩ : ∃ T, Hid (wtsQ (nxDone L xb xs) ask = T) := ⟨_, rfl⟩
            go_wp2_with fail
            go_at_call 20
            refine (aCur_c p1 _ _ _ (nxDone L xb xs) _ ask _ P9.out.a.n a ha ok hok).mono ?_
            rintro e w21 ⟨rfl, hb21⟩
            have hb22 := hb21.trans ((belA w21 (atsO a)).mono hb21.size)
            have P22 := hide (P9.out.quiet hb22)
            have n22 := hide (ats_new w21 a)
            clear hb21 hb22 P9
            go_wp2_with fail
            go_at_call 14
            refine (dCur_c q _ _ _ (nxDone L xb xs) _ ask _ P22.out.d (by omega) a ha ok hok).mono ?_
            rintro e w23 ⟨rfl, hb23⟩
            have hb24 := hb23.trans ((belA w23 (atsO a)).mono hb23.size)
            have P24 := hide (P22.out.quiet hb24)
            obtain ⟨y9, y0, y1, y2⟩ := n22.out.below hb23
            clear hb23 hb24 P22 n22
            go_wp2_with fail
            go_at_call 22
            refine (aWait_c p1 _ _ _ (nxDone L xb xs) _ ask _ P24.out.a.n (by omega)).mono ?_
            rintro e w25 ⟨v25, rfl, ob25, hW25, -, hb25⟩
            have P25 := hide (P24.out.quiet hb25)
            rw [hT.out] at hW25
            obtain ⟨b25, V25⟩ := hW25.view
            replace V25 := hide V25
            clear hW25 hb25 P24 y9 y0 y1 y2
            go_wp2_with fail
            go_at_call 23
            refine (dWait_c q _ _ _ (nxDone L xb xs) _ ask _ P25.out.d (by omega)).mono ?_
            rintro e w26 ⟨v26, rfl, b26, V26, hb26⟩
            have P26 := hide (P25.out.quiet hb26)
            rw [hT.out] at V26
            have V27 := hide (V25.out.below hb26)
            replace V26 := hide V26
            clear hb26 P25 V25
            go_wp2_with fail
            go_at_call 21
            refine (ints_c _ _ _ _ T T _ V27.out V26.out).mono ?_
            rw [show decide (T = T) = true by simp]
            rintro e w28 ⟨rfl, nq, rfl⟩
            have P28 := hide (P26.out.quiet (belD w26 nq))
            clear P26 V26 V27
            go_wp2_with fail
            go_roundw
            case rel => exact ⟨j + 1, by omega, by simp, p1, _, _, _, _, rfl, P28.out.mono (by omega)⟩
            case measure => simp [intOf]; omega
          | true =>
            have nXp : p1 ≠ wr.heap.size := by have := P1l; omega
            have nXq : q ≠ wr.heap.size := by have := P1q; omega
            have nX0 : (w.alloc (szO s t)).heap.size ≤ wr.heap.size := P1s
            obtain ⟨okd, hokd⟩ : ∃ okd, Hid (okDone L xb a4.s = okd) := ⟨_, rfl⟩
            go_wp2_with fail
            refine name_world ?_
            intro W hWe
            have hXW : XAt W wr.heap.size ⟨5, xb, a4.s, xn⟩ := by rw [← hWe]; (first|exact ((hX.below hb4).seq a4.s).below (belA _ _)|exact ((hX.below hb4).below (belA _ _)).seq a4.s)
            have P5 : Hid (PD (w.alloc (szO s t)) W p1 g1 N (70 * j) L F q h (70 * j) L F') := by rw [← hWe]; (first|exact hide (((P3.out.quiet hb4).poke _ nXF nXG nXp nXq nX0).quiet (belA _ _))|exact hide (((P3.out.quiet hb4).quiet (belA _ _)).poke _ nXF nXG nXp nXq nX0))
            clear hWe z0 z1 z2 z3 zf zl hX P3 hb4
            obtain ⟨z0, z1, z2, z3⟩ := hXW.cells
            have P6 := hide (P5.out.quiet (Below.refl _ _).drew)
            have hX6 : XAt W.drew wr.heap.size ⟨5, xb, a4.s, xn⟩ := hXW
            clear P5 hXW
            go_wp2_with fail
            refine wp_region_noPanic ?_
            refine wp_region_held_drew (S := (fun w' => w'.cell? ⟨wr.heap.size, 1, none⟩ = some (.int .i64 xb) ∧ w'.cell? ⟨wr.heap.size, 2, none⟩ = some (.int .i64 a4.s))) (by kernel_rfl) ?_ (fun hHeld => ?_)
            · exact ⟨z1, z2⟩
            refine hand_take (i := 0) (d := some 106) (v := ?_) rfl (by kernel_rfl) (by kernel_rfl) (by kernel_rfl) (fun _ _ _ h => h) ?_ hHeld ?_
            rotate_left
            · intro o ho
              simp at ho
              subst ho
              intro wz hSw
              try dsimp only at hSw
              go_simp
              try with_reducible rfl
            try simp only [Act.put, List.setIfInBounds_toArray, List.set_cons_zero, List.set_cons_succ]
            refine hand_take (i := 1) (d := some 107) (v := ?_) rfl (by kernel_rfl) (by kernel_rfl) (by kernel_rfl) (fun _ _ _ h => h) ?_ hHeld ?_
            rotate_left
            · intro o ho
              simp at ho
              subst ho
              intro wz hSw
              try dsimp only at hSw
              go_simp
              try with_reducible rfl
            try simp only [Act.put, List.setIfInBounds_toArray, List.set_cons_zero, List.set_cons_succ]
            refine hand_take (i := 2) (d := some 108) (v := ?_) rfl (by kernel_rfl) (by kernel_rfl) (by kernel_rfl) (fun _ _ _ h => h) ?_ hHeld ?_
            rotate_left
            · intro o ho
              simp at ho
              subst ho
              intro wz hSw
              try dsimp only at hSw
              go_simp
              try with_reducible rfl
            try simp only [Act.put, List.setIfInBounds_toArray, List.set_cons_zero, List.set_cons_succ]
            refine hand_take (i := 3) (d := some 109) (v := ?_) rfl (by kernel_rfl) (by kernel_rfl) (by kernel_rfl) (fun _ _ _ h => h) ?_ hHeld ?_
            rotate_left
            · intro o ho
              simp at ho
              subst ho
              intro wz hSw
              try dsimp only at hSw
              go_simp
              try with_reducible rfl
            try simp only [Act.put, List.setIfInBounds_toArray, List.set_cons_zero, List.set_cons_succ]
            refine hand_take (i := 4) (d := some 110) (v := ?_) rfl (by kernel_rfl) (by kernel_rfl) (by kernel_rfl) (fun _ _ _ h => h) ?_ hHeld ?_
            rotate_left
            · intro o ho
              simp at ho
              subst ho
              intro wz hSw
              try dsimp only at hSw
              go_simp
              try with_reducible rfl
            try simp only [Act.put, List.setIfInBounds_toArray, List.set_cons_zero, List.set_cons_succ]
            refine hand_take (i := 6) (d := some 112) (v := ?_) rfl (by kernel_rfl) (by kernel_rfl) (by kernel_rfl) (fun _ _ _ h => h) ?_ hHeld ?_
            rotate_left
            · intro o ho
              simp at ho
              subst ho
              intro wz hSw
              try dsimp only at hSw
              go_simp
              try with_reducible rfl
            try simp only [Act.put, List.setIfInBounds_toArray, List.set_cons_zero, List.set_cons_succ]
            refine hand_take (i := 7) (d := some 113) (v := ?_) rfl (by kernel_rfl) (by kernel_rfl) (by kernel_rfl) (fun _ _ _ h => h) ?_ hHeld ?_
            rotate_left
            · intro o ho
              simp at ho
              subst ho
              intro wz hSw
              try dsimp only at hSw
              go_simp
              try with_reducible rfl
            try simp only [Act.put, List.setIfInBounds_toArray, List.set_cons_zero, List.set_cons_succ]
            refine hand_take (i := 8) (d := some 114) (v := ?_) rfl (by kernel_rfl) (by kernel_rfl) (by kernel_rfl) (fun _ _ _ h => h) ?_ hHeld ?_
            rotate_left
            · intro o ho
              simp at ho
              subst ho
              intro wz hSw
              try dsimp only at hSw
              go_simp
              try with_reducible rfl
            try simp only [Act.put, List.setIfInBounds_toArray, List.set_cons_zero, List.set_cons_succ]
            refine hand_take (i := 9) (d := some 115) (v := ?_) rfl (by kernel_rfl) (by kernel_rfl) (by kernel_rfl) (fun _ _ _ h => h) ?_ hHeld ?_
            rotate_left
            · intro o ho
              simp at ho
              subst ho
              intro wz hSw
              try dsimp only at hSw
              go_simp
              try with_reducible rfl
            try simp only [Act.put, List.setIfInBounds_toArray, List.set_cons_zero, List.set_cons_succ]
            refine hand_take (i := 10) (d := some 116) (v := ?_) rfl (by kernel_rfl) (by kernel_rfl) (by kernel_rfl) (fun _ _ _ h => h) ?_ hHeld ?_
            rotate_left
            · intro o ho
              simp at ho
              subst ho
              intro wz hSw
              try dsimp only at hSw
              go_simp
              try with_reducible rfl
            try simp only [Act.put, List.setIfInBounds_toArray, List.set_cons_zero, List.set_cons_succ]
            refine hand_call (i := 5) rfl (by kernel_rfl) ?_
            intro o ho
            simp at ho
            subst ho
            intro K hK
            go_simp
            go_at_call 15
            refine (aDone_c p1 g1 N (70 * j) L F xb a4.s W.drew P6.out.a.n okd hokd).mono ?_
            rintro e w6 ⟨rfl, F6, h6, s6⟩
            have P7 := hide (P6.out.prog h6 s6)
            have hX7 := hX6.carry (s6.keep nXF hX6.lt).1
            clear h6 s6 P6 hX6 z0 z1 z2 z3
            obtain ⟨z0, z1, z2, z3⟩ := hX7.cells
            refine hK.out _ _ ?_ (fun hHeld => ?_)
            · exact ⟨z1, z2⟩
            clear hK K
            try simp only [Act.put, List.setIfInBounds_toArray, List.set_cons_zero, List.set_cons_succ]
            refine hand_call (i := 11) rfl (by kernel_rfl) ?_
            intro o ho
            simp at ho
            subst ho
            intro K hK
            go_simp
            go_at_call 16
            refine (dDone_c q h N (70 * j) L F' xb a4.s w6 P7.out.d okd hokd).mono ?_
            rintro e w7 ⟨rfl, h7, s7⟩
            have P9 := hide ((P7.out.doc h7 s7).mono (K := 70 * (j + 1)) (by omega))
            have hX8 := hX7.carry (s7.keep nXG hX7.lt).1
            clear h7 s7 P7 hX7 z0 z1 z2 z3
            obtain ⟨z0, z1, z2, z3⟩ := hX8.cells
            refine hK.out _ _ ?_ (fun hHeld => ?_)
            · exact ⟨z1, z2⟩
            clear hK K
            try simp only [Act.put, List.setIfInBounds_toArray, List.set_cons_zero, List.set_cons_succ]
            refine hand_take (i := 12) (d := some 118) (v := .bool false) rfl (by kernel_rfl) (by kernel_rfl) (by kernel_rfl) (fun _ _ _ h => h) ?_ hHeld ?_
            · intro o ho
              simp at ho
              subst ho
              intro wz hSw
              try dsimp only at hSw
              go_simp; try simp
            try simp only [Act.put, List.setIfInBounds_toArray, List.set_cons_zero, List.set_cons_succ]
            refine wpAnyH_done (by kernel_rfl) (NoPanic.normal ?_) _
            clear hHeld
            clear z0 z1 z2 z3 hX8
            obtain ⟨a, ha⟩ : ∃ a, Hid (atCur (nxDone L xb a4.s) ask = a) := ⟨_, rfl⟩
            obtain ⟨ok, hok⟩ : ∃ ok, Hid (okCur (nxDone L xb a4.s) ask = ok) := ⟨_, rfl⟩
            obtain ⟨T, hT⟩ : ∃ T, Hid (wtsQ (nxDone L xb a4.s) ask = T) := ⟨_, rfl⟩
            go_wp2_with fail
            go_at_call 20
            refine (aCur_c p1 _ _ _ (nxDone L xb a4.s) _ ask _ P9.out.a.n a ha ok hok).mono ?_
            rintro e w21 ⟨rfl, hb21⟩
            have hb22 := hb21.trans ((belA w21 (atsO a)).mono hb21.size)
            have P22 := hide (P9.out.quiet hb22)
            have n22 := hide (ats_new w21 a)
            clear hb21 hb22 P9
            go_wp2_with fail
            go_at_call 14
            refine (dCur_c q _ _ _ (nxDone L xb a4.s) _ ask _ P22.out.d (by omega) a ha ok hok).mono ?_
            rintro e w23 ⟨rfl, hb23⟩
            have hb24 := hb23.trans ((belA w23 (atsO a)).mono hb23.size)
            have P24 := hide (P22.out.quiet hb24)
            obtain ⟨y9, y0, y1, y2⟩ := n22.out.below hb23
            clear hb23 hb24 P22 n22
            go_wp2_with fail
            go_at_call 22
            refine (aWait_c p1 _ _ _ (nxDone L xb a4.s) _ ask _ P24.out.a.n (by omega)).mono ?_
            rintro e w25 ⟨v25, rfl, ob25, hW25, -, hb25⟩
            have P25 := hide (P24.out.quiet hb25)
            rw [hT.out] at hW25
            obtain ⟨b25, V25⟩ := hW25.view
            replace V25 := hide V25
            clear hW25 hb25 P24 y9 y0 y1 y2
            go_wp2_with fail
            go_at_call 23
            refine (dWait_c q _ _ _ (nxDone L xb a4.s) _ ask _ P25.out.d (by omega)).mono ?_
            rintro e w26 ⟨v26, rfl, b26, V26, hb26⟩
            have P26 := hide (P25.out.quiet hb26)
            rw [hT.out] at V26
            have V27 := hide (V25.out.below hb26)
            replace V26 := hide V26
            clear hb26 P25 V25
            go_wp2_with fail
            go_at_call 21
            refine (ints_c _ _ _ _ T T _ V27.out V26.out).mono ?_
            rw [show decide (T = T) = true by simp]
            rintro e w28 ⟨rfl, nq, rfl⟩
            have P28 := hide (P26.out.quiet (belD w26 nq))
            clear P26 V26 V27
            go_wp2_with fail
            go_roundw
            case rel => exact ⟨j + 1, by omega, by simp, p1, _, _, _, _, rfl, P28.out.mono (by omega)⟩
            case measure => simp [intOf]; omega
      by_cases k4 : k = 4
      · subst k4
        as_aux_lemma =>
          go_wp2_with fail
          go_at_call 19
          refine (aCopy_c p1 g1 N (70 * j) L F _ P3.out.a.n (by omega)).mono ?_
          rintro e w4 ⟨p2, rfl, g2, F4, h4, hf4, hp4, hb4⟩
          have T4 := hide (Two.first P3.out.a h4 hf4 hp4 hb4)
          have P4 := hide (P3.out.quiet hb4)
          have d1 : ∀ b, F4 b → ¬ F' b := fun b h1 h2 => by have := hf4 b h1; have := P3.out.d.lt b h2; omega
          have d2 : ¬ F' p2 := fun e => by have := P3.out.d.lt _ e; omega
          have d3 : ¬ F4 q := fun e => by have := hf4 _ e; have := P3.out.d.ql; omega
          have hX4 := hX.below hb4
          obtain ⟨z0, z1, z2, z3⟩ := hX4.cells
          replace d1 := hide d1
          clear h4 hf4 hp4 hb4 P3 hX
          go_wp2_with fail
          go_at_call 12
          refine (aAsk_c p1 g1 N (70 * j) L F xb 0 w4 P4.out.a.n (by omega) _ (hide rfl) _ (hide rfl)).mono ?_
          rintro e w5 ⟨rfl, F5, h5, s5⟩
          have T5 := hide (T4.out.step h5 s5)
          have P5 := hide (P4.out.prog h5 s5)
          have hX5 := hX4.carry (s5.keep nXF hX4.lt).1
          clear h5 s5 T4 P4 hX4 z0 z1 z2 z3
          obtain ⟨z0, z1, z2, z3⟩ := hX5.cells
          go_wp2_with fail
          go_at_call 15
          refine (aDone_c p1 g1 N (70 * j + 1) (nxAsk N L xb 0) F5 xb xs w5 P5.out.a.n _ (hide rfl)).mono ?_
          rintro e w6 ⟨rfl, F6, h6, s6⟩
          have T6 := T5.out.step h6 s6
          have P6 := P5.out.prog h6 s6
          have P9 := hide ((P6.other T6 d1.out d2 d3).mono (K := 70 * (j + 1)) (by omega))
          clear h6 s6 T5 P5 hX5 z0 z1 z2 z3 T6 P6
          obtain ⟨a, ha⟩ : ∃ a, Hid (atCur L ask = a) := ⟨_, rfl⟩
          obtain ⟨ok, hok⟩ : ∃ ok, Hid (okCur L ask = ok) := ⟨_, rfl⟩
          obtain ⟨T, hT⟩ : ∃ T, Hid (wtsQ L ask = T) := ⟨_, rfl⟩
          go_wp2_with fail
          go_at_call 20
          refine (aCur_c p2 _ _ _ L _ ask _ P9.out.a.n a ha ok hok).mono ?_
          rintro e w21 ⟨rfl, hb21⟩
          have hb22 := hb21.trans ((belA w21 (atsO a)).mono hb21.size)
          have P22 := hide (P9.out.quiet hb22)
          have n22 := hide (ats_new w21 a)
          clear hb21 hb22 P9
          go_wp2_with fail
          go_at_call 14
          refine (dCur_c q _ _ _ L _ ask _ P22.out.d (by omega) a ha ok hok).mono ?_
          rintro e w23 ⟨rfl, hb23⟩
          have hb24 := hb23.trans ((belA w23 (atsO a)).mono hb23.size)
          have P24 := hide (P22.out.quiet hb24)
          obtain ⟨y9, y0, y1, y2⟩ := n22.out.below hb23
          clear hb23 hb24 P22 n22
          go_wp2_with fail
          go_at_call 22
          refine (aWait_c p2 _ _ _ L _ ask _ P24.out.a.n (by omega)).mono ?_
          rintro e w25 ⟨v25, rfl, ob25, hW25, -, hb25⟩
          have P25 := hide (P24.out.quiet hb25)
          rw [hT.out] at hW25
          obtain ⟨b25, V25⟩ := hW25.view
          replace V25 := hide V25
          clear hW25 hb25 P24 y9 y0 y1 y2
          go_wp2_with fail
          go_at_call 23
          refine (dWait_c q _ _ _ L _ ask _ P25.out.d (by omega)).mono ?_
          rintro e w26 ⟨v26, rfl, b26, V26, hb26⟩
          have P26 := hide (P25.out.quiet hb26)
          rw [hT.out] at V26
          have V27 := hide (V25.out.below hb26)
          replace V26 := hide V26
          clear hb26 P25 V25
          go_wp2_with fail
          go_at_call 21
          refine (ints_c _ _ _ _ T T _ V27.out V26.out).mono ?_
          rw [show decide (T = T) = true by simp]
          rintro e w28 ⟨rfl, nq, rfl⟩
          have P28 := hide (P26.out.quiet (belD w26 nq))
          clear P26 V26 V27
          go_wp2_with fail
          go_roundw
          case rel => exact ⟨j + 1, by omega, by simp, p2, _, _, _, _, rfl, P28.out.mono (by omega)⟩
          case measure => simp [intOf]; omega
      by_cases k6 : k = 6
      · subst k6
        as_aux_lemma =>
          have c0 := P3.out.d.c0
          have hN64 := P3.out.a.n.n64
          go_wp2_with fail
          obtain ⟨wo, hwo⟩ : ∃ wo, wo = wr := ⟨_, rfl⟩
          subst hwo
          go_loopw [174] (fun i wr => ∃ tt : Nat, tt ≤ N ∧ i = .int .i64 tt ∧ ∃ L F F', PD (w.alloc (szO s t)) wr p1 g1 N (70 * j + tt) L F q h (70 * j + tt) L F' ∧ XAt wr wo.heap.size ⟨6, xb, xs, xn⟩ ∧ ¬ F wo.heap.size ∧ ¬ F' wo.heap.size) (fun i _ => N - (intOf i).toNat)
          case atStart => exact ⟨0, Nat.zero_le _, rfl, L, F, F', P3.out, hX, nXF, nXG⟩
          case round =>
            clear P3 hX nXF nXG c0
            obtain ⟨tt, htt, rfl, L, F, F', P3, hX, nXF, nXG⟩ := hrel
            replace P3 := hide P3
            by_cases htl : tt < N
            · have htl' : (tt : Int) < N := by omega
              obtain ⟨z0, z1, z2, z3⟩ := hX.cells
              obtain ⟨a, ha⟩ : ∃ a, Hid (atAck N L xb xs tt = a) := ⟨_, rfl⟩
              obtain ⟨ok, hok⟩ : ∃ ok, Hid (okAck N L xb xs tt = ok) := ⟨_, rfl⟩
              go_wp2_with fail
              go_at_call 17
              refine (aAck_c p1 g1 N (70 * j + tt) L F xb xs tt _ P3.out.a.n (by omega) a ha ok hok).mono ?_
              rintro e w4 ⟨rfl, F4, h4, s4⟩
              have P4 := hide ((P3.out.prog h4 s4).quiet (belA w4 (atsO a)))
              have n4 := hide (ats_new w4 a)
              have nF4 : ¬ F' w4.heap.size := fun e => by have := (P3.out.prog h4 s4).d.lt _ e; omega
              have hX4 := hX.trans2 (s4.keep nXF hX.lt).1 (Below.heap_alloc _ (atsO a) _ (Nat.lt_of_lt_of_le hX.lt s4.fr.size))
              have nX4 : ¬ F4 wo.heap.size := (s4.keep nXF hX.lt).2.1
              obtain ⟨z0, z1, z2, z3⟩ := hX4.cells
              clear h4 s4 P3 nXF hX
              go_wp2_with fail
              go_at_call 18
              refine (dAck_c q h N (70 * j + tt) L F' xb xs tt _ P4.out.d (by omega) a ha ok hok).mono ?_
              rintro e w5 ⟨rfl, F5, h5, s5⟩
              have P5 := hide ((P4.out.doc h5 s5).quiet (belA w5 (atsO a)))
              have hX5 := hX4.trans2 (s5.keep nXG hX4.lt).1 (Below.heap_alloc _ (atsO a) _ (Nat.lt_of_lt_of_le hX4.lt s5.fr.size))
              have nX5 : ¬ F5 wo.heap.size := (s5.keep nXG hX4.lt).2.1
              obtain ⟨y9, y0, y1, y2⟩ := n4.out.carry (s5.keep nF4 n4.out.lt).1
              clear h5 s5 P4 n4 nF4 z0 z1 z2 z3 nXG hX4
              go_wp2_with fail
              go_roundw
              case rel => exact ⟨tt + 1, by omega, by simp, _, _, _, P5.out, hX5, nX4, nX5⟩
              case measure => simp [intOf]; omega
            · have htl' : ¬ (tt : Int) < N := by omega
              have P9 := hide (P3.out.mono (K := 70 * (j + 1)) (by omega))
              clear P3 hX
              obtain ⟨a, ha⟩ : ∃ a, Hid (atCur L ask = a) := ⟨_, rfl⟩
              obtain ⟨ok, hok⟩ : ∃ ok, Hid (okCur L ask = ok) := ⟨_, rfl⟩
              obtain ⟨T, hT⟩ : ∃ T, Hid (wtsQ L ask = T) := ⟨_, rfl⟩
              go_wp2_with fail
              go_at_call 20
              refine (aCur_c p1 _ _ _ L _ ask _ P9.out.a.n a ha ok hok).mono ?_
              rintro e w21 ⟨rfl, hb21⟩
              have hb22 := hb21.trans ((belA w21 (atsO a)).mono hb21.size)
              have P22 := hide (P9.out.quiet hb22)
              have n22 := hide (ats_new w21 a)
              clear hb21 hb22 P9
              go_wp2_with fail
              go_at_call 14
              refine (dCur_c q _ _ _ L _ ask _ P22.out.d (by omega) a ha ok hok).mono ?_
              rintro e w23 ⟨rfl, hb23⟩
              have hb24 := hb23.trans ((belA w23 (atsO a)).mono hb23.size)
              have P24 := hide (P22.out.quiet hb24)
              obtain ⟨y9, y0, y1, y2⟩ := n22.out.below hb23
              clear hb23 hb24 P22 n22
              go_wp2_with fail
              go_at_call 22
              refine (aWait_c p1 _ _ _ L _ ask _ P24.out.a.n (by omega)).mono ?_
              rintro e w25 ⟨v25, rfl, ob25, hW25, -, hb25⟩
              have P25 := hide (P24.out.quiet hb25)
              rw [hT.out] at hW25
              obtain ⟨b25, V25⟩ := hW25.view
              replace V25 := hide V25
              clear hW25 hb25 P24 y9 y0 y1 y2
              go_wp2_with fail
              go_at_call 23
              refine (dWait_c q _ _ _ L _ ask _ P25.out.d (by omega)).mono ?_
              rintro e w26 ⟨v26, rfl, b26, V26, hb26⟩
              have P26 := hide (P25.out.quiet hb26)
              rw [hT.out] at V26
              have V27 := hide (V25.out.below hb26)
              replace V26 := hide V26
              clear hb26 P25 V25
              go_wp2_with fail
              go_at_call 21
              refine (ints_c _ _ _ _ T T _ V27.out V26.out).mono ?_
              rw [show decide (T = T) = true by simp]
              rintro e w28 ⟨rfl, nq, rfl⟩
              have P28 := hide (P26.out.quiet (belD w26 nq))
              clear P26 V26 V27
              go_wp2_with fail
              go_roundw
              case rel => exact ⟨j + 1, by omega, by simp, p1, _, _, _, _, rfl, P28.out.mono (by omega)⟩
              case measure => simp [intOf]; omega
      · have k1' : decide (k = 1) = false ∧ (k == 1) = false := ⟨by simpa using k1, by simpa using k1⟩
        have k2' : decide (k = 2) = false ∧ (k == 2) = false := ⟨by simpa using k2, by simpa using k2⟩
        have k5' : decide (k = 5) = false ∧ (k == 5) = false := ⟨by simpa using k5, by simpa using k5⟩
        have k3' : decide (k = 3) = false ∧ (k == 3) = false := ⟨by simpa using k3, by simpa using k3⟩
        have k4' : decide (k = 4) = false ∧ (k == 4) = false := ⟨by simpa using k4, by simpa using k4⟩
        have k6' : decide (k = 6) = false ∧ (k == 6) = false := ⟨by simpa using k6, by simpa using k6⟩
        replace k1 := hide k1
        replace k2 := hide k2
        replace k5 := hide k5
        replace k3 := hide k3
        replace k4 := hide k4
        replace k6 := hide k6
        have P9 := hide (P3.out.mono (K := 70 * (j + 1)) (by omega))
        clear P3 hX nXF nXG
        obtain ⟨a, ha⟩ : ∃ a, Hid (atCur L ask = a) := ⟨_, rfl⟩
        obtain ⟨ok, hok⟩ : ∃ ok, Hid (okCur L ask = ok) := ⟨_, rfl⟩
        obtain ⟨T, hT⟩ : ∃ T, Hid (wtsQ L ask = T) := ⟨_, rfl⟩
        go_wp2_with fail
        go_at_call 20
        refine (aCur_c p1 _ _ _ L _ ask _ P9.out.a.n a ha ok hok).mono ?_
        rintro e w21 ⟨rfl, hb21⟩
        have hb22 := hb21.trans ((belA w21 (atsO a)).mono hb21.size)
        have P22 := hide (P9.out.quiet hb22)
        have n22 := hide (ats_new w21 a)
        clear hb21 hb22 P9
        go_wp2_with fail
        go_at_call 14
        refine (dCur_c q _ _ _ L _ ask _ P22.out.d (by omega) a ha ok hok).mono ?_
        rintro e w23 ⟨rfl, hb23⟩
        have hb24 := hb23.trans ((belA w23 (atsO a)).mono hb23.size)
        have P24 := hide (P22.out.quiet hb24)
        obtain ⟨y9, y0, y1, y2⟩ := n22.out.below hb23
        clear hb23 hb24 P22 n22
        go_wp2_with fail
        go_at_call 22
        refine (aWait_c p1 _ _ _ L _ ask _ P24.out.a.n (by omega)).mono ?_
        rintro e w25 ⟨v25, rfl, ob25, hW25, -, hb25⟩
        have P25 := hide (P24.out.quiet hb25)
        rw [hT.out] at hW25
        obtain ⟨b25, V25⟩ := hW25.view
        replace V25 := hide V25
        clear hW25 hb25 P24 y9 y0 y1 y2
        go_wp2_with fail
        go_at_call 23
        refine (dWait_c q _ _ _ L _ ask _ P25.out.d (by omega)).mono ?_
        rintro e w26 ⟨v26, rfl, b26, V26, hb26⟩
        have P26 := hide (P25.out.quiet hb26)
        rw [hT.out] at V26
        have V27 := hide (V25.out.below hb26)
        replace V26 := hide V26
        clear hb26 P25 V25
        go_wp2_with fail
        go_at_call 21
        refine (ints_c _ _ _ _ T T _ V27.out V26.out).mono ?_
        rw [show decide (T = T) = true by simp]
        rintro e w28 ⟨rfl, nq, rfl⟩
        have P28 := hide (P26.out.quiet (belD w26 nq))
        clear P26 V26 V27
        go_wp2_with fail
        go_roundw
        case rel => exact ⟨j + 1, by omega, by simp, p1, _, _, _, _, rfl, P28.out.mono (by omega)⟩
        case measure => simp [intOf]; omega
    · obtain rfl : j = A.length := by omega
      replace P1 := hide P1
      go_wp2_with fail
      go_ret
      exact ⟨rfl, (unhide hW).trans (P1.out.a.bel.mono (unhide hW).size)⟩
end Go.Proofs.Ytlfdahcbkdiifaa
