/- The walk of LinesOrder: it returns true; no old memory turns. -/
import Derived.Test.YtameolfdbmepmaaLaw08b
import Derived.Test.YtameolfdbmepmaaRef01
namespace Go.Proofs.Ytameolfdbmepmaa
open Go.ChangeShapes Go.WideShapes Go.ChangeAt Go.RowKit
set_option linter.unusedSimpArgs false
set_option linter.unusedVariables false

attribute [local go_sem, local simp] over_const setCell_drewN alloc_drewN Over.cell Over.frozen lt_s1 lt_s2 lt_s3 le_s0 le_s1 le_s2 le_s3 eq_s0 eq_s1 eq_s2 qe_s0

/-- The blocks f, f + S, .. from the a-th on, n of them. -/
def runL (f S : Int) (a n : Nat) : List Int := (List.range' a n).map fun (t : Nat) => f + t * S

theorem runL_len (f S : Int) (a n : Nat) : (runL f S a n).length = n := by simp [runL]
theorem runL_snoc (f S : Int) (a n : Nat) : runL f S a n ++ [f + ((a + n : Nat) : Int) * S] = runL f S a (n + 1) := by simp [runL, List.range'_concat]
theorem runL_cons (f S : Int) (a n : Nat) : runL f S a (n + 1) = (f + (a : Int) * S) :: runL f S (a + 1) n := by simp [runL, List.range'_succ]

theorem run_inj {f S : Int} (hS : 1 ≤ S) {i j : Nat} (h : f + (i : Int) * S = f + (j : Int) * S) : i = j := by
  have h1 : (i : Int) * S = (j : Int) * S := by omega
  have := Int.eq_of_mul_eq_mul_right (by omega : S ≠ 0) h1
  omega

theorem mem_runL {f S : Int} (hS : 1 ≤ S) {a n i : Nat} : f + (i : Int) * S ∈ runL f S a n ↔ a ≤ i ∧ i < a + n := by
  simp only [runL, List.mem_map, List.mem_range'_1]
  constructor
  · rintro ⟨t, ht, e⟩
    have := run_inj hS e
    omega
  · intro h
    exact ⟨i, h, rfl⟩

theorem modZ_run {f S : Int} (hS : 1 ≤ S) (i : Nat) : modZ (f + (i : Int) * S) S = modZ f S := by
  simp [modZ, show ¬ S < 1 by omega]

theorem part_runL {f S : Int} (hS : 1 ≤ S) (a n : Nat) : part S (runL f S a n) (modZ f S) = runL f S a n := by
  rw [part, List.filter_eq_self]
  intro x hx
  simp only [runL, List.mem_map] at hx
  obtain ⟨t, _, rfl⟩ := hx
  simp [modZ_run hS]

/-- Some are added, so that Wn are there at most. -/
def ordL (f S : Int) (Wn i : Nat) : List Int := runL f S (i - Wn) (min i Wn)

theorem ord_less {f S W : Int} {Wn i : Nat} (hW : W = Wn) (hS : 1 ≤ S) (hf : 0 ≤ f) (hi : i < Wn) :
    vicA S W (ordL f S Wn i) (f + (i : Int) * S) (-1) = (-1, true) ∧ okAdd S W (ordL f S Wn i) (f + (i : Int) * S) = true ∧ nxAdd S W (ordL f S Wn i) (f + (i : Int) * S) = ordL f S Wn (i + 1) := by
  have e0 : ordL f S Wn i = runL f S 0 i := by rw [ordL, show i - Wn = 0 by omega, Nat.min_eq_left (by omega)]
  have hx : 0 ≤ f + (i : Int) * S := by have := Int.mul_nonneg (Int.natCast_nonneg i) (show 0 ≤ S by omega); omega
  have hn : f + (i : Int) * S ∉ runL f S 0 i := by rw [mem_runL hS]; omega
  have hfl : fullA S W (runL f S 0 i) (f + (i : Int) * S) = false := by
    rw [fullA, modZ_run hS, part_runL hS, runL_len, hW]
    simp
    omega
  have hok : okAdd S W (runL f S 0 i) (f + (i : Int) * S) = true := by simp [okAdd, hn, hfl, hx]
  rw [e0]
  refine ⟨?_, hok, ?_⟩
  · rw [vicA, if_neg (by omega), if_pos (.inr hfl)]
  · have := runL_snoc f S 0 i
    rw [Nat.zero_add] at this
    rw [nxAdd, if_pos hok, ordL, show i + 1 - Wn = 0 by omega, Nat.min_eq_left (by omega), this]

theorem ord_more {f S W : Int} {Wn i : Nat} (hW : W = Wn) (hW1 : 1 ≤ Wn) (hS : 1 ≤ S) (hf : 0 ≤ f) (hi : Wn ≤ i) :
    vicA S W (ordL f S Wn i) (f + (i : Int) * S) (-1) = (f + ((i : Int) - W) * S, true) ∧ okRem (ordL f S Wn i) (f + ((i : Int) - W) * S) = true ∧ okAdd S W ((ordL f S Wn i).erase (f + ((i : Int) - W) * S)) (f + (i : Int) * S) = true ∧
    nxAdd S W ((ordL f S Wn i).erase (f + ((i : Int) - W) * S)) (f + (i : Int) * S) = ordL f S Wn (i + 1) ∧ f + ((i : Int) - W) * S ≠ -1 := by
  obtain ⟨n, rfl⟩ : ∃ n, Wn = n + 1 := ⟨Wn - 1, by omega⟩
  obtain ⟨a, rfl⟩ : ∃ a, i = a + (n + 1) := ⟨i - (n + 1), by omega⟩
  subst hW
  have e1 : (((a + (n + 1) : Nat) : Int) - ((n + 1 : Nat) : Int)) = (a : Int) := by omega
  rw [e1]
  have e0 : ordL f S (n + 1) (a + (n + 1)) = (f + (a : Int) * S) :: runL f S (a + 1) n := by rw [ordL, Nat.add_sub_cancel, Nat.min_eq_right (by omega), runL_cons]
  have hx : ∀ t : Nat, 0 ≤ f + (t : Int) * S := fun t => by have := Int.mul_nonneg (Int.natCast_nonneg t) (show 0 ≤ S by omega); omega
  have hn : f + ((a + (n + 1) : Nat) : Int) * S ∉ (f + (a : Int) * S) :: runL f S (a + 1) n := by
    rw [← runL_cons, mem_runL hS]
    omega
  have hfl : fullA S ((n + 1 : Nat) : Int) ((f + (a : Int) * S) :: runL f S (a + 1) n) (f + ((a + (n + 1) : Nat) : Int) * S) = true := by
    rw [fullA, modZ_run hS, ← runL_cons, part_runL hS, runL_len]
    simp
  have h1 := hx a
  have h2 := hx (a + (n + 1))
  have her : ((f + (a : Int) * S) :: runL f S (a + 1) n).erase (f + (a : Int) * S) = runL f S (a + 1) n := List.erase_cons_head _ _
  have hok : okAdd S ((n + 1 : Nat) : Int) (runL f S (a + 1) n) (f + ((a + (n + 1) : Nat) : Int) * S) = true := by
    have h3 : f + ((a + (n + 1) : Nat) : Int) * S ∉ runL f S (a + 1) n := by rw [mem_runL hS]; omega
    have h4 : fullA S ((n + 1 : Nat) : Int) (runL f S (a + 1) n) (f + ((a + (n + 1) : Nat) : Int) * S) = false := by
      rw [fullA, modZ_run hS, part_runL hS, runL_len]
      simp
      omega
    simp only [okAdd, h3, h4, decide_false, Bool.not_false, Bool.and_true, decide_eq_true_eq]
    exact h2
  rw [e0, her]
  refine ⟨?_, by simp [okRem], hok, ?_, by omega⟩
  · rw [vicA, if_neg (by omega), if_neg (by simp only [hn, hfl, or_false, false_or]; simp), modZ_run hS, ← runL_cons, part_runL hS, runL_cons]
    have : ¬ f + (a : Int) * S = -1 := by omega
    simp only [firstNot, if_neg this]
  · have := runL_snoc f S (a + 1) n
    rw [show a + 1 + n = a + (n + 1) by omega] at this
    rw [nxAdd, if_pos hok, this, ordL, show a + (n + 1) + 1 - (n + 1) = a + 1 by omega, Nat.min_eq_right (by omega)]

set_option maxHeartbeats 2000000 in
theorem LinesOrder_walk (s t f n : Int) (w : World) : Calls Try.prog 5 #[.agg #[.int .i64 s, .int .i64 t], .int .i64 f, .int .i64 n] w fun e w' => e = .returned (.bool true) ∧ Below w.heap.size w w' := by
  obtain ⟨S, hS⟩ : ∃ S, Hid (clampZ s 1 64 = S) := ⟨_, rfl⟩
  obtain ⟨W, hW⟩ : ∃ W, Hid (clampZ t 1 16 = W) := ⟨_, rfl⟩
  have bS := (clampZ_bd s 1 64).2 (by decide)
  have bW := (clampZ_bd t 1 16).2 (by decide)
  rw [hS.out] at bS
  rw [hW.out] at bW
  obtain ⟨S0, S1⟩ := bS
  obtain ⟨W0, W1⟩ := bW
  obtain ⟨w0, hw0⟩ : ∃ w0, w.alloc (.cells #[.int .i64 s, .int .i64 t] 22) = w0 := ⟨_, rfl⟩
  have hb0 : Below w.heap.size w w0 := by rw [← hw0]; exact belA _ _
  have hx0 : Box w0 w.heap.size s t := by rw [← hw0]; exact box_new _ _ _ _
  obtain ⟨-, x0, x1⟩ := hx0
  go_enter Try.func5, Try.ntmps5
  go_wp2_with fail
  refine wp_region_noPanic ?_
  refine wp_region_held_drew (S := fun w' => w' = w0.drew ∧ w'.cell? ⟨w.heap.size, 0, none⟩ = some (.int .i64 s) ∧ w'.cell? ⟨w.heap.size, 1, none⟩ = some (.int .i64 t)) (by kernel_rfl) ?_ (fun hHeld => ?_)
  · exact ⟨rfl, x0, x1⟩
  refine hand_take (i := 0) (d := some 15) (v := ?_) rfl (by kernel_rfl) (by kernel_rfl) (by kernel_rfl) (fun _ _ _ h => h) ?_ hHeld ?_
  rotate_left
  · intro o ho
    simp at ho
    subst ho
    intro wz hSw
    try dsimp only at hSw
    go_simp
    try with_reducible rfl
  try simp only [Act.put, List.setIfInBounds_toArray, List.set_cons_zero, List.set_cons_succ]
  refine hand_take (i := 1) (d := some 16) (v := ?_) rfl (by kernel_rfl) (by kernel_rfl) (by kernel_rfl) (fun _ _ _ h => h) ?_ hHeld ?_
  rotate_left
  · intro o ho
    simp at ho
    subst ho
    intro wz hSw
    try dsimp only at hSw
    go_simp
    try with_reducible rfl
  try simp only [Act.put, List.setIfInBounds_toArray, List.set_cons_zero, List.set_cons_succ]
  refine hand_take (i := 3) (d := some 18) (v := ?_) rfl (by kernel_rfl) (by kernel_rfl) (by kernel_rfl) (fun _ _ _ h => h) ?_ hHeld ?_
  rotate_left
  · intro o ho
    simp at ho
    subst ho
    intro wz hSw
    try dsimp only at hSw
    go_simp
    try with_reducible rfl
  try simp only [Act.put, List.setIfInBounds_toArray, List.set_cons_zero, List.set_cons_succ]
  refine hand_take (i := 4) (d := some 19) (v := ?_) rfl (by kernel_rfl) (by kernel_rfl) (by kernel_rfl) (fun _ _ _ h => h) ?_ hHeld ?_
  rotate_left
  · intro o ho
    simp at ho
    subst ho
    intro wz hSw
    try dsimp only at hSw
    go_simp
    try with_reducible rfl
  try simp only [Act.put, List.setIfInBounds_toArray, List.set_cons_zero, List.set_cons_succ]
  refine hand_call (i := 2) rfl (by kernel_rfl) ?_
  intro o ho
  simp at ho
  subst ho
  intro K hK
  go_simp; go_at_call 25; refine (refClamp_any s 1 64 _).mono ?_; rw [hS.out]; rintro e w' ⟨rfl, hw'⟩; rw [hw']; clear hw' w'
  refine hK.out _ _ ?_ (fun hHeld => ?_)
  · exact ⟨rfl, x0, x1⟩
  clear hK K
  try simp only [Act.put, List.setIfInBounds_toArray, List.set_cons_zero, List.set_cons_succ]
  refine hand_call (i := 5) rfl (by kernel_rfl) ?_
  intro o ho
  simp at ho
  subst ho
  intro K hK
  go_simp; go_at_call 25; refine (refClamp_any t 1 16 _).mono ?_; rw [hW.out]; rintro e w' ⟨rfl, hw'⟩; rw [hw']; clear hw' w'
  refine hK.out _ _ ?_ (fun hHeld => ?_)
  · exact ⟨rfl, x0, x1⟩
  clear hK K
  try simp only [Act.put, List.setIfInBounds_toArray, List.set_cons_zero, List.set_cons_succ]
  refine hand_take (i := 6) (d := some 7) (v := ?_) rfl (by kernel_rfl) (by kernel_rfl) (by kernel_rfl) (fun _ _ _ h => h) ?_ hHeld ?_
  rotate_left
  · intro o ho
    simp at ho
    subst ho
    intro wz hSw
    try dsimp only at hSw
    go_simp
    try with_reducible rfl
  try simp only [Act.put, List.setIfInBounds_toArray, List.set_cons_zero, List.set_cons_succ]
  refine hand_take (i := 7) (d := some 8) (v := ?_) rfl (by kernel_rfl) (by kernel_rfl) (by kernel_rfl) (fun _ _ _ h => h) ?_ hHeld ?_
  rotate_left
  · intro o ho
    simp at ho
    subst ho
    intro wz hSw
    try dsimp only at hSw
    go_simp
    try with_reducible rfl
  try simp only [Act.put, List.setIfInBounds_toArray, List.set_cons_zero, List.set_cons_succ]
  refine wpAnyH_done (by kernel_rfl) (NoPanic.normal ?_) _
  clear hHeld
  clear x0 x1
  go_wp2_with fail
  go_at_call 9
  refine (awake8_any _).mono ?_
  rintro e w1 ⟨rfl, hb1⟩
  have hB1 : Below w.heap.size w w1 := hb0.drew.trans (hb1.mono (by have := hb0.size; exact this))
  clear hb1 hb0 hw0
  have s1 := hB1.size
  replace hB1 := hide hB1
  by_cases c : f < 0 ∨ 1000 < f
  · rcases c with c | c
    all_goals
      go_wp2_with fail
      go_at_call 9
      refine (awake8_any _).mono ?_
      rintro e w3 ⟨rfl, hb3⟩
      replace hb3 := hide hb3
      go_wp2_with fail
      go_ret
      exact ⟨rfl, (unhide hB1).trans ((unhide hb3).mono (by omega))⟩
  have f0 : 0 ≤ f := by omega
  have f1 : f ≤ 1000 := by omega
  clear c
  go_wp2_with fail
  go_at_call 10
  refine (new_c S W _).mono ?_
  rw [clampZ_id S0 S1, clampZ_id W0 W1]
  rintro e w2 ⟨p, F, rfl, hn, hb2, hF⟩
  have hB2 : Hid (Below w.heap.size w w2) := (unhide hB1).trans (hb2.mono (by omega))
  have hF2 : Hid (∀ b, F b → w.heap.size ≤ b) := fun b hb => Nat.le_trans s1 (hF b hb)
  replace hn := hide hn
  clear hB1 hb2 hF s1
  go_wp2_with fail
  go_at_call 26
  obtain ⟨N, hN⟩ : ∃ N, Hid (modZ n 40 = N) := ⟨_, rfl⟩
  refine (refMod_any n 40 _ (by decide)).mono ?_
  have bN := modZ_bd n 40
  rw [hN.out] at bN ⊢
  rintro e w' ⟨rfl, hw'⟩
  rw [hw']
  clear hw' w'
  obtain ⟨N, rfl⟩ : ∃ m : Nat, N = m := ⟨N.toNat, by omega⟩
  have hN40 : N < 40 := by have := bN.2.2 (by decide); omega
  obtain ⟨Wn, rfl⟩ : ∃ m : Nat, W = m := ⟨W.toNat, by omega⟩
  clear bN
  go_wp2_with fail
  go_loopw [40] (fun i wr => ∃ (j : Nat) (F : Nat → Prop), j ≤ N ∧ i = .int .i64 j ∧ LnIs wr p F S Wn (ordL f S Wn j) ∧ (∀ b, F b → w.heap.size ≤ b) ∧ Below w.heap.size w wr) (fun i _ => N - (intOf i).toNat)
  case atStart => exact ⟨0, F, Nat.zero_le _, rfl, by simpa [ordL, runL] using unhide hn, unhide hF2, unhide hB2⟩
  case round =>
    obtain ⟨j, G, hj, rfl, hE, hG, hb⟩ := hrel
    clear hn hF2 hB2
    by_cases hlt : j < N
    · have hlt' : (j : Int) < N := by omega
      obtain ⟨M, hM⟩ : ∃ M, (j : Int) * S = M := ⟨_, rfl⟩
      have hM0 : 0 ≤ M := by rw [← hM]; exact Int.mul_nonneg (Int.natCast_nonneg j) (by omega)
      have hM1 : M ≤ 40 * 64 := by rw [← hM]; exact Int.mul_le_mul (by omega) S1 (by omega) (by decide)
      have hMw : IntKind.i64.wrap ((j : Int) * S) = M := by rw [hM, IntKind.wrap_i64]; omega
      obtain ⟨X, hX⟩ : ∃ X, f + M = X := ⟨_, rfl⟩
      have hXw : IntKind.i64.wrap (f + M) = X := by rw [hX, IntKind.wrap_i64]; omega
      have hX1 : X ≤ 9223372036854775807 := by omega
      by_cases cw : j < Wn
      · have k := ord_less (W := Wn) rfl S0 f0 cw
        rw [hM, hX] at k
        obtain ⟨k1, k2, k3⟩ := k
        replace k1 := hide k1
        replace k2 := hide k2
        replace k3 := hide k3
        have cw' : ¬ (Wn : Int) ≤ j := by omega
        replace hE := hide hE
        replace hb := hide hb
        replace hM := hide hM
        replace hX := hide hX
        go_wp2_with fail
        go_at_call 18
        refine (victim_c p G S Wn X (-1) _ wr (unhide hE)).mono ?_
        rw [k1.out]
        rintro e w3 ⟨rfl, n3, rfl⟩
        go_wp2_with fail
        go_at_call 12
        refine (add_c p G S Wn X _ _ ((unhide hE).drewN _) hX1).mono ?_
        rw [k2.out, k3.out]
        rintro e w4 ⟨rfl, G4, hn4, st4⟩
        replace hn4 := hide hn4
        replace st4 := hide st4
        go_wp2_with fail
        go_roundw
        case rel =>
          have s1 := (unhide hb).size
          refine ⟨j + 1, G4, by omega, by simp, unhide hn4, fun b hb' => ?_, (belowN (unhide hb) _).trans ((unhide st4).fr.below hG s1)⟩
          rcases (unhide st4).new b hb' with h1 | h1
          · exact hG b h1
          · exact Nat.le_trans s1 h1
        case measure => simp [intOf]; omega
      · have k := ord_more (W := Wn) rfl (by omega) S0 f0 (show Wn ≤ j by omega)
        rw [hM, hX] at k
        obtain ⟨d, hd⟩ : ∃ d, (j : Int) - Wn = d := ⟨_, rfl⟩
        obtain ⟨M2, hM2⟩ : ∃ M2, d * S = M2 := ⟨_, rfl⟩
        have hM20 : 0 ≤ M2 := by rw [← hM2]; exact Int.mul_nonneg (by omega) (by omega)
        have hM21 : M2 ≤ 40 * 64 := by rw [← hM2]; exact Int.mul_le_mul (by omega) S1 (by omega) (by decide)
        have hM2w : IntKind.i64.wrap (d * S) = M2 := by rw [hM2, IntKind.wrap_i64]; omega
        have hdw : IntKind.i64.wrap ((j : Int) - Wn) = d := by rw [hd, IntKind.wrap_i64]; omega
        obtain ⟨V, hV⟩ : ∃ V, f + M2 = V := ⟨_, rfl⟩
        have hVw : IntKind.i64.wrap (f + M2) = V := by rw [hV, IntKind.wrap_i64]; omega
        rw [hd, hM2, hV] at k
        obtain ⟨k1, k2, k3, k4, k5⟩ := k
        replace k1 := hide k1
        replace k2 := hide k2
        replace k3 := hide k3
        replace k4 := hide k4
        have cw' : (Wn : Int) ≤ j := by omega
        replace hE := hide hE
        replace hb := hide hb
        replace hM := hide hM
        replace hX := hide hX
        go_wp2_with fail
        go_at_call 18
        refine (victim_c p G S Wn X (-1) _ wr (unhide hE)).mono ?_
        rw [k1.out]
        rintro e w3 ⟨rfl, n3, rfl⟩
        go_wp2_with fail
        go_at_call 16
        refine (remove_c p G S Wn V _ _ ((unhide hE).drewN _)).mono ?_
        rw [k2.out]
        rintro e w4 ⟨rfl, G4, hn4, st4⟩
        replace hn4 := hide hn4
        replace st4 := hide st4
        go_wp2_with fail
        go_at_call 12
        refine (add_c p G4 S Wn X _ w4 (unhide hn4) hX1).mono ?_
        rw [k3.out, k4.out]
        rintro e w5 ⟨rfl, G5, hn5, st5⟩
        replace hn5 := hide hn5
        replace st5 := hide ((unhide st4).trans st5)
        go_wp2_with fail
        go_roundw
        case rel =>
          have s1 := (unhide hb).size
          refine ⟨j + 1, G5, by omega, by simp, unhide hn5, fun b hb' => ?_, (belowN (unhide hb) _).trans ((unhide st5).fr.below hG s1)⟩
          rcases (unhide st5).new b hb' with h1 | h1
          · exact hG b h1
          · exact Nat.le_trans s1 h1
        case measure => simp [intOf]; omega
    · obtain rfl : j = N := by omega
      replace hE := hide hE
      replace hb := hide hb
      go_wp2_with fail
      go_at_call 23
      refine (list_c p G S Wn _ wr (unhide hE)).mono ?_
      rintro e w3 ⟨v3, g3, rfl, hg3, hO3, hb3⟩
      obtain ⟨ao3, cap3, rfl, _⟩ := hO3
      have hfin : Hid (Below w.heap.size w w3) := (unhide hb).trans (hb3.mono (unhide hb).size)
      have hl : (listA (ordL f S Wn j)).length = min j Wn := by rw [listA_len, ordL, runL_len]
      rw [hl]
      clear hl hg3 hb3
      go_wp2_with fail
      go_ret
      refine ⟨?_, unhide hfin⟩
      simp
      omega
end Go.Proofs.Ytameolfdbmepmaa
