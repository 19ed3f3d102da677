/- The contract of package lines' Victim (layer 8). -/
import Derived.Test.YtooopcadefpncaaLinF
namespace Go.Proofs.Ytooopcadefpncaa
open Go.ChangeShapes Go.WideShapes Go.ChangeAt Go.RowKit
set_option linter.unusedSimpArgs false
set_option linter.unusedVariables false
set_option maxRecDepth 10000

attribute [local go_sem, local simp] over_const setCell_drewN alloc_drewN Over.cell Over.frozen lt_s1 lt_s2 lt_s3 le_s0 le_s1 le_s2 le_s3 eq_s0 eq_s1 eq_s2 qe_s0

theorem firstNot_drop {L : List Int} {q : Int} {j : Nat} (h : j < L.length) : firstNot (L.drop j) q = if L[j] = q then firstNot (L.drop (j + 1)) q else (L[j], true) := by
  rw [List.drop_eq_getElem_cons h]
  rfl

theorem firstNot_end {L : List Int} {q : Int} {j : Nat} (h : L.length ≤ j) : firstNot (L.drop j) q = (-1, false) := by
  rw [List.drop_eq_nil_of_le h]
  rfl

set_option maxHeartbeats 2000000 in
theorem victim_c (p : Nat) (Ft : Nat → Prop) (S W x q : Int) (A : List Int) (w : World) (h : LnIs w p Ft S W A) : Calls Try.prog 55 #[ptr p, .int .i64 x, .int .i64 q] w fun e w' => e = .returned (.tuple #[.int .i64 (vicA S W A x q).1, .bool (vicA S W A x q).2]) ∧ ∃ n, w' = w.drewN n := by
  have hh := hide h
  have s1 := h.inv.s1
  have c0 := hide h.c0
  obtain ⟨r, hr⟩ : ∃ r, Hid (vicA S W A x q = r) := ⟨_, rfl⟩
  rw [hr.out]
  by_cases x0 : x < 0
  · obtain rfl : r = (-1, false) := by rw [← hr.out, vicA, if_pos x0]
    clear h
    go_enter Try.func55, Try.ntmps55
    go_wp2_with fail
    go_returns
    exact ⟨rfl, 0, rfl⟩
  by_cases xa : x ∈ A
  · obtain rfl : r = (-1, true) := by rw [← hr.out, vicA, if_neg x0, if_pos (.inl xa)]
    have e3 : decide (x ∈ A) = true := by simpa using xa
    clear h xa
    go_enter Try.func55, Try.ntmps55
    go_wp2_with (go_at_call 70; refine (has_c p Ft S W x A _ (unhide hh)).mono ?_; rw [e3]; rintro e w' ⟨rfl, n, rfl⟩)
    go_returns
    exact ⟨rfl, _, rfl⟩
  have e3 : decide (x ∈ A) = false := by simpa using xa
  cases hfl : fullA S W A x
  case false =>
    obtain rfl : r = (-1, true) := by rw [← hr.out, vicA, if_neg x0, if_pos (.inr hfl)]
    clear h xa
    go_enter Try.func55, Try.ntmps55
    go_wp2_with (first | (go_at_call 70; refine (has_c p Ft S W x A _ (unhide hh)).mono ?_; rw [e3]; rintro e w' ⟨rfl, n, rfl⟩) | (go_at_call 71; refine (full_c p Ft S W x A _ ((unhide hh).drewN _)).mono ?_; rw [hfl]; rintro e w' ⟨rfl, n', rfl⟩))
    go_returns
    exact ⟨rfl, _, rfl⟩
  case true =>
    obtain ⟨m, rows, D, k, v, hk, c2, hl, hv⟩ := h.find x
    have hlen := h.inv.plen k
    have hV := hide (unhide hv).1.view
    obtain ⟨L, hL⟩ : ∃ L, Hid (part S A k = L) := ⟨_, rfl⟩
    rw [hL.out] at hlen hV
    have hr' : Hid (firstNot L q = r) := by rw [← hr.out, vicA, if_neg x0, if_neg (by simp [xa, hfl]), hk.out, hL.out]; exact rfl
    obtain ⟨ao, cap, rfl, _, _⟩ := unhide hV
    clear h xa hv
    go_enter Try.func55, Try.ntmps55
    go_wp2_with (first | (go_at_call 70; refine (has_c p Ft S W x A _ (unhide hh)).mono ?_; rw [e3]; rintro e w' ⟨rfl, n, rfl⟩) | (go_at_call 71; refine (full_c p Ft S W x A _ ((unhide hh).drewN _)).mono ?_; rw [hfl]; rintro e w' ⟨rfl, n', rfl⟩))
    refine wp_region_noPanic ?_
    obtain ⟨w0, hw0⟩ : ∃ w0, (w.drewN (n + n')).drew = w0 := ⟨_, rfl⟩
    have hw1 : Hid (∃ n, w0 = w.drewN n) := ⟨n + n' + 1, by rw [← hw0]; rfl⟩
    have hV0 : Hid (View w0 (.slice ao L.length cap) (rows k) L) := (unhide hV).carry fun _ _ => by rw [← hw0]; rfl
    have c20 : w0.cell? ⟨p, 2, none⟩ = some (.map (some m)) := by rw [← hw0]; exact c2
    have c00 : Hid (w0.cell? ⟨p, 0, none⟩ = some (.int .i64 S)) := by rw [← hw0]; exact c0
    have hl0 : (Instr.lookup 84 (.map (some m)) (.int .i64 k) false).run Try.prog w0 = .ok (.slice ao L.length cap) w0 := unhide hl _ (by rw [← hw0]; rfl)
    refine wp_region_held_drew (S := fun w' => w' = w0 ∧ w'.cell? ⟨p, 2, none⟩ = some (.map (some m)) ∧ (Instr.lookup 84 (.map (some m)) (.int .i64 k) false).run Try.prog w' = .ok (.slice ao L.length cap) w') (by kernel_rfl) ?_ (fun hHeld => ?_)
    · rw [hw0]; exact ⟨rfl, c20, hl0⟩
    rw [hw0] at hHeld ⊢
    clear hw0 c2 hl hV c0 hh
    refine hand_take (i := 0) (d := some 21) (v := ?_) rfl (by kernel_rfl) (by kernel_rfl) (by kernel_rfl) (fun _ _ _ h => h) ?_ hHeld ?_
    rotate_left
    · intro o ho
      simp at ho
      subst ho
      intro wz hSw
      try dsimp only at hSw
      go_simp
      try with_reducible rfl
    try simp only [Act.put, List.setIfInBounds_toArray, List.set_cons_zero, List.set_cons_succ]
    refine hand_take (i := 1) (d := some 22) (v := ?_) rfl (by kernel_rfl) (by kernel_rfl) (by kernel_rfl) (fun _ _ _ h => h) ?_ hHeld ?_
    rotate_left
    · intro o ho
      simp at ho
      subst ho
      intro wz hSw
      try dsimp only at hSw
      go_simp
      try with_reducible rfl
    try simp only [Act.put, List.setIfInBounds_toArray, List.set_cons_zero, List.set_cons_succ]
    refine hand_take (i := 2) (d := some 23) (v := ?_) rfl (by kernel_rfl) (by kernel_rfl) (by kernel_rfl) (fun _ _ _ h => h) ?_ hHeld ?_
    rotate_left
    · intro o ho
      simp at ho
      subst ho
      intro wz hSw
      try dsimp only at hSw
      go_simp
      try with_reducible rfl
    try simp only [Act.put, List.setIfInBounds_toArray, List.set_cons_zero, List.set_cons_succ]
    refine hand_take (i := 3) (d := some 24) (v := ?_) rfl (by kernel_rfl) (by kernel_rfl) (by kernel_rfl) (fun _ _ _ h => h) ?_ hHeld ?_
    rotate_left
    · intro o ho
      simp at ho
      subst ho
      intro wz hSw
      try dsimp only at hSw
      go_simp
      try with_reducible rfl
    try simp only [Act.put, List.setIfInBounds_toArray, List.set_cons_zero, List.set_cons_succ]
    refine hand_take (i := 4) (d := some 25) (v := ?_) rfl (by kernel_rfl) (by kernel_rfl) (by kernel_rfl) (fun _ _ _ h => h) ?_ hHeld ?_
    rotate_left
    · intro o ho
      simp at ho
      subst ho
      intro wz hSw
      try dsimp only at hSw
      go_simp
      try with_reducible rfl
    try simp only [Act.put, List.setIfInBounds_toArray, List.set_cons_zero, List.set_cons_succ]
    refine hand_take (i := 5) (d := some 26) (v := ?_) rfl (by kernel_rfl) (by kernel_rfl) (by kernel_rfl) (fun _ _ _ h => h) ?_ hHeld ?_
    rotate_left
    · intro o ho
      simp at ho
      subst ho
      intro wz hSw
      try dsimp only at hSw
      go_simp
      try with_reducible rfl
    try simp only [Act.put, List.setIfInBounds_toArray, List.set_cons_zero, List.set_cons_succ]
    refine hand_take (i := 9) (d := some 30) (v := ?_) rfl (by kernel_rfl) (by kernel_rfl) (by kernel_rfl) (fun _ _ _ h => h) ?_ hHeld ?_
    rotate_left
    · intro o ho
      simp at ho
      subst ho
      intro wz hSw
      try dsimp only at hSw
      go_simp
      try with_reducible rfl
    try simp only [Act.put, List.setIfInBounds_toArray, List.set_cons_zero, List.set_cons_succ]
    refine hand_call (i := 6) rfl (by kernel_rfl) ?_
    intro o ho
    simp at ho
    subst ho
    intro K hK
    go_simp; go_at_call 67; refine (set_c p S x w0 (unhide c00) s1).mono ?_; rw [hk.out]; rintro e w' ⟨rfl, hw'⟩; rw [hw']; clear hw' w'
    refine hK.out _ _ ?_ (fun hHeld => ?_)
    · exact ⟨rfl, c20, hl0⟩
    clear hK K
    try simp only [Act.put, List.setIfInBounds_toArray, List.set_cons_zero, List.set_cons_succ]
    refine hand_take (i := 7) (d := some 28) (v := ?_) rfl (by kernel_rfl) (by kernel_rfl) (by kernel_rfl) (fun _ _ _ h => h) ?_ hHeld ?_
    rotate_left
    · intro o ho
      simp at ho
      subst ho
      intro wz hSw
      try dsimp only at hSw
      go_simp
      try with_reducible rfl
    try simp only [Act.put, List.setIfInBounds_toArray, List.set_cons_zero, List.set_cons_succ]
    refine hand_take (i := 8) (d := some 29) (v := ?_) rfl (by kernel_rfl) (by kernel_rfl) (by kernel_rfl) (fun _ _ _ h => h) ?_ hHeld ?_
    rotate_left
    · intro o ho
      simp at ho
      subst ho
      intro wz hSw
      try dsimp only at hSw
      go_simp
      try with_reducible rfl
    try simp only [Act.put, List.setIfInBounds_toArray, List.set_cons_zero, List.set_cons_succ]
    refine wpAnyH_done (by kernel_rfl) (NoPanic.normal ?_) _
    clear hHeld
    clear hl0 c20 c00
    go_wp2_with fail
    go_loopw [30] (fun i wr => ∃ j : Nat, j ≤ L.length ∧ i = .int .i64 j ∧ wr = w0 ∧ Hid (firstNot (L.drop j) q = r)) (fun i _ => L.length - (intOf i).toNat)
    case atStart => exact ⟨0, Nat.zero_le _, rfl, rfl, hr'⟩
    case round =>
      obtain ⟨j, hj, rfl, hwr, ha⟩ := hrel
      subst hwr
      by_cases hlt : j < L.length
      · obtain ⟨_, _, _, hc⟩ := view_at (unhide hV0) rfl
        obtain ⟨o, rfl, hb, hcell⟩ := hc j hlt
        obtain ⟨y, hy⟩ : ∃ y, L[j] = y := ⟨_, rfl⟩
        rw [hy] at hcell
        have ha' := ha.out
        rw [firstNot_drop hlt, hy] at ha'
        have hlt' : (j : Int) < L.length := by omega
        clear ha hc hy
        by_cases c : y = q
        · subst c
          rw [if_pos rfl] at ha'
          replace ha' := hide ha'
          go_wp2_with fail
          go_roundw
          case rel => exact ⟨j + 1, by omega, by simp, trivial, unhide ha'⟩
          case measure => simp [intOf]; omega
        · rw [if_neg c] at ha'
          obtain rfl : r = (y, true) := ha'.symm
          clear ha'
          go_wp2_with fail
          go_returns
          exact ⟨rfl, unhide hw1⟩
      · obtain rfl : j = L.length := by omega
        have ha' := ha.out
        rw [firstNot_end (Nat.le_refl _)] at ha'
        obtain rfl : r = (-1, false) := ha'.symm
        clear ha' ha
        go_wp2_with fail
        go_returns
        exact ⟨rfl, unhide hw1⟩
end Go.Proofs.Ytooopcadefpncaa
