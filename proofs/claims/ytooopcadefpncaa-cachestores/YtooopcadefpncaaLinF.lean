/- The contracts of package lines: Remove, Use (layer 8). -/
import Derived.Test.YtooopcadefpncaaLinE
namespace Go.Proofs.Ytooopcadefpncaa
open Go.ChangeShapes Go.WideShapes Go.ChangeAt Go.RowKit
set_option linter.unusedSimpArgs false
set_option linter.unusedVariables false
set_option maxRecDepth 10000

attribute [local go_sem, local simp] over_const setCell_drewN alloc_drewN Over.cell Over.frozen lt_s1 lt_s2 lt_s3 le_s0 le_s1 le_s2 le_s3 eq_s0 eq_s1 eq_s2 qe_s0

set_option maxHeartbeats 2000000 in
theorem remove_c (p : Nat) (Ft : Nat → Prop) (S W x : Int) (A : List Int) (w : World) (h : LnIs w p Ft S W A) : Calls Try.prog 52 #[ptr p, .int .i64 x] w fun e w' => e = .returned (.bool (okRem A x)) ∧ ∃ Ft', LnIs w' p Ft' S W (A.erase x) ∧ Step Ft Ft' w w' := by
  have hh := hide h
  have s1 := h.inv.s1
  have c0 := hide h.c0
  have hI := hide (h.inv.rem x)
  obtain ⟨m, rows, D, k, v, hk, c2, hl, hv⟩ := h.find x
  have hlen := h.inv.plen k
  have hV := hide (unhide hv).1.view
  obtain ⟨L, hL⟩ : ∃ L, Hid (part S A k = L) := ⟨_, rfl⟩
  rw [hL.out] at hlen hV
  have hl0 : (Instr.lookup 84 (.map (some m)) (.int .i64 k) false).run Try.prog w = .ok v w := unhide hl _ rfl
  have hmem : x ∈ L ↔ x ∈ A := by rw [← hL.out, ← hk.out]; exact mem_part
  obtain ⟨i, hi⟩ : ∃ i, Hid (idxF L x = i) := ⟨_, rfl⟩
  by_cases xa : x ∈ A
  · have e1 : okRem A x = true := by simp [okRem, xa]
    rw [e1]
    have hxL := hmem.2 xa
    have hbd := idxF_bd L x
    have hne : ¬ idxF L x = -1 := fun e => (idxF_neg L x).1 e hxL
    have her := idxF_erase L x hxL
    rw [hi.out] at hbd hne her
    obtain ⟨kk, rfl⟩ : ∃ kk : Nat, i = kk := ⟨i.toNat, by omega⟩
    have hkk : kk < L.length := by omega
    rw [Int.toNat_natCast] at her
    obtain ⟨n, hn⟩ : ∃ n, Hid (L.length = n) := ⟨_, rfl⟩
    have hO := (unhide hv).1
    rw [hL.out] at hO
    obtain ⟨ao, cap, rfl, hle, hmx, hg, hown⟩ := hO
    rcases hown with ⟨_, rfl⟩ | ⟨o, rfl, hc, hsp⟩
    · omega
    obtain ⟨j, hj⟩ : ∃ j : Nat, Hid (kk + 1 = j) := ⟨_, rfl⟩
    have hwr : IntKind.i64.wrap ((kk : Int) + 1) = (j : Int) := by have := hj.out; rw [IntKind.wrap_i64]; omega
    have hdel := hide (fun w' (e : w'.heap = w.heap) => delete_c (rows k) o cap kk j L w' hj.out hkk hle hmx (by omega) (by rw [e]; exact hg) (fun t ht => by rw [← hc t ht]; simp only [World.cell?, e]) (fun t ht => by have := hsp t ht; simp only [World.cell?, World.frozen?, e] at this ⊢; exact this))
    rw [hn.out] at hl0 hdel hV hl hv
    clear h hc hsp hbd hne hmem hxL
    go_enter Try.func52, Try.ntmps52
    go_wp2_with (first | (go_at_call 67; refine (set_c p S x w (unhide c0) s1).mono ?_; rw [hk.out]; rintro e w' ⟨rfl, hw'⟩; rw [hw']; clear hw' w') | (go_at_call 68; refine (index_c _ (rows k) L x w (unhide hV)).mono ?_; rw [hi.out]; rintro e w' ⟨rfl, hw'⟩; rw [hw']; clear hw' w'))
    refine wp_region_noPanic ?_
    refine wp_region_held_drew (S := fun w' => w'.cell? ⟨p, 2, none⟩ = some (.map (some m))) (by kernel_rfl) ?_ (fun hHeld => ?_)
    · exact c2
    refine hand_take (i := 0) (d := some 20) (v := ?_) rfl (by kernel_rfl) (by kernel_rfl) (by kernel_rfl) (fun _ _ _ h => h) ?_ hHeld ?_
    rotate_left
    · intro o ho
      simp at ho
      subst ho
      intro wz hSw
      try dsimp only at hSw
      go_simp
      try with_reducible rfl
    try simp only [Act.put, List.setIfInBounds_toArray, List.set_cons_zero, List.set_cons_succ]
    refine hand_take (i := 1) (d := some 21) (v := ?_) rfl (by kernel_rfl) (by kernel_rfl) (by kernel_rfl) (fun _ _ _ h => h) ?_ hHeld ?_
    rotate_left
    · intro o ho
      simp at ho
      subst ho
      intro wz hSw
      try dsimp only at hSw
      go_simp
      try with_reducible rfl
    try simp only [Act.put, List.setIfInBounds_toArray, List.set_cons_zero, List.set_cons_succ]
    refine hand_take (i := 2) (d := some 22) (v := ?_) rfl (by kernel_rfl) (by kernel_rfl) (by kernel_rfl) (fun _ _ _ h => h) ?_ hHeld ?_
    rotate_left
    · intro o ho
      simp at ho
      subst ho
      intro wz hSw
      try dsimp only at hSw
      go_simp
      try with_reducible rfl
    try simp only [Act.put, List.setIfInBounds_toArray, List.set_cons_zero, List.set_cons_succ]
    refine hand_take (i := 3) (d := some 23) (v := ?_) rfl (by kernel_rfl) (by kernel_rfl) (by kernel_rfl) (fun _ _ _ h => h) ?_ hHeld ?_
    rotate_left
    · intro o ho
      simp at ho
      subst ho
      intro wz hSw
      try dsimp only at hSw
      go_simp
      try with_reducible rfl
    try simp only [Act.put, List.setIfInBounds_toArray, List.set_cons_zero, List.set_cons_succ]
    refine hand_take (i := 4) (d := some 24) (v := ?_) rfl (by kernel_rfl) (by kernel_rfl) (by kernel_rfl) (fun _ _ _ h => h) ?_ hHeld ?_
    rotate_left
    · intro o ho
      simp at ho
      subst ho
      intro wz hSw
      try dsimp only at hSw
      go_simp
      try with_reducible rfl
    try simp only [Act.put, List.setIfInBounds_toArray, List.set_cons_zero, List.set_cons_succ]
    refine hand_take (i := 5) (d := some 25) (v := ?_) rfl (by kernel_rfl) (by kernel_rfl) (by kernel_rfl) (fun _ _ _ h => h) ?_ hHeld ?_
    rotate_left
    · intro o ho
      simp at ho
      subst ho
      intro wz hSw
      try dsimp only at hSw
      go_simp
      try with_reducible rfl
    try simp only [Act.put, List.setIfInBounds_toArray, List.set_cons_zero, List.set_cons_succ]
    refine hand_take (i := 6) (d := some 26) (v := ?_) rfl (by kernel_rfl) (by kernel_rfl) (by kernel_rfl) (fun _ _ _ h => h) ?_ hHeld ?_
    rotate_left
    · intro o ho
      simp at ho
      subst ho
      intro wz hSw
      try dsimp only at hSw
      go_simp
      try with_reducible rfl
    try simp only [Act.put, List.setIfInBounds_toArray, List.set_cons_zero, List.set_cons_succ]
    refine hand_take (i := 7) (d := some 27) (v := ?_) rfl (by kernel_rfl) (by kernel_rfl) (by kernel_rfl) (fun _ _ _ h => h) ?_ hHeld ?_
    rotate_left
    · intro o ho
      simp at ho
      subst ho
      intro wz hSw
      try dsimp only at hSw
      go_simp
      try with_reducible rfl
    try simp only [Act.put, List.setIfInBounds_toArray, List.set_cons_zero, List.set_cons_succ]
    refine hand_take (i := 8) (d := some 28) (v := ?_) rfl (by kernel_rfl) (by kernel_rfl) (by kernel_rfl) (fun _ _ _ h => h) ?_ hHeld ?_
    rotate_left
    · intro o ho
      simp at ho
      subst ho
      intro wz hSw
      try dsimp only at hSw
      go_simp
      try with_reducible rfl
    try simp only [Act.put, List.setIfInBounds_toArray, List.set_cons_zero, List.set_cons_succ]
    refine hand_take (i := 9) (d := some 29) (v := ?_) rfl (by kernel_rfl) (by kernel_rfl) (by kernel_rfl) (fun _ _ _ h => h) ?_ hHeld ?_
    rotate_left
    · intro o ho
      simp at ho
      subst ho
      intro wz hSw
      try dsimp only at hSw
      go_simp
      try with_reducible rfl
    try simp only [Act.put, List.setIfInBounds_toArray, List.set_cons_zero, List.set_cons_succ]
    refine hand_take (i := 11) (d := some 31) (v := ?_) rfl (by kernel_rfl) (by kernel_rfl) (by kernel_rfl) (fun _ _ _ h => h) ?_ hHeld ?_
    rotate_left
    · intro o ho
      simp at ho
      subst ho
      intro wz hSw
      try dsimp only at hSw
      go_simp
      try with_reducible rfl
    try simp only [Act.put, List.setIfInBounds_toArray, List.set_cons_zero, List.set_cons_succ]
    refine hand_take (i := 12) (d := some 32) (v := ?_) rfl (by kernel_rfl) (by kernel_rfl) (by kernel_rfl) (fun _ _ _ h => h) ?_ hHeld ?_
    rotate_left
    · intro o ho
      simp at ho
      subst ho
      intro wz hSw
      try dsimp only at hSw
      go_simp
      try with_reducible rfl
    try simp only [Act.put, List.setIfInBounds_toArray, List.set_cons_zero, List.set_cons_succ]
    refine hand_take (i := 13) (d := some 33) (v := ?_) rfl (by kernel_rfl) (by kernel_rfl) (by kernel_rfl) (fun _ _ _ h => h) ?_ hHeld ?_
    rotate_left
    · intro o ho
      simp at ho
      subst ho
      intro wz hSw
      try dsimp only at hSw
      go_simp
      try with_reducible rfl
    try simp only [Act.put, List.setIfInBounds_toArray, List.set_cons_zero, List.set_cons_succ]
    refine hand_call (i := 10) rfl (by kernel_rfl) ?_
    intro o ho
    simp at ho
    subst ho
    intro K hK
    refine wp_look (.tmp 28) (.tmp 29) rfl rfl rfl (unhide hl _ rfl) ?_
    refine hK.out _ _ ?_ (fun hHeld => ?_)
    · exact c2
    clear hK K
    try simp only [Act.put, List.setIfInBounds_toArray, List.set_cons_zero, List.set_cons_succ]
    refine hand_call (i := 14) rfl (by kernel_rfl) ?_
    intro o' ho
    simp at ho
    subst ho
    intro K hK
    go_simp
    go_at_call 69
    refine (unhide hdel w.drew rfl).mono ?_
    rintro e w1 ⟨rfl, hown, hf⟩
    have hx1 : (part S (A.erase x) k) = L.eraseIdx kk := by rw [her, ← hL.out]; have := part_erase_same S A x; rw [hk.out] at this; exact this
    obtain ⟨q1, w2, hr, q2, hfin⟩ := (unhide hh).after (D := D) c2 (v := .slice (some ⟨rows k, o, none⟩) n cap) (unhide hv) (unhide hI) ((FrS.of_below (Below.refl _ w).drew).trans hf (fun i hi => .inl hi)) (fun e => by cases e) (by rw [hx1]; exact hown) (.inl rfl) (fun _ e => by cases e) (fun j hj => part_erase_other (by rw [hk.out]; exact hj))
    replace hfin := hide hfin
    refine hK.out _ _ ?_ (fun hHeld => ?_)
    · exact q1
    clear hK K hown hf hx1
    try simp only [Act.put, List.setIfInBounds_toArray, List.set_cons_zero, List.set_cons_succ]
    refine hand_call (i := 15) rfl (by kernel_rfl) ?_
    intro o ho
    simp at ho
    subst ho
    intro K hK
    refine wp_upd (.tmp 23) (.tmp 24) (.tmp 34) rfl rfl rfl rfl hr ?_
    refine hK.out _ _ ?_ (fun hHeld => ?_)
    · exact q2
    clear hK K
    try simp only [Act.put, List.setIfInBounds_toArray, List.set_cons_zero, List.set_cons_succ]
    refine wpAnyH_done (by kernel_rfl) (NoPanic.normal ?_) _
    clear hHeld
    go_wp2_with fail
    go_ret
    obtain ⟨Ft', f1, f2⟩ := unhide hfin
    exact ⟨rfl, Ft', f1, f2⟩
  · have e1 : okRem A x = false := by simp [okRem, xa]
    have e2 : A.erase x = A := List.erase_of_not_mem xa
    have e3 := (idxF_neg L x).2 (fun e => xa (hmem.1 e))
    rw [hi.out] at e3
    subst e3
    rw [e1, e2]
    clear h hv hmem
    go_enter Try.func52, Try.ntmps52
    go_wp2_with (first | (go_at_call 67; refine (set_c p S x w (unhide c0) s1).mono ?_; rw [hk.out]; rintro e w' ⟨rfl, hw'⟩; rw [hw']; clear hw' w') | (go_at_call 68; refine (index_c _ (rows k) L x w (unhide hV)).mono ?_; rw [hi.out]; rintro e w' ⟨rfl, hw'⟩; rw [hw']; clear hw' w'))
    go_ret
    exact ⟨rfl, Ft, unhide hh, Step.refl _ _⟩

set_option maxHeartbeats 1000000 in
theorem use_c (p : Nat) (Ft : Nat → Prop) (S W x : Int) (A : List Int) (w : World) (h : LnIs w p Ft S W A) (hx : x ≤ 9223372036854775807) : Calls Try.prog 31 #[ptr p, .int .i64 x] w fun e w' => e = .returned (.bool (okRem A x)) ∧ ∃ Ft', LnIs w' p Ft' S W (nxUse A x) ∧ Step Ft Ft' w w' := by
  have hh := hide h
  have hI := hide h.inv
  obtain ⟨q, hq⟩ : ∃ q, Hid (okRem A x = q) := ⟨_, rfl⟩
  rw [hq.out]
  clear h
  cases q
  case false =>
    have xa : x ∉ A := by simpa [okRem] using hq.out
    have e2 : nxUse A x = A := by simp [nxUse, xa]
    rw [e2]
    clear xa
    go_enter Try.func31, Try.ntmps31
    go_wp2_with (go_at_call 52; refine (remove_c p Ft S W x A w (unhide hh)).mono ?_; rw [hq.out]; rintro e w' ⟨rfl, hfin⟩; replace hfin := hide hfin)
    go_ret
    have e3 : A.erase x = A := List.erase_of_not_mem (by simpa [okRem] using hq.out)
    rw [e3] at hfin
    exact ⟨rfl, unhide hfin⟩
  case true =>
    have xa : x ∈ A := by simpa [okRem] using hq.out
    have e2 : nxUse A x = A.erase x ++ [x] := by simp [nxUse, xa]
    have e3 := okAdd_erase (unhide hI) xa
    have e4 : nxAdd S W (A.erase x) x = A.erase x ++ [x] := by simp [nxAdd, e3]
    rw [e2]
    replace e4 := hide e4
    replace e3 := hide e3
    clear xa e2
    go_enter Try.func31, Try.ntmps31
    go_wp2_with (first | (go_at_call 52; refine (remove_c p Ft S W x A w (unhide hh)).mono ?_; rw [hq.out]; rintro e w1 ⟨rfl, Ft1, hn1, hs1⟩; replace hn1 := hide hn1; replace hs1 := hide hs1) | (go_at_call 53; refine (add_c p Ft1 S W x (A.erase x) w1 (unhide hn1) hx).mono ?_; rw [e3.out, e4.out]; rintro e w2 ⟨rfl, Ft2, hn2, hs2⟩; replace hn2 := hide hn2; replace hs2 := hide hs2))
    go_ret
    exact ⟨rfl, Ft2, unhide hn2, (unhide hs1).trans (unhide hs2)⟩
end Go.Proofs.Ytooopcadefpncaa
