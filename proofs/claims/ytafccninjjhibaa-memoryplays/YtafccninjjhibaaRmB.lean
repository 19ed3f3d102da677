/- The document's memory: New, Put, Take (layer 10). -/
import Derived.Test.YtafccninjjhibaaRmA
namespace Go.Proofs.Ytafccninjjhibaa
open Go.ChangeShapes Go.WideShapes Go.ChangeAt Go.RowKit
set_option linter.unusedSimpArgs false
set_option linter.unusedVariables false
set_option maxRecDepth 10000

attribute [local go_sem, local simp] over_const setCell_drewN alloc_drewN Over.cell Over.frozen lt_s1 lt_s2 lt_s3 le_s0 le_s1 le_s2 le_s3 eq_s0 eq_s1 eq_s2 qe_s0

set_option maxHeartbeats 1000000 in
theorem refNew_c (s t : Int) (w : World) : Calls Try.prog 11 #[.int .i64 s, .int .i64 t] w fun e w' => ∃ v g, e = .returned v ∧ OwnB w' v g (newM s t) ∧ w.heap.size ≤ g ∧ Below w.heap.size w w' := by
  obtain ⟨n, hn⟩ : ∃ n : Nat, clampZ s 0 64 = n := ⟨(clampZ s 0 64).toNat, by have := clampZ_in s 0 64 (by decide); omega⟩
  have hn64 : n ≤ 64 := by have := clampZ_in s 0 64 (by decide); omega
  have hL : Hid (newM s t = List.replicate n (fullB t 0)) := by unfold newM Hid; rw [hn]; simp
  obtain ⟨f, hf⟩ : ∃ f, fullB t 0 = f := ⟨_, rfl⟩
  rw [hf] at hL
  replace hn := hide hn
  go_enter Try.func11, Try.ntmps11
  go_wp2_with fail
  go_loopw [5, 6] (fun out i wr => ∃ j g : Nat, j ≤ n ∧ i = .int .i64 j ∧ OwnB wr out g (List.replicate j f) ∧ w.heap.size ≤ g ∧ Below w.heap.size w wr) (fun _ i _ => n - (intOf i).toNat)
  case atStart => exact ⟨0, w.heap.size, Nat.zero_le _, rfl, own_emptyB _ _, Nat.le_refl _, (Below.refl _ _).alloc (Nat.le_refl _) _⟩
  case round =>
    obtain ⟨j, g, hj, rfl, hO, hg, hb⟩ := hrel
    have hO' := hide hO
    obtain ⟨ao, cap, rfl, -⟩ := hO
    have hl1 : (List.replicate j f).length = j := by simp
    rw [hl1] at hO' ⊢
    have hh1 : (List.replicate j f).length + [f].length ≤ 1000000 := by simp; omega
    have hh2 : (List.replicate j f).length + [f].length = j + 1 := by simp
    have hst : List.replicate j f ++ [f] = List.replicate (j + 1) f := by rw [List.replicate_succ']
    replace hh1 := hide hh1
    replace hh2 := hide hh2
    replace hst := hide hst
    replace hl1 := hide hl1
    replace hb := hide hb
    go_wp2_with fail
    go_at_call 23
    refine (refClamp_any s 0 64 _).mono ?_
    rw [hn.out]
    rintro e w' ⟨rfl, hw'⟩
    rw [hw']
    clear hw' w'
    by_cases hlt : j < n
    · have hlt' : (j : Int) < n := by omega
      by_cases c : t < 1
      · obtain rfl : bun0 = f := by rw [← hf]; simp [fullB, c]
        replace hf := hide hf
        go_wp2_with (at_builtin; refine wpList_appB rfl _ _ rfl rfl rfl ((unhide hO').alloc _) (view_oneB _ bun0) (unhide hh1) (j + 1) (unhide hh2) ?_; intro ao2 cap2 w3 g2 hown2 hap2; replace hown2 := hide hown2; replace hap2 := hide hap2)
        go_roundw
        case rel =>
          have hap := unhide hap2
          have s1 := (unhide hb).size
          refine ⟨j + 1, g2, by omega, by simp, ?_, ?_, ((unhide hb).alloc s1 _).trans (hap.fr.below (fun i hi => by rw [hi]; exact hg) (by simp; omega))⟩
          · rw [← unhide hst]; exact unhide hown2
          · rcases hap.lies with e | e
            · omega
            · simp at e; omega
        case measure => simp [intOf]; omega
      · obtain rfl : (⟨t, true, true, 0⟩ : Bun) = f := by rw [← hf]; simp [fullB, c]
        replace hf := hide hf
        go_wp2_with (at_builtin; refine wpList_appB rfl _ _ rfl rfl rfl ((unhide hO').alloc _) (view_oneB _ ⟨t, true, true, 0⟩) (unhide hh1) (j + 1) (unhide hh2) ?_; intro ao2 cap2 w3 g2 hown2 hap2; replace hown2 := hide hown2; replace hap2 := hide hap2)
        go_roundw
        case rel =>
          have hap := unhide hap2
          have s1 := (unhide hb).size
          refine ⟨j + 1, g2, by omega, by simp, ?_, ?_, ((unhide hb).alloc s1 _).trans (hap.fr.below (fun i hi => by rw [hi]; exact hg) (by simp; omega))⟩
          · rw [← unhide hst]; exact unhide hown2
          · rcases hap.lies with e | e
            · omega
            · simp at e; omega
        case measure => simp [intOf]; omega
    · obtain rfl : j = n := by omega
      go_wp2_with fail
      go_ret
      exact ⟨_, g, rfl, by rw [hL.out]; exact unhide hO', hg, unhide hb⟩

set_option maxHeartbeats 1000000 in
theorem refPut_c (v : Value) (g : Nat) (N M x : Int) (b : Bun) (L : List Bun) (w : World) (h : ViewB w v g L) (hI : MInv N L) (hb : okB b) (hM : b.n ≤ M) (hN : N + M ≤ 4611686018427387904) (q : Bool) (hq : Hid (hasM L x = q)) (L' : List Bun) (hL : Hid (putM L x b = L')) : Calls Try.prog 12 #[v, .int .i64 x, bunV b] w fun e w' => ∃ v', e = .returned (.tuple #[v', .bool q]) ∧ ∃ g', ViewB w' v' g' L' ∧ (g' = g ∨ w.heap.size ≤ g') ∧ Below w.heap.size w w' := by
  have hlen := hI.len
  have hV := hide h
  obtain ⟨ao, cap, rfl, -⟩ := h
  obtain ⟨n, hn⟩ : ∃ n, Hid (L.length = n) := ⟨_, rfl⟩
  have hq' := hq.out
  unfold hasM at hq'
  rw [hn.out] at hV hlen hq' ⊢
  cases q
  · obtain rfl : L = L' := by rw [← hL.out]; exact (putM_out hq.out b).symm
    by_cases a : x < 0
    · clear hq'
      go_enter Try.func12, Try.ntmps12
      go_wp2_with fail
      go_returns
      exact ⟨_, rfl, g, (unhide hV).alloc _, .inl rfl, (Below.refl _ _).alloc (Nat.le_refl _) _⟩
    · have a2 : ¬ x < (n : Int) := by simp at hq'; omega
      clear hq'
      go_enter Try.func12, Try.ntmps12
      go_wp2_with fail
      go_returns
      exact ⟨_, rfl, g, (unhide hV).alloc _, .inl rfl, (Below.refl _ _).alloc (Nat.le_refl _) _⟩
  · clear hq'
    obtain ⟨j, rfl, hj⟩ := hasM_at hq.out
    obtain ⟨c, hc⟩ : ∃ c, L[j] = c := ⟨_, rfl⟩
    have hcI := hI.at' hj
    obtain rfl : L.set j (joinB c b) = L' := by rw [← hL.out, ← hc]; exact (putM_nat hj b).symm
    rw [hc] at hcI
    have hs1 : -9223372036854775808 ≤ c.n + b.n := by have := hcI.1.1; have := hb.1; omega
    have hs2 : c.n + b.n ≤ 9223372036854775807 := by have := hcI.2; omega
    have hcd := hide hcI.1.2.2.2
    obtain ⟨r, hr⟩ : ∃ r, Hid (joinB c b = r) := ⟨_, rfl⟩
    rw [hr.out] at hL ⊢
    replace hb := hide hb
    replace hI := hide hI
    clear hcI
    have hj' : (j : Int) < n := by have := hn.out; omega
    go_enter Try.func12, Try.ntmps12
    go_wp2_with fail
    refine name_world ?_
    intro W hW
    have y := bun_newV w b 31
    have hVW := (unhide hV).alloc (.cells #[.int .i64 b.n, .bool b.o, .bool b.h, .int .i64 b.d] 31)
    have hBW : Below w.heap.size w (w.alloc (.cells #[.int .i64 b.n, .bool b.o, .bool b.h, .int .i64 b.d] 31)) := (Below.refl _ _).alloc (Nat.le_refl _) _
    rw [hW] at y hVW hBW
    clear hW
    obtain ⟨-, -, -, k⟩ := view_atB hVW rfl
    obtain ⟨o, rfl, hgl, k0, k1, k2, k3⟩ := k j hj
    rw [hc] at k0 k1 k2 k3
    obtain ⟨y4, y0, y1, y2, y3, -, -, -, -⟩ := y
    replace hVW := hide hVW
    replace hBW := hide hBW
    clear k hc
    go_wp2_with fail
    refine wp_region_noPanic ?_
    refine wp_region_held_drew (S := (fun w' => w'.cell? ⟨g, o + j * 4, none⟩ = some (.int .i64 c.n) ∧ w'.cell? ⟨g, o + j * 4 + 1, none⟩ = some (.bool c.o) ∧ w'.cell? ⟨g, o + j * 4 + 2, none⟩ = some (.bool c.h) ∧ w'.cell? ⟨g, o + j * 4 + 3, none⟩ = some (.int .i64 c.d) ∧ w'.cell? ⟨w.heap.size, 0, none⟩ = some (.int .i64 b.n) ∧ w'.cell? ⟨w.heap.size, 1, none⟩ = some (.bool b.o) ∧ w'.cell? ⟨w.heap.size, 2, none⟩ = some (.bool b.h) ∧ w'.cell? ⟨w.heap.size, 3, none⟩ = some (.int .i64 b.d))) (by kernel_rfl) ?_ (fun hHeld => ?_)
    · exact ⟨k0, k1, k2, k3, y0, y1, y2, y3⟩
    refine hand_take (i := 0) (d := some 17) (v := ?_) rfl (by kernel_rfl) (by kernel_rfl) (by kernel_rfl) (fun _ _ _ h => h) ?_ hHeld ?_
    rotate_left
    · intro o ho
      simp at ho
      subst ho
      intro wz hSw
      try dsimp only at hSw
      go_simp
      try with_reducible rfl
    try simp only [Act.put, List.setIfInBounds_toArray, List.set_cons_zero, List.set_cons_succ]
    refine hand_take (i := 1) (d := some 18) (v := ?_) rfl (by kernel_rfl) (by kernel_rfl) (by kernel_rfl) (fun _ _ _ h => h) ?_ hHeld ?_
    rotate_left
    · intro o ho
      simp at ho
      subst ho
      intro wz hSw
      try dsimp only at hSw
      go_simp
      try with_reducible rfl
    try simp only [Act.put, List.setIfInBounds_toArray, List.set_cons_zero, List.set_cons_succ]
    refine hand_take (i := 2) (d := some 19) (v := ?_) rfl (by kernel_rfl) (by kernel_rfl) (by kernel_rfl) (fun _ _ _ h => h) ?_ hHeld ?_
    rotate_left
    · intro o ho
      simp at ho
      subst ho
      intro wz hSw
      try dsimp only at hSw
      go_simp
      try with_reducible rfl
    try simp only [Act.put, List.setIfInBounds_toArray, List.set_cons_zero, List.set_cons_succ]
    refine hand_take (i := 3) (d := some 20) (v := ?_) rfl (by kernel_rfl) (by kernel_rfl) (by kernel_rfl) (fun _ _ _ h => h) ?_ hHeld ?_
    rotate_left
    · intro o ho
      simp at ho
      subst ho
      intro wz hSw
      try dsimp only at hSw
      go_simp
      try with_reducible rfl
    try simp only [Act.put, List.setIfInBounds_toArray, List.set_cons_zero, List.set_cons_succ]
    refine hand_take (i := 4) (d := some 21) (v := ?_) rfl (by kernel_rfl) (by kernel_rfl) (by kernel_rfl) (fun _ _ _ h => h) ?_ hHeld ?_
    rotate_left
    · intro o ho
      simp at ho
      subst ho
      intro wz hSw
      try dsimp only at hSw
      go_simp
      try with_reducible rfl
    try simp only [Act.put, List.setIfInBounds_toArray, List.set_cons_zero, List.set_cons_succ]
    refine hand_take (i := 5) (d := some 22) (v := ?_) rfl (by kernel_rfl) (by kernel_rfl) (by kernel_rfl) (fun _ _ _ h => h) ?_ hHeld ?_
    rotate_left
    · intro o ho
      simp at ho
      subst ho
      intro wz hSw
      try dsimp only at hSw
      go_simp
      try with_reducible rfl
    try simp only [Act.put, List.setIfInBounds_toArray, List.set_cons_zero, List.set_cons_succ]
    refine hand_take (i := 6) (d := some 23) (v := ?_) rfl (by kernel_rfl) (by kernel_rfl) (by kernel_rfl) (fun _ _ _ h => h) ?_ hHeld ?_
    rotate_left
    · intro o ho
      simp at ho
      subst ho
      intro wz hSw
      try dsimp only at hSw
      go_simp
      try with_reducible rfl
    try simp only [Act.put, List.setIfInBounds_toArray, List.set_cons_zero, List.set_cons_succ]
    refine hand_call (i := 7) rfl (by kernel_rfl) ?_
    intro o ho
    simp at ho
    subst ho
    intro K hK
    go_simp; go_at_call 25; refine (refJoin_any c.n c.o c.h c.d b.n b.o b.h b.d _ hs1 hs2 (unhide hcd) r hr).mono ?_; rintro e w2 ⟨rfl, hb2⟩; have hB2 := ((Below.refl W.heap.size W).drew).trans hb2; clear hb2
    refine hK.out _ _ ?_ (fun hHeld => ?_)
    · exact ⟨keep_cell (hB2.block g hgl) k0, keep_cell (hB2.block g hgl) k1, keep_cell (hB2.block g hgl) k2, keep_cell (hB2.block g hgl) k3, keep_cell (hB2.block _ y4) y0, keep_cell (hB2.block _ y4) y1, keep_cell (hB2.block _ y4) y2, keep_cell (hB2.block _ y4) y3⟩
    clear hK K
    try simp only [Act.put, List.setIfInBounds_toArray, List.set_cons_zero, List.set_cons_succ]
    have hs := hB2.size
    refine hand_call (i := 8) rfl (by kernel_rfl) ?_
    intro o ho
    simp at ho
    subst ho
    intro K hK
    go_simp; go_at_call 24; refine (refSet_c _ g j r L w2 ((unhide hVW).below hB2) hj (by have := hn.out; omega)).mono ?_; rintro e w3 ⟨v3, g3, rfl, hO3, hg3, hb3⟩; have hB3 := hB2.trans (hb3.mono hs); replace hO3 := hide hO3; clear hb3
    refine hK.out _ _ ?_ (fun hHeld => ?_)
    · exact ⟨keep_cell (hB3.block g hgl) k0, keep_cell (hB3.block g hgl) k1, keep_cell (hB3.block g hgl) k2, keep_cell (hB3.block g hgl) k3, keep_cell (hB3.block _ y4) y0, keep_cell (hB3.block _ y4) y1, keep_cell (hB3.block _ y4) y2, keep_cell (hB3.block _ y4) y3⟩
    clear hK K
    try simp only [Act.put, List.setIfInBounds_toArray, List.set_cons_zero, List.set_cons_succ]
    refine hand_take (i := 9) (d := some 6) (v := ?_) rfl (by kernel_rfl) (by kernel_rfl) (by kernel_rfl) (fun _ _ _ h => h) ?_ hHeld ?_
    rotate_left
    · intro o ho
      simp at ho
      subst ho
      intro wz hSw
      try dsimp only at hSw
      go_simp
      try with_reducible rfl
    try simp only [Act.put, List.setIfInBounds_toArray, List.set_cons_zero, List.set_cons_succ]
    refine hand_take (i := 10) (d := some 7) (v := ?_) rfl (by kernel_rfl) (by kernel_rfl) (by kernel_rfl) (fun _ _ _ h => h) ?_ hHeld ?_
    rotate_left
    · intro o ho
      simp at ho
      subst ho
      intro wz hSw
      try dsimp only at hSw
      go_simp
      try with_reducible rfl
    try simp only [Act.put, List.setIfInBounds_toArray, List.set_cons_zero, List.set_cons_succ]
    refine wpAnyH_done (by kernel_rfl) (NoPanic.normal ?_) _
    clear hHeld
    replace hB3 := hide hB3
    clear hB2
    go_wp2_with fail
    go_returns
    exact ⟨_, rfl, g3, (unhide hO3).view, .inr (by have := (unhide hBW).size; omega), (unhide hBW).trans ((unhide hB3).mono (unhide hBW).size)⟩
end Go.Proofs.Ytafccninjjhibaa
