/- The contracts of package memory: All, Copy, New (layer 10). -/
import Derived.Test.YtafccninjjhibaaMem
namespace Go.Proofs.Ytafccninjjhibaa
open Go.ChangeShapes Go.WideShapes Go.ChangeAt Go.RowKit
set_option linter.unusedSimpArgs false
set_option linter.unusedVariables false
set_option maxRecDepth 10000

attribute [local go_sem, local simp] over_const setCell_drewN alloc_drewN Over.cell Over.frozen lt_s1 lt_s2 lt_s3 le_s0 le_s1 le_s2 le_s3 eq_s0 eq_s1 eq_s2 qe_s0

theorem OwnB.cast {w : World} {g n : Nat} {L : List Bun} (h : OwnB w (slB g L.length) g L) (e : L.length = n) : OwnB w (slB g n) g L := e ▸ h

set_option maxHeartbeats 1000000 in
theorem mAll_c (p g : Nat) (N : Int) (L : List Bun) (w : World) (h : MemIs w p g N L) (n : Nat) (hn : Hid (L.length = n)) : Calls Try.prog 17 #[ptr p] w fun e w' => e = .returned (slB w.heap.size n) ∧ OwnB w' (slB w.heap.size n) w.heap.size L ∧ Below w.heap.size w w' := by
  have c0 := h.c0
  have hpl := h.pl
  have hlen := h.inv.len
  have hgl := h.gl
  rw [hn.out] at c0 hlen
  replace h := hide h
  go_enter Try.func17, Try.ntmps17
  go_wp2_with (at_make; refine wpList_makeB rfl _ _ rfl n rfl rfl hlen ?_; intro w1 hO1 hB1 hs1; have c1 := keep_cell (hB1.block p hpl) c0; obtain ⟨w2, hcp, hO2, hf2⟩ := cpyB_run hO1 (((unhide h).below hB1).own.cast hn.out) (by simp) hn.out 3; replace hO2 := hide hO2; replace hf2 := hide hf2; replace hB1 := hide hB1; clear c0 hO1)
  go_ret
  exact ⟨rfl, unhide hO2, (unhide hB1).trans ((unhide hf2).below (fun i hi => by omega) (by omega))⟩

/-- A new one, off its tokens. -/
theorem mem_new {w : World} {g : Nat} {N : Int} {L : List Bun} {n : Nat} (hO : OwnB w (slB g n) g L) (hn : L.length = n) (hI : MInv N L) : MemIs (w.alloc (.cells #[slB g n] 53)) w.heap.size g N L := by
  subst hn
  exact ⟨by have := hO.lt; omega, by simp, hI, by simp [go_sem], hO.alloc _⟩

set_option maxHeartbeats 1000000 in
theorem mCopy_c (p g : Nat) (N : Int) (L : List Bun) (w : World) (h : MemIs w p g N L) : Calls Try.prog 20 #[ptr p] w fun e w' => ∃ p' g', e = .returned (ptr p') ∧ MemIs w' p' g' N L ∧ w.heap.size ≤ p' ∧ w.heap.size ≤ g' ∧ Below w.heap.size w w' := by
  obtain ⟨n, hn⟩ : ∃ n, Hid (L.length = n) := ⟨_, rfl⟩
  have hI := hide h.inv
  replace h := hide h
  go_enter Try.func20, Try.ntmps20
  go_wp2_with fail
  go_at_call 17
  refine (mAll_c p g N L w (unhide h) n hn).mono ?_
  rintro e w1 ⟨rfl, hO, hB⟩
  have hs := hB.size
  replace hO := hide hO
  replace hB := hide hB
  go_wp2_with fail
  go_ret
  exact ⟨w1.heap.size, w.heap.size, rfl, mem_new (unhide hO) hn.out (unhide hI), hs, Nat.le_refl _, (unhide hB).alloc hs _⟩

theorem rep_set (f z : Bun) : ∀ j k : Nat, (List.replicate j f ++ List.replicate (k + 1) z).set j f = List.replicate (j + 1) f ++ List.replicate k z
  | 0, k => by simp [List.replicate_succ]
  | j + 1, k => by
    have := rep_set f z j k
    simp only [List.replicate_succ, List.cons_append, List.set_cons_succ] at this ⊢
    rw [this]

set_option maxHeartbeats 1000000 in
theorem mNew_c (s t N : Int) (w : World) (ht : t ≤ N) (hN : 0 ≤ N) : Calls Try.prog 10 #[.int .i64 s, .int .i64 t] w fun e w' => ∃ p g, e = .returned (ptr p) ∧ MemIs w' p g N (newM s t) ∧ w.heap.size ≤ p ∧ w.heap.size ≤ g ∧ Below w.heap.size w w' := by
  have hI := hide (MInv.new s t N ht hN)
  obtain ⟨n, hn⟩ : ∃ n : Nat, clampZ s 0 64 = n := ⟨(clampZ s 0 64).toNat, by have := clampZ_in s 0 64 (by decide); omega⟩
  have hn64 : n ≤ 64 := by have := clampZ_in s 0 64 (by decide); omega
  have hL : Hid (newM s t = List.replicate n (fullB t 0)) := by unfold newM Hid; rw [hn]; simp
  obtain ⟨m, hm⟩ : ∃ m, (if s < 0 then 0 else s) = m := ⟨_, rfl⟩
  have hm2 : (if 64 < m then 64 else m) = (n : Int) := by unfold clampZ at hn; (repeat' split at hn) <;> (repeat' split) <;> (repeat' split at hm) <;> omega
  clear hn
  obtain ⟨f, hf⟩ : ∃ f, Hid (fullB t 0 = f) := ⟨_, rfl⟩
  rw [hf.out] at hL
  go_enter Try.func10, Try.ntmps10
  go_wp2_with (at_make; refine wpList_makeB rfl _ _ rfl n rfl rfl hn64 ?_; intro w1 hO1 hB1 hs1; replace hO1 := hide hO1; replace hB1 := hide hB1; replace hs1 := hide hs1)
  have hg : w.heap.size < w1.heap.size := by have := unhide hs1; omega
  have hM1 := mem_new (N := N) (unhide hO1) (by simp) ⟨by simpa using hn64, fun b hb => by obtain rfl := List.eq_of_mem_replicate hb; exact ⟨okB_zero, hN⟩⟩
  have hB2 := (unhide hB1).alloc (unhide hB1).size (.cells #[slB w.heap.size n] 53)
  have hfI : Hid (okB f ∧ f.n ≤ N) := by have := fullB_ok t; rw [hf.out] at this; unfold Hid; exact ⟨this.1, by omega⟩
  replace hM1 := hide hM1
  replace hB2 := hide hB2
  clear hm hm2 hO1 hB1
  go_loopw [18] (fun i wr => ∃ j : Nat, j ≤ n ∧ i = .int .i64 j ∧ MemIs wr w1.heap.size w.heap.size N (List.replicate j f ++ List.replicate (n - j) bun0) ∧ Below w.heap.size w wr) (fun i _ => n - (intOf i).toNat)
  case atStart => exact ⟨0, Nat.zero_le _, rfl, by simpa using unhide hM1, unhide hB2⟩
  case round =>
    obtain ⟨j, hj, rfl, hm, hb⟩ := hrel
    clear hM1 hB2
    have hl : (List.replicate j f ++ List.replicate (n - j) bun0).length = n := by simp; omega
    have c0 := hm.c0
    rw [hl] at c0
    by_cases hlt : j < n
    · have hset : (List.replicate j f ++ List.replicate (n - j) bun0).set j f = List.replicate (j + 1) f ++ List.replicate (n - (j + 1)) bun0 := by
        obtain ⟨k, rfl⟩ : ∃ k, n = j + 1 + k := ⟨n - (j + 1), by omega⟩
        rw [show j + 1 + k - j = k + 1 by omega, show j + 1 + k - (j + 1) = k by omega]
        exact rep_set f bun0 j k
      have hlt' : (j : Int) < n := by omega
      have hj2 : j < (List.replicate j f ++ List.replicate (n - j) bun0).length := by omega
      have hI2 := hm.inv.set j (unhide hfI)
      have hpl := hm.pl
      have hgl := hm.gl
      generalize (List.replicate j f ++ List.replicate (n - j) bun0) = M at hm hl hset hj2 hI2
      rw [hset] at hI2
      replace hset := hide hset
      replace hm := hide hm
      replace hb := hide hb
      replace hI2 := hide hI2
      replace hl := hide hl
      go_wp2_with fail
      refine wp_region_noPanic ?_
      refine last_begin 8 (fun w' => w'.cell? ⟨w1.heap.size, 0, none⟩ = some (slB w.heap.size n)) (by kernel_rfl) ?_ (fun hHeld => ?_)
      · exact c0
      refine last_take (i := 0) (d := some 21) (v := ?_) rfl (by kernel_rfl) (by kernel_rfl) (by kernel_rfl) (by kernel_rfl) (fun _ _ _ h => h) ?_ hHeld ?_
      rotate_left
      · intro o ho
        simp at ho
        subst ho
        intro wz hSw
        try dsimp only at hSw
        go_simp
        try with_reducible rfl
      try simp only [Act.put, List.setIfInBounds_toArray, List.set_cons_zero, List.set_cons_succ]
      refine last_take (i := 1) (d := some 22) (v := ?_) rfl (by kernel_rfl) (by kernel_rfl) (by kernel_rfl) (by kernel_rfl) (fun _ _ _ h => h) ?_ hHeld ?_
      rotate_left
      · intro o ho
        simp at ho
        subst ho
        intro wz hSw
        try dsimp only at hSw
        go_simp
        try with_reducible rfl
      try simp only [Act.put, List.setIfInBounds_toArray, List.set_cons_zero, List.set_cons_succ]
      refine last_take (i := 2) (d := some 23) (v := ?_) rfl (by kernel_rfl) (by kernel_rfl) (by kernel_rfl) (by kernel_rfl) (fun _ _ _ h => h) ?_ hHeld ?_
      rotate_left
      · intro o ho
        simp at ho
        subst ho
        intro wz hSw
        try dsimp only at hSw
        go_simp
        try with_reducible rfl
      try simp only [Act.put, List.setIfInBounds_toArray, List.set_cons_zero, List.set_cons_succ]
      refine last_take (i := 3) (d := some 24) (v := ?_) rfl (by kernel_rfl) (by kernel_rfl) (by kernel_rfl) (by kernel_rfl) (fun _ _ _ h => h) ?_ hHeld ?_
      rotate_left
      · intro o ho
        simp at ho
        subst ho
        intro wz hSw
        try dsimp only at hSw
        go_simp
        try with_reducible rfl
      try simp only [Act.put, List.setIfInBounds_toArray, List.set_cons_zero, List.set_cons_succ]
      refine last_take (i := 4) (d := some 25) (v := ?_) rfl (by kernel_rfl) (by kernel_rfl) (by kernel_rfl) (by kernel_rfl) (fun _ _ _ h => h) ?_ hHeld ?_
      rotate_left
      · intro o ho
        simp at ho
        subst ho
        intro wz hSw
        try dsimp only at hSw
        go_simp
        try with_reducible rfl
      try simp only [Act.put, List.setIfInBounds_toArray, List.set_cons_zero, List.set_cons_succ]
      refine last_take (i := 5) (d := some 26) (v := ?_) rfl (by kernel_rfl) (by kernel_rfl) (by kernel_rfl) (by kernel_rfl) (fun _ _ _ h => h) ?_ hHeld ?_
      rotate_left
      · intro o ho
        simp at ho
        subst ho
        intro wz hSw
        try dsimp only at hSw
        go_simp
        try with_reducible rfl
      try simp only [Act.put, List.setIfInBounds_toArray, List.set_cons_zero, List.set_cons_succ]
      refine last_call (i := 6) rfl (by kernel_rfl) ?_
      intro o ho
      simp at ho
      subst ho
      intro K hK
      go_simp; go_at_call 22; refine (full_any t 0 _ f hf).mono ?_; rintro e w2 ⟨rfl, hb2⟩; have hB3 := ((Below.refl wr.heap.size wr).drew).trans hb2; clear hb2
      refine hK.out _ _ (fun _ => ?_) (fun hHeld0 => ?_)
      · exact keep_cell (hB3.block _ hpl) c0
      clear hK K
      replace hHeld := hHeld0 (by decide)
      clear hHeld0
      try simp only [Act.put, List.setIfInBounds_toArray, List.set_cons_zero, List.set_cons_succ]
      have hm3 := (unhide hm).below hB3
      have hb3 := hide ((unhide hb).trans (hB3.mono (unhide hb).size))
      obtain ⟨x, hx⟩ : ∃ x, M[j] = x := ⟨_, rfl⟩
      obtain ⟨k0, k1, k2, k3, f0, f1, f2, f3⟩ := hm3.row hj2 hx
      have hfin := hm3.set hj2 f (by rw [unhide hset]; exact unhide hI2)
      obtain ⟨w3, hw3⟩ : ∃ w3, setR w2 w.heap.size (j * 4) f = w3 := ⟨_, rfl⟩
      rw [hw3, unhide hset] at hfin
      replace hfin := hide hfin
      dsimp only [setR] at hw3
      clear hx hm3 hB3
      refine last_take (i := 7) (d := some 28) (v := ?_) rfl (by kernel_rfl) (by kernel_rfl) (by kernel_rfl) (by kernel_rfl) (fun _ _ _ h => h) ?_ hHeld ?_
      rotate_left
      · intro o ho
        simp at ho
        subst ho
        intro wz hSw
        try dsimp only at hSw
        go_simp
        try with_reducible rfl
      try simp only [Act.put, List.setIfInBounds_toArray, List.set_cons_zero, List.set_cons_succ]
      refine last_call (i := 8) rfl (by kernel_rfl) ?_
      intro o ho
      simp at ho
      subst ho
      intro K hK
      go_simp
      refine hK.out _ _ (fun h => absurd rfl h) (fun _ => ?_)
      clear hK K
      try simp only [Act.put, List.setIfInBounds_toArray, List.set_cons_zero, List.set_cons_succ]
      refine last_done (by kernel_rfl) (NoPanic.normal ?_) _
      clear hHeld
      clear hw3 k0 k1 k2 k3 f0 f1 f2 f3
      go_wp2_with fail
      go_roundw
      case rel => exact ⟨j + 1, by omega, by simp, (unhide hfin).1, (unhide hb3).trans ((unhide hfin).2.below (fun i hi => by omega) (unhide hb3).size)⟩
      case measure => simp [intOf]; omega
    · obtain rfl : j = n := by omega
      rw [Nat.sub_self, List.replicate_zero, List.append_nil, ← hL.out] at hm
      replace hm := hide hm
      replace hb := hide hb
      go_wp2_with fail
      go_ret
      exact ⟨_, _, rfl, unhide hm, by omega, Nat.le_refl _, unhide hb⟩
end Go.Proofs.Ytafccninjjhibaa
