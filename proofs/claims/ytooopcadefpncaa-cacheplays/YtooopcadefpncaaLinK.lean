/- The document's lines (jetonref08) in memory; the contracts of New, find, Has, mates (layer 8). -/
import Derived.Test.YtooopcadefpncaaLinI
import Derived.Test.YtooopcadefpncaaRef01
namespace Go.Proofs.Ytooopcadefpncaa
open Go.ChangeShapes Go.WideShapes Go.ChangeAt Go.RowKit
set_option linter.unusedSimpArgs false
set_option linter.unusedVariables false
set_option maxRecDepth 10000

attribute [local go_sem, local simp] over_const setCell_drewN alloc_drewN Over.cell Over.frozen lt_s1 lt_s2 lt_s3 le_s0 le_s1 le_s2 le_s3 eq_s0 eq_s1 eq_s2 qe_s0

/-- The document's lines in block p; all that they hold lies in the blocks of Ft. -/
structure RfIs (w : World) (p : Nat) (Ft : Nat → Prop) (S W : Int) (A : List Int) : Prop where
  inv : Inv S W A
  pl : p < w.heap.size
  fp : Ft p
  lt : ∀ b, Ft b → b < w.heap.size
  c0 : w.cell? ⟨p, 0, none⟩ = some (.int .i64 S)
  c1 : w.cell? ⟨p, 1, none⟩ = some (.int .i64 W)
  c2 : ∃ v g, w.cell? ⟨p, 2, none⟩ = some v ∧ Own w v g A ∧ Ft g ∧ (g = p → v = nilV)
  f2 : w.frozen? ⟨p, 2, none⟩ = false

theorem RfIs.carry {w w' : World} {p : Nat} {Ft : Nat → Prop} {S W : Int} {A : List Int} (h : RfIs w p Ft S W A) (hb : ∀ b, Ft b → b < w.heap.size → w'.heap[b]? = w.heap[b]?) : RfIs w' p Ft S W A := by
  obtain ⟨v, g, h1, h2, h3, h4⟩ := h.c2
  have ep := hb p h.fp h.pl
  exact ⟨h.inv, block_lt h.pl ep, h.fp, fun b hf => block_lt (h.lt b hf) (hb b hf (h.lt b hf)), (World.cell?_of_block (w := w) ep).trans h.c0, (World.cell?_of_block (w := w) ep).trans h.c1, ⟨v, g, (World.cell?_of_block (w := w) ep).trans h1, h2.carry (hb g h3 h2.lt), h3, h4⟩, (World.frozen?_of_block (w := w) ep).trans h.f2⟩

theorem RfIs.fr {w w' : World} {p : Nat} {Ft F : Nat → Prop} {S W : Int} {A : List Int} (h : RfIs w p Ft S W A) (hf : FrS F w w') (hd : ∀ b, Ft b → b < w.heap.size → ¬ F b) : RfIs w' p Ft S W A := h.carry fun b hb hl => hf.block b hl (hd b hb hl)
theorem RfIs.below {w w' : World} {p : Nat} {Ft : Nat → Prop} {S W : Int} {A : List Int} (h : RfIs w p Ft S W A) (hf : Below w.heap.size w w') : RfIs w' p Ft S W A := h.carry fun b _ hl => hf.block b hl
theorem RfIs.alloc {w : World} {p : Nat} {Ft : Nat → Prop} {S W : Int} {A : List Int} (h : RfIs w p Ft S W A) (o : Obj) : RfIs (w.alloc o) p Ft S W A := h.carry fun b _ hl => Below.heap_alloc _ _ _ hl
theorem RfIs.drewN {w : World} {p : Nat} {Ft : Nat → Prop} {S W : Int} {A : List Int} (h : RfIs w p Ft S W A) (n : Nat) : RfIs (w.drewN n) p Ft S W A := h.carry fun _ _ _ => rfl
theorem RfIs.drew {w : World} {p : Nat} {Ft : Nat → Prop} {S W : Int} {A : List Int} (h : RfIs w p Ft S W A) : RfIs w.drew p Ft S W A := h.carry fun _ _ _ => rfl

set_option maxHeartbeats 1000000 in
theorem rNew_c (s t : Int) (w : World) : Calls Try.prog 30 #[.int .i64 s, .int .i64 t] w fun e w' => ∃ p Ft, e = .returned (ptr p) ∧ RfIs w' p Ft (clampZ s 1 64) (clampZ t 1 16) [] ∧ Below w.heap.size w w' ∧ ∀ b, Ft b → w.heap.size ≤ b := by
  obtain ⟨S, hS⟩ : ∃ S, Hid (clampZ s 1 64 = S) := ⟨_, rfl⟩
  obtain ⟨W, hW⟩ : ∃ W, Hid (clampZ t 1 16 = W) := ⟨_, rfl⟩
  rw [hS.out, hW.out]
  have bS := (clampZ_bd s 1 64).2 (by decide)
  have bW := (clampZ_bd t 1 16).2 (by decide)
  rw [hS.out] at bS
  rw [hW.out] at bW
  go_enter Try.func30, Try.ntmps30
  go_wp2_with (first | (go_at_call 51; with_reducible refine (refClamp_any s 1 64 _).mono ?_; rw [hS.out]; rintro e w' ⟨rfl, hw'⟩; rw [hw']; clear hw' w') | (go_at_call 51; with_reducible refine (refClamp_any t 1 16 _).mono ?_; rw [hW.out]; rintro e w' ⟨rfl, hw'⟩; rw [hw']; clear hw' w'))
  go_ret
  exact ⟨w.heap.size, fun b => b = w.heap.size, rfl, ⟨Inv.new bS.1 bS.2 bW.1 bW.2, by simp, rfl, fun b hb => by simp; omega, by simp, by simp, ⟨nilV, w.heap.size, by simp, own_nil (by simp), rfl, fun _ => rfl⟩, by simp⟩, (Below.refl _ _).alloc (Nat.le_refl _) _, fun b hb => by omega⟩

set_option maxHeartbeats 1000000 in
theorem find_c (p : Nat) (Ft : Nat → Prop) (S W x : Int) (A : List Int) (w : World) (h : RfIs w p Ft S W A) : Calls Try.prog 59 #[ptr p, .int .i64 x] w fun e w' => e = .returned (.int .i64 (idxF A x)) ∧ w' = w := by
  have hlen := h.inv.len
  obtain ⟨v, g, c2, hO, _, _⟩ := h.c2
  have hv := hide hO.view
  obtain ⟨r, hr⟩ : ∃ r, Hid (idxF A x = r) := ⟨_, rfl⟩
  rw [hr.out]
  obtain ⟨ao, cap, rfl, -⟩ := hO
  clear h
  go_enter Try.func59, Try.ntmps59
  go_wp2_with fail
  go_loopw [5] (fun i wr => ∃ j : Nat, j ≤ A.length ∧ i = .int .i64 j ∧ wr = w ∧ Hid (∀ i (hi : i < A.length), i < j → A[i] ≠ x)) (fun i _ => A.length - (intOf i).toNat)
  case atStart => exact ⟨0, Nat.zero_le _, rfl, rfl, fun i _ hi => absurd hi (Nat.not_lt_zero _)⟩
  case round =>
    obtain ⟨j, hj, rfl, hwr, ha⟩ := hrel
    rw [hwr]
    clear hwr
    by_cases hlt : j < A.length
    · obtain ⟨-, -, -, hc⟩ := view_at (unhide hv) rfl
      obtain ⟨o, rfl, hb, hcell⟩ := hc j hlt
      obtain ⟨y, hy⟩ : ∃ y, Hid (A[j] = y) := ⟨_, hide rfl⟩
      rw [hy.out] at hcell
      have hlt' : (j : Int) < A.length := by omega
      clear hc
      by_cases c : y = x
      · subst c
        go_wp2_with fail
        go_ret
        refine ⟨?_, rfl⟩
        rw [← hr.out, idxF_at A y j hlt (fun i hi => ha.out i (by omega) hi) hy.out]; rfl
      · go_wp2_with fail
        go_roundw
        case rel =>
          refine ⟨j + 1, by omega, by simp, trivial, fun i hi hij => ?_⟩
          by_cases e : i = j
          · subst e; rw [hy.out]; exact c
          · exact ha.out i hi (by omega)
        case measure => simp [intOf]; omega
    · obtain rfl : j = A.length := by omega
      go_wp2_with fail
      go_ret
      refine ⟨?_, rfl⟩
      rw [← hr.out, idxF_none A x (fun i hi => ha.out i hi hi)]; rfl

set_option maxHeartbeats 1000000 in
theorem rHas_c (p : Nat) (Ft : Nat → Prop) (S W x : Int) (A : List Int) (w : World) (h : RfIs w p Ft S W A) : Calls Try.prog 38 #[ptr p, .int .i64 x] w fun e w' => e = .returned (.bool (decide (x ∈ A))) ∧ w' = w := by
  have hh := hide h
  clear h
  have hbd := idxF_bd A x
  obtain ⟨q, hq⟩ : ∃ q, decide (x ∈ A) = q := ⟨_, rfl⟩
  obtain ⟨i, hi⟩ : ∃ i, Hid (idxF A x = i) := ⟨_, rfl⟩
  rw [hq]
  have e : (i = -1 ∧ q = false) ∨ (0 ≤ i ∧ q = true) := by
    have := idxF_neg A x
    rw [hi.out] at this hbd
    by_cases c : x ∈ A
    · right; rw [← hq]; simp [c] at this ⊢; omega
    · left; rw [← hq]; simp [c] at this ⊢; exact this
  clear hq hbd
  rcases e with ⟨rfl, rfl⟩ | ⟨e, rfl⟩
  all_goals
    go_enter Try.func38, Try.ntmps38
    go_wp2_with (go_at_call 59; refine (find_c p Ft S W x A _ (unhide hh)).mono ?_; rw [hi.out]; rintro e w' ⟨rfl, rfl⟩)
    go_ret
    exact ⟨rfl, rfl⟩

theorem part_take {S k : Int} {A : List Int} {j : Nat} (h : j < A.length) : part S (A.take (j + 1)) k = if modZ A[j] S = k then part S (A.take j) k ++ [A[j]] else part S (A.take j) k := by
  rw [List.take_succ_eq_append_getElem h, part_append]
  split
  · rename_i c; rw [← c, part_one_same]
  · rename_i c; rw [part_one_other (fun e => c e.symm), List.append_nil]

theorem box_empty (w : World) (o : Obj) : (w.alloc o).heap.size = w.heap.size + 1 := by simp

set_option maxHeartbeats 2000000 in
theorem mates_c (p : Nat) (Ft : Nat → Prop) (S W x : Int) (A : List Int) (w : World) (h : RfIs w p Ft S W A) : Calls Try.prog 58 #[ptr p, .int .i64 x] w fun e w' => ∃ v g, e = .returned v ∧ w.heap.size ≤ g ∧ Own w' v g (part S A (modZ x S)) ∧ Below w.heap.size w w' := by
  have hlen := h.inv.len
  have s1 := h.inv.s1
  have c0 := h.c0
  have hpl := h.pl
  obtain ⟨v, gA, c2, hO, _, _⟩ := h.c2
  have hv := hide hO.view
  obtain ⟨k, hk⟩ : ∃ k, Hid (modZ x S = k) := ⟨_, rfl⟩
  rw [hk.out]
  obtain ⟨ao, cap, rfl, -⟩ := hO
  clear h
  go_enter Try.func58, Try.ntmps58
  go_wp2_with fail
  go_loopw [5, 6] (fun out i wr => ∃ j g : Nat, j ≤ A.length ∧ i = .int .i64 j ∧ Own wr out g (part S (A.take j) k) ∧ w.heap.size ≤ g ∧ Below w.heap.size w wr) (fun _ i _ => A.length - (intOf i).toNat)
  case atStart => exact ⟨0, w.heap.size, Nat.zero_le _, rfl, by simpa [part] using own_empty w _, Nat.le_refl _, (Below.refl _ _).alloc (Nat.le_refl _) _⟩
  case round =>
    obtain ⟨j, g, hj, rfl, hO, hg, hb⟩ := hrel
    have d0 : wr.cell? ⟨p, 0, none⟩ = some (.int .i64 S) := (hb.cell (p := ⟨p, 0, none⟩) hpl).trans c0
    have d2 : wr.cell? ⟨p, 2, none⟩ = some (.slice ao A.length cap) := (hb.cell (p := ⟨p, 2, none⟩) hpl).trans c2
    have hO' := hide hO
    obtain ⟨ao', cap', rfl, -⟩ := hO
    have hl1 : (part S (A.take j) k).length ≤ 1024 := by
      have h1 : (part S (A.take j) k).length ≤ (A.take j).length := List.length_filter_le _ _
      rw [List.length_take] at h1
      omega
    by_cases hlt : j < A.length
    · obtain ⟨-, -, -, hc⟩ := view_at (unhide hv) rfl
      obtain ⟨o, rfl, hbA, hcell⟩ := hc j hlt
      obtain ⟨y, hy⟩ : ∃ y, Hid (A[j] = y) := ⟨_, hide rfl⟩
      have hpt := part_take (S := S) (k := k) hlt
      rw [hy.out] at hcell hpt
      have hcell' : wr.cell? ⟨gA, o + j, none⟩ = some (.int .i64 y) := (hb.cell (p := ⟨gA, o + j, none⟩) hbA).trans hcell
      have hlt' : (j : Int) < A.length := by omega
      obtain ⟨r, hr⟩ : ∃ r, Hid (modZ y S = r) := ⟨_, rfl⟩
      obtain ⟨P, hP⟩ : ∃ P, Hid (part S (A.take j) k = P) := ⟨_, rfl⟩
      rw [hP.out] at hO' hl1 hpt ⊢
      rw [hr.out] at hpt
      replace hpt := hide hpt
      have hb' := hide hb
      clear hc hcell hb
      go_wp2_with fail
      refine wp_region_noPanic ?_
      obtain ⟨w0, hw0⟩ : ∃ w0, wr.drew = w0 := ⟨_, rfl⟩
      have e0 : w0.cell? ⟨p, 0, none⟩ = some (.int .i64 S) := by rw [← hw0]; exact d0
      have e2 : w0.cell? ⟨p, 2, none⟩ = some (.slice (some ⟨gA, o, none⟩) A.length cap) := by rw [← hw0]; exact d2
      have ey : w0.cell? ⟨gA, o + j, none⟩ = some (.int .i64 y) := by rw [← hw0]; exact hcell'
      have hb0 : Hid (Below w.heap.size w w0) := by rw [← hw0]; exact (unhide hb').drew
      have hO0 : Hid (Own w0 (.slice ao' P.length cap') g P) := by rw [← hw0]; exact (unhide hO').carry rfl
      refine wp_region_held_drew (S := fun w' => w' = w0 ∧ w'.cell? ⟨p, 0, none⟩ = some (.int .i64 S) ∧ w'.cell? ⟨p, 2, none⟩ = some (.slice (some ⟨gA, o, none⟩) A.length cap) ∧ w'.cell? ⟨gA, o + j, none⟩ = some (.int .i64 y)) (by kernel_rfl) ?_ (fun hHeld => ?_)
      · rw [hw0]; exact ⟨rfl, e0, e2, ey⟩
      rw [hw0] at hHeld ⊢
      clear hw0 d0 d2 hcell' hO' hb'
      refine hand_take (i := 0) (d := some 17) (v := ?_) rfl (by kernel_rfl) (by kernel_rfl) (by kernel_rfl) (fun _ _ _ h => h) ?_ hHeld ?_
      rotate_left
      · intro o ho
        simp at ho
        subst ho
        intro wz hSw
        try dsimp only at hSw
        go_simp
        try with_reducible rfl
      try simp only [Act.put, List.setIfInBounds_toArray, List.set_cons_zero, List.set_cons_succ]
      refine hand_take (i := 1) (d := some 18) (v := ?_) rfl (by kernel_rfl) (by kernel_rfl) (by kernel_rfl) (fun _ _ _ h => h) ?_ hHeld ?_
      rotate_left
      · intro o ho
        simp at ho
        subst ho
        intro wz hSw
        try dsimp only at hSw
        go_simp
        try with_reducible rfl
      try simp only [Act.put, List.setIfInBounds_toArray, List.set_cons_zero, List.set_cons_succ]
      refine hand_take (i := 2) (d := some 19) (v := ?_) rfl (by kernel_rfl) (by kernel_rfl) (by kernel_rfl) (fun _ _ _ h => h) ?_ hHeld ?_
      rotate_left
      · intro o ho
        simp at ho
        subst ho
        intro wz hSw
        try dsimp only at hSw
        go_simp
        try with_reducible rfl
      try simp only [Act.put, List.setIfInBounds_toArray, List.set_cons_zero, List.set_cons_succ]
      refine hand_take (i := 3) (d := some 20) (v := ?_) rfl (by kernel_rfl) (by kernel_rfl) (by kernel_rfl) (fun _ _ _ h => h) ?_ hHeld ?_
      rotate_left
      · intro o ho
        simp at ho
        subst ho
        intro wz hSw
        try dsimp only at hSw
        go_simp
        try with_reducible rfl
      try simp only [Act.put, List.setIfInBounds_toArray, List.set_cons_zero, List.set_cons_succ]
      refine hand_take (i := 4) (d := some 21) (v := ?_) rfl (by kernel_rfl) (by kernel_rfl) (by kernel_rfl) (fun _ _ _ h => h) ?_ hHeld ?_
      rotate_left
      · intro o ho
        simp at ho
        subst ho
        intro wz hSw
        try dsimp only at hSw
        go_simp
        try with_reducible rfl
      try simp only [Act.put, List.setIfInBounds_toArray, List.set_cons_zero, List.set_cons_succ]
      refine hand_take (i := 5) (d := some 22) (v := ?_) rfl (by kernel_rfl) (by kernel_rfl) (by kernel_rfl) (fun _ _ _ h => h) ?_ hHeld ?_
      rotate_left
      · intro o ho
        simp at ho
        subst ho
        intro wz hSw
        try dsimp only at hSw
        go_simp
        try with_reducible rfl
      try simp only [Act.put, List.setIfInBounds_toArray, List.set_cons_zero, List.set_cons_succ]
      refine hand_take (i := 6) (d := some 23) (v := ?_) rfl (by kernel_rfl) (by kernel_rfl) (by kernel_rfl) (fun _ _ _ h => h) ?_ hHeld ?_
      rotate_left
      · intro o ho
        simp at ho
        subst ho
        intro wz hSw
        try dsimp only at hSw
        go_simp
        try with_reducible rfl
      try simp only [Act.put, List.setIfInBounds_toArray, List.set_cons_zero, List.set_cons_succ]
      refine hand_take (i := 7) (d := some 24) (v := ?_) rfl (by kernel_rfl) (by kernel_rfl) (by kernel_rfl) (fun _ _ _ h => h) ?_ hHeld ?_
      rotate_left
      · intro o ho
        simp at ho
        subst ho
        intro wz hSw
        try dsimp only at hSw
        go_simp
        try with_reducible rfl
      try simp only [Act.put, List.setIfInBounds_toArray, List.set_cons_zero, List.set_cons_succ]
      refine hand_take (i := 8) (d := some 25) (v := ?_) rfl (by kernel_rfl) (by kernel_rfl) (by kernel_rfl) (fun _ _ _ h => h) ?_ hHeld ?_
      rotate_left
      · intro o ho
        simp at ho
        subst ho
        intro wz hSw
        try dsimp only at hSw
        go_simp
        try with_reducible rfl
      try simp only [Act.put, List.setIfInBounds_toArray, List.set_cons_zero, List.set_cons_succ]
      refine hand_take (i := 9) (d := some 26) (v := ?_) rfl (by kernel_rfl) (by kernel_rfl) (by kernel_rfl) (fun _ _ _ h => h) ?_ hHeld ?_
      rotate_left
      · intro o ho
        simp at ho
        subst ho
        intro wz hSw
        try dsimp only at hSw
        go_simp
        try with_reducible rfl
      try simp only [Act.put, List.setIfInBounds_toArray, List.set_cons_zero, List.set_cons_succ]
      refine hand_take (i := 10) (d := some 27) (v := ?_) rfl (by kernel_rfl) (by kernel_rfl) (by kernel_rfl) (fun _ _ _ h => h) ?_ hHeld ?_
      rotate_left
      · intro o ho
        simp at ho
        subst ho
        intro wz hSw
        try dsimp only at hSw
        go_simp
        try with_reducible rfl
      try simp only [Act.put, List.setIfInBounds_toArray, List.set_cons_zero, List.set_cons_succ]
      refine hand_take (i := 12) (d := some 29) (v := ?_) rfl (by kernel_rfl) (by kernel_rfl) (by kernel_rfl) (fun _ _ _ h => h) ?_ hHeld ?_
      rotate_left
      · intro o ho
        simp at ho
        subst ho
        intro wz hSw
        try dsimp only at hSw
        go_simp
        try with_reducible rfl
      try simp only [Act.put, List.setIfInBounds_toArray, List.set_cons_zero, List.set_cons_succ]
      refine hand_take (i := 13) (d := some 30) (v := ?_) rfl (by kernel_rfl) (by kernel_rfl) (by kernel_rfl) (fun _ _ _ h => h) ?_ hHeld ?_
      rotate_left
      · intro o ho
        simp at ho
        subst ho
        intro wz hSw
        try dsimp only at hSw
        go_simp
        try with_reducible rfl
      try simp only [Act.put, List.setIfInBounds_toArray, List.set_cons_zero, List.set_cons_succ]
      refine hand_take (i := 14) (d := some 31) (v := ?_) rfl (by kernel_rfl) (by kernel_rfl) (by kernel_rfl) (fun _ _ _ h => h) ?_ hHeld ?_
      rotate_left
      · intro o ho
        simp at ho
        subst ho
        intro wz hSw
        try dsimp only at hSw
        go_simp
        try with_reducible rfl
      try simp only [Act.put, List.setIfInBounds_toArray, List.set_cons_zero, List.set_cons_succ]
      refine hand_take (i := 15) (d := some 32) (v := ?_) rfl (by kernel_rfl) (by kernel_rfl) (by kernel_rfl) (fun _ _ _ h => h) ?_ hHeld ?_
      rotate_left
      · intro o ho
        simp at ho
        subst ho
        intro wz hSw
        try dsimp only at hSw
        go_simp
        try with_reducible rfl
      try simp only [Act.put, List.setIfInBounds_toArray, List.set_cons_zero, List.set_cons_succ]
      refine hand_take (i := 16) (d := some 33) (v := ?_) rfl (by kernel_rfl) (by kernel_rfl) (by kernel_rfl) (fun _ _ _ h => h) ?_ hHeld ?_
      rotate_left
      · intro o ho
        simp at ho
        subst ho
        intro wz hSw
        try dsimp only at hSw
        go_simp
        try with_reducible rfl
      try simp only [Act.put, List.setIfInBounds_toArray, List.set_cons_zero, List.set_cons_succ]
      refine hand_call (i := 11) rfl (by kernel_rfl) ?_
      intro o ho
      simp at ho
      subst ho
      intro K hK
      go_simp; go_at_call 72; refine (refMod_any y S _ (by omega)).mono ?_; rw [hr.out]; rintro e w' ⟨rfl, hw'⟩; rw [hw']; clear hw' w'
      refine hK.out _ _ ?_ (fun hHeld => ?_)
      · exact ⟨rfl, e0, e2, ey⟩
      clear hK K
      try simp only [Act.put, List.setIfInBounds_toArray, List.set_cons_zero, List.set_cons_succ]
      refine hand_call (i := 17) rfl (by kernel_rfl) ?_
      intro o ho
      simp at ho
      subst ho
      intro K hK
      go_simp; go_at_call 72; refine (refMod_any x S _ (by omega)).mono ?_; rw [hk.out]; rintro e w' ⟨rfl, hw'⟩; rw [hw']; clear hw' w'
      refine hK.out _ _ ?_ (fun hHeld => ?_)
      · exact ⟨rfl, e0, e2, ey⟩
      clear hK K
      try simp only [Act.put, List.setIfInBounds_toArray, List.set_cons_zero, List.set_cons_succ]
      refine hand_take (i := 18) (d := some 35) (v := ?_) rfl (by kernel_rfl) (by kernel_rfl) (by kernel_rfl) (fun _ _ _ h => h) ?_ hHeld ?_
      rotate_left
      · intro o ho
        simp at ho
        subst ho
        intro wz hSw
        try dsimp only at hSw
        go_simp
        try with_reducible rfl
      try simp only [Act.put, List.setIfInBounds_toArray, List.set_cons_zero, List.set_cons_succ]
      refine wpAnyH_done (by kernel_rfl) (NoPanic.normal ?_) _
      clear hHeld
      by_cases c : r = k
      · subst c
        go_wp2_with (at_builtin; refine wpList_app rfl _ _ rfl rfl rfl ((unhide hO0).alloc _) (view_one w0 y) (by simp; omega) (P.length + 1) (by simp) ?_; intro ao2 cap2 w2 g2 hown2 hap2; replace hown2 := hide hown2; replace hap2 := hide hap2; go_frame)
        go_roundw
        case rel =>
          have hap := unhide hap2
          have hs := (unhide hb0).size
          refine ⟨j + 1, g2, by omega, by simp, ?_, ?_, ((unhide hb0).alloc hs _).trans (hap.fr.below (fun i hi => by rw [hi]; exact hg) (by simp; omega))⟩
          · rw [unhide hpt, if_pos rfl]; exact unhide hown2
          · rcases hap.lies with e | e
            · omega
            · simp at e; omega
        case measure => simp [intOf]; omega
      · go_wp2_with fail
        go_roundw
        case rel => exact ⟨j + 1, g, by omega, by simp, by rw [unhide hpt, if_neg c]; exact unhide hO0, hg, unhide hb0⟩
        case measure => simp [intOf]; omega
    · obtain rfl : j = A.length := by omega
      rw [List.take_length] at hO' ⊢
      replace hb := hide hb
      go_wp2_with fail
      go_ret
      exact ⟨_, g, rfl, hg, unhide hO', unhide hb⟩
end Go.Proofs.Ytooopcadefpncaa
