/- layer 15: RnC, put together. -/
import Derived.Test.YtoenjdnccgmhoaaGreatDoorB30
import Derived.Test.YtoenjdnccgmhoaaGreatDoorB29
namespace Go.Proofs.YtoenjdnccgmhoaaGreatDoor
open Go.ChangeShapes Go.WideShapes Go.ChangeAt Go.RowKit
set_option linter.unusedSimpArgs false
set_option linter.unusedVariables false
set_option maxRecDepth 10000
attribute [local go_sem, local simp] over_const setCell_drewN alloc_drewN Over.cell Over.frozen lt_s1 lt_s2 lt_s3 le_s0 le_s1 le_s2 le_s3 eq_s0 eq_s1 eq_s2 qe_s0
abbrev tabO : Obj := .cells #[.slice none 0 0, .slice none 0 0] 144
abbrev procO (c : Cf) : Obj := .cells #[.int .i64 c.cu, .int .i64 c.ct, .int .i64 0, .int .i64 0, .bool false, .int .i64 0, .bool false, .int .i64 0, .int .i64 0, .bool false] 106
abbrev rnO (c : Cf) (id : Int) (k1 k2 k3 : Nat) : Obj := .cells #[.int .i64 c.n, .int .i64 c.bl, .int .i64 c.tt, .int .i64 c.cs, .int .i64 c.cy, .int .i64 c.cc, .int .i64 c.cu, .int .i64 c.ct, .int .i64 c.cp, .int .i64 id, ptr k1, ptr k2, ptr k3, .slice none 0 0, .slice none 0 0] 101
theorem ob_lt {w : World} {k : Nat} {o : Obj} (h : w.heap[k]? = some o) : k < w.heap.size := (Array.getElem?_eq_some_iff.1 h).1
def RnZ (w : World) (n0 q : Nat) (c : Cf) (id : Int) : Prop := ∃ k1 p Fr Ft k2 k3, w.heap[q]? = some (rnO c id k1 k2 k3) ∧ RcAt w k1 p Fr Ft (clampZ c.cs 1 64) (clampZ c.cy 1 16) [] [] ∧ w.heap[k2]? = some tabO ∧ w.heap[k3]? = some (procO c) ∧ n0 ≤ q ∧ n0 ≤ k2 ∧ n0 ≤ k3 ∧ ∀ b, Ft b → n0 ≤ b
theorem RnZ.fr {w w' : World} {n0 q : Nat} {c : Cf} {id : Int} {F : Nat → Prop} (h : RnZ w n0 q c id) (hf : FrS F w w') (hF : ∀ b, F b → b < n0) : RnZ w' n0 q c id := by
  obtain ⟨k1, p, Fr, Ft, k2, k3, h1, h2, h3, h4, e1, e2, e3, e4⟩ := h
  exact ⟨k1, p, Fr, Ft, k2, k3, (hf.block _ (ob_lt h1) (fun e => by have := hF _ e; omega)).trans h1, h2.carry (fun b hb hl => hf.block b hl (fun e => by have := hF _ e; have := e4 b hb; omega)), (hf.block _ (ob_lt h3) (fun e => by have := hF _ e; omega)).trans h3, (hf.block _ (ob_lt h4) (fun e => by have := hF _ e; omega)).trans h4, e1, e2, e3, e4⟩
theorem RnZ.below {w w' : World} {n0 q : Nat} {c : Cf} {id : Int} (h : RnZ w n0 q c id) (hb : Below w.heap.size w w') : RnZ w' n0 q c id := h.fr (F := fun _ => False) (FrS.of_below hb) (fun _ e => e.elim)
set_option maxHeartbeats 4000000 in
theorem rnNewZ_c (c : Cf) (id : Int) (w : World) : Calls Tryz.prog 30 #[.agg #[.int .i64 c.n, .int .i64 c.bl, .int .i64 c.tt, .int .i64 c.cs, .int .i64 c.cy, .int .i64 c.cc, .int .i64 c.cu, .int .i64 c.ct, .int .i64 c.cp], .int .i64 id] w fun e w' => ∃ q, e = .returned (ptr q) ∧ RnZ w' w.heap.size q c id ∧ Below w.heap.size w w' := by
  go_enter Tryz.func30, Tryz.ntmps30
  go_upto_region 1 with fail
  refine name_world ?_
  intro V hV
  have hB : Hid (Below w.heap.size w V) := by rw [← hV]; exact hide (by all_goals exact belEnd)
  have kc0 : V.heap[w.heap.size]? = some (cfR c) := by rw [← hV]; exact heap_alloc_new w _
  have hkl : w.heap.size < V.heap.size := by rw [← hV]; simp
  obtain ⟨kc, hke⟩ : ∃ kc, w.heap.size = kc := ⟨_, rfl⟩
  rw [hke] at kc0 hkl ⊢
  replace hke := hide hke
  clear hV
  go_wp2_with fail
  refine wp_region_noPanic ?_
  refine wp_region_held_drew (S := (fun w' => w'.cell? ⟨kc, 0, none⟩ = some (.int .i64 c.n) ∧ w'.cell? ⟨kc, 1, none⟩ = some (.int .i64 c.bl) ∧ w'.cell? ⟨kc, 2, none⟩ = some (.int .i64 c.tt) ∧ w'.cell? ⟨kc, 3, none⟩ = some (.int .i64 c.cs) ∧ w'.cell? ⟨kc, 4, none⟩ = some (.int .i64 c.cy) ∧ w'.cell? ⟨kc, 5, none⟩ = some (.int .i64 c.cc) ∧ w'.cell? ⟨kc, 6, none⟩ = some (.int .i64 c.cu) ∧ w'.cell? ⟨kc, 7, none⟩ = some (.int .i64 c.ct) ∧ w'.cell? ⟨kc, 8, none⟩ = some (.int .i64 c.cp))) (by kernel_rfl) ?_ (fun hHeld => ?_)
  · exact cf_at kc0
  refine hTk 0 5 hHeld ?_
  refine hTk 1 6 hHeld ?_
  refine hTk 2 7 hHeld ?_
  refine hTk 3 8 hHeld ?_
  refine hTk 4 9 hHeld ?_
  refine hTk 5 10 hHeld ?_
  refine hTk 7 12 hHeld ?_
  refine hTk 9 14 hHeld ?_
  refine hTk 10 15 hHeld ?_
  refine hTk 11 16 hHeld ?_
  refine hTk 12 17 hHeld ?_
  refine hTk 13 18 hHeld ?_
  replace hB : Hid (Below w.heap.size w V.drew) := hide hB.out.drew
  replace hkl : kc < V.drew.heap.size := hkl
  obtain ⟨W0, hw0⟩ : ∃ W0, V.drew = W0 := ⟨_, rfl⟩
  replace kc0 : V.drew.heap[kc]? = some (cfR c) := kc0
  rw [hw0] at hHeld hB hkl kc0 ⊢
  clear hw0
  refine hThree 6 8 14 (fun K hK => ?_) (fun K hK => ?_) fun K hK => ?_
  · go_simp
    go_at_call 72
    refine (rcNew_c c.cs c.cy _).mono ?_
    rintro e W1 ⟨q1, q2, q3, q4, rfl, hk0, hb0, hF0⟩
    replace hk0 := hide hk0
    replace hF0 : Hid (∀ b, q4 b → w.heap.size ≤ b) := hide (fun b hb => Nat.le_trans hB.out.size (hF0 b hb))
    have hBz : Hid (Below w.heap.size w W1) := hide (hB.out.trans (hb0.mono hB.out.size))
    replace hB := hBz
    clear hBz
    replace kc0 := (hb0.block _ hkl).trans kc0
    replace hkl := Nat.lt_of_lt_of_le hkl hb0.size
    clear hb0
    refine hK.out _ _ ?_ fun hHeld => ?_
    · exact cf_at kc0
    clear hK K
    try simp only [Act.put, za, zb, zc]
    refine hTwo 8 14 (fun K hK => ?_) fun K hK => ?_
    · go_simp
      have hb0 : Below W1.heap.size W1 (W1.alloc (.cells #[.slice none 0 0, .slice none 0 0] 144)) := (Below.refl _ _).alloc (Nat.le_refl _) _
      obtain ⟨W2, ew⟩ : ∃ W, W1.alloc (.cells #[.slice none 0 0, .slice none 0 0] 144) = W := ⟨_, rfl⟩
      have hx0 : Hid (W2.heap[W1.heap.size]? = some tabO) := by rw [← ew]; exact hide (heap_alloc_new W1 _)
      rw [ew] at hb0
      rw [ew]
      clear ew
      obtain ⟨kx, hkx⟩ : ∃ k, Hid (W1.heap.size = k) := ⟨_, hide rfl⟩
      rw [hkx.out] at hx0
      rw [hkx.out]
      have hx1 : Hid (w.heap.size ≤ kx) := hide (by have := hkx.out; have := hB.out.size; omega)
      clear hkx
      replace hk0 := hide (hk0.out.carry (fun b _ hl => hb0.block b hl))
      have hBz : Hid (Below w.heap.size w W2) := hide (hB.out.trans (hb0.mono hB.out.size))
      replace hB := hBz
      clear hBz
      replace kc0 := (hb0.block _ hkl).trans kc0
      replace hkl := Nat.lt_of_lt_of_le hkl hb0.size
      clear hb0
      refine hK.out _ _ ?_ fun hHeld => ?_
      · exact cf_at kc0
      clear hK K
      try simp only [Act.put, za, zb, zc]
      refine hNo 14 fun K hK => ?_
      go_simp
      have hb0 : Below W2.heap.size W2 (W2.alloc (.cells #[.int .i64 c.cu, .int .i64 c.ct, .int .i64 0, .int .i64 0, .bool false, .int .i64 0, .bool false, .int .i64 0, .int .i64 0, .bool false] 106)) := (Below.refl _ _).alloc (Nat.le_refl _) _
      obtain ⟨W3, ew⟩ : ∃ W, W2.alloc (.cells #[.int .i64 c.cu, .int .i64 c.ct, .int .i64 0, .int .i64 0, .bool false, .int .i64 0, .bool false, .int .i64 0, .int .i64 0, .bool false] 106) = W := ⟨_, rfl⟩
      have hy0 : Hid (W3.heap[W2.heap.size]? = some (procO c)) := by rw [← ew]; exact hide (heap_alloc_new W2 _)
      rw [ew] at hb0
      rw [ew]
      clear ew
      obtain ⟨ky, hky⟩ : ∃ k, Hid (W2.heap.size = k) := ⟨_, hide rfl⟩
      rw [hky.out] at hy0
      rw [hky.out]
      have hy1 : Hid (w.heap.size ≤ ky) := hide (by have := hky.out; have := hB.out.size; omega)
      clear hky
      replace hk0 := hide (hk0.out.carry (fun b _ hl => hb0.block b hl))
      replace hx0 := hide ((hb0.block _ (ob_lt hx0.out)).trans hx0.out)
      have hBz : Hid (Below w.heap.size w W3) := hide (hB.out.trans (hb0.mono hB.out.size))
      replace hB := hBz
      clear hBz
      replace kc0 := (hb0.block _ hkl).trans kc0
      replace hkl := Nat.lt_of_lt_of_le hkl hb0.size
      clear hb0
      refine hK.out _ _ ?_ fun hHeld => ?_
      · exact cf_at kc0
      clear hK K
      try simp only [Act.put, za, zb, zc]
      refine hTk 15 20 hHeld ?_
      clear hHeld
      refine hNo 16 fun K hK => ?_
      go_simp
      refine hK.out _ _ ?_ fun hHeld => ?_
      · exact cf_at ((Below.heap_alloc _ _ _ hkl).trans kc0)
      clear hK K
      try simp only [Act.put, za, zb, zc]
      refine hTk 17 4 hHeld ?_
      refine wpAnyH_done (by kernel_rfl) (NoPanic.normal ?_) _
      clear hHeld
      go_wp2_with fail
      go_ret
      exact ⟨_, rfl, ⟨q1, q2, q3, q4, kx, ky, heap_alloc_new _ _, hk0.out.carry (fun b _ hl => Below.heap_alloc _ _ _ hl), (Below.heap_alloc _ _ _ (ob_lt hx0.out)).trans hx0.out, (Below.heap_alloc _ _ _ (ob_lt hy0.out)).trans hy0.out, hB.out.size, hx1.out, hy1.out, hF0.out⟩, hB.out.alloc hB.out.size _⟩
    · go_simp
      have hb0 : Below W1.heap.size W1 (W1.alloc (.cells #[.int .i64 c.cu, .int .i64 c.ct, .int .i64 0, .int .i64 0, .bool false, .int .i64 0, .bool false, .int .i64 0, .int .i64 0, .bool false] 106)) := (Below.refl _ _).alloc (Nat.le_refl _) _
      obtain ⟨W2, ew⟩ : ∃ W, W1.alloc (.cells #[.int .i64 c.cu, .int .i64 c.ct, .int .i64 0, .int .i64 0, .bool false, .int .i64 0, .bool false, .int .i64 0, .int .i64 0, .bool false] 106) = W := ⟨_, rfl⟩
      have hy0 : Hid (W2.heap[W1.heap.size]? = some (procO c)) := by rw [← ew]; exact hide (heap_alloc_new W1 _)
      rw [ew] at hb0
      rw [ew]
      clear ew
      obtain ⟨ky, hky⟩ : ∃ k, Hid (W1.heap.size = k) := ⟨_, hide rfl⟩
      rw [hky.out] at hy0
      rw [hky.out]
      have hy1 : Hid (w.heap.size ≤ ky) := hide (by have := hky.out; have := hB.out.size; omega)
      clear hky
      replace hk0 := hide (hk0.out.carry (fun b _ hl => hb0.block b hl))
      have hBz : Hid (Below w.heap.size w W2) := hide (hB.out.trans (hb0.mono hB.out.size))
      replace hB := hBz
      clear hBz
      replace kc0 := (hb0.block _ hkl).trans kc0
      replace hkl := Nat.lt_of_lt_of_le hkl hb0.size
      clear hb0
      refine hK.out _ _ ?_ fun hHeld => ?_
      · exact cf_at kc0
      clear hK K
      try simp only [Act.put, za, zb, zc]
      refine hNo 8 fun K hK => ?_
      go_simp
      have hb0 : Below W2.heap.size W2 (W2.alloc (.cells #[.slice none 0 0, .slice none 0 0] 144)) := (Below.refl _ _).alloc (Nat.le_refl _) _
      obtain ⟨W3, ew⟩ : ∃ W, W2.alloc (.cells #[.slice none 0 0, .slice none 0 0] 144) = W := ⟨_, rfl⟩
      have hx0 : Hid (W3.heap[W2.heap.size]? = some tabO) := by rw [← ew]; exact hide (heap_alloc_new W2 _)
      rw [ew] at hb0
      rw [ew]
      clear ew
      obtain ⟨kx, hkx⟩ : ∃ k, Hid (W2.heap.size = k) := ⟨_, hide rfl⟩
      rw [hkx.out] at hx0
      rw [hkx.out]
      have hx1 : Hid (w.heap.size ≤ kx) := hide (by have := hkx.out; have := hB.out.size; omega)
      clear hkx
      replace hk0 := hide (hk0.out.carry (fun b _ hl => hb0.block b hl))
      replace hy0 := hide ((hb0.block _ (ob_lt hy0.out)).trans hy0.out)
      have hBz : Hid (Below w.heap.size w W3) := hide (hB.out.trans (hb0.mono hB.out.size))
      replace hB := hBz
      clear hBz
      replace kc0 := (hb0.block _ hkl).trans kc0
      replace hkl := Nat.lt_of_lt_of_le hkl hb0.size
      clear hb0
      refine hK.out _ _ ?_ fun hHeld => ?_
      · exact cf_at kc0
      clear hK K
      try simp only [Act.put, za, zb, zc]
      refine hTk 15 20 hHeld ?_
      clear hHeld
      refine hNo 16 fun K hK => ?_
      go_simp
      refine hK.out _ _ ?_ fun hHeld => ?_
      · exact cf_at ((Below.heap_alloc _ _ _ hkl).trans kc0)
      clear hK K
      try simp only [Act.put, za, zb, zc]
      refine hTk 17 4 hHeld ?_
      refine wpAnyH_done (by kernel_rfl) (NoPanic.normal ?_) _
      clear hHeld
      go_wp2_with fail
      go_ret
      exact ⟨_, rfl, ⟨q1, q2, q3, q4, kx, ky, heap_alloc_new _ _, hk0.out.carry (fun b _ hl => Below.heap_alloc _ _ _ hl), (Below.heap_alloc _ _ _ (ob_lt hx0.out)).trans hx0.out, (Below.heap_alloc _ _ _ (ob_lt hy0.out)).trans hy0.out, hB.out.size, hx1.out, hy1.out, hF0.out⟩, hB.out.alloc hB.out.size _⟩
  · go_simp
    have hb0 : Below W0.heap.size W0 (W0.alloc (.cells #[.slice none 0 0, .slice none 0 0] 144)) := (Below.refl _ _).alloc (Nat.le_refl _) _
    obtain ⟨W1, ew⟩ : ∃ W, W0.alloc (.cells #[.slice none 0 0, .slice none 0 0] 144) = W := ⟨_, rfl⟩
    have hx0 : Hid (W1.heap[W0.heap.size]? = some tabO) := by rw [← ew]; exact hide (heap_alloc_new W0 _)
    rw [ew] at hb0
    rw [ew]
    clear ew
    obtain ⟨kx, hkx⟩ : ∃ k, Hid (W0.heap.size = k) := ⟨_, hide rfl⟩
    rw [hkx.out] at hx0
    rw [hkx.out]
    have hx1 : Hid (w.heap.size ≤ kx) := hide (by have := hkx.out; have := hB.out.size; omega)
    clear hkx
    have hBz : Hid (Below w.heap.size w W1) := hide (hB.out.trans (hb0.mono hB.out.size))
    replace hB := hBz
    clear hBz
    replace kc0 := (hb0.block _ hkl).trans kc0
    replace hkl := Nat.lt_of_lt_of_le hkl hb0.size
    clear hb0
    refine hK.out _ _ ?_ fun hHeld => ?_
    · exact cf_at kc0
    clear hK K
    try simp only [Act.put, za, zb, zc]
    refine hTwo 6 14 (fun K hK => ?_) fun K hK => ?_
    · go_simp
      go_at_call 72
      refine (rcNew_c c.cs c.cy _).mono ?_
      rintro e W2 ⟨q1, q2, q3, q4, rfl, hk0, hb0, hF0⟩
      replace hk0 := hide hk0
      replace hF0 : Hid (∀ b, q4 b → w.heap.size ≤ b) := hide (fun b hb => Nat.le_trans hB.out.size (hF0 b hb))
      replace hx0 := hide ((hb0.block _ (ob_lt hx0.out)).trans hx0.out)
      have hBz : Hid (Below w.heap.size w W2) := hide (hB.out.trans (hb0.mono hB.out.size))
      replace hB := hBz
      clear hBz
      replace kc0 := (hb0.block _ hkl).trans kc0
      replace hkl := Nat.lt_of_lt_of_le hkl hb0.size
      clear hb0
      refine hK.out _ _ ?_ fun hHeld => ?_
      · exact cf_at kc0
      clear hK K
      try simp only [Act.put, za, zb, zc]
      refine hNo 14 fun K hK => ?_
      go_simp
      have hb0 : Below W2.heap.size W2 (W2.alloc (.cells #[.int .i64 c.cu, .int .i64 c.ct, .int .i64 0, .int .i64 0, .bool false, .int .i64 0, .bool false, .int .i64 0, .int .i64 0, .bool false] 106)) := (Below.refl _ _).alloc (Nat.le_refl _) _
      obtain ⟨W3, ew⟩ : ∃ W, W2.alloc (.cells #[.int .i64 c.cu, .int .i64 c.ct, .int .i64 0, .int .i64 0, .bool false, .int .i64 0, .bool false, .int .i64 0, .int .i64 0, .bool false] 106) = W := ⟨_, rfl⟩
      have hy0 : Hid (W3.heap[W2.heap.size]? = some (procO c)) := by rw [← ew]; exact hide (heap_alloc_new W2 _)
      rw [ew] at hb0
      rw [ew]
      clear ew
      obtain ⟨ky, hky⟩ : ∃ k, Hid (W2.heap.size = k) := ⟨_, hide rfl⟩
      rw [hky.out] at hy0
      rw [hky.out]
      have hy1 : Hid (w.heap.size ≤ ky) := hide (by have := hky.out; have := hB.out.size; omega)
      clear hky
      replace hx0 := hide ((hb0.block _ (ob_lt hx0.out)).trans hx0.out)
      replace hk0 := hide (hk0.out.carry (fun b _ hl => hb0.block b hl))
      have hBz : Hid (Below w.heap.size w W3) := hide (hB.out.trans (hb0.mono hB.out.size))
      replace hB := hBz
      clear hBz
      replace kc0 := (hb0.block _ hkl).trans kc0
      replace hkl := Nat.lt_of_lt_of_le hkl hb0.size
      clear hb0
      refine hK.out _ _ ?_ fun hHeld => ?_
      · exact cf_at kc0
      clear hK K
      try simp only [Act.put, za, zb, zc]
      refine hTk 15 20 hHeld ?_
      clear hHeld
      refine hNo 16 fun K hK => ?_
      go_simp
      refine hK.out _ _ ?_ fun hHeld => ?_
      · exact cf_at ((Below.heap_alloc _ _ _ hkl).trans kc0)
      clear hK K
      try simp only [Act.put, za, zb, zc]
      refine hTk 17 4 hHeld ?_
      refine wpAnyH_done (by kernel_rfl) (NoPanic.normal ?_) _
      clear hHeld
      go_wp2_with fail
      go_ret
      exact ⟨_, rfl, ⟨q1, q2, q3, q4, kx, ky, heap_alloc_new _ _, hk0.out.carry (fun b _ hl => Below.heap_alloc _ _ _ hl), (Below.heap_alloc _ _ _ (ob_lt hx0.out)).trans hx0.out, (Below.heap_alloc _ _ _ (ob_lt hy0.out)).trans hy0.out, hB.out.size, hx1.out, hy1.out, hF0.out⟩, hB.out.alloc hB.out.size _⟩
    · go_simp
      have hb0 : Below W1.heap.size W1 (W1.alloc (.cells #[.int .i64 c.cu, .int .i64 c.ct, .int .i64 0, .int .i64 0, .bool false, .int .i64 0, .bool false, .int .i64 0, .int .i64 0, .bool false] 106)) := (Below.refl _ _).alloc (Nat.le_refl _) _
      obtain ⟨W2, ew⟩ : ∃ W, W1.alloc (.cells #[.int .i64 c.cu, .int .i64 c.ct, .int .i64 0, .int .i64 0, .bool false, .int .i64 0, .bool false, .int .i64 0, .int .i64 0, .bool false] 106) = W := ⟨_, rfl⟩
      have hy0 : Hid (W2.heap[W1.heap.size]? = some (procO c)) := by rw [← ew]; exact hide (heap_alloc_new W1 _)
      rw [ew] at hb0
      rw [ew]
      clear ew
      obtain ⟨ky, hky⟩ : ∃ k, Hid (W1.heap.size = k) := ⟨_, hide rfl⟩
      rw [hky.out] at hy0
      rw [hky.out]
      have hy1 : Hid (w.heap.size ≤ ky) := hide (by have := hky.out; have := hB.out.size; omega)
      clear hky
      replace hx0 := hide ((hb0.block _ (ob_lt hx0.out)).trans hx0.out)
      have hBz : Hid (Below w.heap.size w W2) := hide (hB.out.trans (hb0.mono hB.out.size))
      replace hB := hBz
      clear hBz
      replace kc0 := (hb0.block _ hkl).trans kc0
      replace hkl := Nat.lt_of_lt_of_le hkl hb0.size
      clear hb0
      refine hK.out _ _ ?_ fun hHeld => ?_
      · exact cf_at kc0
      clear hK K
      try simp only [Act.put, za, zb, zc]
      refine hNo 6 fun K hK => ?_
      go_simp
      go_at_call 72
      refine (rcNew_c c.cs c.cy _).mono ?_
      rintro e W3 ⟨q1, q2, q3, q4, rfl, hk0, hb0, hF0⟩
      replace hk0 := hide hk0
      replace hF0 : Hid (∀ b, q4 b → w.heap.size ≤ b) := hide (fun b hb => Nat.le_trans hB.out.size (hF0 b hb))
      replace hx0 := hide ((hb0.block _ (ob_lt hx0.out)).trans hx0.out)
      replace hy0 := hide ((hb0.block _ (ob_lt hy0.out)).trans hy0.out)
      have hBz : Hid (Below w.heap.size w W3) := hide (hB.out.trans (hb0.mono hB.out.size))
      replace hB := hBz
      clear hBz
      replace kc0 := (hb0.block _ hkl).trans kc0
      replace hkl := Nat.lt_of_lt_of_le hkl hb0.size
      clear hb0
      refine hK.out _ _ ?_ fun hHeld => ?_
      · exact cf_at kc0
      clear hK K
      try simp only [Act.put, za, zb, zc]
      refine hTk 15 20 hHeld ?_
      clear hHeld
      refine hNo 16 fun K hK => ?_
      go_simp
      refine hK.out _ _ ?_ fun hHeld => ?_
      · exact cf_at ((Below.heap_alloc _ _ _ hkl).trans kc0)
      clear hK K
      try simp only [Act.put, za, zb, zc]
      refine hTk 17 4 hHeld ?_
      refine wpAnyH_done (by kernel_rfl) (NoPanic.normal ?_) _
      clear hHeld
      go_wp2_with fail
      go_ret
      exact ⟨_, rfl, ⟨q1, q2, q3, q4, kx, ky, heap_alloc_new _ _, hk0.out.carry (fun b _ hl => Below.heap_alloc _ _ _ hl), (Below.heap_alloc _ _ _ (ob_lt hx0.out)).trans hx0.out, (Below.heap_alloc _ _ _ (ob_lt hy0.out)).trans hy0.out, hB.out.size, hx1.out, hy1.out, hF0.out⟩, hB.out.alloc hB.out.size _⟩
  · go_simp
    have hb0 : Below W0.heap.size W0 (W0.alloc (.cells #[.int .i64 c.cu, .int .i64 c.ct, .int .i64 0, .int .i64 0, .bool false, .int .i64 0, .bool false, .int .i64 0, .int .i64 0, .bool false] 106)) := (Below.refl _ _).alloc (Nat.le_refl _) _
    obtain ⟨W1, ew⟩ : ∃ W, W0.alloc (.cells #[.int .i64 c.cu, .int .i64 c.ct, .int .i64 0, .int .i64 0, .bool false, .int .i64 0, .bool false, .int .i64 0, .int .i64 0, .bool false] 106) = W := ⟨_, rfl⟩
    have hy0 : Hid (W1.heap[W0.heap.size]? = some (procO c)) := by rw [← ew]; exact hide (heap_alloc_new W0 _)
    rw [ew] at hb0
    rw [ew]
    clear ew
    obtain ⟨ky, hky⟩ : ∃ k, Hid (W0.heap.size = k) := ⟨_, hide rfl⟩
    rw [hky.out] at hy0
    rw [hky.out]
    have hy1 : Hid (w.heap.size ≤ ky) := hide (by have := hky.out; have := hB.out.size; omega)
    clear hky
    have hBz : Hid (Below w.heap.size w W1) := hide (hB.out.trans (hb0.mono hB.out.size))
    replace hB := hBz
    clear hBz
    replace kc0 := (hb0.block _ hkl).trans kc0
    replace hkl := Nat.lt_of_lt_of_le hkl hb0.size
    clear hb0
    refine hK.out _ _ ?_ fun hHeld => ?_
    · exact cf_at kc0
    clear hK K
    try simp only [Act.put, za, zb, zc]
    refine hTwo 6 8 (fun K hK => ?_) fun K hK => ?_
    · go_simp
      go_at_call 72
      refine (rcNew_c c.cs c.cy _).mono ?_
      rintro e W2 ⟨q1, q2, q3, q4, rfl, hk0, hb0, hF0⟩
      replace hk0 := hide hk0
      replace hF0 : Hid (∀ b, q4 b → w.heap.size ≤ b) := hide (fun b hb => Nat.le_trans hB.out.size (hF0 b hb))
      replace hy0 := hide ((hb0.block _ (ob_lt hy0.out)).trans hy0.out)
      have hBz : Hid (Below w.heap.size w W2) := hide (hB.out.trans (hb0.mono hB.out.size))
      replace hB := hBz
      clear hBz
      replace kc0 := (hb0.block _ hkl).trans kc0
      replace hkl := Nat.lt_of_lt_of_le hkl hb0.size
      clear hb0
      refine hK.out _ _ ?_ fun hHeld => ?_
      · exact cf_at kc0
      clear hK K
      try simp only [Act.put, za, zb, zc]
      refine hNo 8 fun K hK => ?_
      go_simp
      have hb0 : Below W2.heap.size W2 (W2.alloc (.cells #[.slice none 0 0, .slice none 0 0] 144)) := (Below.refl _ _).alloc (Nat.le_refl _) _
      obtain ⟨W3, ew⟩ : ∃ W, W2.alloc (.cells #[.slice none 0 0, .slice none 0 0] 144) = W := ⟨_, rfl⟩
      have hx0 : Hid (W3.heap[W2.heap.size]? = some tabO) := by rw [← ew]; exact hide (heap_alloc_new W2 _)
      rw [ew] at hb0
      rw [ew]
      clear ew
      obtain ⟨kx, hkx⟩ : ∃ k, Hid (W2.heap.size = k) := ⟨_, hide rfl⟩
      rw [hkx.out] at hx0
      rw [hkx.out]
      have hx1 : Hid (w.heap.size ≤ kx) := hide (by have := hkx.out; have := hB.out.size; omega)
      clear hkx
      replace hy0 := hide ((hb0.block _ (ob_lt hy0.out)).trans hy0.out)
      replace hk0 := hide (hk0.out.carry (fun b _ hl => hb0.block b hl))
      have hBz : Hid (Below w.heap.size w W3) := hide (hB.out.trans (hb0.mono hB.out.size))
      replace hB := hBz
      clear hBz
      replace kc0 := (hb0.block _ hkl).trans kc0
      replace hkl := Nat.lt_of_lt_of_le hkl hb0.size
      clear hb0
      refine hK.out _ _ ?_ fun hHeld => ?_
      · exact cf_at kc0
      clear hK K
      try simp only [Act.put, za, zb, zc]
      refine hTk 15 20 hHeld ?_
      clear hHeld
      refine hNo 16 fun K hK => ?_
      go_simp
      refine hK.out _ _ ?_ fun hHeld => ?_
      · exact cf_at ((Below.heap_alloc _ _ _ hkl).trans kc0)
      clear hK K
      try simp only [Act.put, za, zb, zc]
      refine hTk 17 4 hHeld ?_
      refine wpAnyH_done (by kernel_rfl) (NoPanic.normal ?_) _
      clear hHeld
      go_wp2_with fail
      go_ret
      exact ⟨_, rfl, ⟨q1, q2, q3, q4, kx, ky, heap_alloc_new _ _, hk0.out.carry (fun b _ hl => Below.heap_alloc _ _ _ hl), (Below.heap_alloc _ _ _ (ob_lt hx0.out)).trans hx0.out, (Below.heap_alloc _ _ _ (ob_lt hy0.out)).trans hy0.out, hB.out.size, hx1.out, hy1.out, hF0.out⟩, hB.out.alloc hB.out.size _⟩
    · go_simp
      have hb0 : Below W1.heap.size W1 (W1.alloc (.cells #[.slice none 0 0, .slice none 0 0] 144)) := (Below.refl _ _).alloc (Nat.le_refl _) _
      obtain ⟨W2, ew⟩ : ∃ W, W1.alloc (.cells #[.slice none 0 0, .slice none 0 0] 144) = W := ⟨_, rfl⟩
      have hx0 : Hid (W2.heap[W1.heap.size]? = some tabO) := by rw [← ew]; exact hide (heap_alloc_new W1 _)
      rw [ew] at hb0
      rw [ew]
      clear ew
      obtain ⟨kx, hkx⟩ : ∃ k, Hid (W1.heap.size = k) := ⟨_, hide rfl⟩
      rw [hkx.out] at hx0
      rw [hkx.out]
      have hx1 : Hid (w.heap.size ≤ kx) := hide (by have := hkx.out; have := hB.out.size; omega)
      clear hkx
      replace hy0 := hide ((hb0.block _ (ob_lt hy0.out)).trans hy0.out)
      have hBz : Hid (Below w.heap.size w W2) := hide (hB.out.trans (hb0.mono hB.out.size))
      replace hB := hBz
      clear hBz
      replace kc0 := (hb0.block _ hkl).trans kc0
      replace hkl := Nat.lt_of_lt_of_le hkl hb0.size
      clear hb0
      refine hK.out _ _ ?_ fun hHeld => ?_
      · exact cf_at kc0
      clear hK K
      try simp only [Act.put, za, zb, zc]
      refine hNo 6 fun K hK => ?_
      go_simp
      go_at_call 72
      refine (rcNew_c c.cs c.cy _).mono ?_
      rintro e W3 ⟨q1, q2, q3, q4, rfl, hk0, hb0, hF0⟩
      replace hk0 := hide hk0
      replace hF0 : Hid (∀ b, q4 b → w.heap.size ≤ b) := hide (fun b hb => Nat.le_trans hB.out.size (hF0 b hb))
      replace hy0 := hide ((hb0.block _ (ob_lt hy0.out)).trans hy0.out)
      replace hx0 := hide ((hb0.block _ (ob_lt hx0.out)).trans hx0.out)
      have hBz : Hid (Below w.heap.size w W3) := hide (hB.out.trans (hb0.mono hB.out.size))
      replace hB := hBz
      clear hBz
      replace kc0 := (hb0.block _ hkl).trans kc0
      replace hkl := Nat.lt_of_lt_of_le hkl hb0.size
      clear hb0
      refine hK.out _ _ ?_ fun hHeld => ?_
      · exact cf_at kc0
      clear hK K
      try simp only [Act.put, za, zb, zc]
      refine hTk 15 20 hHeld ?_
      clear hHeld
      refine hNo 16 fun K hK => ?_
      go_simp
      refine hK.out _ _ ?_ fun hHeld => ?_
      · exact cf_at ((Below.heap_alloc _ _ _ hkl).trans kc0)
      clear hK K
      try simp only [Act.put, za, zb, zc]
      refine hTk 17 4 hHeld ?_
      refine wpAnyH_done (by kernel_rfl) (NoPanic.normal ?_) _
      clear hHeld
      go_wp2_with fail
      go_ret
      exact ⟨_, rfl, ⟨q1, q2, q3, q4, kx, ky, heap_alloc_new _ _, hk0.out.carry (fun b _ hl => Below.heap_alloc _ _ _ hl), (Below.heap_alloc _ _ _ (ob_lt hx0.out)).trans hx0.out, (Below.heap_alloc _ _ _ (ob_lt hy0.out)).trans hy0.out, hB.out.size, hx1.out, hy1.out, hF0.out⟩, hB.out.alloc hB.out.size _⟩
end Go.Proofs.YtoenjdnccgmhoaaGreatDoor
