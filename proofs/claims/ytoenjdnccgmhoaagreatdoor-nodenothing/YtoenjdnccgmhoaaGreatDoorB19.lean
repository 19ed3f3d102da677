/- layer 15: LinC LinE LinF LinG LinH LinI, put together. -/
import Derived.Test.YtoenjdnccgmhoaaGreatDoorB17
import Derived.Test.YtoenjdnccgmhoaaGreatDoorB03
import Derived.Test.YtoenjdnccgmhoaaGreatDoorB18
namespace Go.Proofs.YtoenjdnccgmhoaaGreatDoor
open Go.ChangeShapes Go.WideShapes Go.ChangeAt Go.RowKit
set_option linter.unusedSimpArgs false
set_option linter.unusedVariables false
set_option maxRecDepth 10000
attribute [local go_sem, local simp] over_const setCell_drewN alloc_drewN Over.cell Over.frozen lt_s1 lt_s2 lt_s3 le_s0 le_s1 le_s2 le_s3 eq_s0 eq_s1 eq_s2 qe_s0
set_option maxHeartbeats 400000 in
theorem set_c (p : Nat) (S x : Int) (w : World) (c0 : w.cell? ⟨p, 0, none⟩ = some (.int .i64 S)) (hS : S ≤ 64) : Calls Tryz.prog 163 #[ptr p, .int .i64 x] w fun e w' => e = .returned (.int .i64 (modZ x S)) ∧ w' = w := by
  obtain ⟨k, hk⟩ : ∃ k, Hid (modZ x S = k) := ⟨_, rfl⟩
  rw [hk.out]
  go_enter Tryz.func163, Tryz.ntmps163
  go_wp2_with (go_at_call 183; refine (numMod_any x S _ (by omega)).mono ?_; rw [hk.out]; rintro e w' ⟨rfl, rfl⟩)
  go_ret
  exact ⟨rfl, rfl⟩
theorem LnIs.find {w : World} {p : Nat} {Ft : Nat → Prop} {S W : Int} {A : List Int} (h : LnIs w p Ft S W A) (x : Int) :
    ∃ m rows D k v, Hid (modZ x S = k) ∧ w.cell? ⟨p, 2, none⟩ = some (.map (some m)) ∧ Hid (∀ w', w'.heap[m]? = w.heap[m]? → (Instr.lookup 211 (.map (some m)) (.int .i64 k) false).run Tryz.prog w' = .ok v w') ∧
      Hid (Own w v (rows k) (part S A k) ∧ (rows k = m → v = nilV) ∧ 0 ≤ k ∧ k < S ∧ SetsIs w m rows S A D ∧ Ft m ∧ m ≠ p ∧ ∀ k, 0 ≤ k → k < S → Ft (rows k) ∧ rows k ≠ p) := by
  obtain ⟨m, rows, D, h1, h2, h3, h4, h5⟩ := h.sets
  obtain ⟨k0, k1⟩ := modZ_in h.inv.s0 x
  obtain ⟨v, a, b, c⟩ := h2.look h.inv.s1 k0 k1
  exact ⟨m, rows, D, modZ x S, v, rfl, h1, a, b, c, k0, k1, h2, h3, h4, h5⟩
set_option maxHeartbeats 1000000 in
theorem has_c (p : Nat) (Ft : Nat → Prop) (S W x : Int) (A : List Int) (w : World) (h : LnIs w p Ft S W A) : Calls Tryz.prog 166 #[ptr p, .int .i64 x] w fun e w' => e = .returned (.bool (decide (x ∈ A))) ∧ ∃ n, w' = w.drewN n := by
  obtain ⟨m, rows, D, k, v, hk, c2, hl, hv⟩ := h.find x
  have c0 := hide h.c0
  have s1 := h.inv.s1
  have hO := hide (unhide hv).1
  have hl0 : (Instr.lookup 211 (.map (some m)) (.int .i64 k) false).run Tryz.prog w.drew = .ok v w.drew := unhide hl _ rfl
  have hr : ∀ q, decide (x ∈ part S A k) = q → decide (x ∈ A) = q := by
    intro q hq
    rw [← hq, ← hk.out]
    simp [mem_part]
  obtain ⟨q, hq⟩ : ∃ q, Hid (decide (x ∈ part S A k) = q) := ⟨_, rfl⟩
  rw [hr q hq.out]
  clear hr h hv
  go_enter Tryz.func166, Tryz.ntmps166
  go_wp2_with fail
  refine wp_region_noPanic ?_
  refine wp_region_held_drew (S := (fun w' => w' = w.drew ∧ w'.cell? ⟨p, 2, none⟩ = some (.map (some m)) ∧ (Instr.lookup 211 (.map (some m)) (.int .i64 k) false).run Tryz.prog w' = .ok v w')) (by kernel_rfl) ?_ (fun hHeld => ?_)
  · exact ⟨rfl, c2, hl0⟩
  refine hTk 0 5 hHeld ?_
  refine hTk 1 6 hHeld ?_
  refine hTk 2 7 hHeld ?_
  refine hTk 3 8 hHeld ?_
  refine hTk 4 9 hHeld ?_
  refine hTk 5 10 hHeld ?_
  refine hTk 8 13 hHeld ?_
  refine hNo 6 fun K hK => ?_
  go_simp; go_at_call 163; refine (set_c p S x w.drew (unhide c0) s1).mono ?_; rw [hk.out]; rintro e w' ⟨rfl, rfl⟩
  refine hK.out _ _ ?_ fun hHeld => ?_
  · exact ⟨rfl, c2, hl0⟩
  clear hK K
  try simp only [Act.put, za, zb, zc]
  refine hTk 7 12 hHeld ?_
  refine hNo 9 fun K hK => ?_
  go_simp; go_at_call 184; refine (contains_c v (rows k) (part S A k) x w.drew ((unhide hO).view.carry fun _ _ => rfl)).mono ?_; rw [hq.out]; rintro e w' ⟨rfl, rfl⟩
  refine hK.out _ _ ?_ fun hHeld => ?_
  · exact ⟨rfl, c2, hl0⟩
  clear hK K
  try simp only [Act.put, za, zb, zc]
  refine hTk 10 4 hHeld ?_
  refine wpAnyH_done (by kernel_rfl) (NoPanic.normal ?_) _
  clear hHeld
  go_wp2_with fail
  go_ret
  exact ⟨rfl, 1, rfl⟩
set_option maxHeartbeats 1000000 in
theorem full_c (p : Nat) (Ft : Nat → Prop) (S W x : Int) (A : List Int) (w : World) (h : LnIs w p Ft S W A) : Calls Tryz.prog 167 #[ptr p, .int .i64 x] w fun e w' => e = .returned (.bool (fullA S W A x)) ∧ ∃ n, w' = w.drewN n := by
  obtain ⟨m, rows, D, k, v, hk, c2, hl, hv⟩ := h.find x
  have c0 := hide h.c0
  have c1 := h.c1
  have s1 := h.inv.s1
  obtain ⟨⟨ao, cap, rfl, _⟩, _⟩ := unhide hv
  have hl0 : (Instr.lookup 211 (.map (some m)) (.int .i64 k) false).run Tryz.prog w.drew = .ok _ w.drew := unhide hl _ rfl
  obtain ⟨n, hn⟩ : ∃ n, Hid ((part S A k).length = n) := ⟨_, rfl⟩
  rw [hn.out] at hl0
  have hq : fullA S W A x = decide (W ≤ n) := by rw [fullA, hk.out, hn.out]
  rw [hq]
  clear hq h hv hl
  · go_enter Tryz.func167, Tryz.ntmps167
    go_wp2_with fail
    refine wp_region_noPanic ?_
    refine wp_region_held_drew (S := (fun w' => w' = w.drew ∧ w'.cell? ⟨p, 2, none⟩ = some (.map (some m)) ∧ w'.cell? ⟨p, 1, none⟩ = some (.int .i64 W) ∧ (Instr.lookup 211 (.map (some m)) (.int .i64 k) false).run Tryz.prog w' = .ok (.slice ao n cap) w')) (by kernel_rfl) ?_ (fun hHeld => ?_)
    · exact ⟨rfl, c2, c1, hl0⟩
    refine hTk 0 5 hHeld ?_
    refine hTk 1 6 hHeld ?_
    refine hTk 2 7 hHeld ?_
    refine hTk 3 8 hHeld ?_
    refine hTk 4 9 hHeld ?_
    refine hTk 5 10 hHeld ?_
    refine hTk 9 14 hHeld ?_
    refine hTk 10 15 hHeld ?_
    refine hTk 11 16 hHeld ?_
    refine hTk 12 17 hHeld ?_
    refine hNo 6 fun K hK => ?_
    go_simp; go_at_call 163; refine (set_c p S x w.drew (unhide c0) s1).mono ?_; rw [hk.out]; rintro e w' ⟨rfl, rfl⟩
    refine hK.out _ _ ?_ fun hHeld => ?_
    · exact ⟨rfl, c2, c1, hl0⟩
    clear hK K
    try simp only [Act.put, za, zb, zc]
    refine hTk 7 12 hHeld ?_
    refine hTk 8 13 hHeld ?_
    refine hTk 13 18 hHeld ?_
    refine hTk 14 4 hHeld ?_
    refine wpAnyH_done (by kernel_rfl) (NoPanic.normal ?_) _
    clear hHeld
    go_wp2_with fail
    go_ret
    exact ⟨rfl, 1, rfl⟩
set_option maxHeartbeats 1000000 in
theorem new_c (s t : Int) (w : World) : Calls Tryz.prog 114 #[.int .i64 s, .int .i64 t] w fun e w' => ∃ p Ft, e = .returned (ptr p) ∧ LnIs w' p Ft (clampZ s 1 64) (clampZ t 1 16) [] ∧ Below w.heap.size w w' ∧ ∀ b, Ft b → w.heap.size ≤ b := by
  obtain ⟨S, hS⟩ : ∃ S, Hid (clampZ s 1 64 = S) := ⟨_, rfl⟩
  obtain ⟨W, hW⟩ : ∃ W, Hid (clampZ t 1 16 = W) := ⟨_, rfl⟩
  rw [hS.out, hW.out]
  have bS := (clampZ_bd s 1 64).2 (by decide)
  have bW := (clampZ_bd t 1 16).2 (by decide)
  rw [hS.out] at bS
  rw [hW.out] at bW
  have hmm := @run_makeMap Tryz.prog
  go_enter Tryz.func114, Tryz.ntmps114
  go_wp2_with (first | (go_at_call 143; with_reducible refine (numClamp_any s 1 64 _).mono ?_; rw [hS.out]; rintro e w' ⟨rfl, hw'⟩; rw [hw']; clear hw' w') | (go_at_call 143; with_reducible refine (numClamp_any t 1 16 _).mono ?_; rw [hW.out]; rintro e w' ⟨rfl, hw'⟩; rw [hw']; clear hw' w'))
  go_ret
  have hm : (w.alloc (.map #[] 0)).ownsMap (H := Value) Tryz.prog 3 heldR w.heap.size 0 (.map []) := World.ownsMap_made _ _ _ _
  refine ⟨w.heap.size + 1, fun b => b = w.heap.size ∨ b = w.heap.size + 1, rfl, ⟨Inv.new bS.1 bS.2 bW.1 bW.2, by simp, .inr rfl, fun b hb => by simp; omega, by simp, by simp, ⟨w.heap.size, fun _ => w.heap.size, .map [], by simp, sets_new _ _ (by simp) S ((hm.alloc _).mono (by omega)), .inl rfl, by omega, fun _ _ _ => ⟨.inl rfl, by dsimp only; omega⟩⟩⟩, ?_, fun b hb => by omega⟩
  exact ((Below.refl _ _).alloc (Nat.le_refl _) _).alloc (by simp) _
theorem view_one (w : World) (x : Int) : View (w.alloc (.cells #[.int .i64 x] 3)) (.slice (some ⟨w.heap.size, 0, none⟩) 1 1) w.heap.size [x] :=
  ⟨_, 1, rfl, Nat.le_refl _, by decide, .inr ⟨0, rfl, by simp, fun j hj => by
    obtain rfl : j = 0 := by simpa using hj
    exact cell_of_row _ _ _ _ _ _ (heap_alloc_new w _)⟩⟩
theorem LnIs.put {w w1 w2 : World} {p m : Nat} {Ft : Nat → Prop} {S W k : Int} {A A' : List Int} {rows : Int → Nat} {D' : DataW Value} {g' : Nat} (h : LnIs w p Ft S W A) (c2 : w.cell? ⟨p, 2, none⟩ = some (.map (some m))) (hI : Inv S W A') (k0 : 0 ≤ k) (k1 : k < S) (hF : Ft m ∧ m ≠ p ∧ ∀ k, 0 ≤ k → k < S → Ft (rows k) ∧ rows k ≠ p)
    (hf : FrS (· = rows k) w w1) (hg : g' = rows k ∨ w.heap.size ≤ g') (hl : g' < w1.heap.size) (hs : SetsIs w2 m (fun j => if j = k then g' else rows j) S A' D') (hf2 : FrS (· = m) w1 w2) :
    ∃ Ft', LnIs w2 p Ft' S W A' ∧ Step Ft Ft' w w2 := by
  obtain ⟨hFm, hmp, hFr⟩ := hF
  have e1 : w2.heap[p]? = w.heap[p]? := (hf2.block p (Nat.lt_of_lt_of_le h.pl hf.size) (fun e => hmp e.symm)).trans (hf.block p h.pl (fun e => (hFr k k0 k1).2 e.symm))
  have s1 := hf.size
  have s2 := hf2.size
  have hgp : g' ≠ p := by rcases hg with rfl | hg; exact (hFr k k0 k1).2; have := h.pl; omega
  have hpl := h.pl
  refine ⟨fun b => Ft b ∨ b = g', ⟨hI, by omega, .inl h.fp, ?_, (World.cell?_of_block (w := w) e1).trans h.c0, (World.cell?_of_block (w := w) e1).trans h.c1, ⟨m, _, D', (World.cell?_of_block (w := w) e1).trans c2, hs, .inl hFm, hmp, fun j j0 j1 => ?_⟩⟩, ?_, ?_⟩
  · rintro b (hb | rfl)
    · have := h.lt b hb; omega
    · omega
  · by_cases c : j = k
    · rw [if_pos c]; exact ⟨.inr rfl, hgp⟩
    · rw [if_neg c]; exact ⟨.inl (hFr j j0 j1).1, (hFr j j0 j1).2⟩
  · exact (hf.mono (fun i _ hi => by rw [hi]; exact (hFr k k0 k1).1)).trans hf2 (fun i hi => .inl (by rw [hi]; exact hFm))
  · rintro b (hb | rfl)
    · exact .inl hb
    · rcases hg with rfl | hg
      · exact .inl (hFr k k0 k1).1
      · exact .inr hg
theorem LnIs.after {w w1 : World} {p m : Nat} {Ft : Nat → Prop} {S W k : Int} {A A' : List Int} {rows : Int → Nat} {D : DataW Value} {g' : Nat} {v v' : Value} (h : LnIs w p Ft S W A) (c2 : w.cell? ⟨p, 2, none⟩ = some (.map (some m)))
    (hv : Own w v (rows k) (part S A k) ∧ (rows k = m → v = nilV) ∧ 0 ≤ k ∧ k < S ∧ SetsIs w m rows S A D ∧ Ft m ∧ m ≠ p ∧ ∀ k, 0 ≤ k → k < S → Ft (rows k) ∧ rows k ≠ p) (hI : Inv S W A')
    (hf : FrS (· = rows k) w w1) (hm : v = nilV → Below w.heap.size w w1) (hown : Own w1 v' g' (part S A' k)) (hg : g' = rows k ∨ w.heap.size ≤ g') (hn : g' = rows k → v = nilV → v' = nilV) (hA : ∀ j, j ≠ k → part S A' j = part S A j) :
    w1.cell? ⟨p, 2, none⟩ = some (.map (some m)) ∧ ∃ w2, (Instr.mapUpdate 211 (.map (some m)) (.int .i64 k) v').run Tryz.prog w1 = .ok () w2 ∧ w2.cell? ⟨p, 2, none⟩ = some (.map (some m)) ∧ ∃ Ft', LnIs w2 p Ft' S W A' ∧ Step Ft Ft' w w2 := by
  obtain ⟨h1, h2, k0, k1, hs, hFm, hmp, hFr⟩ := hv
  have hml := hs.own.lt
  have q1 : w1.cell? ⟨p, 2, none⟩ = some (.map (some m)) := (hf.cell h.pl (fun e => (hFr k k0 k1).2 e.symm)).trans c2
  obtain ⟨w2, hr, hs2, hf2⟩ := sets_put hs h.inv.s1 k0 k1 hf (fun e => hm (h2 e)) hown hg (fun e => by
    have e2 : g' = rows k := by rcases hg with hg | hg; exact hg; omega
    exact hn e2 (h2 (by omega))) hA
  have hp1 := Nat.lt_of_lt_of_le h.pl hf.size
  refine ⟨q1, w2, hr, (hf2.cell hp1 (fun e => hmp e.symm)).trans q1, h.put c2 hI k0 k1 ⟨hFm, hmp, hFr⟩ hf hg hown.lt hs2 hf2⟩
theorem part_add_other {S x k : Int} {A : List Int} (h : modZ x S = k) : ∀ j, j ≠ k → part S (A ++ [x]) j = part S A j := by
  intro j hj
  rw [part_append, part_one_other (by rw [h]; exact hj), List.append_nil]
set_option maxRecDepth 10000 in
set_option maxHeartbeats 2000000 in
theorem add_c (p : Nat) (Ft : Nat → Prop) (S W x : Int) (A : List Int) (w : World) (h : LnIs w p Ft S W A) (hx : x ≤ 9223372036854775807) : Calls Tryz.prog 148 #[ptr p, .int .i64 x] w fun e w' => e = .returned (.bool (okAdd S W A x)) ∧ ∃ Ft', LnIs w' p Ft' S W (nxAdd S W A x) ∧ Step Ft Ft' w w' := by
  have hh := hide h
  have s1 := h.inv.s1
  have c0 := hide h.c0
  by_cases x0 : x < 0
  · have e1 : okAdd S W A x = false := by simp [okAdd]; omega
    have e2 : nxAdd S W A x = A := by simp [nxAdd, e1]
    rw [e1, e2]
    clear h
    go_enter Tryz.func148, Tryz.ntmps148
    go_wp2_with fail
    go_ret
    exact ⟨rfl, Ft, unhide hh, Step.refl _ _⟩
  by_cases xa : x ∈ A
  · have e1 : okAdd S W A x = false := by simp [okAdd, xa]
    have e2 : nxAdd S W A x = A := by simp [nxAdd, e1]
    have e3 : decide (x ∈ A) = true := by simpa using xa
    rw [e1, e2]
    clear h xa
    go_enter Tryz.func148, Tryz.ntmps148
    go_wp2_with (go_at_call 166; refine (has_c p Ft S W x A _ (unhide hh)).mono ?_; rw [e3]; rintro e w' ⟨rfl, n, rfl⟩)
    go_ret
    exact ⟨rfl, Ft, (unhide hh).drewN _, Step.of_below (belowN (Below.refl _ _) _)⟩
  have e3 : decide (x ∈ A) = false := by simpa using xa
  cases hfl : fullA S W A x
  case true =>
    have e1 : okAdd S W A x = false := by simp [okAdd, hfl]
    have e2 : nxAdd S W A x = A := by simp [nxAdd, e1]
    rw [e1, e2]
    clear h xa
    go_enter Tryz.func148, Tryz.ntmps148
    go_wp2_with (first | (go_at_call 166; refine (has_c p Ft S W x A _ (unhide hh)).mono ?_; rw [e3]; rintro e w' ⟨rfl, n, rfl⟩) | (go_at_call 167; refine (full_c p Ft S W x A _ ((unhide hh).drewN _)).mono ?_; rw [hfl]; rintro e w' ⟨rfl, n', rfl⟩))
    go_ret
    exact ⟨rfl, Ft, (unhide hh).drewN _, Step.of_below (belowN (Below.refl _ _) _)⟩
  case false =>
    have e1 : okAdd S W A x = true := by simp [okAdd, hfl, xa]; omega
    have e2 : nxAdd S W A x = A ++ [x] := by simp [nxAdd, e1]
    have hI := hide (h.inv.add hx e1)
    rw [e1, e2]
    obtain ⟨m, rows, D, k, v, hk, c2, hl, hv⟩ := h.find x
    have hlen := h.inv.plen k
    have hml : Hid (m < w.heap.size) := (unhide hv).2.2.2.2.1.own.lt
    clear h xa
    go_enter Tryz.func148, Tryz.ntmps148
    go_wp2_with (first | (go_at_call 166; refine (has_c p Ft S W x A _ (unhide hh)).mono ?_; rw [e3]; rintro e w' ⟨rfl, n, rfl⟩) | (go_at_call 167; refine (full_c p Ft S W x A _ ((unhide hh).drewN _)).mono ?_; rw [hfl]; rintro e w' ⟨rfl, n', rfl⟩) | (go_at_call 163; refine (set_c p S x (w.drewN (n + n')) (unhide c0) s1).mono ?_; rw [hk.out]; rintro e w' ⟨rfl, rfl⟩))
    refine wp_region_noPanic ?_
    refine wp_region_held_drew (S := fun w' => w'.cell? ⟨p, 2, none⟩ = some (.map (some m))) (by kernel_rfl) ?_ (fun hHeld => ?_)
    · exact c2
    obtain ⟨w0, hw0, c2', hh', hl', hv', hml'⟩ : ∃ w0, Hid (w0 = (w.drewN (n + n')).drew) ∧ w0.cell? ⟨p, 2, none⟩ = some (.map (some m)) ∧ Hid (LnIs w0 p Ft S W A) ∧ Hid (∀ w', w'.heap[m]? = w0.heap[m]? → (Instr.lookup 211 (.map (some m)) (.int .i64 k) false).run Tryz.prog w' = .ok v w') ∧
      Hid (Own w0 v (rows k) (part S A k) ∧ (rows k = m → v = nilV) ∧ 0 ≤ k ∧ k < S ∧ SetsIs w0 m rows S A D ∧ Ft m ∧ m ≠ p ∧ ∀ k, 0 ≤ k → k < S → Ft (rows k) ∧ rows k ≠ p) ∧ Hid (m < w0.heap.size) := ⟨_, rfl, c2, ((unhide hh).drewN _).drew, hide (fun w' e => unhide hl w' e), hide ⟨(unhide hv).1.carry rfl, (unhide hv).2.1, (unhide hv).2.2.1, (unhide hv).2.2.2.1, (unhide hv).2.2.2.2.1.carry rfl (fun _ _ _ => rfl), (unhide hv).2.2.2.2.2⟩, unhide hml⟩
    rw [← hw0.out] at hHeld ⊢
    clear c2 hh hl hv hml c0
    refine hTk 0 21 hHeld ?_
    refine hTk 1 22 hHeld ?_
    refine hTk 2 23 hHeld ?_
    refine hTk 3 24 hHeld ?_
    refine hTk 4 25 hHeld ?_
    refine hTk 5 26 hHeld ?_
    refine hTk 6 27 hHeld ?_
    refine hTk 7 28 hHeld ?_
    refine hTk 8 29 hHeld ?_
    refine hTk 9 30 hHeld ?_
    refine hTk 11 32 hHeld ?_
    have hml0 := unhide hml'
    refine hand_two (i := 10) (j := 12) rfl rfl (by kernel_rfl) ?_ ?_
    · intro o ho
      simp at ho
      subst ho
      intro K hK
      refine wp_look (.tmp 29) (.tmp 30) rfl rfl rfl (unhide hl' _ rfl) ?_
      refine hK.out _ _ ?_ (fun hHeld => ?_)
      · exact c2'
      clear hK K
      try simp only [Act.put, List.setIfInBounds_toArray, List.set_cons_zero, List.set_cons_succ]
      refine hNo 12 fun K hK => ?_
      go_simp
      refine hK.out _ _ ?_ fun hHeld => ?_
      · exact ((Below.refl w0.heap.size w0).alloc (Nat.le_refl _) _).cell (p := ⟨p, 2, none⟩) (unhide hh').pl |>.trans c2'
      clear hK K
      try simp only [Act.put, za, zb, zc]
      refine hand_call (i := 13) rfl (by kernel_rfl) ?_
      intro o ho
      simp at ho
      subst ho
      intro K hK
      refine wp_app (.tmp 31) (.tmp 33) rfl rfl rfl ((unhide hv').1.alloc _) (view_one w0 x) (by simp; omega) ((part S A k).length + 1) rfl ?_
      intro ao' cap' w1 g' hown hap
      obtain ⟨q1, w2, hr, q2, hfin⟩ := (unhide hh').after c2' (unhide hv') (unhide hI) (((FrS.refl _ w0).alloc _).trans hap.fr (fun i hi => .inl hi)) (fun e => ((Below.refl _ _).alloc (Nat.le_refl _) _).trans ((hap.nil e).mono (by simp))) (by rw [part_append]; have := part_one_same S x; rw [hk.out] at this; rw [this]; exact hown) (by rcases hap.lies with e | e; exact .inl e; simp at e; exact .inr (by omega)) hap.keep (part_add_other hk.out)
      replace hfin := hide hfin
      refine hK.out _ _ ?_ (fun hHeld => ?_)
      · exact q1
      clear hK K hown hap
      try simp only [Act.put, List.setIfInBounds_toArray, List.set_cons_zero, List.set_cons_succ]
      refine hNo 14 fun K hK => ?_
      refine wp_upd (.tmp 24) (.tmp 25) (.tmp 34) rfl rfl rfl rfl hr ?_
      refine hK.out _ _ ?_ fun hHeld => ?_
      · exact q2
      clear hK K
      try simp only [Act.put, za, zb, zc]
      refine wpAnyH_done (by kernel_rfl) (NoPanic.normal ?_) _
      clear hHeld
      go_wp2_with fail
      go_ret
      obtain ⟨Ft', f1, f2⟩ := unhide hfin
      exact ⟨rfl, Ft', f1, (Step.of_below (by rw [hw0.out]; exact (belowN (Below.refl _ _) _).drew)).trans f2⟩
    · intro o ho
      simp at ho
      subst ho
      intro K hK
      go_simp
      refine hK.out _ _ ?_ (fun hHeld => ?_)
      · exact ((Below.refl w0.heap.size w0).alloc (Nat.le_refl _) _).cell (p := ⟨p, 2, none⟩) (unhide hh').pl |>.trans c2'
      clear hK K
      try simp only [Act.put, List.setIfInBounds_toArray, List.set_cons_zero, List.set_cons_succ]
      refine hNo 10 fun K hK => ?_
      refine wp_look (.tmp 29) (.tmp 30) rfl rfl rfl (unhide hl' _ (Below.heap_alloc _ _ _ hml0)) ?_
      refine hK.out _ _ ?_ fun hHeld => ?_
      · exact ((Below.refl w0.heap.size w0).alloc (Nat.le_refl _) _).cell (p := ⟨p, 2, none⟩) (unhide hh').pl |>.trans c2'
      clear hK K
      try simp only [Act.put, za, zb, zc]
      refine hand_call (i := 13) rfl (by kernel_rfl) ?_
      intro o ho
      simp at ho
      subst ho
      intro K hK
      refine wp_app (.tmp 31) (.tmp 33) rfl rfl rfl ((unhide hv').1.alloc _) (view_one w0 x) (by simp; omega) ((part S A k).length + 1) rfl ?_
      intro ao' cap' w1 g' hown hap
      obtain ⟨q1, w2, hr, q2, hfin⟩ := (unhide hh').after c2' (unhide hv') (unhide hI) (((FrS.refl _ w0).alloc _).trans hap.fr (fun i hi => .inl hi)) (fun e => ((Below.refl _ _).alloc (Nat.le_refl _) _).trans ((hap.nil e).mono (by simp))) (by rw [part_append]; have := part_one_same S x; rw [hk.out] at this; rw [this]; exact hown) (by rcases hap.lies with e | e; exact .inl e; simp at e; exact .inr (by omega)) hap.keep (part_add_other hk.out)
      replace hfin := hide hfin
      refine hK.out _ _ ?_ (fun hHeld => ?_)
      · exact q1
      clear hK K hown hap
      try simp only [Act.put, List.setIfInBounds_toArray, List.set_cons_zero, List.set_cons_succ]
      refine hNo 14 fun K hK => ?_
      refine wp_upd (.tmp 24) (.tmp 25) (.tmp 34) rfl rfl rfl rfl hr ?_
      refine hK.out _ _ ?_ fun hHeld => ?_
      · exact q2
      clear hK K
      try simp only [Act.put, za, zb, zc]
      refine wpAnyH_done (by kernel_rfl) (NoPanic.normal ?_) _
      clear hHeld
      go_wp2_with fail
      go_ret
      obtain ⟨Ft', f1, f2⟩ := unhide hfin
      exact ⟨rfl, Ft', f1, (Step.of_below (by rw [hw0.out]; exact (belowN (Below.refl _ _) _).drew)).trans f2⟩
set_option maxHeartbeats 2000000 in
theorem remove_c (p : Nat) (Ft : Nat → Prop) (S W x : Int) (A : List Int) (w : World) (h : LnIs w p Ft S W A) : Calls Tryz.prog 147 #[ptr p, .int .i64 x] w fun e w' => e = .returned (.bool (okRem A x)) ∧ ∃ Ft', LnIs w' p Ft' S W (A.erase x) ∧ Step Ft Ft' w w' := by
  have hh := hide h
  have s1 := h.inv.s1
  have c0 := hide h.c0
  have hI := hide (h.inv.rem x)
  obtain ⟨m, rows, D, k, v, hk, c2, hl, hv⟩ := h.find x
  have hlen := h.inv.plen k
  have hV := hide (unhide hv).1.view
  obtain ⟨L, hL⟩ : ∃ L, Hid (part S A k = L) := ⟨_, rfl⟩
  rw [hL.out] at hlen hV
  have hl0 : (Instr.lookup 211 (.map (some m)) (.int .i64 k) false).run Tryz.prog w = .ok v w := unhide hl _ rfl
  have hmem : x ∈ L ↔ x ∈ A := by rw [← hL.out, ← hk.out]; exact mem_part
  obtain ⟨i, hi⟩ : ∃ i, Hid (idxF L x = i) := ⟨_, rfl⟩
  by_cases xa : x ∈ A
  · have e1 : okRem A x = true := by simp [okRem, xa]
    rw [e1]
    have hxL := hmem.2 xa
    have hbd := idxF_bd L x
    have hne : ¬ idxF L x = -1 := fun e => (idxF_neg L x).1 e hxL
    have her := idxF_erase L x hxL
    rw [hi.out] at hbd hne her
    obtain ⟨kk, rfl⟩ : ∃ kk : Nat, i = kk := ⟨i.toNat, by omega⟩
    have hkk : kk < L.length := by omega
    rw [Int.toNat_natCast] at her
    obtain ⟨n, hn⟩ : ∃ n, Hid (L.length = n) := ⟨_, rfl⟩
    have hO := (unhide hv).1
    rw [hL.out] at hO
    obtain ⟨ao, cap, rfl, hle, hmx, hg, hown⟩ := hO
    rcases hown with ⟨_, rfl⟩ | ⟨o, rfl, hc, hsp⟩
    · omega
    obtain ⟨j, hj⟩ : ∃ j : Nat, Hid (kk + 1 = j) := ⟨_, rfl⟩
    have hwr : IntKind.i64.wrap ((kk : Int) + 1) = (j : Int) := by have := hj.out; rw [IntKind.wrap_i64]; omega
    have hdel := hide (fun w' (e : w'.heap = w.heap) => delete_c (rows k) o cap kk j L w' hj.out hkk hle hmx (by omega) (by rw [e]; exact hg) (fun t ht => by rw [← hc t ht]; simp only [World.cell?, e]) (fun t ht => by have := hsp t ht; simp only [World.cell?, World.frozen?, e] at this ⊢; exact this))
    rw [hn.out] at hl0 hdel hV hl hv
    clear h hc hsp hbd hne hmem hxL
    go_enter Tryz.func147, Tryz.ntmps147
    go_wp2_with (first | (go_at_call 163; refine (set_c p S x w (unhide c0) s1).mono ?_; rw [hk.out]; rintro e w' ⟨rfl, hw'⟩; rw [hw']; clear hw' w') | (go_at_call 164; refine (index_c _ (rows k) L x w (unhide hV)).mono ?_; rw [hi.out]; rintro e w' ⟨rfl, hw'⟩; rw [hw']; clear hw' w'))
    refine wp_region_noPanic ?_
    refine wp_region_held_drew (S := fun w' => w'.cell? ⟨p, 2, none⟩ = some (.map (some m))) (by kernel_rfl) ?_ (fun hHeld => ?_)
    · exact c2
    refine hTk 0 20 hHeld ?_
    refine hTk 1 21 hHeld ?_
    refine hTk 2 22 hHeld ?_
    refine hTk 3 23 hHeld ?_
    refine hTk 4 24 hHeld ?_
    refine hTk 5 25 hHeld ?_
    refine hTk 6 26 hHeld ?_
    refine hTk 7 27 hHeld ?_
    refine hTk 8 28 hHeld ?_
    refine hTk 9 29 hHeld ?_
    refine hTk 11 31 hHeld ?_
    refine hTk 12 32 hHeld ?_
    refine hTk 13 33 hHeld ?_
    refine hNo 10 fun K hK => ?_
    refine wp_look (.tmp 28) (.tmp 29) rfl rfl rfl (unhide hl _ rfl) ?_
    refine hK.out _ _ ?_ fun hHeld => ?_
    · exact c2
    clear hK K
    try simp only [Act.put, za, zb, zc]
    refine hand_call (i := 14) rfl (by kernel_rfl) ?_
    intro o' ho
    simp at ho
    subst ho
    intro K hK
    go_simp
    go_at_call 165
    refine (unhide hdel w.drew rfl).mono ?_
    rintro e w1 ⟨rfl, hown, hf⟩
    have hx1 : (part S (A.erase x) k) = L.eraseIdx kk := by rw [her, ← hL.out]; have := part_erase_same S A x; rw [hk.out] at this; exact this
    obtain ⟨q1, w2, hr, q2, hfin⟩ := (unhide hh).after (D := D) c2 (v := .slice (some ⟨rows k, o, none⟩) n cap) (unhide hv) (unhide hI) ((FrS.of_below (Below.refl _ w).drew).trans hf (fun i hi => .inl hi)) (fun e => by cases e) (by rw [hx1]; exact hown) (.inl rfl) (fun _ e => by cases e) (fun j hj => part_erase_other (by rw [hk.out]; exact hj))
    replace hfin := hide hfin
    refine hK.out _ _ ?_ (fun hHeld => ?_)
    · exact q1
    clear hK K hown hf hx1
    try simp only [Act.put, List.setIfInBounds_toArray, List.set_cons_zero, List.set_cons_succ]
    refine hNo 15 fun K hK => ?_
    refine wp_upd (.tmp 23) (.tmp 24) (.tmp 34) rfl rfl rfl rfl hr ?_
    refine hK.out _ _ ?_ fun hHeld => ?_
    · exact q2
    clear hK K
    try simp only [Act.put, za, zb, zc]
    refine wpAnyH_done (by kernel_rfl) (NoPanic.normal ?_) _
    clear hHeld
    go_wp2_with fail
    go_ret
    obtain ⟨Ft', f1, f2⟩ := unhide hfin
    exact ⟨rfl, Ft', f1, f2⟩
  · have e1 : okRem A x = false := by simp [okRem, xa]
    have e2 : A.erase x = A := List.erase_of_not_mem xa
    have e3 := (idxF_neg L x).2 (fun e => xa (hmem.1 e))
    rw [hi.out] at e3
    subst e3
    rw [e1, e2]
    clear h hv hmem
    go_enter Tryz.func147, Tryz.ntmps147
    go_wp2_with (first | (go_at_call 163; refine (set_c p S x w (unhide c0) s1).mono ?_; rw [hk.out]; rintro e w' ⟨rfl, hw'⟩; rw [hw']; clear hw' w') | (go_at_call 164; refine (index_c _ (rows k) L x w (unhide hV)).mono ?_; rw [hi.out]; rintro e w' ⟨rfl, hw'⟩; rw [hw']; clear hw' w'))
    go_ret
    exact ⟨rfl, Ft, unhide hh, Step.refl _ _⟩
set_option maxHeartbeats 1000000 in
theorem use_c (p : Nat) (Ft : Nat → Prop) (S W x : Int) (A : List Int) (w : World) (h : LnIs w p Ft S W A) (hx : x ≤ 9223372036854775807) : Calls Tryz.prog 117 #[ptr p, .int .i64 x] w fun e w' => e = .returned (.bool (okRem A x)) ∧ ∃ Ft', LnIs w' p Ft' S W (nxUse A x) ∧ Step Ft Ft' w w' := by
  have hh := hide h
  have hI := hide h.inv
  obtain ⟨q, hq⟩ : ∃ q, Hid (okRem A x = q) := ⟨_, rfl⟩
  rw [hq.out]
  clear h
  cases q
  case false =>
    have xa : x ∉ A := by simpa [okRem] using hq.out
    have e2 : nxUse A x = A := by simp [nxUse, xa]
    rw [e2]
    clear xa
    go_enter Tryz.func117, Tryz.ntmps117
    go_wp2_with (go_at_call 147; refine (remove_c p Ft S W x A w (unhide hh)).mono ?_; rw [hq.out]; rintro e w' ⟨rfl, hfin⟩; replace hfin := hide hfin)
    go_ret
    have e3 : A.erase x = A := List.erase_of_not_mem (by simpa [okRem] using hq.out)
    rw [e3] at hfin
    exact ⟨rfl, unhide hfin⟩
  case true =>
    have xa : x ∈ A := by simpa [okRem] using hq.out
    have e2 : nxUse A x = A.erase x ++ [x] := by simp [nxUse, xa]
    have e3 := okAdd_erase (unhide hI) xa
    have e4 : nxAdd S W (A.erase x) x = A.erase x ++ [x] := by simp [nxAdd, e3]
    rw [e2]
    replace e4 := hide e4
    replace e3 := hide e3
    clear xa e2
    go_enter Tryz.func117, Tryz.ntmps117
    go_wp2_with (first | (go_at_call 147; refine (remove_c p Ft S W x A w (unhide hh)).mono ?_; rw [hq.out]; rintro e w1 ⟨rfl, Ft1, hn1, hs1⟩; replace hn1 := hide hn1; replace hs1 := hide hs1) | (go_at_call 148; refine (add_c p Ft1 S W x (A.erase x) w1 (unhide hn1) hx).mono ?_; rw [e3.out, e4.out]; rintro e w2 ⟨rfl, Ft2, hn2, hs2⟩; replace hn2 := hide hn2; replace hs2 := hide hs2))
    go_ret
    exact ⟨rfl, Ft2, unhide hn2, (unhide hs1).trans (unhide hs2)⟩
theorem firstNot_drop {L : List Int} {q : Int} {j : Nat} (h : j < L.length) : firstNot (L.drop j) q = if L[j] = q then firstNot (L.drop (j + 1)) q else (L[j], true) := by
  rw [List.drop_eq_getElem_cons h]
  rfl
theorem firstNot_end {L : List Int} {q : Int} {j : Nat} (h : L.length ≤ j) : firstNot (L.drop j) q = (-1, false) := by
  rw [List.drop_eq_nil_of_le h]
  rfl
set_option maxHeartbeats 2000000 in
theorem victim_c (p : Nat) (Ft : Nat → Prop) (S W x q : Int) (A : List Int) (w : World) (h : LnIs w p Ft S W A) : Calls Tryz.prog 169 #[ptr p, .int .i64 x, .int .i64 q] w fun e w' => e = .returned (.tuple #[.int .i64 (vicA S W A x q).1, .bool (vicA S W A x q).2]) ∧ ∃ n, w' = w.drewN n := by
  have hh := hide h
  have s1 := h.inv.s1
  have c0 := hide h.c0
  obtain ⟨r, hr⟩ : ∃ r, Hid (vicA S W A x q = r) := ⟨_, rfl⟩
  rw [hr.out]
  by_cases x0 : x < 0
  · obtain rfl : r = (-1, false) := by rw [← hr.out, vicA, if_pos x0]
    clear h
    go_enter Tryz.func169, Tryz.ntmps169
    go_wp2_with fail
    go_returns
    exact ⟨rfl, 0, rfl⟩
  by_cases xa : x ∈ A
  · obtain rfl : r = (-1, true) := by rw [← hr.out, vicA, if_neg x0, if_pos (.inl xa)]
    have e3 : decide (x ∈ A) = true := by simpa using xa
    clear h xa
    go_enter Tryz.func169, Tryz.ntmps169
    go_wp2_with (go_at_call 166; refine (has_c p Ft S W x A _ (unhide hh)).mono ?_; rw [e3]; rintro e w' ⟨rfl, n, rfl⟩)
    go_returns
    exact ⟨rfl, _, rfl⟩
  have e3 : decide (x ∈ A) = false := by simpa using xa
  cases hfl : fullA S W A x
  case false =>
    obtain rfl : r = (-1, true) := by rw [← hr.out, vicA, if_neg x0, if_pos (.inr hfl)]
    clear h xa
    go_enter Tryz.func169, Tryz.ntmps169
    go_wp2_with (first | (go_at_call 166; refine (has_c p Ft S W x A _ (unhide hh)).mono ?_; rw [e3]; rintro e w' ⟨rfl, n, rfl⟩) | (go_at_call 167; refine (full_c p Ft S W x A _ ((unhide hh).drewN _)).mono ?_; rw [hfl]; rintro e w' ⟨rfl, n', rfl⟩))
    go_returns
    exact ⟨rfl, _, rfl⟩
  case true =>
    obtain ⟨m, rows, D, k, v, hk, c2, hl, hv⟩ := h.find x
    have hlen := h.inv.plen k
    have hV := hide (unhide hv).1.view
    obtain ⟨L, hL⟩ : ∃ L, Hid (part S A k = L) := ⟨_, rfl⟩
    rw [hL.out] at hlen hV
    have hr' : Hid (firstNot L q = r) := by rw [← hr.out, vicA, if_neg x0, if_neg (by simp [xa, hfl]), hk.out, hL.out]; exact rfl
    obtain ⟨ao, cap, rfl, _, _⟩ := unhide hV
    clear h xa hv
    go_enter Tryz.func169, Tryz.ntmps169
    go_wp2_with (first | (go_at_call 166; refine (has_c p Ft S W x A _ (unhide hh)).mono ?_; rw [e3]; rintro e w' ⟨rfl, n, rfl⟩) | (go_at_call 167; refine (full_c p Ft S W x A _ ((unhide hh).drewN _)).mono ?_; rw [hfl]; rintro e w' ⟨rfl, n', rfl⟩))
    refine wp_region_noPanic ?_
    obtain ⟨w0, hw0⟩ : ∃ w0, (w.drewN (n + n')).drew = w0 := ⟨_, rfl⟩
    have hw1 : Hid (∃ n, w0 = w.drewN n) := ⟨n + n' + 1, by rw [← hw0]; rfl⟩
    have hV0 : Hid (View w0 (.slice ao L.length cap) (rows k) L) := (unhide hV).carry fun _ _ => by rw [← hw0]; rfl
    have c20 : w0.cell? ⟨p, 2, none⟩ = some (.map (some m)) := by rw [← hw0]; exact c2
    have c00 : Hid (w0.cell? ⟨p, 0, none⟩ = some (.int .i64 S)) := by rw [← hw0]; exact c0
    have hl0 : (Instr.lookup 211 (.map (some m)) (.int .i64 k) false).run Tryz.prog w0 = .ok (.slice ao L.length cap) w0 := unhide hl _ (by rw [← hw0]; rfl)
    refine wp_region_held_drew (S := fun w' => w' = w0 ∧ w'.cell? ⟨p, 2, none⟩ = some (.map (some m)) ∧ (Instr.lookup 211 (.map (some m)) (.int .i64 k) false).run Tryz.prog w' = .ok (.slice ao L.length cap) w') (by kernel_rfl) ?_ (fun hHeld => ?_)
    · rw [hw0]; exact ⟨rfl, c20, hl0⟩
    rw [hw0] at hHeld ⊢
    clear hw0 c2 hl hV c0 hh
    refine hTk 0 21 hHeld ?_
    refine hTk 1 22 hHeld ?_
    refine hTk 2 23 hHeld ?_
    refine hTk 3 24 hHeld ?_
    refine hTk 4 25 hHeld ?_
    refine hTk 5 26 hHeld ?_
    refine hTk 9 30 hHeld ?_
    refine hNo 6 fun K hK => ?_
    go_simp; go_at_call 163; refine (set_c p S x w0 (unhide c00) s1).mono ?_; rw [hk.out]; rintro e w' ⟨rfl, hw'⟩; rw [hw']; clear hw' w'
    refine hK.out _ _ ?_ fun hHeld => ?_
    · exact ⟨rfl, c20, hl0⟩
    clear hK K
    try simp only [Act.put, za, zb, zc]
    refine hTk 7 28 hHeld ?_
    refine hTk 8 29 hHeld ?_
    refine wpAnyH_done (by kernel_rfl) (NoPanic.normal ?_) _
    clear hHeld
    clear hl0 c20 c00
    go_wp2_with fail
    go_loopw [30] (fun i wr => ∃ j : Nat, j ≤ L.length ∧ i = .int .i64 j ∧ wr = w0 ∧ Hid (firstNot (L.drop j) q = r)) (fun i _ => L.length - (intOf i).toNat)
    case atStart => exact ⟨0, Nat.zero_le _, rfl, rfl, hr'⟩
    case round =>
      obtain ⟨j, hj, rfl, hwr, ha⟩ := hrel
      subst hwr
      by_cases hlt : j < L.length
      · obtain ⟨_, _, _, hc⟩ := view_at (unhide hV0) rfl
        obtain ⟨o, rfl, hb, hcell⟩ := hc j hlt
        obtain ⟨y, hy⟩ : ∃ y, L[j] = y := ⟨_, rfl⟩
        rw [hy] at hcell
        have ha' := ha.out
        rw [firstNot_drop hlt, hy] at ha'
        have hlt' : (j : Int) < L.length := by omega
        clear ha hc hy
        by_cases c : y = q
        · subst c
          rw [if_pos rfl] at ha'
          replace ha' := hide ha'
          go_wp2_with fail
          go_roundw
          case rel => exact ⟨j + 1, by omega, by simp, trivial, unhide ha'⟩
          case measure => simp [intOf]; omega
        · rw [if_neg c] at ha'
          obtain rfl : r = (y, true) := ha'.symm
          clear ha'
          go_wp2_with fail
          go_returns
          exact ⟨rfl, unhide hw1⟩
      · obtain rfl : j = L.length := by omega
        have ha' := ha.out
        rw [firstNot_end (Nat.le_refl _)] at ha'
        obtain rfl : r = (-1, false) := ha'.symm
        clear ha' ha
        go_wp2_with fail
        go_returns
        exact ⟨rfl, unhide hw1⟩
end Go.Proofs.YtoenjdnccgmhoaaGreatDoor
namespace Go.Proofs.YtoenjdnccgmhoaaGreatDoor
open Go.ChangeShapes Go.WideShapes Go.ChangeAt Go.RowKit
set_option linter.unusedSimpArgs false
set_option linter.unusedVariables false
set_option maxRecDepth 10000
attribute [local go_sem, local simp] over_const setCell_drewN alloc_drewN Over.cell Over.frozen lt_s1 lt_s2 lt_s3 le_s0 le_s1 le_s2 le_s3 eq_s0 eq_s1 eq_s2 qe_s0
open Go.Maps (Keyed)
abbrev keyL (S x : Int) : Lit := .int .i64 (modZ x S)
def come (S : Int) (left : Lit → Bool) (A : List Int) : List Int := A.filter fun x => !left (keyL S x)
theorem come_step_perm {S : Int} {left : Lit → Bool} {k : Int} (A : List Int) (hl : left (.int .i64 k) = true) : (come S left A ++ part S A k).Perm (come S (fun z => left z && !z.sameKey (.int .i64 k)) A) := by
  induction A with
  | nil => exact List.Perm.refl _
  | cons x r ih =>
    simp only [come, part, List.filter_cons] at ih ⊢
    by_cases c : modZ x S = k
    · subst c
      have e : (Lit.int IntKind.i64 (modZ x S)).sameKey (.int .i64 (modZ x S)) = true := WideAt.sameKey_self trivial
      simp [hl, e]
      exact (List.perm_middle).trans (List.Perm.cons x (by simpa using ih))
    · have e : (Lit.int IntKind.i64 (modZ x S)).sameKey (.int .i64 k) = false := Maps.sameKey_ne (fun h => c (by cases h; rfl))
      simp [c, e]
      cases hx : left (.int .i64 (modZ x S))
      · simpa using ih.cons x
      · simpa using ih
theorem come_all {S : Int} {left : Lit → Bool} (A : List Int) (h : ∀ kl, left kl = false) : come S left A = A := by
  simp [come, h]
theorem come_none {S : Int} {left : Lit → Bool} (A : List Int) (h : ∀ x ∈ A, left (keyL S x) = true) : come S left A = [] := by
  rw [come, List.filter_eq_nil_iff]
  intro x hx
  simp [h x hx]
theorem come_len {S : Int} {left : Lit → Bool} (A : List Int) : (come S left A).length ≤ A.length := List.length_filter_le _ _
theorem ranges_carry {H : Type} {w w' : World} {P : Program} {t : TypeId} {R : Value → Option (DataW H × List MemPlace)} {b r n : Nat} {D : DataW H} {left : Lit → Bool} {cnt : Nat} (h : w.ranges P t R b r n D left cnt) (e : w'.heap[b]? = w.heap[b]?) (e' : w'.heap[r]? = w.heap[r]?) : w'.ranges P t R b r n D left cnt := by
  obtain ⟨es, clock, since, seen, c0, h1, h2, h3, h4, h5, h6⟩ := h
  exact ⟨es, clock, since, seen, c0, e.trans h1, h2, h3, h4, e'.trans h5, h6⟩
theorem held_inv {v : Value} {y : DataW Value × List MemPlace} (h : heldR v = some y) : y = (.held v, []) := (Option.some.inj h).symm
theorem SetsIs.entry {w : World} {m : Nat} {rows : Int → Nat} {S : Int} {A : List Int} {D : DataW Value} (h : SetsIs w m rows S A D) {x : Int} {c : Value} {kl : Lit} {y : DataW Value × List MemPlace} (hk : keyOf Tryz.prog 3 (.int .i64 x) = some kl) (hv : heldR c = some y) (hat : ∀ zd, D.atKey kl zd = y.1) :
    kl = .int .i64 x ∧ 0 ≤ x ∧ x < S ∧ Own w c (rows x) (part S A x) := by
  obtain ⟨x', e, rfl, _⟩ := Maps.keyOf_int_inv Tryz.underlying3 hk
  cases e
  obtain ⟨k, e, k0, k1⟩ := h.keys _ (Maps.has_true_of_atKey hat)
  cases e
  obtain ⟨v, h1, h2, _⟩ := h.val x k0 k1
  rw [hat, held_inv hv] at h1
  cases h1
  exact ⟨rfl, k0, k1, h2⟩
theorem SetsIs.there {w : World} {m : Nat} {rows : Int → Nat} {S : Int} {A : List Int} {D : DataW Value} (h : SetsIs w m rows S A D) (hS : 1 ≤ S) {x : Int} (hx : x ∈ A) : Maps.has D (keyL S x) = true := by
  cases c : Maps.has D (keyL S x)
  · obtain ⟨k0, k1⟩ := modZ_in hS x
    obtain ⟨v, h1, h2, _⟩ := h.val _ k0 k1
    rw [Maps.atKey_of_not_has c] at h1
    cases h1
    have := own_nilV h2
    have h3 := (mem_part (S := S)).2 hx
    rw [this] at h3
    cases h3
  · rfl
set_option maxHeartbeats 2000000 in
theorem list_c (p : Nat) (Ft : Nat → Prop) (S W : Int) (A : List Int) (w : World) (h : LnIs w p Ft S W A) : Calls Tryz.prog 107 #[ptr p] w fun e w' => ∃ v g, e = .returned v ∧ w.heap.size ≤ g ∧ Own w' v g (listA A) ∧ Below w.heap.size w w' := by
  have hlen := h.inv.len
  have s0 := h.inv.s0
  obtain ⟨m, rows, D, c2, hs, hFm, hmp, hFr⟩ := h.sets
  have hown := hs.own
  have hml := hown.lt
  have hH := hide hs
  have hnone := come_none (left := Maps.has D) A (fun x hx => hs.there s0 hx)
  clear h hs hFr
  go_enter Tryz.func107, Tryz.ntmps107
  go_wp2_with (at_range; refine wpList_range_own _ rfl _ 211 rfl 3 99 law Tryz.underlying211 _ m 64 _ rfl hown ?_; intro w0 hrg0 hg0 hs0)
  go_frame
  obtain ⟨r, hr⟩ : ∃ r, w.heap.size = r := ⟨_, rfl⟩
  have hb0 : Below w.heap.size w w0 := (Below.refl _ _).grown hg0 (Nat.le_refl _) (fun j hj => by cases hj)
  rw [hr] at hrg0 hs0 hb0 ⊢
  have hml' := hml
  rw [hr] at hml'
  go_loopw [3] (fun v wr => ∃ (left : Lit → Bool) (cnt : Nat) (acc : List Int) (g : Nat), wr.ranges Tryz.prog 3 heldR m r 64 D left cnt ∧ Own wr v g acc ∧ r ≤ g ∧ (g = r → v = nilV) ∧ acc.Perm (come S left A) ∧ Below r w wr) (fun _ wr => wr.rangeLeft m r)
  case atStart => exact ⟨_, _, [], r, hrg0, own_nil (by omega), Nat.le_refl _, fun _ => rfl, by rw [hnone], hb0⟩
  case round =>
    obtain ⟨left, cnt, acc, g, hrg, hO, hrg', hnil, hperm, hb⟩ := hrel
    have hO' := hide hO
    have hnil' := hide hnil
    have hperm' := hide hperm
    have hal : acc.length ≤ 1024 := by rw [hperm.length_eq]; exact Nat.le_trans (come_len A) hlen
    obtain ⟨ao, cap, rfl, _⟩ := hO
    clear hnil hperm
    go_wp2_with (at_next; refine wpList_next_ranges _ rfl _ rfl 3 law heldR (Value.int .i64) (fun c : Value => c) (fun key kl hkey => by obtain ⟨x, rfl, _⟩ := Maps.keyOf_int_inv Tryz.underlying3 hkey; exact ⟨x, rfl⟩) (fun v y hv => ⟨v, rfl⟩) m r 64 _ _ _ rfl hrg ?_ ?_)
    · intro _ hl0
      have hw := sort_c _ g acc _ (unhide hO') (by omega)
      replace hb := hide hb
      clear hrg
      replace hl0 := hide hl0
      go_wp2_with (go_at_call 140; refine hw.mono ?_; rintro e w2 ⟨rfl, hO2, hf2⟩; replace hO2 := hide hO2; replace hf2 := hide hf2)
      go_ret
      have e1 : listA acc = listA A := by have := unhide hperm'; rw [come_all A (unhide hl0)] at this; exact listA_of_perm this
      have hO3 := unhide hO2
      rw [e1] at hO3
      rw [hr]
      exact ⟨_, g, rfl, hrg', hO3, (unhide hb).trans ((unhide hf2).below (fun i hi => by rw [hi]; exact hrg') (by have := (unhide hb).size; omega))⟩
    · intro x c kl yd yp w1 cnt1 hkey hlk hv hat hrg1 hlt hg1 hs1 hen
      obtain ⟨rfl, x0, x1, hOc⟩ := (unhide hH).entry hkey hv hat
      have hb1 : Below r w w1 := hb.grown hg1 (by have := hb.size; omega) (fun j hj => by cases hj; exact Nat.le_refl _)
      have hgl := (unhide hO').lt
      have hO1 : Hid (Own w1 (.slice ao acc.length cap) g acc) := by
        by_cases e : g = r
        · have e2 := unhide hnil' e
          rw [e2] at hO' ⊢
          rw [own_nilV (unhide hO')]
          exact own_nil (by omega)
        · exact (unhide hO').carry (hg1.block g hgl (by simpa using e))
      have hV1 : Hid (View w1 c (rows x) (part S A x)) := hOc.view.carry (fun _ hl => hb1.block _ (by omega))
      have hpl : (part S A x).length ≤ A.length := List.length_filter_le _ _
      have hst : Hid ((acc ++ part S A x).Perm (come S (fun z => left z && !z.sameKey (.int .i64 x)) A)) := ((unhide hperm').append_right _).trans (come_step_perm A hlk)
      obtain ⟨aoc, capc, rfl, _⟩ := unhide hV1
      clear hOc hs1
      go_wp2_with (at_builtin; refine wpList_app rfl _ _ rfl rfl rfl (unhide hO1) (unhide hV1) (by omega) (acc.length + (part S A x).length) rfl ?_; intro ao' cap' w2 g' hown' hap; go_frame)
      have hg2 : w2.heap[m]? = w1.heap[m]? := by
        by_cases e : g = r
        · exact (hap.nil (unhide hnil' e)).block m (by have := hb1.size; omega)
        · exact hap.fr.block m (by have := hb1.size; omega) (by omega)
      have hr2 : w2.heap[r]? = w1.heap[r]? := by
        by_cases e : g = r
        · exact (hap.nil (unhide hnil' e)).block r hrg1.lt
        · exact hap.fr.block r hrg1.lt (by omega)
      have hrg2 := ranges_carry hrg1 hg2 hr2
      have hl1 := hrg1.lt
      have hap' := hide hap
      have hown2 := hide hown'
      clear hap hown'
      go_roundw
      case rel =>
        have hap := unhide hap'
        refine ⟨_, cnt1, acc ++ part S A x, g', hrg2, unhide hown2, ?_, fun e => ?_, unhide hst, hb1.trans (hap.fr.below (fun i hi => by rw [hi]; exact hrg') (by have := hb1.size; omega))⟩
        · rcases hap.lies with e | e <;> omega
        · have e2 : g = r := by rcases hap.lies with e' | e' <;> omega
          exact hap.keep (by omega) (unhide hnil' e2)
      case measure => rw [hrg2.left_eq, hrg.left_eq]; exact hlt
end Go.Proofs.YtoenjdnccgmhoaaGreatDoor
namespace Go.Proofs.YtoenjdnccgmhoaaGreatDoor
open Go.ChangeShapes Go.WideShapes Go.ChangeAt Go.RowKit
set_option linter.unusedSimpArgs false
set_option linter.unusedVariables false
set_option maxRecDepth 10000
attribute [local go_sem, local simp] over_const setCell_drewN alloc_drewN Over.cell Over.frozen lt_s1 lt_s2 lt_s3 le_s0 le_s1 le_s2 le_s3 eq_s0 eq_s1 eq_s2 qe_s0
theorem Inv.come {S W : Int} {A : List Int} (h : Inv S W A) (left : Lit → Bool) : Inv S W (come S left A) :=
  ⟨h.s0, h.s1, h.w0, h.w1, h.nodup.filter _, fun x hx => h.pos x (List.mem_filter.1 hx).1, fun k => by
    have h1 := h.room k
    have h2 : (part S (Go.Proofs.YtoenjdnccgmhoaaGreatDoor.come S left A) k).length ≤ (part S A k).length := (List.filter_sublist.filter _).length_le
    omega⟩
theorem part_come_out {S k : Int} {left : Lit → Bool} {A : List Int} (h : left (.int .i64 k) = true) : part S (come S left A) k = [] := by
  rw [List.eq_nil_iff_forall_not_mem]
  intro x hx
  have h1 := mem_part'.1 hx
  have h2 := (List.mem_filter.1 h1.1).2
  simp [keyL, h1.2, h] at h2
theorem part_come_in {S k : Int} {left : Lit → Bool} {A : List Int} : part S (come S (fun z => left z && !z.sameKey (.int .i64 k)) A) k = part S A k := by
  simp only [part, come, List.filter_filter]
  refine List.filter_congr (fun x _ => ?_)
  by_cases c : modZ x S = k
  · have e : (Lit.int IntKind.i64 k).sameKey (.int .i64 k) = true := WideAt.sameKey_self trivial
    simp [keyL, c, e]
  · simp [c]
theorem part_come_other {S k j : Int} {left : Lit → Bool} {A : List Int} (h : j ≠ k) : part S (come S (fun z => left z && !z.sameKey (.int .i64 k)) A) j = part S (come S left A) j := by
  simp only [part, come, List.filter_filter]
  refine List.filter_congr (fun x _ => ?_)
  by_cases c : modZ x S = j
  · have e : (Lit.int IntKind.i64 j).sameKey (.int .i64 k) = false := Maps.sameKey_ne (fun h' => h (by cases h'; rfl))
    simp [keyL, c, e]
  · simp [c]
theorem LnIs.findK {w : World} {p : Nat} {Ft : Nat → Prop} {S W : Int} {A : List Int} (h : LnIs w p Ft S W A) {k : Int} (k0 : 0 ≤ k) (k1 : k < S) :
    ∃ m rows D v, w.cell? ⟨p, 2, none⟩ = some (.map (some m)) ∧ Hid (Own w v (rows k) (part S A k) ∧ (rows k = m → v = nilV) ∧ 0 ≤ k ∧ k < S ∧ SetsIs w m rows S A D ∧ Ft m ∧ m ≠ p ∧ ∀ k, 0 ≤ k → k < S → Ft (rows k) ∧ rows k ≠ p) := by
  obtain ⟨m, rows, D, h1, h2, h3, h4, h5⟩ := h.sets
  obtain ⟨v, a, b, c⟩ := h2.look h.inv.s1 k0 k1
  exact ⟨m, rows, D, v, h1, b, c, k0, k1, h2, h3, h4, h5⟩
theorem clampZ_id {n lo hi : Int} (h0 : lo ≤ n) (h1 : n ≤ hi) : clampZ n lo hi = n := by unfold clampZ; split; omega; split <;> omega
set_option maxHeartbeats 2000000 in
theorem copy_c (p : Nat) (Ft : Nat → Prop) (S W : Int) (A : List Int) (w : World) (h : LnIs w p Ft S W A) : Calls Tryz.prog 103 #[ptr p] w fun e w' => ∃ p' Ft', e = .returned (ptr p') ∧ LnIs w' p' Ft' S W A ∧ (∀ b, Ft' b → w.heap.size ≤ b) ∧ Below w.heap.size w w' := by
  have hI := hide h.inv
  have hlen := h.inv.len
  have c0 := h.c0
  have c1 := h.c1
  have hpl := h.pl
  have hw : ∀ w', Calls Tryz.prog 114 #[.int .i64 S, .int .i64 W] w' fun e w'' => ∃ p Ft, e = .returned (ptr p) ∧ LnIs w'' p Ft S W [] ∧ Below w'.heap.size w' w'' ∧ ∀ b, Ft b → w'.heap.size ≤ b := by
    intro w'
    have := new_c S W w'
    rwa [clampZ_id h.inv.s0 h.inv.s1, clampZ_id h.inv.w0 h.inv.w1] at this
  replace hw := hide hw
  obtain ⟨m, rows, D, c2, hs, hFm, hmp, hFr⟩ := h.sets
  have hown := hide hs.own
  have hml := hs.own.lt
  have hH := hide hs
  have hnone := come_none (left := Maps.has D) A (fun x hx => hs.there h.inv.s0 hx)
  clear h hs hFr
  go_enter Tryz.func103, Tryz.ntmps103
  go_wp2_with fail
  refine wp_region_noPanic ?_
  refine wp_region_held_drew (S := (fun w' => w'.cell? ⟨p, 0, none⟩ = some (.int .i64 S) ∧ w'.cell? ⟨p, 1, none⟩ = some (.int .i64 W))) (by kernel_rfl) ?_ (fun hHeld => ?_)
  · exact ⟨c0, c1⟩
  refine hTk 0 6 hHeld ?_
  refine hTk 1 7 hHeld ?_
  refine hTk 2 8 hHeld ?_
  refine hTk 3 9 hHeld ?_
  refine hTk 4 10 hHeld ?_
  refine hTk 5 11 hHeld ?_
  refine hTk 6 12 hHeld ?_
  refine hTk 7 13 hHeld ?_
  refine hand_call (i := 8) rfl (by kernel_rfl) ?_
  intro o ho
  simp at ho
  subst ho
  intro K hK
  go_simp
  go_at_call 114
  refine (unhide hw _).mono ?_
  rintro e w1 ⟨p', Ft', rfl, hn', hb', hF'⟩
  have hB1 : Below w.heap.size w w1 := ((Below.refl _ _).drew).trans hb'
  refine hK.out _ _ ?_ (fun hHeld => ?_)
  · exact ⟨(hB1.cell (p := ⟨p, 0, none⟩) hpl).trans c0, (hB1.cell (p := ⟨p, 1, none⟩) hpl).trans c1⟩
  clear hK K
  try simp only [Act.put, List.setIfInBounds_toArray, List.set_cons_zero, List.set_cons_succ]
  refine hTk 9 3 hHeld ?_
  refine wpAnyH_done (by kernel_rfl) (NoPanic.normal ?_) _
  clear hHeld
  have hF1 : ∀ b, Ft' b → w.heap.size ≤ b := hF'
  have hpw1 : p < w1.heap.size := Nat.lt_of_lt_of_le hpl hB1.size
  have d2 : w1.cell? ⟨p, 2, none⟩ = some (.map (some m)) := (hB1.cell (p := ⟨p, 2, none⟩) hpl).trans c2
  have hown1 := ownsMap_carry (unhide hown) (hB1.block m hml)
  have hn1 := hide hn'
  have hB1' := hide hB1
  clear hn' hb' hF' hw c0 c1 c2 hB1
  go_wp2_with (at_range; refine wpList_range_own _ rfl _ 211 rfl 3 99 law Tryz.underlying211 _ m 64 _ rfl hown1 ?_; intro w2 hrg0 hg0 hs0)
  go_frame
  obtain ⟨r, hr⟩ : ∃ r, w1.heap.size = r := ⟨_, rfl⟩
  have hr' : w.heap.size ≤ r := by rw [← hr]; exact (unhide hB1').size
  have hb0 : Below w.heap.size w w2 := (unhide hB1').trans (((Below.refl _ _).grown hg0 (Nat.le_refl _) (fun j hj => by cases hj)).mono (by omega))
  rw [hr] at hrg0 hs0 ⊢
  have hn2 : LnIs w2 p' Ft' S W [] := (unhide hn1).below ((Below.refl _ _).grown hg0 (Nat.le_refl _) (fun j hj => by cases hj))
  have hlt2 : ∀ b, Ft' b → b ≠ r := fun b hb e => by have := (unhide hn1).lt b hb; omega
  go_loopw [4] (fun _ wr => ∃ (left : Lit → Bool) (cnt : Nat) (Fc : Nat → Prop), wr.ranges Tryz.prog 3 heldR m r 64 D left cnt ∧ LnIs wr p' Fc S W (come S left A) ∧ (∀ b, Fc b → w.heap.size ≤ b ∧ b ≠ r) ∧ Below w.heap.size w wr) (fun _ wr => wr.rangeLeft m r)
  case atStart => exact ⟨_, _, Ft', hrg0, by rw [hnone]; exact hn2, fun b hb => ⟨hF1 b hb, hlt2 b hb⟩, hb0⟩
  case round =>
    obtain ⟨left, cnt, Fc, hrg, hn, hF, hb⟩ := hrel
    replace hn := hide hn
    clear hn1 hn2 hlt2 hF1 hg0 hrg0 hs0 hb0 hown1 d2 hB1'
    go_wp2_with (at_next; refine wpList_next_ranges _ rfl _ rfl 3 law heldR (Value.int .i64) (fun c : Value => c) (fun key kl hkey => by obtain ⟨x, rfl, _⟩ := Maps.keyOf_int_inv Tryz.underlying3 hkey; exact ⟨x, rfl⟩) (fun v y hv => ⟨v, rfl⟩) m r 64 _ _ _ rfl hrg ?_ ?_)
    · intro _ hl0
      replace hl0 := hide hl0
      replace hb := hide hb
      replace hF := hide hF
      clear hrg
      go_wp2_with fail
      go_ret
      have h1 := unhide hn
      rw [come_all A (unhide hl0)] at h1
      exact ⟨p', Fc, rfl, h1, fun b hb => (unhide hF b hb).1, unhide hb⟩
    · intro x c kl yd yp w3 cnt1 hkey hlk hv hat hrg1 hlt hg1 hs1 hen
      obtain ⟨rfl, x0, x1, hOc⟩ := (unhide hH).entry hkey hv hat
      have hb1 : Below w.heap.size w w3 := hb.grown hg1 hb.size (fun j hj => by cases hj; exact hr')
      have hV1 : Hid (View w3 c (rows x) (part S A x)) := hOc.view.carry (fun _ hl => hb1.block _ hl)
      have hpl1 : (part S A x).length ≤ A.length := List.length_filter_le _ _
      have hn3 : Hid (LnIs w3 p' Fc S W (come S left A)) := (unhide hn).fr (FrS.grown hg1) (fun b hb _ => (hF b hb).2)
      obtain ⟨m', rows', D', vc, c2, hv'⟩ := (unhide hn3).findK x0 x1
      replace hlk := hide hlk
      replace hb1 := hide hb1
      clear hOc hs1 hv hkey hn
      obtain ⟨n, hnn⟩ : ∃ n, Hid ((part S A x).length = n) := ⟨_, rfl⟩
      go_wp2_with fail
      refine wp_region_noPanic ?_
      refine wp_region_held_drew (S := (fun w' => w'.cell? ⟨p', 2, none⟩ = some (.map (some m')))) (by kernel_rfl) ?_ (fun hHeld => ?_)
      · exact c2
      refine hTk 0 25 hHeld ?_
      refine hTk 1 26 hHeld ?_
      refine hTk 2 27 hHeld ?_
      refine hTk 3 28 hHeld ?_
      refine hTk 4 29 hHeld ?_
      refine hTk 5 30 hHeld ?_
      refine hand_call (i := 6) rfl (by kernel_rfl) ?_
      intro o ho
      simp at ho
      subst ho
      intro K hK
      go_simp
      go_at_call 139
      refine (clone_c c (rows x) (part S A x) w3.drew ((unhide hV1).carry fun _ _ => rfl) (by omega)).mono ?_
      rw [hnn.out]
      rintro e w4 ⟨ao', cap', rfl, hcl⟩
      have hB4 : Below w3.heap.size w3 w4 := ((Below.refl _ _).drew).trans hcl.1
      obtain ⟨g', hO4, hg4, hk4⟩ : ∃ g', Own w4 (.slice ao' n cap') g' (part S A x) ∧ (g' = rows' x ∨ w3.heap.size ≤ g') ∧ (g' = rows' x → vc = nilV → .slice ao' n cap' = nilV) := by
        rcases hcl.2 with ⟨rfl, e, rfl⟩ | ⟨g', hg', hO'⟩
        · have hn0 : n = 0 := by rw [← hnn.out, e]; rfl
          subst hn0
          rw [e]
          exact ⟨rows' x, own_nil (Nat.lt_of_lt_of_le (unhide hv').1.lt hB4.size), .inl rfl, fun _ _ => rfl⟩
        · rw [hnn.out] at hO'
          exact ⟨g', hO', .inr hg', fun e => by have := (unhide hv').1.lt; have h2 : w3.heap.size ≤ g' := hg'; omega⟩
      obtain ⟨q1, w5, hr5, q2, Fc', hfin, hst⟩ := (unhide hn3).after c2 (unhide hv') ((unhide hI).come (fun z => left z && !z.sameKey (.int .i64 x))) (FrS.of_below hB4) (fun _ => hB4) (by rw [part_come_in]; exact hO4) hg4 hk4 (fun j hj => part_come_other hj)
      replace hfin := hide hfin
      replace hst := hide hst
      refine hK.out _ _ ?_ (fun hHeld => ?_)
      · exact q1
      clear hK K hcl hB4 hO4 hg4 hk4
      try simp only [Act.put, List.setIfInBounds_toArray, List.set_cons_zero, List.set_cons_succ]
      refine hNo 7 fun K hK => ?_
      refine wp_upd (.tmp 28) (.tmp 29) (.tmp 31) rfl rfl rfl rfl hr5 ?_
      refine hK.out _ _ ?_ fun hHeld => ?_
      · exact q2
      clear hK K
      try simp only [Act.put, za, zb, zc]
      refine wpAnyH_done (by kernel_rfl) (NoPanic.normal ?_) _
      clear hHeld
      have hml3 : m < w3.heap.size := Nat.lt_of_lt_of_le hml (unhide hb1).size
      have hrl3 := hrg1.lt
      have hrg2 := ranges_carry hrg1 ((unhide hst).fr.block m hml3 (fun e => by have := hF m e; omega)) ((unhide hst).fr.block r hrl3 (fun e => (hF r e).2 rfl))
      clear hr5 q1 q2 c2
      go_wp2_with fail
      go_roundw
      case rel =>
        refine ⟨_, cnt1, Fc', hrg2, unhide hfin, fun b hb => ?_, (unhide hb1).trans ((unhide hst).fr.below (fun i hi => (hF i hi).1) (unhide hb1).size)⟩
        rcases (unhide hst).new b hb with h1 | h1
        · exact hF b h1
        · have := (unhide hb1).size
          exact ⟨by omega, by omega⟩
      case measure => rw [hrg2.left_eq, hrg.left_eq]; exact hlt
end Go.Proofs.YtoenjdnccgmhoaaGreatDoor
