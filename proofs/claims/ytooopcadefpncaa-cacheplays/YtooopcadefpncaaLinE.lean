/- The contracts of package lines: Add, Remove, Use (layer 8). -/
import Derived.Test.YtooopcadefpncaaLinC
namespace Go.Proofs.Ytooopcadefpncaa
open Go.ChangeShapes Go.WideShapes Go.ChangeAt Go.RowKit
set_option linter.unusedSimpArgs false
set_option linter.unusedVariables false
set_option maxRecDepth 10000

attribute [local go_sem, local simp] over_const setCell_drewN alloc_drewN Over.cell Over.frozen lt_s1 lt_s2 lt_s3 le_s0 le_s1 le_s2 le_s3 eq_s0 eq_s1 eq_s2 qe_s0

theorem view_one (w : World) (x : Int) : View (w.alloc (.cells #[.int .i64 x] 3)) (.slice (some ⟨w.heap.size, 0, none⟩) 1 1) w.heap.size [x] :=
  ⟨_, 1, rfl, Nat.le_refl _, by decide, .inr ⟨0, rfl, by simp, fun j hj => by
    obtain rfl : j = 0 := by simpa using hj
    exact cell_of_row _ _ _ _ _ _ (heap_alloc_new w _)⟩⟩

/-- Lines behind a store at one set. -/
theorem LnIs.put {w w1 w2 : World} {p m : Nat} {Ft : Nat → Prop} {S W k : Int} {A A' : List Int} {rows : Int → Nat} {D' : DataW Value} {g' : Nat} (h : LnIs w p Ft S W A) (c2 : w.cell? ⟨p, 2, none⟩ = some (.map (some m))) (hI : Inv S W A') (k0 : 0 ≤ k) (k1 : k < S) (hF : Ft m ∧ m ≠ p ∧ ∀ k, 0 ≤ k → k < S → Ft (rows k) ∧ rows k ≠ p)
    (hf : FrS (· = rows k) w w1) (hg : g' = rows k ∨ w.heap.size ≤ g') (hl : g' < w1.heap.size) (hs : SetsIs w2 m (fun j => if j = k then g' else rows j) S A' D') (hf2 : FrS (· = m) w1 w2) :
    ∃ Ft', LnIs w2 p Ft' S W A' ∧ Step Ft Ft' w w2 := by
  obtain ⟨hFm, hmp, hFr⟩ := hF
  have e1 : w2.heap[p]? = w.heap[p]? := (hf2.block p (Nat.lt_of_lt_of_le h.pl hf.size) (fun e => hmp e.symm)).trans (hf.block p h.pl (fun e => (hFr k k0 k1).2 e.symm))
  have s1 := hf.size
  have s2 := hf2.size
  have hgp : g' ≠ p := by rcases hg with rfl | hg; exact (hFr k k0 k1).2; have := h.pl; omega
  have hpl := h.pl
  refine ⟨fun b => Ft b ∨ b = g', ⟨hI, by omega, .inl h.fp, ?_, (World.cell?_of_block (w := w) e1).trans h.c0, (World.cell?_of_block (w := w) e1).trans h.c1, ⟨m, _, D', (World.cell?_of_block (w := w) e1).trans c2, hs, .inl hFm, hmp, fun j j0 j1 => ?_⟩⟩, ?_, ?_⟩
  · rintro b (hb | rfl)
    · have := h.lt b hb; omega
    · omega
  · by_cases c : j = k
    · rw [if_pos c]; exact ⟨.inr rfl, hgp⟩
    · rw [if_neg c]; exact ⟨.inl (hFr j j0 j1).1, (hFr j j0 j1).2⟩
  · exact (hf.mono (fun i _ hi => by rw [hi]; exact (hFr k k0 k1).1)).trans hf2 (fun i hi => .inl (by rw [hi]; exact hFm))
  · rintro b (hb | rfl)
    · exact .inl hb
    · rcases hg with rfl | hg
      · exact .inl (hFr k k0 k1).1
      · exact .inr hg

/-- The same, from what was done to the set's own array on. -/
theorem LnIs.after {w w1 : World} {p m : Nat} {Ft : Nat → Prop} {S W k : Int} {A A' : List Int} {rows : Int → Nat} {D : DataW Value} {g' : Nat} {v v' : Value} (h : LnIs w p Ft S W A) (c2 : w.cell? ⟨p, 2, none⟩ = some (.map (some m)))
    (hv : Own w v (rows k) (part S A k) ∧ (rows k = m → v = nilV) ∧ 0 ≤ k ∧ k < S ∧ SetsIs w m rows S A D ∧ Ft m ∧ m ≠ p ∧ ∀ k, 0 ≤ k → k < S → Ft (rows k) ∧ rows k ≠ p) (hI : Inv S W A')
    (hf : FrS (· = rows k) w w1) (hm : v = nilV → Below w.heap.size w w1) (hown : Own w1 v' g' (part S A' k)) (hg : g' = rows k ∨ w.heap.size ≤ g') (hn : g' = rows k → v = nilV → v' = nilV) (hA : ∀ j, j ≠ k → part S A' j = part S A j) :
    w1.cell? ⟨p, 2, none⟩ = some (.map (some m)) ∧ ∃ w2, (Instr.mapUpdate 84 (.map (some m)) (.int .i64 k) v').run Try.prog w1 = .ok () w2 ∧ w2.cell? ⟨p, 2, none⟩ = some (.map (some m)) ∧ ∃ Ft', LnIs w2 p Ft' S W A' ∧ Step Ft Ft' w w2 := by
  obtain ⟨h1, h2, k0, k1, hs, hFm, hmp, hFr⟩ := hv
  have hml := hs.own.lt
  have q1 : w1.cell? ⟨p, 2, none⟩ = some (.map (some m)) := (hf.cell h.pl (fun e => (hFr k k0 k1).2 e.symm)).trans c2
  obtain ⟨w2, hr, hs2, hf2⟩ := sets_put hs h.inv.s1 k0 k1 hf (fun e => hm (h2 e)) hown hg (fun e => by
    have e2 : g' = rows k := by rcases hg with hg | hg; exact hg; omega
    exact hn e2 (h2 (by omega))) hA
  have hp1 := Nat.lt_of_lt_of_le h.pl hf.size
  refine ⟨q1, w2, hr, (hf2.cell hp1 (fun e => hmp e.symm)).trans q1, h.put c2 hI k0 k1 ⟨hFm, hmp, hFr⟩ hf hg hown.lt hs2 hf2⟩

theorem part_add_other {S x k : Int} {A : List Int} (h : modZ x S = k) : ∀ j, j ≠ k → part S (A ++ [x]) j = part S A j := by
  intro j hj
  rw [part_append, part_one_other (by rw [h]; exact hj), List.append_nil]

set_option maxRecDepth 10000 in
set_option maxHeartbeats 2000000 in
theorem add_c (p : Nat) (Ft : Nat → Prop) (S W x : Int) (A : List Int) (w : World) (h : LnIs w p Ft S W A) (hx : x ≤ 9223372036854775807) : Calls Try.prog 53 #[ptr p, .int .i64 x] w fun e w' => e = .returned (.bool (okAdd S W A x)) ∧ ∃ Ft', LnIs w' p Ft' S W (nxAdd S W A x) ∧ Step Ft Ft' w w' := by
  have hh := hide h
  have s1 := h.inv.s1
  have c0 := hide h.c0
  by_cases x0 : x < 0
  · have e1 : okAdd S W A x = false := by simp [okAdd]; omega
    have e2 : nxAdd S W A x = A := by simp [nxAdd, e1]
    rw [e1, e2]
    clear h
    go_enter Try.func53, Try.ntmps53
    go_wp2_with fail
    go_ret
    exact ⟨rfl, Ft, unhide hh, Step.refl _ _⟩
  by_cases xa : x ∈ A
  · have e1 : okAdd S W A x = false := by simp [okAdd, xa]
    have e2 : nxAdd S W A x = A := by simp [nxAdd, e1]
    have e3 : decide (x ∈ A) = true := by simpa using xa
    rw [e1, e2]
    clear h xa
    go_enter Try.func53, Try.ntmps53
    go_wp2_with (go_at_call 70; refine (has_c p Ft S W x A _ (unhide hh)).mono ?_; rw [e3]; rintro e w' ⟨rfl, n, rfl⟩)
    go_ret
    exact ⟨rfl, Ft, (unhide hh).drewN _, Step.of_below (belowN (Below.refl _ _) _)⟩
  have e3 : decide (x ∈ A) = false := by simpa using xa
  cases hfl : fullA S W A x
  case true =>
    have e1 : okAdd S W A x = false := by simp [okAdd, hfl]
    have e2 : nxAdd S W A x = A := by simp [nxAdd, e1]
    rw [e1, e2]
    clear h xa
    go_enter Try.func53, Try.ntmps53
    go_wp2_with (first | (go_at_call 70; refine (has_c p Ft S W x A _ (unhide hh)).mono ?_; rw [e3]; rintro e w' ⟨rfl, n, rfl⟩) | (go_at_call 71; refine (full_c p Ft S W x A _ ((unhide hh).drewN _)).mono ?_; rw [hfl]; rintro e w' ⟨rfl, n', rfl⟩))
    go_ret
    exact ⟨rfl, Ft, (unhide hh).drewN _, Step.of_below (belowN (Below.refl _ _) _)⟩
  case false =>
    have e1 : okAdd S W A x = true := by simp [okAdd, hfl, xa]; omega
    have e2 : nxAdd S W A x = A ++ [x] := by simp [nxAdd, e1]
    have hI := hide (h.inv.add hx e1)
    rw [e1, e2]
    obtain ⟨m, rows, D, k, v, hk, c2, hl, hv⟩ := h.find x
    have hlen := h.inv.plen k
    have hml : Hid (m < w.heap.size) := (unhide hv).2.2.2.2.1.own.lt
    clear h xa
    go_enter Try.func53, Try.ntmps53
    go_wp2_with (first | (go_at_call 70; refine (has_c p Ft S W x A _ (unhide hh)).mono ?_; rw [e3]; rintro e w' ⟨rfl, n, rfl⟩) | (go_at_call 71; refine (full_c p Ft S W x A _ ((unhide hh).drewN _)).mono ?_; rw [hfl]; rintro e w' ⟨rfl, n', rfl⟩) | (go_at_call 67; refine (set_c p S x (w.drewN (n + n')) (unhide c0) s1).mono ?_; rw [hk.out]; rintro e w' ⟨rfl, rfl⟩))
    refine wp_region_noPanic ?_
    refine wp_region_held_drew (S := fun w' => w'.cell? ⟨p, 2, none⟩ = some (.map (some m))) (by kernel_rfl) ?_ (fun hHeld => ?_)
    · exact c2
    obtain ⟨w0, hw0, c2', hh', hl', hv', hml'⟩ : ∃ w0, Hid (w0 = (w.drewN (n + n')).drew) ∧ w0.cell? ⟨p, 2, none⟩ = some (.map (some m)) ∧ Hid (LnIs w0 p Ft S W A) ∧ Hid (∀ w', w'.heap[m]? = w0.heap[m]? → (Instr.lookup 84 (.map (some m)) (.int .i64 k) false).run Try.prog w' = .ok v w') ∧
      Hid (Own w0 v (rows k) (part S A k) ∧ (rows k = m → v = nilV) ∧ 0 ≤ k ∧ k < S ∧ SetsIs w0 m rows S A D ∧ Ft m ∧ m ≠ p ∧ ∀ k, 0 ≤ k → k < S → Ft (rows k) ∧ rows k ≠ p) ∧ Hid (m < w0.heap.size) := ⟨_, rfl, c2, ((unhide hh).drewN _).drew, hide (fun w' e => unhide hl w' e), hide ⟨(unhide hv).1.carry rfl, (unhide hv).2.1, (unhide hv).2.2.1, (unhide hv).2.2.2.1, (unhide hv).2.2.2.2.1.carry rfl (fun _ _ _ => rfl), (unhide hv).2.2.2.2.2⟩, unhide hml⟩
    rw [← hw0.out] at hHeld ⊢
    clear c2 hh hl hv hml c0
    refine hand_take (i := 0) (d := some 21) (v := ?_) rfl (by kernel_rfl) (by kernel_rfl) (by kernel_rfl) (fun _ _ _ h => h) ?_ hHeld ?_
    rotate_left
    · intro o ho
      simp at ho
      subst ho
      intro wz hSw
      try dsimp only at hSw
      go_simp
      try with_reducible rfl
    try simp only [Act.put, List.setIfInBounds_toArray, List.set_cons_zero, List.set_cons_succ]
    refine hand_take (i := 1) (d := some 22) (v := ?_) rfl (by kernel_rfl) (by kernel_rfl) (by kernel_rfl) (fun _ _ _ h => h) ?_ hHeld ?_
    rotate_left
    · intro o ho
      simp at ho
      subst ho
      intro wz hSw
      try dsimp only at hSw
      go_simp
      try with_reducible rfl
    try simp only [Act.put, List.setIfInBounds_toArray, List.set_cons_zero, List.set_cons_succ]
    refine hand_take (i := 2) (d := some 23) (v := ?_) rfl (by kernel_rfl) (by kernel_rfl) (by kernel_rfl) (fun _ _ _ h => h) ?_ hHeld ?_
    rotate_left
    · intro o ho
      simp at ho
      subst ho
      intro wz hSw
      try dsimp only at hSw
      go_simp
      try with_reducible rfl
    try simp only [Act.put, List.setIfInBounds_toArray, List.set_cons_zero, List.set_cons_succ]
    refine hand_take (i := 3) (d := some 24) (v := ?_) rfl (by kernel_rfl) (by kernel_rfl) (by kernel_rfl) (fun _ _ _ h => h) ?_ hHeld ?_
    rotate_left
    · intro o ho
      simp at ho
      subst ho
      intro wz hSw
      try dsimp only at hSw
      go_simp
      try with_reducible rfl
    try simp only [Act.put, List.setIfInBounds_toArray, List.set_cons_zero, List.set_cons_succ]
    refine hand_take (i := 4) (d := some 25) (v := ?_) rfl (by kernel_rfl) (by kernel_rfl) (by kernel_rfl) (fun _ _ _ h => h) ?_ hHeld ?_
    rotate_left
    · intro o ho
      simp at ho
      subst ho
      intro wz hSw
      try dsimp only at hSw
      go_simp
      try with_reducible rfl
    try simp only [Act.put, List.setIfInBounds_toArray, List.set_cons_zero, List.set_cons_succ]
    refine hand_take (i := 5) (d := some 26) (v := ?_) rfl (by kernel_rfl) (by kernel_rfl) (by kernel_rfl) (fun _ _ _ h => h) ?_ hHeld ?_
    rotate_left
    · intro o ho
      simp at ho
      subst ho
      intro wz hSw
      try dsimp only at hSw
      go_simp
      try with_reducible rfl
    try simp only [Act.put, List.setIfInBounds_toArray, List.set_cons_zero, List.set_cons_succ]
    refine hand_take (i := 6) (d := some 27) (v := ?_) rfl (by kernel_rfl) (by kernel_rfl) (by kernel_rfl) (fun _ _ _ h => h) ?_ hHeld ?_
    rotate_left
    · intro o ho
      simp at ho
      subst ho
      intro wz hSw
      try dsimp only at hSw
      go_simp
      try with_reducible rfl
    try simp only [Act.put, List.setIfInBounds_toArray, List.set_cons_zero, List.set_cons_succ]
    refine hand_take (i := 7) (d := some 28) (v := ?_) rfl (by kernel_rfl) (by kernel_rfl) (by kernel_rfl) (fun _ _ _ h => h) ?_ hHeld ?_
    rotate_left
    · intro o ho
      simp at ho
      subst ho
      intro wz hSw
      try dsimp only at hSw
      go_simp
      try with_reducible rfl
    try simp only [Act.put, List.setIfInBounds_toArray, List.set_cons_zero, List.set_cons_succ]
    refine hand_take (i := 8) (d := some 29) (v := ?_) rfl (by kernel_rfl) (by kernel_rfl) (by kernel_rfl) (fun _ _ _ h => h) ?_ hHeld ?_
    rotate_left
    · intro o ho
      simp at ho
      subst ho
      intro wz hSw
      try dsimp only at hSw
      go_simp
      try with_reducible rfl
    try simp only [Act.put, List.setIfInBounds_toArray, List.set_cons_zero, List.set_cons_succ]
    refine hand_take (i := 9) (d := some 30) (v := ?_) rfl (by kernel_rfl) (by kernel_rfl) (by kernel_rfl) (fun _ _ _ h => h) ?_ hHeld ?_
    rotate_left
    · intro o ho
      simp at ho
      subst ho
      intro wz hSw
      try dsimp only at hSw
      go_simp
      try with_reducible rfl
    try simp only [Act.put, List.setIfInBounds_toArray, List.set_cons_zero, List.set_cons_succ]
    refine hand_take (i := 11) (d := some 32) (v := ?_) rfl (by kernel_rfl) (by kernel_rfl) (by kernel_rfl) (fun _ _ _ h => h) ?_ hHeld ?_
    rotate_left
    · intro o ho
      simp at ho
      subst ho
      intro wz hSw
      try dsimp only at hSw
      go_simp
      try with_reducible rfl
    try simp only [Act.put, List.setIfInBounds_toArray, List.set_cons_zero, List.set_cons_succ]
    have hml0 := unhide hml'
    refine hand_two (i := 10) (j := 12) rfl rfl (by kernel_rfl) ?_ ?_
    · intro o ho
      simp at ho
      subst ho
      intro K hK
      refine wp_look (.tmp 29) (.tmp 30) rfl rfl rfl (unhide hl' _ rfl) ?_
      refine hK.out _ _ ?_ (fun hHeld => ?_)
      · exact c2'
      clear hK K
      try simp only [Act.put, List.setIfInBounds_toArray, List.set_cons_zero, List.set_cons_succ]
      refine hand_call (i := 12) rfl (by kernel_rfl) ?_
      intro o ho
      simp at ho
      subst ho
      intro K hK
      go_simp
      refine hK.out _ _ ?_ (fun hHeld => ?_)
      · exact ((Below.refl w0.heap.size w0).alloc (Nat.le_refl _) _).cell (p := ⟨p, 2, none⟩) (unhide hh').pl |>.trans c2'
      clear hK K
      try simp only [Act.put, List.setIfInBounds_toArray, List.set_cons_zero, List.set_cons_succ]
      refine hand_call (i := 13) rfl (by kernel_rfl) ?_
      intro o ho
      simp at ho
      subst ho
      intro K hK
      refine wp_app (.tmp 31) (.tmp 33) rfl rfl rfl ((unhide hv').1.alloc _) (view_one w0 x) (by simp; omega) ((part S A k).length + 1) rfl ?_
      intro ao' cap' w1 g' hown hap
      obtain ⟨q1, w2, hr, q2, hfin⟩ := (unhide hh').after c2' (unhide hv') (unhide hI) (((FrS.refl _ w0).alloc _).trans hap.fr (fun i hi => .inl hi)) (fun e => ((Below.refl _ _).alloc (Nat.le_refl _) _).trans ((hap.nil e).mono (by simp))) (by rw [part_append]; have := part_one_same S x; rw [hk.out] at this; rw [this]; exact hown) (by rcases hap.lies with e | e; exact .inl e; simp at e; exact .inr (by omega)) hap.keep (part_add_other hk.out)
      replace hfin := hide hfin
      refine hK.out _ _ ?_ (fun hHeld => ?_)
      · exact q1
      clear hK K hown hap
      try simp only [Act.put, List.setIfInBounds_toArray, List.set_cons_zero, List.set_cons_succ]
      refine hand_call (i := 14) rfl (by kernel_rfl) ?_
      intro o ho
      simp at ho
      subst ho
      intro K hK
      refine wp_upd (.tmp 24) (.tmp 25) (.tmp 34) rfl rfl rfl rfl hr ?_
      refine hK.out _ _ ?_ (fun hHeld => ?_)
      · exact q2
      clear hK K
      try simp only [Act.put, List.setIfInBounds_toArray, List.set_cons_zero, List.set_cons_succ]
      refine wpAnyH_done (by kernel_rfl) (NoPanic.normal ?_) _
      clear hHeld
      go_wp2_with fail
      go_ret
      obtain ⟨Ft', f1, f2⟩ := unhide hfin
      exact ⟨rfl, Ft', f1, (Step.of_below (by rw [hw0.out]; exact (belowN (Below.refl _ _) _).drew)).trans f2⟩
    · intro o ho
      simp at ho
      subst ho
      intro K hK
      go_simp
      refine hK.out _ _ ?_ (fun hHeld => ?_)
      · exact ((Below.refl w0.heap.size w0).alloc (Nat.le_refl _) _).cell (p := ⟨p, 2, none⟩) (unhide hh').pl |>.trans c2'
      clear hK K
      try simp only [Act.put, List.setIfInBounds_toArray, List.set_cons_zero, List.set_cons_succ]
      refine hand_call (i := 10) rfl (by kernel_rfl) ?_
      intro o ho
      simp at ho
      subst ho
      intro K hK
      refine wp_look (.tmp 29) (.tmp 30) rfl rfl rfl (unhide hl' _ (Below.heap_alloc _ _ _ hml0)) ?_
      refine hK.out _ _ ?_ (fun hHeld => ?_)
      · exact ((Below.refl w0.heap.size w0).alloc (Nat.le_refl _) _).cell (p := ⟨p, 2, none⟩) (unhide hh').pl |>.trans c2'
      clear hK K
      try simp only [Act.put, List.setIfInBounds_toArray, List.set_cons_zero, List.set_cons_succ]
      refine hand_call (i := 13) rfl (by kernel_rfl) ?_
      intro o ho
      simp at ho
      subst ho
      intro K hK
      refine wp_app (.tmp 31) (.tmp 33) rfl rfl rfl ((unhide hv').1.alloc _) (view_one w0 x) (by simp; omega) ((part S A k).length + 1) rfl ?_
      intro ao' cap' w1 g' hown hap
      obtain ⟨q1, w2, hr, q2, hfin⟩ := (unhide hh').after c2' (unhide hv') (unhide hI) (((FrS.refl _ w0).alloc _).trans hap.fr (fun i hi => .inl hi)) (fun e => ((Below.refl _ _).alloc (Nat.le_refl _) _).trans ((hap.nil e).mono (by simp))) (by rw [part_append]; have := part_one_same S x; rw [hk.out] at this; rw [this]; exact hown) (by rcases hap.lies with e | e; exact .inl e; simp at e; exact .inr (by omega)) hap.keep (part_add_other hk.out)
      replace hfin := hide hfin
      refine hK.out _ _ ?_ (fun hHeld => ?_)
      · exact q1
      clear hK K hown hap
      try simp only [Act.put, List.setIfInBounds_toArray, List.set_cons_zero, List.set_cons_succ]
      refine hand_call (i := 14) rfl (by kernel_rfl) ?_
      intro o ho
      simp at ho
      subst ho
      intro K hK
      refine wp_upd (.tmp 24) (.tmp 25) (.tmp 34) rfl rfl rfl rfl hr ?_
      refine hK.out _ _ ?_ (fun hHeld => ?_)
      · exact q2
      clear hK K
      try simp only [Act.put, List.setIfInBounds_toArray, List.set_cons_zero, List.set_cons_succ]
      refine wpAnyH_done (by kernel_rfl) (NoPanic.normal ?_) _
      clear hHeld
      go_wp2_with fail
      go_ret
      obtain ⟨Ft', f1, f2⟩ := unhide hfin
      exact ⟨rfl, Ft', f1, (Step.of_below (by rw [hw0.out]; exact (belowN (Below.refl _ _) _).drew)).trans f2⟩
end Go.Proofs.Ytooopcadefpncaa
