/- The contract of package cache's Copy, and of maps.Clone at its map (layer 9). -/
import Derived.Test.YtooopcadefpncaaCacB
import Derived.Laws.Externs
import Derived.MapKept
namespace Go.Proofs.Ytooopcadefpncaa
open Go.ChangeShapes Go.WideShapes Go.ChangeAt Go.RowKit
set_option linter.unusedSimpArgs false
set_option linter.unusedVariables false
set_option maxRecDepth 10000

attribute [local go_sem, local simp] over_const setCell_drewN alloc_drewN Over.cell Over.frozen lt_s1 lt_s2 lt_s3 le_s0 le_s1 le_s2 le_s3 eq_s0 eq_s1 eq_s2 qe_s0

section
variable {P : Program} (w : World)
theorem run_eqlIn_map_nil (d : Nat) (t k e : TypeId) (p : Option Nat) (h : P.underlying t = some (.map k e)) : (Op.equalIn (d + 1) t (.map p) (.map none)).run P w = .ok p.isNone w := by
  cases p <;> simp [Op.equalIn, run_underlying h]
theorem run_eql_map_nil (t k e : TypeId) (p : Option Nat) (h : P.underlying t = some (.map k e)) : (binOp .eql t (.map p) (.map none)).run P w = .ok (.bool p.isNone) w := by
  simp only [binOp]
  simp [show Op.equal t (.map p) (.map none) = Op.equalIn (9999 + 1) t (.map p) (.map none) from rfl, run_eqlIn_map_nil w 9999 t k e p h]
theorem run_assert_map (t xT k e : TypeId) (v : Value) (h : P.underlying t = some (.map k e)) : (Instr.typeAssert (.iface t v) xT t false).run P w = .ok v w := by
  simp [Instr.typeAssert, run_underlying h, go_sem, Result.andThen]
theorem run_clone_map {r : Nat} {es : Array MapEntry} {clock : Nat} (t : TypeId) (hb : w.heap[r]? = some (.map es clock)) :
    (Extern.MapsClone.clone #[.iface t (.map (some r))]).run P w = .ok (.iface t (.map (some w.heap.size))) (w.alloc (.map es clock)) := by
  obtain ⟨msg, e⟩ : ∃ msg, Extern.MapsClone.clone #[.iface t (.map (some r))] = (getObj r >>= fun o => match o with
      | .map entries clock => (newObj (.map entries clock) >>= fun n => pure (.iface t (.map (some n))))
      | _ => stuck msg) := ⟨_, rfl⟩
  rw [e]
  simp [MapKept.run_getObj_map hb, Result.andThen, go_sem]
end

set_option maxHeartbeats 1000000 in
theorem mclone_c (b : Nat) (es : Array MapEntry) (clock : Nat) (w : World) (hb : w.heap[b]? = some (.map es clock)) : Calls Try.prog 49 #[.map (some b)] w fun e w' => e = .returned (.map (some w.heap.size)) ∧ w' = w.alloc (.map es clock) := by
  have hq := fun w => run_eql_map_nil (P := Try.prog) w 60 _ _ (some b) Try.underlying60
  go_enter Try.func49, Try.ntmps49
  go_wp2
  rw [run_callFunc_extern Try.func66 (by kernel_rfl) (by kernel_rfl) (by kernel_rfl) (e := Extern.MapsClone.clone) (by kernel_rfl), run_clone_map w 60 hb]
  simp only [Result.andThen]
  rw [Oper.upon_value]
  go_wp2
  rw [run_assert_map _ 60 _ _ _ _ Try.underlying60]
  simp only [Result.andThen]
  rw [Oper.upon_value]
  go_wp2
  go_ret
  exact ⟨rfl, rfl⟩

theorem tclone_c (t : Nat) (K : List Int) (T : Int → Bun) (D : DataW Value) (w : World) (h : TkIs w t K T D) : Calls Try.prog 49 #[.map (some t)] w fun e w' => e = .returned (.map (some w.heap.size)) ∧ TkIs w' w.heap.size K T D ∧ Below w.heap.size w w' ∧ w.heap.size < w'.heap.size := by
  obtain ⟨es, clock, hb, F, hs, hD⟩ := id h.own
  refine (mclone_c t es clock w hb).mono ?_
  rintro e w' ⟨rfl, rfl⟩
  exact ⟨rfl, ⟨⟨es, clock, heap_alloc_new w _, F, hs, hD⟩, h.keys, h.val⟩, (Below.refl _ _).alloc (Nat.le_refl _) _, by simp⟩

set_option maxHeartbeats 2000000 in
theorem cCopy_c (c : Nat) (Ft : Nat → Prop) (S W N : Int) (C : Ca) (w : World) (h : CaIs w c Ft S W N C) : Calls Try.prog 28 #[ptr c] w fun e w' => ∃ c' Ft', e = .returned (ptr c') ∧ CaIs w' c' Ft' S W N C ∧ (∀ b, Ft' b → w.heap.size ≤ b) ∧ Below w.heap.size w w' := by
  have hI := hide h.inv
  have hcl := h.lt c h.fc
  obtain ⟨p, t, Fh, c0, c1, hh, hF, hc⟩ := h.at'
  obtain ⟨Fl, hl, hFl, hnt⟩ := hh.ln
  obtain ⟨D, hD⟩ := hh.tk
  have htl := hh.lt t hh.ft
  replace hl := hide hl
  replace hD := hide hD
  clear h hh
  go_enter Try.func28, Try.ntmps28
  go_wp2_with fail
  refine wp_region_noPanic ?_
  refine wp_region_held_drew (S := (fun w' => w'.cell? ⟨c, 0, none⟩ = some (ptr p) ∧ w'.cell? ⟨c, 1, none⟩ = some (.map (some t)))) (by kernel_rfl) ?_ (fun hHeld => ?_)
  · exact ⟨c0, c1⟩
  refine hand_take (i := 0) (d := some 3) (v := ?_) rfl (by kernel_rfl) (by kernel_rfl) (by kernel_rfl) (fun _ _ _ h => h) ?_ hHeld ?_
  rotate_left
  · intro o ho
    simp at ho
    subst ho
    intro wz hSw
    try dsimp only at hSw
    go_simp
    try with_reducible rfl
  try simp only [Act.put, List.setIfInBounds_toArray, List.set_cons_zero, List.set_cons_succ]
  refine hand_take (i := 1) (d := some 4) (v := ?_) rfl (by kernel_rfl) (by kernel_rfl) (by kernel_rfl) (fun _ _ _ h => h) ?_ hHeld ?_
  rotate_left
  · intro o ho
    simp at ho
    subst ho
    intro wz hSw
    try dsimp only at hSw
    go_simp
    try with_reducible rfl
  try simp only [Act.put, List.setIfInBounds_toArray, List.set_cons_zero, List.set_cons_succ]
  refine hand_take (i := 2) (d := some 5) (v := ?_) rfl (by kernel_rfl) (by kernel_rfl) (by kernel_rfl) (fun _ _ _ h => h) ?_ hHeld ?_
  rotate_left
  · intro o ho
    simp at ho
    subst ho
    intro wz hSw
    try dsimp only at hSw
    go_simp
    try with_reducible rfl
  try simp only [Act.put, List.setIfInBounds_toArray, List.set_cons_zero, List.set_cons_succ]
  refine hand_take (i := 3) (d := some 6) (v := ?_) rfl (by kernel_rfl) (by kernel_rfl) (by kernel_rfl) (fun _ _ _ h => h) ?_ hHeld ?_
  rotate_left
  · intro o ho
    simp at ho
    subst ho
    intro wz hSw
    try dsimp only at hSw
    go_simp
    try with_reducible rfl
  try simp only [Act.put, List.setIfInBounds_toArray, List.set_cons_zero, List.set_cons_succ]
  refine hand_take (i := 4) (d := some 7) (v := ?_) rfl (by kernel_rfl) (by kernel_rfl) (by kernel_rfl) (fun _ _ _ h => h) ?_ hHeld ?_
  rotate_left
  · intro o ho
    simp at ho
    subst ho
    intro wz hSw
    try dsimp only at hSw
    go_simp
    try with_reducible rfl
  try simp only [Act.put, List.setIfInBounds_toArray, List.set_cons_zero, List.set_cons_succ]
  refine hand_take (i := 6) (d := some 9) (v := ?_) rfl (by kernel_rfl) (by kernel_rfl) (by kernel_rfl) (fun _ _ _ h => h) ?_ hHeld ?_
  rotate_left
  · intro o ho
    simp at ho
    subst ho
    intro wz hSw
    try dsimp only at hSw
    go_simp
    try with_reducible rfl
  try simp only [Act.put, List.setIfInBounds_toArray, List.set_cons_zero, List.set_cons_succ]
  refine hand_take (i := 7) (d := some 10) (v := ?_) rfl (by kernel_rfl) (by kernel_rfl) (by kernel_rfl) (fun _ _ _ h => h) ?_ hHeld ?_
  rotate_left
  · intro o ho
    simp at ho
    subst ho
    intro wz hSw
    try dsimp only at hSw
    go_simp
    try with_reducible rfl
  try simp only [Act.put, List.setIfInBounds_toArray, List.set_cons_zero, List.set_cons_succ]
  refine hand_take (i := 8) (d := some 11) (v := ?_) rfl (by kernel_rfl) (by kernel_rfl) (by kernel_rfl) (fun _ _ _ h => h) ?_ hHeld ?_
  rotate_left
  · intro o ho
    simp at ho
    subst ho
    intro wz hSw
    try dsimp only at hSw
    go_simp
    try with_reducible rfl
  try simp only [Act.put, List.setIfInBounds_toArray, List.set_cons_zero, List.set_cons_succ]
  refine hand_take (i := 9) (d := some 12) (v := ?_) rfl (by kernel_rfl) (by kernel_rfl) (by kernel_rfl) (fun _ _ _ h => h) ?_ hHeld ?_
  rotate_left
  · intro o ho
    simp at ho
    subst ho
    intro wz hSw
    try dsimp only at hSw
    go_simp
    try with_reducible rfl
  try simp only [Act.put, List.setIfInBounds_toArray, List.set_cons_zero, List.set_cons_succ]
  refine hand_take (i := 10) (d := some 13) (v := ?_) rfl (by kernel_rfl) (by kernel_rfl) (by kernel_rfl) (fun _ _ _ h => h) ?_ hHeld ?_
  rotate_left
  · intro o ho
    simp at ho
    subst ho
    intro wz hSw
    try dsimp only at hSw
    go_simp
    try with_reducible rfl
  try simp only [Act.put, List.setIfInBounds_toArray, List.set_cons_zero, List.set_cons_succ]
  refine hand_call (i := 5) rfl (by kernel_rfl) ?_
  intro o ho
  simp at ho
  subst ho
  intro K hK
  go_simp
  go_at_call 48
  refine (copy_c p Fl S W C.A w.drew ((unhide hl).below (Below.refl _ _).drew)).mono ?_
  rintro e w1 ⟨p', Fl', rfl, hn', hF', hb'⟩
  have hB1 : Below w.heap.size w w1 := ((Below.refl _ _).drew).trans hb'
  have q0 : w1.cell? ⟨c, 0, none⟩ = some (ptr p) := keep_cell (hB1.block c hcl) c0
  have q1 : w1.cell? ⟨c, 1, none⟩ = some (.map (some t)) := keep_cell (hB1.block c hcl) c1
  refine hK.out _ _ ?_ (fun hHeld => ?_)
  · exact ⟨q0, q1⟩
  clear hK K
  have hcl1 : c < w1.heap.size := Nat.lt_of_lt_of_le hcl hB1.size
  replace hn' := hide hn'
  have hF1 : Hid (∀ b, Fl' b → w.heap.size ≤ b) := hF'
  have s1 := hB1.size
  clear hF' hb'
  try simp only [Act.put, List.setIfInBounds_toArray, List.set_cons_zero, List.set_cons_succ]
  refine hand_call (i := 11) rfl (by kernel_rfl) ?_
  intro o ho
  simp at ho
  subst ho
  intro K hK
  go_simp
  go_at_call 49
  refine (tclone_c t C.A C.T D w1 ((unhide hD).carry (hB1.block t htl))).mono ?_
  rintro e w2 ⟨rfl, hD2, hb2, hl2⟩
  have q02 : w2.cell? ⟨c, 0, none⟩ = some (ptr p) := keep_cell (hb2.block c hcl1) q0
  have q12 : w2.cell? ⟨c, 1, none⟩ = some (.map (some t)) := keep_cell (hb2.block c hcl1) q1
  refine hK.out _ _ ?_ (fun hHeld => ?_)
  · exact ⟨q02, q12⟩
  clear hK K
  have hcl2 : c < w2.heap.size := Nat.lt_of_lt_of_le hcl1 hb2.size
  have hn2 := hide ((unhide hn').below hb2)
  have hlt1 : Hid (∀ b, Fl' b → b < w1.heap.size) := (unhide hn').lt
  have s2 := hb2.size
  replace hD2 := hide hD2
  have hB2 := hide (hB1.trans (hb2.mono s1))
  try simp only [Act.put, List.setIfInBounds_toArray, List.set_cons_zero, List.set_cons_succ]
  refine hand_take (i := 12) (d := some 15) (v := ?_) rfl (by kernel_rfl) (by kernel_rfl) (by kernel_rfl) (fun _ _ _ h => h) ?_ hHeld ?_
  rotate_left
  · intro o ho
    simp at ho
    subst ho
    intro wz hSw
    try dsimp only at hSw
    go_simp
    try with_reducible rfl
  try simp only [Act.put, List.setIfInBounds_toArray, List.set_cons_zero, List.set_cons_succ]
  refine hand_take (i := 13) (d := some 16) (v := ?_) rfl (by kernel_rfl) (by kernel_rfl) (by kernel_rfl) (fun _ _ _ h => h) ?_ hHeld ?_
  rotate_left
  · intro o ho
    simp at ho
    subst ho
    intro wz hSw
    try dsimp only at hSw
    go_simp
    try with_reducible rfl
  try simp only [Act.put, List.setIfInBounds_toArray, List.set_cons_zero, List.set_cons_succ]
  refine hand_call (i := 14) rfl (by kernel_rfl) ?_
  intro o ho
  simp at ho
  subst ho
  intro K hK
  go_simp
  refine hK.out _ _ ?_ (fun hHeld => ?_)
  · exact ⟨by simp [go_sem, *], by simp [go_sem, *]⟩
  clear hK K
  try simp only [Act.put, List.setIfInBounds_toArray, List.set_cons_zero, List.set_cons_succ]
  refine hand_take (i := 15) (d := some 2) (v := ?_) rfl (by kernel_rfl) (by kernel_rfl) (by kernel_rfl) (fun _ _ _ h => h) ?_ hHeld ?_
  rotate_left
  · intro o ho
    simp at ho
    subst ho
    intro wz hSw
    try dsimp only at hSw
    go_simp
    try with_reducible rfl
  try simp only [Act.put, List.setIfInBounds_toArray, List.set_cons_zero, List.set_cons_succ]
  refine wpAnyH_done (by kernel_rfl) (NoPanic.normal ?_) _
  clear hHeld
  go_wp2_with fail
  go_ret
  have hD3 := (unhide hD2).carry (w' := w2.alloc (.cells #[ptr p', .map (some w1.heap.size)] 64)) (Below.heap_alloc _ _ _ hl2)
  have hn3 := (unhide hn2).alloc (.cells #[ptr p', .map (some w1.heap.size)] 64)
  refine ⟨w2.heap.size, fun b => b = w2.heap.size ∨ b = w1.heap.size ∨ Fl' b, rfl, ⟨unhide hI, .inl rfl, fun b hb => ?_, ⟨p', w1.heap.size, fun b => b = w1.heap.size ∨ Fl' b, by simp, by simp, ⟨⟨Fl', hn3, fun b hb => .inr hb, fun e => ?_⟩, ⟨_, hD3⟩, .inl rfl, fun b hb => ?_⟩, fun b hb => .inr hb, fun e => ?_⟩⟩, fun b hb => ?_, (unhide hB2).alloc (unhide hB2).size _⟩
  · simp; rcases hb with hb | hb | hb
    · omega
    · omega
    · have := unhide hlt1 b hb; omega
  · have := unhide hlt1 _ e; omega
  · simp; rcases hb with hb | hb
    · omega
    · have := unhide hlt1 b hb; omega
  · rcases e with e | e
    · omega
    · have := unhide hlt1 _ e; omega
  · rcases hb with hb | hb | hb
    · omega
    · omega
    · exact unhide hF1 b hb
end Go.Proofs.Ytooopcadefpncaa
