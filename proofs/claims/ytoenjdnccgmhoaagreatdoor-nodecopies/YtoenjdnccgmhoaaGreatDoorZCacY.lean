/- layer 15: CacY, put together. -/
import Derived.Test.YtoenjdnccgmhoaaGreatDoorB27
import Derived.Test.YtoenjdnccgmhoaaGreatDoorB22
import Derived.Laws.Externs
import Derived.MapKept
namespace Go.Proofs.YtoenjdnccgmhoaaGreatDoor
open Go.ChangeShapes Go.WideShapes Go.ChangeAt Go.RowKit
set_option linter.unusedSimpArgs false
set_option linter.unusedVariables false
set_option maxRecDepth 10000
attribute [local go_sem, local simp] over_const setCell_drewN alloc_drewN Over.cell Over.frozen lt_s1 lt_s2 lt_s3 le_s0 le_s1 le_s2 le_s3 eq_s0 eq_s1 eq_s2 qe_s0
set_option maxHeartbeats 1000000 in
theorem mclone_c (b : Nat) (es : Array MapEntry) (clock : Nat) (w : World) (hb : w.heap[b]? = some (.map es clock)) : Calls Tryz.prog 104 #[.map (some b)] w fun e w' => e = .returned (.map (some w.heap.size)) ∧ w' = w.alloc (.map es clock) := by
  have hq := fun w => run_eql_map_nil (P := Tryz.prog) w 181 _ _ (some b) Tryz.underlying181
  go_enter Tryz.func104, Tryz.ntmps104
  go_wp2
  rw [run_callFunc_extern Tryz.func106 (by kernel_rfl) (by kernel_rfl) (by kernel_rfl) (e := Extern.MapsClone.clone) (by kernel_rfl), run_clone_map w 181 hb]
  simp only [Result.andThen]
  rw [Oper.upon_value]
  go_wp2
  rw [run_assert_map _ 181 _ _ _ _ Tryz.underlying181]
  simp only [Result.andThen]
  rw [Oper.upon_value]
  go_wp2
  go_ret
  exact ⟨rfl, rfl⟩
theorem tclone_c (t : Nat) (K : List Int) (T : Int → Bun) (D : DataW Value) (w : World) (h : TkIs w t K T D) : Calls Tryz.prog 104 #[.map (some t)] w fun e w' => e = .returned (.map (some w.heap.size)) ∧ TkIs w' w.heap.size K T D ∧ Below w.heap.size w w' ∧ w.heap.size < w'.heap.size := by
  obtain ⟨es, clock, hb, F, hs, hD⟩ := id h.own
  refine (mclone_c t es clock w hb).mono ?_
  rintro e w' ⟨rfl, rfl⟩
  exact ⟨rfl, ⟨⟨es, clock, heap_alloc_new w _, F, hs, hD⟩, h.keys, h.val⟩, (Below.refl _ _).alloc (Nat.le_refl _) _, by simp⟩
set_option maxHeartbeats 2000000 in
theorem cCopy_c (c : Nat) (Ft : Nat → Prop) (S W N : Int) (C : Ca) (w : World) (h : CaIs w c Ft S W N C) : Calls Tryz.prog 55 #[ptr c] w fun e w' => ∃ c' Ft', e = .returned (ptr c') ∧ CaIs w' c' Ft' S W N C ∧ (∀ b, Ft' b → w.heap.size ≤ b) ∧ Below w.heap.size w w' := by
  have hI := hide h.inv
  have hcl := h.lt c h.fc
  obtain ⟨p, t, Fh, c0, c1, hh, hF, hc⟩ := h.at'
  obtain ⟨Fl, hl, hFl, hnt⟩ := hh.ln
  obtain ⟨D, hD⟩ := hh.tk
  have htl := hh.lt t hh.ft
  replace hl := hide hl
  replace hD := hide hD
  clear h hh
  go_enter Tryz.func55, Tryz.ntmps55
  go_wp2_with fail
  refine wp_region_noPanic ?_
  refine wp_region_held_drew (S := (fun w' => w'.cell? ⟨c, 0, none⟩ = some (ptr p) ∧ w'.cell? ⟨c, 1, none⟩ = some (.map (some t)))) (by kernel_rfl) ?_ (fun hHeld => ?_)
  · exact ⟨c0, c1⟩
  refine hTk 0 3 hHeld ?_
  refine hTk 1 4 hHeld ?_
  refine hTk 2 5 hHeld ?_
  refine hTk 3 6 hHeld ?_
  refine hTk 4 7 hHeld ?_
  refine hTk 6 9 hHeld ?_
  refine hTk 7 10 hHeld ?_
  refine hTk 8 11 hHeld ?_
  refine hTk 9 12 hHeld ?_
  refine hTk 10 13 hHeld ?_
  refine hand_call (i := 5) rfl (by kernel_rfl) ?_
  intro o ho
  simp at ho
  subst ho
  intro K hK
  go_simp
  go_at_call 103
  refine (copy_c p Fl S W C.A w.drew ((unhide hl).below (Below.refl _ _).drew)).mono ?_
  rintro e w1 ⟨p', Fl', rfl, hn', hF', hb'⟩
  have hB1 : Below w.heap.size w w1 := ((Below.refl _ _).drew).trans hb'
  have q0 : w1.cell? ⟨c, 0, none⟩ = some (ptr p) := keep_cell (hB1.block c hcl) c0
  have q1 : w1.cell? ⟨c, 1, none⟩ = some (.map (some t)) := keep_cell (hB1.block c hcl) c1
  refine hK.out _ _ ?_ (fun hHeld => ?_)
  · exact ⟨q0, q1⟩
  clear hK K
  have hcl1 : c < w1.heap.size := Nat.lt_of_lt_of_le hcl hB1.size
  replace hn' := hide hn'
  have hF1 : Hid (∀ b, Fl' b → w.heap.size ≤ b) := hF'
  have s1 := hB1.size
  clear hF' hb'
  try simp only [Act.put, List.setIfInBounds_toArray, List.set_cons_zero, List.set_cons_succ]
  refine hand_call (i := 11) rfl (by kernel_rfl) ?_
  intro o ho
  simp at ho
  subst ho
  intro K hK
  go_simp
  go_at_call 104
  refine (tclone_c t C.A C.T D w1 ((unhide hD).carry (hB1.block t htl))).mono ?_
  rintro e w2 ⟨rfl, hD2, hb2, hl2⟩
  have q02 : w2.cell? ⟨c, 0, none⟩ = some (ptr p) := keep_cell (hb2.block c hcl1) q0
  have q12 : w2.cell? ⟨c, 1, none⟩ = some (.map (some t)) := keep_cell (hb2.block c hcl1) q1
  refine hK.out _ _ ?_ (fun hHeld => ?_)
  · exact ⟨q02, q12⟩
  clear hK K
  have hcl2 : c < w2.heap.size := Nat.lt_of_lt_of_le hcl1 hb2.size
  have hn2 := hide ((unhide hn').below hb2)
  have hlt1 : Hid (∀ b, Fl' b → b < w1.heap.size) := (unhide hn').lt
  have s2 := hb2.size
  replace hD2 := hide hD2
  have hB2 := hide (hB1.trans (hb2.mono s1))
  try simp only [Act.put, List.setIfInBounds_toArray, List.set_cons_zero, List.set_cons_succ]
  refine hTk 12 15 hHeld ?_
  refine hTk 13 16 hHeld ?_
  refine hNo 14 fun K hK => ?_
  go_simp
  refine hK.out _ _ ?_ fun hHeld => ?_
  · exact ⟨by simp [go_sem, *], by simp [go_sem, *]⟩
  clear hK K
  try simp only [Act.put, za, zb, zc]
  refine hTk 15 2 hHeld ?_
  refine wpAnyH_done (by kernel_rfl) (NoPanic.normal ?_) _
  clear hHeld
  go_wp2_with fail
  go_ret
  have hD3 := (unhide hD2).carry (w' := w2.alloc (.cells #[ptr p', .map (some w1.heap.size)] 185)) (Below.heap_alloc _ _ _ hl2)
  have hn3 := (unhide hn2).alloc (.cells #[ptr p', .map (some w1.heap.size)] 185)
  refine ⟨w2.heap.size, fun b => b = w2.heap.size ∨ b = w1.heap.size ∨ Fl' b, rfl, ⟨unhide hI, .inl rfl, fun b hb => ?_, ⟨p', w1.heap.size, fun b => b = w1.heap.size ∨ Fl' b, by simp, by simp, ⟨⟨Fl', hn3, fun b hb => .inr hb, fun e => ?_⟩, ⟨_, hD3⟩, .inl rfl, fun b hb => ?_⟩, fun b hb => .inr hb, fun e => ?_⟩⟩, fun b hb => ?_, (unhide hB2).alloc (unhide hB2).size _⟩
  · simp; rcases hb with hb | hb | hb
    · omega
    · omega
    · have := unhide hlt1 b hb; omega
  · have := unhide hlt1 _ e; omega
  · simp; rcases hb with hb | hb
    · omega
    · have := unhide hlt1 b hb; omega
  · rcases e with e | e
    · omega
    · have := unhide hlt1 _ e; omega
  · rcases hb with hb | hb | hb
    · omega
    · omega
    · exact unhide hF1 b hb
end Go.Proofs.YtoenjdnccgmhoaaGreatDoor
