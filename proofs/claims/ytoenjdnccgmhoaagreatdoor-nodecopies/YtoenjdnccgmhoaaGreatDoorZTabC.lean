/- layer 15: TabC, put together. -/
import Derived.Test.YtoenjdnccgmhoaaGreatDoorB23
namespace Go.Proofs.YtoenjdnccgmhoaaGreatDoor
open Go.ChangeShapes Go.WideShapes Go.ChangeAt Go.RowKit
set_option linter.unusedSimpArgs false
set_option linter.unusedVariables false
set_option maxRecDepth 10000
attribute [local go_sem, local simp] over_const setCell_drewN alloc_drewN Over.cell Over.frozen lt_s1 lt_s2 lt_s3 le_s0 le_s1 le_s2 le_s3 eq_s0 eq_s1 eq_s2 qe_s0
set_option maxHeartbeats 1000000 in
theorem cloneA_c (b : Nat) (es : Array MapEntry) (clock : Nat) (w : World) (hb : w.heap[b]? = some (.map es clock)) : Calls Tryz.prog 105 #[.map (some b)] w fun e w' => e = .returned (.map (some w.heap.size)) ∧ w' = w.alloc (.map es clock) := by
  have hq := fun w => run_eql_map_nil (P := Tryz.prog) w 188 _ _ (some b) Tryz.underlying188
  go_enter Tryz.func105, Tryz.ntmps105
  go_wp2
  rw [run_callFunc_extern Tryz.func106 (by kernel_rfl) (by kernel_rfl) (by kernel_rfl) (e := Extern.MapsClone.clone) (by kernel_rfl), run_clone_map w 188 hb]
  simp only [Result.andThen]
  rw [Oper.upon_value]
  go_wp2
  rw [run_assert_map _ 188 _ _ _ _ Tryz.underlying188]
  simp only [Result.andThen]
  rw [Oper.upon_value]
  go_wp2
  go_ret
  exact ⟨rfl, rfl⟩
set_option maxHeartbeats 1000000 in
theorem cloneI_c (b : Nat) (es : Array MapEntry) (clock : Nat) (w : World) (hb : w.heap[b]? = some (.map es clock)) : Calls Tryz.prog 59 #[.map (some b)] w fun e w' => e = .returned (.map (some w.heap.size)) ∧ w' = w.alloc (.map es clock) := by
  have hq := fun w => run_eql_map_nil (P := Tryz.prog) w 65 _ _ (some b) Tryz.underlying65
  go_enter Tryz.func59, Tryz.ntmps59
  go_wp2
  rw [run_callFunc_extern Tryz.func106 (by kernel_rfl) (by kernel_rfl) (by kernel_rfl) (e := Extern.MapsClone.clone) (by kernel_rfl), run_clone_map w 65 hb]
  simp only [Result.andThen]
  rw [Oper.upon_value]
  go_wp2
  rw [run_assert_map _ 65 _ _ _ _ Tryz.underlying65]
  simp only [Result.andThen]
  rw [Oper.upon_value]
  go_wp2
  go_ret
  exact ⟨rfl, rfl⟩
theorem mp_clone {w : World} {m : Nat} {z : Value} {K : List Int} {f : Int → Value} {F : Nat} (h : MpIs w m z K f) (hc : ∀ es clock, w.heap[m]? = some (.map es clock) → Calls Tryz.prog F #[.map (some m)] w fun e w' => e = .returned (.map (some w.heap.size)) ∧ w' = w.alloc (.map es clock)) :
    Calls Tryz.prog F #[.map (some m)] w fun e w' => e = .returned (.map (some w.heap.size)) ∧ MpIs w' w.heap.size z K f ∧ Below w.heap.size w w' ∧ w'.heap.size = w.heap.size + 1 := by
  obtain ⟨D, h1, h2, h3⟩ := h
  obtain ⟨es, clock, hb, F, hs, hD⟩ := id h1
  refine (hc es clock hb).mono ?_
  rintro e w' ⟨rfl, rfl⟩
  exact ⟨rfl, ⟨D, ⟨es, clock, heap_alloc_new w _, F, hs, hD⟩, h2, h3⟩, (Below.refl _ _).alloc (Nat.le_refl _) _, by simp⟩
set_option maxHeartbeats 2000000 in
theorem tCopy_c (c t o N : Nat) (T : Tb) (w : World) (h : TbIs w c t o N T) : Calls Tryz.prog 56 #[ptr c] w fun e w' => ∃ c', e = .returned (ptr c') ∧ ∃ t' o', TbIs w' c' t' o' N T ∧ w.heap.size ≤ c' ∧ w.heap.size ≤ t' ∧ w.heap.size ≤ o' ∧ Below w.heap.size w w' := by
  have hH := hide h
  have hcl := h.lt
  have htl := h.tl
  have hol := h.ol
  have c0 := h.c0
  have c1 := h.c1
  have hI := hide h.inv
  have hA := hide h.act
  obtain ⟨L, hL, hLN⟩ := h.over
  replace hL := hide hL
  clear h
  go_enter Tryz.func56, Tryz.ntmps56
  go_wp2_with fail
  refine wp_region_noPanic ?_
  refine wp_region_held_drew (S := (fun w' => w'.cell? ⟨c, 0, none⟩ = some (.map (some t)) ∧ w'.cell? ⟨c, 1, none⟩ = some (.map (some o)))) (by kernel_rfl) ?_ (fun hHeld => ?_)
  · exact ⟨c0, c1⟩
  refine hTk 0 3 hHeld ?_
  refine hTk 1 4 hHeld ?_
  refine hTk 2 5 hHeld ?_
  refine hTk 3 6 hHeld ?_
  refine hTk 5 8 hHeld ?_
  refine hTk 6 9 hHeld ?_
  refine hTk 7 10 hHeld ?_
  refine hTk 8 11 hHeld ?_
  refine hNo 4 fun K hK => ?_
  go_simp
  go_at_call 105
  refine (mp_clone ((unhide hA).carry (w' := w.drew) rfl) (fun es clock hb => cloneA_c t es clock _ hb)).mono ?_
  rintro e w1 ⟨rfl, hA1, hb1, s1⟩
  have hB1 : Below w.heap.size w w1 := ((Below.refl _ _).drew).trans hb1
  have s1' : w1.heap.size = w.heap.size + 1 := s1
  have q0 : w1.cell? ⟨c, 0, none⟩ = some (.map (some t)) := keep_cell (hB1.block c hcl) c0
  have q1 : w1.cell? ⟨c, 1, none⟩ = some (.map (some o)) := keep_cell (hB1.block c hcl) c1
  refine hK.out _ _ ?_ fun hHeld => ?_
  · exact ⟨q0, q1⟩
  clear hK K
  try simp only [Act.put, za, zb, zc]
  have hcl1 : c < w1.heap.size := by omega
  have hL1 := hide ((unhide hL).carry (hB1.block o hol))
  replace hA1 := hide hA1
  replace hB1 := hide hB1
  replace s1' := hide s1'
  clear hb1 s1
  refine hNo 9 fun K hK => ?_
  go_simp
  go_at_call 59
  refine (mp_clone (unhide hL1) (fun es clock hb => cloneI_c o es clock _ hb)).mono ?_
  rintro e w2 ⟨rfl, hL2, hb2, s2⟩
  have q02 : w2.cell? ⟨c, 0, none⟩ = some (.map (some t)) := keep_cell (hb2.block c hcl1) q0
  have q12 : w2.cell? ⟨c, 1, none⟩ = some (.map (some o)) := keep_cell (hb2.block c hcl1) q1
  refine hK.out _ _ ?_ fun hHeld => ?_
  · exact ⟨q02, q12⟩
  clear hK K
  try simp only [Act.put, za, zb, zc]
  have hcl2 : c < w2.heap.size := by omega
  have hA2 := hide ((unhide hA1).carry (hb2.block w.heap.size (by rw [s1'.out]; omega)))
  have hB2 := hide ((unhide hB1).trans (hb2.mono (by rw [s1'.out]; omega)))
  have s2' := hide s2
  replace hL2 := hide hL2
  clear hb2 s2
  refine hTk 10 13 hHeld ?_
  refine hNo 11 fun K hK => ?_
  go_simp
  refine hK.out _ _ ?_ fun hHeld => ?_
  · exact ⟨by simp [go_sem, *], by simp [go_sem, *]⟩
  clear hK K
  try simp only [Act.put, za, zb, zc]
  refine hTk 12 2 hHeld ?_
  refine wpAnyH_done (by kernel_rfl) (NoPanic.normal ?_) _
  clear hHeld
  go_wp2_with fail
  go_ret
  have e1 := s1'.out
  have e2 := s2'.out
  have n1 := hB2.out.size
  refine ⟨w2.heap.size, rfl, w.heap.size, w1.heap.size, ⟨unhide hI, heap_alloc_new _ _, (unhide hA2).carry (Below.heap_alloc _ _ _ (by show w.heap.size < w2.heap.size; omega)), ⟨L, (unhide hL2).carry (Below.heap_alloc _ _ _ (by omega)), hLN⟩, by simp, by omega, by omega, by omega⟩, by omega, by omega, by omega, (unhide hB2).alloc n1 _⟩
end Go.Proofs.YtoenjdnccgmhoaaGreatDoor
