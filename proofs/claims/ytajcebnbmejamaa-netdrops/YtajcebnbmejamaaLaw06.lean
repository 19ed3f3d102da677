/- What every law of layer 6 asks first. -/
import Derived.Test.YtajcebnbmejamaaNetF
import Derived.Test.YtajcebnbmejamaaNetJ
namespace Go.Proofs.Ytajcebnbmejamaa
open Go.ChangeShapes Go.WideShapes Go.ChangeAt Go.RowKit
set_option linter.unusedSimpArgs false
set_option linter.unusedVariables false

attribute [local go_sem, local simp] over_const setCell_drewN alloc_drewN Over.cell Over.frozen lt_s1 lt_s2 lt_s3 le_s0 le_s1 le_s2 le_s3 eq_s0 eq_s1 eq_s2 qe_s0

/-- A row that is laid out whole. -/
theorem view_row {w : World} {b : Nat} {t : TypeId} {cs : Array Value} (L : List Lt) (hc : cs = (flat L).toArray) (h : w.heap[b]? = some (.cells cs t (0, 0))) (hm : L.length ≤ maxLen) (n : Nat) (hn : n = L.length) : View w (.slice (some ⟨b, 0, none⟩) n n) b L := by
  subst hn
  refine ⟨_, _, rfl, Nat.le_refl _, hm, .inr ⟨0, rfl, (Array.getElem?_eq_some_iff.1 h).1, fun j hj => ?_⟩⟩
  rw [Nat.zero_add, cell_of_row w b j _ _ _ h, hc]
  simp

abbrev lA : Lt := ⟨7, 0, 0, 0, 1, 0, false, 0, false, false, 0⟩

set_option maxHeartbeats 2000000 in
theorem awake6_any (w : World) : Calls Try.prog 9 #[] w fun e w' => e = .returned (.bool true) ∧ Below w.heap.size w w' := by
  go_enter Try.func9, Try.ntmps9
  go_wp2_with fail
  go_at_call 11
  refine (new_c 1 _).mono ?_
  rintro e w1 ⟨rfl, hn1, hb1⟩
  have p1 := hn1.pl
  replace hn1 : Hid (NetIs w1 w.heap.size w.heap.size 1 []) := hn1
  replace hb1 := hide hb1
  go_wp2_with fail
  -- two letters: no room
  go_at_call 13
  refine (send_c w.heap.size w.heap.size (w1.heap.size + 1) 1 [] [lA, lA] _ _ (((unhide hn1).alloc _).alloc _) (view_row [lA, lA] rfl (alloc_at1 w1 _ _) (by simp [maxLen]) 2 rfl)).mono ?_
  rw [show okS 1 [] [lA, lA] = false from rfl, show nxS 1 [] [lA, lA] = [] from rfl]
  rintro e w2 ⟨rfl, g2, hn2, hf2, hg2⟩
  have s2 := hf2.size
  have l2 := hn2.gl
  simp only [World.size_alloc] at s2 hg2
  have hA2 : w2.heap[w1.heap.size]? = some (lObj lA) := (hf2.block w1.heap.size (by simp) (by omega) (by omega)).trans (alloc_at10 w1 _ _)
  have hb2 : Below w.heap.size w w2 := (((unhide hb1).alloc (by omega) _).alloc (by simp; omega) _).trans (hf2.below (Nat.le_refl _) (by omega) (by simp; omega))
  obtain ⟨a0, a1, a2, a3, a4, a5, a6, a7, a8, a9, a10, _⟩ := box_let (w := w2) (b := w1.heap.size) lA hA2
  clear hb1 hn1 hf2
  replace hA2 := hide hA2
  replace hb2 := hide hb2
  replace hn2 := hide hn2
  go_wp2_with fail
  -- one letter
  go_at_call 13
  refine (send_c w.heap.size g2 w2.heap.size 1 [] [lA] _ _ ((unhide hn2).alloc _) (view_row [lA] rfl (alloc_at0 w2 _) (by simp [maxLen]) 1 rfl)).mono ?_
  rw [show okS 1 [] [lA] = true from rfl, show nxS 1 [] [lA] = [lA] from rfl]
  rintro e w3 ⟨rfl, g3, hn3, hf3, hg3⟩
  have s3 := hf3.size
  have l3 := hn3.gl
  simp only [World.size_alloc] at s3 hg3
  have hA3 : w3.heap[w1.heap.size]? = some (lObj lA) := ((hf3.block w1.heap.size (by simp; omega) (by omega) (by omega)).trans (Below.heap_alloc _ _ _ (by omega))).trans (unhide hA2)
  have hb3 : Below w.heap.size w w3 := ((unhide hb2).alloc (by omega) _).trans (hf3.below (Nat.le_refl _) (by omega) (by simp; omega))
  clear hb2 hn2 hf3 hA2 a0 a1 a2 a3 a4 a5 a6 a7 a8 a9 a10
  replace hA3 := hide hA3
  replace hb3 := hide hb3
  replace hn3 := hide hn3
  go_wp2_with fail
  -- it isn't lost
  go_at_call 17
  refine (drop_c w.heap.size g3 1 0 [lA] _ (unhide hn3)).mono ?_
  rw [show okD [lA] 0 = false from rfl, show nxD [lA] 0 = [lA] from rfl]
  rintro e w4 ⟨rfl, hn4, hf4⟩
  have s4 := hf4.size
  have hA4 : w4.heap[w1.heap.size]? = some (lObj lA) := (hf4.block w1.heap.size (by omega) (by omega) (by omega)).trans (unhide hA3)
  have hb4 : Below w.heap.size w w4 := (unhide hb3).trans (hf4.below (Nat.le_refl _) (by omega) (by omega))
  clear hb3 hn3 hf4 hA3
  replace hA4 := hide hA4
  replace hb4 := hide hb4
  replace hn4 := hide hn4
  go_wp2_with fail
  -- it comes
  go_at_call 15
  refine (take_c w.heap.size g3 1 0 [lA] _ (unhide hn4)).mono ?_
  rw [show okT [lA] 0 = true from rfl, show nxT [lA] 0 = [] from rfl, show letV (leT [lA] 0) = letV lA from rfl]
  simp only [letV]
  rintro e w5 ⟨rfl, hn5, hf5⟩
  have s5 := hf5.size
  have hA5 : w5.heap[w1.heap.size]? = some (lObj lA) := (hf5.block w1.heap.size (by omega) (by omega) (by omega)).trans (unhide hA4)
  have hb5 : Below w.heap.size w w5 := (unhide hb4).trans (hf5.below (Nat.le_refl _) (by omega) (by omega))
  clear hb4 hn4 hf5 hA4
  replace hA5 := hide hA5
  replace hb5 := hide hb5
  replace hn5 := hide hn5
  go_wp2_with fail
  -- then none
  go_at_call 15
  refine (take_c w.heap.size g3 1 0 [] _ ((unhide hn5).alloc _)).mono ?_
  rw [show okT [] 0 = false from rfl, show nxT [] 0 = [] from rfl, show letV (leT [] 0) = letV zeroL from rfl]
  simp only [letV, zeroL]
  rintro e w6 ⟨rfl, hn6, hf6⟩
  have s6 := hf6.size
  simp only [World.size_alloc] at s6
  have hA6 : w6.heap[w1.heap.size]? = some (lObj lA) := ((hf6.block w1.heap.size (by simp; omega) (by omega) (by omega)).trans (Below.heap_alloc _ _ _ (by omega))).trans (unhide hA5)
  have hB6 : w6.heap[w5.heap.size]? = some (lObj lA) := (hf6.block w5.heap.size (by simp) (by omega) (by omega)).trans (alloc_at0 w5 _)
  have hb6 : Below w.heap.size w w6 := ((unhide hb5).alloc (by omega) _).trans (hf6.below (Nat.le_refl _) (by omega) (by simp; omega))
  obtain ⟨a0, a1, a2, a3, a4, a5, a6, a7, a8, a9, a10, _⟩ := box_let (w := w6) (b := w1.heap.size) lA hA6
  obtain ⟨c0, c1, c2, c3, c4, c5, c6, c7, c8, c9, c10, _⟩ := box_let (w := w6) (b := w5.heap.size) lA hB6
  have u1 : w1.heap.size < w6.heap.size := by omega
  have u2 : w5.heap.size < w6.heap.size := by omega
  clear hb5 hn5 hf6 hA5 hA6 hB6
  replace hb6 := hide hb6
  replace hn6 := hide hn6
  go_wp2_with (go_at_call 21; refine (list_c w.heap.size g3 1 [] _ ((unhide hn6).alloc _)).mono ?_; rintro e w7 ⟨ao, cap, rfl, hc, _⟩; replace hc := hide hc)
  go_ret
  exact ⟨rfl, ((unhide hb6).alloc (by omega) _).trans ((unhide hc).mono (by simp; omega))⟩
end Go.Proofs.Ytajcebnbmejamaa
