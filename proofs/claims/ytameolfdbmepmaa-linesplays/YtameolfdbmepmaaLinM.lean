/- The contracts of the document's Remove, Use (layer 8). -/
import Derived.Test.YtameolfdbmepmaaLinL
import Derived.Test.YtameolfdbmepmaaHand2
namespace Go.Proofs.Ytameolfdbmepmaa
open Go.ChangeShapes Go.WideShapes Go.ChangeAt Go.RowKit
set_option linter.unusedSimpArgs false
set_option linter.unusedVariables false

attribute [local go_sem, local simp] over_const setCell_drewN alloc_drewN Over.cell Over.frozen lt_s1 lt_s2 lt_s3 le_s0 le_s1 le_s2 le_s3 eq_s0 eq_s1 eq_s2 qe_s0

theorem view_take {w : World} {g o cap k : Nat} {L : List Int} (hk : k ≤ L.length) (hle : L.length ≤ cap) (hmx : cap ≤ maxLen) (hg : g < w.heap.size) (hc : ∀ j, j < L.length → w.cell? ⟨g, o + j, none⟩ = (ints L)[j]?) :
    View w (.slice (some ⟨g, o, none⟩) k cap) g (L.take k) := by
  have hl : (L.take k).length = k := by rw [List.length_take]; omega
  refine ⟨_, cap, by rw [hl], by omega, hmx, .inr ⟨o, rfl, hg, fun j hj => ?_⟩⟩
  rw [hl] at hj
  rw [hc j (by omega), ints_take L k, List.getElem?_take, if_pos hj]

theorem view_drop {w : World} {g o cap j : Nat} {L : List Int} (hj : j ≤ L.length) (hle : L.length ≤ cap) (hmx : cap ≤ maxLen) (hg : g < w.heap.size) (hc : ∀ j, j < L.length → w.cell? ⟨g, o + j, none⟩ = (ints L)[j]?) :
    ∃ A, (if cap = j then some (⟨g, o, none⟩ : Addr) else some ⟨g, o + j, none⟩) = A ∧ View w (.slice A (L.length - j) (cap - j)) g (L.drop j) := by
  have hl : (L.drop j).length = L.length - j := by rw [List.length_drop]
  refine ⟨_, rfl, _, cap - j, by rw [hl], by omega, by omega, ?_⟩
  by_cases e : L.drop j = []
  · exact .inl e
  · have : L.length - j ≠ 0 := by intro h; rw [← hl] at h; exact e (List.eq_nil_of_length_eq_zero h)
    refine .inr ⟨o + j, by rw [if_neg (by omega)], hg, fun i hi => ?_⟩
    rw [hl] at hi
    rw [Nat.add_assoc, hc _ (by omega), ints_drop L j, List.getElem?_drop]

theorem take_drop_erase (L : List Int) (x : Int) (k : Nat) (hk : idxF L x = k) (hx : x ∈ L) : L.take k ++ L.drop (k + 1) = L.erase x := by
  rw [← idxF_erase L x hx, hk, Int.toNat_natCast, List.eraseIdx_eq_take_drop_succ]

set_option maxHeartbeats 2000000 in
theorem rRemove_c (p : Nat) (Ft : Nat → Prop) (S W x : Int) (A : List Int) (w : World) (h : RfIs w p Ft S W A) : Calls Try.prog 17 #[ptr p, .int .i64 x] w fun e w' => e = .returned (.bool (okRem A x)) ∧ ∃ Ft', RfIs w' p Ft' S W (A.erase x) ∧ Step Ft Ft' w w' := by
  have hh := hide h
  have hlen := h.inv.len
  have hI := hide (h.inv.rem x)
  obtain ⟨i, hi⟩ : ∃ i, Hid (idxF A x = i) := ⟨_, rfl⟩
  by_cases xa : x ∈ A
  · have e1 : okRem A x = true := by simp [okRem, xa]
    rw [e1]
    have hbd := idxF_bd A x
    have hne : ¬ idxF A x = -1 := fun e => (idxF_neg A x).1 e xa
    rw [hi.out] at hbd hne
    obtain ⟨k, rfl⟩ : ∃ k : Nat, i = k := ⟨i.toNat, by omega⟩
    have hk : k < A.length := by omega
    have her := hide (take_drop_erase A x k hi.out xa)
    obtain ⟨j, hj⟩ : ∃ j : Nat, Hid (k + 1 = j) := ⟨_, rfl⟩
    have hjl : j ≤ A.length := by have := hj.out; omega
    have hwr : IntKind.i64.wrap ((k : Int) + 1) = (j : Int) := by have := hj.out; rw [IntKind.wrap_i64]; omega
    obtain ⟨v, g, c2, hO, hFg, hgp⟩ := h.c2
    obtain ⟨ao, cap, rfl, hlc, hmx, hg, hw⟩ := hO
    rcases hw with ⟨_, rfl⟩ | ⟨o, rfl, hc, hsp⟩
    · omega
    have hV1 := hide (view_take (w := w) (k := k) (by omega) hlc hmx hg hc)
    obtain ⟨D, hD, hV2⟩ := view_drop (w := w) (j := j) hjl hlc hmx hg hc
    replace hV2 := hide hV2
    have hmx' : cap ≤ 9223372036854775807 := by unfold maxLen at hmx; omega
    have n0 : ¬ cap = 0 := by omega
    have m1 : (k : Int) ≤ cap := by omega
    have m2 : (j : Int) ≤ A.length := by omega
    have hl1 : Hid ((A.take k).length = k) := by rw [List.length_take]; show min k A.length = k; omega
    have hl2 : Hid ((A.drop j).length = A.length - j) := by rw [List.length_drop]; rfl
    have hpl := hide h.pl
    have c2' := hide c2
    clear h hc hsp hgp xa hbd hne
    go_enter Try.func17, Try.ntmps17
    go_wp2_with (go_at_call 34; refine (find_c p Ft S W x A _ (unhide hh)).mono ?_; rw [hi.out]; rintro e w' ⟨rfl, hw'⟩; rw [hw']; clear hw' w')
    go_wp2_with fail
    refine wp_region_noPanic ?_
    refine last_begin 19 (fun w' => w'.cell? ⟨p, 2, none⟩ = some (.slice (some ⟨g, o, none⟩) A.length cap)) (by kernel_rfl) ?_ (fun hHeld => ?_)
    · exact c2
    refine last_take (i := 0) (d := some 11) (v := ?_) rfl (by kernel_rfl) (by kernel_rfl) (by kernel_rfl) (by kernel_rfl) (fun _ _ _ h => h) ?_ hHeld ?_
    rotate_left
    · intro o ho
      simp at ho
      subst ho
      intro wz hSw
      try dsimp only at hSw
      go_simp
      try with_reducible rfl
    try simp only [Act.put, List.setIfInBounds_toArray, List.set_cons_zero, List.set_cons_succ]
    refine last_take (i := 2) (d := some 13) (v := ?_) rfl (by kernel_rfl) (by kernel_rfl) (by kernel_rfl) (by kernel_rfl) (fun _ _ _ h => h) ?_ hHeld ?_
    rotate_left
    · intro o ho
      simp at ho
      subst ho
      intro wz hSw
      try dsimp only at hSw
      go_simp
      try with_reducible rfl
    try simp only [Act.put, List.setIfInBounds_toArray, List.set_cons_zero, List.set_cons_succ]
    refine last_take (i := 3) (d := some 14) (v := ?_) rfl (by kernel_rfl) (by kernel_rfl) (by kernel_rfl) (by kernel_rfl) (fun _ _ _ h => h) ?_ hHeld ?_
    rotate_left
    · intro o ho
      simp at ho
      subst ho
      intro wz hSw
      try dsimp only at hSw
      go_simp
      try with_reducible rfl
    try simp only [Act.put, List.setIfInBounds_toArray, List.set_cons_zero, List.set_cons_succ]
    refine last_take (i := 4) (d := some 15) (v := ?_) rfl (by kernel_rfl) (by kernel_rfl) (by kernel_rfl) (by kernel_rfl) (fun _ _ _ h => h) ?_ hHeld ?_
    rotate_left
    · intro o ho
      simp at ho
      subst ho
      intro wz hSw
      try dsimp only at hSw
      go_simp
      try with_reducible rfl
    try simp only [Act.put, List.setIfInBounds_toArray, List.set_cons_zero, List.set_cons_succ]
    refine last_take (i := 5) (d := some 16) (v := ?_) rfl (by kernel_rfl) (by kernel_rfl) (by kernel_rfl) (by kernel_rfl) (fun _ _ _ h => h) ?_ hHeld ?_
    rotate_left
    · intro o ho
      simp at ho
      subst ho
      intro wz hSw
      try dsimp only at hSw
      go_simp
      try with_reducible rfl
    try simp only [Act.put, List.setIfInBounds_toArray, List.set_cons_zero, List.set_cons_succ]
    refine last_take (i := 6) (d := some 17) (v := ?_) rfl (by kernel_rfl) (by kernel_rfl) (by kernel_rfl) (by kernel_rfl) (fun _ _ _ h => h) ?_ hHeld ?_
    rotate_left
    · intro o ho
      simp at ho
      subst ho
      intro wz hSw
      try dsimp only at hSw
      go_simp
      try with_reducible rfl
    try simp only [Act.put, List.setIfInBounds_toArray, List.set_cons_zero, List.set_cons_succ]
    refine last_take (i := 7) (d := some 18) (v := ?_) rfl (by kernel_rfl) (by kernel_rfl) (by kernel_rfl) (by kernel_rfl) (fun _ _ _ h => h) ?_ hHeld ?_
    rotate_left
    · intro o ho
      simp at ho
      subst ho
      intro wz hSw
      try dsimp only at hSw
      go_simp
      try with_reducible rfl
    try simp only [Act.put, List.setIfInBounds_toArray, List.set_cons_zero, List.set_cons_succ]
    refine last_take (i := 9) (d := some 20) (v := ?_) rfl (by kernel_rfl) (by kernel_rfl) (by kernel_rfl) (by kernel_rfl) (fun _ _ _ h => h) ?_ hHeld ?_
    rotate_left
    · intro o ho
      simp at ho
      subst ho
      intro wz hSw
      try dsimp only at hSw
      go_simp
      try with_reducible rfl
    try simp only [Act.put, List.setIfInBounds_toArray, List.set_cons_zero, List.set_cons_succ]
    refine last_take (i := 10) (d := some 21) (v := ?_) rfl (by kernel_rfl) (by kernel_rfl) (by kernel_rfl) (by kernel_rfl) (fun _ _ _ h => h) ?_ hHeld ?_
    rotate_left
    · intro o ho
      simp at ho
      subst ho
      intro wz hSw
      try dsimp only at hSw
      go_simp
      try with_reducible rfl
    try simp only [Act.put, List.setIfInBounds_toArray, List.set_cons_zero, List.set_cons_succ]
    refine last_take (i := 11) (d := some 22) (v := ?_) rfl (by kernel_rfl) (by kernel_rfl) (by kernel_rfl) (by kernel_rfl) (fun _ _ _ h => h) ?_ hHeld ?_
    rotate_left
    · intro o ho
      simp at ho
      subst ho
      intro wz hSw
      try dsimp only at hSw
      go_simp
      try with_reducible rfl
    try simp only [Act.put, List.setIfInBounds_toArray, List.set_cons_zero, List.set_cons_succ]
    refine last_take (i := 12) (d := some 23) (v := ?_) rfl (by kernel_rfl) (by kernel_rfl) (by kernel_rfl) (by kernel_rfl) (fun _ _ _ h => h) ?_ hHeld ?_
    rotate_left
    · intro o ho
      simp at ho
      subst ho
      intro wz hSw
      try dsimp only at hSw
      go_simp
      try with_reducible rfl
    try simp only [Act.put, List.setIfInBounds_toArray, List.set_cons_zero, List.set_cons_succ]
    refine last_take (i := 13) (d := some 24) (v := ?_) rfl (by kernel_rfl) (by kernel_rfl) (by kernel_rfl) (by kernel_rfl) (fun _ _ _ h => h) ?_ hHeld ?_
    rotate_left
    · intro o ho
      simp at ho
      subst ho
      intro wz hSw
      try dsimp only at hSw
      go_simp
      try with_reducible rfl
    try simp only [Act.put, List.setIfInBounds_toArray, List.set_cons_zero, List.set_cons_succ]
    refine last_take (i := 14) (d := some 25) (v := ?_) rfl (by kernel_rfl) (by kernel_rfl) (by kernel_rfl) (by kernel_rfl) (fun _ _ _ h => h) ?_ hHeld ?_
    rotate_left
    · intro o ho
      simp at ho
      subst ho
      intro wz hSw
      try dsimp only at hSw
      go_simp
      try with_reducible rfl
    try simp only [Act.put, List.setIfInBounds_toArray, List.set_cons_zero, List.set_cons_succ]
    refine last_take (i := 15) (d := some 26) (v := ?_) rfl (by kernel_rfl) (by kernel_rfl) (by kernel_rfl) (by kernel_rfl) (fun _ _ _ h => h) ?_ hHeld ?_
    rotate_left
    · intro o ho
      simp at ho
      subst ho
      intro wz hSw
      try dsimp only at hSw
      go_simp
      try with_reducible rfl
    try simp only [Act.put, List.setIfInBounds_toArray, List.set_cons_zero, List.set_cons_succ]
    refine last_call (i := 1) rfl (by kernel_rfl) ?_
    intro o ho
    simp at ho
    subst ho
    intro K hK
    go_simp
    refine hK.out _ _ (fun _ => ?_) (fun hHeld0 => ?_)
    · exact ((Below.refl w.heap.size w).drew.alloc (Nat.le_refl _) _).cell (p := ⟨p, 2, none⟩) (unhide hpl) |>.trans (unhide c2')
    clear hK K
    replace hHeld := hHeld0 (by decide)
    clear hHeld0
    try simp only [Act.put, List.setIfInBounds_toArray, List.set_cons_zero, List.set_cons_succ]
    refine last_call (i := 8) rfl (by kernel_rfl) ?_
    intro o8 ho
    simp at ho
    subst ho
    intro K hK
    refine wp_app (.tmp 12) (.tmp 18) rfl rfl rfl (own_empty w.drew _) ((unhide hV1).carry (fun _ hq => Below.heap_alloc w.drew _ _ hq)) (by rw [hl1.out]; simp; omega) k (by rw [hl1.out]; simp) ?_
    intro ao1 cap1 w1 g1 hown1 hap1
    have hB1 : Below w.heap.size w w1 := (((Below.refl w.heap.size w).drew).alloc (Nat.le_refl _) _).trans (hap1.fr.below (fun i hi => by rw [hi]; exact Nat.le_refl _) (by simp))
    have hg1 : w.heap.size ≤ g1 := by have := hap1.lies; simp at this; omega
    have q1 : w1.cell? ⟨p, 2, none⟩ = some (.slice (some ⟨g, o, none⟩) A.length cap) := (hB1.cell (p := ⟨p, 2, none⟩) (unhide hpl)).trans (unhide c2')
    rw [List.nil_append] at hown1
    replace hown1 := hide hown1
    replace hB1 := hide hB1
    clear hap1
    refine hK.out _ _ (fun _ => ?_) (fun hHeld0 => ?_)
    · exact q1
    clear hK K
    replace hHeld := hHeld0 (by decide)
    clear hHeld0
    try simp only [Act.put, List.setIfInBounds_toArray, List.set_cons_zero, List.set_cons_succ]
    refine last_call (i := 16) rfl (by kernel_rfl) ?_
    intro o16 ho
    simp at ho
    subst ho
    intro K hK
    refine wp_app (.tmp 19) (.tmp 26) rfl rfl rfl (unhide hown1) ((unhide hV2).below (unhide hB1)) (by rw [hl1.out, hl2.out]; omega) (A.length - 1) (by have := hj.out; rw [hl1.out, hl2.out]; omega) ?_
    intro ao2 cap2 w2 g2 hown2 hap2
    have hB2 : Below w.heap.size w w2 := (unhide hB1).trans (hap2.fr.below (fun i hi => by rw [hi]; exact hg1) (unhide hB1).size)
    have hg2 : w.heap.size ≤ g2 := by have := hap2.lies; have := (unhide hB1).size; omega
    have he := her.out
    rw [hj.out] at he
    rw [he] at hown2
    obtain ⟨⟨vo, z1⟩, z2, hfin⟩ := (unhide hh).putNew hB2 (unhide hI) hown2 hg2
    have q2 : w2.cell? ⟨p, 2, none⟩ = some (.slice (some ⟨g, o, none⟩) A.length cap) := (hB2.cell (p := ⟨p, 2, none⟩) (unhide hpl)).trans (unhide c2')
    replace hfin := hide hfin
    clear hown2 hap2 hB2 he
    refine hK.out _ _ (fun _ => ?_) (fun hHeld0 => ?_)
    · exact q2
    clear hK K
    replace hHeld := hHeld0 (by decide)
    clear hHeld0
    try simp only [Act.put, List.setIfInBounds_toArray, List.set_cons_zero, List.set_cons_succ]
    refine last_call (i := 17) rfl (by kernel_rfl) ?_
    intro o ho
    simp at ho
    subst ho
    intro K hK
    go_simp
    refine hK.out _ _ (fun _ => ?_) (fun hHeld0 => ?_)
    · exact q2
    clear hK K
    replace hHeld := hHeld0 (by decide)
    clear hHeld0
    try simp only [Act.put, List.setIfInBounds_toArray, List.set_cons_zero, List.set_cons_succ]
    refine last_take (i := 18) (d := some 29) (v := ?_) rfl (by kernel_rfl) (by kernel_rfl) (by kernel_rfl) (by kernel_rfl) (fun _ _ _ h => h) ?_ hHeld ?_
    rotate_left
    · intro o ho
      simp at ho
      subst ho
      intro wz hSw
      try dsimp only at hSw
      go_simp
      try with_reducible rfl
    try simp only [Act.put, List.setIfInBounds_toArray, List.set_cons_zero, List.set_cons_succ]
    refine last_call (i := 19) rfl (by kernel_rfl) ?_
    intro o ho
    simp at ho
    subst ho
    intro K hK
    go_simp
    refine hK.out _ _ (fun h => absurd rfl h) (fun _ => ?_)
    clear hK K
    try simp only [Act.put, List.setIfInBounds_toArray, List.set_cons_zero, List.set_cons_succ]
    refine last_done (by kernel_rfl) (NoPanic.normal ?_) _
    clear hHeld
    go_wp2_with fail
    go_ret
    obtain ⟨Ft', f1, f2⟩ := unhide hfin
    exact ⟨rfl, Ft', f1, f2⟩
  · have e1 : okRem A x = false := by simp [okRem, xa]
    have e2 : A.erase x = A := List.erase_of_not_mem xa
    have e3 := (idxF_neg A x).2 xa
    rw [hi.out] at e3
    subst e3
    rw [e1, e2]
    clear h xa
    go_enter Try.func17, Try.ntmps17
    go_wp2_with (go_at_call 34; refine (find_c p Ft S W x A _ (unhide hh)).mono ?_; rw [hi.out]; rintro e w' ⟨rfl, hw'⟩; rw [hw']; clear hw' w')
    go_ret
    exact ⟨rfl, Ft, unhide hh, Step.refl _ _⟩
end Go.Proofs.Ytameolfdbmepmaa
