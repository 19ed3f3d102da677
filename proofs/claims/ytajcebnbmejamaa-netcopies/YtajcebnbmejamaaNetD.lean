/- The contract of slices.Delete at letters (one letter goes). -/
import Derived.Test.YtajcebnbmejamaaNetC
namespace Go.Proofs.Ytajcebnbmejamaa
open Go.ChangeShapes Go.WideShapes Go.ChangeAt Go.RowKit
set_option linter.unusedSimpArgs false
set_option linter.unusedVariables false

attribute [local go_sem, local simp] over_const setCell_drewN alloc_drewN Over.cell Over.frozen lt_s1 lt_s2 lt_s3 le_s0 le_s1 le_s2 le_s3 eq_s0 eq_s1 eq_s2 qe_s0

set_option maxHeartbeats 4000000 in
set_option maxRecDepth 100000 in
theorem delete_c (g o cap k j : Nat) (L : List Lt) (w : World) (hj : k + 1 = j) (hk : k < L.length) (hle : L.length ≤ cap) (hmx : cap ≤ maxLen) (hl : L.length ≤ 65536) (hg : g < w.heap.size) (hc : ∀ j, j < L.length * 11 → w.cell? ⟨g, o + j, none⟩ = (flat L)[j]?)
    (hsp : ∀ j, j < cap * 11 → (w.cell? ⟨g, o + j, none⟩).isSome = true ∧ w.frozen? ⟨g, o + j, none⟩ = false) :
    Calls Try.prog 27 #[.slice (some ⟨g, o, none⟩) L.length cap, .int .i64 k, .int .i64 j] w fun e w' => e = .returned (.slice (some ⟨g, o, none⟩) (L.length - 1) cap) ∧ Own w' (.slice (some ⟨g, o, none⟩) (L.length - 1) cap) g (L.eraseIdx k) ∧ Fr g g w w' := by
  obtain ⟨i0, hi, hz0, hz1, hz2⟩ := info_parts infoL
  have hOwn := hide (fun zs => own_back (w := w.drew) (zs := zs) hk hle hmx hg hc hsp)
  obtain ⟨n, hn⟩ : ∃ n, L.length = n := ⟨_, rfl⟩
  rw [hn] at hk hle hl hc hOwn ⊢
  obtain ⟨news, hnews⟩ : ∃ news, news = flat (L.drop (k + 1)) := ⟨_, rfl⟩
  have hlen : news.length = (n - j) * 11 := by rw [hnews, flat_length, List.length_drop]; omega
  obtain ⟨A, hA, hsrc⟩ : ∃ A : Addr, (if cap = j then some (⟨g, o, none⟩ : Addr) else some ⟨g, o + j * 11, none⟩) = some A ∧ Hid (∀ t u, news[t]? = some u → w.drew.cell? (A.add t) = some u) := by
    by_cases h : cap = j
    · refine ⟨⟨g, o, none⟩, by simp [h], fun t u hu => ?_⟩
      have h0 : news.length = 0 := by rw [hlen]; omega
      rw [List.length_eq_zero_iff.1 h0] at hu
      simp at hu
    · refine ⟨⟨g, o + j * 11, none⟩, by simp [h], fun t u hu => ?_⟩
      have ht := (List.getElem?_eq_some_iff.1 hu).1
      rw [hlen] at ht
      rw [hnews, flat_drop L (k + 1) (by omega), List.getElem?_drop] at hu
      rw [Addr.add_lit, Nat.add_assoc]
      refine (hc _ (by omega)).trans ?_
      rw [← hj]
      exact hu
  have s1 : Hid (news.length = (n - j) * 11) := hlen
  have s2 : Hid (∀ u ∈ news, u.oneCell' = true) := by rw [hnews]; exact flat_one _
  have s3 : Hid (∀ t, t < news.length → (w.drew.cell? ⟨g, o + k * 11 + t, none⟩).isSome = true ∧ w.drew.frozen? ⟨g, o + k * 11 + t, none⟩ = false) := by
    intro t ht
    rw [hlen] at ht
    rw [Nat.add_assoc]
    exact hsp _ (by omega)
  obtain ⟨W1, hW1⟩ : ∃ W1, W1 = w.drew.setCells g (o + k * 11) news := ⟨_, rfl⟩
  have hcl : ∀ ty, (Builtin.clear_ #[29] ty #[.slice (some ⟨g, o + (k + (n - j)) * 11, none⟩) (n - (k + (n - j))) (cap - (k + (n - j)))]).run Try.prog W1 = .ok (.tuple #[]) (W1.setCells g (o + (k + (n - j)) * 11) (Builtin.zeroCells (letV zeroL).cells (n - (k + (n - j)))).toList) := fun ty => run_clr (by omega) fun t ht => by
    rw [hW1, Nat.add_assoc]
    have := hsp ((k + (n - j)) * 11 + t) (by omega)
    exact ⟨World.isSome_setCells _ _ _ _ _ this.1, by rw [World.frozen?_setCells]; exact this.2⟩
  have hW : Hid (W1 = w.drew.setCells g (o + k * 11) news) := hW1
  have hX : Hid (news = flat (L.drop (k + 1))) := hnews
  have hkj : k < j := by omega
  have hjn : j ≤ n := by omega
  have hic : k ≤ cap := by omega
  have hjc : j ≤ cap := by omega
  have hJ := hide hj
  have hK := hide hk
  have hmx' : cap ≤ 9223372036854775807 := by unfold maxLen at hmx; omega
  clear hW1 hc hsp hnews hlen hn hj hmx
  go_enter Try.func27, Try.ntmps27
  go_wp2_with fail
  go_region_law (refine step_append_room rfl (.tmp 22) (.tmp 25) 29 rfl 37 i0 11 Try.underlying29 hi hz1 g o k cap (by simp [Act.eval, Act.put]) A (n - j) (cap - j) news (by simp [Act.eval, Act.put]) s1.out hsrc.out s2.out (by omega) s3.out ?_; rw [← hW.out])
  go_wp2
  go_ret
  have hJ' := unhide hJ
  have hK' := unhide hK
  have e1 : k + (n - j) = n - 1 := by omega
  have e2 : n - (k + (n - j)) = 1 := by omega
  rw [e2, e1, hW.out, hX.out]
  exact ⟨rfl, unhide hOwn _, (Fr.of_below ((Below.refl _ _).drew)).trans ((setCells_fr g _ _ _).trans (setCells_fr g _ _ _) (.inl rfl) (.inl rfl)) (.inl rfl) (.inl rfl)⟩
end Go.Proofs.Ytajcebnbmejamaa
