/- The contract of slices.Delete at ints (one number goes) (layer 8). -/
import Derived.Test.YtooopcadefpncaaLinA
namespace Go.Proofs.Ytooopcadefpncaa
open Go.ChangeShapes Go.WideShapes Go.ChangeAt Go.RowKit
set_option linter.unusedSimpArgs false
set_option linter.unusedVariables false
set_option maxRecDepth 10000

attribute [local go_sem, local simp] over_const setCell_drewN alloc_drewN Over.cell Over.frozen lt_s1 lt_s2 lt_s3 le_s0 le_s1 le_s2 le_s3 eq_s0 eq_s1 eq_s2 qe_s0

theorem run_clr {ty : TypeId} {w : World} {g od n c : Nat} (h0 : 0 < n) (hc : ∀ j, j < n → (w.cell? ⟨g, od + j, none⟩).isSome = true ∧ w.frozen? ⟨g, od + j, none⟩ = false) :
    (Builtin.clear_ #[77] ty #[.slice (some ⟨g, od, none⟩) n c]).run Try.prog w = .ok (.tuple #[]) (w.setCells g od (Builtin.zeroCells (Value.int .i64 0).cells n).toList) := by
  obtain ⟨i0, hi, hz0, hz1, hz2⟩ := info_parts infoI
  have hsz : (Builtin.zeroCells (Value.int .i64 0).cells n).toList.length = n := by rw [Array.length_toList, size_zeroCells]; simp [Value.cells]
  have h1 : ∀ u ∈ (Builtin.zeroCells (Value.int .i64 0).cells n).toList, u.oneCell' = true := by
    intro u hu
    simp only [Builtin.zeroCells, Value.cells] at hu
    simp at hu
    obtain ⟨i, _, rfl⟩ := hu
    simp [Nat.mod_one, Value.oneCell']
  have hst := run_storeCells_cells (P := Try.prog) g od (Builtin.zeroCells (Value.int .i64 0).cells n).toList 0 w (fun j hj => (by rw [hsz] at hj; simpa using (hc j hj).1)) (fun j hj => (by rw [hsz] at hj; simpa using (hc j hj).2)) h1
  simp only [Nat.add_zero] at hst
  obtain ⟨m, rfl⟩ : ∃ m, n = m + 1 := ⟨n - 1, by omega⟩
  simp [Builtin.clear_, run_underlying Try.underlying77, zeroValue, typeInfo, hi, hz0, hst]

theorem ints_take (L : List Int) (i : Nat) : ints (L.take i) = (ints L).take i := by simp [ints, List.map_take]
theorem ints_drop (L : List Int) (i : Nat) : ints (L.drop i) = (ints L).drop i := by simp [ints, List.map_drop]

theorem ints_erase (L : List Int) (k j : Nat) (hk : k < L.length) (hj : j < L.length - 1) : (ints (L.eraseIdx k))[j]? = if j < k then (ints L)[j]? else (ints L)[j + 1]? := by
  rw [List.eraseIdx_eq_take_drop_succ, ints_append, ints_take L k, ints_drop L (k + 1)]
  have hl := ints_length L
  by_cases c : j < k
  · rw [if_pos c, List.getElem?_append_left (by rw [List.length_take]; omega), List.getElem?_take, if_pos c]
  · rw [if_neg c, List.getElem?_append_right (by rw [List.length_take]; omega), List.length_take, List.getElem?_drop]
    congr 1
    omega

/-- The back moved down by one, and the last one cleared. -/
theorem own_back {w : World} {g o cap k : Nat} {L : List Int} {zs : List Value} (hk : k < L.length) (hle : L.length ≤ cap) (hmx : cap ≤ maxLen) (hg : g < w.heap.size) (hc : ∀ j, j < L.length → w.cell? ⟨g, o + j, none⟩ = (ints L)[j]?)
    (hsp : ∀ j, j < cap → (w.cell? ⟨g, o + j, none⟩).isSome = true ∧ w.frozen? ⟨g, o + j, none⟩ = false) :
    Own ((w.setCells g (o + k) (ints (L.drop (k + 1)))).setCells g (o + (L.length - 1)) zs) (.slice (some ⟨g, o, none⟩) (L.length - 1) cap) g (L.eraseIdx k) := by
  have hlk : (ints (L.drop (k + 1))).length = L.length - (k + 1) := by rw [ints_length, List.length_drop]
  have hel : (L.eraseIdx k).length = L.length - 1 := by rw [List.length_eraseIdx]; simp [hk]
  refine ⟨some ⟨g, o, none⟩, cap, by rw [hel], by omega, by omega, Nat.lt_of_lt_of_le hg (Nat.le_trans (setCells_frS g _ _ w).size (setCells_frS g _ _ _).size), .inr ⟨o, rfl, fun j hj => ?_, fun j hj => ?_⟩⟩
  · rw [hel] at hj
    rw [ints_erase L k j hk hj, World.cell?_setCells_out _ _ _ _ _ (fun _ _ => .inl (by simp; omega))]
    by_cases c : j < k
    · rw [if_pos c, World.cell?_setCells_out _ _ _ _ _ (fun _ _ => .inl (by simp; omega)), hc _ (by omega)]
    · have := World.cell?_setCells_in g (ints (L.drop (k + 1))) (o + k) w (fun i hi => by rw [hlk] at hi; rw [Nat.add_assoc]; exact (hsp _ (by omega)).1) (j - k) (by omega)
      rw [show o + k + (j - k) = o + j by omega] at this
      rw [if_neg c, this, ← List.getElem?_eq_getElem, ints_drop L (k + 1), List.getElem?_drop]
      congr 1
      omega
  · exact ⟨World.isSome_setCells _ _ _ _ _ (World.isSome_setCells _ _ _ _ _ (hsp _ (by omega)).1), by rw [World.frozen?_setCells, World.frozen?_setCells]; exact (hsp _ (by omega)).2⟩

set_option maxHeartbeats 4000000 in
set_option maxRecDepth 100000 in
theorem delete_c (g o cap k j : Nat) (L : List Int) (w : World) (hj : k + 1 = j) (hk : k < L.length) (hle : L.length ≤ cap) (hmx : cap ≤ maxLen) (hl : L.length ≤ 65536) (hg : g < w.heap.size) (hc : ∀ j, j < L.length → w.cell? ⟨g, o + j, none⟩ = (ints L)[j]?)
    (hsp : ∀ j, j < cap → (w.cell? ⟨g, o + j, none⟩).isSome = true ∧ w.frozen? ⟨g, o + j, none⟩ = false) :
    Calls Try.prog 69 #[.slice (some ⟨g, o, none⟩) L.length cap, .int .i64 k, .int .i64 j] w fun e w' => e = .returned (.slice (some ⟨g, o, none⟩) (L.length - 1) cap) ∧ Own w' (.slice (some ⟨g, o, none⟩) (L.length - 1) cap) g (L.eraseIdx k) ∧ FrS (· = g) w w' := by
  obtain ⟨i0, hi, hz0, hz1, hz2⟩ := info_parts infoI
  have hOwn := hide (fun zs => own_back (w := w.drew) (zs := zs) hk hle hmx hg hc hsp)
  obtain ⟨n, hn⟩ : ∃ n, L.length = n := ⟨_, rfl⟩
  rw [hn] at hk hle hl hc hOwn ⊢
  obtain ⟨news, hnews⟩ : ∃ news, news = ints (L.drop (k + 1)) := ⟨_, rfl⟩
  have hlen : news.length = n - j := by rw [hnews, ints_length, List.length_drop]; omega
  obtain ⟨A, hA, hsrc⟩ : ∃ A : Addr, (if cap = j then some (⟨g, o, none⟩ : Addr) else some ⟨g, o + j, none⟩) = some A ∧ Hid (∀ t u, news[t]? = some u → w.drew.cell? (A.add t) = some u) := by
    by_cases h : cap = j
    · refine ⟨⟨g, o, none⟩, by simp [h], fun t u hu => ?_⟩
      have h0 : news.length = 0 := by rw [hlen]; omega
      rw [List.length_eq_zero_iff.1 h0] at hu
      simp at hu
    · refine ⟨⟨g, o + j, none⟩, by simp [h], fun t u hu => ?_⟩
      have ht := (List.getElem?_eq_some_iff.1 hu).1
      rw [hlen] at ht
      rw [hnews, ints_drop L (k + 1), List.getElem?_drop] at hu
      rw [Addr.add_lit, Nat.add_assoc]
      refine (hc _ (by omega)).trans ?_
      rw [← hj]
      exact hu
  have s1 : Hid (news.length = (n - j) * 1) := hide (by rw [hlen, Nat.mul_one])
  have s2 : Hid (∀ u ∈ news, u.oneCell' = true) := by rw [hnews]; exact ints_one _
  have s3 : Hid (∀ t, t < news.length → (w.drew.cell? ⟨g, o + k * 1 + t, none⟩).isSome = true ∧ w.drew.frozen? ⟨g, o + k * 1 + t, none⟩ = false) := by
    intro t ht
    rw [hlen] at ht
    rw [Nat.mul_one, Nat.add_assoc]
    exact hsp _ (by omega)
  obtain ⟨W1, hW1⟩ : ∃ W1, W1 = w.drew.setCells g (o + k) news := ⟨_, rfl⟩
  have hcl : ∀ ty, (Builtin.clear_ #[77] ty #[.slice (some ⟨g, o + (k + (n - j)), none⟩) (n - (k + (n - j))) (cap - (k + (n - j)))]).run Try.prog W1 = .ok (.tuple #[]) (W1.setCells g (o + (k + (n - j))) (Builtin.zeroCells (Value.int .i64 0).cells (n - (k + (n - j)))).toList) := fun ty => run_clr (by omega) fun t ht => by
    rw [hW1, Nat.add_assoc]
    have := hsp ((k + (n - j)) + t) (by omega)
    exact ⟨World.isSome_setCells _ _ _ _ _ this.1, by rw [World.frozen?_setCells]; exact this.2⟩
  have hW : Hid (W1 = w.drew.setCells g (o + k * 1) news) := by rw [Nat.mul_one]; exact hW1
  have hX : Hid (news = ints (L.drop (k + 1))) := hnews
  have hkj : k < j := by omega
  have hjn : j ≤ n := by omega
  have hic : k ≤ cap := by omega
  have hjc : j ≤ cap := by omega
  have hJ := hide hj
  have hK := hide hk
  have hmx' : cap ≤ 9223372036854775807 := by unfold maxLen at hmx; omega
  clear hW1 hc hsp hnews hlen hn hj hmx
  go_enter Try.func69, Try.ntmps69
  go_wp2_with fail
  go_region_law (refine step_append_room rfl (.tmp 22) (.tmp 25) 77 rfl 3 i0 1 Try.underlying77 hi hz1 g o k cap (by simp [Act.eval, Act.put]) A (n - j) (cap - j) news (by simp [Act.eval, Act.put]) s1.out hsrc.out s2.out (by omega) s3.out ?_; rw [← hW.out])
  go_wp2
  go_ret
  have hJ' := unhide hJ
  have hK' := unhide hK
  have e1 : k + (n - j) = n - 1 := by omega
  have e2 : n - (k + (n - j)) = 1 := by omega
  have hW' := hW.out
  rw [Nat.mul_one] at hW'
  rw [e2, e1, hW', hX.out]
  exact ⟨rfl, unhide hOwn _, (FrS.of_below ((Below.refl _ _).drew)).trans ((setCells_frS g _ _ _).trans (setCells_frS g _ _ _) (fun _ h => .inl h)) (fun _ h => .inl h)⟩
end Go.Proofs.Ytooopcadefpncaa
