/- layer 15: TabL, put together. -/
import Derived.Test.YtoenjdnccgmhoaaGreatDoorB23
import Derived.Test.YtoenjdnccgmhoaaGreatDoorB09
import Derived.Test.YtoenjdnccgmhoaaGreatDoorB14
import Derived.Test.YtoenjdnccgmhoaaGreatDoorB35
namespace Go.Proofs.YtoenjdnccgmhoaaGreatDoor
open Go.ChangeShapes Go.WideShapes Go.ChangeAt Go.RowKit
set_option linter.unusedSimpArgs false
set_option linter.unusedVariables false
set_option maxRecDepth 10000
attribute [local go_sem, local simp] over_const setCell_drewN alloc_drewN Over.cell Over.frozen lt_s1 lt_s2 lt_s3 le_s0 le_s1 le_s2 le_s3 eq_s0 eq_s1 eq_s2 qe_s0
theorem sortsIn (m : Nat) : AnyZI.SortsIn Tryz.prog sortedLays_ren Fence.wide m :=
  ⟨fun blk off cap ss W hH hblk hsz => callsIn_wide.2 (AnyG.slices_Sort_int sortLays blk off cap ss W hH hblk hsz),
   fun p cap W => callsIn_wide.2 (AnyG.slices_Sort_int_none sortLays p cap W)⟩
abbrev boxM (t : Nat) : Obj := .cells #[.map (some t)] 188
theorem keysOf_c (t : Nat) (w : World) : Calls Tryz.prog 110 #[.map (some t)] w fun e w' => e = .returned (.func (.func 142) #[] #[.pointer (some ⟨w.heap.size, 0, none⟩)]) ∧ w' = w.alloc (boxM t) :=
  callsIn_wide.1 (AnyZI.keys_in keysLays Fence.wide 5 trivial rfl (some t) w)
theorem keys_perm {w : World} {m n : Nat} {K : List Int} {D : DataW Value} (h : w.ownsMap Tryz.prog 3 heldR m n D) (hk : ∀ kl, Maps.has D kl = true ↔ ∃ k ∈ K, kl = .int .i64 k) (hK : K.Pairwise (· < ·)) : K.Perm (intKeys D) := by
  obtain ⟨es, rfl, hp, hl⟩ := h.entries law
  have hnd : K.Nodup := hK.imp fun h => by omega
  refine perm_intKeys hp (fun p hp' => ?_) hnd (fun x => ?_)
  · obtain ⟨k, _, e⟩ := (hk p.1).1 (by rw [Maps.has_eq]; exact List.any_eq_true.2 ⟨p, hp', WideAt.sameKey_self (hl p hp')⟩)
    exact ⟨k, e⟩
  · rw [hk]
    constructor
    · intro h; exact ⟨x, h, rfl⟩
    · rintro ⟨k, h1, h2⟩; cases h2; exact h1
theorem view_of_row {w : World} {base n : Nat} {v : Value} {L : List Int} (h : w.ownsRow base 3 1 v n (L.map encZ)) : ∃ g, View w v g L ∧ (L ≠ [] → base ≤ g) := by
  obtain ⟨h1, h2⟩ := h
  rw [List.length_map, Nat.mul_one] at h1
  rcases h2 with ⟨rfl, rfl⟩ | ⟨g, cap, cur, rfl, h3, h4, h5, h6, h7, h8⟩
  · have e : L = [] := List.eq_nil_of_length_eq_zero h1
    subst e
    exact ⟨0, ⟨none, 0, rfl, Nat.le_refl _, Nat.zero_le _, .inl rfl⟩, fun h => absurd rfl h⟩
  · refine ⟨g, ⟨some ⟨g, 0, none⟩, cap, by rw [h1], by omega, h6, .inr ⟨0, rfl, (Array.getElem?_eq_some_iff.1 h4).1, fun j hj => ?_⟩⟩, fun _ => h3⟩
    rw [Nat.zero_add, cell_of_row _ _ _ _ _ _ h4]
    have h9 := congrArg (fun l => l[j]?) h8
    try dsimp only at h9
    rw [List.getElem?_take_of_lt (by omega)] at h9
    rw [← Array.getElem?_toList, h9]
    rfl
set_option maxHeartbeats 1000000 in
theorem sorted_c (t : Nat) (z : Value) (K : List Int) (f : Int → Value) (w : World) (h : MpIs w t z K f) (hK : K.Pairwise (· < ·)) :
    Calls Tryz.prog 109 #[.func (.func 142) #[] #[.pointer (some ⟨w.heap.size, 0, none⟩)]] (w.alloc (boxM t)) fun e w' => ∃ v, e = .returned v ∧ ∃ g, View w' v g K ∧ (K ≠ [] → w.heap.size < g) ∧ Below (w.heap.size + 1) (w.alloc (boxM t)) w' := by
  obtain ⟨D, h1, h2, h3⟩ := h
  have hsz := h1.size_le
  have hbl := h1.lt
  have hseq : SeqGives Fence.wide 2 Tryz.prog 142 #[.pointer (some ⟨w.heap.size, 0, none⟩)] encZ (fun ss => ss.Perm (intKeys D)) (Maps.size D) (w.alloc (boxM t)) :=
    AnyZI.keys_gives (ρ := keysLays_ren) { keysLays with } Fence.wide _ trivial rfl (by omega) w.heap.size t 2000 D _ (by simp) (by simp) (ownsMap_carry h1 (Below.heap_alloc _ _ _ hbl))
  have cS := AnyZI.sorted_in sortedLays Fence.wide 5 trivial trivial trivial trivial rfl (by omega) (sortsIn _) (enters_of Tryz.func140 (by kernel_rfl) rfl) 142 #[.pointer (some ⟨w.heap.size, 0, none⟩)] trivial (enters_of Tryz.func142 (by kernel_rfl) rfl) _ _ (by unfold maxLen; omega) (by omega) _ hseq
  change CallsIn _ _ Tryz.prog 109 _ _ _ at cS
  refine (callsIn_wide.1 cS).mono ?_
  rintro e w' ⟨v, ss, rfl, hS, hrow, hnil, hb⟩
  have e1 : ss.mergeSort (fun x y => decide (x ≤ y)) = K := (mergeSort_of_perm_i (hS.trans (keys_perm h1 h2 hK).symm)).trans (sort_rising hK)
  rw [e1] at hrow
  obtain ⟨g, hV, hg⟩ := view_of_row hrow
  refine ⟨v, rfl, g, hV, fun hne => ?_, ?_⟩
  · have := hg hne
    rw [World.size_alloc] at this
    omega
  · rw [World.size_alloc] at hb
    exact hb
structure LRel (w : World) (r gk j : Nat) (A : List At) (kv : Value) (K : List Int) (v : Value) (wr : World) (g : Nat) : Prop where
  own : OwnA wr v g (A.take j)
  lo : r ≤ g
  nil : g = r → v = .slice none 0 0
  ne : K ≠ [] → g ≠ gk
  keys : View wr kv gk K
  b : Below r w wr
theorem LRel.next {w wr w2 : World} {r gk j g g' : Nat} {A : List At} {kv v v' : Value} {K : List Int} (h : LRel w r gk j A kv K v wr g) {x : Obj} (hj : j < A.length) (hown : OwnA w2 v' g' (A.take j ++ [A[j]])) (hap : AppP (wr.alloc x) w2 v v' g g') : LRel w r gk (j + 1) A kv K v' w2 g' := by
  have hl := h.own.lt
  have hr0 : r ≤ wr.heap.size := by have := h.lo; omega
  have e : A.take (j + 1) = A.take j ++ [A[j]] := by rw [List.take_add_one, List.getElem?_eq_getElem hj]; rfl
  have hk : ∀ b, b < wr.heap.size → b ≠ g → w2.heap[b]? = wr.heap[b]? := fun b hb hg => (hap.fr.block b (by simp; omega) hg).trans (Below.heap_alloc _ _ _ hb)
  have hs := hap.fr.size
  rw [World.size_alloc] at hs
  refine ⟨by rw [e]; exact hown, ?_, fun e => ?_, fun hK => ?_, h.keys.carry (fun hK hb => hk gk hb (fun e => h.ne hK e.symm)), ?_⟩
  · rcases hap.lies with e | e
    · exact e ▸ h.lo
    · simp at e; have := h.lo; omega
  · have e2 : g' = g := by
      rcases hap.lies with e' | e'
      · exact e'
      · simp at e'; have := h.lo; omega
    exact hap.keep e2 (h.nil (by omega))
  · rcases hap.lies with e' | e'
    · rw [e']; exact h.ne hK
    · obtain ⟨_, _, _, _, _, q⟩ := h.keys
      rcases q with q | ⟨_, _, q, _⟩
      · exact absurd q hK
      · simp at e'; omega
  · by_cases c : g = r
    · have := hap.nil (h.nil c)
      exact h.b.trans ((((Below.refl _ _).alloc (Nat.le_refl _) _).trans (this.mono (by simp))).mono hr0)
    · exact h.b.trans (((Below.refl r wr).alloc hr0 _).trans (hap.fr.below (fun i hi => by rw [hi]; exact h.lo) (by simp; omega)))
set_option maxHeartbeats 2000000 in
theorem tList_c (c t o N : Nat) (T : Tb) (w : World) (h : TbIs w c t o N T) (hN : N ≤ 2000) : Calls Tryz.prog 63 #[ptr c] w fun e w' => ∃ v, e = .returned v ∧ ∃ g, OwnA w' v g T.A ∧ w.heap.size ≤ g ∧ Below w.heap.size w w' := by
  have hlen := h.inv.len
  have hcl := h.lt
  have htl := h.tl
  have c0 := h.c0
  have hM := hide h.act
  have hsr := hide h.inv.sr
  have hrng := hide h.inv.rng
  obtain ⟨K, hK⟩ : ∃ K, Hid (T.A.map At.b = K) := ⟨_, rfl⟩
  have hKr : Hid (K.Pairwise (· < ·)) := hide (hK.out ▸ sr_keys h.inv.sr)
  have hKl : Hid (K.length = T.A.length) := hide (by rw [← hK.out, List.length_map])
  have hKn : K.length ≤ 2000 := by have := hKl.out; omega
  have hM' : Hid (MpIs w t (atV at0) K (fun k => atV (getA T.A k))) := hide (hK.out ▸ hM.out)
  have hS := hide (sorted_c t _ K _ w hM'.out hKr.out)
  clear h
  go_enter Tryz.func63, Tryz.ntmps63
  go_wp2_with (first | (go_at_call 110; refine (keysOf_c t w).mono ?_; rintro e w' ⟨rfl, rfl⟩) | (go_at_call 109; refine hS.out.mono ?_; rintro e w1 ⟨v1, rfl, gk, hV, hgk, hB⟩; obtain ⟨ao1, cap1, rfl, hc1⟩ := id hV; replace hV := hide hV; replace hgk := hide hgk; replace hB := hide hB; clear hc1))
  obtain ⟨r, hr⟩ : ∃ r, Hid (w.heap.size = r) := ⟨_, rfl⟩
  have hB1 : Hid (Below r w w1) := hide (hr.out ▸ ((Below.refl _ w).alloc (Nat.le_refl _) _).trans (hB.out.mono (by omega)))
  have hs1 : r < w1.heap.size := by have := hB.out.size; rw [World.size_alloc] at this; have := hr.out; omega
  go_loopw [3, 13] (fun v i wr => ∃ j : Nat, j ≤ K.length ∧ i = .int .i64 j ∧ ∃ g, LRel w r gk j T.A (.slice ao1 K.length cap1) K v wr g) (fun _ i _ => K.length - (intOf i).toNat)
  case atStart => exact ⟨0, Nat.zero_le _, rfl, r, by rw [List.take_zero]; exact own_nilA hs1, Nat.le_refl _, fun _ => rfl, fun hne => by have := hgk.out hne; have := hr.out; omega, hV.out, hB1.out⟩
  case round =>
    obtain ⟨j, hj, rfl, g, hR⟩ := hrel
    by_cases hlt : j < K.length
    · have hja : j < T.A.length := by have := hKl.out; omega
      have eK : K[j] = T.A[j].b := by simp [← hK.out]
      obtain ⟨a, ha⟩ : ∃ a, T.A[j] = a := ⟨_, rfl⟩
      have hk0 : ∃ o1, ao1 = some ⟨gk, o1, none⟩ ∧ wr.cell? ⟨gk, o1 + j, none⟩ = some (.int .i64 a.b) := by
        obtain ⟨ao', cap', e, _, _, q⟩ := hR.keys
        cases e
        rcases q with q | ⟨o1, e1, _, q⟩
        · rw [q] at hlt; simp at hlt
        · refine ⟨o1, e1, (q j hlt).trans ?_⟩
          rw [ints_at K j hlt, eK, ha]
      obtain ⟨o1, rfl, q0⟩ := hk0
      have hmem : a ∈ T.A := ha ▸ List.getElem_mem hja
      have hget : getA T.A a.b = a := getA_of_mem hsr.out hmem
      have hB0 := hR.b
      have l0 := hM'.out.look Tryz.underlying188 zeroAE (hrng.out a hmem) wr (hB0.block t (by have := hr.out; omega))
      try dsimp only at l0
      rw [hget] at l0
      have d0 : wr.cell? ⟨c, 0, none⟩ = some (.map (some t)) := keep_cell (hB0.block c (by have := hr.out; omega)) c0
      have hlt' : (j : Int) < K.length := by omega
      have ho := hR.own
      have htk : (T.A.take j).length = j := by rw [List.length_take]; omega
      obtain ⟨ao, cap, e, _⟩ := id hR.own
      rw [htk] at e
      subst e
      have hR' := hide hR
      have ho' := hide ho
      have hl1 : Hid ((T.A.take j).length + [a].length ≤ 1000000) := hide (by rw [htk]; simp; omega)
      have hl2 : Hid ((T.A.take j).length + [a].length = j + 1) := hide (by rw [htk]; rfl)
      clear hR hB0 ho htk eK hget hmem hlt
      replace ha := hide ha
      replace hja := hide hja
      go_wp2_with (at_builtin; refine wpList_appA rfl _ _ rfl rfl rfl (ho'.out.alloc _) (view_oneA wr a) hl1.out (j + 1) hl2.out ?_; intro ao' cap' w2 g' hown' hap; replace hown' := hide hown'; replace hap := hide hap)
      go_roundw
      case rel => exact ⟨j + 1, by omega, by simp, g', hR'.out.next hja.out (by rw [ha.out]; exact hown'.out) hap.out⟩
      case measure => simp [intOf]; omega
    · obtain rfl : j = K.length := by omega
      have ho := hR.own
      rw [hKl.out, List.take_length] at ho
      obtain ⟨ao, cap, e, _⟩ := id ho
      subst e
      have hR' := hide hR
      replace ho := hide ho
      clear hR
      go_wp2_with fail
      go_ret
      exact ⟨_, rfl, g, ho.out, by rw [hr.out]; exact hR'.out.lo, by rw [hr.out]; exact hR'.out.b⟩
end Go.Proofs.YtoenjdnccgmhoaaGreatDoor
