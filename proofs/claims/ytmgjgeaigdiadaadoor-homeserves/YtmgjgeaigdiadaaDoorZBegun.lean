/- layer 16: Begun, put together. -/
import Derived.Test.YtmgjgeaigdiadaaDoorZHvMath
import Derived.Test.YtmgjgeaigdiadaaDoorZThInt
import Derived.Test.YtmgjgeaigdiadaaDoorB40
import Derived.Test.YtmgjgeaigdiadaaDoorB17
import Derived.Deep.DeepCutAuto
namespace Go.Proofs.YtmgjgeaigdiadaaDoor
open Go.ChangeShapes Go.WideShapes Go.ChangeAt Go.RowKit
set_option linter.unusedSimpArgs false
set_option linter.unusedVariables false
set_option maxRecDepth 10000
attribute [local go_sem, local simp] over_const setCell_drewN alloc_drewN Over.cell Over.frozen lt_s1 lt_s2 lt_s3 le_s0 le_s1 le_s2 le_s3 eq_s0 eq_s1 eq_s2 qe_s0
theorem begL_take {L : List Lt} {t : Nat} (h : t < L.length) : begL (L.take (t + 1)) = begL (L.take t) ++ (if L[t].k = 4 ∧ L[t].b = 0 then [L[t].w] else []) := by
  rw [List.take_add_one, List.getElem?_eq_getElem h]
  show begL (L.take t ++ [L[t]]) = _
  rw [begL_app]
  congr 1
  unfold begL
  by_cases e : L[t].k = 4 ∧ L[t].b = 0
  · rw [if_pos e]; simp [e.1, e.2]
  · rw [if_neg e]
    have : (decide (L[t].k = 4) && decide (L[t].b = 0)) = false := by
      cases q : (decide (L[t].k = 4) && decide (L[t].b = 0))
      · rfl
      · exact absurd (by simpa using q) e
    simp [this]
theorem begL_len (L : List Lt) : (begL L).length ≤ L.length := by
  unfold begL
  rw [List.length_map]
  exact List.length_filter_le _ _
theorem oneI_cells (wr : World) (t : Int) : ∀ (i : Nat) (u : Value), [Value.int .i64 t][i]? = some u → (wr.alloc (Obj.cells #[.int .i64 t] 3)).cell? ((⟨wr.heap.size, 0, none⟩ : Addr).add i) = some u := by
  intro i u hi
  have : i = 0 := by
    have := (List.getElem?_eq_some_iff.1 hi).1
    simp at this
    omega
  subst this
  simp at hi
  subst hi
  simp [Addr.add]
theorem beg_step {w wr w1 : World} {B : Nat} {L : List Int} {x : Int} {v v' : Value} {o : Obj} {j : Nat} (hown : wr.ownsRow B 3 1 v j (ints L)) (hbel : Below B w wr)
    (hown' : w1.ownsRow B 3 1 v' (j + 1) (ints L ++ [.int .i64 x])) (hg : (wr.alloc o).grownBy w1 v.ownBlock) (hB : B ≤ wr.heap.size) :
    Hid (w1.ownsRow B 3 1 v' (j + 1) (ints (L ++ [x]))) ∧ Hid (Below B w w1) :=
  ⟨by rw [ints_append]; exact hown', (hbel.alloc hB o).grown hg (by simp; omega) (own_ge hown)⟩
set_option maxHeartbeats 4000000 in
theorem begun_c (v0 : Value) (b : Nat) (L : List Lt) (w : World) (h : ViewT w v0 b L) (hlL : L.length ≤ 1000) : Calls Tryd.prog 25 #[v0] w fun e w' => ∃ v n, e = .returned v ∧ w'.ownsRow w.heap.size 3 1 v n (ints (begL L)) ∧ Below w.heap.size w w' := by
  obtain ⟨i0, hi, hz0, hz1, hz2⟩ := info_parts infoI
  have hv := hide h
  obtain ⟨ao, cap, rfl, hlc, hmx, -⟩ := h
  have hmL : L.length ≤ 9223372036854775807 := by omega
  go_enter Tryd.func25, Tryd.ntmps25
  go_wp2_with fail
  go_loopw [3, 8] (fun v i wr => ∃ t m : Nat, t ≤ L.length ∧ i = .int .i64 t ∧ (begL (L.take t)).length = m ∧ wr.ownsRow w.heap.size 3 1 v m (ints (begL (L.take t))) ∧ Below w.heap.size w wr) (fun _ i _ => L.length - (intOf i).toNat)
  case atStart => exact ⟨0, 0, Nat.zero_le _, rfl, rfl, World.ownsRow_nil _ _ _ _, Below.refl _ _⟩
  case round =>
    obtain ⟨t, m, ht, rfl, hm, hown, hbel⟩ := hrel
    by_cases hlt : t < L.length
    · have hlt' : (t : Int) < L.length := by omega
      have hbt := begL_take hlt
      have hml : m ≤ 1000 := by
        have := begL_len (L.take t)
        rw [List.length_take] at this
        omega
      obtain ⟨o1, rfl, hgl, hra⟩ := lt_range (hv.out.below hbel) hlt
      obtain ⟨l, hl⟩ : ∃ l, L[t] = l := ⟨_, rfl⟩
      obtain ⟨M, hM⟩ : ∃ M, begL (L.take t) = M := ⟨_, rfl⟩
      rw [hl] at hra hbt
      rw [hM] at hown hbt hm
      replace hm := hide hm
      clear hl hM
      by_cases k4 : l.k = 4
      · obtain ⟨m1, m2, m3⟩ := cmpT k4
        by_cases kb : l.b = 0
        · obtain ⟨n1, n2, n3⟩ := cmpT kb
          rw [if_pos ⟨k4, kb⟩] at hbt
          replace hbt := hide hbt
          replace k4 := hide k4
          replace kb := hide kb
          go_upto_region 4 with fail
          go_step
          go_step
          go_step
          go_step
          refine wpList_load_mid (by rfl) _ _ (by rfl) b (o1 + t * 11) (by rfl) (ltC l) _ hra Tryd.underlying34 (by rfl) (by exact infoLt) ?_
          clear hra
          go_step
          go_step
          go_step
          refine wpList_store_new _ _ (by rfl) (by rfl) (by rfl) (by rfl) (by exact infoLt) (by rfl) (ltC_one l) ?_
          obtain ⟨V9, hV9⟩ : ∃ V, wr.alloc (.cells (ltC l).toArray 34) = V := ⟨_, rfl⟩
          have x9 : V9.heap[wr.heap.size]? = some (ltR l) := by rw [← hV9]; exact heap_alloc_new wr (ltR l)
          have b9 : Below wr.heap.size wr V9 := by rw [← hV9]; exact (Below.refl _ _).alloc (Nat.le_refl _) _
          have own9 := hown.alloc (.cells (ltC l).toArray 34)
          rw [hV9] at own9
          have hs9 : wr.heap.size < V9.heap.size := by rw [← hV9]; simp
          rw [hV9]
          clear hV9 hown
          have hbel9 : Below w.heap.size w V9 := hbel.trans (b9.mono hbel.size)
          have hsz9 := hbel9.size
          obtain ⟨l0, -, l2, -, -, l5, -, -, -, -, -⟩ := lt_at x9
          obtain ⟨kz, hkz⟩ : ∃ k, wr.heap.size = k := ⟨_, rfl⟩
          rw [hkz] at x9 l0 l2 l5 hs9 ⊢
          clear b9 hbel x9
          go_wp2_with (at_builtin; refine wpList_append_own _ rfl _ _ 53 rfl w.heap.size 3 i0 _ 1 8 Tryd.underlying53 hi hz0 hz1 hz2 rfl (by decide) _ _ _ rfl (own9.alloc _) ⟨V9.heap.size, 0, none⟩ 1 1 [.int .i64 l.w] rfl rfl (oneI_cells _ _) (fun u hu => by simp at hu; subst hu; rfl) (by unfold maxLen; omega) (by omega) (by simp; omega) ?_; intro v' w1 hown' hgrow _; have R := beg_step own9 hbel9 hown' hgrow (by omega); clear hown' hgrow own9 hbel9)
          go_roundw
          case rel => exact ⟨t + 1, m + 1, by omega, by simp, by rw [hbt.out, List.length_append, hm.out]; rfl, by rw [hbt.out]; exact R.1.out, R.2.out⟩
          case measure => simp [intOf]; omega
        · obtain ⟨n1, n2, n3⟩ := cmpF kb
          rw [if_neg (fun e => kb e.2), List.append_nil] at hbt
          replace hbt := hide hbt
          replace k4 := hide k4
          replace kb := hide kb
          go_upto_region 4 with fail
          go_step
          go_step
          go_step
          go_step
          refine wpList_load_mid (by rfl) _ _ (by rfl) b (o1 + t * 11) (by rfl) (ltC l) _ hra Tryd.underlying34 (by rfl) (by exact infoLt) ?_
          clear hra
          go_step
          go_step
          go_step
          refine wpList_store_new _ _ (by rfl) (by rfl) (by rfl) (by rfl) (by exact infoLt) (by rfl) (ltC_one l) ?_
          obtain ⟨V9, hV9⟩ : ∃ V, wr.alloc (.cells (ltC l).toArray 34) = V := ⟨_, rfl⟩
          have x9 : V9.heap[wr.heap.size]? = some (ltR l) := by rw [← hV9]; exact heap_alloc_new wr (ltR l)
          have b9 : Below wr.heap.size wr V9 := by rw [← hV9]; exact (Below.refl _ _).alloc (Nat.le_refl _) _
          have own9 := hown.alloc (.cells (ltC l).toArray 34)
          rw [hV9] at own9
          have hs9 : wr.heap.size < V9.heap.size := by rw [← hV9]; simp
          rw [hV9]
          clear hV9 hown
          have hbel9 : Below w.heap.size w V9 := hbel.trans (b9.mono hbel.size)
          have hsz9 := hbel9.size
          obtain ⟨l0, -, l2, -, -, l5, -, -, -, -, -⟩ := lt_at x9
          obtain ⟨kz, hkz⟩ : ∃ k, wr.heap.size = k := ⟨_, rfl⟩
          rw [hkz] at x9 l0 l2 l5 hs9 ⊢
          clear b9 hbel x9
          go_wp2_with fail
          go_roundw
          case rel => exact ⟨t + 1, m, by omega, by simp, by rw [hbt.out]; exact hm.out, by rw [hbt.out]; exact own9, hbel9⟩
          case measure => simp [intOf]; omega
      · obtain ⟨m1, m2, m3⟩ := cmpF k4
        rw [if_neg (fun e => k4 e.1), List.append_nil] at hbt
        replace hbt := hide hbt
        replace k4 := hide k4
        go_upto_region 4 with fail
        go_step
        go_step
        go_step
        go_step
        refine wpList_load_mid (by rfl) _ _ (by rfl) b (o1 + t * 11) (by rfl) (ltC l) _ hra Tryd.underlying34 (by rfl) (by exact infoLt) ?_
        clear hra
        go_step
        go_step
        go_step
        refine wpList_store_new _ _ (by rfl) (by rfl) (by rfl) (by rfl) (by exact infoLt) (by rfl) (ltC_one l) ?_
        obtain ⟨V9, hV9⟩ : ∃ V, wr.alloc (.cells (ltC l).toArray 34) = V := ⟨_, rfl⟩
        have x9 : V9.heap[wr.heap.size]? = some (ltR l) := by rw [← hV9]; exact heap_alloc_new wr (ltR l)
        have b9 : Below wr.heap.size wr V9 := by rw [← hV9]; exact (Below.refl _ _).alloc (Nat.le_refl _) _
        have own9 := hown.alloc (.cells (ltC l).toArray 34)
        rw [hV9] at own9
        have hs9 : wr.heap.size < V9.heap.size := by rw [← hV9]; simp
        rw [hV9]
        clear hV9 hown
        have hbel9 : Below w.heap.size w V9 := hbel.trans (b9.mono hbel.size)
        have hsz9 := hbel9.size
        obtain ⟨l0, -, l2, -, -, l5, -, -, -, -, -⟩ := lt_at x9
        obtain ⟨kz, hkz⟩ : ∃ k, wr.heap.size = k := ⟨_, rfl⟩
        rw [hkz] at x9 l0 l2 l5 hs9 ⊢
        clear b9 hbel x9
        go_wp2_with fail
        go_roundw
        case rel => exact ⟨t + 1, m, by omega, by simp, by rw [hbt.out]; exact hm.out, by rw [hbt.out]; exact own9, hbel9⟩
        case measure => simp [intOf]; omega
    · obtain rfl : t = L.length := by omega
      rw [List.take_length] at hown
      go_wp2_with fail
      go_ret
      exact ⟨_, m, rfl, hown, hbel⟩
end Go.Proofs.YtmgjgeaigdiadaaDoor
