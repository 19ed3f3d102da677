/- layer 16: LtBox CfAt SameT LinJ, put together. -/
import Derived.Test.YtmgjgeaigdiadaaDoorB09
import Derived.Test.YtmgjgeaigdiadaaDoorB11
import Derived.BigQuiet
namespace Go.Proofs.YtmgjgeaigdiadaaDoor
open Go.ChangeShapes Go.WideShapes Go.ChangeAt Go.RowKit
set_option linter.unusedSimpArgs false
set_option linter.unusedVariables false
set_option maxRecDepth 10000
attribute [local go_sem, local simp] over_const setCell_drewN alloc_drewN Over.cell Over.frozen lt_s1 lt_s2 lt_s3 le_s0 le_s1 le_s2 le_s3 eq_s0 eq_s1 eq_s2 qe_s0
theorem cmpT {a b : Int} (h : a = b) : decide (a = b) = true ∧ (a == b) = true ∧ (a != b) = false := by subst h; simp
theorem cmpF {a b : Int} (h : ¬ a = b) : decide (a = b) = false ∧ (a == b) = false ∧ (a != b) = true := by simp [h]
abbrev ltR (l : Lt) : Obj := .cells #[.int .i64 l.k, .int .i64 l.a, .int .i64 l.b, .int .i64 l.q, .int .i64 l.s, .int .i64 l.w, .bool l.r, .int .i64 l.n, .bool l.o, .bool l.h, .int .i64 l.d] 34
abbrev dwR (d0 d1 d2 : Int) : Obj := .cells #[.int .i64 d0, .int .i64 d1, .int .i64 d2] 56
abbrev bunR (x : Bun) : Obj := .cells #[.int .i64 x.n, .bool x.o, .bool x.h, .int .i64 x.d] 32
structure LtAt (w : World) (k : Nat) (l : Lt) : Prop where
  c0 : w.cell? ⟨k, 0, none⟩ = some (.int .i64 l.k)
  c1 : w.cell? ⟨k, 1, none⟩ = some (.int .i64 l.a)
  c2 : w.cell? ⟨k, 2, none⟩ = some (.int .i64 l.b)
  c3 : w.cell? ⟨k, 3, none⟩ = some (.int .i64 l.q)
  c4 : w.cell? ⟨k, 4, none⟩ = some (.int .i64 l.s)
  c5 : w.cell? ⟨k, 5, none⟩ = some (.int .i64 l.w)
  c6 : w.cell? ⟨k, 6, none⟩ = some (.bool l.r)
  c7 : w.cell? ⟨k, 7, none⟩ = some (.int .i64 l.n)
  c8 : w.cell? ⟨k, 8, none⟩ = some (.bool l.o)
  c9 : w.cell? ⟨k, 9, none⟩ = some (.bool l.h)
  c10 : w.cell? ⟨k, 10, none⟩ = some (.int .i64 l.d)
theorem lt_at {w : World} {k : Nat} {l : Lt} (h : w.heap[k]? = some (ltR l)) : LtAt w k l :=
  ⟨cell_of_row _ _ _ _ _ _ h, cell_of_row _ _ _ _ _ _ h, cell_of_row _ _ _ _ _ _ h, cell_of_row _ _ _ _ _ _ h, cell_of_row _ _ _ _ _ _ h, cell_of_row _ _ _ _ _ _ h, cell_of_row _ _ _ _ _ _ h, cell_of_row _ _ _ _ _ _ h, cell_of_row _ _ _ _ _ _ h, cell_of_row _ _ _ _ _ _ h, cell_of_row _ _ _ _ _ _ h⟩
theorem own_oneT (w : World) (l : Lt) : OwnT (w.alloc (.cells #[.int .i64 l.k, .int .i64 l.a, .int .i64 l.b, .int .i64 l.q, .int .i64 l.s, .int .i64 l.w, .bool l.r, .int .i64 l.n, .bool l.o, .bool l.h, .int .i64 l.d] 34)) (.slice (some ⟨w.heap.size, 0, none⟩) 1 1) w.heap.size [l] := by
  obtain ⟨_, _, e, h1, h2, h3⟩ := view_oneT w l
  cases e
  rcases h3 with h3 | ⟨o, e2, h4, h5⟩
  · cases h3
  · cases e2
    refine ⟨_, 1, rfl, Nat.le_refl _, h2, h4, .inr ⟨0, rfl, h5, fun j hj => ⟨?_, frozen_of_row _ _ _ _ _ (heap_alloc_new w _)⟩⟩⟩
    rw [h5 j hj, List.getElem?_eq_getElem (by rw [flatLt_length]; exact hj)]
    rfl
theorem keepF {F F' : Nat → Prop} {w w' : World} (h : Step F F' w w') {b : Nat} {o : Option Obj} (hb : ¬ F b) (hl : b < w.heap.size) (e : w.heap[b]? = o) : w'.heap[b]? = o := (h.keep hb hl).1.trans e
theorem Step.setNew {F F' : Nat → Prop} {w w2 : World} (h : Step F F' w w2) {R : Nat} (hR : w.heap.size ≤ R) (i : Nat) (u : Value) : Step F F' w (w2.setCell ⟨R, i, none⟩ u) := ⟨h.fr.setCell (q := ⟨R, i, none⟩) (.inr hR) u, h.new⟩
def Bz (w V : World) (F : Nat → Prop) (K : List (Nat × Obj)) : Prop := ∀ x ∈ K, w.heap.size ≤ x.1 ∧ x.1 < V.heap.size ∧ ¬ F x.1 ∧ V.heap[x.1]? = some x.2
theorem Bz.step {w V V' : World} {F F' : Nat → Prop} {K : List (Nat × Obj)} (h : Bz w V F K) (s : Step F F' V V') : Bz w V' F' K := fun x hx => by
  obtain ⟨h1, h2, h3, h4⟩ := h x hx
  exact ⟨h1, (s.keep h3 h2).2.2, (s.keep h3 h2).2.1, keepF s h3 h2 h4⟩
theorem bz_get {w V : World} {F : Nat → Prop} {K : List (Nat × Obj)} (h : Bz w V F K) {k : Nat} {o : Obj} (hk : (k, o) ∈ K) : k < V.heap.size ∧ V.heap[k]? = some o := ⟨(h _ hk).2.1, (h _ hk).2.2.2⟩
abbrev cfR (c : Cf) : Obj := .cells (cfA c) 23 (0, 0)
theorem cf_at {w : World} {k : Nat} {c : Cf} (h : w.heap[k]? = some (cfR c)) : w.cell? ⟨k, 0, none⟩ = some (.int .i64 c.n) ∧ w.cell? ⟨k, 1, none⟩ = some (.int .i64 c.bl) ∧ w.cell? ⟨k, 2, none⟩ = some (.int .i64 c.tt) ∧ w.cell? ⟨k, 3, none⟩ = some (.int .i64 c.cs) ∧ w.cell? ⟨k, 4, none⟩ = some (.int .i64 c.cy) ∧ w.cell? ⟨k, 5, none⟩ = some (.int .i64 c.cc) ∧ w.cell? ⟨k, 6, none⟩ = some (.int .i64 c.cu) ∧ w.cell? ⟨k, 7, none⟩ = some (.int .i64 c.ct) ∧ w.cell? ⟨k, 8, none⟩ = some (.int .i64 c.cp) :=
  ⟨cell_of_row _ _ _ _ _ _ h, cell_of_row _ _ _ _ _ _ h, cell_of_row _ _ _ _ _ _ h, cell_of_row _ _ _ _ _ _ h, cell_of_row _ _ _ _ _ _ h, cell_of_row _ _ _ _ _ _ h, cell_of_row _ _ _ _ _ _ h, cell_of_row _ _ _ _ _ _ h, cell_of_row _ _ _ _ _ _ h⟩
theorem clamp_same {x a b : Int} (h1 : a ≤ x) (h2 : x ≤ b) : clampZ x a b = x := by unfold clampZ; (repeat' split) <;> omega
set_option maxHeartbeats 2000000 in
theorem sameT_c (v1 v2 : Value) (b1 b2 : Nat) (L : List Lt) (w : World) (h1 : ViewT w v1 b1 L) (h2 : ViewT w v2 b2 L) : Calls Tryd.prog 12 #[v1, v2] w fun e w' => e = .returned (.bool true) ∧ ∃ n, w' = w.drewN n := by
  obtain ⟨ao1, cap1, rfl, -⟩ := id h1
  obtain ⟨ao2, cap2, rfl, -⟩ := id h2
  obtain ⟨-, hl1, hm1, hc1⟩ := view_atT h1 rfl
  obtain ⟨-, hl2, hm2, hc2⟩ := view_atT h2 rfl
  have hC1 := hide hc1
  have hC2 := hide hc2
  have hmx : L.length ≤ 9223372036854775807 := by unfold maxLen at hm1; omega
  clear hc1 hc2 h1 h2
  go_enter Tryd.func12, Tryd.ntmps12
  go_wp2_with fail
  go_loopw [5] (fun i wr => ∃ j : Nat, j ≤ L.length ∧ i = .int .i64 j ∧ ∃ n, wr = w.drewN n) (fun i _ => L.length - (intOf i).toNat)
  case atStart => exact ⟨0, Nat.zero_le _, rfl, 0, rfl⟩
  case round =>
    obtain ⟨j, hj, rfl, n, rfl⟩ := hrel
    by_cases hlt : j < L.length
    · obtain ⟨o1, rfl, g1, k1⟩ := unhide hC1 j hlt
      obtain ⟨o2, rfl, g2, k2⟩ := unhide hC2 j hlt
      obtain ⟨l, hl⟩ : ∃ l, L[j] = l := ⟨_, rfl⟩
      rw [hl] at k1 k2
      obtain ⟨d0, d1, d2, d3, d4, d5, d6, d7, d8, d9, d10⟩ := k1
      obtain ⟨f0, f1, f2, f3, f4, f5, f6, f7, f8, f9, f10⟩ := k2
      have hlt' : (j : Int) < L.length := by omega
      clear hC1 hC2 hl
      go_wp2_with fail
      go_quiet (fail)
      go_wp2_with fail
      all_goals
        go_roundw
        case rel => exact ⟨j + 1, by omega, by simp, _, rfl⟩
        case measure => simp [intOf]; omega
    · obtain rfl : j = L.length := by omega
      clear hC1 hC2
      go_wp2_with fail
      go_ret
      exact ⟨rfl, n, rfl⟩
theorem list_ne_at {L M : List Int} (hl : L.length = M.length) {j : Nat} (h1 : j < L.length) (h2 : j < M.length) (h : L[j] ≠ M[j]) : L ≠ M := by
  rintro rfl
  exact h rfl
theorem list_eq_at {L M : List Int} (hl : L.length = M.length) (h : ∀ j (h1 : j < L.length) (h2 : j < M.length), L[j] = M[j]) : L = M := List.ext_getElem hl h
set_option maxHeartbeats 1000000 in
theorem ints_c (v u : Value) (b b' : Nat) (L M : List Int) (w : World) (hv : View w v b L) (hu : View w u b' M) : Calls Tryd.prog 19 #[v, u] w fun e w' => e = .returned (.bool (decide (L = M))) ∧ ∃ n, w' = w.drewN n := by
  have hV := hide hv
  have hU := hide hu
  obtain ⟨ao, cap, rfl, h1, h2, h3⟩ := hv
  obtain ⟨ao', cap', rfl, h1', h2', h3'⟩ := hu
  clear h3 h3'
  have hmx : L.length ≤ 9223372036854775807 := by unfold maxLen at h2; omega
  clear h2 h2'
  by_cases hl : L.length = M.length
  · obtain ⟨q, hq⟩ : ∃ q, Hid (decide (L = M) = q) := ⟨_, rfl⟩
    rw [hq.out]
    rw [← hl] at hU ⊢
    have hl' := hide hl
    clear hl
    go_enter Tryd.func19, Tryd.ntmps19
    go_wp2_with fail
    go_loopw [5] (fun i wr => ∃ j n : Nat, j ≤ L.length ∧ i = .int .i64 j ∧ wr = w.drewN n ∧ Hid (∀ i (h1 : i < L.length) (h2 : i < M.length), i < j → L[i] = M[i])) (fun i _ => L.length - (intOf i).toNat)
    case atStart => exact ⟨0, 0, Nat.zero_le _, rfl, rfl, fun i _ _ h => absurd h (Nat.not_lt_zero _)⟩
    case round =>
      obtain ⟨j, n, hj, rfl, rfl, ha⟩ := hrel
      by_cases hlt : j < L.length
      · have hlt2 : j < M.length := by rw [← unhide hl']; exact hlt
        obtain ⟨-, -, -, hc⟩ := view_at (unhide hV) rfl
        obtain ⟨o, rfl, hb, hcell⟩ := hc j hlt
        obtain ⟨-, -, -, hc'⟩ := view_at (unhide hU) rfl
        obtain ⟨o', rfl, hb', hcell'⟩ := hc' j hlt2
        obtain ⟨y, hy⟩ : ∃ y, L[j] = y := ⟨_, rfl⟩
        obtain ⟨z, hz⟩ : ∃ z, M[j] = z := ⟨_, rfl⟩
        rw [hy] at hcell
        rw [hz] at hcell'
        have hlt' : (j : Int) < L.length := by omega
        have hy' := hide hy
        have hz' := hide hz
        clear hc hc' hy hz
        by_cases c : y = z
        · subst c
          go_wp2_with fail
          refine wp_region_noPanic ?_
          refine wp_region_held_drew (S := fun w' => w'.cell? ⟨b, o + j, none⟩ = some (.int .i64 y) ∧ w'.cell? ⟨b', o' + j, none⟩ = some (.int .i64 y)) (by kernel_rfl) ?_ (fun hHeld => ?_)
          · exact ⟨hcell, hcell'⟩
          obtain ⟨w0, hw0⟩ : ∃ w0, (w.drewN n).drew = w0 := ⟨_, rfl⟩
          rw [hw0] at hHeld ⊢
          have hw1 : Hid (w0 = w.drewN (n + 1)) := by rw [← hw0]; exact rfl
          clear hw0
          refine hTk 0 17 hHeld ?_
          refine hTk 1 18 hHeld ?_
          refine hTk 2 19 hHeld ?_
          refine hTk 3 20 hHeld ?_
          refine hTk 4 21 hHeld ?_
          refine hTk 5 22 hHeld ?_
          refine hTk 6 23 hHeld ?_
          refine hTk 7 24 hHeld ?_
          refine hTk 8 25 hHeld ?_
          refine wpAnyH_done (by kernel_rfl) (NoPanic.normal ?_) _
          clear hHeld
          go_wp2_with fail
          go_roundw
          case rel =>
            refine ⟨j + 1, n + 1, by omega, by simp, unhide hw1, fun i h1 h2 h => ?_⟩
            by_cases e : i = j
            · subst e; rw [unhide hy', unhide hz']
            · exact ha.out i h1 h2 (by omega)
          case measure => simp [intOf]; omega
        · obtain rfl : q = false := by rw [← hq.out]; simpa using list_ne_at (unhide hl') hlt hlt2 (by rw [unhide hy', unhide hz']; exact c)
          go_wp2_with fail
          refine wp_region_noPanic ?_
          refine wp_region_held_drew (S := fun w' => w'.cell? ⟨b, o + j, none⟩ = some (.int .i64 y) ∧ w'.cell? ⟨b', o' + j, none⟩ = some (.int .i64 z)) (by kernel_rfl) ?_ (fun hHeld => ?_)
          · exact ⟨hcell, hcell'⟩
          obtain ⟨w0, hw0⟩ : ∃ w0, (w.drewN n).drew = w0 := ⟨_, rfl⟩
          rw [hw0] at hHeld ⊢
          have hw1 : Hid (w0 = w.drewN (n + 1)) := by rw [← hw0]; exact rfl
          clear hw0
          refine hTk 0 17 hHeld ?_
          refine hTk 1 18 hHeld ?_
          refine hTk 2 19 hHeld ?_
          refine hTk 3 20 hHeld ?_
          refine hTk 4 21 hHeld ?_
          refine hTk 5 22 hHeld ?_
          refine hTk 6 23 hHeld ?_
          refine hTk 7 24 hHeld ?_
          refine hTk 8 25 hHeld ?_
          refine wpAnyH_done (by kernel_rfl) (NoPanic.normal ?_) _
          clear hHeld
          go_wp2_with fail
          go_ret
          exact ⟨rfl, n + 1, unhide hw1⟩
      · obtain rfl : j = L.length := by omega
        obtain rfl : q = true := by rw [← hq.out]; simpa using list_eq_at (unhide hl') (fun i h1 h2 => ha.out i h1 h2 h1)
        clear ha
        go_wp2_with fail
        go_ret
        exact ⟨rfl, _, rfl⟩
  · have e : decide (L = M) = false := by simpa using fun e : L = M => hl (by rw [e])
    rw [e]
    have hl2 : ¬ (L.length : Int) = M.length := by omega
    go_enter Tryd.func19, Tryd.ntmps19
    go_wp2_with fail
    go_ret
    exact ⟨rfl, 0, rfl⟩
end Go.Proofs.YtmgjgeaigdiadaaDoor
