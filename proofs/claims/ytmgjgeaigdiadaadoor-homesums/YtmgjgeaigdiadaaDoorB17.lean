/- layer 16: Spread, put together. -/
import Derived.Test.YtmgjgeaigdiadaaDoorRows
import Derived.Test.YtmgjgeaigdiadaaDoorB02
import Derived.Test.YtmgjgeaigdiadaaDoorB04
namespace Go.Proofs.YtmgjgeaigdiadaaDoor
open Go.ChangeShapes Go.WideShapes Go.ChangeAt Go.RowKit
set_option linter.unusedSimpArgs false
set_option linter.unusedVariables false
set_option maxRecDepth 10000
attribute [local go_sem, local simp] over_const setCell_drewN alloc_drewN Over.cell Over.frozen lt_s1 lt_s2 lt_s3 le_s0 le_s1 le_s2 le_s3 eq_s0 eq_s1 eq_s2 qe_s0
def letC (k a q s h : Int) (i : Nat) : List Value := [.int .i64 k, .int .i64 a, .int .i64 i, .int .i64 q, .int .i64 s, .int .i64 h, .bool false, .int .i64 0, .bool false, .bool false, .int .i64 0]
def letsC (k a q s h : Int) (j : Nat) : List Value := (List.range j).flatMap (letC k a q s h)
theorem letsC_succ (k a q s h : Int) (j : Nat) : letsC k a q s h (j + 1) = letsC k a q s h j ++ letC k a q s h j := by
  simp [letsC, List.range_succ]
theorem letsC_length (k a q s h : Int) (j : Nat) : (letsC k a q s h j).length = j * 11 := by
  induction j with
  | zero => rfl
  | succ j ih => rw [letsC_succ, List.length_append, ih]; simp [letC]; omega
theorem letsC_at (k a q s h : Int) {j i c : Nat} (hi : i < j) (hc : c < 11) : (letsC k a q s h j)[i * 11 + c]? = (letC k a q s h i)[c]? := by
  induction j with
  | zero => omega
  | succ j ih =>
    rw [letsC_succ]
    by_cases e : i = j
    · subst e
      rw [List.getElem?_append_right (by rw [letsC_length]; omega), letsC_length]
      congr 1
      omega
    · rw [List.getElem?_append_left (by rw [letsC_length]; omega)]
      exact ih (by omega)
theorem infoL : (Tryd.prog.info? 34).map (fun i => (i.zero, i.size, i.bytes)) = some (some (.agg #[.int .i64 0, .int .i64 0, .int .i64 0, .int .i64 0, .int .i64 0, .int .i64 0, .bool false, .int .i64 0, .bool false, .bool false, .int .i64 0]), 11, 80) := by kernel_rfl
theorem letC_cells (wr : World) (k a q s h : Int) (j : Nat) : ∀ (i : Nat) (u : Value), (letC k a q s h j)[i]? = some u → (wr.alloc (Obj.cells #[.int .i64 k, .int .i64 a, .int .i64 j, .int .i64 q, .int .i64 s, .int .i64 h, .bool false, .int .i64 0, .bool false, .bool false, .int .i64 0] 34)).cell? ((⟨wr.heap.size, 0, none⟩ : Addr).add i) = some u := by
  intro i u hi
  have hl : i < 11 := by simpa [letC] using (List.getElem?_eq_some_iff.1 hi).1
  match i, hl, hi with
  | 0, _, hi | 1, _, hi | 2, _, hi | 3, _, hi | 4, _, hi | 5, _, hi | 6, _, hi | 7, _, hi | 8, _, hi | 9, _, hi | 10, _, hi => simp [letC] at hi; subst hi; simp [Addr.add]
theorem letC_one (k a q s h : Int) (j : Nat) : ∀ u ∈ letC k a q s h j, u.oneCell' = true := by
  intro u hu
  simp [letC] at hu
  rcases hu with rfl | rfl | rfl | rfl | rfl | rfl | rfl | rfl | rfl | rfl | rfl <;> rfl
theorem own_ge {w : World} {base e size n : Nat} {v : Value} {xs : List Value} (h : w.ownsRow base e size v n xs) : ∀ k, v.ownBlock = some k → base ≤ k := by
  intro k hk
  rcases h.2 with ⟨rfl, _⟩ | ⟨g, cap, cur, rfl, hg, _⟩
  · simp [Value.ownBlock] at hk
  · simp [Value.ownBlock] at hk; omega
theorem spread_step {w wr w1 : World} {k a q s h : Int} {j : Nat} {v v' : Value} {o : Obj} (hown : wr.ownsRow w.heap.size 34 11 v j (letsC k a q s h j)) (hbel : Below w.heap.size w wr)
    (hown' : w1.ownsRow w.heap.size 34 11 v' (j + 1) (letsC k a q s h j ++ letC k a q s h j)) (hg : (wr.alloc o).grownBy w1 v.ownBlock) :
    Hid (w1.ownsRow w.heap.size 34 11 v' (j + 1) (letsC k a q s h (j + 1))) ∧ Hid (Below w.heap.size w w1) :=
  ⟨by rw [letsC_succ]; exact hown', (hbel.alloc hbel.size o).grown hg (by have := hbel.size; simp; omega) (own_ge hown)⟩
set_option maxHeartbeats 2000000 in
theorem spread_c (k a q s h m : Int) (w : World) (N : Nat) (hN : Hid ((min m 64).toNat = N)) :
    Calls Tryd.prog 97 #[.int .i64 k, .int .i64 a, .int .i64 q, .int .i64 s, .int .i64 h, .int .i64 m] w fun e w' =>
      ∃ v, e = .returned v ∧ w'.ownsRow w.heap.size 34 11 v N (letsC k a q s h N) ∧ Below w.heap.size w w' := by
  obtain ⟨i0, hi, hz0, hz1, hz2⟩ := info_parts infoL
  have hN' := unhide hN
  have hN64 : N ≤ 64 := by omega
  clear hN
  have hB : Below w.heap.size w w := Below.refl _ _
  by_cases c : 64 < m
  all_goals
    have hb : N = 64 ∧ 64 < m ∨ N = m.toNat ∧ m ≤ 64 := by omega
    clear hN'
    go_enter Tryd.func97, Tryd.ntmps97
    go_wp2_with fail
    go_loopw [13, 17] (fun v i wr => ∃ j : Nat, j ≤ N ∧ i = .int .i64 j ∧ wr.ownsRow w.heap.size 34 11 v j (letsC k a q s h j) ∧ Below w.heap.size w wr) (fun _ i _ => N - (intOf i).toNat)
    case atStart => exact ⟨0, Nat.zero_le _, rfl, World.ownsRow_nil _ _ _ _, hB⟩
    case round =>
      obtain ⟨j, hj, rfl, hown, hbel⟩ := hrel
      have hsz := hbel.size
      go_wp2_with (at_builtin; refine wpList_append_own _ rfl _ _ 39 rfl w.heap.size 34 i0 _ 11 80 Tryd.underlying39 hi hz0 hz1 hz2 rfl (by decide) _ _ _ rfl (hown.alloc _) ⟨wr.heap.size, 0, none⟩ 1 1 (letC k a q s h j) rfl rfl (letC_cells _ _ _ _ _ _ _) (letC_one _ _ _ _ _ _) (by unfold maxLen; omega) (by omega) (by simp; omega) ?_; intro v' w1 hown' hgrow _; have R := spread_step hown hbel hown' hgrow; clear hown' hgrow hown hbel)
      · go_roundw
        case rel => exact ⟨j + 1, by omega, by simp, R.1, R.2⟩
        case measure => simp [intOf]; omega
      · obtain rfl : j = N := by omega
        go_ret
        exact ⟨_, rfl, hown, hbel⟩
end Go.Proofs.YtmgjgeaigdiadaaDoor
