/- The contract of New (layer 12). -/
import Derived.Test.YtlfdahcbkdiifaaArbC
namespace Go.Proofs.Ytlfdahcbkdiifaa
open Go.ChangeShapes Go.WideShapes Go.ChangeAt Go.RowKit
set_option linter.unusedSimpArgs false
set_option linter.unusedVariables false
set_option maxRecDepth 10000

attribute [local go_sem, local simp] over_const setCell_drewN alloc_drewN Over.cell Over.frozen lt_s1 lt_s2 lt_s3 le_s0 le_s1 le_s2 le_s3 eq_s0 eq_s1 eq_s2 qe_s0

/-- A row's cells at first. -/
def zcQ : List Value := [.int .i64 0, .int .i64 0, .int .i64 0, .int .i64 0] ++ mkM noM ++ [.slice none 0 0]
theorem zcQ_len : zcQ.length = 69 := by simp [zcQ, mkM_len]
theorem infoQ : (Try.prog.info? 61).map (fun i => (i.zero, i.size, i.bytes)) = some (some (.agg zcQ.toArray), 69, 120) := by kernel_rfl
/-- An arbiter's cells. -/
def arbC (f : Nat → Bool) (v : Value) : Array Value := (mkM f ++ [v]).toArray

theorem build_arb (w : World) (ad : Option Addr) (n c : Nat) : (Instr.build 57 #[(1, .slice ad n c)]).run Try.prog w = .ok (.agg (arbC noM (.slice ad n c))) w := by kernel_rfl
theorem build_arb2 (w : World) (f : Nat → Bool) (ad : Option Addr) (n c : Nat) : (Instr.build 57 #[(0, .agg (mkM f).toArray), (1, .slice ad n c)]).run Try.prog w = .ok (.agg (arbC f (.slice ad n c))) w := by kernel_rfl

theorem zcQ_mid {j : Nat} (hj : j < 64) : zcQ[4 + j]? = (mkM noM)[j]? := by
  unfold zcQ
  rw [List.append_assoc, List.getElem?_append_right (by simp), List.getElem?_append_left (by rw [mkM_len]; simp; omega)]
  simp
theorem row_made {w : World} {g k : Nat} {C : Array Value} {ty : TypeId} (hb : w.heap[g]? = some (.cells C ty (0, 0))) (hC : ∀ c, c < 69 → C[k * 69 + c]? = zcQ[c]?) : RowAt w g (k * 69) k rq0 none := by
  have hc : ∀ c, c < 69 → w.cell? ⟨g, k * 69 + c, none⟩ = zcQ[c]? := fun c h => (cell_of_row _ _ _ _ _ _ hb).trans (hC c h)
  have hk : mkM (knM rq0) = mkM noM := mkM_ext (fun i _ => by simp [knM])
  refine ⟨⟨hc 0 (by omega), hc 1 (by omega), hc 2 (by omega), hc 3 (by omega), fun j v hv => ?_, fun j hj => ⟨?_, frozen_of_row _ _ _ _ _ hb⟩⟩, .slice none 0 0, ?_, rfl, rfl⟩
  · have hj : j < 64 := by have := (List.getElem?_eq_some_iff.1 hv).1; rwa [mkM_len] at this
    rw [Nat.add_assoc, hc (4 + j) (by omega), zcQ_mid hj, ← hk]
    exact hv
  · rw [hc j hj, List.getElem?_eq_getElem (by rw [zcQ_len]; exact hj)]; rfl
  · rw [hc 68 (by omega)]; unfold zcQ; rw [List.getElem?_append_right (by simp [mkM_len])]; simp [mkM_len]

theorem madeQ_at (n k c : Nat) (hk : k < n) (hc : c < 69) : (madeCells (Value.agg zcQ.toArray).cells (n * 69))[k * 69 + c]? = zcQ[c]? := by
  have hl := zcQ_len
  simp only [madeCells, Value.cells]
  rw [Array.getElem?_map, Array.getElem?_range, if_pos (by omega)]
  simp only [Option.map_some, List.size_toArray, hl]
  rw [show (k * 69 + c) % 69 = c by omega, List.getElem?_eq_getElem (by omega)]
  simp [hl, hc]

abbrev slQ (g n : Nat) : Value := .slice (some ⟨g, 0, none⟩) n n
section
variable {w : World} {ops : Array Oper} {rest : List Oper} {o : Oper} {a : Act} {Q : Exit → Act → World → Prop}
theorem wpList_makeQ (hg : o.guard = none) (l c : Operand) (hop : o.op = Op.makeSlice 53 l c) (n : Nat) (hl : a.eval l = .int .i64 (n : Int)) (hc : a.eval c = .int .i64 (n : Int)) (hn : n ≤ 64)
    (hK : ∀ w', (∀ k, k < n → RowAt w' w.heap.size (k * 69) k rq0 none) → Below w.heap.size w w' → w'.heap.size = w.heap.size + 1 → wpList Try.prog ops Q rest (a.put o.dst (slQ w.heap.size n)) w') : wpList Try.prog ops Q (o :: rest) a w := by
  refine wpList_plain hg fun K hK' => ?_
  obtain ⟨i, hi, hz0, hz1, hz2⟩ := info_parts infoQ
  have hrun := run_make (P := Try.prog) w 53 _ i _ Try.underlying53 hi hz0 .i64 .i64 n n (by omega) (Int.le_refl _) (by rw [hz2]; omega) (by omega)
  simp only [Int.toNat_natCast, hz1] at hrun
  unfold Oper.wp
  simp [execOp, hop, hl, hc, hrun, Result.andThen]
  exact hK' _ _ (hK _ (fun k hk => row_made (heap_alloc_new w _) (fun c h => madeQ_at n k c hk h)) ((Below.refl _ _).alloc (Nat.le_refl _) _) (by simp))
theorem wpList_buildA (hgd : o.guard = none) (x : Operand) (ho : o.op = .build 57 #[(1, x)]) {ad : Option Addr} {n c : Nat} (hx : a.eval x = .slice ad n c) (h : wpList Try.prog ops Q rest (a.put o.dst (.agg (arbC noM (.slice ad n c)))) w) : wpList Try.prog ops Q (o :: rest) a w :=
  wpList_plain hgd fun K hK => by
    unfold Oper.wp execOp
    simp only [ho, hx, Sem.run_bind, Sem.run_pure, Result.andThen_ok, List.map_toArray, List.map_nil, List.map_cons, build_arb]
    exact hK _ _ h
end

theorem arbC_size (f : Nat → Bool) (v : Value) : (arbC f v).size = 65 := by simp [arbC, mkM_len]
theorem arbC_at (f : Nat → Bool) (v : Value) {i : Nat} (h : i < 64) : (arbC f v)[i]? = some (.bool (f i)) := by
  unfold arbC
  rw [List.getElem?_toArray, List.getElem?_append_left (by rw [mkM_len]; exact h), mkM_at _ h]
theorem arbC_last (f : Nat → Bool) (v : Value) : (arbC f v)[64]? = some v := by
  unfold arbC
  rw [List.getElem?_toArray, List.getElem?_append_right (by rw [mkM_len]; exact Nat.le_refl _), mkM_len]
  rfl
theorem arbC_set (v : Value) {j : Nat} (hj : j < 64) : (arbC (ndM j) v).setIfInBounds j (.bool true) = arbC (ndM (j + 1)) v := by
  apply Array.ext_getElem?
  intro i
  rw [Array.getElem?_setIfInBounds]
  by_cases c : j = i
  · subst c
    rw [if_pos rfl, if_pos (by rw [arbC_size]; omega), arbC_at _ _ hj]
    simp [ndM]
  · rw [if_neg c]
    by_cases h1 : i < 64
    · rw [arbC_at _ _ h1, arbC_at _ _ h1]
      have : (i < j + 1) ↔ i < j := by omega
      simp [ndM, this]
    · by_cases h2 : i = 64
      · subst h2; rw [arbC_last, arbC_last]
      · rw [Array.getElem?_eq_none (by rw [arbC_size]; omega), Array.getElem?_eq_none (by rw [arbC_size]; omega)]

/-- How many there are. -/
def szQ (x : Int) : Nat := if x < 0 then 0 else if 64 < x then 64 else x.toNat
theorem szQ_le (x : Int) : szQ x ≤ 64 := by unfold szQ; split; omega; split <;> omega

/-- A new one, off its cells. -/
theorem ar_new {w : World} {p g K n cap : Nat} (hn : n ≤ 64) (hK : K ≤ 64) (hcap : n ≤ cap) (hcm : cap ≤ maxLen) (hp : w.heap[p]? = some (.cells (arbC (ndM K) (.slice (some ⟨g, 0, none⟩) n cap)) 57 (0, 0))) (hne : p ≠ g) (hg : g < w.heap.size) (hr : ∀ k, k < n → RowAt w g (k * 69) k rq0 none) :
    ArIs w p g K 0 (List.replicate n rq0) (· = g) := by
  refine ⟨hK, by simpa using hn, linv_rep _ _ _, ⟨cap, ?_, by simpa using hcap, hcm⟩, hg, rfl, hne, fun b hb => hb ▸ hg, fun _ => none, fun k b _ h => (by cases h), fun i j b _ _ h => (by cases h), fun k hk => ?_⟩
  · rw [List.length_replicate]; exact hp
  · rw [List.getElem_replicate]; exact hr k (by simpa using hk)

theorem ndM_zero : ndM 0 = noM := by funext i; simp [ndM]
/-- Within New. -/
structure NewMid (w w1 wr : World) (p g n j : Nat) : Prop where
  hp : wr.heap[p]? = some (.cells (arbC (ndM j) (.slice (some ⟨g, 0, none⟩) n n)) 57 (0, 0))
  hg : wr.heap[g]? = w1.heap[g]?
  bel : Below w.heap.size w wr
theorem NewMid.step {w w1 wr : World} {p g n j : Nat} (h : NewMid w w1 wr p g n j) (hj : j < 64) (hg : g < p) (hw : w.heap.size ≤ g) : NewMid w w1 (wr.setCell ⟨p, j, none⟩ (.bool true)) p g n (j + 1) :=
  ⟨by rw [heap_setCell_same _ _ _ _ _ _ h.hp, arbC_set _ hj], (heap_setCell_other _ _ _ _ (by show g ≠ p; omega)).trans h.hg, h.bel.setCell (by show w.heap.size ≤ p; omega) _⟩

set_option maxHeartbeats 1000000 in
theorem aNew_c (s t : Int) (w : World) (K n : Nat) (hK0 : Hid (szQ s = K)) (hn0 : Hid (szQ t = n)) : Calls Try.prog 10 #[.int .i64 s, .int .i64 t] w fun e w' => ∃ p, e = .returned (ptr p) ∧ ∃ g Ft, ArIs w' p g K 0 (List.replicate n rq0) Ft ∧ (∀ b, Ft b → w.heap.size ≤ b) ∧ w.heap.size ≤ p ∧ Below w.heap.size w w' := by
  have hn64 : n ≤ 64 := by rw [← hn0.out]; exact szQ_le t
  have hK64 : K ≤ 64 := by rw [← hK0.out]; exact szQ_le s
  obtain ⟨m, hm⟩ : ∃ m, (if t < 0 then 0 else t) = m := ⟨_, rfl⟩
  have hm2 : (if 64 < m then 64 else m) = (n : Int) := by have := hn0.out; unfold szQ at this; (repeat' split at this) <;> (repeat' split) <;> (repeat' split at hm) <;> omega
  obtain ⟨l, hl⟩ : ∃ l, (if s < 0 then 0 else s) = l := ⟨_, rfl⟩
  have hl2 : (if 64 < l then 64 else l) = (K : Int) := by have := hK0.out; unfold szQ at this; (repeat' split at this) <;> (repeat' split) <;> (repeat' split at hl) <;> omega
  go_enter Try.func10, Try.ntmps10
  go_wp2_with (first | (at_make; refine wpList_makeQ rfl _ _ rfl n rfl rfl hn64 ?_; intro w1 hO1 hB1 hs1; replace hO1 := hide hO1; replace hB1 := hide hB1; replace hs1 := hide hs1) | (refine wpList_buildA rfl _ rfl rfl ?_))
  have hg : w.heap.size < w1.heap.size := by have := unhide hs1; omega
  have hM : Hid (NewMid w w1 (w1.alloc (.cells (arbC noM (.slice (some ⟨w.heap.size, 0, none⟩) n n)) 57)) w1.heap.size w.heap.size n 0) := hide ⟨by rw [heap_alloc_new, ndM_zero], Below.heap_alloc _ _ _ hg, (unhide hB1).alloc (unhide hB1).size _⟩
  obtain ⟨p, hp⟩ : ∃ p, w1.heap.size = p := ⟨_, rfl⟩
  rw [hp] at hM hg ⊢
  replace hp := hide hp
  clear hm hm2 hl hl2
  go_loopw [16] (fun i wr => ∃ j : Nat, j ≤ K ∧ i = .int .i64 j ∧ NewMid w w1 wr p w.heap.size n j) (fun i _ => K - (intOf i).toNat)
  case atStart => exact ⟨0, Nat.zero_le _, rfl, hM.out⟩
  case round =>
    obtain ⟨j, hj, rfl, hm⟩ := hrel
    clear hM
    by_cases hlt : j < K
    · have hlt' : (j : Int) < K := by omega
      have hj64 : (j : Int) < 64 := by omega
      have k0 : wr.cell? ⟨p, j, none⟩ = some (.bool false) := by rw [cell_of_row _ _ _ _ _ _ hm.hp, arbC_at _ _ (by omega)]; simp [ndM]
      have k1 : wr.frozen? ⟨p, j, none⟩ = false := frozen_of_row _ _ _ _ _ hm.hp
      have hm2 := hide (hm.step (by omega) hg (Nat.le_refl _))
      clear hm
      go_wp2_with fail
      go_roundw
      case rel => exact ⟨j + 1, by omega, by simp, hm2.out⟩
      case measure => simp [intOf]; omega
    · obtain rfl : j = K := by omega
      replace hm := hide hm
      go_wp2_with fail
      go_ret
      refine ⟨p, rfl, w.heap.size, _, ar_new hn64 hK64 (Nat.le_refl n) (by unfold maxLen; omega) hm.out.hp (by omega) (block_lt (by have := hp.out; omega) hm.out.hg) (fun k hk => (hO1.out k hk).carry hm.out.hg (fun b h => by cases h)), fun b hb => (by omega), by omega, hm.out.bel⟩
end Go.Proofs.Ytlfdahcbkdiifaa
