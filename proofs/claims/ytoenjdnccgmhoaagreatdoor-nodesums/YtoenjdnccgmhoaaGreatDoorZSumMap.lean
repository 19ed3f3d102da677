/- layer 15: SumMap, put together. -/
import Derived.Test.YtoenjdnccgmhoaaGreatDoorB15
namespace Go.Proofs.YtoenjdnccgmhoaaGreatDoor
open Go.ChangeShapes Go.WideShapes Go.ChangeAt Go.RowKit
set_option linter.unusedSimpArgs false
set_option linter.unusedVariables false
set_option maxRecDepth 10000
attribute [local go_sem, local simp] over_const setCell_drewN alloc_drewN Over.cell Over.frozen lt_s1 lt_s2 lt_s3 le_s0 le_s1 le_s2 le_s3 eq_s0 eq_s1 eq_s2 qe_s0
def MsIs (w : World) (m : Nat) (f : Int → Int) : Prop := ∃ K, MpIs w m (.int .i64 0) K (fun y => .int .i64 (f y)) ∧ K.length ≤ 64 ∧ ∀ k ∈ K, 0 ≤ k ∧ k < 64
theorem zeroInS (w : World) : (zeroValue 3).run Tryz.prog w = .ok (.int .i64 0) w := by kernel_rfl
section
variable {w w' : World} {m : Nat} {f g : Int → Int}
theorem MsIs.lt (h : MsIs w m f) : m < w.heap.size := by obtain ⟨K, h, _⟩ := h; exact h.lt
theorem MsIs.carry (h : MsIs w m f) (e : w'.heap[m]? = w.heap[m]?) : MsIs w' m f := by obtain ⟨K, h1, h2⟩ := h; exact ⟨K, h1.carry e, h2⟩
theorem MsIs.fr {F : Nat → Prop} (h : MsIs w m f) (hf : FrS F w w') (hn : ¬ F m) : MsIs w' m f := h.carry (hf.block _ h.lt hn)
theorem MsIs.below (h : MsIs w m f) (hb : Below w.heap.size w w') : MsIs w' m f := h.carry (hb.block _ h.lt)
theorem MsIs.alike (h : MsIs w m f) (hg : ∀ y, g y = f y) : MsIs w m g := by
  obtain ⟨K, h1, h2⟩ := h
  exact ⟨K, h1.alike (fun _ => Iff.rfl) (fun y => by rw [hg]), h2⟩
theorem ms_new (h : w.ownsMap Tryz.prog 3 heldR m 0 (.map [])) : MsIs w m (fun _ => 0) := ⟨[], mp_new _ h, by simp, fun k hk => by cases hk⟩
theorem ms_look (h : MsIs w m f) {x : Int} (hx : I64 x) : (Instr.lookup 65 (.map (some m)) (.int .i64 x) false).run Tryz.prog w = .ok (.int .i64 (f x)) w := by
  obtain ⟨K, h1, h2⟩ := h
  exact h1.look Tryz.underlying65 zeroInS hx w rfl
theorem ms_put (h : MsIs w m f) {x : Int} (h0 : 0 ≤ x) (h1 : x < 64) (v : Int) :
    ∃ w2, (Instr.mapUpdate 65 (.map (some m)) (.int .i64 x) (.int .i64 v)).run Tryz.prog w = .ok () w2 ∧ MsIs w2 m (fun y => if y = x then v else f y) ∧ FrS (· = m) w w2 := by
  obtain ⟨K, hm, hl, hk⟩ := h
  have hn : (((List.range 64).map fun i : Nat => (i : Int)).filter fun k => decide (k = x ∨ k ∈ K)).length ≤ 64 := Nat.le_trans (List.length_filter_le _ _) (by simp)
  obtain ⟨w2, r2, m2, f2⟩ := mp_put hm Tryz.underlying65 (x := x) ⟨by omega, by omega⟩ (.int .i64 v) (K' := ((List.range 64).map fun i : Nat => (i : Int)).filter fun k => decide (k = x ∨ k ∈ K)) (fun k => by
    simp only [List.mem_filter, List.mem_map, List.mem_range, decide_eq_true_eq]
    constructor
    · exact fun e => e.2
    · intro e
      refine ⟨⟨k.toNat, ?_, ?_⟩, e⟩
      · rcases e with rfl | e
        · omega
        · have := hk k e; omega
      · rcases e with rfl | e
        · omega
        · have := hk k e; omega) (by omega)
  refine ⟨w2, r2, ⟨_, m2.alike (fun _ => Iff.rfl) (fun y => ?_), hn, fun k hk' => ?_⟩, f2⟩
  · dsimp only [updV]
    by_cases e : y = x
    · rw [if_pos e, if_pos e]
    · rw [if_neg e, if_neg e]
  · simp only [List.mem_filter, List.mem_map, List.mem_range] at hk'
    obtain ⟨⟨i, hi, rfl⟩, -⟩ := hk'
    omega
end
end Go.Proofs.YtoenjdnccgmhoaaGreatDoor
