/- layer 16: Marks, put together. -/
import Derived.Test.YtmgjgeaigdiadaaDoorRows
import Derived.Test.YtmgjgeaigdiadaaDoorB04
import Derived.Deep.MidRow
import Derived.Deep.Upon
import Derived.Deep.RegionLaw
import Derived.Deep.RegionHeld3
namespace Go.Proofs.YtmgjgeaigdiadaaDoor
open Go.ChangeShapes Go.WideShapes Go.ChangeAt Go.RowKit
set_option linter.unusedSimpArgs false
set_option linter.unusedVariables false
set_option maxRecDepth 10000
attribute [local go_sem, local simp] over_const setCell_drewN alloc_drewN Over.cell Over.frozen lt_s1 lt_s2 lt_s3 le_s0 le_s1 le_s2 le_s3 eq_s0 eq_s1 eq_s2 qe_s0
def mkM (f : Nat → Bool) : List Value := (List.range 64).map fun i => .bool (f i)
theorem mkM_len (f : Nat → Bool) : (mkM f).length = 64 := by simp [mkM]
theorem mkM_at (f : Nat → Bool) {i : Nat} (h : i < 64) : (mkM f)[i]? = some (.bool (f i)) := by simp [mkM, h]
theorem mkM_one (f : Nat → Bool) : ∀ u ∈ mkM f, u.oneCell' = true := by
  intro u hu
  obtain ⟨x, _, rfl⟩ := List.mem_map.1 hu
  rfl
theorem mkM_all (f : Nat → Bool) : (mkM f).toArray.all (·.oneCell') = true := all_oneCell_toArray (mkM_one f)
theorem mkM_ext {f g : Nat → Bool} (h : ∀ i, i < 64 → f i = g i) : mkM f = mkM g := by
  unfold mkM
  exact List.map_congr_left fun i hi => by rw [h i (by simpa using hi)]
theorem infoM : (Tryd.prog.info? 116).map (·.size) = some 64 := by kernel_rfl
theorem infoMl (f : Nat → Bool) : (Tryd.prog.info? 116).map (·.size) = some (mkM f).length := by rw [mkM_len]; exact infoM
theorem infoMs (f : Nat → Bool) : (Tryd.prog.info? 116).map (·.size) = some (mkM f).toArray.size := by rw [List.size_toArray, mkM_len]; exact infoM
def eqM (f g : Nat → Bool) : Bool := (List.range 64).all fun i => f i == g i
theorem eqM_iff {f g : Nat → Bool} : eqM f g = true ↔ ∀ i, i < 64 → f i = g i := by
  unfold eqM
  rw [List.all_eq_true]
  simp
theorem run_equalIn_marks (w : World) (d : Nat) (f g : Nat → Bool) : (Op.equalIn (d + 2) 116 (.agg (mkM f).toArray) (.agg (mkM g).toArray)).run Tryd.prog w = .ok (eqM f g) w := by
  have hsz : ∀ w, (sizeOf 4).run Tryd.prog w = .ok 1 w := fun w => by kernel_rfl
  have px : ∀ (f : Nat → Bool) (i : Nat), i < 64 → (part 4 (mkM f).toArray (i * 1)).run Tryd.prog w = .ok (.bool (f i)) w := fun f i hi => by
    simp [part, isAgg, run_underlying Tryd.underlying4, mkM_at f hi]
  rw [Op.equalIn]
  simp only [Sem.run_bind, run_underlying Tryd.underlying116, Result.andThen_ok, hsz, Std.Legacy.Range.forIn_eq_forIn_range', Std.Legacy.Range.size, Nat.sub_zero, Nat.add_sub_cancel, Nat.div_one]
  unfold eqM
  rw [List.range_eq_range']
  have hl : ∀ i ∈ List.range' 0 64 1, i < 64 := fun i hi => by simpa using (List.mem_range'_1.1 hi).2
  generalize List.range' 0 64 1 = l at hl ⊢
  induction l with
  | nil => simp
  | cons i l ih =>
    have hi := hl i (by simp)
    have pe : (Op.equalIn (d + 1) 4 (.bool (f i)) (.bool (g i))).run Tryd.prog w = .ok (f i == g i) w := run_equalIn_bool' w d _ _ _ Tryd.underlying4
    simp only [List.forIn_cons, Sem.run_bind, px f i hi, px g i hi, pe, Result.andThen_ok, List.all_cons]
    cases hb : (f i == g i)
    · simp
    · simp only [Bool.not_true, Bool.false_eq_true, if_false, Sem.run_pure, Result.andThen_ok, Bool.true_and]
      exact ih fun j hj => hl j (by simp [hj])
theorem run_neq_marks (w : World) (f g : Nat → Bool) : (binOp .neq 116 (.agg (mkM f).toArray) (.agg (mkM g).toArray)).run Tryd.prog w = .ok (.bool (!eqM f g)) w := by
  rw [run_neq_struct, run_equalIn_marks w 9998]
  rfl
abbrev noM : Nat → Bool := fun _ => false
theorem build_marks (w : World) : (Instr.build 116 #[]).run Tryd.prog w = .ok (.agg (mkM noM).toArray) w := by kernel_rfl
theorem Tryd.eqGuardM : Tryd.prog.eqGuardType Tryd.prog.depth 116 = false := by kernel_rfl
end Go.Proofs.YtmgjgeaigdiadaaDoor
