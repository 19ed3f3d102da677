/-
  EntryOps: for every value of type api.Entry the statement's function returns true; no argument is changed.
-/
import Derived.Test.YtfkhlnmphjbjoaaRows
import Derived.Test.YtfkhlnmphjbjoaaL05Legal
import Derived.Test.YtfkhlnmphjbjoaaFlat
import Derived.WalkKit
import Derived.ProofKit
import Derived.OpenShut
import Derived.ShutString
import Derived.ChangeOld
import Derived.Below
namespace Go.Proofs.Ytfkhlnmphjbjoaa.entryOps
open Go.ChangeShapes Go.WideShapes Go.ChangeAt Go.RowKit
open Go.ChangeMaps (open_string shut_string)
set_option linter.unusedVariables false

theorem own : ownKnob Try.prog.godebug = none := by kernel_rfl
theorem laidOut : laidOutB Try.prog = true := by kernel_rfl

set_option maxRecDepth 100000 in
theorem lifted (os : Os) (started : os.Started) (H : Type) (enc : TypeId × Value → H) :
    ReturnsInHanded {} Try.checked os 4 .any (Rows.entryOpsSpec.pre6 enc Try.prog Try.f4 Rows.entryOpsRow.domain false) (Rows.entryOpsSpec.post enc Try.prog Try.f4 false true false false) := by
  refine returnsInHanded_of_change (C := Try.checked) own started (by kernel_rfl) Try.func4
    (ChangeSpec.witness6 (enc := enc) (C := Try.checked) false ⟨#[], #[.agg #[.int .i64 0, .int .i64 0, .int .i64 0, .int .i64 0, .int .i64 0]], []⟩ 8 (by kernel_rfl) (by kernel_rfl) (by kernel_rfl) (by kernel_rfl)) ?_
  intro W base args ds gs before hval0 hW hcnd _
  have hval : ∀ (j : Nat) t v, Try.f4.params[j]? = some t → args[j]? = some v → Value.okWide Try.prog W .any base t v := hval0
  have hW' := hW
  obtain ⟨p, q, hA0, hV, rfl, hfz, hnd⟩ := hW
  have hA : DataW.TrodAll enc Try.prog W 0 (fun _ => true) true Try.f4.params.toList args.toList ds p := hA0
  rw [Try.params4] at hA hval
  obtain ⟨v0, vs0, d0, ds0, p0, q0, hargs, rfl, rfl, h0, tr0⟩ := trodAll_cons hA
  obtain ⟨rfl, rfl, rfl⟩ := trodAll_nil tr0
  obtain rfl : args = #[v0] := by cases args; simp_all
  obtain ⟨rfl, rfl⟩ := trodVars_none hV
  have k0 := h0
  have lt0 : ∀ x ∈ p0, x.block < W.heap.size := by obtain ⟨m, hm⟩ := k0; exact DataW.trod_lt m _ _ _ hm
  obtain ⟨cs0, rfl, f0⟩ := open_flat [some .i64, some .i64, some .i64, some .i64, some .i64] (by kernel_rfl) (.inl ⟨_, Try.underlying25⟩) (hval 0 25 v0 rfl rfl) h0
  obtain ⟨c0_0, vs0_0, hl0_0, w0_0, f0_0⟩ := allLeaf_int f0
  have hl0 := hl0_0
  obtain ⟨c0_1, vs0_1, hl0_1, w0_1, f0_1⟩ := allLeaf_int f0_0
  rw [hl0_1] at hl0
  obtain ⟨c0_2, vs0_2, hl0_2, w0_2, f0_2⟩ := allLeaf_int f0_1
  rw [hl0_2] at hl0
  obtain ⟨c0_3, vs0_3, hl0_3, w0_3, f0_3⟩ := allLeaf_int f0_2
  rw [hl0_3] at hl0
  obtain ⟨c0_4, vs0_4, hl0_4, w0_4, f0_4⟩ := allLeaf_int f0_3
  rw [hl0_4] at hl0
  rw [allLeaf_nil f0_4] at hl0
  obtain rfl : cs0 = #[.int .i64 c0_0, .int .i64 c0_1, .int .i64 c0_2, .int .i64 c0_3, .int .i64 c0_4] := agg_of hl0
  clear hA0 hval0
  refine (EntryOps_walk c0_0 c0_1 c0_2 c0_3 c0_4 W).mono fun e W' ⟨he, bel⟩ => ?_
  subst he
  exact ⟨_, rfl, _, _, _, [], _, [], hW', trodAll_mk1 (shut_bool Try.underlying4 _), (trodAll_cons_mk (Below.trod laidOut (by kernel_rfl) (of_decide_eq_true (by kernel_rfl)) k0 bel lt0) trodAll_mk0), rfl, bel.frame _, fun h => by cases h⟩

theorem over : Rows.entryOpsRow.holds Try.pinned (OpenSpec.ofChange Rows.entryOpsSpec) :=
  OpenClaim.holds_of_wide 4 Try.f4 rfl rfl rfl rfl rfl rfl rfl ⟨rfl, rfl, rfl, rfl, rfl⟩ rfl rfl rfl rfl rfl (by kernel_rfl) Try.func4 (by kernel_rfl)
    (of_decide_eq_true (by kernel_rfl)) (by unfold Func.isWrapper; first | (rw [if_pos (by decide +kernel)]; kernel_rfl) | (rw [if_neg (by decide +kernel)]; exact ⟨rfl, rfl⟩))
    (fun os started H enc _ => lifted os started H enc)

theorem proved : Rows.EntryOpsSaid := over
#print axioms proved
end Go.Proofs.Ytfkhlnmphjbjoaa.entryOps
