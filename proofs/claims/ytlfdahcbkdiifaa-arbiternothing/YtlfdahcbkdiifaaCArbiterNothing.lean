/-
  ArbiterNothing: for every array of two ints and every value of type Act the statement's function returns true; no argument is changed.
-/
import Derived.Test.YtlfdahcbkdiifaaRows
import Derived.Test.YtlfdahcbkdiifaaL12Nothing
import Derived.Test.YtlfdahcbkdiifaaFlat
import Derived.Test.YtlfdahcbkdiifaaRowsOf
import Derived.WalkKit
import Derived.ProofKit
import Derived.OpenShut
import Derived.ShutString
import Derived.ChangeOld
import Derived.Below
namespace Go.Proofs.Ytlfdahcbkdiifaa.arbiterNothing
open Go.ChangeShapes Go.WideShapes Go.ChangeAt Go.RowKit
open Go.ChangeMaps (open_string shut_string)
set_option linter.unusedVariables false

theorem own : ownKnob Try.prog.godebug = none := by kernel_rfl
theorem laidOut : laidOutB Try.prog = true := by kernel_rfl

set_option maxRecDepth 100000 in
theorem lifted (os : Os) (started : os.Started) (H : Type) (enc : TypeId × Value → H) :
    ReturnsInHanded {} Try.checked os 6 .any (Rows.arbiterNothingSpec.pre6 enc Try.prog Try.f6 Rows.arbiterNothingRow.domain false) (Rows.arbiterNothingSpec.post enc Try.prog Try.f6 false true false false) := by
  refine returnsInHanded_of_change (C := Try.checked) own started (by kernel_rfl) Try.func6
    (ChangeSpec.witness6 (enc := enc) (C := Try.checked) false ⟨#[], #[.agg #[.int .i64 0, .int .i64 0], .agg #[.int .i64 0, .int .i64 0, .int .i64 0, .int .i64 0]], []⟩ 8 (by kernel_rfl) (by kernel_rfl) (by kernel_rfl) (by kernel_rfl)) ?_
  intro W base args ds gs before hval0 hW hcnd _
  have hval : ∀ (j : Nat) t v, Try.f6.params[j]? = some t → args[j]? = some v → Value.okWide Try.prog W .any base t v := hval0
  have hW' := hW
  obtain ⟨p, q, hA0, hV, rfl, hfz, hnd⟩ := hW
  have hA : DataW.TrodAll enc Try.prog W 0 (fun _ => true) true Try.f6.params.toList args.toList ds p := hA0
  rw [Try.params6] at hA hval
  obtain ⟨v0, vs0, d0, ds0, p0, q0, hargs, rfl, rfl, h0, tr0⟩ := trodAll_cons hA
  obtain ⟨v1, vs1, d1, ds1, p1, q1, rfl, rfl, rfl, h1, tr1⟩ := trodAll_cons tr0
  obtain ⟨rfl, rfl, rfl⟩ := trodAll_nil tr1
  obtain rfl : args = #[v0, v1] := by cases args; simp_all
  obtain ⟨rfl, rfl⟩ := trodVars_none hV
  have k0 := h0
  have lt0 : ∀ x ∈ p0, x.block < W.heap.size := by obtain ⟨m, hm⟩ := k0; exact DataW.trod_lt m _ _ _ hm
  obtain ⟨cs0, rfl, f0⟩ := open_flat [some .i64, some .i64] (by kernel_rfl) (.inr ⟨_, _, Try.underlying22⟩) (hval 0 22 v0 rfl rfl) h0
  obtain ⟨c0_0, vs0_0, hl0_0, w0_0, f0_0⟩ := allLeaf_int f0
  have hl0 := hl0_0
  obtain ⟨c0_1, vs0_1, hl0_1, w0_1, f0_1⟩ := allLeaf_int f0_0
  rw [hl0_1] at hl0
  rw [allLeaf_nil f0_1] at hl0
  obtain rfl : cs0 = #[.int .i64 c0_0, .int .i64 c0_1] := agg_of hl0
  have k1 := h1
  have lt1 : ∀ x ∈ p1, x.block < W.heap.size := by obtain ⟨m, hm⟩ := k1; exact DataW.trod_lt m _ _ _ hm
  obtain ⟨cs1, rfl, f1⟩ := open_flat [some .i64, some .i64, some .i64, some .i64] (by kernel_rfl) (.inl ⟨_, Try.underlying30⟩) (hval 1 30 v1 rfl rfl) h1
  obtain ⟨c1_0, vs1_0, hl1_0, w1_0, f1_0⟩ := allLeaf_int f1
  have hl1 := hl1_0
  obtain ⟨c1_1, vs1_1, hl1_1, w1_1, f1_1⟩ := allLeaf_int f1_0
  rw [hl1_1] at hl1
  obtain ⟨c1_2, vs1_2, hl1_2, w1_2, f1_2⟩ := allLeaf_int f1_1
  rw [hl1_2] at hl1
  obtain ⟨c1_3, vs1_3, hl1_3, w1_3, f1_3⟩ := allLeaf_int f1_2
  rw [hl1_3] at hl1
  rw [allLeaf_nil f1_3] at hl1
  obtain rfl : cs1 = #[.int .i64 c1_0, .int .i64 c1_1, .int .i64 c1_2, .int .i64 c1_3] := agg_of hl1
  clear hA0 hval0
  refine (ArbiterNothing_walk c0_0 c0_1 ⟨c1_0, c1_1, c1_2, c1_3⟩ W).mono fun e W' ⟨he, bel⟩ => ?_
  subst he
  exact ⟨_, rfl, _, _, _, [], _, [], hW', trodAll_mk1 (shut_bool Try.underlying4 _), (trodAll_cons_mk (Below.trod laidOut (by kernel_rfl) (of_decide_eq_true (by kernel_rfl)) k0 bel lt0) (trodAll_cons_mk (Below.trod laidOut (by kernel_rfl) (of_decide_eq_true (by kernel_rfl)) k1 bel lt1) trodAll_mk0)), rfl, bel.frame _, fun h => by cases h⟩

theorem over : Rows.arbiterNothingRow.holds Try.pinned (OpenSpec.ofChange Rows.arbiterNothingSpec) :=
  OpenClaim.holds_of_wide 6 Try.f6 rfl rfl rfl rfl rfl rfl rfl ⟨rfl, rfl, rfl, rfl, rfl⟩ rfl rfl rfl rfl rfl (by kernel_rfl) Try.func6 (by kernel_rfl)
    (of_decide_eq_true (by kernel_rfl)) (by unfold Func.isWrapper; first | (rw [if_pos (by decide +kernel)]; kernel_rfl) | (rw [if_neg (by decide +kernel)]; exact ⟨rfl, rfl⟩))
    (fun os started H enc _ => lifted os started H enc)

theorem proved : Rows.ArbiterNothingSaid := over
#print axioms proved
end Go.Proofs.Ytlfdahcbkdiifaa.arbiterNothing
