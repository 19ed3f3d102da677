/-
  NodeNothing: for every value of type api.Config, every int, and every value of type Act the statement's function returns true; no argument is changed (tied card: the table letter.rows reads as the program's text lays it).
-/
import Derived.Test.YtoenjdnccgmhoaaGreatDoorRows
import Derived.Test.YtoenjdnccgmhoaaGreatDoorCards
import Derived.Test.YtoenjdnccgmhoaaGreatDoorTie
import Derived.Test.YtoenjdnccgmhoaaGreatDoorB07
import Derived.LaidMore
import Derived.Stop.Joined
import Derived.SevenTiedAt
import Derived.Test.YtoenjdnccgmhoaaGreatDoorZL15Nothing
import Derived.Test.YtoenjdnccgmhoaaGreatDoorB01
import Derived.WalkKit
import Derived.ProofKit
import Derived.OpenShut
import Derived.ShutString
import Derived.ChangeOld
import Derived.Below
namespace Go.Proofs.YtoenjdnccgmhoaaGreatDoor.nodeNothing
open Go.ChangeShapes Go.WideShapes Go.ChangeAt Go.RowKit
open Go.ChangeMaps (open_string shut_string)
set_option linter.unusedVariables false

theorem own : ownKnob Tryz.prog.godebug = none := by kernel_rfl
theorem laidOut : laidOutB Tryz.prog = true := by kernel_rfl

set_option maxRecDepth 100000 in
theorem lifted (os : Os) (started : os.Started) (H : Type) (enc : TypeId × Value → H) :
    ReturnsInHanded {} Tryz.checked os 8 .any (fun w args => (Rows.nodeNothingSpec.pre enc Tryz.prog Tryz.f8 [] false w args ∧ laidMetH Tryz.prog Rows.nodeNothingRow.laid w) ∧ sizedMet enc Tryz.prog Tryz.f8 (OpenSpec.ofChange Rows.nodeNothingSpec) false w args)
      (Rows.nodeNothingSpec.post enc Tryz.prog Tryz.f8 false true false false) := by
  refine returnsInHanded_of_change_and (C := Tryz.checked) (X := fun w _ => laidMetH Tryz.prog Rows.nodeNothingRow.laid w) (fun _ _ _ hh h => h.of_heap hh) own started (by kernel_rfl) Tryz.func8
    (ChangeSpec.witness_shaped (enc := enc) (C := Tryz.checked) (os := os) (X := fun w _ => laidMetH Tryz.prog Rows.nodeNothingRow.laid w) false (World.doorLaid Tryz.prog 400 os) #[.agg #[.int .i64 0, .int .i64 0, .int .i64 0, .int .i64 0, .int .i64 0, .int .i64 0, .int .i64 0, .int .i64 0, .int .i64 0], .int .i64 0, .agg #[.int .i64 0, .int .i64 0, .bool false, .int .i64 0, .int .i64 0, .int .i64 0, .int .i64 0, .int .i64 0, .int .i64 0, .int .i64 0, .bool false, .int .i64 0, .bool false, .bool false, .int .i64 0, .int .i64 0, .int .i64 0, .int .i64 0]] 8 rfl (World.shaped_of_RefB (by kernel_rfl) (by kernel_rfl)) (by kernel_rfl) (by kernel_rfl) (by kernel_rfl) (door_met os _)) ?_
  intro W base args ds gs before hval0 hW _ _ hL _
  have hval : ∀ (j : Nat) t v, Tryz.f8.params[j]? = some t → args[j]? = some v → Value.okWide Tryz.prog W .any base t v := hval0
  have hW' := hW
  obtain ⟨p, q, hA0, hV, rfl, hfz, hnd⟩ := hW
  have hA : DataW.TrodAll enc Tryz.prog W 0 (fun _ => true) true Tryz.f8.params.toList args.toList ds p := hA0
  rw [Tryz.params8] at hA hval
  obtain ⟨v0, vs0, d0, ds0, p0, q0, hargs, rfl, rfl, h0, tr0⟩ := trodAll_cons hA
  obtain ⟨v1, vs1, d1, ds1, p1, q1, rfl, rfl, rfl, h1, tr1⟩ := trodAll_cons tr0
  obtain ⟨v2, vs2, d2, ds2, p2, q2, rfl, rfl, rfl, h2, tr2⟩ := trodAll_cons tr1
  obtain ⟨rfl, rfl, rfl⟩ := trodAll_nil tr2
  obtain rfl : args = #[v0, v1, v2] := by cases args; simp_all
  obtain ⟨rfl, rfl⟩ := trodVars_none hV
  have k0 := h0
  have lt0 : ∀ x ∈ p0, x.block < W.heap.size := by obtain ⟨m, hm⟩ := k0; exact DataW.trod_lt m _ _ _ hm
  obtain ⟨cs0, rfl, f0⟩ := open_flat [some .i64, some .i64, some .i64, some .i64, some .i64, some .i64, some .i64, some .i64, some .i64] (by kernel_rfl) (.inl ⟨_, Tryz.underlying23⟩) (hval 0 23 v0 rfl rfl) h0
  obtain ⟨c0_0, vs0_0, hl0_0, w0_0, f0_0⟩ := allLeaf_int f0
  have hl0 := hl0_0
  obtain ⟨c0_1, vs0_1, hl0_1, w0_1, f0_1⟩ := allLeaf_int f0_0
  rw [hl0_1] at hl0
  obtain ⟨c0_2, vs0_2, hl0_2, w0_2, f0_2⟩ := allLeaf_int f0_1
  rw [hl0_2] at hl0
  obtain ⟨c0_3, vs0_3, hl0_3, w0_3, f0_3⟩ := allLeaf_int f0_2
  rw [hl0_3] at hl0
  obtain ⟨c0_4, vs0_4, hl0_4, w0_4, f0_4⟩ := allLeaf_int f0_3
  rw [hl0_4] at hl0
  obtain ⟨c0_5, vs0_5, hl0_5, w0_5, f0_5⟩ := allLeaf_int f0_4
  rw [hl0_5] at hl0
  obtain ⟨c0_6, vs0_6, hl0_6, w0_6, f0_6⟩ := allLeaf_int f0_5
  rw [hl0_6] at hl0
  obtain ⟨c0_7, vs0_7, hl0_7, w0_7, f0_7⟩ := allLeaf_int f0_6
  rw [hl0_7] at hl0
  obtain ⟨c0_8, vs0_8, hl0_8, w0_8, f0_8⟩ := allLeaf_int f0_7
  rw [hl0_8] at hl0
  rw [allLeaf_nil f0_8] at hl0
  obtain rfl : cs0 = #[.int .i64 c0_0, .int .i64 c0_1, .int .i64 c0_2, .int .i64 c0_3, .int .i64 c0_4, .int .i64 c0_5, .int .i64 c0_6, .int .i64 c0_7, .int .i64 c0_8] := agg_of hl0
  obtain ⟨a1, rfl, rfl, rfl, w1⟩ := open_int Tryz.underlying3 (hval 1 3 v1 rfl rfl) h1
  have k2 := h2
  have lt2 : ∀ x ∈ p2, x.block < W.heap.size := by obtain ⟨m, hm⟩ := k2; exact DataW.trod_lt m _ _ _ hm
  obtain ⟨cs2, rfl, f2⟩ := open_flat [some .i64, some .i64, none, some .i64, some .i64, some .i64, some .i64, some .i64, some .i64, some .i64, none, some .i64, none, none, some .i64, some .i64, some .i64, some .i64] (by kernel_rfl) (.inl ⟨_, Tryz.underlying40⟩) (hval 2 40 v2 rfl rfl) h2
  obtain ⟨c2_0, vs2_0, hl2_0, w2_0, f2_0⟩ := allLeaf_int f2
  have hl2 := hl2_0
  obtain ⟨c2_1, vs2_1, hl2_1, w2_1, f2_1⟩ := allLeaf_int f2_0
  rw [hl2_1] at hl2
  obtain ⟨c2_2, vs2_2, hl2_2, f2_2⟩ := allLeaf_bool f2_1
  rw [hl2_2] at hl2
  obtain ⟨c2_3, vs2_3, hl2_3, w2_3, f2_3⟩ := allLeaf_int f2_2
  rw [hl2_3] at hl2
  obtain ⟨c2_4, vs2_4, hl2_4, w2_4, f2_4⟩ := allLeaf_int f2_3
  rw [hl2_4] at hl2
  obtain ⟨c2_5, vs2_5, hl2_5, w2_5, f2_5⟩ := allLeaf_int f2_4
  rw [hl2_5] at hl2
  obtain ⟨c2_6, vs2_6, hl2_6, w2_6, f2_6⟩ := allLeaf_int f2_5
  rw [hl2_6] at hl2
  obtain ⟨c2_7, vs2_7, hl2_7, w2_7, f2_7⟩ := allLeaf_int f2_6
  rw [hl2_7] at hl2
  obtain ⟨c2_8, vs2_8, hl2_8, w2_8, f2_8⟩ := allLeaf_int f2_7
  rw [hl2_8] at hl2
  obtain ⟨c2_9, vs2_9, hl2_9, w2_9, f2_9⟩ := allLeaf_int f2_8
  rw [hl2_9] at hl2
  obtain ⟨c2_10, vs2_10, hl2_10, f2_10⟩ := allLeaf_bool f2_9
  rw [hl2_10] at hl2
  obtain ⟨c2_11, vs2_11, hl2_11, w2_11, f2_11⟩ := allLeaf_int f2_10
  rw [hl2_11] at hl2
  obtain ⟨c2_12, vs2_12, hl2_12, f2_12⟩ := allLeaf_bool f2_11
  rw [hl2_12] at hl2
  obtain ⟨c2_13, vs2_13, hl2_13, f2_13⟩ := allLeaf_bool f2_12
  rw [hl2_13] at hl2
  obtain ⟨c2_14, vs2_14, hl2_14, w2_14, f2_14⟩ := allLeaf_int f2_13
  rw [hl2_14] at hl2
  obtain ⟨c2_15, vs2_15, hl2_15, w2_15, f2_15⟩ := allLeaf_int f2_14
  rw [hl2_15] at hl2
  obtain ⟨c2_16, vs2_16, hl2_16, w2_16, f2_16⟩ := allLeaf_int f2_15
  rw [hl2_16] at hl2
  obtain ⟨c2_17, vs2_17, hl2_17, w2_17, f2_17⟩ := allLeaf_int f2_16
  rw [hl2_17] at hl2
  rw [allLeaf_nil f2_17] at hl2
  obtain rfl : cs2 = #[.int .i64 c2_0, .int .i64 c2_1, .bool c2_2, .int .i64 c2_3, .int .i64 c2_4, .int .i64 c2_5, .int .i64 c2_6, .int .i64 c2_7, .int .i64 c2_8, .int .i64 c2_9, .bool c2_10, .int .i64 c2_11, .bool c2_12, .bool c2_13, .int .i64 c2_14, .int .i64 c2_15, .int .i64 c2_16, .int .i64 c2_17] := agg_of hl2
  clear hA0 hval0
  refine (NodeNothing_walk c0_0 c0_1 c0_2 c0_3 c0_4 c0_5 c0_6 c0_7 c0_8 a1 c2_0 c2_1 c2_2 c2_3 c2_4 c2_5 c2_6 c2_7 c2_8 c2_9 c2_10 c2_11 c2_12 c2_13 c2_14 c2_15 c2_16 c2_17 W (hide (tab_of_laid hL)) (i64_of w2_4)).mono fun e W' ⟨he, bel⟩ => ?_
  subst he
  exact ⟨_, rfl, _, _, _, [], _, [], hW', trodAll_mk1 (shut_bool Tryz.underlying4 _), (trodAll_cons_mk (Below.trod laidOut (by kernel_rfl) (of_decide_eq_true (by kernel_rfl)) k0 bel lt0) (trodAll_cons_mk (shut_int Tryz.underlying3 w1) (trodAll_cons_mk (Below.trod laidOut (by kernel_rfl) (of_decide_eq_true (by kernel_rfl)) k2 bel lt2) trodAll_mk0))), rfl, bel.frame _, fun h => by cases h⟩

theorem over : Rows.nodeNothingRow.holds Tryz.pinned (OpenSpec.ofChange Rows.nodeNothingSpec) :=
  OpenClaim.holds_of_wide 8 Tryz.f8 rfl rfl rfl rfl rfl rfl rfl ⟨rfl, rfl, rfl, rfl, rfl⟩ rfl rfl rfl rfl rfl (by kernel_rfl) Tryz.func8 (by kernel_rfl)
    (of_decide_eq_true (by kernel_rfl)) (by unfold Func.isWrapper; first | (rw [if_pos (by decide +kernel)]; kernel_rfl) | (rw [if_neg (by decide +kernel)]; exact ⟨rfl, rfl⟩))
    (fun os started H enc _ => lifted os started H enc)

theorem proved : Rows.NodeNothingCardSaid :=
  Claim7.holds_tied_plain_at .later [] [.data] true Rows.nodeNothingCard.stood.harness true
    over (fun _ h => by cases h) (by kernel_rfl) (fun _ h => by cases h) nodeNothing_row_tie rfl ⟨rfl, rfl⟩ (by kernel_rfl) rfl
    (fun f fn hf hfn => by
      obtain rfl : f = 8 := Option.some.inj ((show Tryz.prog.funcNamed Rows.nodeNothingRow.func = some 8 by kernel_rfl).symm.trans hf) |>.symm
      obtain rfl : fn = Tryz.f8 := (Option.some.inj (Tryz.func8.symm.trans hfn)).symm
      exact ⟨by kernel_rfl, fun j t ht => by
        rw [Tryz.params8] at ht
        have hm : t ∈ [23, 3, 40] := by simpa using Array.mem_of_getElem? ht
        have hall : ([23, 3, 40].all fun u => !Tryz.prog.wantsStandIn u) = true := by kernel_rfl
        exact (show Tryz.prog.wantsStandIn t = false by simpa using List.all_eq_true.1 hall t hm)⟩)
    (by kernel_rfl)
#print axioms proved
end Go.Proofs.YtoenjdnccgmhoaaGreatDoor.nodeNothing
