/- awake; an arbiter in a law (layer 12). -/
import Derived.Test.YtlfdahcbkdiifaaArbF
import Derived.Test.YtlfdahcbkdiifaaActs12
import Derived.Test.YtlfdahcbkdiifaaLinJ
namespace Go.Proofs.Ytlfdahcbkdiifaa
open Go.ChangeShapes Go.WideShapes Go.ChangeAt Go.RowKit
set_option linter.unusedSimpArgs false
set_option linter.unusedVariables false
set_option maxRecDepth 10000

attribute [local go_sem, local simp] over_const setCell_drewN alloc_drewN Over.cell Over.frozen lt_s1 lt_s2 lt_s3 le_s0 le_s1 le_s2 le_s3 eq_s0 eq_s1 eq_s2 qe_s0

theorem belA (w : World) (o : Obj) : Below w.heap.size w (w.alloc o) := (Below.refl _ _).alloc (Nat.le_refl _) _
theorem belD (w : World) (n : Nat) : Below w.heap.size w (w.drewN n) := belowN (Below.refl _ _) n

/-- An arbiter in a law, and that no old memory has turned. -/
structure AEnv (w wr : World) (p g N M : Nat) (L : List Rq) (Ft : Nat → Prop) : Prop where
  n : ArIs wr p g N M L Ft
  f0 : ∀ b, Ft b → w.heap.size ≤ b
  p0 : w.heap.size ≤ p
  bel : Below w.heap.size w wr

section
variable {w wr wz w3 : World} {p g N M M' : Nat} {L L' : List Rq} {Ft Ft' : Nat → Prop}
theorem AEnv.step (h : AEnv w wr p g N M L Ft) (hz : Below wr.heap.size wr wz) (hn : ArIs w3 p g N M' L' Ft') (hs : Step Ft Ft' wz w3) : AEnv w w3 p g N M' L' Ft' := by
  have s1 := h.bel.size
  have s2 := hz.size
  exact ⟨hn, fun b hb => by rcases hs.new b hb with e | e; exact h.f0 b e; omega, h.p0, (h.bel.trans (hz.mono s1)).trans (hs.fr.below (fun i hi => h.f0 i hi) (by omega))⟩
theorem AEnv.quiet (h : AEnv w wr p g N M L Ft) (hz : Below wr.heap.size wr wz) : AEnv w wz p g N M L Ft := ⟨h.n.below hz, h.f0, h.p0, h.bel.trans (hz.mono h.bel.size)⟩
theorem AEnv.first {w1 w2 : World} (hB : Below w.heap.size w w1) (hn : ArIs w2 p g N M L Ft) (hf : ∀ b, Ft b → w1.heap.size ≤ b) (hp : w1.heap.size ≤ p) (hb : Below w1.heap.size w1 w2) : AEnv w w2 p g N M L Ft :=
  ⟨hn, fun b h => Nat.le_trans hB.size (hf b h), Nat.le_trans hB.size hp, hB.trans (hb.mono hB.size)⟩
theorem AEnv.mono (h : AEnv w wr p g N M L Ft) (hM : M ≤ M') : AEnv w wr p g N M' L Ft := ⟨h.n.mono hM, h.f0, h.p0, h.bel⟩
end

/-- A request in a block that is no arbiter's. -/
structure LAt (w : World) (F : Nat → Prop) (b : Nat) (x : At) : Prop where
  at' : AtAt w b x
  out : ¬ F b
theorem LAt.new {w : World} {p g N M : Nat} {L : List Rq} {F : Nat → Prop} (h : ArIs w p g N M L F) (x : At) : LAt (w.alloc (atsO x)) F w.heap.size x := ⟨ats_new w x, fun e => by have := h.lt _ e; omega⟩
theorem LAt.quiet {w w' : World} {F : Nat → Prop} {b : Nat} {x : At} (h : LAt w F b x) (hb : Below w.heap.size w w') : LAt w' F b x := ⟨h.at'.below hb, h.out⟩
theorem LAt.step {w w' : World} {F F' : Nat → Prop} {b : Nat} {x : At} (h : LAt w F b x) (hs : Step F F' w w') : LAt w' F' b x := ⟨h.at'.carry (hs.keep h.out h.at'.lt).1, (hs.keep h.out h.at'.lt).2.1⟩
/-- A slice of ints in a block that is no arbiter's. -/
def LVw (w : World) (F : Nat → Prop) (v : Value) (A : List Int) : Prop := ∃ b, View w v b A ∧ (A ≠ [] → ¬ F b ∧ b < w.heap.size)
theorem LVw.of {w w' : World} {p g N M : Nat} {L : List Rq} {F : Nat → Prop} {v : Value} {ob : Option Nat} {A : List Int} (h : ArIs w p g N M L F) (hW : WtIs w' v ob A) (hob : ∀ b, ob = some b → w.heap.size ≤ b) : LVw w' F v A := by
  cases ob with
  | none => obtain ⟨rfl, rfl⟩ := hW; exact ⟨0, view_nil _ _, fun h => absurd rfl h⟩
  | some b => exact ⟨b, Own.view hW, fun _ => ⟨fun e => by have := h.lt _ e; have := hob b rfl; omega, Own.lt hW⟩⟩
theorem LVw.quiet {w w' : World} {F : Nat → Prop} {v : Value} {A : List Int} (h : LVw w F v A) (hb : Below w.heap.size w w') : LVw w' F v A := by
  obtain ⟨b, h1, h2⟩ := h
  exact ⟨b, h1.below hb, fun hn => ⟨(h2 hn).1, Nat.lt_of_lt_of_le (h2 hn).2 hb.size⟩⟩
theorem LVw.step {w w' : World} {F F' : Nat → Prop} {v : Value} {A : List Int} (h : LVw w F v A) (hs : Step F F' w w') : LVw w' F' v A := by
  obtain ⟨b, h1, h2⟩ := h
  exact ⟨b, h1.fr hs.fr (fun hn => (h2 hn).1), fun hn => (hs.keep (h2 hn).1 (h2 hn).2).2⟩

abbrev awL0 : List Rq := [rq0]
abbrev awL1 : List Rq := [⟨[0], 1, 1, []⟩]
abbrev awL2 : List Rq := [⟨[0, 0], 1, 1, []⟩]
abbrev awL3 : List Rq := [⟨[0, 0], 1, 2, []⟩]
abbrev awL4 : List Rq := [⟨[0, 0], 2, 1, [0]⟩]

set_option maxHeartbeats 1000000 in
theorem awake12_any (w : World) : Calls Try.prog 9 #[] w fun e w' => e = .returned (.bool true) ∧ Below w.heap.size w w' := by
  go_enter Try.func9, Try.ntmps9
  go_wp2_with fail
  go_at_call 10
  refine (aNew_c 1 1 w 1 1 (hide rfl) (hide rfl)).mono ?_
  rintro e w1 ⟨p, rfl, g, F1, h1, hf1, hp1, hb1⟩
  have E1 : Hid (AEnv w w1 p g 1 0 awL0 F1) := hide (AEnv.first (Below.refl _ _) h1 hf1 hp1 hb1)
  clear h1 hf1 hp1 hb1
  go_wp2_with fail
  go_at_call 12
  refine (aAsk_c p g 1 0 awL0 F1 0 0 w1 E1.out.n (by decide) ⟨0, 0, 1⟩ (hide rfl) true (hide rfl)).mono ?_
  rintro e w2 ⟨rfl, F2, h2, s2⟩
  have E2 : Hid (AEnv w w2 p g 1 1 awL1 F2) := hide (E1.out.step (Below.refl _ _) h2 s2)
  have n2 := hide (LAt.new E2.out.n ⟨0, 0, 1⟩)
  have E3 := hide (E2.out.quiet (belA w2 (atsO ⟨0, 0, 1⟩)))
  clear h2 s2 E1 E2
  go_wp2_with fail
  go_at_call 12
  refine (aAsk_c p g 1 1 awL1 F2 0 0 _ E3.out.n (by decide) at0 (hide rfl) false (hide rfl)).mono ?_
  rintro e w4 ⟨rfl, F4, h4, s4⟩
  have E4 : Hid (AEnv w w4 p g 1 2 awL2 F4) := hide (E3.out.step (Below.refl _ _) h4 s4)
  have E5 := hide (E4.out.quiet (belA w4 (atsO at0)))
  have n5 := hide ((n2.out.step s4).quiet (belA w4 (atsO at0)))
  clear h4 s4 E3 E4 n2
  go_wp2_with fail
  go_at_call 22
  refine (aWait_c p g 1 2 awL2 F4 0 _ E5.out.n (by decide)).mono ?_
  rintro e w6 ⟨v6, rfl, ob6, hW6, ho6, hb6⟩
  have v7 : Hid (LVw w6 F4 v6 [0]) := hide (LVw.of E5.out.n hW6 ho6)
  have E7 := hide (E5.out.quiet hb6)
  have n7 := hide (n5.out.quiet hb6)
  clear hW6 ho6 hb6 E5 n5
  go_wp2_with fail
  go_at_call 15
  refine (aDone_c p g 1 2 awL2 F4 0 1 w6 E7.out.n true (hide rfl)).mono ?_
  rintro e w8 ⟨rfl, F8, h8, s8⟩
  have E8 : Hid (AEnv w w8 p g 1 2 awL3 F8) := hide (E7.out.step (Below.refl _ _) h8 s8)
  have n8 := hide (n7.out.step s8)
  have v8 := hide (v7.out.step s8)
  clear h8 s8 E7 n7 v7
  go_wp2_with fail
  go_at_call 20
  refine (aCur_c p g 1 2 awL3 F8 0 w8 E8.out.n at0 (hide rfl) false (hide rfl)).mono ?_
  rintro e w9 ⟨rfl, hb9⟩
  have hb9' : Below w8.heap.size w8 (w9.alloc (atsO at0)) := hb9.trans ((belA w9 (atsO at0)).mono hb9.size)
  have E9 := hide (E8.out.quiet hb9')
  have n9 := hide (n8.out.quiet hb9')
  have v9 := hide (v8.out.quiet hb9')
  clear hb9 hb9' E8 n8 v8
  go_wp2_with fail
  go_at_call 17
  refine (aAck_c p g 1 2 awL3 F8 0 1 0 _ E9.out.n (by decide) ⟨0, 0, 2⟩ (hide rfl) true (hide rfl)).mono ?_
  rintro e w10 ⟨rfl, F10, h10, s10⟩
  have E10 : Hid (AEnv w w10 p g 1 3 awL4 F10) := hide (E9.out.step (Below.refl _ _) h10 s10)
  have n10 := hide ((n9.out.step s10).quiet (belA w10 (atsO ⟨0, 0, 2⟩)))
  have v10 := hide ((v9.out.step s10).quiet (belA w10 (atsO ⟨0, 0, 2⟩)))
  have E11 := hide (E10.out.quiet (belA w10 (atsO ⟨0, 0, 2⟩)))
  obtain ⟨y9, y0, y1, y2⟩ := n10.out.at'
  clear h10 s10 E9 n9 v9 E10 n10
  go_wp2_with fail
  go_at_call 21
  obtain ⟨b6, v11, -⟩ := (v10.out.quiet (belA _ (.cells #[.int .i64 0] 3)))
  refine (ints_c _ _ _ _ [0] [0] _ v11 (view_oneK (by simp) 0)).mono ?_
  rintro e w12 ⟨rfl, nq, rfl⟩
  have hfin := hide ((E11.out.quiet (belA _ (.cells #[.int .i64 0] 3))).quiet (belD _ nq)).bel
  clear v11 v10 E11
  go_wp2_with fail
  go_ret
  exact ⟨rfl, hfin.out⟩
end Go.Proofs.Ytlfdahcbkdiifaa
