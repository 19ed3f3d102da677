/- awake; a processor in a law (layer 14). -/
import Derived.Test.YtmdioofpghbjbaaProcB
namespace Go.Proofs.Ytmdioofpghbjbaa
open Go.ChangeShapes Go.WideShapes Go.ChangeAt Go.RowKit
set_option linter.unusedSimpArgs false
set_option linter.unusedVariables false
set_option maxRecDepth 10000

attribute [local go_sem, local simp] over_const setCell_drewN alloc_drewN Over.cell Over.frozen lt_s1 lt_s2 lt_s3 le_s0 le_s1 le_s2 le_s3 eq_s0 eq_s1 eq_s2 qe_s0

theorem belA (w : World) (o : Obj) : Below w.heap.size w (w.alloc o) := (Below.refl _ _).alloc (Nat.le_refl _) _
theorem belD (w : World) (n : Nat) : Below w.heap.size w (w.drewN n) := belowN (Below.refl _ _) n

/-- A processor in a law, and that no old memory has turned. -/
structure PEnv (w wr : World) (p : Nat) (wa tr : Int) (P : Pm) : Prop where
  n : PrIs wr p wa tr P
  p0 : w.heap.size ≤ p
  bel : Below w.heap.size w wr

section
variable {w wr wz w3 : World} {p q : Nat} {wa tr wa' tr' : Int} {P P' Q : Pm}
theorem PEnv.step (h : PEnv w wr p wa tr P) (hn : PrIs w3 p wa tr P') (hf : FrS (· = p) wr w3) : PEnv w w3 p wa tr P' :=
  ⟨hn, h.p0, h.bel.trans (hf.below (fun i hi => by have := h.p0; omega) h.bel.size)⟩
theorem PEnv.quiet (h : PEnv w wr p wa tr P) (hz : Below wr.heap.size wr wz) : PEnv w wz p wa tr P := ⟨h.n.below hz, h.p0, h.bel.trans (hz.mono h.bel.size)⟩
theorem PEnv.first {w1 w2 : World} (hB : Below w.heap.size w w1) (hn : PrIs w2 p wa tr P) (hp : w1.heap.size ≤ p) (hb : Below w1.heap.size w1 w2) : PEnv w w2 p wa tr P :=
  ⟨hn, Nat.le_trans hB.size hp, hB.trans (hb.mono hB.size)⟩
/-- Another one's block is written. -/
theorem PEnv.aside (h : PEnv w wr p wa tr P) (hf : FrS (· = q) wr w3) (hq : w.heap.size ≤ q) (hne : p ≠ q) : PEnv w w3 p wa tr P :=
  ⟨h.n.fr hf hne, h.p0, h.bel.trans (hf.below (fun i hi => by omega) h.bel.size)⟩
end

theorem u64_nonneg (x : Int) : 0 ≤ IntKind.u64.wrap x := by
  unfold IntKind.wrap
  simp [IntKind.signed, IntKind.bits]
  omega
/-- A number, taken without its sign, and what a divisor leaves over of it. -/
theorem rem_u (x k : Int) (h0 : 0 < k) (h1 : k ≤ 1000) : ∃ n : Nat, (n : Int) < k ∧ wrap64 ((IntKind.u64.wrap x).tmod k) = n := by
  have h := u64_nonneg x
  have e := Int.emod_nonneg (IntKind.u64.wrap x) (show k ≠ 0 by omega)
  have e2 := Int.emod_lt_of_pos (IntKind.u64.wrap x) h0
  refine ⟨((IntKind.u64.wrap x) % k).toNat, by omega, ?_⟩
  rw [Int.tmod_eq_emod_of_nonneg h]
  unfold wrap64
  omega

abbrev aw0 : Pm := pm0
abbrev aw1 : Pm := ⟨0, 1, 0, false, ⟨4, false, 0⟩, true⟩
abbrev aw2 : Pm := ⟨0, 0, 0, true, ⟨4, false, 0⟩, true⟩
abbrev aw3 : Pm := ⟨1, 0, 0, false, op30, false⟩

set_option maxHeartbeats 1000000 in
theorem awake14_any (w : World) : Calls Try.prog 8 #[] w fun e w' => e = .returned (.bool true) ∧ Below w.heap.size w w' := by
  go_enter Try.func8, Try.ntmps8
  go_wp2_with fail
  go_at_call 9
  refine (pNew_c 1 0 w (by decide) (by decide)).mono ?_
  rintro e w1 ⟨p, rfl, h1, hp1, hb1⟩
  have E1 := hide (PEnv.first (Below.refl _ _) h1 hp1 hb1)
  clear h1 hp1 hb1
  go_wp2_with fail
  go_at_call 18
  refine (pPin_c p 1 0 aw0 w1 E1.out.n (-1) (hide rfl)).mono ?_
  rintro e w' ⟨rfl, hw'⟩
  rw [hw']
  clear hw' w'
  go_wp2_with fail
  go_at_call 10
  refine (pIss_c p 1 0 aw0 ⟨4, false, 0⟩ w1 E1.out.n true (hide rfl)).mono ?_
  rintro e w2 ⟨rfl, h2, f2⟩
  have E2 : Hid (PEnv w w2 p 1 0 aw1) := hide (E1.out.step h2 f2)
  clear h2 f2 E1
  go_wp2_with fail
  go_at_call 10
  refine (pIss_c p 1 0 aw1 op30 w2 E2.out.n false (hide rfl)).mono ?_
  rintro e w3 ⟨rfl, h3, f3⟩
  have E3 : Hid (PEnv w w3 p 1 0 aw1) := hide (E2.out.step h3 f3)
  clear h3 f3 E2
  go_wp2_with fail
  go_at_call 14
  refine (pTick_c p 1 0 aw1 w3 E3.out.n 2 (hide rfl)).mono ?_
  rintro e w4 ⟨rfl, h4, f4⟩
  have E4 : Hid (PEnv w w4 p 1 0 aw2) := hide (E3.out.step h4 f4)
  clear h4 f4 E3
  go_wp2_with fail
  go_at_call 14
  refine (pTick_c p 1 0 aw2 w4 E4.out.n 0 (hide rfl)).mono ?_
  rintro e w5 ⟨rfl, h5, f5⟩
  have E5 : Hid (PEnv w w5 p 1 0 aw2) := hide (E4.out.step h5 f5)
  clear h5 f5 E4
  go_wp2_with fail
  go_at_call 18
  refine (pPin_c p 1 0 aw2 w5 E5.out.n 4 (hide rfl)).mono ?_
  rintro e w' ⟨rfl, hw'⟩
  rw [hw']
  clear hw' w'
  go_wp2_with fail
  go_at_call 12
  refine (pFin_c p 1 0 aw2 w5 E5.out.n (by decide) 1 (hide rfl) true (hide rfl)).mono ?_
  rintro e w6 ⟨rfl, h6, f6⟩
  have E6 : Hid (PEnv w w6 p 1 0 aw3) := hide (E5.out.step h6 f6)
  clear h6 f6 E5
  go_wp2_with fail
  go_at_call 12
  refine (pFin_c p 1 0 aw3 w6 E6.out.n (by decide) 0 (hide rfl) false (hide rfl)).mono ?_
  rintro e w7 ⟨rfl, h7, f7⟩
  have E7 : Hid (PEnv w w7 p 1 0 aw3) := hide (E6.out.step h7 f7)
  clear h7 f7 E6
  go_wp2_with fail
  go_ret
  exact ⟨rfl, E7.out.bel⟩
end Go.Proofs.Ytmdioofpghbjbaa
