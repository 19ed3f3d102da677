/- awake; a table in a law (layer 11). -/
import Derived.Test.YtgaabbnfjapcjaaTabC
import Derived.Test.YtgaabbnfjapcjaaTabL
import Derived.Test.YtgaabbnfjapcjaaActs11
namespace Go.Proofs.Ytgaabbnfjapcjaa
open Go.ChangeShapes Go.WideShapes Go.ChangeAt Go.RowKit
set_option linter.unusedSimpArgs false
set_option linter.unusedVariables false
set_option maxRecDepth 10000

attribute [local go_sem, local simp] over_const setCell_drewN alloc_drewN Over.cell Over.frozen lt_s1 lt_s2 lt_s3 le_s0 le_s1 le_s2 le_s3 eq_s0 eq_s1 eq_s2 qe_s0

theorem belA (w : World) (o : Obj) : Below w.heap.size w (w.alloc o) := (Below.refl _ _).alloc (Nat.le_refl _) _
theorem belD (w : World) (n : Nat) : Below w.heap.size w (w.drewN n) := belowN (Below.refl _ _) n

/-- A table in a law, and that no old memory has turned. -/
structure TEnv (w wr : World) (c t o N : Nat) (T : Tb) : Prop where
  n : TbIs wr c t o N T
  c0 : w.heap.size ≤ c
  t0 : w.heap.size ≤ t
  o0 : w.heap.size ≤ o
  bel : Below w.heap.size w wr

section
variable {w wr wz w3 : World} {c t o N N' : Nat} {T T' : Tb}
theorem TEnv.step (h : TEnv w wr c t o N T) (hz : Below wr.heap.size wr wz) (hn : TbIs w3 c t o N' T') (hf : FrS (FT t o) wz w3) : TEnv w w3 c t o N' T' := by
  have s1 := h.bel.size
  have s2 := hz.size
  exact ⟨hn, h.c0, h.t0, h.o0, (h.bel.trans (hz.mono s1)).trans (hf.below (fun i hi => by have := h.t0; have := h.o0; rcases hi with hi | hi <;> omega) (by omega))⟩
theorem TEnv.quiet (h : TEnv w wr c t o N T) (hz : Below wr.heap.size wr wz) : TEnv w wz c t o N T := ⟨h.n.below hz, h.c0, h.t0, h.o0, h.bel.trans (hz.mono h.bel.size)⟩
theorem TEnv.first {w1 w2 : World} (hB : Below w.heap.size w w1) (hn : TbIs w2 c t o N T) (hc : w1.heap.size ≤ c) (ht : w1.heap.size ≤ t) (ho : w1.heap.size ≤ o) (hb : Below w1.heap.size w1 w2) : TEnv w w2 c t o N T :=
  ⟨hn, Nat.le_trans hB.size hc, Nat.le_trans hB.size ht, Nat.le_trans hB.size ho, hB.trans (hb.mono hB.size)⟩
theorem TEnv.mono (h : TEnv w wr c t o N T) (hN : N ≤ N') : TEnv w wr c t o N' T := ⟨h.n.mono hN, h.c0, h.t0, h.o0, h.bel⟩
end

abbrev a32 : At := ⟨3, 1, 2⟩
abbrev a33 : At := ⟨3, 1, 3⟩
def awT1 : Tb := nxD tb0 3 2
def awT2 : Tb := nxA awT1 a32
def awT3 : Tb := nxA awT2 a33
theorem aw_no : okA awT1 a32 = false := by decide
theorem aw_ok : okA awT2 a33 = true := by decide
theorem aw_list : awT3.A = [a33] := by rfl
theorem aw_get : getA awT3.A 3 = a33 := by rw [aw_list]; rfl
theorem aw_has : hasA awT3.A 3 = true := by rw [aw_list]; rfl
theorem aw_get4 : getA awT3.A 4 = at0 := by rw [aw_list]; rfl
theorem aw_has4 : hasA awT3.A 4 = false := by rw [aw_list]; rfl
theorem i64_small {n : Int} (h0 : 0 ≤ n) (h1 : n ≤ 100) : I64 n := by unfold I64; omega

set_option maxHeartbeats 1000000 in
theorem awake11_any (w : World) : Calls Try.prog 8 #[] w fun e w' => e = .returned (.bool true) ∧ Below w.heap.size w w' := by
  go_enter Try.func8, Try.ntmps8
  go_wp2_with fail
  go_at_call 9
  refine (tNew_c w).mono ?_
  rintro e w1 ⟨c, rfl, t, o, h1, hc1, ht1, ho1, hb1⟩
  have E1 := hide (TEnv.first (Below.refl _ _) h1 hc1 ht1 ho1 hb1)
  clear h1 hc1 ht1 ho1 hb1
  go_wp2_with fail
  go_at_call 12
  refine (tDeactivate_c c t o 0 tb0 3 2 w1 (unhide E1).n (i64_small (by decide) (by decide)) (by decide)).mono ?_
  rintro e w2 ⟨rfl, h2, f2⟩
  have E2 : Hid (TEnv w w2 c t o 1 awT1) := hide ((unhide E1).step (Below.refl _ _) h2 f2)
  clear h2 f2 E1
  go_wp2_with fail
  go_at_call 10
  refine (tActivate_c c t o 1 awT1 a32 w2 (unhide E2).n (i64_small (by decide) (by decide)) (by decide) false (hide aw_no)).mono ?_
  rintro e w3 ⟨rfl, h3, f3⟩
  have E3 : Hid (TEnv w w3 c t o 2 awT2) := hide ((unhide E2).step (Below.refl _ _) h3 f3)
  clear h3 f3 E2
  go_wp2_with fail
  go_at_call 10
  refine (tActivate_c c t o 2 awT2 a33 w3 (unhide E3).n (i64_small (by decide) (by decide)) (by decide) true (hide aw_ok)).mono ?_
  rintro e w4 ⟨rfl, h4, f4⟩
  have E4 : Hid (TEnv w w4 c t o 3 awT3) := hide ((unhide E3).step (Below.refl _ _) h4 f4)
  clear h4 f4 E3
  go_wp2_with fail
  go_at_call 15
  refine (tActive_c c t o 3 awT3 3 w4 (unhide E4).n (i64_small (by decide) (by decide)) a33 (hide aw_get) true (hide aw_has)).mono ?_
  rintro e w5 ⟨rfl, hb5⟩
  have E5 := hide ((unhide E4).quiet hb5)
  clear hb5 E4
  have n5 := hide (ats_new w5 a33)
  have E6 := hide ((unhide E5).quiet (belA w5 (atsO a33)))
  clear E5
  go_wp2_with fail
  go_at_call 15
  refine (tActive_c c t o 3 awT3 4 _ (unhide E6).n (i64_small (by decide) (by decide)) at0 (hide aw_get4) false (hide aw_has4)).mono ?_
  rintro e w7 ⟨rfl, hb7⟩
  have E7 := hide ((unhide E6).quiet hb7)
  obtain ⟨y9, y0, y1, y2⟩ := (unhide n5).below hb7
  clear hb7 E6 n5
  go_wp2_with fail
  go_at_call 18
  refine (tList_c c t o 3 awT3 _ ((unhide E7).quiet (belA _ _)).n (by decide)).mono ?_
  rintro e w8 ⟨v8, rfl, g8, h8, hg8, hb8⟩
  rw [aw_list] at h8
  obtain ⟨ao8, cap8, rfl, -⟩ := h8
  have hfin := hide (((unhide E7).quiet (belA _ _)).quiet hb8).bel
  clear hb8 hg8 E7
  go_wp2_with fail
  go_ret
  exact ⟨rfl, unhide hfin⟩
end Go.Proofs.Ytgaabbnfjapcjaa
