/- layer 15: Env15 Tell15 Two15, put together. -/
import Derived.Test.YtoenjdnccgmhoaaGreatDoorB38
import Derived.Test.YtoenjdnccgmhoaaGreatDoorB43
import Derived.Test.YtoenjdnccgmhoaaGreatDoorB45
import Derived.Deep.WholeRow
import Derived.Test.YtoenjdnccgmhoaaGreatDoorZOtRow
namespace Go.Proofs.YtoenjdnccgmhoaaGreatDoor
open Go.ChangeShapes Go.WideShapes Go.ChangeAt Go.RowKit
set_option linter.unusedSimpArgs false
set_option linter.unusedVariables false
set_option maxRecDepth 10000
attribute [local go_sem, local simp] over_const setCell_drewN alloc_drewN Over.cell Over.frozen lt_s1 lt_s2 lt_s3 le_s0 le_s1 le_s2 le_s3 eq_s0 eq_s1 eq_s2 qe_s0
theorem At5.low {w V : World} {p : Nat} {B : Bk} {Fc F : Nat → Prop} {c : Cf} {id : Int} {N : Nat} {D : Nd} {K : List (Nat × Obj)} (h : At5 w V p B Fc F c id N D K) (hlo : ∀ x, Fa p B Fc x → w.heap.size ≤ x) : Below w.heap.size w V := h.s.belowW (Below.refl _ _) hlo
theorem acts_at {w : World} {k : Nat} {x : Ac} (h : w.heap[k]? = some (actsO x)) : w.cell? ⟨k, 0, none⟩ = some (.int .i64 x.k) ∧ w.cell? ⟨k, 1, none⟩ = some (.int .i64 x.op.b) ∧ w.cell? ⟨k, 2, none⟩ = some (.bool x.op.w) ∧ w.cell? ⟨k, 3, none⟩ = some (.int .i64 x.op.v) ∧ w.cell? ⟨k, 4, none⟩ = some (.int .i64 x.l.k) ∧ w.cell? ⟨k, 5, none⟩ = some (.int .i64 x.l.a) ∧ w.cell? ⟨k, 6, none⟩ = some (.int .i64 x.l.b) ∧ w.cell? ⟨k, 7, none⟩ = some (.int .i64 x.l.q) ∧ w.cell? ⟨k, 8, none⟩ = some (.int .i64 x.l.s) ∧ w.cell? ⟨k, 9, none⟩ = some (.int .i64 x.l.w) ∧ w.cell? ⟨k, 10, none⟩ = some (.bool x.l.r) ∧ w.cell? ⟨k, 11, none⟩ = some (.int .i64 x.l.n) ∧ w.cell? ⟨k, 12, none⟩ = some (.bool x.l.o) ∧ w.cell? ⟨k, 13, none⟩ = some (.bool x.l.h) ∧ w.cell? ⟨k, 14, none⟩ = some (.int .i64 x.l.d) ∧ w.cell? ⟨k, 15, none⟩ = some (.int .i64 x.d0) ∧ w.cell? ⟨k, 16, none⟩ = some (.int .i64 x.d1) ∧ w.cell? ⟨k, 17, none⟩ = some (.int .i64 x.d2) := by
  refine ⟨?_, ?_, ?_, ?_, ?_, ?_, ?_, ?_, ?_, ?_, ?_, ?_, ?_, ?_, ?_, ?_, ?_, ?_⟩ <;> exact cell_of_row _ _ _ _ _ _ h
theorem i64_op {c : Cf} {id : Int} (hc : CfOk c id) {x : Int} (h0 : 0 ≤ x) (h1 : x < c.bl) : I64 x := by
  have := hc.b1
  exact ⟨by omega, by omega⟩
theorem acts_i64 {B : Nat} {w : World} {v : Value} {A : List Ac} (h : ActsAt B w v A) : ∀ x ∈ A, I64 x.op.b ∧ I64 x.l.k := by
  obtain ⟨ao, cap, -, -, -, h4⟩ := h
  intro x hx
  rcases h4 with rfl | ⟨b, o, -, -, -, h7⟩
  · cases hx
  · obtain ⟨j, hj, rfl⟩ := List.getElem_of_mem hx
    exact (h7 j hj).1
structure One (w V : World) (p : Nat) (B : Bk) (F : Nat → Prop) (c : Cf) (id : Int) (N : Nat) (D : Nd) : Prop where
  n : NdIs V p B F c id N D
  lo : ∀ b, Fa p B F b → w.heap.size ≤ b
  bel : Below w.heap.size w V
section
variable {w V V' : World} {p : Nat} {B : Bk} {F F2 : Nat → Prop} {c : Cf} {id : Int} {N M : Nat} {D D2 : Nd}
theorem One.below (h : One w V p B F c id N D) (hb : Below V.heap.size V V') : One w V' p B F c id N D := ⟨h.n.below hb, h.lo, h.bel.trans (hb.mono h.bel.size)⟩
theorem One.step (h : One w V p B F c id N D) (hn : NdIs V' p B F2 c id M D2) (hs : Step (Fa p B F) (Fa p B F2) V V') : One w V' p B F2 c id M D2 := ⟨hn, hs.lo h.lo h.bel.size, hs.belowW h.bel h.lo⟩
theorem One.alloc (h : One w V p B F c id N D) (o : Obj) : One w (V.alloc o) p B F c id N D := h.below ((Below.refl _ _).alloc (Nat.le_refl _) _)
end
theorem wpList_store_new {P : Program} {ops : Array Oper} {rest : List Oper} {op : Oper} {a : Act} {w : World} {Q : Exit → Act → World → Prop} {cs zs : Array Value} {ty : TypeId} (x y : Operand) (ho : op.op = .store ty x y) (hgd : op.guard = none) (hx : a.eval x = .pointer (some ⟨w.heap.size, 0, none⟩)) (hy : a.eval y = .agg cs)
    (hi : (P.info? ty).map (·.size) = some cs.size) (hs : zs.size = cs.size) (h1 : cs.all (·.oneCell') = true) (h : wpList P ops Q rest (a.put op.dst undef) (w.alloc (.cells cs ty))) : wpList P ops Q (op :: rest) a (w.alloc (.cells zs ty)) := by
  refine wpList_store_row hgd ty x y ho w.heap.size cs hx hy ty zs (heap_alloc_last w _) hi hs h1 ?_
  rw [World.setRow_alloc_new]
  exact h
theorem infoAc : (Tryz.prog.info? 40).map (·.size) = some 18 := by kernel_rfl
def actC (x : Ac) : List Value := [.int .i64 x.k, .int .i64 x.op.b, .bool x.op.w, .int .i64 x.op.v, .int .i64 x.l.k, .int .i64 x.l.a, .int .i64 x.l.b, .int .i64 x.l.q, .int .i64 x.l.s, .int .i64 x.l.w, .bool x.l.r, .int .i64 x.l.n, .bool x.l.o, .bool x.l.h, .int .i64 x.l.d, .int .i64 x.d0, .int .i64 x.d1, .int .i64 x.d2]
theorem actC_one (x : Ac) : (actC x).toArray.all (fun v => v.oneCell') = true := by simp [actC, Value.oneCell']
theorem acts_range {B : Nat} {w : World} {ao : Option Addr} {n cap : Nat} {A : List Ac} (h : ActsAt B w (.slice ao n cap) A) {j : Nat} (hj : j < A.length) : ∃ b o, ao = some ⟨b, o, none⟩ ∧ b < B ∧ b < w.heap.size ∧ w.rangeAt b (o + j * 18) (actC A[j]) := by
  obtain ⟨b, o, e, h1, h2, -, r0, r1, r2, r3, r4, r5, r6, r7, r8, r9, r10, r11, r12, r13, r14, r15, r16, r17⟩ := acts_row h hj
  refine ⟨b, o, e, h1, h2, fun i v hv => ?_⟩
  have hi : i < 18 := (List.getElem?_eq_some_iff.1 hv).1
  have hc : i = 0 ∨ i = 1 ∨ i = 2 ∨ i = 3 ∨ i = 4 ∨ i = 5 ∨ i = 6 ∨ i = 7 ∨ i = 8 ∨ i = 9 ∨ i = 10 ∨ i = 11 ∨ i = 12 ∨ i = 13 ∨ i = 14 ∨ i = 15 ∨ i = 16 ∨ i = 17 := by omega
  rcases hc with rfl | rfl | rfl | rfl | rfl | rfl | rfl | rfl | rfl | rfl | rfl | rfl | rfl | rfl | rfl | rfl | rfl | rfl <;> cases hv
  · exact r0
  · exact r1
  · exact r2
  · exact r3
  · exact r4
  · exact r5
  · exact r6
  · exact r7
  · exact r8
  · exact r9
  · exact r10
  · exact r11
  · exact r12
  · exact r13
  · exact r14
  · exact r15
  · exact r16
  · exact r17
theorem range_new (w : World) (x : Ac) : (w.alloc (actsO x)).rangeAt w.heap.size 0 (actC x) := fun i v hv => by
  rw [Nat.zero_add]
  refine (cell_of_row _ _ _ _ _ _ (heap_alloc_new w _)).trans ?_
  rw [← hv]
  simp [actC]
theorem range_of {w : World} {k : Nat} {x : Ac} (h : w.heap[k]? = some (actsO x)) : w.rangeAt k 0 (actC x) := fun i v hv => by
  rw [Nat.zero_add]
  refine (cell_of_row _ _ _ _ _ _ h).trans ?_
  rw [← hv]
  simp [actC]
def doL (c : Cf) (id : Int) (D : Nd) (x : Ac) : List Lt := if x.k = 1 then isL c id D x.op x.d0 x.d1 else if x.k = 2 then tkL c id D x.l x.d0 x.d1 else if x.k = 3 then tiL c id D x.d0 x.d1 else []
def doN (c : Cf) (id : Int) (D : Nd) (x : Ac) : List Dn := if x.k = 1 then isN c id D x.op else if x.k = 2 then tkN c id D x.l else []
def nxN (c : Cf) (id : Int) (D : Nd) (x : Ac) : Nd := if x.k = 1 then nxIs c id D x.op else if x.k = 2 then nxTake c id D x.l x.d0 x.d1 else if x.k = 3 then nxTi c D else D
theorem i64_0 : I64 0 := ⟨by decide, by decide⟩
theorem nxF_op {P : Pm} (h : I64 P.op.b) : I64 (nxF P).op.b := by
  unfold nxF; split
  · exact i64_0
  · exact h
theorem nxS_op {c : Cf} {id : Int} {D : Nd} (h : I64 D.P.op.b) : I64 (nxS c id D).P.op.b := by
  unfold nxS; split
  · rw [nxE_P]; exact nxF_op h
  · exact h
theorem nxN_op {c : Cf} {id : Int} {D : Nd} {x : Ac} (h : I64 D.P.op.b) (hx : I64 x.op.b) : I64 (nxN c id D x).P.op.b := by
  unfold nxN
  split
  · unfold nxIs
    split
    · refine nxS_op ?_
      show I64 (nxI c.cu D.P x.op).op.b
      unfold nxI
      split
      · exact h
      · exact hx
    · exact h
  · split
    · unfold nxTake
      split
      · split
        · unfold nxTok
          split
          · exact h
          · exact nxS_op h
        · split
          · unfold nxAns; split
            · exact h
            · exact h
          · split
            · unfold nxAc
              split
              · split
                · split
                  · exact h
                  · rw [nxE_P]; exact h
                · exact h
              · exact h
            · split
              · exact h
              · exact h
      · exact h
    · split
      · unfold nxTi tiD nxT
        split
        · show I64 (if D.P.busy = true then _ else _ : Pm).op.b
          split
          · exact h
          · exact h
        · show I64 (if D.P.busy = true then _ else _ : Pm).op.b
          split
          · exact h
          · exact h
      · exact h
set_option maxHeartbeats 4000000 in
theorem do15_c (p : Nat) (B : Bk) (Fc : Nat → Prop) (c : Cf) (id : Int) (N : Nat) (D : Nd) (x : Ac) (w : World) (h : NdIs w p B Fc c id N D) (hT : Hid (Tab w)) (hN1 : N + 3 ≤ 2000) (hlk : I64 x.l.k) (hop : I64 D.P.op.b) (L : List Lt) (hL : Hid (doL c id D x = L)) (M : List Dn) (hM : Hid (doN c id D x = M)) : Calls Tryz.prog 28 #[ptr p, .agg #[.int .i64 x.k, .int .i64 x.op.b, .bool x.op.w, .int .i64 x.op.v, .int .i64 x.l.k, .int .i64 x.l.a, .int .i64 x.l.b, .int .i64 x.l.q, .int .i64 x.l.s, .int .i64 x.l.w, .bool x.l.r, .int .i64 x.l.n, .bool x.l.o, .bool x.l.h, .int .i64 x.l.d, .int .i64 x.d0, .int .i64 x.d1, .int .i64 x.d2]] w fun e w' => ∃ v1 v2, e = .returned (.agg #[v1, v2]) ∧ ∃ Fc' g1 g2, OutP w p B Fc Fc' c id (N + 3) (nxN c id D x) L M v1 v2 w' g1 g2 := by
  have hH := hide h
  have hL' := hL.out
  have hM' := hM.out
  unfold doL at hL'
  unfold doN at hM'
  unfold nxN
  clear hL hM h
  by_cases k1 : x.k = 1
  · rw [if_pos k1] at hL' hM' ⊢
    have hL2 := hide hL'
    have hM2 := hide hM'
    obtain ⟨ok, hok⟩ : ∃ ok, Hid (isOk c D x.op = ok) := ⟨_, hide rfl⟩
    clear hL' hM'
    replace k1 := hide k1
    go_enter Tryz.func28, Tryz.ntmps28
    go_upto_region 1 with fail
    refine name_world ?_
    intro V hV
    have Q1 : Hid (At5 w V p B Fc Fc c id N D [(w.heap.size + 1, outR (.slice none 0 0) (.slice none 0 0)), (w.heap.size, actsO x)]) := by
      have h1 := ((At5.mk hH.out (fun x hx => by cases hx) (Step.refl _ _) : At5 w w p B Fc Fc c id N D []).new (actsO x)).new (outR (.slice none 0 0) (.slice none 0 0))
      rw [World.size_alloc] at h1
      rw [← hV]; exact hide h1
    have hBV : Hid (Below w.heap.size w V) := by rw [← hV]; exact hide (by all_goals exact belEnd)
    obtain ⟨R, hRe⟩ : ∃ R, Hid (w.heap.size + 1 = R) := ⟨_, hide rfl⟩
    obtain ⟨ka, hae⟩ : ∃ k, Hid (w.heap.size = k) := ⟨_, hide rfl⟩
    rw [hRe.out, hae.out] at Q1
    rw [hRe.out, hae.out]
    clear hV
    have hTV := hide (hT.out.lowB hBV.out)
    obtain ⟨la, xa⟩ := bz_get Q1.out.x (k := ka) (o := actsO x) (by simp)
    obtain ⟨a0, a1, a2, a3, a4, a5, a6, a7, a8, a9, a10, a11, a12, a13, a14, a15, a16, a17⟩ := acts_at xa
    obtain ⟨lR, xR⟩ := bz_get Q1.out.x (k := R) (o := outR (.slice none 0 0) (.slice none 0 0)) (by simp)
    clear xa
    rw [k1.out] at a0
    go_wp2_with fail
    go_at_call 15
    refine (ndIssue_c p B Fc c id N D x.op x.d0 x.d1 x.d2 _ Q1.out.n (by omega) ok hok L hL2 M hM2).mono ?_
    rintro e w5 ⟨v1, v2, rfl, Fc5, g1, g2, hO⟩
    obtain ⟨ao1, cap1, e1, -⟩ := _root_.id hO.own
    obtain ⟨ao2, cap2, e2, -⟩ := _root_.id hO.dn
    subst e1 e2
    have Q5 := hide ((Q1.out.step hO.nd hO.st).step (hO.nd.mono (show _ ≤ N + 3 by omega)) (Step.refl _ _))
    have hg1 := hide (show w.heap.size ≤ g1 from Nat.le_trans Q1.out.s.fr.size hO.new)
    have hgR : Hid (R < g1) := hide (by have := hO.new; omega)
    have hne := hide (fun h => (⟨(hO.ne h).1, Nat.le_trans Q1.out.s.fr.size (hO.ne h).2, by have := (hO.ne h).2; omega⟩ : g2 ≠ g1 ∧ w.heap.size ≤ g2 ∧ g2 ≠ R))
    have ow5 := hide hO.own
    have dn5 := hide hO.dn
    have hf1 := hide hO.nf1
    have hf2 := hide hO.nf2
    clear hO a0 a1 a2 a3 a4 a5 a6 a7 a8 a9 a10 a11 a12 a13 a14 a15 a16 a17 la lR xR Q1
    obtain ⟨lR, xR⟩ := bz_get Q5.out.x (k := R) (o := outR (.slice none 0 0) (.slice none 0 0)) (by simp)
    obtain ⟨r0, r1, z⟩ := out_at xR
    go_wp2_with fail
    refine bodyPost_ret (v := .agg #[.slice ao1 L.length cap1, .slice ao2 M.length cap2]) (by simp [results, Tryz.results28, go_sem, *]; done) rfl ⟨_, _, rfl, Fc5, g1, g2, ?_⟩
    exact OutP.below (out_fin5 (R := R) Q5.out (o := outR (.slice none 0 0) (.slice none 0 0)) (by simp) ow5.out dn5.out hg1.out (by have := hgR.out; omega) hne.out hf1.out hf2.out) ((Below.refl _ _).alloc (Nat.le_refl _) _)
  rw [if_neg k1] at hL' hM' ⊢
  obtain ⟨d1, d2, d3⟩ := cmpF k1
  replace k1 := hide k1
  by_cases k2 : x.k = 2
  · rw [if_pos k2] at hL' hM' ⊢
    have hL2 := hide hL'
    have hM2 := hide hM'
    clear hL' hM' d1 d2 d3
    replace k2 := hide k2
    go_enter Tryz.func28, Tryz.ntmps28
    go_upto_region 1 with fail
    refine name_world ?_
    intro V hV
    have Q1 : Hid (At5 w V p B Fc Fc c id N D [(w.heap.size + 1, outR (.slice none 0 0) (.slice none 0 0)), (w.heap.size, actsO x)]) := by
      have h1 := ((At5.mk hH.out (fun x hx => by cases hx) (Step.refl _ _) : At5 w w p B Fc Fc c id N D []).new (actsO x)).new (outR (.slice none 0 0) (.slice none 0 0))
      rw [World.size_alloc] at h1
      rw [← hV]; exact hide h1
    have hBV : Hid (Below w.heap.size w V) := by rw [← hV]; exact hide (by all_goals exact belEnd)
    obtain ⟨R, hRe⟩ : ∃ R, Hid (w.heap.size + 1 = R) := ⟨_, hide rfl⟩
    obtain ⟨ka, hae⟩ : ∃ k, Hid (w.heap.size = k) := ⟨_, hide rfl⟩
    rw [hRe.out, hae.out] at Q1
    rw [hRe.out, hae.out]
    clear hV
    have hTV := hide (hT.out.lowB hBV.out)
    obtain ⟨la, xa⟩ := bz_get Q1.out.x (k := ka) (o := actsO x) (by simp)
    obtain ⟨a0, a1, a2, a3, a4, a5, a6, a7, a8, a9, a10, a11, a12, a13, a14, a15, a16, a17⟩ := acts_at xa
    obtain ⟨lR, xR⟩ := bz_get Q1.out.x (k := R) (o := outR (.slice none 0 0) (.slice none 0 0)) (by simp)
    clear xa
    rw [k2.out] at a0
    go_wp2_with fail
    go_at_call 17
    refine (ndTake_c p B Fc c id N D x.l x.d0 x.d1 x.d2 _ Q1.out.n hTV hN1 hlk hop L hL2 M hM2).mono ?_
    rintro e w5 ⟨v1, v2, rfl, Fc5, g1, g2, hO⟩
    obtain ⟨ao1, cap1, e1, -⟩ := _root_.id hO.own
    obtain ⟨ao2, cap2, e2, -⟩ := _root_.id hO.dn
    subst e1 e2
    have Q5 := hide ((Q1.out.step hO.nd hO.st).step (hO.nd.mono (show _ ≤ N + 3 by omega)) (Step.refl _ _))
    have hg1 := hide (show w.heap.size ≤ g1 from Nat.le_trans Q1.out.s.fr.size hO.new)
    have hgR : Hid (R < g1) := hide (by have := hO.new; omega)
    have hne := hide (fun h => (⟨(hO.ne h).1, Nat.le_trans Q1.out.s.fr.size (hO.ne h).2, by have := (hO.ne h).2; omega⟩ : g2 ≠ g1 ∧ w.heap.size ≤ g2 ∧ g2 ≠ R))
    have ow5 := hide hO.own
    have dn5 := hide hO.dn
    have hf1 := hide hO.nf1
    have hf2 := hide hO.nf2
    clear hO a0 a1 a2 a3 a4 a5 a6 a7 a8 a9 a10 a11 a12 a13 a14 a15 a16 a17 la lR xR Q1
    obtain ⟨lR, xR⟩ := bz_get Q5.out.x (k := R) (o := outR (.slice none 0 0) (.slice none 0 0)) (by simp)
    obtain ⟨r0, r1, z⟩ := out_at xR
    go_wp2_with fail
    refine bodyPost_ret (v := .agg #[.slice ao1 L.length cap1, .slice ao2 M.length cap2]) (by simp [results, Tryz.results28, go_sem, *]; done) rfl ⟨_, _, rfl, Fc5, g1, g2, ?_⟩
    exact out_fin5 (R := R) Q5.out (o := outR (.slice none 0 0) (.slice none 0 0)) (by simp) ow5.out dn5.out hg1.out (by have := hgR.out; omega) hne.out hf1.out hf2.out
  rw [if_neg k2] at hL' hM' ⊢
  obtain ⟨d4, d5, d6⟩ := cmpF k2
  replace k2 := hide k2
  obtain rfl : [] = M := hM'
  by_cases k3 : x.k = 3
  · rw [if_pos k3] at hL' ⊢
    have hL2 := hide hL'
    clear hL' d1 d2 d3 d4 d5 d6
    replace k3 := hide k3
    go_enter Tryz.func28, Tryz.ntmps28
    go_upto_region 1 with fail
    refine name_world ?_
    intro V hV
    have Q1 : Hid (At5 w V p B Fc Fc c id N D [(w.heap.size + 1, outR (.slice none 0 0) (.slice none 0 0)), (w.heap.size, actsO x)]) := by
      have h1 := ((At5.mk hH.out (fun x hx => by cases hx) (Step.refl _ _) : At5 w w p B Fc Fc c id N D []).new (actsO x)).new (outR (.slice none 0 0) (.slice none 0 0))
      rw [World.size_alloc] at h1
      rw [← hV]; exact hide h1
    have hBV : Hid (Below w.heap.size w V) := by rw [← hV]; exact hide (by all_goals exact belEnd)
    obtain ⟨R, hRe⟩ : ∃ R, Hid (w.heap.size + 1 = R) := ⟨_, hide rfl⟩
    obtain ⟨ka, hae⟩ : ∃ k, Hid (w.heap.size = k) := ⟨_, hide rfl⟩
    rw [hRe.out, hae.out] at Q1
    rw [hRe.out, hae.out]
    clear hV
    have hTV := hide (hT.out.lowB hBV.out)
    obtain ⟨la, xa⟩ := bz_get Q1.out.x (k := ka) (o := actsO x) (by simp)
    obtain ⟨a0, a1, a2, a3, a4, a5, a6, a7, a8, a9, a10, a11, a12, a13, a14, a15, a16, a17⟩ := acts_at xa
    obtain ⟨lR, xR⟩ := bz_get Q1.out.x (k := R) (o := outR (.slice none 0 0) (.slice none 0 0)) (by simp)
    clear xa
    rw [k3.out] at a0
    go_wp2_with fail
    go_at_call 19
    refine (ndTick_c p B Fc c id N D x.d0 x.d1 x.d2 _ Q1.out.n (by omega) hop L hL2).mono ?_
    rintro e w5 ⟨v1, v2, rfl, g1, g2, hO⟩
    obtain ⟨ao1, cap1, e1, -⟩ := _root_.id hO.own
    obtain ⟨ao2, cap2, e2, -⟩ := _root_.id hO.dn
    subst e1 e2
    have Q5 := hide ((Q1.out.step hO.nd hO.st).step (hO.nd.mono (show _ ≤ N + 3 by omega)) (Step.refl _ _))
    have hg1 := hide (show w.heap.size ≤ g1 from Nat.le_trans Q1.out.s.fr.size hO.new)
    have hgR : Hid (R < g1) := hide (by have := hO.new; omega)
    have hne := hide (fun h => (⟨(hO.ne h).1, Nat.le_trans Q1.out.s.fr.size (hO.ne h).2, by have := (hO.ne h).2; omega⟩ : g2 ≠ g1 ∧ w.heap.size ≤ g2 ∧ g2 ≠ R))
    have ow5 := hide hO.own
    have dn5 := hide hO.dn
    have hf1 := hide hO.nf1
    have hf2 := hide hO.nf2
    clear hO a0 a1 a2 a3 a4 a5 a6 a7 a8 a9 a10 a11 a12 a13 a14 a15 a16 a17 la lR xR Q1
    obtain ⟨lR, xR⟩ := bz_get Q5.out.x (k := R) (o := outR (.slice none 0 0) (.slice none 0 0)) (by simp)
    obtain ⟨r0, r1, z⟩ := out_at xR
    go_wp2_with fail
    refine bodyPost_ret (v := .agg #[.slice ao1 L.length cap1, .slice ao2 0 cap2]) (by simp [results, Tryz.results28, go_sem, *]; done) rfl ⟨_, _, rfl, Fc, g1, g2, ?_⟩
    exact out_fin5 (R := R) Q5.out (o := outR (.slice none 0 0) (.slice none 0 0)) (by simp) ow5.out dn5.out hg1.out (by have := hgR.out; omega) hne.out hf1.out hf2.out
  · rw [if_neg k3] at hL' ⊢
    obtain ⟨d7, d8, d9⟩ := cmpF k3
    replace k3 := hide k3
    obtain rfl : [] = L := hL'
    go_enter Tryz.func28, Tryz.ntmps28
    go_upto_region 1 with fail
    refine name_world ?_
    intro V hV
    have Q1 : Hid (At5 w V p B Fc Fc c id N D [(w.heap.size + 1, outR (.slice none 0 0) (.slice none 0 0)), (w.heap.size, actsO x)]) := by
      have h1 := ((At5.mk hH.out (fun x hx => by cases hx) (Step.refl _ _) : At5 w w p B Fc Fc c id N D []).new (actsO x)).new (outR (.slice none 0 0) (.slice none 0 0))
      rw [World.size_alloc] at h1
      rw [← hV]; exact hide h1
    have hBV : Hid (Below w.heap.size w V) := by rw [← hV]; exact hide (by all_goals exact belEnd)
    obtain ⟨R, hRe⟩ : ∃ R, Hid (w.heap.size + 1 = R) := ⟨_, hide rfl⟩
    obtain ⟨ka, hae⟩ : ∃ k, Hid (w.heap.size = k) := ⟨_, hide rfl⟩
    rw [hRe.out, hae.out] at Q1
    rw [hRe.out, hae.out]
    clear hV
    have hTV := hide (hT.out.lowB hBV.out)
    obtain ⟨la, xa⟩ := bz_get Q1.out.x (k := ka) (o := actsO x) (by simp)
    obtain ⟨a0, a1, a2, a3, a4, a5, a6, a7, a8, a9, a10, a11, a12, a13, a14, a15, a16, a17⟩ := acts_at xa
    obtain ⟨lR, xR⟩ := bz_get Q1.out.x (k := R) (o := outR (.slice none 0 0) (.slice none 0 0)) (by simp)
    clear xa
    obtain ⟨r0, r1, z⟩ := out_at xR
    go_wp2_with fail
    refine bodyPost_ret (v := .agg #[.slice none 0 0, .slice none 0 0]) (by simp [results, Tryz.results28, go_sem, *]; done) rfl ⟨_, _, rfl, Fc, ka, ka, ?_⟩
    have ow : OwnT V (.slice none 0 0) ka [] := own_nilT la
    exact out_fin5 (R := R) (Q1.out.step (Q1.out.n.mono (by omega)) (Step.refl _ _)) (o := outR (.slice none 0 0) (.slice none 0 0)) (by simp) ow (view_nilD _ _) (by have := hae.out; omega) (by have := hae.out; have := hRe.out; omega) (fun h => absurd rfl h) ((Q1.out.x (ka, actsO x) (by simp)).2.2.1) (fun h => absurd rfl h)
structure Two (w V : World) (p q : Nat) (B B' : Bk) (F F' : Nat → Prop) (c : Cf) (id : Int) (N N' : Nat) (D D' : Nd) : Prop where
  n : NdIs V p B F c id N D
  k : NdIs V q B' F' c id N' D'
  ap : ∀ b, Fa p B F b → ¬ Fa q B' F' b
  lo : ∀ b, Fa p B F b → w.heap.size ≤ b
  lo' : ∀ b, Fa q B' F' b → w.heap.size ≤ b
  bel : Below w.heap.size w V
section
variable {w V V' : World} {p q : Nat} {B B' : Bk} {F F' F2 : Nat → Prop} {c : Cf} {id : Int} {N N' M : Nat} {D D' D2 : Nd}
theorem Two.swap (h : Two w V p q B B' F F' c id N N' D D') : Two w V q p B' B F' F c id N' N D' D := ⟨h.k, h.n, fun b h1 h2 => h.ap b h2 h1, h.lo', h.lo, h.bel⟩
theorem Two.below (h : Two w V p q B B' F F' c id N N' D D') (hb : Below V.heap.size V V') : Two w V' p q B B' F F' c id N N' D D' := ⟨h.n.below hb, h.k.below hb, h.ap, h.lo, h.lo', h.bel.trans (hb.mono h.bel.size)⟩
theorem Two.alloc (h : Two w V p q B B' F F' c id N N' D D') (o : Obj) : Two w (V.alloc o) p q B B' F F' c id N N' D D' := h.below ((Below.refl _ _).alloc (Nat.le_refl _) _)
theorem Two.step (h : Two w V p q B B' F F' c id N N' D D') (hn : NdIs V' p B F2 c id M D2) (hs : Step (Fa p B F) (Fa p B F2) V V') : Two w V' p q B B' F2 F' c id M N' D2 D' :=
  ⟨hn, h.k.fr hs.fr (fun b h1 h2 => h.ap b h2 h1), fun b h1 h2 => by
    rcases hs.new b h1 with e | e
    · exact h.ap b e h2
    · have := h.k.lt b h2; omega, hs.lo h.lo h.bel.size, h.lo', hs.belowW h.bel h.lo⟩
theorem Two.aside {X : Nat → Prop} (h : Two w V p q B B' F F' c id N N' D D') (hf : FrS X V V') (hX : ∀ b, X b → w.heap.size ≤ b) (h1 : ∀ b, Fa p B F b → ¬ X b) (h2 : ∀ b, Fa q B' F' b → ¬ X b) : Two w V' p q B B' F F' c id N N' D D' :=
  ⟨h.n.fr hf h1, h.k.fr hf h2, h.ap, h.lo, h.lo', h.bel.trans (hf.below hX h.bel.size)⟩
theorem One.two (h : One w V p B F c id N D) (hk : NdIs V' q B' F' c id N' D') (hl : ∀ b, Fa q B' F' b → V.heap.size ≤ b) (hb : Below V.heap.size V V') : Two w V' p q B B' F F' c id N N' D D' :=
  ⟨h.n.below hb, hk, fun b h1 h2 => by have := h.n.lt b h1; have := hl b h2; omega, h.lo, fun b h2 => Nat.le_trans h.bel.size (hl b h2), h.bel.trans (hb.mono h.bel.size)⟩
end
structure Gd15 (s b : Nat) (X : Nat → Prop) (v : Value) (g : Nat) : Prop where
  lies : g = b ∨ s ≤ g
  nx : ¬ X g
  nil : g = b → v = .slice none 0 0
theorem Gd15.mono {s b : Nat} {X Y : Nat → Prop} {v : Value} {g : Nat} (h : Gd15 s b X v g) (hY : ¬ Y g) : Gd15 s b Y v g := ⟨h.lies, hY, h.nil⟩
theorem gd15_app {s b : Nat} {X : Nat → Prop} {W W' : World} {v v' : Value} {g g' : Nat} (hb : b < s) (hd : Gd15 s b X v g) (hW : s ≤ W.heap.size) (hX : ∀ i, X i → i < W.heap.size) (hap : AppP W W' v v' g g') :
    Gd15 s b X v' g' ∧ FrS (fun x => x = g ∧ s ≤ x) W W' ∧ (g' = g ∨ W.heap.size ≤ g') := by
  obtain ⟨h1, h2, h4⟩ := hd
  refine ⟨⟨?_, ?_, ?_⟩, ?_, hap.lies⟩
  · rcases hap.lies with e | e
    · rw [e]; exact h1
    · exact .inr (by omega)
  · rcases hap.lies with e | e
    · rw [e]; exact h2
    · intro h; have := hX _ h; omega
  · intro e
    rcases hap.lies with e' | e'
    · exact hap.keep e' (h4 (e'.symm.trans e))
    · rcases h1 with h1 | h1
      · exact hap.keep (by omega) (h4 h1)
      · omega
  · by_cases e : g = b
    · exact FrS.of_below (hap.nil (h4 e))
    · exact hap.fr.mono (fun i _ hi => ⟨hi, by rw [hi]; rcases h1 with h1 | h1; exact absurd h1 e; exact h1⟩)
def Lies (V : World) (X : Nat → Prop) (x : Ot) (L : List Lt) (M : List Dn) : Prop := ∃ g1 g2, ViewT V (.slice x.xa x.xn x.xc) g1 L ∧ ViewD V (.slice x.ya x.yn x.yc) g2 M ∧ (L ≠ [] → ¬ X g1 ∧ g1 < V.heap.size) ∧ (M ≠ [] → ¬ X g2 ∧ g2 < V.heap.size)
theorem Lies.fr {V V' : World} {X X' Y : Nat → Prop} {x : Ot} {L : List Lt} {M : List Dn} (h : Lies V X x L M) (hf : FrS Y V V') (hY : ∀ b, Y b → X b) (hX : ∀ b, X' b → X b ∨ V.heap.size ≤ b) : Lies V' X' x L M := by
  obtain ⟨g1, g2, h1, h2, h3, h4⟩ := h
  refine ⟨g1, g2, h1.fr hf (fun e h => (h3 e).1 (hY _ h)), h2.fr hf (fun e h => (h4 e).1 (hY _ h)), fun e => ⟨fun hx => ?_, Nat.lt_of_lt_of_le (h3 e).2 hf.size⟩, fun e => ⟨fun hx => ?_, Nat.lt_of_lt_of_le (h4 e).2 hf.size⟩⟩
  · rcases hX _ hx with q | q
    · exact (h3 e).1 q
    · have := (h3 e).2; omega
  · rcases hX _ hx with q | q
    · exact (h4 e).1 q
    · have := (h4 e).2; omega
theorem Lies.below {V V' : World} {X : Nat → Prop} {x : Ot} {L : List Lt} {M : List Dn} (h : Lies V X x L M) (hb : Below V.heap.size V V') : Lies V' X x L M := h.fr (Y := fun _ => False) (FrS.of_below hb) (fun _ h => h.elim) (fun _ h => .inl h)
section
variable (c : Cf) (id : Int)
def play15 (D : Nd) (A : List Ac) : Nd := A.foldl (nxN c id) D
def ac0 : Ac := ⟨0, op30, lt0, 0, 0, 0⟩
def atB (A : List Ac) (j : Nat) : Ac := (A[j]?).getD ac0
def otO (O : List Ot) (j : Nat) : Ot := (O[j]?).getD ot0
end
theorem play15_snoc (c : Cf) (id : Int) (D : Nd) (A : List Ac) (j : Nat) (hj : j < A.length) : play15 c id D (A.take (j + 1)) = nxN c id (play15 c id D (A.take j)) (atB A j) := by
  have e : A.take (j + 1) = A.take j ++ [A[j]] := by rw [List.take_add_one, List.getElem?_eq_getElem hj]; rfl
  rw [e]
  simp only [play15, List.foldl_append, List.foldl_cons, List.foldl_nil, atB, List.getElem?_eq_getElem hj, Option.getD_some]
theorem play15_op (c : Cf) (id : Int) (A : List Ac) : ∀ D : Nd, I64 D.P.op.b → (∀ x ∈ A, I64 x.op.b ∧ I64 x.l.k) → I64 (play15 c id D A).P.op.b := by
  induction A with
  | nil => intro D h _; exact h
  | cons x A ih => intro D h hA; exact ih _ (nxN_op h (hA x (by simp)).1) (fun y hy => hA y (by simp [hy]))
theorem otO_old (O : List Ot) (x : Ot) {j : Nat} (h : j < O.length) : otO (O ++ [x]) j = otO O j := by unfold otO; rw [List.getElem?_append_left h]
theorem otO_new (O : List Ot) (x : Ot) : otO (O ++ [x]) O.length = x := by unfold otO; simp
theorem otO_get {O : List Ot} {j : Nat} (h : j < O.length) : O[j] = otO O j := by unfold otO; rw [List.getElem?_eq_getElem h]; rfl
theorem atB_get {A : List Ac} {j : Nat} (h : j < A.length) : A[j] = atB A j := by unfold atB; rw [List.getElem?_eq_getElem h]; rfl
theorem atB_drop (A : List Ac) (h j : Nat) : atB (A.drop h) j = atB A (h + j) := by unfold atB; rw [List.getElem?_drop]
theorem atB_mem {A : List Ac} {j : Nat} (h : j < A.length) : atB A j ∈ A := by rw [← atB_get h]; exact List.getElem_mem h
theorem Lies.mono {V : World} {X X' : Nat → Prop} {x : Ot} {L : List Lt} {M : List Dn} (h : Lies V X x L M) (hX : ∀ b, X' b → X b) : Lies V X' x L M := h.fr (Y := fun _ => False) (FrS.refl _ _) (fun _ h => h.elim) (fun b h => .inl (hX b h))
theorem lies_out {V V5 : World} {p : Nat} {B : Bk} {F F5 Y : Nat → Prop} {c : Cf} {id : Int} {N : Nat} {D : Nd} {L : List Lt} {M : List Dn} {a1 a2 : Option Addr} {c1 c2 g1 g2 : Nat} (hO : OutP V p B F F5 c id N D L M (.slice a1 L.length c1) (.slice a2 M.length c2) V5 g1 g2) (hY : ∀ x, Y x → x < V.heap.size) (hd : M ≠ [] → g2 < V5.heap.size) : Lies V5 (fun x => Fa p B F5 x ∨ Y x) ⟨a1, L.length, c1, a2, M.length, c2⟩ L M :=
  ⟨g1, g2, hO.own.view, hO.dn, fun _ => ⟨fun h => by rcases h with h | h; exact hO.nf1 h; have := hY _ h; have := hO.new; omega, hO.own.lt⟩, fun e => ⟨fun h => by rcases h with h | h; exact hO.nf2 e h; have := hY _ h; have := (hO.ne e).2; omega, hd e⟩⟩
structure Outs (w V : World) (b : Nat) (X : Nat → Prop) (v : Value) (g : Nat) (O : List Ot) (n : Nat) (SL : Nat → List Lt) (SN : Nat → List Dn) : Prop where
  own : OwnO V v g O
  len : O.length = n
  gd : Gd15 w.heap.size b X v g
  lies : ∀ t, t < n → Lies V (fun x => X x ∨ x = g) (otO O t) (SL t) (SN t)
section
variable {w V V' : World} {b g g' n : Nat} {X X' Y : Nat → Prop} {v v' : Value} {O : List Ot} {SL : Nat → List Lt} {SN : Nat → List Dn} {x : Ot}
theorem Outs.step (h : Outs w V b X v g O n SL SN) (hf : FrS Y V V') (hY : ∀ x, Y x → X x) (hX : ∀ x, X' x → X x ∨ V.heap.size ≤ x) : Outs w V' b X' v g O n SL SN :=
  ⟨h.own.fr hf (fun e => h.gd.nx (hY _ e)), h.len, h.gd.mono (fun e => by
    rcases hX _ e with q | q
    · exact h.gd.nx q
    · have := h.own.lt; omega), fun t ht => (h.lies t ht).fr hf (fun b h => .inl (hY b h)) (fun b hb => by
    rcases hb with hb | hb
    · rcases hX _ hb with q | q
      · exact .inl (.inl q)
      · exact .inr q
    · exact .inl (.inr hb))⟩
theorem Outs.below (h : Outs w V b X v g O n SL SN) (hb : Below V.heap.size V V') : Outs w V' b X v g O n SL SN := h.step (Y := fun _ => False) (FrS.of_below hb) (fun _ h => h.elim) (fun _ h => .inl h)
theorem Outs.app (h : Outs w V b X v g O n SL SN) (hb : b < w.heap.size) (hW : w.heap.size ≤ V.heap.size) (hX : ∀ i, X i → i < V.heap.size) (hown : OwnO V' v' g' (O ++ [x])) (hap : AppP V V' v v' g g') (hl : Lies V (fun y => X y ∨ y = g) x (SL n) (SN n)) :
    Outs w V' b X v' g' (O ++ [x]) (n + 1) SL SN ∧ FrS (fun y => y = g ∧ w.heap.size ≤ y) V V' := by
  obtain ⟨h1, h2, h3⟩ := gd15_app hb h.gd hW hX hap
  have key : ∀ {z : Ot} {L : List Lt} {M : List Dn}, Lies V (fun y => X y ∨ y = g) z L M → Lies V' (fun y => X y ∨ y = g') z L M := fun q => q.fr h2 (fun _ e => .inr e.1) (fun y hy => by
    rcases hy with hy | hy
    · exact .inl (.inl hy)
    · rcases h3 with e | e
      · exact .inl (.inr (hy.trans e))
      · exact .inr (by omega))
  refine ⟨⟨hown, by simp [h.len], h1, fun t ht => ?_⟩, h2⟩
  by_cases e : t < n
  · rw [otO_old O x (by rw [h.len]; exact e)]
    exact key (h.lies t e)
  · obtain rfl : t = n := by omega
    have : otO (O ++ [x]) t = x := by rw [← h.len]; exact otO_new O x
    rw [this]
    exact key hl
end
theorem do15_a (p : Nat) (B : Bk) (Fc : Nat → Prop) (c : Cf) (id : Int) (N : Nat) (D : Nd) (x : Ac) (w : World) (h : NdIs w p B Fc c id N D) (hT : Hid (Tab w)) (hN1 : N + 3 ≤ 2000) (hlk : I64 x.l.k) (hop : I64 D.P.op.b) (L : List Lt) (hL : Hid (doL c id D x = L)) (M : List Dn) (hM : Hid (doN c id D x = M)) : Calls Tryz.prog 28 #[ptr p, .agg (actC x).toArray] w fun e w' => ∃ v1 v2, e = .returned (.agg #[v1, v2]) ∧ ∃ Fc' g1 g2, OutP w p B Fc Fc' c id (N + 3) (nxN c id D x) L M v1 v2 w' g1 g2 := do15_c p B Fc c id N D x w h hT hN1 hlk hop L hL M hM
end Go.Proofs.YtoenjdnccgmhoaaGreatDoor
