/- layer 15: Env15 Tell15 EnMath, put together. -/
import Derived.Test.YtoenjdnccgmhoaaGreatDoorB38
import Derived.Test.YtoenjdnccgmhoaaGreatDoorB43
import Derived.Test.YtoenjdnccgmhoaaGreatDoorB45
import Derived.Deep.WholeRow
namespace Go.Proofs.YtoenjdnccgmhoaaGreatDoor
open Go.ChangeShapes Go.WideShapes Go.ChangeAt Go.RowKit
set_option linter.unusedSimpArgs false
set_option linter.unusedVariables false
set_option maxRecDepth 10000
attribute [local go_sem, local simp] over_const setCell_drewN alloc_drewN Over.cell Over.frozen lt_s1 lt_s2 lt_s3 le_s0 le_s1 le_s2 le_s3 eq_s0 eq_s1 eq_s2 qe_s0
theorem At5.low {w V : World} {p : Nat} {B : Bk} {Fc F : Nat → Prop} {c : Cf} {id : Int} {N : Nat} {D : Nd} {K : List (Nat × Obj)} (h : At5 w V p B Fc F c id N D K) (hlo : ∀ x, Fa p B Fc x → w.heap.size ≤ x) : Below w.heap.size w V := h.s.belowW (Below.refl _ _) hlo
theorem acts_at {w : World} {k : Nat} {x : Ac} (h : w.heap[k]? = some (actsO x)) : w.cell? ⟨k, 0, none⟩ = some (.int .i64 x.k) ∧ w.cell? ⟨k, 1, none⟩ = some (.int .i64 x.op.b) ∧ w.cell? ⟨k, 2, none⟩ = some (.bool x.op.w) ∧ w.cell? ⟨k, 3, none⟩ = some (.int .i64 x.op.v) ∧ w.cell? ⟨k, 4, none⟩ = some (.int .i64 x.l.k) ∧ w.cell? ⟨k, 5, none⟩ = some (.int .i64 x.l.a) ∧ w.cell? ⟨k, 6, none⟩ = some (.int .i64 x.l.b) ∧ w.cell? ⟨k, 7, none⟩ = some (.int .i64 x.l.q) ∧ w.cell? ⟨k, 8, none⟩ = some (.int .i64 x.l.s) ∧ w.cell? ⟨k, 9, none⟩ = some (.int .i64 x.l.w) ∧ w.cell? ⟨k, 10, none⟩ = some (.bool x.l.r) ∧ w.cell? ⟨k, 11, none⟩ = some (.int .i64 x.l.n) ∧ w.cell? ⟨k, 12, none⟩ = some (.bool x.l.o) ∧ w.cell? ⟨k, 13, none⟩ = some (.bool x.l.h) ∧ w.cell? ⟨k, 14, none⟩ = some (.int .i64 x.l.d) ∧ w.cell? ⟨k, 15, none⟩ = some (.int .i64 x.d0) ∧ w.cell? ⟨k, 16, none⟩ = some (.int .i64 x.d1) ∧ w.cell? ⟨k, 17, none⟩ = some (.int .i64 x.d2) := by
  refine ⟨?_, ?_, ?_, ?_, ?_, ?_, ?_, ?_, ?_, ?_, ?_, ?_, ?_, ?_, ?_, ?_, ?_, ?_⟩ <;> exact cell_of_row _ _ _ _ _ _ h
theorem i64_op {c : Cf} {id : Int} (hc : CfOk c id) {x : Int} (h0 : 0 ≤ x) (h1 : x < c.bl) : I64 x := by
  have := hc.b1
  exact ⟨by omega, by omega⟩
theorem acts_i64 {B : Nat} {w : World} {v : Value} {A : List Ac} (h : ActsAt B w v A) : ∀ x ∈ A, I64 x.op.b ∧ I64 x.l.k := by
  obtain ⟨ao, cap, -, -, -, h4⟩ := h
  intro x hx
  rcases h4 with rfl | ⟨b, o, -, -, -, h7⟩
  · cases hx
  · obtain ⟨j, hj, rfl⟩ := List.getElem_of_mem hx
    exact ⟨(h7 j hj).1.1, (h7 j hj).1.2.1⟩
theorem acts_i64s {B : Nat} {w : World} {v : Value} {A : List Ac} (h : ActsAt B w v A) : ∀ x ∈ A, I64 x.l.s := by
  obtain ⟨ao, cap, -, -, -, h4⟩ := h
  intro x hx
  rcases h4 with rfl | ⟨b, o, -, -, -, h7⟩
  · cases hx
  · obtain ⟨j, hj, rfl⟩ := List.getElem_of_mem hx
    exact (h7 j hj).1.2.2
structure One (w V : World) (p : Nat) (B : Bk) (F : Nat → Prop) (c : Cf) (id : Int) (N : Nat) (D : Nd) : Prop where
  n : NdIs V p B F c id N D
  lo : ∀ b, Fa p B F b → w.heap.size ≤ b
  bel : Below w.heap.size w V
section
variable {w V V' : World} {p : Nat} {B : Bk} {F F2 : Nat → Prop} {c : Cf} {id : Int} {N M : Nat} {D D2 : Nd}
theorem One.below (h : One w V p B F c id N D) (hb : Below V.heap.size V V') : One w V' p B F c id N D := ⟨h.n.below hb, h.lo, h.bel.trans (hb.mono h.bel.size)⟩
theorem One.step (h : One w V p B F c id N D) (hn : NdIs V' p B F2 c id M D2) (hs : Step (Fa p B F) (Fa p B F2) V V') : One w V' p B F2 c id M D2 := ⟨hn, hs.lo h.lo h.bel.size, hs.belowW h.bel h.lo⟩
theorem One.alloc (h : One w V p B F c id N D) (o : Obj) : One w (V.alloc o) p B F c id N D := h.below ((Below.refl _ _).alloc (Nat.le_refl _) _)
end
theorem wpList_store_new {P : Program} {ops : Array Oper} {rest : List Oper} {op : Oper} {a : Act} {w : World} {Q : Exit → Act → World → Prop} {cs zs : Array Value} {ty : TypeId} (x y : Operand) (ho : op.op = .store ty x y) (hgd : op.guard = none) (hx : a.eval x = .pointer (some ⟨w.heap.size, 0, none⟩)) (hy : a.eval y = .agg cs)
    (hi : (P.info? ty).map (·.size) = some cs.size) (hs : zs.size = cs.size) (h1 : cs.all (·.oneCell') = true) (h : wpList P ops Q rest (a.put op.dst undef) (w.alloc (.cells cs ty))) : wpList P ops Q (op :: rest) a (w.alloc (.cells zs ty)) := by
  refine wpList_store_row hgd ty x y ho w.heap.size cs hx hy ty zs (heap_alloc_last w _) hi hs h1 ?_
  rw [World.setRow_alloc_new]
  exact h
theorem infoAc : (Tryz.prog.info? 40).map (·.size) = some 18 := by kernel_rfl
def actC (x : Ac) : List Value := [.int .i64 x.k, .int .i64 x.op.b, .bool x.op.w, .int .i64 x.op.v, .int .i64 x.l.k, .int .i64 x.l.a, .int .i64 x.l.b, .int .i64 x.l.q, .int .i64 x.l.s, .int .i64 x.l.w, .bool x.l.r, .int .i64 x.l.n, .bool x.l.o, .bool x.l.h, .int .i64 x.l.d, .int .i64 x.d0, .int .i64 x.d1, .int .i64 x.d2]
theorem actC_one (x : Ac) : (actC x).toArray.all (fun v => v.oneCell') = true := by simp [actC, Value.oneCell']
theorem acts_range {B : Nat} {w : World} {ao : Option Addr} {n cap : Nat} {A : List Ac} (h : ActsAt B w (.slice ao n cap) A) {j : Nat} (hj : j < A.length) : ∃ b o, ao = some ⟨b, o, none⟩ ∧ b < B ∧ b < w.heap.size ∧ w.rangeAt b (o + j * 18) (actC A[j]) := by
  obtain ⟨b, o, e, h1, h2, -, r0, r1, r2, r3, r4, r5, r6, r7, r8, r9, r10, r11, r12, r13, r14, r15, r16, r17⟩ := acts_row h hj
  refine ⟨b, o, e, h1, h2, fun i v hv => ?_⟩
  have hi : i < 18 := (List.getElem?_eq_some_iff.1 hv).1
  have hc : i = 0 ∨ i = 1 ∨ i = 2 ∨ i = 3 ∨ i = 4 ∨ i = 5 ∨ i = 6 ∨ i = 7 ∨ i = 8 ∨ i = 9 ∨ i = 10 ∨ i = 11 ∨ i = 12 ∨ i = 13 ∨ i = 14 ∨ i = 15 ∨ i = 16 ∨ i = 17 := by omega
  rcases hc with rfl | rfl | rfl | rfl | rfl | rfl | rfl | rfl | rfl | rfl | rfl | rfl | rfl | rfl | rfl | rfl | rfl | rfl <;> cases hv
  · exact r0
  · exact r1
  · exact r2
  · exact r3
  · exact r4
  · exact r5
  · exact r6
  · exact r7
  · exact r8
  · exact r9
  · exact r10
  · exact r11
  · exact r12
  · exact r13
  · exact r14
  · exact r15
  · exact r16
  · exact r17
theorem range_new (w : World) (x : Ac) : (w.alloc (actsO x)).rangeAt w.heap.size 0 (actC x) := fun i v hv => by
  rw [Nat.zero_add]
  refine (cell_of_row _ _ _ _ _ _ (heap_alloc_new w _)).trans ?_
  rw [← hv]
  simp [actC]
theorem range_of {w : World} {k : Nat} {x : Ac} (h : w.heap[k]? = some (actsO x)) : w.rangeAt k 0 (actC x) := fun i v hv => by
  rw [Nat.zero_add]
  refine (cell_of_row _ _ _ _ _ _ h).trans ?_
  rw [← hv]
  simp [actC]
theorem infoLt : (Tryz.prog.info? 37).map (·.size) = some 11 := by kernel_rfl
theorem ltC_one (x : Lt) : (ltC x).toArray.all (fun v => v.oneCell') = true := by simp [ltC, Value.oneCell']
theorem lt_range {w : World} {b : Nat} {L : List Lt} {ao : Option Addr} {n cap : Nat} (h : ViewT w (.slice ao n cap) b L) {t : Nat} (ht : t < L.length) : ∃ o, ao = some ⟨b, o, none⟩ ∧ b < w.heap.size ∧ w.rangeAt b (o + t * 11) (ltC L[t]) := by
  obtain ⟨ao', cap', e, _, _, h3⟩ := h
  simp only [Value.slice.injEq] at e
  obtain ⟨rfl, _, _⟩ := e
  rcases h3 with rfl | ⟨o, rfl, h4, h5⟩
  · simp at ht
  · refine ⟨o, rfl, h4, fun i v hv => ?_⟩
    have hi : i < 11 := (List.getElem?_eq_some_iff.1 hv).1
    rw [Nat.add_assoc, h5 _ (by omega), flatLt_at L t i ht hi, hv]
def doL (c : Cf) (id : Int) (D : Nd) (x : Ac) : List Lt := if x.k = 1 then isL c id D x.op x.d0 x.d1 else if x.k = 2 then tkL c id D x.l x.d0 x.d1 else if x.k = 3 then tiL c id D x.d0 x.d1 else []
def doN (c : Cf) (id : Int) (D : Nd) (x : Ac) : List Dn := if x.k = 1 then isN c id D x.op else if x.k = 2 then tkN c id D x.l else []
def nxN (c : Cf) (id : Int) (D : Nd) (x : Ac) : Nd := if x.k = 1 then nxIs c id D x.op else if x.k = 2 then nxTake c id D x.l x.d0 x.d1 else if x.k = 3 then nxTi c D else D
theorem i64_0 : I64 0 := ⟨by decide, by decide⟩
theorem nxF_op {P : Pm} (h : I64 P.op.b) : I64 (nxF P).op.b := by
  unfold nxF; split
  · exact i64_0
  · exact h
theorem nxS_op {c : Cf} {id : Int} {D : Nd} (h : I64 D.P.op.b) : I64 (nxS c id D).P.op.b := by
  unfold nxS; split
  · rw [nxE_P]; exact nxF_op h
  · exact h
theorem nxN_op {c : Cf} {id : Int} {D : Nd} {x : Ac} (h : I64 D.P.op.b) (hx : I64 x.op.b) : I64 (nxN c id D x).P.op.b := by
  unfold nxN
  split
  · unfold nxIs
    split
    · refine nxS_op ?_
      show I64 (nxI c.cu D.P x.op).op.b
      unfold nxI
      split
      · exact h
      · exact hx
    · exact h
  · split
    · unfold nxTake
      split
      · split
        · unfold nxTok
          split
          · exact h
          · exact nxS_op h
        · split
          · unfold nxAns; split
            · exact h
            · exact h
          · split
            · unfold nxAc
              split
              · split
                · split
                  · exact h
                  · rw [nxE_P]; exact h
                · exact h
              · exact h
            · split
              · exact h
              · exact h
      · exact h
    · split
      · unfold nxTi tiD nxT
        split
        · show I64 (if D.P.busy = true then _ else _ : Pm).op.b
          split
          · exact h
          · exact h
        · show I64 (if D.P.busy = true then _ else _ : Pm).op.b
          split
          · exact h
          · exact h
      · exact h
set_option maxHeartbeats 4000000 in
theorem do15_c (p : Nat) (B : Bk) (Fc : Nat → Prop) (c : Cf) (id : Int) (N : Nat) (D : Nd) (x : Ac) (w : World) (h : NdIs w p B Fc c id N D) (hT : Hid (Tab w)) (hN1 : N + 3 ≤ 2000) (hlk : I64 x.l.k) (hop : I64 D.P.op.b) (L : List Lt) (hL : Hid (doL c id D x = L)) (M : List Dn) (hM : Hid (doN c id D x = M)) : Calls Tryz.prog 28 #[ptr p, .agg #[.int .i64 x.k, .int .i64 x.op.b, .bool x.op.w, .int .i64 x.op.v, .int .i64 x.l.k, .int .i64 x.l.a, .int .i64 x.l.b, .int .i64 x.l.q, .int .i64 x.l.s, .int .i64 x.l.w, .bool x.l.r, .int .i64 x.l.n, .bool x.l.o, .bool x.l.h, .int .i64 x.l.d, .int .i64 x.d0, .int .i64 x.d1, .int .i64 x.d2]] w fun e w' => ∃ v1 v2, e = .returned (.agg #[v1, v2]) ∧ ∃ Fc' g1 g2, OutP w p B Fc Fc' c id (N + 3) (nxN c id D x) L M v1 v2 w' g1 g2 := by
  have hH := hide h
  have hL' := hL.out
  have hM' := hM.out
  unfold doL at hL'
  unfold doN at hM'
  unfold nxN
  clear hL hM h
  by_cases k1 : x.k = 1
  · rw [if_pos k1] at hL' hM' ⊢
    have hL2 := hide hL'
    have hM2 := hide hM'
    obtain ⟨ok, hok⟩ : ∃ ok, Hid (isOk c D x.op = ok) := ⟨_, hide rfl⟩
    clear hL' hM'
    replace k1 := hide k1
    go_enter Tryz.func28, Tryz.ntmps28
    go_upto_region 1 with fail
    refine name_world ?_
    intro V hV
    have Q1 : Hid (At5 w V p B Fc Fc c id N D [(w.heap.size + 1, outR (.slice none 0 0) (.slice none 0 0)), (w.heap.size, actsO x)]) := by
      have h1 := ((At5.mk hH.out (fun x hx => by cases hx) (Step.refl _ _) : At5 w w p B Fc Fc c id N D []).new (actsO x)).new (outR (.slice none 0 0) (.slice none 0 0))
      rw [World.size_alloc] at h1
      rw [← hV]; exact hide h1
    have hBV : Hid (Below w.heap.size w V) := by rw [← hV]; exact hide (by all_goals exact belEnd)
    obtain ⟨R, hRe⟩ : ∃ R, Hid (w.heap.size + 1 = R) := ⟨_, hide rfl⟩
    obtain ⟨ka, hae⟩ : ∃ k, Hid (w.heap.size = k) := ⟨_, hide rfl⟩
    rw [hRe.out, hae.out] at Q1
    rw [hRe.out, hae.out]
    clear hV
    have hTV := hide (hT.out.lowB hBV.out)
    obtain ⟨la, xa⟩ := bz_get Q1.out.x (k := ka) (o := actsO x) (by simp)
    obtain ⟨a0, a1, a2, a3, a4, a5, a6, a7, a8, a9, a10, a11, a12, a13, a14, a15, a16, a17⟩ := acts_at xa
    obtain ⟨lR, xR⟩ := bz_get Q1.out.x (k := R) (o := outR (.slice none 0 0) (.slice none 0 0)) (by simp)
    clear xa
    rw [k1.out] at a0
    go_wp2_with fail
    go_at_call 15
    refine (ndIssue_c p B Fc c id N D x.op x.d0 x.d1 x.d2 _ Q1.out.n (by omega) ok hok L hL2 M hM2).mono ?_
    rintro e w5 ⟨v1, v2, rfl, Fc5, g1, g2, hO⟩
    obtain ⟨ao1, cap1, e1, -⟩ := _root_.id hO.own
    obtain ⟨ao2, cap2, e2, -⟩ := _root_.id hO.dn
    subst e1 e2
    have Q5 := hide ((Q1.out.step hO.nd hO.st).step (hO.nd.mono (show _ ≤ N + 3 by omega)) (Step.refl _ _))
    have hg1 := hide (show w.heap.size ≤ g1 from Nat.le_trans Q1.out.s.fr.size hO.new)
    have hgR : Hid (R < g1) := hide (by have := hO.new; omega)
    have hne := hide (fun h => (⟨(hO.ne h).1, Nat.le_trans Q1.out.s.fr.size (hO.ne h).2, by have := (hO.ne h).2; omega⟩ : g2 ≠ g1 ∧ w.heap.size ≤ g2 ∧ g2 ≠ R))
    have ow5 := hide hO.own
    have dn5 := hide hO.dn
    have hf1 := hide hO.nf1
    have hf2 := hide hO.nf2
    clear hO a0 a1 a2 a3 a4 a5 a6 a7 a8 a9 a10 a11 a12 a13 a14 a15 a16 a17 la lR xR Q1
    obtain ⟨lR, xR⟩ := bz_get Q5.out.x (k := R) (o := outR (.slice none 0 0) (.slice none 0 0)) (by simp)
    obtain ⟨r0, r1, z⟩ := out_at xR
    go_wp2_with fail
    refine bodyPost_ret (v := .agg #[.slice ao1 L.length cap1, .slice ao2 M.length cap2]) (by simp [results, Tryz.results28, go_sem, *]; done) rfl ⟨_, _, rfl, Fc5, g1, g2, ?_⟩
    exact OutP.below (out_fin5 (R := R) Q5.out (o := outR (.slice none 0 0) (.slice none 0 0)) (by simp) ow5.out dn5.out hg1.out (by have := hgR.out; omega) hne.out hf1.out hf2.out) ((Below.refl _ _).alloc (Nat.le_refl _) _)
  rw [if_neg k1] at hL' hM' ⊢
  obtain ⟨d1, d2, d3⟩ := cmpF k1
  replace k1 := hide k1
  by_cases k2 : x.k = 2
  · rw [if_pos k2] at hL' hM' ⊢
    have hL2 := hide hL'
    have hM2 := hide hM'
    clear hL' hM' d1 d2 d3
    replace k2 := hide k2
    go_enter Tryz.func28, Tryz.ntmps28
    go_upto_region 1 with fail
    refine name_world ?_
    intro V hV
    have Q1 : Hid (At5 w V p B Fc Fc c id N D [(w.heap.size + 1, outR (.slice none 0 0) (.slice none 0 0)), (w.heap.size, actsO x)]) := by
      have h1 := ((At5.mk hH.out (fun x hx => by cases hx) (Step.refl _ _) : At5 w w p B Fc Fc c id N D []).new (actsO x)).new (outR (.slice none 0 0) (.slice none 0 0))
      rw [World.size_alloc] at h1
      rw [← hV]; exact hide h1
    have hBV : Hid (Below w.heap.size w V) := by rw [← hV]; exact hide (by all_goals exact belEnd)
    obtain ⟨R, hRe⟩ : ∃ R, Hid (w.heap.size + 1 = R) := ⟨_, hide rfl⟩
    obtain ⟨ka, hae⟩ : ∃ k, Hid (w.heap.size = k) := ⟨_, hide rfl⟩
    rw [hRe.out, hae.out] at Q1
    rw [hRe.out, hae.out]
    clear hV
    have hTV := hide (hT.out.lowB hBV.out)
    obtain ⟨la, xa⟩ := bz_get Q1.out.x (k := ka) (o := actsO x) (by simp)
    obtain ⟨a0, a1, a2, a3, a4, a5, a6, a7, a8, a9, a10, a11, a12, a13, a14, a15, a16, a17⟩ := acts_at xa
    obtain ⟨lR, xR⟩ := bz_get Q1.out.x (k := R) (o := outR (.slice none 0 0) (.slice none 0 0)) (by simp)
    clear xa
    rw [k2.out] at a0
    go_wp2_with fail
    go_at_call 17
    refine (ndTake_c p B Fc c id N D x.l x.d0 x.d1 x.d2 _ Q1.out.n hTV hN1 hlk hop L hL2 M hM2).mono ?_
    rintro e w5 ⟨v1, v2, rfl, Fc5, g1, g2, hO⟩
    obtain ⟨ao1, cap1, e1, -⟩ := _root_.id hO.own
    obtain ⟨ao2, cap2, e2, -⟩ := _root_.id hO.dn
    subst e1 e2
    have Q5 := hide ((Q1.out.step hO.nd hO.st).step (hO.nd.mono (show _ ≤ N + 3 by omega)) (Step.refl _ _))
    have hg1 := hide (show w.heap.size ≤ g1 from Nat.le_trans Q1.out.s.fr.size hO.new)
    have hgR : Hid (R < g1) := hide (by have := hO.new; omega)
    have hne := hide (fun h => (⟨(hO.ne h).1, Nat.le_trans Q1.out.s.fr.size (hO.ne h).2, by have := (hO.ne h).2; omega⟩ : g2 ≠ g1 ∧ w.heap.size ≤ g2 ∧ g2 ≠ R))
    have ow5 := hide hO.own
    have dn5 := hide hO.dn
    have hf1 := hide hO.nf1
    have hf2 := hide hO.nf2
    clear hO a0 a1 a2 a3 a4 a5 a6 a7 a8 a9 a10 a11 a12 a13 a14 a15 a16 a17 la lR xR Q1
    obtain ⟨lR, xR⟩ := bz_get Q5.out.x (k := R) (o := outR (.slice none 0 0) (.slice none 0 0)) (by simp)
    obtain ⟨r0, r1, z⟩ := out_at xR
    go_wp2_with fail
    refine bodyPost_ret (v := .agg #[.slice ao1 L.length cap1, .slice ao2 M.length cap2]) (by simp [results, Tryz.results28, go_sem, *]; done) rfl ⟨_, _, rfl, Fc5, g1, g2, ?_⟩
    exact out_fin5 (R := R) Q5.out (o := outR (.slice none 0 0) (.slice none 0 0)) (by simp) ow5.out dn5.out hg1.out (by have := hgR.out; omega) hne.out hf1.out hf2.out
  rw [if_neg k2] at hL' hM' ⊢
  obtain ⟨d4, d5, d6⟩ := cmpF k2
  replace k2 := hide k2
  obtain rfl : [] = M := hM'
  by_cases k3 : x.k = 3
  · rw [if_pos k3] at hL' ⊢
    have hL2 := hide hL'
    clear hL' d1 d2 d3 d4 d5 d6
    replace k3 := hide k3
    go_enter Tryz.func28, Tryz.ntmps28
    go_upto_region 1 with fail
    refine name_world ?_
    intro V hV
    have Q1 : Hid (At5 w V p B Fc Fc c id N D [(w.heap.size + 1, outR (.slice none 0 0) (.slice none 0 0)), (w.heap.size, actsO x)]) := by
      have h1 := ((At5.mk hH.out (fun x hx => by cases hx) (Step.refl _ _) : At5 w w p B Fc Fc c id N D []).new (actsO x)).new (outR (.slice none 0 0) (.slice none 0 0))
      rw [World.size_alloc] at h1
      rw [← hV]; exact hide h1
    have hBV : Hid (Below w.heap.size w V) := by rw [← hV]; exact hide (by all_goals exact belEnd)
    obtain ⟨R, hRe⟩ : ∃ R, Hid (w.heap.size + 1 = R) := ⟨_, hide rfl⟩
    obtain ⟨ka, hae⟩ : ∃ k, Hid (w.heap.size = k) := ⟨_, hide rfl⟩
    rw [hRe.out, hae.out] at Q1
    rw [hRe.out, hae.out]
    clear hV
    have hTV := hide (hT.out.lowB hBV.out)
    obtain ⟨la, xa⟩ := bz_get Q1.out.x (k := ka) (o := actsO x) (by simp)
    obtain ⟨a0, a1, a2, a3, a4, a5, a6, a7, a8, a9, a10, a11, a12, a13, a14, a15, a16, a17⟩ := acts_at xa
    obtain ⟨lR, xR⟩ := bz_get Q1.out.x (k := R) (o := outR (.slice none 0 0) (.slice none 0 0)) (by simp)
    clear xa
    rw [k3.out] at a0
    go_wp2_with fail
    go_at_call 19
    refine (ndTick_c p B Fc c id N D x.d0 x.d1 x.d2 _ Q1.out.n (by omega) hop L hL2).mono ?_
    rintro e w5 ⟨v1, v2, rfl, g1, g2, hO⟩
    obtain ⟨ao1, cap1, e1, -⟩ := _root_.id hO.own
    obtain ⟨ao2, cap2, e2, -⟩ := _root_.id hO.dn
    subst e1 e2
    have Q5 := hide ((Q1.out.step hO.nd hO.st).step (hO.nd.mono (show _ ≤ N + 3 by omega)) (Step.refl _ _))
    have hg1 := hide (show w.heap.size ≤ g1 from Nat.le_trans Q1.out.s.fr.size hO.new)
    have hgR : Hid (R < g1) := hide (by have := hO.new; omega)
    have hne := hide (fun h => (⟨(hO.ne h).1, Nat.le_trans Q1.out.s.fr.size (hO.ne h).2, by have := (hO.ne h).2; omega⟩ : g2 ≠ g1 ∧ w.heap.size ≤ g2 ∧ g2 ≠ R))
    have ow5 := hide hO.own
    have dn5 := hide hO.dn
    have hf1 := hide hO.nf1
    have hf2 := hide hO.nf2
    clear hO a0 a1 a2 a3 a4 a5 a6 a7 a8 a9 a10 a11 a12 a13 a14 a15 a16 a17 la lR xR Q1
    obtain ⟨lR, xR⟩ := bz_get Q5.out.x (k := R) (o := outR (.slice none 0 0) (.slice none 0 0)) (by simp)
    obtain ⟨r0, r1, z⟩ := out_at xR
    go_wp2_with fail
    refine bodyPost_ret (v := .agg #[.slice ao1 L.length cap1, .slice ao2 0 cap2]) (by simp [results, Tryz.results28, go_sem, *]; done) rfl ⟨_, _, rfl, Fc, g1, g2, ?_⟩
    exact out_fin5 (R := R) Q5.out (o := outR (.slice none 0 0) (.slice none 0 0)) (by simp) ow5.out dn5.out hg1.out (by have := hgR.out; omega) hne.out hf1.out hf2.out
  · rw [if_neg k3] at hL' ⊢
    obtain ⟨d7, d8, d9⟩ := cmpF k3
    replace k3 := hide k3
    obtain rfl : [] = L := hL'
    go_enter Tryz.func28, Tryz.ntmps28
    go_upto_region 1 with fail
    refine name_world ?_
    intro V hV
    have Q1 : Hid (At5 w V p B Fc Fc c id N D [(w.heap.size + 1, outR (.slice none 0 0) (.slice none 0 0)), (w.heap.size, actsO x)]) := by
      have h1 := ((At5.mk hH.out (fun x hx => by cases hx) (Step.refl _ _) : At5 w w p B Fc Fc c id N D []).new (actsO x)).new (outR (.slice none 0 0) (.slice none 0 0))
      rw [World.size_alloc] at h1
      rw [← hV]; exact hide h1
    have hBV : Hid (Below w.heap.size w V) := by rw [← hV]; exact hide (by all_goals exact belEnd)
    obtain ⟨R, hRe⟩ : ∃ R, Hid (w.heap.size + 1 = R) := ⟨_, hide rfl⟩
    obtain ⟨ka, hae⟩ : ∃ k, Hid (w.heap.size = k) := ⟨_, hide rfl⟩
    rw [hRe.out, hae.out] at Q1
    rw [hRe.out, hae.out]
    clear hV
    have hTV := hide (hT.out.lowB hBV.out)
    obtain ⟨la, xa⟩ := bz_get Q1.out.x (k := ka) (o := actsO x) (by simp)
    obtain ⟨a0, a1, a2, a3, a4, a5, a6, a7, a8, a9, a10, a11, a12, a13, a14, a15, a16, a17⟩ := acts_at xa
    obtain ⟨lR, xR⟩ := bz_get Q1.out.x (k := R) (o := outR (.slice none 0 0) (.slice none 0 0)) (by simp)
    clear xa
    obtain ⟨r0, r1, z⟩ := out_at xR
    go_wp2_with fail
    refine bodyPost_ret (v := .agg #[.slice none 0 0, .slice none 0 0]) (by simp [results, Tryz.results28, go_sem, *]; done) rfl ⟨_, _, rfl, Fc, ka, ka, ?_⟩
    have ow : OwnT V (.slice none 0 0) ka [] := own_nilT la
    exact out_fin5 (R := R) (Q1.out.step (Q1.out.n.mono (by omega)) (Step.refl _ _)) (o := outR (.slice none 0 0) (.slice none 0 0)) (by simp) ow (view_nilD _ _) (by have := hae.out; omega) (by have := hae.out; have := hRe.out; omega) (fun h => absurd rfl h) ((Q1.out.x (ka, actsO x) (by simp)).2.2.1) (fun h => absurd rfl h)
def ackN (L : List Lt) : Nat := (L.filter fun l => l.k == 7).length
def dnL (L : List Lt) : List (Int × Int) := (L.filter fun l => l.k == 5).map fun l => (l.q, l.s)
theorem ackN_app (L M : List Lt) : ackN (L ++ M) = ackN L + ackN M := by simp [ackN]
theorem dnL_app (L M : List Lt) : dnL (L ++ M) = dnL L ++ dnL M := by simp [dnL]
theorem ackN_one (l : Lt) : ackN [l] = if l.k = 7 then 1 else 0 := by by_cases h : l.k = 7 <;> simp [ackN, h]
theorem dnL_one (l : Lt) : dnL [l] = if l.k = 5 then [(l.q, l.s)] else [] := by by_cases h : l.k = 5 <;> simp [dnL, h]
theorem take_one (L : List Lt) {t : Nat} (h : t < L.length) : L.take (t + 1) = L.take t ++ [L[t]] := by rw [List.take_add_one, List.getElem?_eq_getElem h]; rfl
theorem ackN_step (L : List Lt) {t : Nat} (h : t < L.length) : ackN (L.take (t + 1)) = ackN (L.take t) + if L[t].k = 7 then 1 else 0 := by rw [take_one L h, ackN_app, ackN_one]
theorem dnL_step (L : List Lt) {t : Nat} (h : t < L.length) : dnL (L.take (t + 1)) = dnL (L.take t) ++ if L[t].k = 5 then [(L[t].q, L[t].s)] else [] := by rw [take_one L h, dnL_app, dnL_one]
theorem ackN_le (L : List Lt) (t : Nat) : ackN (L.take t) ≤ ackN L := by
  have := ackN_app (L.take t) (L.drop t)
  rw [List.take_append_drop] at this
  omega
theorem dnL_at {L : List Lt} (hl : (dnL L).length ≤ 1) {t : Nat} (h : t < L.length) (hk : L[t].k = 5) : dnL (L.take t) = [] ∧ dnL L = [(L[t].q, L[t].s)] := by
  have e := dnL_app (L.take (t + 1)) (L.drop (t + 1))
  rw [List.take_append_drop, dnL_step L h, if_pos hk] at e
  rw [e] at hl
  simp only [List.length_append, List.length_cons, List.length_nil] at hl
  have e1 : dnL (L.take t) = [] := List.eq_nil_of_length_eq_zero (by omega)
  have e2 : dnL (L.drop (t + 1)) = [] := List.eq_nil_of_length_eq_zero (by omega)
  refine ⟨e1, ?_⟩
  rw [e, e1, e2]
  rfl
theorem dnL_take_le {L : List Lt} (hl : (dnL L).length ≤ 1) (t : Nat) : (dnL (L.take t)).length ≤ 1 := by
  have e := dnL_app (L.take t) (L.drop t)
  rw [List.take_append_drop] at e
  rw [e] at hl
  simp only [List.length_append] at hl
  omega
theorem send_en (id y b : Int) (x : Bun) : ackN (sendL id y b x) = 0 ∧ dnL (sendL id y b x) = [] := by
  unfold sendL
  split
  · exact ⟨rfl, rfl⟩
  · rw [ackN_one, dnL_one]; exact ⟨rfl, rfl⟩
theorem home_en (c : Cf) (id k b s : Int) : ackN (homeL c id k b s) = (if k = 7 then 1 else 0) ∧ dnL (homeL c id k b s) = if k = 5 then [(b, s)] else [] := ⟨ackN_one _, dnL_one _⟩
theorem ask_en (c : Cf) (id : Int) (op : Op3) (d0 d1 : Int) : ackN (askL c id op d0 d1) = 0 ∧ dnL (askL c id op d0 d1) = [] := by
  unfold askL
  generalize tgt c.n id c.cp d0 d1 = ts
  induction ts with
  | nil => exact ⟨rfl, rfl⟩
  | cons t ts ih =>
    rw [List.map_cons, show askOne id op t :: ts.map (askOne id op) = [askOne id op t] ++ ts.map (askOne id op) from rfl, ackN_app, dnL_app, ih.1, ih.2, ackN_one, dnL_one]
    exact ⟨rfl, rfl⟩
structure EInv (D : Nd) (K : List (Int × Int)) : Prop where
  op : I64 D.P.op.b
  s : ∀ a ∈ D.T.A, I64 a.s
  k : ∀ p ∈ K, p.2 ≤ D.O p.1
def EOk (D' : Nd) (K : List (Int × Int)) (L : List Lt) : Prop := (dnL L).length ≤ 1 ∧ EInv D' (dnL L ++ K) ∧ ∀ p ∈ dnL L, I64 p.1 ∧ I64 p.2 ∧ p ∉ K
theorem EOk.nil {D' : Nd} {K : List (Int × Int)} {L : List Lt} (h : dnL L = []) (hi : EInv D' K) : EOk D' K L := by
  unfold EOk
  rw [h]
  exact ⟨by simp, hi, fun p hp => by cases hp⟩
theorem EOk.app {D' : Nd} {K : List (Int × Int)} {L M : List Lt} (h : EOk D' K L) (hM : dnL M = []) : EOk D' K (L ++ M) := by unfold EOk at *; rw [dnL_app, hM, List.append_nil]; exact h
theorem EOk.pre {D' : Nd} {K : List (Int × Int)} {L M : List Lt} (h : EOk D' K L) (hM : dnL M = []) : EOk D' K (M ++ L) := by unfold EOk at *; rw [dnL_app, hM, List.nil_append]; exact h
theorem EInv.of {D D' : Nd} {K : List (Int × Int)} (h : EInv D K) (h1 : I64 D'.P.op.b) (h2 : ∀ a ∈ D'.T.A, a ∈ D.T.A) (h3 : D'.O = D.O) : EInv D' K := ⟨h1, fun a ha => h.s a (h2 a ha), fun p hp => by rw [h3]; exact h.k p hp⟩
theorem getA_s {A : List At} (h : ∀ a ∈ A, I64 a.s) (b : Int) : I64 (getA A b).s := by
  cases e : hasA A b
  · rw [getA_none e]; exact i64_0
  · exact h _ (getA_mem e).1
theorem en_end {c : Cf} {id : Int} {D : Nd} {K : List (Int × Int)} (h : EInv D K) {b : Int} (hb : I64 b) : EOk (nxE id D b) K (endL c id D b) ∧ ackN (endL c id D b) = 0 := by
  unfold nxE endL
  cases e : endOk id D b
  · exact ⟨EOk.nil rfl h, rfl⟩
  · simp only [if_true]
    have e2 : D.O b < (getA D.T.A b).s := by
      unfold endOk at e
      simp only [Bool.and_eq_true, decide_eq_true_eq] at e
      exact e.2
    have hd : dnL (homeL c id 5 b (getA D.T.A b).s) = [(b, (getA D.T.A b).s)] := (home_en c id 5 b _).2
    refine ⟨⟨by rw [hd]; simp, ?_, ?_⟩, (home_en c id 5 b _).1⟩
    · rw [hd]
      refine ⟨h.op, h.s, fun p hp => ?_⟩
      show p.2 ≤ updI D.O b (getA D.T.A b).s p.1
      unfold updI
      rcases List.mem_cons.1 hp with rfl | hp
      · rw [if_pos rfl]; exact Int.le_refl _
      · have := h.k p hp
        split
        · rename_i e3; rw [e3] at this; omega
        · exact this
    · rw [hd]
      intro p hp
      obtain rfl : p = (b, (getA D.T.A b).s) := by simpa using hp
      exact ⟨hb, getA_s h.s b, fun hk => by have := h.k _ hk; dsimp only at this; omega⟩
theorem en_stt {c : Cf} {id : Int} {D : Nd} {K : List (Int × Int)} (h : EInv D K) : EOk (nxS c id D) K (sttL c id D) ∧ ackN (sttL c id D) = 0 := by
  unfold nxS sttL
  split
  · exact en_end (h.of (D' := sttD c D) (nxF_op h.op) (fun a ha => ha) rfl) h.op
  · exact ⟨EOk.nil rfl h, rfl⟩
theorem insA_mem {A : List At} {a x : At} (h : x ∈ insA A a) : x = a ∨ x ∈ A := by
  induction A with
  | nil => left; simpa [insA] using h
  | cons y r ih =>
    unfold insA at h
    split at h
    · rcases List.mem_cons.1 h with rfl | h
      · exact .inr (by simp)
      · rcases ih h with e | e
        · exact .inl e
        · exact .inr (by simp [e])
    · split at h
      · rcases List.mem_cons.1 h with rfl | h
        · exact .inl rfl
        · exact .inr (by simp [h])
      · rcases List.mem_cons.1 h with rfl | h
        · exact .inl rfl
        · exact .inr h
theorem delA_mem {A : List At} {b : Int} {x : At} (h : x ∈ delA A b) : x ∈ A := by
  induction A with
  | nil => cases h
  | cons y r ih =>
    unfold delA at h
    split at h
    · exact List.mem_cons_of_mem _ (ih h)
    · rcases List.mem_cons.1 h with rfl | h
      · simp
      · exact List.mem_cons_of_mem _ (ih h)
def ackX (c : Cf) (id : Int) (x : Ac) : Nat := if x.k = 2 ∧ x.l.k = 6 ∧ x.l.b = id ∧ lerr c x.l = 0 then 1 else 0
theorem en_take {c : Cf} {id : Int} {D : Nd} {K : List (Int × Int)} {l : Lt} {d0 d1 : Int} (hc : CfOk c id) (h : EInv D K) (hs : I64 l.s) : EOk (nxTake c id D l d0 d1) K (tkL c id D l d0 d1) ∧ ackN (tkL c id D l d0 d1) = if l.k = 6 ∧ l.b = id ∧ lerr c l = 0 then 1 else 0 := by
  unfold nxTake tkL
  cases ht : tkOk c id l
  · refine ⟨EOk.nil rfl h, ?_⟩
    unfold tkOk at ht
    simp only [Bool.and_eq_false_iff, decide_eq_false_iff_not] at ht
    have hn : ¬ (l.k = 6 ∧ l.b = id ∧ lerr c l = 0) := by
      rintro ⟨-, e2, e3⟩
      rcases ht with e | e
      · exact e e3
      · exact e e2
    rw [if_neg hn]
    rfl
  · simp only [if_true]
    unfold tkOk at ht
    simp only [Bool.and_eq_true, decide_eq_true_eq] at ht
    have hq := lerr_q ht.1
    have hqi : I64 l.q := by have := hc.b1; exact ⟨by omega, by omega⟩
    by_cases k1 : l.k = 1
    · rw [if_pos k1, if_pos k1, if_neg (show ¬ (l.k = 6 ∧ l.b = id ∧ lerr c l = 0) from fun e => absurd (k1.symm.trans e.1) (by decide))]
      unfold nxTok tokL
      split
      · exact ⟨EOk.nil (send_en _ _ _ _).2 h, (send_en _ _ _ _).1⟩
      · have h1 := en_stt (c := c) (id := id) (h.of (D' := abD c D l) h.op (fun a ha => ha) rfl)
        have h2 : ackN (abL c id D l) = 0 ∧ dnL (abL c id D l) = [] := by
          unfold abL
          split
          · exact send_en _ _ _ _
          · exact ⟨rfl, rfl⟩
        exact ⟨h1.1.pre h2.2, by rw [ackN_app, h2.1, h1.2]⟩
    · rw [if_neg k1, if_neg k1]
      by_cases k2 : l.k = 2
      · rw [if_pos k2, if_pos k2, if_neg (show ¬ (l.k = 6 ∧ l.b = id ∧ lerr c l = 0) from fun e => absurd (k2.symm.trans e.1) (by decide))]
        unfold nxAns ansL
        split
        · exact ⟨EOk.nil rfl h, rfl⟩
        · exact ⟨EOk.nil (send_en _ _ _ _).2 (h.of (D' := gvD D _ _ _) h.op (fun a ha => ha) rfl), (send_en _ _ _ _).1⟩
      · rw [if_neg k2, if_neg k2]
        by_cases k4 : l.k = 4
        · rw [if_pos k4, if_pos k4, if_neg (show ¬ (l.k = 6 ∧ l.b = id ∧ lerr c l = 0) from fun e => absurd (k4.symm.trans e.1) (by decide))]
          unfold nxAc acL
          cases ho : okA D.T (actA l)
          · exact ⟨EOk.nil rfl h, rfl⟩
          · simp only [if_true]
            have h1 : EInv (acD D l) K := ⟨h.op, fun a ha => by
              have ha' : a ∈ (nxA D.T (actA l)).A := ha
              unfold nxA at ha'
              rw [ho, if_pos rfl] at ha'
              rcases insA_mem ha' with rfl | e
              · exact hs
              · exact h.s a e, h.k⟩
            split
            · split
              · exact ⟨EOk.nil rfl h1, rfl⟩
              · exact en_end h1 hqi
            · exact ⟨EOk.nil (send_en _ _ _ _).2 (h1.of (D' := gvD (acD D l) _ _ _) h1.op (fun a ha => ha) rfl), (send_en _ _ _ _).1⟩
        · rw [if_neg k4, if_neg k4]
          by_cases k6 : l.k = 6
          · rw [if_pos k6, if_pos k6, if_pos ⟨k6, ht.2, ht.1⟩]
            refine ⟨EOk.nil (home_en _ _ 7 _ _).2 (h.of (D' := deD D l) h.op (fun a ha => ?_) rfl), (home_en _ _ 7 _ _).1⟩
            have ha' : a ∈ (nxD D.T l.q l.s).A := ha
            unfold nxD at ha'
            split at ha'
            · exact ha'
            · dsimp only at ha'
              split at ha'
              · exact delA_mem ha'
              · exact ha'
          · rw [if_neg k6, if_neg k6, if_neg (fun e => k6 e.1)]
            exact ⟨EOk.nil rfl h, rfl⟩
theorem en_do {c : Cf} {id : Int} {D : Nd} {K : List (Int × Int)} {x : Ac} (hc : CfOk c id) (h : EInv D K) (hop : I64 x.op.b) (hs : I64 x.l.s) : EOk (nxN c id D x) K (doL c id D x) ∧ ackN (doL c id D x) = ackX c id x := by
  unfold nxN doL ackX
  by_cases k1 : x.k = 1
  · rw [if_pos k1, if_pos k1, if_neg (show ¬ (x.k = 2 ∧ x.l.k = 6 ∧ x.l.b = id ∧ lerr c x.l = 0) from fun e => absurd (k1.symm.trans e.1) (by decide))]
    unfold nxIs isL
    split
    · have h1 : EInv (isD c D x.op) K := by
        refine h.of (D' := isD c D x.op) ?_ (fun a ha => ha) rfl
        show I64 (nxI c.cu D.P x.op).op.b
        unfold nxI
        split
        · exact h.op
        · exact hop
      have h2 := en_stt (c := c) (id := id) h1
      have h3 : ackN (if (nxS c id (isD c D x.op)).P.busy = true then askL c id x.op x.d0 x.d1 else []) = 0 ∧ dnL (if (nxS c id (isD c D x.op)).P.busy = true then askL c id x.op x.d0 x.d1 else []) = [] := by
        split
        · exact ask_en _ _ _ _ _
        · exact ⟨rfl, rfl⟩
      exact ⟨h2.1.app h3.2, by rw [ackN_app, h2.2, h3.1]⟩
    · exact ⟨EOk.nil rfl h, rfl⟩
  · rw [if_neg k1, if_neg k1]
    by_cases k2 : x.k = 2
    · rw [if_pos k2, if_pos k2]
      have := en_take (d0 := x.d0) (d1 := x.d1) hc h hs
      refine ⟨this.1, this.2.trans ?_⟩
      by_cases e : x.l.k = 6 ∧ x.l.b = id ∧ lerr c x.l = 0
      · rw [if_pos e, if_pos ⟨k2, e⟩]
      · rw [if_neg e, if_neg (fun q => e q.2)]
    · rw [if_neg k2, if_neg k2, if_neg (show ¬ (x.k = 2 ∧ x.l.k = 6 ∧ x.l.b = id ∧ lerr c x.l = 0) from fun e => k2 e.1)]
      by_cases k3 : x.k = 3
      · rw [if_pos k3, if_pos k3]
        have hP : I64 (nxT c.cu c.ct D.P).op.b := by
          unfold nxT
          split
          · exact h.op
          · exact h.op
        unfold nxTi tiL
        refine ⟨?_, ?_⟩
        · refine EOk.nil ?_ ?_
          · split
            · exact (ask_en _ _ _ _ _).2
            · split
              · split
                · rfl
                · exact (home_en _ _ 3 _ _).2
              · rfl
          · split
            · exact h.of (D' := ⟨D.C, D.T, nxT c.cu c.ct D.P, updB D.A D.P.op.b true, D.O⟩) hP (fun a ha => ha) rfl
            · exact h.of (D' := tiD c D) hP (fun a ha => ha) rfl
        · split
          · exact (ask_en _ _ _ _ _).1
          · split
            · split
              · rfl
              · exact (home_en _ _ 3 _ _).1
            · rfl
      · rw [if_neg k3, if_neg k3]
        exact ⟨EOk.nil rfl h, rfl⟩
end Go.Proofs.YtoenjdnccgmhoaaGreatDoor
