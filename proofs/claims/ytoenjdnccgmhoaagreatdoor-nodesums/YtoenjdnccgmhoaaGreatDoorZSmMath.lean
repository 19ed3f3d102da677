/- layer 15: Env15 Tell15 SmMath, put together. -/
import Derived.Test.YtoenjdnccgmhoaaGreatDoorB38
import Derived.Test.YtoenjdnccgmhoaaGreatDoorB43
import Derived.Test.YtoenjdnccgmhoaaGreatDoorB45
import Derived.Deep.WholeRow
import Derived.Test.YtoenjdnccgmhoaaGreatDoorB08
namespace Go.Proofs.YtoenjdnccgmhoaaGreatDoor
open Go.ChangeShapes Go.WideShapes Go.ChangeAt Go.RowKit
set_option linter.unusedSimpArgs false
set_option linter.unusedVariables false
set_option maxRecDepth 10000
attribute [local go_sem, local simp] over_const setCell_drewN alloc_drewN Over.cell Over.frozen lt_s1 lt_s2 lt_s3 le_s0 le_s1 le_s2 le_s3 eq_s0 eq_s1 eq_s2 qe_s0
theorem At5.low {w V : World} {p : Nat} {B : Bk} {Fc F : Nat → Prop} {c : Cf} {id : Int} {N : Nat} {D : Nd} {K : List (Nat × Obj)} (h : At5 w V p B Fc F c id N D K) (hlo : ∀ x, Fa p B Fc x → w.heap.size ≤ x) : Below w.heap.size w V := h.s.belowW (Below.refl _ _) hlo
theorem acts_at {w : World} {k : Nat} {x : Ac} (h : w.heap[k]? = some (actsO x)) : w.cell? ⟨k, 0, none⟩ = some (.int .i64 x.k) ∧ w.cell? ⟨k, 1, none⟩ = some (.int .i64 x.op.b) ∧ w.cell? ⟨k, 2, none⟩ = some (.bool x.op.w) ∧ w.cell? ⟨k, 3, none⟩ = some (.int .i64 x.op.v) ∧ w.cell? ⟨k, 4, none⟩ = some (.int .i64 x.l.k) ∧ w.cell? ⟨k, 5, none⟩ = some (.int .i64 x.l.a) ∧ w.cell? ⟨k, 6, none⟩ = some (.int .i64 x.l.b) ∧ w.cell? ⟨k, 7, none⟩ = some (.int .i64 x.l.q) ∧ w.cell? ⟨k, 8, none⟩ = some (.int .i64 x.l.s) ∧ w.cell? ⟨k, 9, none⟩ = some (.int .i64 x.l.w) ∧ w.cell? ⟨k, 10, none⟩ = some (.bool x.l.r) ∧ w.cell? ⟨k, 11, none⟩ = some (.int .i64 x.l.n) ∧ w.cell? ⟨k, 12, none⟩ = some (.bool x.l.o) ∧ w.cell? ⟨k, 13, none⟩ = some (.bool x.l.h) ∧ w.cell? ⟨k, 14, none⟩ = some (.int .i64 x.l.d) ∧ w.cell? ⟨k, 15, none⟩ = some (.int .i64 x.d0) ∧ w.cell? ⟨k, 16, none⟩ = some (.int .i64 x.d1) ∧ w.cell? ⟨k, 17, none⟩ = some (.int .i64 x.d2) := by
  refine ⟨?_, ?_, ?_, ?_, ?_, ?_, ?_, ?_, ?_, ?_, ?_, ?_, ?_, ?_, ?_, ?_, ?_, ?_⟩ <;> exact cell_of_row _ _ _ _ _ _ h
theorem i64_op {c : Cf} {id : Int} (hc : CfOk c id) {x : Int} (h0 : 0 ≤ x) (h1 : x < c.bl) : I64 x := by
  have := hc.b1
  exact ⟨by omega, by omega⟩
theorem acts_i64 {B : Nat} {w : World} {v : Value} {A : List Ac} (h : ActsAt B w v A) : ∀ x ∈ A, I64 x.op.b ∧ I64 x.l.k := by
  obtain ⟨ao, cap, -, -, -, h4⟩ := h
  intro x hx
  rcases h4 with rfl | ⟨b, o, -, -, -, h7⟩
  · cases hx
  · obtain ⟨j, hj, rfl⟩ := List.getElem_of_mem hx
    exact ⟨(h7 j hj).1.1, (h7 j hj).1.2.1⟩
theorem acts_i64s {B : Nat} {w : World} {v : Value} {A : List Ac} (h : ActsAt B w v A) : ∀ x ∈ A, I64 x.l.s := by
  obtain ⟨ao, cap, -, -, -, h4⟩ := h
  intro x hx
  rcases h4 with rfl | ⟨b, o, -, -, -, h7⟩
  · cases hx
  · obtain ⟨j, hj, rfl⟩ := List.getElem_of_mem hx
    exact (h7 j hj).1.2.2.1
theorem acts_i64q {B : Nat} {w : World} {v : Value} {A : List Ac} (h : ActsAt B w v A) : ∀ x ∈ A, I64 x.l.q := by
  obtain ⟨ao, cap, -, -, -, h4⟩ := h
  intro x hx
  rcases h4 with rfl | ⟨b, o, -, -, -, h7⟩
  · cases hx
  · obtain ⟨j, hj, rfl⟩ := List.getElem_of_mem hx
    exact (h7 j hj).1.2.2.2
structure One (w V : World) (p : Nat) (B : Bk) (F : Nat → Prop) (c : Cf) (id : Int) (N : Nat) (D : Nd) : Prop where
  n : NdIs V p B F c id N D
  lo : ∀ b, Fa p B F b → w.heap.size ≤ b
  bel : Below w.heap.size w V
section
variable {w V V' : World} {p : Nat} {B : Bk} {F F2 : Nat → Prop} {c : Cf} {id : Int} {N M : Nat} {D D2 : Nd}
theorem One.below (h : One w V p B F c id N D) (hb : Below V.heap.size V V') : One w V' p B F c id N D := ⟨h.n.below hb, h.lo, h.bel.trans (hb.mono h.bel.size)⟩
theorem One.step (h : One w V p B F c id N D) (hn : NdIs V' p B F2 c id M D2) (hs : Step (Fa p B F) (Fa p B F2) V V') : One w V' p B F2 c id M D2 := ⟨hn, hs.lo h.lo h.bel.size, hs.belowW h.bel h.lo⟩
theorem One.alloc (h : One w V p B F c id N D) (o : Obj) : One w (V.alloc o) p B F c id N D := h.below ((Below.refl _ _).alloc (Nat.le_refl _) _)
end
theorem wpList_store_new {P : Program} {ops : Array Oper} {rest : List Oper} {op : Oper} {a : Act} {w : World} {Q : Exit → Act → World → Prop} {cs zs : Array Value} {ty : TypeId} (x y : Operand) (ho : op.op = .store ty x y) (hgd : op.guard = none) (hx : a.eval x = .pointer (some ⟨w.heap.size, 0, none⟩)) (hy : a.eval y = .agg cs)
    (hi : (P.info? ty).map (·.size) = some cs.size) (hs : zs.size = cs.size) (h1 : cs.all (·.oneCell') = true) (h : wpList P ops Q rest (a.put op.dst undef) (w.alloc (.cells cs ty))) : wpList P ops Q (op :: rest) a (w.alloc (.cells zs ty)) := by
  refine wpList_store_row hgd ty x y ho w.heap.size cs hx hy ty zs (heap_alloc_last w _) hi hs h1 ?_
  rw [World.setRow_alloc_new]
  exact h
theorem infoAc : (Tryz.prog.info? 40).map (·.size) = some 18 := by kernel_rfl
def actC (x : Ac) : List Value := [.int .i64 x.k, .int .i64 x.op.b, .bool x.op.w, .int .i64 x.op.v, .int .i64 x.l.k, .int .i64 x.l.a, .int .i64 x.l.b, .int .i64 x.l.q, .int .i64 x.l.s, .int .i64 x.l.w, .bool x.l.r, .int .i64 x.l.n, .bool x.l.o, .bool x.l.h, .int .i64 x.l.d, .int .i64 x.d0, .int .i64 x.d1, .int .i64 x.d2]
theorem actC_one (x : Ac) : (actC x).toArray.all (fun v => v.oneCell') = true := by simp [actC, Value.oneCell']
theorem acts_range {B : Nat} {w : World} {ao : Option Addr} {n cap : Nat} {A : List Ac} (h : ActsAt B w (.slice ao n cap) A) {j : Nat} (hj : j < A.length) : ∃ b o, ao = some ⟨b, o, none⟩ ∧ b < B ∧ b < w.heap.size ∧ w.rangeAt b (o + j * 18) (actC A[j]) := by
  obtain ⟨b, o, e, h1, h2, -, r0, r1, r2, r3, r4, r5, r6, r7, r8, r9, r10, r11, r12, r13, r14, r15, r16, r17⟩ := acts_row h hj
  refine ⟨b, o, e, h1, h2, fun i v hv => ?_⟩
  have hi : i < 18 := (List.getElem?_eq_some_iff.1 hv).1
  have hc : i = 0 ∨ i = 1 ∨ i = 2 ∨ i = 3 ∨ i = 4 ∨ i = 5 ∨ i = 6 ∨ i = 7 ∨ i = 8 ∨ i = 9 ∨ i = 10 ∨ i = 11 ∨ i = 12 ∨ i = 13 ∨ i = 14 ∨ i = 15 ∨ i = 16 ∨ i = 17 := by omega
  rcases hc with rfl | rfl | rfl | rfl | rfl | rfl | rfl | rfl | rfl | rfl | rfl | rfl | rfl | rfl | rfl | rfl | rfl | rfl <;> cases hv
  · exact r0
  · exact r1
  · exact r2
  · exact r3
  · exact r4
  · exact r5
  · exact r6
  · exact r7
  · exact r8
  · exact r9
  · exact r10
  · exact r11
  · exact r12
  · exact r13
  · exact r14
  · exact r15
  · exact r16
  · exact r17
theorem range_new (w : World) (x : Ac) : (w.alloc (actsO x)).rangeAt w.heap.size 0 (actC x) := fun i v hv => by
  rw [Nat.zero_add]
  refine (cell_of_row _ _ _ _ _ _ (heap_alloc_new w _)).trans ?_
  rw [← hv]
  simp [actC]
theorem range_of {w : World} {k : Nat} {x : Ac} (h : w.heap[k]? = some (actsO x)) : w.rangeAt k 0 (actC x) := fun i v hv => by
  rw [Nat.zero_add]
  refine (cell_of_row _ _ _ _ _ _ h).trans ?_
  rw [← hv]
  simp [actC]
theorem infoLt : (Tryz.prog.info? 37).map (·.size) = some 11 := by kernel_rfl
theorem ltC_one (x : Lt) : (ltC x).toArray.all (fun v => v.oneCell') = true := by simp [ltC, Value.oneCell']
theorem lt_range {w : World} {b : Nat} {L : List Lt} {ao : Option Addr} {n cap : Nat} (h : ViewT w (.slice ao n cap) b L) {t : Nat} (ht : t < L.length) : ∃ o, ao = some ⟨b, o, none⟩ ∧ b < w.heap.size ∧ w.rangeAt b (o + t * 11) (ltC L[t]) := by
  obtain ⟨ao', cap', e, _, _, h3⟩ := h
  simp only [Value.slice.injEq] at e
  obtain ⟨rfl, _, _⟩ := e
  rcases h3 with rfl | ⟨o, rfl, h4, h5⟩
  · simp at ht
  · refine ⟨o, rfl, h4, fun i v hv => ?_⟩
    have hi : i < 11 := (List.getElem?_eq_some_iff.1 hv).1
    rw [Nat.add_assoc, h5 _ (by omega), flatLt_at L t i ht hi, hv]
theorem out_two {w5 : World} {w : World} {p : Nat} {B : Bk} {Fc F : Nat → Prop} {c : Cf} {id : Int} {N : Nat} {D : Nd} {k ka kc : Nat} {x : Ac} {v1 v2 : Value} (h : At5 w w5 p B Fc F c id N D [(k, outR (.slice none 0 0) (.slice none 0 0)), (ka, actsO x), (kc, cfR c)]) (h1 : ka ≠ k) (h2 : kc ≠ k) :
    At5 w ((w5.setCell ⟨k, 0, none⟩ v1).setCell ⟨k, 1, none⟩ v2) p B Fc F c id N D [(k, outR v1 v2), (ka, actsO x), (kc, cfR c)] := by
  have e1 := h.fill (k := k) (cs := #[.slice none 0 0, .slice none 0 0]) (T := 44) (by simp) 0 v1 [(k, outR v1 (.slice none 0 0)), (ka, actsO x), (kc, cfR c)] (fun y hy hn => by
    simp only [List.mem_cons, List.not_mem_nil, or_false] at hy ⊢
    rcases hy with rfl | rfl | rfl
    · exact absurd rfl hn
    · exact .inr (.inl rfl)
    · exact .inr (.inr rfl)) (fun y hy hn => by
    simp only [List.mem_cons, List.not_mem_nil, or_false] at hy
    rcases hy with rfl | rfl | rfl
    · rfl
    · exact absurd hn h1
    · exact absurd hn h2)
  exact e1.fill (k := k) (cs := #[v1, .slice none 0 0]) (T := 44) (by simp) 1 v2 [(k, outR v1 v2), (ka, actsO x), (kc, cfR c)] (fun y hy hn => by
    simp only [List.mem_cons, List.not_mem_nil, or_false] at hy ⊢
    rcases hy with rfl | rfl | rfl
    · exact absurd rfl hn
    · exact .inr (.inl rfl)
    · exact .inr (.inr rfl)) (fun y hy hn => by
    simp only [List.mem_cons, List.not_mem_nil, or_false] at hy
    rcases hy with rfl | rfl | rfl
    · rfl
    · exact absurd hn h1
    · exact absurd hn h2)
def doL (c : Cf) (id : Int) (D : Nd) (x : Ac) : List Lt := if x.k = 1 then isL c id D x.op x.d0 x.d1 else if x.k = 2 then tkL c id D x.l x.d0 x.d1 else if x.k = 3 then tiL c id D x.d0 x.d1 else []
def doN (c : Cf) (id : Int) (D : Nd) (x : Ac) : List Dn := if x.k = 1 then isN c id D x.op else if x.k = 2 then tkN c id D x.l else []
def nxN (c : Cf) (id : Int) (D : Nd) (x : Ac) : Nd := if x.k = 1 then nxIs c id D x.op else if x.k = 2 then nxTake c id D x.l x.d0 x.d1 else if x.k = 3 then nxTi c D else D
theorem i64_0 : I64 0 := ⟨by decide, by decide⟩
theorem nxF_op {P : Pm} (h : I64 P.op.b) : I64 (nxF P).op.b := by
  unfold nxF; split
  · exact i64_0
  · exact h
theorem nxS_op {c : Cf} {id : Int} {D : Nd} (h : I64 D.P.op.b) : I64 (nxS c id D).P.op.b := by
  unfold nxS; split
  · rw [nxE_P]; exact nxF_op h
  · exact h
theorem nxN_op {c : Cf} {id : Int} {D : Nd} {x : Ac} (h : I64 D.P.op.b) (hx : I64 x.op.b) : I64 (nxN c id D x).P.op.b := by
  unfold nxN
  split
  · unfold nxIs
    split
    · refine nxS_op ?_
      show I64 (nxI c.cu D.P x.op).op.b
      unfold nxI
      split
      · exact h
      · exact hx
    · exact h
  · split
    · unfold nxTake
      split
      · split
        · unfold nxTok
          split
          · exact h
          · exact nxS_op h
        · split
          · unfold nxAns; split
            · exact h
            · exact h
          · split
            · unfold nxAc
              split
              · split
                · split
                  · exact h
                  · rw [nxE_P]; exact h
                · exact h
              · exact h
            · split
              · exact h
              · exact h
      · exact h
    · split
      · unfold nxTi tiD nxT
        split
        · show I64 (if D.P.busy = true then _ else _ : Pm).op.b
          split
          · exact h
          · exact h
        · show I64 (if D.P.busy = true then _ else _ : Pm).op.b
          split
          · exact h
          · exact h
      · exact h
set_option maxHeartbeats 4000000 in
theorem do15_c (p : Nat) (B : Bk) (Fc : Nat → Prop) (c : Cf) (id : Int) (N : Nat) (D : Nd) (x : Ac) (w : World) (h : NdIs w p B Fc c id N D) (hT : Hid (Tab w)) (hN1 : N + 3 ≤ 2000) (hlk : I64 x.l.k) (hop : I64 D.P.op.b) (L : List Lt) (hL : Hid (doL c id D x = L)) (M : List Dn) (hM : Hid (doN c id D x = M)) : Calls Tryz.prog 28 #[ptr p, .agg #[.int .i64 x.k, .int .i64 x.op.b, .bool x.op.w, .int .i64 x.op.v, .int .i64 x.l.k, .int .i64 x.l.a, .int .i64 x.l.b, .int .i64 x.l.q, .int .i64 x.l.s, .int .i64 x.l.w, .bool x.l.r, .int .i64 x.l.n, .bool x.l.o, .bool x.l.h, .int .i64 x.l.d, .int .i64 x.d0, .int .i64 x.d1, .int .i64 x.d2]] w fun e w' => ∃ v1 v2, e = .returned (.agg #[v1, v2]) ∧ ∃ Fc' g1 g2, OutP w p B Fc Fc' c id (N + 3) (nxN c id D x) L M v1 v2 w' g1 g2 := by
  have hH := hide h
  have hL' := hL.out
  have hM' := hM.out
  unfold doL at hL'
  unfold doN at hM'
  unfold nxN
  clear hL hM h
  by_cases k1 : x.k = 1
  · rw [if_pos k1] at hL' hM' ⊢
    have hL2 := hide hL'
    have hM2 := hide hM'
    obtain ⟨ok, hok⟩ : ∃ ok, Hid (isOk c D x.op = ok) := ⟨_, hide rfl⟩
    clear hL' hM'
    replace k1 := hide k1
    go_enter Tryz.func28, Tryz.ntmps28
    go_upto_region 1 with fail
    refine name_world ?_
    intro V hV
    have Q1 : Hid (At5 w V p B Fc Fc c id N D [(w.heap.size + 1, outR (.slice none 0 0) (.slice none 0 0)), (w.heap.size, actsO x)]) := by
      have h1 := ((At5.mk hH.out (fun x hx => by cases hx) (Step.refl _ _) : At5 w w p B Fc Fc c id N D []).new (actsO x)).new (outR (.slice none 0 0) (.slice none 0 0))
      rw [World.size_alloc] at h1
      rw [← hV]; exact hide h1
    have hBV : Hid (Below w.heap.size w V) := by rw [← hV]; exact hide (by all_goals exact belEnd)
    obtain ⟨R, hRe⟩ : ∃ R, Hid (w.heap.size + 1 = R) := ⟨_, hide rfl⟩
    obtain ⟨ka, hae⟩ : ∃ k, Hid (w.heap.size = k) := ⟨_, hide rfl⟩
    rw [hRe.out, hae.out] at Q1
    rw [hRe.out, hae.out]
    clear hV
    have hTV := hide (hT.out.lowB hBV.out)
    obtain ⟨la, xa⟩ := bz_get Q1.out.x (k := ka) (o := actsO x) (by simp)
    obtain ⟨a0, a1, a2, a3, a4, a5, a6, a7, a8, a9, a10, a11, a12, a13, a14, a15, a16, a17⟩ := acts_at xa
    obtain ⟨lR, xR⟩ := bz_get Q1.out.x (k := R) (o := outR (.slice none 0 0) (.slice none 0 0)) (by simp)
    clear xa
    rw [k1.out] at a0
    go_wp2_with fail
    go_at_call 15
    refine (ndIssue_c p B Fc c id N D x.op x.d0 x.d1 x.d2 _ Q1.out.n (by omega) ok hok L hL2 M hM2).mono ?_
    rintro e w5 ⟨v1, v2, rfl, Fc5, g1, g2, hO⟩
    obtain ⟨ao1, cap1, e1, -⟩ := _root_.id hO.own
    obtain ⟨ao2, cap2, e2, -⟩ := _root_.id hO.dn
    subst e1 e2
    have Q5 := hide ((Q1.out.step hO.nd hO.st).step (hO.nd.mono (show _ ≤ N + 3 by omega)) (Step.refl _ _))
    have hg1 := hide (show w.heap.size ≤ g1 from Nat.le_trans Q1.out.s.fr.size hO.new)
    have hgR : Hid (R < g1) := hide (by have := hO.new; omega)
    have hne := hide (fun h => (⟨(hO.ne h).1, Nat.le_trans Q1.out.s.fr.size (hO.ne h).2, by have := (hO.ne h).2; omega⟩ : g2 ≠ g1 ∧ w.heap.size ≤ g2 ∧ g2 ≠ R))
    have ow5 := hide hO.own
    have dn5 := hide hO.dn
    have hf1 := hide hO.nf1
    have hf2 := hide hO.nf2
    clear hO a0 a1 a2 a3 a4 a5 a6 a7 a8 a9 a10 a11 a12 a13 a14 a15 a16 a17 la lR xR Q1
    obtain ⟨lR, xR⟩ := bz_get Q5.out.x (k := R) (o := outR (.slice none 0 0) (.slice none 0 0)) (by simp)
    obtain ⟨r0, r1, z⟩ := out_at xR
    go_wp2_with fail
    refine bodyPost_ret (v := .agg #[.slice ao1 L.length cap1, .slice ao2 M.length cap2]) (by simp [results, Tryz.results28, go_sem, *]; done) rfl ⟨_, _, rfl, Fc5, g1, g2, ?_⟩
    exact OutP.below (out_fin5 (R := R) Q5.out (o := outR (.slice none 0 0) (.slice none 0 0)) (by simp) ow5.out dn5.out hg1.out (by have := hgR.out; omega) hne.out hf1.out hf2.out) ((Below.refl _ _).alloc (Nat.le_refl _) _)
  rw [if_neg k1] at hL' hM' ⊢
  obtain ⟨d1, d2, d3⟩ := cmpF k1
  replace k1 := hide k1
  by_cases k2 : x.k = 2
  · rw [if_pos k2] at hL' hM' ⊢
    have hL2 := hide hL'
    have hM2 := hide hM'
    clear hL' hM' d1 d2 d3
    replace k2 := hide k2
    go_enter Tryz.func28, Tryz.ntmps28
    go_upto_region 1 with fail
    refine name_world ?_
    intro V hV
    have Q1 : Hid (At5 w V p B Fc Fc c id N D [(w.heap.size + 1, outR (.slice none 0 0) (.slice none 0 0)), (w.heap.size, actsO x)]) := by
      have h1 := ((At5.mk hH.out (fun x hx => by cases hx) (Step.refl _ _) : At5 w w p B Fc Fc c id N D []).new (actsO x)).new (outR (.slice none 0 0) (.slice none 0 0))
      rw [World.size_alloc] at h1
      rw [← hV]; exact hide h1
    have hBV : Hid (Below w.heap.size w V) := by rw [← hV]; exact hide (by all_goals exact belEnd)
    obtain ⟨R, hRe⟩ : ∃ R, Hid (w.heap.size + 1 = R) := ⟨_, hide rfl⟩
    obtain ⟨ka, hae⟩ : ∃ k, Hid (w.heap.size = k) := ⟨_, hide rfl⟩
    rw [hRe.out, hae.out] at Q1
    rw [hRe.out, hae.out]
    clear hV
    have hTV := hide (hT.out.lowB hBV.out)
    obtain ⟨la, xa⟩ := bz_get Q1.out.x (k := ka) (o := actsO x) (by simp)
    obtain ⟨a0, a1, a2, a3, a4, a5, a6, a7, a8, a9, a10, a11, a12, a13, a14, a15, a16, a17⟩ := acts_at xa
    obtain ⟨lR, xR⟩ := bz_get Q1.out.x (k := R) (o := outR (.slice none 0 0) (.slice none 0 0)) (by simp)
    clear xa
    rw [k2.out] at a0
    go_wp2_with fail
    go_at_call 17
    refine (ndTake_c p B Fc c id N D x.l x.d0 x.d1 x.d2 _ Q1.out.n hTV hN1 hlk hop L hL2 M hM2).mono ?_
    rintro e w5 ⟨v1, v2, rfl, Fc5, g1, g2, hO⟩
    obtain ⟨ao1, cap1, e1, -⟩ := _root_.id hO.own
    obtain ⟨ao2, cap2, e2, -⟩ := _root_.id hO.dn
    subst e1 e2
    have Q5 := hide ((Q1.out.step hO.nd hO.st).step (hO.nd.mono (show _ ≤ N + 3 by omega)) (Step.refl _ _))
    have hg1 := hide (show w.heap.size ≤ g1 from Nat.le_trans Q1.out.s.fr.size hO.new)
    have hgR : Hid (R < g1) := hide (by have := hO.new; omega)
    have hne := hide (fun h => (⟨(hO.ne h).1, Nat.le_trans Q1.out.s.fr.size (hO.ne h).2, by have := (hO.ne h).2; omega⟩ : g2 ≠ g1 ∧ w.heap.size ≤ g2 ∧ g2 ≠ R))
    have ow5 := hide hO.own
    have dn5 := hide hO.dn
    have hf1 := hide hO.nf1
    have hf2 := hide hO.nf2
    clear hO a0 a1 a2 a3 a4 a5 a6 a7 a8 a9 a10 a11 a12 a13 a14 a15 a16 a17 la lR xR Q1
    obtain ⟨lR, xR⟩ := bz_get Q5.out.x (k := R) (o := outR (.slice none 0 0) (.slice none 0 0)) (by simp)
    obtain ⟨r0, r1, z⟩ := out_at xR
    go_wp2_with fail
    refine bodyPost_ret (v := .agg #[.slice ao1 L.length cap1, .slice ao2 M.length cap2]) (by simp [results, Tryz.results28, go_sem, *]; done) rfl ⟨_, _, rfl, Fc5, g1, g2, ?_⟩
    exact out_fin5 (R := R) Q5.out (o := outR (.slice none 0 0) (.slice none 0 0)) (by simp) ow5.out dn5.out hg1.out (by have := hgR.out; omega) hne.out hf1.out hf2.out
  rw [if_neg k2] at hL' hM' ⊢
  obtain ⟨d4, d5, d6⟩ := cmpF k2
  replace k2 := hide k2
  obtain rfl : [] = M := hM'
  by_cases k3 : x.k = 3
  · rw [if_pos k3] at hL' ⊢
    have hL2 := hide hL'
    clear hL' d1 d2 d3 d4 d5 d6
    replace k3 := hide k3
    go_enter Tryz.func28, Tryz.ntmps28
    go_upto_region 1 with fail
    refine name_world ?_
    intro V hV
    have Q1 : Hid (At5 w V p B Fc Fc c id N D [(w.heap.size + 1, outR (.slice none 0 0) (.slice none 0 0)), (w.heap.size, actsO x)]) := by
      have h1 := ((At5.mk hH.out (fun x hx => by cases hx) (Step.refl _ _) : At5 w w p B Fc Fc c id N D []).new (actsO x)).new (outR (.slice none 0 0) (.slice none 0 0))
      rw [World.size_alloc] at h1
      rw [← hV]; exact hide h1
    have hBV : Hid (Below w.heap.size w V) := by rw [← hV]; exact hide (by all_goals exact belEnd)
    obtain ⟨R, hRe⟩ : ∃ R, Hid (w.heap.size + 1 = R) := ⟨_, hide rfl⟩
    obtain ⟨ka, hae⟩ : ∃ k, Hid (w.heap.size = k) := ⟨_, hide rfl⟩
    rw [hRe.out, hae.out] at Q1
    rw [hRe.out, hae.out]
    clear hV
    have hTV := hide (hT.out.lowB hBV.out)
    obtain ⟨la, xa⟩ := bz_get Q1.out.x (k := ka) (o := actsO x) (by simp)
    obtain ⟨a0, a1, a2, a3, a4, a5, a6, a7, a8, a9, a10, a11, a12, a13, a14, a15, a16, a17⟩ := acts_at xa
    obtain ⟨lR, xR⟩ := bz_get Q1.out.x (k := R) (o := outR (.slice none 0 0) (.slice none 0 0)) (by simp)
    clear xa
    rw [k3.out] at a0
    go_wp2_with fail
    go_at_call 19
    refine (ndTick_c p B Fc c id N D x.d0 x.d1 x.d2 _ Q1.out.n (by omega) hop L hL2).mono ?_
    rintro e w5 ⟨v1, v2, rfl, g1, g2, hO⟩
    obtain ⟨ao1, cap1, e1, -⟩ := _root_.id hO.own
    obtain ⟨ao2, cap2, e2, -⟩ := _root_.id hO.dn
    subst e1 e2
    have Q5 := hide ((Q1.out.step hO.nd hO.st).step (hO.nd.mono (show _ ≤ N + 3 by omega)) (Step.refl _ _))
    have hg1 := hide (show w.heap.size ≤ g1 from Nat.le_trans Q1.out.s.fr.size hO.new)
    have hgR : Hid (R < g1) := hide (by have := hO.new; omega)
    have hne := hide (fun h => (⟨(hO.ne h).1, Nat.le_trans Q1.out.s.fr.size (hO.ne h).2, by have := (hO.ne h).2; omega⟩ : g2 ≠ g1 ∧ w.heap.size ≤ g2 ∧ g2 ≠ R))
    have ow5 := hide hO.own
    have dn5 := hide hO.dn
    have hf1 := hide hO.nf1
    have hf2 := hide hO.nf2
    clear hO a0 a1 a2 a3 a4 a5 a6 a7 a8 a9 a10 a11 a12 a13 a14 a15 a16 a17 la lR xR Q1
    obtain ⟨lR, xR⟩ := bz_get Q5.out.x (k := R) (o := outR (.slice none 0 0) (.slice none 0 0)) (by simp)
    obtain ⟨r0, r1, z⟩ := out_at xR
    go_wp2_with fail
    refine bodyPost_ret (v := .agg #[.slice ao1 L.length cap1, .slice ao2 0 cap2]) (by simp [results, Tryz.results28, go_sem, *]; done) rfl ⟨_, _, rfl, Fc, g1, g2, ?_⟩
    exact out_fin5 (R := R) Q5.out (o := outR (.slice none 0 0) (.slice none 0 0)) (by simp) ow5.out dn5.out hg1.out (by have := hgR.out; omega) hne.out hf1.out hf2.out
  · rw [if_neg k3] at hL' ⊢
    obtain ⟨d7, d8, d9⟩ := cmpF k3
    replace k3 := hide k3
    obtain rfl : [] = L := hL'
    go_enter Tryz.func28, Tryz.ntmps28
    go_upto_region 1 with fail
    refine name_world ?_
    intro V hV
    have Q1 : Hid (At5 w V p B Fc Fc c id N D [(w.heap.size + 1, outR (.slice none 0 0) (.slice none 0 0)), (w.heap.size, actsO x)]) := by
      have h1 := ((At5.mk hH.out (fun x hx => by cases hx) (Step.refl _ _) : At5 w w p B Fc Fc c id N D []).new (actsO x)).new (outR (.slice none 0 0) (.slice none 0 0))
      rw [World.size_alloc] at h1
      rw [← hV]; exact hide h1
    have hBV : Hid (Below w.heap.size w V) := by rw [← hV]; exact hide (by all_goals exact belEnd)
    obtain ⟨R, hRe⟩ : ∃ R, Hid (w.heap.size + 1 = R) := ⟨_, hide rfl⟩
    obtain ⟨ka, hae⟩ : ∃ k, Hid (w.heap.size = k) := ⟨_, hide rfl⟩
    rw [hRe.out, hae.out] at Q1
    rw [hRe.out, hae.out]
    clear hV
    have hTV := hide (hT.out.lowB hBV.out)
    obtain ⟨la, xa⟩ := bz_get Q1.out.x (k := ka) (o := actsO x) (by simp)
    obtain ⟨a0, a1, a2, a3, a4, a5, a6, a7, a8, a9, a10, a11, a12, a13, a14, a15, a16, a17⟩ := acts_at xa
    obtain ⟨lR, xR⟩ := bz_get Q1.out.x (k := R) (o := outR (.slice none 0 0) (.slice none 0 0)) (by simp)
    clear xa
    obtain ⟨r0, r1, z⟩ := out_at xR
    go_wp2_with fail
    refine bodyPost_ret (v := .agg #[.slice none 0 0, .slice none 0 0]) (by simp [results, Tryz.results28, go_sem, *]; done) rfl ⟨_, _, rfl, Fc, ka, ka, ?_⟩
    have ow : OwnT V (.slice none 0 0) ka [] := own_nilT la
    exact out_fin5 (R := R) (Q1.out.step (Q1.out.n.mono (by omega)) (Step.refl _ _)) (o := outR (.slice none 0 0) (.slice none 0 0)) (by simp) ow (view_nilD _ _) (by have := hae.out; omega) (by have := hae.out; have := hRe.out; omega) (fun h => absurd rfl h) ((Q1.out.x (ka, actsO x) (by simp)).2.2.1) (fun h => absurd rfl h)
def smL (L : List Lt) (y : Int) : Int := (L.map fun l => if l.q = y then l.n else 0).sum
theorem smL_app (L M : List Lt) (y : Int) : smL (L ++ M) y = smL L y + smL M y := by simp [smL]
theorem smL_nil (y : Int) : smL [] y = 0 := rfl
theorem smL_one (l : Lt) (y : Int) : smL [l] y = if l.q = y then l.n else 0 := by simp [smL]
def GL (c : Cf) (id : Int) (l : Lt) : Prop := lerr c l = 0 ∧ l.a = id
def AllG (c : Cf) (id : Int) (L : List Lt) : Prop := ∀ l ∈ L, GL c id l
theorem AllG.nil (c : Cf) (id : Int) : AllG c id [] := fun l h => by cases h
theorem AllG.app {c : Cf} {id : Int} {L M : List Lt} (h : AllG c id L) (k : AllG c id M) : AllG c id (L ++ M) := fun l hl => by
  rcases List.mem_append.1 hl with e | e
  · exact h l e
  · exact k l e
theorem AllG.one {c : Cf} {id : Int} {l : Lt} (h : GL c id l) : AllG c id [l] := fun x hx => by
  obtain rfl : x = l := by simpa using hx
  exact h
section
variable {c : Cf} {id : Int}
theorem gl_tok (hc : CfOk c id) {z b : Int} {x : Bun} (hz : 0 ≤ z ∧ z ≤ c.n) (hne : z ≠ id) (h0 : 0 ≤ b) (h1 : b < c.bl) (hx : okB x) (hn : 1 ≤ x.n) (ht : x.n ≤ c.tt) : GL c id ⟨1, id, z, b, 0, 0, false, x.n, x.o, x.h, x.d⟩ := by
  have i0 := hc.i0
  have i1 := hc.i1
  refine ⟨?_, rfl⟩
  unfold lerr letterZ toLet
  have e : ¬ (b < 0 ∨ c.bl ≤ b) := by omega
  have ew : wayB (rowL 1) id z c.n = true := by
    by_cases q : z < c.n
    · simp [wayB, rowL, oneB, nodeB, i0, i1, hz.1, q]; omega
    · have : z = c.n := by omega
      subst this
      simp [wayB, rowL, oneB, nodeB, i0, i1]; omega
  have em : marksB (rowL 1) 0 0 false c.n = true := by simp [marksB, seqB, whoB, rowL]
  have es : sentZ ⟨x.n, x.o, x.h, x.d⟩ c.tt = 0 := by
    unfold sentZ
    have h2 := check_of_ok ⟨x.n, x.o, x.h, x.d⟩ c.tt hx ht
    rw [h2, if_pos rfl, if_neg (by dsimp only; omega)]
  simp [e, ew, em, inB, es]
theorem gl_home (hc : CfOk c id) {k b s : Int} (hk : k = 3 ∧ s = 0 ∨ k = 5 ∧ 1 ≤ s ∨ k = 7 ∧ 1 ≤ s) (h0 : 0 ≤ b) (h1 : b < c.bl) : GL c id ⟨k, id, c.n, b, s, 0, false, 0, false, false, 0⟩ := by
  have i0 := hc.i0
  have i1 := hc.i1
  refine ⟨?_, rfl⟩
  unfold lerr letterZ toLet
  have e : ¬ (b < 0 ∨ c.bl ≤ b) := by omega
  have hne : ¬ id = c.n := by omega
  rcases hk with ⟨rfl, rfl⟩ | ⟨rfl, hs⟩ | ⟨rfl, hs⟩
  · simp [e, inB, wayB, rowL, oneB, nodeB, i0, i1, hne, marksB, seqB, whoB, noneB]
  · simp [e, inB, wayB, rowL, oneB, nodeB, i0, i1, hne, marksB, seqB, whoB, noneB, hs]
  · simp [e, inB, wayB, rowL, oneB, nodeB, i0, i1, hne, marksB, seqB, whoB, noneB, hs]
theorem gl_ask (hc : CfOk c id) {op : Op3} {z : Int} (hz : 0 ≤ z ∧ z ≤ c.n) (hne : z ≠ id) (h0 : 0 ≤ op.b) (h1 : op.b < c.bl) : GL c id (askOne id op z) := by
  have i0 := hc.i0
  have i1 := hc.i1
  refine ⟨?_, rfl⟩
  unfold lerr letterZ toLet askOne
  have e : ¬ (op.b < 0 ∨ c.bl ≤ op.b) := by omega
  by_cases q : z < c.n
  · have hq : ¬ id = z := fun e => hne e.symm
    simp [e, inB, wayB, rowL, oneB, nodeB, i0, i1, hz.1, q, hq, marksB, seqB, whoB, noneB]
  · have : z = c.n := by omega
    subst this
    have hq : ¬ id = c.n := by omega
    simp [e, inB, wayB, rowL, oneB, nodeB, i0, i1, hq, marksB, seqB, whoB, noneB]
theorem send_sm (hc : CfOk c id) {z b : Int} {x : Bun} (hz : 0 ≤ z ∧ z ≤ c.n) (hne : z ≠ id) (h0 : 0 ≤ b) (h1 : b < c.bl) (hx : okB x) (ht : x.n ≤ c.tt) : AllG c id (sendL id z b x) ∧ ∀ y, smL (sendL id z b x) y = if b = y then x.n else 0 := by
  unfold sendL
  split
  · have : x.n = 0 := by have := hx.1; omega
    exact ⟨AllG.nil _ _, fun y => by rw [this]; simp [smL]⟩
  · exact ⟨AllG.one (gl_tok hc hz hne h0 h1 hx (by omega) ht), fun y => smL_one _ _⟩
theorem home_sm (hc : CfOk c id) {k b s : Int} (hk : k = 3 ∧ s = 0 ∨ k = 5 ∧ 1 ≤ s ∨ k = 7 ∧ 1 ≤ s) (h0 : 0 ≤ b) (h1 : b < c.bl) : AllG c id (homeL c id k b s) ∧ ∀ y, smL (homeL c id k b s) y = 0 :=
  ⟨AllG.one (gl_home hc hk h0 h1), fun y => by unfold homeL; rw [smL_one]; simp⟩
theorem tg_mem {f : Nat → Bool} {k : Nat} {t : Int} (h : t ∈ tg f k) : ∃ i : Nat, i < k ∧ t = i ∧ f i = true := by
  unfold tg at h
  obtain ⟨i, hi, rfl⟩ := List.mem_map.1 h
  simp only [List.mem_filter, List.mem_range] at hi
  exact ⟨i, hi.1, rfl, hi.2⟩
theorem ask_sm (hc : CfOk c id) {op : Op3} {d0 d1 : Int} (h0 : 0 ≤ op.b) (h1 : op.b < c.bl) : AllG c id (askL c id op d0 d1) ∧ ∀ y, smL (askL c id op d0 d1) y = 0 := by
  unfold askL
  constructor
  · intro l hl
    obtain ⟨t, ht, rfl⟩ := List.mem_map.1 hl
    unfold tgt at ht
    split at ht
    · cases ht
    · obtain ⟨i, hi, rfl, hf⟩ := tg_mem ht
      have hne : (i : Int) ≠ id := by
        unfold fT at hf
        simp only [Bool.and_eq_true, decide_eq_true_eq] at hf
        exact hf.1
      exact gl_ask hc ⟨by omega, by omega⟩ hne h0 h1
  · intro y
    generalize tgt c.n id c.cp d0 d1 = ts
    induction ts with
    | nil => rfl
    | cons t ts ih =>
      rw [List.map_cons, show askOne id op t :: ts.map (askOne id op) = [askOne id op t] ++ ts.map (askOne id op) from rfl, smL_app, ih, smL_one]
      by_cases e : op.b = y <;> simp [askOne, e]
end
structure SInv (c : Cf) (D : Nd) : Prop where
  t : ∀ y, (D.C.T y).n ≤ c.tt
  r : ∀ y ∈ D.C.A, 0 ≤ y ∧ y < c.bl
  a : ∀ a ∈ D.T.A, 0 ≤ a.n ∧ a.n < c.n
  o : ∀ b, 0 ≤ D.O b
  p : D.P.busy = true → 0 ≤ D.P.op.b ∧ D.P.op.b < c.bl
def SOk (c : Cf) (id : Int) (D D' : Nd) (f : Int → Int) (L : List Lt) : Prop := SInv c D' ∧ AllG c id L ∧ ∀ y, (D'.C.T y).n = (D.C.T y).n + f y - smL L y
section
variable {c : Cf} {id : Int} {D : Nd}
theorem SOk.nil (h : SInv c D) : SOk c id D D (fun _ => 0) [] := ⟨h, AllG.nil _ _, fun y => by simp [smL]⟩
theorem sm_end (hc : CfOk c id) (h : SInv c D) {b : Int} (h0 : 0 ≤ b) (h1 : b < c.bl) : SOk c id D (nxE id D b) (fun _ => 0) (endL c id D b) := by
  unfold nxE endL
  cases e : endOk id D b
  · exact SOk.nil h
  · simp only [if_true]
    have e2 : D.O b < (getA D.T.A b).s := by
      unfold endOk at e
      simp only [Bool.and_eq_true, decide_eq_true_eq] at e
      exact e.2
    have := h.o b
    have hh := home_sm hc (k := 5) (s := (getA D.T.A b).s) (.inr (.inl ⟨rfl, by omega⟩)) h0 h1
    refine ⟨⟨h.t, h.r, h.a, fun k => ?_, h.p⟩, hh.1, fun y => by rw [hh.2]; simp⟩
    show 0 ≤ updI D.O b (getA D.T.A b).s k
    unfold updI
    split
    · omega
    · exact h.o k
theorem sm_stt (hc : CfOk c id) (h : SInv c D) : SOk c id D (nxS c id D) (fun _ => 0) (sttL c id D) := by
  unfold nxS sttL
  cases e : sttOk c D
  · exact SOk.nil h
  · simp only [if_true]
    have hb : D.P.busy = true := by unfold sttOk at e; simp at e; exact e.1
    have hp := h.p hb
    have h2 : SInv c (sttD c D) := ⟨fun y => by show ((nxDo D.C D.P.op.b D.P.op.w D.P.op.v c.tt).T y).n ≤ _; rw [(dx_same _ _ _ _ _ _).1]; exact h.t y, fun y hy => by
      have hy' : y ∈ (nxDo D.C D.P.op.b D.P.op.w D.P.op.v c.tt).A := hy
      unfold nxDo at hy'
      split at hy'
      · exact h.r y (mem_nxUse.1 hy')
      · exact h.r y hy', h.a, h.o, fun q => by
      have q' : (nxF D.P).busy = true := q
      unfold nxF at q'
      rw [hb, if_pos rfl] at q'
      cases q'⟩
    have h3 := sm_end hc h2 hp.1 hp.2
    exact ⟨h3.1, h3.2.1, fun y => by rw [h3.2.2]; show ((nxDo D.C D.P.op.b D.P.op.w D.P.op.v c.tt).T y).n + _ - _ = _; rw [(dx_same _ _ _ _ _ _).1]⟩
end
theorem insS_mem {A : List At} {a x : At} (h : x ∈ insA A a) : x = a ∨ x ∈ A := by
  induction A with
  | nil => left; simpa [insA] using h
  | cons y r ih =>
    unfold insA at h
    split at h
    · rcases List.mem_cons.1 h with rfl | h
      · exact .inr (by simp)
      · rcases ih h with e | e
        · exact .inl e
        · exact .inr (by simp [e])
    · split at h
      · rcases List.mem_cons.1 h with rfl | h
        · exact .inl rfl
        · exact .inr (by simp [h])
      · rcases List.mem_cons.1 h with rfl | h
        · exact .inl rfl
        · exact .inr h
theorem delS_mem {A : List At} {b : Int} {x : At} (h : x ∈ delA A b) : x ∈ A := by
  induction A with
  | nil => cases h
  | cons y r ih =>
    unfold delA at h
    split at h
    · exact List.mem_cons_of_mem _ (ih h)
    · rcases List.mem_cons.1 h with rfl | h
      · simp
      · exact List.mem_cons_of_mem _ (ih h)
theorem lerr_way {c : Cf} {l : Lt} (h : lerr c l = 0) : l.a ≠ l.b ∧ (0 ≤ c.n → 0 ≤ l.a ∧ l.a ≤ c.n) ∧ (l.k = 4 → 0 ≤ l.w ∧ l.w < c.n) ∧ (l.k = 6 → 1 ≤ l.s) ∧ (l.k ≠ 1 → l.n = 0) := by
  obtain ⟨s1, s2, -, -⟩ := self_math (l := toLet l) h
  refine ⟨s1, fun h0 => ?_, ?_⟩
  · unfold anyB at s2
    simp only [Bool.or_eq_true, decide_eq_true_eq] at s2
    rcases s2 with e | e
    · have e' : l.a = c.n := e
      omega
    · have := nodeB_true.1 e
      exact ⟨this.1, by have := this.2; dsimp only [toLet] at this; omega⟩
  · unfold lerr letterZ toLet at h
    dsimp only at h
    split at h <;> (try omega)
    split at h <;> (try omega)
    split at h <;> (try omega)
    split at h <;> (try omega)
    rename_i h4
    have hm : marksB (rowL l.k) l.s l.w l.r c.n = true := by simpa using h4
    unfold marksB at hm
    simp only [Bool.and_eq_true] at hm
    refine ⟨fun k4 => ?_, fun k6 => ?_, fun k1 => ?_⟩
    · rw [k4] at hm
      exact nodeB_true.1 hm.1.2
    · rw [k6] at hm
      have := hm.1.1
      simpa [seqB, rowL] using this
    · rw [if_neg k1] at h
      split at h
      · omega
      · rename_i hx
        have hx' : noneB ⟨l.n, l.o, l.h, l.d⟩ = true := by simpa using hx
        simp only [noneB, Bool.and_eq_true, decide_eq_true_eq] at hx'
        exact hx'.1.1.1
section
variable {c : Cf} {id : Int} {D : Nd} {N : Int}
theorem ab_out {C : Ca} {S W : Int} (hC : CInv S W N C) {x : Int} {b : Bun} {q : Int} {r : Ln} (hb : okB b) (hg : goAb S W C x b q = (r, true)) : okB r.t ∧ (r.b = x ∧ r.t = b ∨ r.b ∈ C.A ∧ r.t = C.T r.b) := by
  unfold goAb at hg
  split at hg
  · simp at hg
  split at hg
  · simp at hg
  rename_i c1 c2
  obtain ⟨⟨v, k⟩, hv⟩ : ∃ z, vicA S W C.A x q = z := ⟨_, rfl⟩
  rw [hv] at hg
  rcases vic_cases hC.inv c2 hv with ⟨rfl, rfl, _⟩ | ⟨rfl, rfl, _⟩ | ⟨rfl, h2, h3, h4, h5⟩
  · simp at hg
    subst hg
    exact ⟨hb, .inl ⟨rfl, rfl⟩⟩
  · simp at hg
  · have hv0 : ¬ v < 0 := by omega
    simp [hv0] at hg
    subst hg
    exact ⟨hC.ok _, .inr ⟨h3, rfl⟩⟩
theorem ab_mem {C : Ca} {S W : Int} {x : Int} {b : Bun} {q y : Int} (h : y ∈ (nxAb S W C x b q).A) : y = x ∨ y ∈ C.A := by
  unfold nxAb at h
  split at h
  · exact .inr h
  split at h
  · exact .inr (mem_nxUse.1 h)
  split at h
  · exact .inr h
  split at h
  · rcases List.mem_append.1 h with e | e
    · exact .inr e
    · exact .inl (by simpa using e)
  · rcases List.mem_append.1 h with e | e
    · exact .inr (List.mem_of_mem_erase e)
    · exact .inl (by simpa using e)
theorem gv_sm (hc : CfOk c id) (h : SInv c D) (hC : CInv c.cs c.cy N D.C) {z x : Int} (hz : 0 ≤ z ∧ z ≤ c.n) (hne : z ≠ id) (h0 : 0 ≤ x) (h1 : x < c.bl) (n : Int) (o v : Bool) : SOk c id D (gvD D x n o) (fun _ => 0) (sendL id z x (givenB (D.C.T x) n o v)) := by
  obtain ⟨g, hg⟩ : ∃ g, givenB (D.C.T x) n o v = g := ⟨_, rfl⟩
  have hs := fun y => (tk_sum hC x n o v y hg).1
  have hk := hC.ok x
  have hp : okB g ∧ 0 ≤ g.n ∧ g.n ≤ (D.C.T x).n := by
    generalize D.C.T x = t at hg hk
    obtain ⟨tn, tw, te, td⟩ := t
    obtain ⟨p1, p2, p3, p4, -⟩ := parts_math tn tw te td n o v hk _ _ hg rfl
    exact ⟨p4, p1, by dsimp only; omega⟩
  rw [hg]
  have ht := h.t x
  have hsd := send_sm hc hz hne h0 h1 hp.1 (by omega)
  refine ⟨⟨fun y => ?_, fun y hy => ?_, h.a, h.o, h.p⟩, hsd.1, fun y => ?_⟩
  · show ((nxTk D.C x n o).T y).n ≤ _
    rw [hs y]
    have := h.t y
    split <;> omega
  · have hy' : y ∈ (nxTk D.C x n o).A := hy
    unfold nxTk at hy'
    dsimp only at hy'
    split at hy'
    · exact h.r y (List.mem_of_mem_erase hy')
    · exact h.r y hy'
  · rw [hsd.2]
    show ((nxTk D.C x n o).T y).n = (D.C.T y).n + 0 - _
    rw [hs y]
    omega
def cmX (c : Cf) (id : Int) (l : Lt) (y : Int) : Int := if tkOk c id l = true ∧ l.q = y then l.n else 0
theorem SOk.pre {D1 D' : Nd} {f : Int → Int} {L M : List Lt} (h : SOk c id D1 D' (fun _ => 0) L) (hM : AllG c id M) (hs : ∀ y, (D1.C.T y).n = (D.C.T y).n + f y - smL M y) : SOk c id D D' f (M ++ L) :=
  ⟨h.1, hM.app h.2.1, fun y => by rw [smL_app, h.2.2 y, hs y]; dsimp only; omega⟩
theorem SOk.app {D' : Nd} {f : Int → Int} {L M : List Lt} (h : SOk c id D D' f L) (hM : AllG c id M) (hs : ∀ y, smL M y = 0) : SOk c id D D' f (L ++ M) :=
  ⟨h.1, h.2.1.app hM, fun y => by rw [smL_app, hs y, h.2.2 y]; omega⟩
theorem SOk.same {D1 D' : Nd} {f g : Int → Int} {L : List Lt} (h : SOk c id D1 D' f L) (hD : ∀ y, (D1.C.T y).n = (D.C.T y).n) (hg : ∀ y, g y = f y) : SOk c id D D' g L := ⟨h.1, h.2.1, fun y => by rw [h.2.2 y, hD y, hg y]⟩
theorem sm_take (hc : CfOk c id) (h : SInv c D) (hC : CInv c.cs c.cy N D.C) {l : Lt} {d0 d1 : Int} (hr : l.k = 1 → (D.C.T l.q).n + l.n ≤ c.tt) : SOk c id D (nxTake c id D l d0 d1) (cmX c id l) (tkL c id D l d0 d1) := by
  have n0 := hc.n0
  unfold nxTake tkL
  cases ht : tkOk c id l
  · exact (SOk.nil h).same (fun _ => rfl) (fun y => by unfold cmX; rw [ht]; simp)
  · simp only [if_true]
    have ht' := ht
    unfold tkOk at ht'
    simp only [Bool.and_eq_true, decide_eq_true_eq] at ht'
    obtain ⟨he, hid⟩ := ht'
    obtain ⟨q0, q1, -, -⟩ := lerr_q he
    obtain ⟨w1, w2, w4, w6, wn⟩ := lerr_way he
    have w2 := w2 (by omega)
    have hza : l.a ≠ id := fun e => w1 (e.trans hid.symm)
    by_cases k1 : l.k = 1
    · rw [if_pos k1, if_pos k1]
      obtain ⟨t1, t2, t3, -⟩ := lerr_tok he k1
      have hcm : ∀ y, cmX c id l y = if l.q = y then l.n else 0 := fun y => by unfold cmX; rw [ht]; simp
      unfold nxTok tokL
      split
      · rename_i hf
        unfold fwdB at hf
        simp only [Bool.and_eq_true, Bool.not_eq_true', decide_eq_false_iff_not] at hf
        have ha := h.a _ (getA_mem hf.1).1
        have hs := send_sm hc ⟨ha.1, by omega⟩ hf.2 q0 q1 t1 t3
        exact ⟨h, hs.1, fun y => by rw [hs.2, hcm]; show _ = _ + _ - (if l.q = y then l.n else 0); omega⟩
      · obtain ⟨⟨r, ok⟩, hg⟩ : ∃ z, goAb c.cs c.cy D.C l.q (tokOf l) (pinP D.P) = z := ⟨_, rfl⟩
        have hab := fun y => (ab_sum hC t1 y hg).1
        have hro : ok = true → okB r.t ∧ (r.b = l.q ∧ r.t = tokOf l ∨ r.b ∈ D.C.A ∧ r.t = D.C.T r.b) := fun e => ab_out hC t1 (by rw [hg, e])
        have hrr := hr k1
        have htk : (tokOf l).n = l.n := rfl
        have hI : SInv c (abD c D l) := ⟨fun y => by
            show ((nxAb c.cs c.cy D.C l.q (tokOf l) (pinP D.P)).T y).n ≤ _
            rw [hab y, htk]
            have := h.t y
            by_cases e : l.q = y
            · rw [if_pos e]
              rw [e] at hrr
              split
              · rename_i e2; have := (hro e2.1).1.1; omega
              · omega
            · rw [if_neg e]
              split
              · rename_i e2; have := (hro e2.1).1.1; omega
              · omega, fun y hy => by
            rcases ab_mem hy with rfl | e
            · exact ⟨q0, q1⟩
            · exact h.r y e, h.a, h.o, h.p⟩
        have hM : AllG c id (abL c id D l) ∧ ∀ y, smL (abL c id D l) y = if ok = true ∧ r.b = y then r.t.n else 0 := by
          unfold abL abG
          rw [hg]
          cases ok
          · exact ⟨AllG.nil _ _, fun y => by simp [smL]⟩
          · simp only [if_true, true_and]
            obtain ⟨r1, r2⟩ := hro rfl
            have rb : 0 ≤ r.b ∧ r.b < c.bl ∧ r.t.n ≤ c.tt := by
              rcases r2 with ⟨e1, e2⟩ | ⟨e1, e2⟩
              · rw [e1, e2]; exact ⟨q0, q1, by rw [htk]; omega⟩
              · have := h.r _ e1
                rw [e2]
                exact ⟨this.1, this.2, h.t _⟩
            exact send_sm hc ⟨by omega, Int.le_refl _⟩ (by have := hc.i1; omega) rb.1 rb.2.1 r1 rb.2.2
        refine (sm_stt hc hI).pre hM.1 (fun y => ?_)
        rw [hM.2 y, hcm y]
        exact hab y
    · have hcm : ∀ y, cmX c id l y = 0 := fun y => by unfold cmX; rw [wn k1]; simp
      rw [if_neg k1, if_neg k1]
      by_cases k2 : l.k = 2
      · rw [if_pos k2, if_pos k2]
        unfold nxAns ansL
        split
        · exact (SOk.nil h).same (fun _ => rfl) hcm
        · exact (gv_sm hc h hC w2 hza q0 q1 _ _ _).same (fun _ => rfl) hcm
      · rw [if_neg k2, if_neg k2]
        by_cases k4 : l.k = 4
        · rw [if_pos k4, if_pos k4]
          have hw := w4 k4
          unfold nxAc acL
          cases ho : okA D.T (actA l)
          · exact (SOk.nil h).same (fun _ => rfl) hcm
          · simp only [if_true]
            have hI : SInv c (acD D l) := ⟨h.t, h.r, fun a ha => by
              have ha' : a ∈ (nxA D.T (actA l)).A := ha
              unfold nxA at ha'
              rw [ho, if_pos rfl] at ha'
              rcases insS_mem ha' with rfl | e
              · exact hw
              · exact h.a a e, h.o, h.p⟩
            split
            · split
              · exact ⟨hI, AllG.nil _ _, fun y => by rw [hcm y]; simp [smL, acD]⟩
              · exact (sm_end hc hI q0 q1).same (fun _ => rfl) hcm
            · rename_i hne
              exact (gv_sm (D := acD D l) hc hI hC ⟨hw.1, by omega⟩ hne q0 q1 _ _ _).same (fun _ => rfl) hcm
        · rw [if_neg k4, if_neg k4]
          by_cases k6 : l.k = 6
          · rw [if_pos k6, if_pos k6]
            have hh := home_sm hc (k := 7) (s := l.s) (.inr (.inr ⟨rfl, w6 k6⟩)) q0 q1
            refine ⟨⟨h.t, h.r, fun a ha => ?_, h.o, h.p⟩, hh.1, fun y => by rw [hh.2, hcm y]; simp [deD]⟩
            have ha' : a ∈ (nxD D.T l.q l.s).A := ha
            unfold nxD at ha'
            split at ha'
            · exact h.a a ha'
            · dsimp only at ha'
              split at ha'
              · exact h.a a (delS_mem ha')
              · exact h.a a ha'
          · rw [if_neg k6, if_neg k6]
            exact (SOk.nil h).same (fun _ => rfl) hcm
theorem sm_is (hc : CfOk c id) (h : SInv c D) {op : Op3} {d0 d1 : Int} : SOk c id D (nxIs c id D op) (fun _ => 0) (isL c id D op d0 d1) := by
  unfold nxIs isL
  cases e : isOk c D op
  · exact SOk.nil h
  · simp only [if_true]
    unfold isOk at e
    simp only [Bool.and_eq_true, decide_eq_true_eq, Bool.not_eq_true'] at e
    have hI : SInv c (isD c D op) := ⟨h.t, h.r, h.a, h.o, fun _ => by
      show 0 ≤ (nxI c.cu D.P op).op.b ∧ (nxI c.cu D.P op).op.b < c.bl
      unfold nxI
      rw [e.2, if_neg (by decide)]
      exact e.1⟩
    have h2 := (sm_stt hc hI)
    have h3 : SOk c id D (nxS c id (isD c D op)) (fun _ => 0) (sttL c id (isD c D op)) := h2.same (fun _ => rfl) (fun _ => rfl)
    split
    · have ha := ask_sm hc (op := op) (d0 := d0) (d1 := d1) e.1.1 e.1.2
      exact h3.app ha.1 ha.2
    · exact h3.app (AllG.nil _ _) (fun _ => rfl)
theorem sm_ti (hc : CfOk c id) (h : SInv c D) {d0 d1 : Int} : SOk c id D (nxTi c D) (fun _ => 0) (tiL c id D d0 d1) := by
  have hP : (nxT c.cu c.ct D.P).busy = true → 0 ≤ (nxT c.cu c.ct D.P).op.b ∧ (nxT c.cu c.ct D.P).op.b < c.bl := by
    unfold nxT
    split
    · rename_i e; intro _; exact h.p e
    · exact h.p
  have hI : SInv c (nxTi c D) := by
    unfold nxTi
    split
    · exact ⟨h.t, h.r, h.a, h.o, hP⟩
    · exact ⟨h.t, h.r, h.a, h.o, hP⟩
  have hC : ∀ y, ((nxTi c D).C.T y).n = (D.C.T y).n := fun y => by unfold nxTi; split <;> rfl
  have hL : AllG c id (tiL c id D d0 d1) ∧ ∀ y, smL (tiL c id D d0 d1) y = 0 := by
    unfold tiL
    by_cases hb : D.P.busy = true
    · have hp := h.p hb
      split
      · exact ask_sm hc hp.1 hp.2
      · split
        · split
          · exact ⟨AllG.nil _ _, fun _ => rfl⟩
          · exact home_sm hc (.inl ⟨rfl, rfl⟩) hp.1 hp.2
        · exact ⟨AllG.nil _ _, fun _ => rfl⟩
    · have hz : doT c.cu c.ct D.P = 0 := by unfold doT; rw [if_neg hb]
      rw [hz, if_neg (by decide), if_neg (by decide)]
      exact ⟨AllG.nil _ _, fun _ => rfl⟩
  exact ⟨hI, hL.1, fun y => by rw [hC, hL.2]; simp⟩
theorem sm_0 (hc : CfOk c id) : SInv c nd0 := ⟨fun y => by have := hc.t0; have := hc.n0; show (0 : Int) ≤ _; omega, fun y hy => absurd hy (by simp [nd0]), fun a ha => absurd ha (by simp [nd0]), fun b => Int.le_refl _, fun e => by cases e⟩
end
theorem gl_n {c : Cf} {id : Int} {l : Lt} (h : GL c id l) : 0 ≤ l.n ∧ l.n ≤ c.tt ∨ l.n = 0 := by
  by_cases k : l.k = 1
  · have := lerr_tok h.1 k; omega
  · exact .inr ((lerr_way h.1).2.2.2.2 k)
theorem smL_pos {c : Cf} {id : Int} {L : List Lt} (h : AllG c id L) (y : Int) : 0 ≤ smL L y := by
  induction L with
  | nil => exact Int.le_refl _
  | cons l L ih =>
    have h1 := ih (fun x hx => h x (by simp [hx]))
    have h2 := gl_n (h l (by simp))
    rw [show l :: L = [l] ++ L from rfl, smL_app, smL_one]
    split <;> omega
theorem smL_take {c : Cf} {id : Int} {L : List Lt} (h : AllG c id L) (t : Nat) (y : Int) : 0 ≤ smL (L.take t) y ∧ smL (L.take t) y ≤ smL L y := by
  have h1 := smL_pos (fun x hx => h x (List.mem_of_mem_take hx) : AllG c id (L.take t)) y
  have h2 := smL_pos (fun x hx => h x (List.mem_of_mem_drop hx) : AllG c id (L.drop t)) y
  have h3 := smL_app (L.take t) (L.drop t) y
  rw [List.take_append_drop] at h3
  omega
theorem smL_step (L : List Lt) {t : Nat} (h : t < L.length) (y : Int) : smL (L.take (t + 1)) y = smL (L.take t) y + if L[t].q = y then L[t].n else 0 := by
  rw [List.take_add_one, List.getElem?_eq_getElem h]
  show smL (L.take t ++ [L[t]]) y = _
  rw [smL_app, smL_one]
def allF (M : List Ln) : Int → Int := M.foldl (fun f l => fun y => if y = l.b then l.t.n else f y) (fun _ => 0)
theorem allF_step (M : List Ln) {t : Nat} (h : t < M.length) : allF (M.take (t + 1)) = fun y => if y = M[t].b then M[t].t.n else allF (M.take t) y := by
  rw [List.take_add_one, List.getElem?_eq_getElem h]
  show allF (M.take t ++ [M[t]]) = _
  unfold allF
  rw [List.foldl_append]
  rfl
theorem allF_map (T : Int → Bun) (y : Int) : ∀ (xs : List Int) (f : Int → Int), ((xs.map fun x => (⟨x, T x⟩ : Ln)).foldl (fun f l => fun y => if y = l.b then l.t.n else f y) f) y = if y ∈ xs then (T y).n else f y
  | [], f => by simp
  | x :: xs, f => by
    rw [List.map_cons, List.foldl_cons, allF_map T y xs]
    by_cases h1 : y ∈ xs
    · simp [h1]
    · by_cases h2 : y = x
      · subst h2; simp [h1]
      · simp [h1, h2]
theorem allF_all {S W N : Int} {C : Ca} (h : CInv S W N C) (y : Int) : allF (allC C) y = (C.T y).n := by
  unfold allF allC
  rw [allF_map]
  by_cases e : y ∈ listA C.A
  · rw [if_pos e]
  · rw [if_neg e]
    have : y ∉ C.A := fun q => e ((listA_perm C.A).mem_iff.2 q)
    rw [h.out y this]
theorem allC_at {C : Ca} {j : Nat} (h : j < (allC C).length) : (allC C)[j].b ∈ C.A := by
  have hm : (allC C)[j] ∈ (listA C.A).map fun x => (⟨x, C.T x⟩ : Ln) := List.getElem_mem h
  obtain ⟨x, hx, e⟩ := List.mem_map.1 hm
  rw [← e]
  exact (listA_perm C.A).mem_iff.1 hx
def skipX (c : Cf) (fq : Int) (l : Lt) : Bool := decide (l.k = 1) && (l.o || decide (c.tt < fq + min (max l.n 0) 1048576))
theorem skip_room {c : Cf} {fq : Int} {l : Lt} (h : skipX c fq l = false) (k : l.k = 1) (h0 : 0 ≤ fq) (ht : c.tt ≤ 65536) : fq + l.n ≤ c.tt := by
  unfold skipX at h
  rw [k] at h
  simp at h
  have := h.2
  omega
end Go.Proofs.YtoenjdnccgmhoaaGreatDoor
