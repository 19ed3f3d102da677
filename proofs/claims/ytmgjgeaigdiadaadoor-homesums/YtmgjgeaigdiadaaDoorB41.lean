/- layer 16: Env16 Law16, put together. -/
import Derived.Test.YtmgjgeaigdiadaaDoorB30
import Derived.Test.YtmgjgeaigdiadaaDoorB25
import Derived.Test.YtmgjgeaigdiadaaDoorB38
import Derived.Test.YtmgjgeaigdiadaaDoorB39
import Derived.Test.YtmgjgeaigdiadaaDoorB40
import Derived.Test.YtmgjgeaigdiadaaDoorB04
import Derived.Test.YtmgjgeaigdiadaaDoorB16
import Derived.BigQuiet
namespace Go.Proofs.YtmgjgeaigdiadaaDoor
open Go.ChangeShapes Go.WideShapes Go.ChangeAt Go.RowKit
set_option linter.unusedSimpArgs false
set_option linter.unusedVariables false
set_option maxRecDepth 10000
attribute [local go_sem, local simp] over_const setCell_drewN alloc_drewN Over.cell Over.frozen lt_s1 lt_s2 lt_s3 le_s0 le_s1 le_s2 le_s3 eq_s0 eq_s1 eq_s2 qe_s0
theorem acts_at {w : World} {k : Nat} {x : Ac} (h : w.heap[k]? = some (actsO x)) : w.cell? ⟨k, 0, none⟩ = some (.int .i64 x.l.k) ∧ w.cell? ⟨k, 1, none⟩ = some (.int .i64 x.l.a) ∧ w.cell? ⟨k, 2, none⟩ = some (.int .i64 x.l.b) ∧ w.cell? ⟨k, 3, none⟩ = some (.int .i64 x.l.q) ∧ w.cell? ⟨k, 4, none⟩ = some (.int .i64 x.l.s) ∧ w.cell? ⟨k, 5, none⟩ = some (.int .i64 x.l.w) ∧ w.cell? ⟨k, 6, none⟩ = some (.bool x.l.r) ∧ w.cell? ⟨k, 7, none⟩ = some (.int .i64 x.l.n) ∧ w.cell? ⟨k, 8, none⟩ = some (.bool x.l.o) ∧ w.cell? ⟨k, 9, none⟩ = some (.bool x.l.h) ∧ w.cell? ⟨k, 10, none⟩ = some (.int .i64 x.l.d) ∧ w.cell? ⟨k, 11, none⟩ = some (.int .i64 x.d0) ∧ w.cell? ⟨k, 12, none⟩ = some (.int .i64 x.d1) ∧ w.cell? ⟨k, 13, none⟩ = some (.int .i64 x.d2) ∧ w.cell? ⟨k, 14, none⟩ = some (.bool x.cp) := by
  refine ⟨?_, ?_, ?_, ?_, ?_, ?_, ?_, ?_, ?_, ?_, ?_, ?_, ?_, ?_, ?_⟩ <;> exact cell_of_row _ _ _ _ _ _ h
theorem acts_i64 {B : Nat} {w : World} {v : Value} {A : List Ac} (h : ActsAt B w v A) : ∀ x ∈ A, I64 x.l.k := by
  obtain ⟨ao, cap, -, -, -, h4⟩ := h
  intro x hx
  rcases h4 with rfl | ⟨b, o, -, -, -, h7⟩
  · cases hx
  · obtain ⟨j, hj, rfl⟩ := List.getElem_of_mem hx
    exact (h7 j hj).1
theorem infoAc : (Tryd.prog.info? 37).map (·.size) = some 15 := by kernel_rfl
def actC (x : Ac) : List Value := [.int .i64 x.l.k, .int .i64 x.l.a, .int .i64 x.l.b, .int .i64 x.l.q, .int .i64 x.l.s, .int .i64 x.l.w, .bool x.l.r, .int .i64 x.l.n, .bool x.l.o, .bool x.l.h, .int .i64 x.l.d, .int .i64 x.d0, .int .i64 x.d1, .int .i64 x.d2, .bool x.cp]
theorem actC_one (x : Ac) : (actC x).toArray.all (fun v => v.oneCell') = true := by simp [actC, Value.oneCell']
theorem acts_range {B : Nat} {w : World} {ao : Option Addr} {n cap : Nat} {A : List Ac} (h : ActsAt B w (.slice ao n cap) A) {j : Nat} (hj : j < A.length) : ∃ b o, ao = some ⟨b, o, none⟩ ∧ b < B ∧ b < w.heap.size ∧ w.rangeAt b (o + j * 15) (actC A[j]) := by
  obtain ⟨b, o, e, h1, h2, -, r0, r1, r2, r3, r4, r5, r6, r7, r8, r9, r10, r11, r12, r13, r14⟩ := acts_row h hj
  refine ⟨b, o, e, h1, h2, fun i v hv => ?_⟩
  have hi : i < 15 := (List.getElem?_eq_some_iff.1 hv).1
  have hc : i = 0 ∨ i = 1 ∨ i = 2 ∨ i = 3 ∨ i = 4 ∨ i = 5 ∨ i = 6 ∨ i = 7 ∨ i = 8 ∨ i = 9 ∨ i = 10 ∨ i = 11 ∨ i = 12 ∨ i = 13 ∨ i = 14 := by omega
  rcases hc with rfl | rfl | rfl | rfl | rfl | rfl | rfl | rfl | rfl | rfl | rfl | rfl | rfl | rfl | rfl <;> cases hv
  · exact r0
  · exact r1
  · exact r2
  · exact r3
  · exact r4
  · exact r5
  · exact r6
  · exact r7
  · exact r8
  · exact r9
  · exact r10
  · exact r11
  · exact r12
  · exact r13
  · exact r14
theorem range_of {w : World} {k : Nat} {x : Ac} (h : w.heap[k]? = some (actsO x)) : w.rangeAt k 0 (actC x) := fun i v hv => by
  rw [Nat.zero_add]
  refine (cell_of_row _ _ _ _ _ _ h).trans ?_
  rw [← hv]
  simp [actC]
structure Hone (w V : World) (p : Nat) (B : Bh) (F : Nat → Prop) (c : Cf) (N : Nat) (D : Hm) : Prop where
  n : HmIs V p B F c N D
  lo : ∀ b, Fh p B F b → w.heap.size ≤ b
  bel : Below w.heap.size w V
section
variable {w V V' : World} {p : Nat} {B : Bh} {F F2 : Nat → Prop} {c : Cf} {N M : Nat} {D D2 : Hm}
theorem Hone.below (h : Hone w V p B F c N D) (hb : Below V.heap.size V V') : Hone w V' p B F c N D := ⟨h.n.below hb, h.lo, h.bel.trans (hb.mono h.bel.size)⟩
theorem Hone.step (h : Hone w V p B F c N D) (hn : HmIs V' p B F2 c M D2) (hs : Step (Fh p B F) (Fh p B F2) V V') : Hone w V' p B F2 c M D2 := ⟨hn, hs.lo h.lo h.bel.size, hs.belowW h.bel h.lo⟩
theorem Hone.alloc (h : Hone w V p B F c N D) (o : Obj) : Hone w (V.alloc o) p B F c N D := h.below ((Below.refl _ _).alloc (Nat.le_refl _) _)
theorem Hone.mono (h : Hone w V p B F c N D) (hM : N ≤ M) : Hone w V p B F c M D := ⟨h.n.mono hM, h.lo, h.bel⟩
theorem Hone.frk {k : Nat} (h : Hone w V p B F c N D) (hf : FrS (· = k) V V') (h0 : w.heap.size ≤ k) (hF : ¬ Fh p B F k) : Hone w V' p B F c N D :=
  ⟨h.n.fr hf (fun b hb e => hF (e ▸ hb)), h.lo, h.bel.trans (hf.below (fun i hi => by omega) h.bel.size)⟩
theorem Hone.tab (h : Hone w V p B F c N D) (hT : Tab w) : Tab V := hT.step (F := fun _ => False) (F' := fun _ => False) (FrS.of_below h.bel |> fun f => ⟨f, fun _ e => e.elim⟩) (fun e => e)
theorem Hone.no0 (h : Hone w V p B F c N D) (hT : Tab w) : ¬ Fh p B F 0 := fun e => by have := h.lo 0 e; have := hT.1; omega
theorem Hone.nf (h : Hone w V p B F c N D) {g : Nat} (hg : V.heap.size ≤ g) : ¬ Fh p B F g := fun e => by have := h.n.lt _ e; omega
end
structure Hduo (w V : World) (p : Nat) (B : Bh) (F : Nat → Prop) (q : Nat) (Bq : Bd) (G : Nat → Prop) (c : Cf) (N : Nat) (D : Hm) : Prop where
  a : Hone w V p B F c N D
  d : RhIs V q Bq G c N D
  lo : ∀ b, Fd q Bq G b → w.heap.size ≤ b
  dis : ∀ b, Fh p B F b → ¬ Fd q Bq G b
section
variable {w V V' : World} {p : Nat} {B : Bh} {F F2 : Nat → Prop} {q : Nat} {Bq Bq2 : Bd} {G G2 : Nat → Prop} {c : Cf} {N M : Nat} {D D2 : Hm}
theorem Hduo.below (h : Hduo w V p B F q Bq G c N D) (hb : Below V.heap.size V V') : Hduo w V' p B F q Bq G c N D := ⟨h.a.below hb, h.d.below hb, h.lo, h.dis⟩
theorem Hduo.alloc (h : Hduo w V p B F q Bq G c N D) (o : Obj) : Hduo w (V.alloc o) p B F q Bq G c N D := h.below ((Below.refl _ _).alloc (Nat.le_refl _) _)
theorem Hduo.prog (h : Hduo w V p B F q Bq G c N D) (hn : HmIs V' p B F2 c M D2) (hs : Step (Fh p B F) (Fh p B F2) V V') : Hone w V' p B F2 c M D2 ∧ RhIs V' q Bq G c N D ∧ ∀ b, Fh p B F2 b → ¬ Fd q Bq G b :=
  ⟨h.a.step hn hs, h.d.fr hs.fr (fun b hb hf => h.dis b hf hb), fun b hb hd => by
    rcases hs.new b hb with e | e
    · exact h.dis b e hd
    · have := h.d.lt b hd; omega⟩
theorem duo_doc (ha : Hone w V p B F c M D2) (hd : RhIs V q Bq G c N D) (hlo : ∀ b, Fd q Bq G b → w.heap.size ≤ b) (hdis : ∀ b, Fh p B F b → ¬ Fd q Bq G b) (hn : RhIs V' q Bq2 G2 c M D2) (hs : Step (Fd q Bq G) (Fd q Bq2 G2) V V') : Hduo w V' p B F q Bq2 G2 c M D2 :=
  ⟨⟨ha.n.fr hs.fr (fun b hb hf => hdis b hb hf), ha.lo, hs.belowW ha.bel hlo⟩, hn, hs.lo hlo ha.bel.size, fun b hb hd2 => by
    rcases hs.new b hd2 with e | e
    · exact hdis b hb e
    · have := ha.n.lt b hb; omega⟩
theorem Hduo.frk {k : Nat} (h : Hduo w V p B F q Bq G c N D) (hf : FrS (· = k) V V') (h0 : w.heap.size ≤ k) (hF : ¬ Fh p B F k) (hG : ¬ Fd q Bq G k) : Hduo w V' p B F q Bq G c N D :=
  ⟨h.a.frk hf h0 hF, h.d.fr hf (fun b hb e => hG (e ▸ hb)), h.lo, h.dis⟩
theorem Hduo.nf (h : Hduo w V p B F q Bq G c N D) {g : Nat} (hg : V.heap.size ≤ g) : ¬ Fd q Bq G g := fun e => by have := h.d.lt _ e; omega
end
abbrev cfh : Cf := ⟨2, 1, 3, 1, 1, 9, 1, 0, 1⟩
abbrev cfz : Cf := ⟨0, 0, 0, 0, 0, 0, 0, 0, 0⟩
abbrev ltP : Lt := ⟨3, 1, 2, 0, 0, 0, false, 0, false, false, 0⟩
abbrev wantL : List Lt := [⟨4, 2, 0, 0, 1, 1, false, 0, false, false, 0⟩, ⟨4, 2, 1, 0, 1, 1, false, 0, false, false, 0⟩, ⟨1, 2, 1, 0, 0, 0, false, 3, true, true, 0⟩]
theorem aw_L : htL cfh (hm0 cfh) ltP 0 0 = wantL := by kernel_rfl
theorem aw_at : atCur (nxHT cfh (hm0 cfh) ltP 0 0).L 0 = ⟨0, 1, 1⟩ := by kernel_rfl
theorem aw_ok : okCur (nxHT cfh (hm0 cfh) ltP 0 0).L 0 = true := by kernel_rfl
theorem aw_M : (nxHT cfh (hm0 cfh) ltP 0 0).M = [bun0] := by kernel_rfl
theorem aw_w : wtsQ (nxHT cfh (hm0 cfh) ltP 0 0).L 0 = [] := by kernel_rfl
theorem view_threeT (w : World) (a b d : Lt) : ViewT (w.alloc (.cells (flatLt [a, b, d]).toArray 34)) (.slice (some ⟨w.heap.size, 0, none⟩) 3 3) w.heap.size [a, b, d] :=
  ⟨_, 3, rfl, Nat.le_refl _, by decide, .inr ⟨0, rfl, by simp, fun j hj => by
    rw [Nat.zero_add]
    exact (cell_of_row _ _ _ _ _ _ (heap_alloc_new w _)).trans (by simp)⟩⟩
set_option maxHeartbeats 8000000 in
theorem awake16_c (w : World) (hT : Hid (Tab w)) : Calls Tryd.prog 10 #[] w fun e w' => e = .returned (.bool true) ∧ Below w.heap.size w w' := by
  go_enter Tryd.func10, Tryd.ntmps10
  go_wp2_with fail
  go_at_call 26
  refine (hmNew_c cfh _ (hide (by decide)) (hide (by decide))).mono ?_
  rintro e w1 ⟨p, rfl, B, Fc, hn1, hlo1, hb1⟩
  have hb0 : Below w.heap.size w (w.alloc (cfR cfh)) := (Below.refl _ _).alloc (Nat.le_refl _) _
  have Q1 : Hid (Hone w w1 p B Fc cfh 0 (hm0 cfh)) := hide ⟨hn1, fun b hb => Nat.le_trans hb0.size (hlo1 b hb), hb0.trans (hb1.mono hb0.size)⟩
  clear hn1 hlo1 hb1 hb0
  go_wp2_with fail
  go_at_call 26
  refine (hmNewNo_c cfz _ (cfgZ 0 0 0 0 0 0 0 0 0) (hide rfl) (by decide)).mono ?_
  rintro e w2 ⟨rfl, hb2⟩
  have Q2 := hide (Q1.out.below hb2)
  clear hb2 Q1
  go_wp2_with fail
  go_at_call 13
  refine (hmTake_c p B Fc cfh 0 (hm0 cfh) ltP 0 0 0 _ Q2.out.n (hide (Q2.out.tab hT.out)) (hide (Q2.out.no0 hT.out)) (by decide) ⟨by decide, by decide⟩ wantL (hide aw_L)).mono ?_
  rintro e w3 ⟨v3, rfl, F3, g3, hO⟩
  obtain ⟨ao3, cap3, e3, -⟩ := id hO.own
  have e3' : v3 = .slice ao3 3 cap3 := e3
  subst e3'
  clear e3
  obtain ⟨D3, hD3⟩ : ∃ D3, Hid (nxHT cfh (hm0 cfh) ltP 0 0 = D3) := ⟨_, rfl⟩
  have Q3 := hide (Q2.out.step hO.nd hO.st)
  have ow3 := hide hO.own
  rw [hD3.out] at Q3
  clear hO Q2
  have qa : Hid (atCur D3.L 0 = ⟨0, 1, 1⟩) := hide (by rw [← hD3.out]; exact aw_at)
  have qo : Hid (okCur D3.L 0 = true) := hide (by rw [← hD3.out]; exact aw_ok)
  have qM : Hid (D3.M = [bun0]) := hide (by rw [← hD3.out]; exact aw_M)
  have qw : Hid (wtsQ D3.L 0 = []) := hide (by rw [← hD3.out]; exact aw_w)
  clear hD3
  go_wp2_with fail
  go_at_call 15
  refine (hmCur_c p B F3 cfh 1 D3 0 _ Q3.out.n ⟨0, 1, 1⟩ qa true qo).mono ?_
  rintro e w4 ⟨rfl, hb4⟩
  have Q4 := hide (Q3.out.below hb4)
  replace ow3 := hide (ow3.out.below hb4)
  clear hb4 Q3
  go_wp2_with fail
  have hv5 := view_threeT (w4.alloc (resO ⟨0, 1, 1⟩)) ⟨4, 2, 0, 0, 1, 1, false, 0, false, false, 0⟩ ⟨4, 2, 1, 0, 1, 1, false, 0, false, false, 0⟩ ⟨1, 2, 1, 0, 0, 0, false, 3, true, true, 0⟩
  simp only [World.size_alloc] at hv5
  have Q5 := hide ((Q4.out.alloc (resO ⟨0, 1, 1⟩)).alloc (.cells (flatLt wantL).toArray 34))
  replace ow3 := hide ((ow3.out.alloc (resO ⟨0, 1, 1⟩)).alloc (.cells (flatLt wantL).toArray 34))
  have hac : ((w4.alloc (resO ⟨0, 1, 1⟩)).alloc (.cells (flatLt wantL).toArray 34)).heap[w4.heap.size]? = some (resO ⟨0, 1, 1⟩) := (Below.heap_alloc _ _ _ (by simp)).trans (heap_alloc_new w4 _)
  have hlt : w4.heap.size < ((w4.alloc (resO ⟨0, 1, 1⟩)).alloc (.cells (flatLt wantL).toArray 34)).heap.size := by simp
  go_at_call 12
  refine (sameT_c _ _ g3 (w4.heap.size + 1) wantL _ ow3.out.view hv5).mono ?_
  rintro e w5 ⟨rfl, n5, rfl⟩
  clear hv5 ow3 Q4 hac hlt
  have Q6 := hide (Q5.out.below (belowN (Below.refl _ _) n5))
  clear Q5
  have qM1 : Hid (D3.M.length = 1) := hide (by rw [qM.out]; rfl)
  go_wp2_with fail
  go_at_call 18
  refine (hmAll_c p B F3 cfh 1 D3 _ Q6.out.n 1 qM1).mono ?_
  rintro e w7 ⟨rfl, -, hb7⟩
  have Q7 := hide (Q6.out.below hb7)
  clear hb7 Q6
  go_wp2_with fail
  go_at_call 18
  refine (hmAll_c p B F3 cfh 1 D3 _ Q7.out.n 1 qM1).mono ?_
  rintro e w8 ⟨rfl, hO8, hb8⟩
  have Q8 := hide (Q7.out.below hb8)
  rw [qM.out] at hO8
  obtain ⟨-, -, -, k⟩ := view_atB hO8.view rfl
  obtain ⟨o8, e8, hl8, k0, k1, k2, k3⟩ := k 0 (by decide)
  simp only [Option.some.injEq, Addr.mk.injEq, true_and, and_true] at e8
  subst e8
  simp only [List.getElem_cons_zero, bun0] at k0 k1 k2 k3
  clear k hO8 hb8 Q7
  go_wp2_with fail
  go_at_call 20
  refine (hmWait_c p B F3 cfh 1 D3 0 _ Q8.out.n (by decide)).mono ?_
  rintro e w9 ⟨v9, rfl, ob, hW, -, hb9⟩
  rw [qw.out] at hW
  obtain ⟨b9, hV9⟩ := hW.view
  obtain ⟨ao9, cap9, e9, -⟩ := hV9
  have e9' : v9 = .slice ao9 0 cap9 := e9
  subst e9'
  have Q9 := (Q8.out.below hb9).bel
  clear hb9 e9 hW
  go_wp2_with fail
  go_ret
  exact ⟨rfl, Q9⟩
end Go.Proofs.YtmgjgeaigdiadaaDoor
