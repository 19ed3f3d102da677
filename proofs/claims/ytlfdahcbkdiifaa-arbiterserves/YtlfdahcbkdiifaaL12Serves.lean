/- The walk of ArbiterServes: it returns true; no old memory turns (layer 12). -/
import Derived.Test.YtlfdahcbkdiifaaCmp12
import Derived.Test.YtlfdahcbkdiifaaSerMath
namespace Go.Proofs.Ytlfdahcbkdiifaa
open Go.ChangeShapes Go.WideShapes Go.ChangeAt Go.RowKit
set_option linter.unusedSimpArgs false
set_option linter.unusedVariables false
set_option maxRecDepth 10000

attribute [local go_sem, local simp] over_const setCell_drewN alloc_drewN Over.cell Over.frozen lt_s1 lt_s2 lt_s3 le_s0 le_s1 le_s2 le_s3 eq_s0 eq_s1 eq_s2 qe_s0

/-- A slice of ints, as a law gets it. -/
def IntsAt (B : Nat) (w : World) (v : Value) (A : List Int) : Prop := ∃ b, View w v b A ∧ (A ≠ [] → b < B)
theorem ints_of {w : World} {ao : Option Addr} {len cap : Nat} (le : len ≤ cap) (mx : cap ≤ maxLen) (r : len = 0 ∨ ∃ (b off : Nat) (R : Nat → List Value), ao = some ⟨b, off, none⟩ ∧ ∀ i, i < len → allLeaf [some .i64] (R i) ∧ ∀ j, j < [some IntKind.i64].length → w.cell? ⟨b, off + i * [some IntKind.i64].length + j, none⟩ = (R i)[j]?) :
    ∃ A, IntsAt w.heap.size w (.slice ao len cap) A := by
  by_cases hz : len = 0
  · subst hz
    exact ⟨[], 0, ⟨ao, cap, rfl, Nat.zero_le _, mx, .inl rfl⟩, fun h => absurd rfl h⟩
  rcases r with r | ⟨b, off, R, rfl, hR⟩
  · exact absurd r hz
  · have row : ∀ i, i < len → ∃ x : Int, w.cell? ⟨b, off + i, none⟩ = some (.int .i64 x) := by
      intro i hi
      obtain ⟨h0, hc⟩ := hR i hi
      obtain ⟨x0, v0, e0, w0, h1⟩ := allLeaf_int h0
      have q := hc 0 (by simp)
      rw [e0] at q
      exact ⟨x0, by simpa using q⟩
    obtain ⟨f, hf⟩ := @Go.Deep.choose_lt Int ⟨0⟩ len (fun i x => w.cell? ⟨b, off + i, none⟩ = some (.int .i64 x)) row
    have hl : ((List.range len).map f).length = len := by simp
    refine ⟨(List.range len).map f, b, ⟨some ⟨b, off, none⟩, cap, by rw [hl], by rw [hl]; exact le, mx, .inr ⟨off, rfl, cell_lt (hf 0 (by omega)), fun j hj => ?_⟩⟩, fun _ => cell_lt (hf 0 (by omega))⟩
    rw [hl] at hj
    rw [hf j hj]
    simp [ints, hj]
theorem IntsAt.below {B : Nat} {w w' : World} {v : Value} {A : List Int} (h : IntsAt B w v A) (hb : Below B w w') : IntsAt B w' v A := by
  obtain ⟨b, h1, h2⟩ := h
  exact ⟨b, h1.carry (fun hn _ => hb.block b (h2 hn)), h2⟩

theorem app_key {wz w2 : World} {g0 g' n cap : Nat} {ao : Option Addr} {v : Value} {ob : Option Nat} (hg0 : ob = some g0 ∨ (ob = none ∧ v = .slice none 0 0)) (hap : AppP wz w2 v (.slice ao n cap) g0 g') (hn : 1 ≤ n) : (∀ k, k < wz.heap.size → ob ≠ some k → w2.heap[k]? = wz.heap[k]?) ∧ (some g' = ob ∨ wz.heap.size ≤ g') := by
  rcases hg0 with rfl | ⟨rfl, rfl⟩
  · refine ⟨fun k hk hn => hap.fr.block k hk (fun e => hn (by rw [e])), ?_⟩
    rcases hap.lies with e | e
    · exact .inl (by rw [e])
    · exact .inr e
  · refine ⟨fun k hk _ => (hap.nil rfl).block k hk, ?_⟩
    rcases hap.lies with e | e
    · have := hap.keep e rfl
      cases this
      omega
    · exact .inr e

/-- An arbiter, and two slices of the law's own. -/
structure SEnv (w wr : World) (p g N M : Nat) (L : List Rq) (F : Nat → Prop) (vw : Value) (ow : Option Nat) (W : List Int) (vg : Value) (og : Option Nat) (T : List Int) : Prop where
  e : AEnv w wr p g N M L F
  hw : WtIs wr vw ow W
  hg : WtIs wr vg og T
  aw : ∀ b, ow = some b → ¬ F b ∧ b ≠ p ∧ w.heap.size ≤ b
  ag : ∀ b, og = some b → ¬ F b ∧ b ≠ p ∧ w.heap.size ≤ b
  ne : ∀ b, ow = some b → og ≠ some b

section
variable {w wr w3 : World} {p g N M M' : Nat} {L L' : List Rq} {F F' : Nat → Prop} {vw vg : Value} {ow og : Option Nat} {W T : List Int}
theorem SEnv.swap (h : SEnv w wr p g N M L F vw ow W vg og T) : SEnv w wr p g N M L F vg og T vw ow W := ⟨h.e, h.hg, h.hw, h.ag, h.aw, fun b h1 h2 => h.ne b h2 h1⟩
theorem SEnv.mono (h : SEnv w wr p g N M L F vw ow W vg og T) (hM : M ≤ M') : SEnv w wr p g N M' L F vw ow W vg og T := ⟨h.e.mono hM, h.hw, h.hg, h.aw, h.ag, h.ne⟩
theorem SEnv.lw (h : SEnv w wr p g N M L F vw ow W vg og T) : ∀ b, ow = some b → b < wr.heap.size := fun b e => by have := h.hw; rw [e] at this; exact this.lt
theorem SEnv.lg (h : SEnv w wr p g N M L F vw ow W vg og T) : ∀ b, og = some b → b < wr.heap.size := h.swap.lw
theorem SEnv.quiet (h : SEnv w wr p g N M L F vw ow W vg og T) (hb : Below wr.heap.size wr w3) : SEnv w w3 p g N M L F vw ow W vg og T :=
  ⟨h.e.quiet hb, h.hw.carry (fun b e => hb.block b (h.lw b e)), h.hg.carry (fun b e => hb.block b (h.lg b e)), h.aw, h.ag, h.ne⟩
theorem SEnv.step (h : SEnv w wr p g N M L F vw ow W vg og T) (hn : ArIs w3 p g N M' L' F') (hs : Step F F' wr w3) : SEnv w w3 p g N M' L' F' vw ow W vg og T :=
  ⟨h.e.step (Below.refl _ _) hn hs, h.hw.carry (fun b e => (hs.keep (h.aw b e).1 (h.lw b e)).1), h.hg.carry (fun b e => (hs.keep (h.ag b e).1 (h.lg b e)).1), fun b e => ⟨(hs.keep (h.aw b e).1 (h.lw b e)).2.1, (h.aw b e).2⟩, fun b e => ⟨(hs.keep (h.ag b e).1 (h.lg b e)).2.1, (h.ag b e).2⟩, h.ne⟩
/-- One more in the first slice. -/
theorem SEnv.app (h : SEnv w wr p g N M L F vw ow W vg og T) {g0 g' n cap : Nat} {ao : Option Addr} {x : Int} (hg0 : ow = some g0 ∨ (ow = none ∧ vw = .slice none 0 0)) (hown : Own w3 (.slice ao n cap) g' (W ++ [x])) (hap : AppP wr w3 vw (.slice ao n cap) g0 g') (hn : 1 ≤ n) : SEnv w w3 p g N M L F (.slice ao n cap) (some g') (W ++ [x]) vg og T := by
  obtain ⟨k1, k2⟩ := app_key hg0 hap hn
  have hF : ∀ b, F b → w3.heap[b]? = wr.heap[b]? := fun b hb => k1 b (h.e.n.lt b hb) (fun e => (h.aw b e).1 hb)
  have hp : w3.heap[p]? = wr.heap[p]? := k1 p h.e.n.pl (fun e => (h.aw p e).2.1 rfl)
  refine ⟨⟨h.e.n.carry hp hF, h.e.f0, h.e.p0, ⟨hap.fr.os.trans h.e.bel.os, hap.fr.tape.trans h.e.bel.tape, hap.fr.output.trans h.e.bel.output, Nat.le_trans h.e.bel.size hap.fr.size, fun k hk => (k1 k (Nat.lt_of_lt_of_le hk h.e.bel.size) (fun e => by have := (h.aw k e).2.2; omega)).trans (h.e.bel.block k hk)⟩⟩, hown, h.hg.carry (fun b e => k1 b (h.lg b e) (fun e2 => h.ne b e2 e)), ?_, h.ag, ?_⟩
  · intro b e
    cases e
    rcases k2 with e | e
    · exact h.aw _ e.symm
    · have := h.e.n.pl
      have := h.e.bel.size
      exact ⟨fun hb => by have := h.e.n.lt _ hb; omega, by omega, by omega⟩
  · intro b e e2
    cases e
    rcases k2 with e | e
    · exact h.ne _ e.symm e2
    · have := h.lg _ e2; omega
/-- The first slice's array. -/
theorem SEnv.arr (h : SEnv w wr p g N M L F vw ow W vg og T) : ∃ g0, Own wr vw g0 W ∧ (ow = some g0 ∨ (ow = none ∧ vw = .slice none 0 0)) := h.hw.own h.e.n.pl
/-- Its value, by its length. -/
theorem SEnv.val (h : SEnv w wr p g N M L F vw ow W vg og T) : ∃ a c, vw = .slice a W.length c := by
  obtain ⟨g0, ⟨ao, cap, e, _⟩, _⟩ := h.arr
  exact ⟨ao, cap, e⟩
end

def wantQ (N : Nat) (A : List Int) : List Int := A.filter (hasQ N)
theorem wantQ_snoc (N : Nat) (A : List Int) (j : Nat) (hj : j < A.length) : wantQ N (A.take (j + 1)) = if hasQ N A[j] then wantQ N (A.take j) ++ [A[j]] else wantQ N (A.take j) := by
  have e : A.take (j + 1) = A.take j ++ [A[j]] := by rw [List.take_add_one, List.getElem?_eq_getElem hj]; rfl
  unfold wantQ
  rw [e, List.filter_append]
  cases c : hasQ N A[j] <;> simp [c]
theorem wantQ_len (N : Nat) (A : List Int) : (wantQ N A).length ≤ A.length := List.length_filter_le _ _

/-- Between two rounds of the first loop. -/
structure RA (w wr : World) (p g N j : Nat) (A : List Int) (r : Rq) (F : Nat → Prop) (vw vg : Value) (ow og : Option Nat) : Prop where
  s : SEnv w wr p g N j [r] F vw ow (wantQ N (A.take j)) vg og ((wantQ N (A.take j)).take 1)
  m : SA (wantQ N (A.take j)) r

/-- Number s is active. -/
structure RB (w wr : World) (p g N q : Nat) (W : List Int) (r : Rq) (F : Nat → Prop) (vw vg : Value) (ow og : Option Nat) : Prop where
  s : SEnv w wr p g N (200 + 64 * q) [r] F vw ow W vg og (W.take q)
  m : SB W q r
/-- Number s is ending. -/
def RC (w wr : World) (p g N s m : Nat) (W : List Int) (r : Rq) (F : Nat → Prop) (vw vg : Value) (ow og : Option Nat) : Prop :=
  ∃ T, SEnv w wr p g N (200 + 64 * s + (N - m)) [r] F vw ow W vg og T ∧ ((1 ≤ m ∧ SC N W s m r ∧ T = W.take s) ∨ (m = 0 ∧ SB W (s + 1) r ∧ T = W.take (s + 1)))

set_option maxHeartbeats 4000000 in
theorem ArbiterServes_walk (nodes : Int) (v1 : Value) (A : List Int) (w : World) (h1 : IntsAt w.heap.size w v1 A) : Calls Try.prog 4 #[.int .i64 nodes, v1] w fun e w' => e = .returned (.bool true) ∧ Below w.heap.size w w' := by
  have hA := hide h1
  obtain ⟨bA, ⟨ao, cap, rfl, hlc, hmx, -⟩, -⟩ := h1
  have hma : A.length ≤ 9223372036854775807 := by unfold maxLen at hmx; omega
  clear hmx
  go_enter Try.func4, Try.ntmps4
  go_wp2_with fail
  go_at_call 9
  refine (awake12_any _).mono ?_
  rintro e w1 ⟨rfl, hB1⟩
  replace hB1 := hide hB1
  by_cases n1 : nodes < 1
  · go_wp2_with fail
    go_at_call 9
    refine (awake12_any _).mono ?_
    rintro e w9 ⟨rfl, hb9⟩
    replace hb9 := hide hb9
    go_wp2_with fail
    go_ret
    exact ⟨rfl, (unhide hB1).trans ((unhide hb9).mono (unhide hB1).size)⟩
  by_cases n2 : 64 < nodes
  · go_wp2_with fail
    go_at_call 9
    refine (awake12_any _).mono ?_
    rintro e w9 ⟨rfl, hb9⟩
    replace hb9 := hide hb9
    go_wp2_with fail
    go_ret
    exact ⟨rfl, (unhide hB1).trans ((unhide hb9).mono (unhide hB1).size)⟩
  by_cases ca : 100 < (A.length : Int)
  · go_wp2_with fail
    go_at_call 9
    refine (awake12_any _).mono ?_
    rintro e w9 ⟨rfl, hb9⟩
    replace hb9 := hide hb9
    go_wp2_with fail
    go_ret
    exact ⟨rfl, (unhide hB1).trans ((unhide hb9).mono (unhide hB1).size)⟩
  obtain ⟨N, hN⟩ : ∃ N, Hid (szQ nodes = N) := ⟨_, rfl⟩
  have hNs : (N : Int) = nodes := by have := szQ_in (x := nodes) (by omega) n2; rw [hN.out] at this; exact this
  have hN1 : 1 ≤ N := by omega
  have hN64 : N ≤ 64 := by omega
  go_wp2_with fail
  go_at_call 10
  refine (aNew_c nodes 1 w1 N 1 hN (hide rfl)).mono ?_
  rintro e w2 ⟨p, rfl, g, F2, h2, hf2, hp2, hb2⟩
  have R2 : Hid (RA w w2 p g N 0 A rq0 F2 (.slice none 0 0) (.slice none 0 0) none none) := hide ⟨⟨AEnv.first (unhide hB1) h2 hf2 hp2 hb2, ⟨rfl, rfl⟩, ⟨rfl, rfl⟩, fun b e => (by cases e), fun b e => (by cases e), fun b e => (by cases e)⟩, .inl ⟨rfl, rfl⟩⟩
  clear h2 hf2 hp2 hb2 hB1
  subst hNs
  go_wp2_with fail
  go_loopw [42, 6, 7] (fun i vw vg wr => ∃ j : Nat, j ≤ A.length ∧ i = .int .i64 j ∧ ∃ r F ow og, RA w wr p g N j A r F vw vg ow og) (fun i _ _ _ => A.length - (intOf i).toNat)
  case atStart => exact ⟨0, Nat.zero_le _, rfl, _, _, _, _, R2.out⟩
  case round =>
    obtain ⟨j, hj, rfl, r, F, ow, og, R1⟩ := hrel
    clear R2
    obtain ⟨wa, wc, rfl⟩ := R1.s.val
    obtain ⟨ga, gc, rfl⟩ := R1.s.swap.val
    by_cases hlt : j < A.length
    · have hlt' : (j : Int) < A.length := by omega
      obtain ⟨bA', VA, -⟩ := hA.out.below R1.s.e.bel
      obtain ⟨-, -, -, hc⟩ := view_at VA rfl
      obtain ⟨oA, rfl, hbA, hcell⟩ := hc j hlt
      have hst := wantQ_snoc N A j hlt
      obtain ⟨y, hyj⟩ : ∃ y, A[j] = y := ⟨_, rfl⟩
      rw [hyj] at hst hcell
      obtain ⟨W, hW⟩ : ∃ W, wantQ N (A.take j) = W := ⟨_, rfl⟩
      have S1 := R1.s
      have m1 := R1.m
      rw [hW] at S1 m1 hst ⊢
      obtain ⟨nG, hnG⟩ : ∃ nG, (W.take 1).length = nG := ⟨_, rfl⟩
      rw [hnG] at S1 ⊢
      replace hnG := hide hnG
      replace S1 := hide S1
      replace m1 := hide m1
      have hWl : W.length ≤ 100 := by rw [← hW]; have := wantQ_len N (A.take j); rw [List.length_take] at this; omega
      clear hc VA R1 hyj hW
      cases hq : hasQ N y with
      | false =>
        rw [hq, if_neg (by decide)] at hst
        have hn := ser_no (r := r) hq
        replace hst := hide hst
        rcases hasQ_no.1 hq with c | c
        all_goals
          clear hq
          go_wp2_with fail
          go_at_call 12
          refine (aAsk_c p g N j [r] F 0 y wr S1.out.e.n (by omega) at0 (hide hn.2.1) false (hide hn.1)).mono ?_
          rintro e w5 ⟨rfl, F5, h5, s5⟩
          rw [hn.2.2] at h5
          have S5 := hide ((S1.out.step h5 s5).quiet (belA w5 (atsO at0)))
          clear h5 s5 S1
          clear hn
          go_wp2_with fail
          go_roundw
          case rel => exact ⟨j + 1, by omega, by simp, _, _, _, _, ⟨by rw [hst.out]; exact S5.out, by rw [hst.out]; exact m1.out⟩⟩
          case measure => simp [intOf]; omega
      | true =>
        rw [hq, if_pos rfl] at hst
        replace hst := hide hst
        obtain ⟨yn, hyn, hyl⟩ := hasQ_iff.1 hq
        have y0 : ¬ y < 0 := by omega
        have y1 : y < (N : Int) := by omega
        clear hyn hyl yn
        by_cases hWe : W = []
        · subst hWe
          obtain rfl : nG = 0 := by rw [← hnG.out]; rfl
          obtain ⟨f1, f2, r', f3, f4⟩ := ser_first hq m1.out
          replace f4 := hide f4
          clear m1 hq
          go_wp2_with fail
          go_at_call 12
          refine (aAsk_c p g N j [r] F 0 y wr S1.out.e.n (by omega) ⟨0, y, 1⟩ (hide f2) true (hide f1)).mono ?_
          rintro e w5 ⟨rfl, F5, h5, s5⟩
          rw [f3] at h5
          have S5 := hide ((S1.out.step h5 s5).quiet (belA w5 (atsO ⟨0, y, 1⟩)))
          clear h5 s5 S1
          clear f1 f2 f3
          have S6 := hide (S5.out.quiet (belA _ (.cells #[.int .i64 y] 3)))
          clear S5
          obtain ⟨g0, hO, hg0⟩ := S6.out.swap.arr
          replace hO := hide hO
          replace hg0 := hide hg0
          go_wp2_with (at_builtin; first | (refine wpList_app rfl _ _ rfl rfl rfl hO.out (view_oneK (by simp) y) (by simp) 1 (by simp) ?_; intro ao2 cap2 w6 g6 hown hap; have S7 := hide (S6.out.swap.app hg0.out hown hap (Nat.le_refl _)).swap; clear hown hap S6 hO hg0; have S8 := hide (S7.out.quiet (belA _ (.cells #[.int .i64 y] 3))); clear S7; obtain ⟨g1, hO, hg0⟩ := S8.out.arr; replace hO := hide hO; replace hg0 := hide hg0) | (refine wpList_app rfl _ _ rfl rfl rfl hO.out (view_oneK (by simp) y) (by simp) 1 (by simp) ?_; intro ao3 cap3 w7 g7 hown hap; have S9 := hide (S8.out.app hg0.out hown hap (Nat.le_refl _)); clear hown hap S8 hO hg0))
          go_roundw
          case rel => exact ⟨j + 1, by omega, by simp, _, _, _, _, ⟨by rw [hst.out]; exact S9.out, by rw [hst.out]; exact f4.out⟩⟩
          case measure => simp [intOf]; omega
        · obtain ⟨f1, f2, r', f3, f4⟩ := ser_more hq hWe m1.out
          replace f4 := hide f4
          replace hWe := hide hWe
          clear m1 hq
          go_wp2_with fail
          go_at_call 12
          refine (aAsk_c p g N j [r] F 0 y wr S1.out.e.n (by omega) at0 (hide f2) false (hide f1)).mono ?_
          rintro e w5 ⟨rfl, F5, h5, s5⟩
          rw [f3] at h5
          have S5 := hide ((S1.out.step h5 s5).quiet (belA w5 (atsO at0)))
          clear h5 s5 S1
          clear f1 f2 f3
          have S6 := hide (S5.out.quiet (belA _ (.cells #[.int .i64 y] 3)))
          clear S5
          obtain ⟨g0, hO, hg0⟩ := S6.out.arr
          replace hO := hide hO
          replace hg0 := hide hg0
          go_wp2_with (at_builtin; refine wpList_app rfl _ _ rfl rfl rfl hO.out (view_oneK (by simp) y) (by simp; omega) (W.length + 1) (by simp) ?_; intro ao2 cap2 w6 g6 hown hap; have S7 := hide (S6.out.app hg0.out hown hap (by omega)); clear hown hap S6 hO hg0)
          go_roundw
          case rel => exact ⟨j + 1, by omega, by simp, _, _, _, _, ⟨by rw [hst.out, List.take_append_of_le_length (by cases W with | nil => exact absurd rfl hWe.out | cons a b => simp)]; exact S7.out, by rw [hst.out]; exact f4.out⟩⟩
          case measure => simp [intOf]; omega
    · obtain rfl : j = A.length := by omega
      have S1 := R1.s
      have m1 := R1.m
      rw [List.take_length] at S1 m1 ⊢
      obtain ⟨W, hW⟩ : ∃ W, wantQ N A = W := ⟨_, rfl⟩
      rw [hW] at S1 m1 ⊢
      obtain ⟨nG, hnG⟩ : ∃ nG, (W.take 1).length = nG := ⟨_, rfl⟩
      rw [hnG] at S1 ⊢
      have hWl : W.length ≤ 100 := by rw [← hW]; have := wantQ_len N A; omega
      obtain ⟨k, hk⟩ : ∃ k, W.length = k := ⟨_, rfl⟩
      rw [hk] at S1 hWl ⊢
      have B1 : Hid (RB w wr p g N 1 W r F (.slice wa k wc) (.slice ga nG gc) ow og) := hide ⟨S1.mono (by omega), ser_start m1⟩
      replace hk := hide hk
      clear R1 S1 m1 hnG hW
      have hw1 : IntKind.i64.wrap ((N : Int) - 1) = N - 1 := by rw [IntKind.wrap_i64]; omega
      obtain ⟨wo, hwo⟩ : ∃ wo, wo = wr := ⟨_, rfl⟩
      subst hwo
      go_wp2_with fail
      go_loopw [12, 7] (fun sq vg wr => ∃ s : Nat, 1 ≤ s ∧ s ≤ k + 1 ∧ sq = .int .i64 s ∧ ∃ r F og, RB w wr p g N s W r F (.slice wa k wc) vg ow og) (fun sq _ _ => k + 2 - (intOf sq).toNat)
      case atStart => exact ⟨1, Nat.le_refl _, by omega, rfl, _, _, _, B1.out⟩
      case round =>
        obtain ⟨s, hs1, hsk, rfl, r2, F2, og2, R2⟩ := hrel
        clear B1
        have S2 := R2.s
        have m2 := R2.m
        obtain ⟨ha2, hc2, rfl⟩ := S2.swap.val
        obtain ⟨nH, hnH⟩ : ∃ nH, (W.take s).length = nH := ⟨_, rfl⟩
        rw [hnH] at S2 ⊢
        replace S2 := hide S2
        replace m2 := hide m2
        replace hnH := hide hnH
        clear R2
        by_cases hle : s ≤ k
        · have hle' : (s : Int) ≤ k := by omega
          obtain ⟨f1, f2, f3, r3, f4, f5, f6, f7, f8⟩ := ser_cur m2.out (by rw [hk.out]; exact hle)
          obtain ⟨a, ha⟩ : ∃ a, atCur [r2] 0 = a := ⟨_, rfl⟩
          rw [ha] at f2
          obtain ⟨ab, an, as'⟩ := a
          obtain rfl : as' = (s : Int) := f2
          have hC := hide (ser_begin (N := N) f5 f6 f7 f8)
          replace ha := hide ha
          clear m2 f5 f6 f7 f8
          go_wp2_with fail
          go_at_call 20
          refine (aCur_c p g N _ [r2] F2 0 _ S2.out.e.n ⟨ab, an, s⟩ ha true (hide f1)).mono ?_
          rintro e w5 ⟨rfl, hb5⟩
          have S5 := hide ((S2.out.quiet hb5).quiet (belA w5 (atsO ⟨ab, an, s⟩)))
          clear hb5 S2 f1
          go_wp2_with fail
          go_at_call 15
          refine (aDone_c p g N _ [r2] F2 0 s _ S5.out.e.n true (hide f3)).mono ?_
          rintro e w6 ⟨rfl, F6, h6, s6⟩
          rw [f4] at h6
          have S6 := hide (S5.out.step h6 s6)
          clear h6 s6 S5 f3 f4
          go_wp2_with fail
          obtain ⟨wo2, hwo2⟩ : ∃ wo2, wo2 = wr := ⟨_, rfl⟩
          subst hwo2
          go_loopw [15, 7] (fun nv vg wr => ∃ (m : Nat) (n : Int), m ≤ N ∧ nv = .int .i64 n ∧ Hid (n = (m : Int) - 1) ∧ ∃ r F og, RC w wr p g N s m W r F (.slice wa k wc) vg ow og) (fun nv _ _ => (intOf nv + 1).toNat)
          case atStart => exact ⟨N, _, Nat.le_refl _, rfl, rfl, _, _, _, ⟨_, S6.out.mono (by omega), .inl ⟨hN1, hC.out, rfl⟩⟩⟩
          case round =>
            obtain ⟨m, n, hmN, rfl, hn, r7, F7, og7, R7⟩ := hrel
            clear S6 hC
            obtain ⟨T7, S7, d7⟩ := R7
            obtain ⟨ja, jc, rfl⟩ := S7.swap.val
            obtain ⟨nJ, hnJ⟩ : ∃ nJ, T7.length = nJ := ⟨_, rfl⟩
            rw [hnJ] at S7 ⊢
            replace S7 := hide S7
            replace hnJ := hide hnJ
            have hw2 : IntKind.i64.wrap (n - 1) = n - 1 := by rw [IntKind.wrap_i64]; have := hn.out; omega
            rcases d7 with ⟨hm1, hC, hT⟩ | ⟨rfl, hB, hT⟩
            · by_cases hm2 : 2 ≤ m
              · obtain ⟨f1, f2, r8, f3, f4⟩ := ser_ack hC hm2 hmN hn.out
                have e0 : ¬ n = 0 ∧ decide (n = 0) = false ∧ (n == 0) = false ∧ 0 ≤ n := by have := hn.out; have h : ¬ n = 0 := by omega
                                                                                            exact ⟨h, by simpa using h, by simpa using h, by omega⟩
                obtain ⟨-, e1, e2, e3⟩ := e0
                replace f4 := hide f4
                replace hT := hide hT
                clear hC
                go_wp2_with fail
                go_at_call 17
                refine (aAck_c p g N _ [r7] F7 0 s n _ S7.out.e.n (by omega) at0 (hide f2) false (hide f1)).mono ?_
                rintro e w8 ⟨rfl, F8, h8, s8⟩
                rw [f3] at h8
                have S9 := hide ((S7.out.step h8 s8).quiet (belA w8 (atsO at0)))
                clear h8 s8 S7 f1 f2 f3
                go_wp2_with fail
                go_roundw
                case rel => exact ⟨m - 1, _, by omega, rfl, hide (by have := hn.out; omega), _, _, _, ⟨_, S9.out.mono (by omega), .inl ⟨by omega, f4.out, hT.out⟩⟩⟩
                case measure => simp [intOf]; omega
              · obtain rfl : m = 1 := by omega
                obtain rfl : n = 0 := by have := hn.out; omega
                obtain ⟨f1, f2, r8, f3, f4⟩ := ser_last hC hN1 (by rw [hk.out]; exact hle)
                rw [hk.out] at f1 f2
                replace f4 := hide f4
                replace hT := hide hT
                clear hC
                obtain ⟨a, ha⟩ : ∃ a, atAck N [r7] 0 s 0 = a := ⟨_, rfl⟩
                rw [ha] at f2
                by_cases c : s < k
                · have c' : (s : Int) < k := by omega
                  have hok : okAck N [r7] 0 s 0 = true := by rw [f1]; simp [c]
                  have han : Hid (a.n = W.getD s 0) := hide (f2 c)
                  have htk : Hid (W.take (s + 1) = W.take s ++ [W.getD s 0]) := hide (take_more (by rw [hk.out]; exact c))
                  replace ha := hide ha
                  clear f1 f2
                  go_wp2_with fail
                  go_at_call 17
                  refine (aAck_c p g N _ [r7] F7 0 s 0 _ S7.out.e.n (by omega) a ha true (hide hok)).mono ?_
                  rintro e w8 ⟨rfl, F8, h8, s8⟩
                  rw [f3] at h8
                  have S9 := hide (((S7.out.step h8 s8).quiet (belA w8 (atsO a))).quiet (belA _ (.cells #[.int .i64 a.n] 3)))
                  clear h8 s8 S7 f3 hok
                  obtain ⟨g0, hO, hg0⟩ := S9.out.swap.arr
                  have hl9 : Hid (T7.length ≤ 200) := hide (by rw [hT.out, List.length_take]; omega)
                  replace hO := hide hO
                  replace hg0 := hide hg0
                  go_wp2_with (at_builtin; refine wpList_app rfl _ _ rfl rfl rfl hO.out (view_oneK (by simp) a.n) (by have := hl9.out; simp; omega) (nJ + 1) (by rw [hnJ.out]; rfl) ?_; intro ao2 cap2 w10 g10 hown hap; have S10 := hide (S9.out.swap.app hg0.out hown hap (by omega)).swap; clear hown hap S9 hO hg0)
                  go_roundw
                  case rel => exact ⟨0, _, by omega, rfl, hide (by simp), _, _, _, ⟨_, S10.out.mono (by omega), .inr ⟨rfl, f4.out, by rw [hT.out, htk.out, han.out]⟩⟩⟩
                  case measure => simp [intOf]
                · have c' : ¬ (s : Int) < k := by omega
                  have hok : okAck N [r7] 0 s 0 = false := by rw [f1]; simp [c]
                  have htk : Hid (W.take (s + 1) = W.take s) := hide (by rw [List.take_of_length_le (by rw [hk.out]; omega), List.take_of_length_le (by rw [hk.out]; omega)])
                  replace ha := hide ha
                  clear f1 f2
                  go_wp2_with fail
                  go_at_call 17
                  refine (aAck_c p g N _ [r7] F7 0 s 0 _ S7.out.e.n (by omega) a ha false (hide hok)).mono ?_
                  rintro e w8 ⟨rfl, F8, h8, s8⟩
                  rw [f3] at h8
                  have S9 := hide ((S7.out.step h8 s8).quiet (belA w8 (atsO a)))
                  clear h8 s8 S7 f3 hok
                  go_wp2_with fail
                  go_roundw
                  case rel => exact ⟨0, _, by omega, rfl, hide (by simp), _, _, _, ⟨_, S9.out.mono (by omega), .inr ⟨rfl, f4.out, by rw [hT.out, htk.out]⟩⟩⟩
                  case measure => simp [intOf]
            · obtain rfl : n = -1 := by have := hn.out; omega
              subst hT
              have hRB : Hid (RB w wr p g N (s + 1) W r7 F7 (.slice wa k wc) (.slice ja nJ jc) ow og7) := hide ⟨S7.out.mono (by omega), hB⟩
              have hw3 : IntKind.i64.wrap ((s : Int) + 1) = s + 1 := by rw [IntKind.wrap_i64]; omega
              clear S7 hB
              go_wp2_with fail
              go_roundw
              case rel => exact ⟨s + 1, by omega, by omega, by simp, _, _, _, hRB.out⟩
              case measure => simp [intOf]; omega
        · obtain rfl : s = k + 1 := by omega
          have hle' : ¬ ((k + 1 : Nat) : Int) ≤ k := by omega
          obtain ⟨f1, f2, f3⟩ := ser_end (by rw [hk.out]; exact m2.out)
          have htk : W.take (k + 1) = W := List.take_of_length_le (by rw [hk.out]; omega)
          rw [htk] at S2
          replace htk := hide htk
          clear m2
          go_wp2_with fail
          go_at_call 20
          refine (aCur_c p g N _ [r2] F2 0 _ S2.out.e.n at0 (hide f2) false (hide f1)).mono ?_
          rintro e w5 ⟨rfl, hb5⟩
          have S5 := hide ((S2.out.quiet hb5).quiet (belA w5 (atsO at0)))
          clear hb5 S2 f1 f2
          go_wp2_with fail
          go_at_call 21
          obtain ⟨b6, V6⟩ := S5.out.hg.view
          obtain ⟨b7, V7⟩ := S5.out.hw.view
          refine (ints_c _ _ _ _ W W _ V6 V7).mono ?_
          rw [show decide (W = W) = true by simp]
          rintro e w8 ⟨rfl, nq, rfl⟩
          have S8 := hide (S5.out.quiet (belD _ nq))
          clear V6 V7 S5
          go_wp2_with fail
          go_at_call 22
          refine (aWait_c p g N _ [r2] F2 0 _ S8.out.e.n (by omega)).mono ?_
          rintro e w9 ⟨v9, rfl, ob9, hW9, -, hb9⟩
          rw [f3] at hW9
          obtain ⟨b9, V9⟩ := hW9.view
          obtain ⟨za, zc, rfl, -⟩ := V9
          have hfin := hide (S8.out.quiet hb9).e.bel
          clear hW9 hb9 S8
          go_wp2_with fail
          go_ret
          exact ⟨rfl, hfin.out⟩
end Go.Proofs.Ytlfdahcbkdiifaa
