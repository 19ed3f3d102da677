/- The walk of CacheStores: it returns true; no old memory turns. -/
import Derived.Test.YtooopcadefpncaaLaw09
namespace Go.Proofs.Ytooopcadefpncaa
open Go.ChangeShapes Go.WideShapes Go.ChangeAt Go.RowKit
set_option linter.unusedSimpArgs false
set_option linter.unusedVariables false
set_option maxRecDepth 10000

attribute [local go_sem, local simp] over_const setCell_drewN alloc_drewN Over.cell Over.frozen lt_s1 lt_s2 lt_s3 le_s0 le_s1 le_s2 le_s3 eq_s0 eq_s1 eq_s2 qe_s0

theorem st_v {x : Int} (h : 0 ≤ x) : vicA 1 1 [] x (-1) = (-1, true) := by
  have : ¬ x < 0 := by omega
  simp [vicA, this, fullA, part]
def stC1 (x : Int) (b : Bun) : Ca := if b.n < 1 then ⟨[], fun _ => bun0⟩ else ⟨[x], updT (fun _ => bun0) x b⟩
theorem st_g {x : Int} (h : 0 ≤ x) (b : Bun) : goAb 1 1 ⟨[], fun _ => bun0⟩ x b (-1) = (ln0, false) := by
  by_cases c : b.n < 1
  · simp [goAb, c]
  · simp [goAb, c, st_v h]
theorem st_n {x : Int} (h : 0 ≤ x) (b : Bun) : nxAb 1 1 ⟨[], fun _ => bun0⟩ x b (-1) = stC1 x b := by
  by_cases c : b.n < 1
  · simp [nxAb, c, stC1]
  · simp [nxAb, c, stC1, st_v h]
theorem st_t {x : Int} {b : Bun} (h : okB b) : (stC1 x b).T x = b := by
  unfold stC1
  split
  · rename_i c
    rw [ok_zero h (by have := h.1; omega)]
  · simp [updT]

/-- What both operations answer. -/
theorem st_all {x : Int} {n : Int} {o h : Bool} {d : Int} (hb : okB ⟨n, o, h, d⟩) (wr : Bool) (v t : Int) {q q2 : Bool} {r r2 : Int} (hq : okDo (stC1 x ⟨n, o, h, d⟩) x wr t = q) (hr : valDo (stC1 x ⟨n, o, h, d⟩) x wr v t = r) (hq2 : okDo (nxDo (stC1 x ⟨n, o, h, d⟩) x wr v t) x false t = q2) (hr2 : valDo (nxDo (stC1 x ⟨n, o, h, d⟩) x wr v t) x false 0 t = r2) :
    q = (decide (0 < n) && h && (!wr || decide (n = t))) ∧ q2 = (decide (0 < n) && h) ∧ (q = false → r = 0) ∧ (q = true → r2 = r) ∧ (q = true → wr = true → r = v) := by
  have ht := st_t (x := x) hb
  have e1 : q = (decide (0 < n) && h && (!wr || decide (n = t))) := by
    rw [← hq, okDo, ht, canB]
    rfl
  obtain ⟨s1, s2, s3⟩ := dx_same (stC1 x ⟨n, o, h, d⟩) x wr v t x
  rw [ht] at s1 s2 s3
  have e2 : q2 = (decide (0 < n) && h) := by
    rw [← hq2, okDo, s1, s3, canB]
    simp
    rfl
  refine ⟨e1, e2, fun e => ?_, fun e => ?_, fun e e' => ?_⟩
  · rw [← hr, valDo, hq, e]; rfl
  · have e3 : q2 = true := by rw [e2]; rw [e] at e1; have := e1.symm; simp at this; simp [this.1]
    rw [← hr2, ← hr, valDo, hq2, e3, valDo, hq, e]
    simp only [if_true]
    rw [datDo, hq2]
    simp
    rw [nxDo, hq, e]
    simp [updT]
  · rw [← hr, valDo, hq, e, datDo, hq, e, e']; simp

structure StEnv (w wr : World) (b : Bun) (x : Int) (ow : Bool) (v : Int) : Prop where
  bel : Below w.heap.size w wr
  h : BunAt wr w.heap.size b
  op : OpAt wr (w.heap.size + 1) x ow v
theorem StEnv.below {w wr w' : World} {b : Bun} {x : Int} {ow : Bool} {v : Int} (h : StEnv w wr b x ow v) (hb : Below wr.heap.size wr w') : StEnv w w' b x ow v :=
  ⟨h.bel.trans (hb.mono h.bel.size), h.h.below hb, h.op.below hb⟩
theorem StEnv.step {w wr w' : World} {b : Bun} {x : Int} {ow : Bool} {v : Int} {F F' : Nat → Prop} (h : StEnv w wr b x ow v) (hF : ∀ b, F b → w.heap.size + 2 ≤ b) (hs : Step F F' wr w') : StEnv w w' b x ow v ∧ ∀ b, F' b → w.heap.size + 2 ≤ b := by
  have l1 := h.op.lt
  refine ⟨⟨h.bel.trans (hs.fr.below (fun i hi => by have := hF i hi; omega) h.bel.size), h.h.fr hs.fr (fun e => by have := hF _ e; omega), h.op.fr hs.fr (fun e => by have := hF _ e; omega)⟩, fun i hi => ?_⟩
  rcases hs.new i hi with e | e
  · exact hF i e
  · omega

set_option maxHeartbeats 4000000 in
theorem CacheStores_walk (n : Int) (bo bh : Bool) (bd t x : Int) (ow : Bool) (v : Int) (w : World) (hx : I64 x) : Calls Try.prog 7 #[.agg #[.int .i64 n, .bool bo, .bool bh, .int .i64 bd], .int .i64 t, .agg #[.int .i64 x, .bool ow, .int .i64 v]] w fun e w' => e = .returned (.bool true) ∧ Below w.heap.size w w' := by
  have b1 : clampZ 1 1 64 = 1 := by decide
  have b2 : clampZ 1 1 16 = 1 := by decide
  go_enter Try.func7, Try.ntmps7
  go_wp2_with fail
  have hE0 : StEnv w ((w.alloc (.cells #[.int .i64 n, .bool bo, .bool bh, .int .i64 bd] 31)).alloc (.cells #[.int .i64 x, .bool ow, .int .i64 v] 33)) ⟨n, bo, bh, bd⟩ x ow v :=
    ⟨((Below.refl _ _).alloc (Nat.le_refl _) _).alloc (by simp) _, ⟨by simp, by simp [go_sem], by simp [go_sem], by simp [go_sem], by simp [go_sem], by simp [go_sem], by simp [go_sem], by simp [go_sem], by simp [go_sem]⟩, ⟨by simp, by simp [go_sem], by simp [go_sem], by simp [go_sem]⟩⟩
  go_at_call 10
  refine (awake9_any _).mono ?_
  rintro e w1 ⟨rfl, hb1⟩
  replace hE0 := hE0.below hb1
  clear hb1
  obtain ⟨-, ⟨y5, y0, y1, y2, y3, -, -, -, -⟩, -⟩ := id hE0
  obtain ⟨q, hq⟩ : ∃ q, Hid ((checkZ ⟨n, bo, bh, bd⟩ 1048576 == 0) = q) := ⟨_, rfl⟩
  replace hE0 := hide hE0
  go_wp2_with fail
  go_at_call 26
  refine (refRight_any n bo bh bd 1048576 _).mono ?_
  rw [hq.out]
  rintro e w2 ⟨rfl, hb2⟩
  have hE2 := (unhide hE0).below hb2
  clear hb2 hE0 y5 y0 y1 y2 y3
  by_cases hbad : q = false ∨ x < 0
  · have hB := hide hE2.bel
    obtain ⟨-, -, ⟨o5, o0, o1, o2⟩⟩ := hE2
    rcases hbad with rfl | hxn
    · go_wp2_with fail
      go_at_call 10
      refine (awake9_any _).mono ?_
      rintro e w3 ⟨rfl, hb3⟩
      replace hb3 := hide hb3
      go_wp2_with fail
      go_ret
      exact ⟨rfl, (unhide hB).trans ((unhide hb3).mono (unhide hB).size)⟩
    · cases q
      · go_wp2_with fail
        go_at_call 10
        refine (awake9_any _).mono ?_
        rintro e w3 ⟨rfl, hb3⟩
        replace hb3 := hide hb3
        go_wp2_with fail
        go_ret
        exact ⟨rfl, (unhide hB).trans ((unhide hb3).mono (unhide hB).size)⟩
      · go_wp2_with fail
        go_at_call 10
        refine (awake9_any _).mono ?_
        rintro e w3 ⟨rfl, hb3⟩
        replace hb3 := hide hb3
        go_wp2_with fail
        go_ret
        exact ⟨rfl, (unhide hB).trans ((unhide hb3).mono (unhide hB).size)⟩
  obtain rfl : q = true := by cases q; exact absurd (.inl rfl) hbad; rfl
  have hx0 : ¬ x < 0 := fun e => hbad (.inr e)
  clear hbad
  have hok : Hid (okB ⟨n, bo, bh, bd⟩) := okB_of ⟨n, bo, bh, bd⟩ 1048576 (by have := hq.out; simpa using this)
  have hle : n ≤ 1048576 := by
    have := hq.out
    simp only [checkZ, beq_iff_eq] at this
    split at this
    · omega
    · omega
  obtain ⟨-, -, ⟨o5, o0, o1, o2⟩⟩ := id hE2
  replace hE2 := hide hE2
  clear hq
  go_wp2_with fail
  go_at_call 12
  refine (cNew_c 1 1 w2).mono ?_
  rw [b1, b2]
  rintro e w3 ⟨c, F3, rfl, h3, hb3, hF3⟩
  have hF3' : Hid (∀ b, F3 b → w.heap.size + 2 ≤ b) := fun i hi => by have := hF3 i hi; have := (unhide hE2).op.lt; omega
  have hE3 := (unhide hE2).below hb3
  replace h3 := hide h3
  clear hb3 hF3 hE2 b1 b2 o5 o0 o1 o2
  obtain ⟨-, ⟨y5, y0, y1, y2, y3, -, -, -, -⟩, ⟨o5, o0, o1, o2⟩⟩ := id hE3
  replace hE3 := hide hE3
  go_wp2_with fail
  go_at_call 14
  refine (cAbsorb_c c F3 1 1 0 1048576 x (-1) _ ⟨n, bo, bh, bd⟩ _ (unhide h3) hx (unhide hok) hle (by decide) ln0 false _ (st_g (by omega) _) (st_n (by omega) _)).mono ?_
  rintro e w4 ⟨rfl, F4, h4, s4⟩
  obtain ⟨hE4, hF4⟩ := (unhide hE3).step (unhide hF3') s4
  clear y5 y0 y1 y2 y3 o5 o0 o1 o2 hE3 hF3' s4 h3
  obtain ⟨-, ⟨y5, y0, y1, y2, y3, -, -, -, -⟩, ⟨o5, o0, o1, o2⟩⟩ := id hE4
  replace hE4 := hide hE4
  replace hF4 := hide hF4
  replace h4 := hide h4
  obtain ⟨q, hq⟩ : ∃ q, Hid (okDo (stC1 x ⟨n, bo, bh, bd⟩) x ow t = q) := ⟨_, rfl⟩
  obtain ⟨r, hr⟩ : ∃ r, Hid (valDo (stC1 x ⟨n, bo, bh, bd⟩) x ow v t = r) := ⟨_, rfl⟩
  obtain ⟨q2, hq2⟩ : ∃ q, Hid (okDo (nxDo (stC1 x ⟨n, bo, bh, bd⟩) x ow v t) x false t = q) := ⟨_, rfl⟩
  obtain ⟨r2, hr2⟩ : ∃ r, Hid (valDo (nxDo (stC1 x ⟨n, bo, bh, bd⟩) x ow v t) x false 0 t = r) := ⟨_, rfl⟩
  have hst := hide (st_all (unhide hok) ow v t hq.out hr.out hq2.out hr2.out)
  go_wp2_with fail
  go_at_call 18
  refine (cDo_c c F4 1 1 _ x ow v t _ _ (unhide h4) hx q r _ hq hr rfl).mono ?_
  rintro e w5 ⟨rfl, F5, h5, s5⟩
  obtain ⟨hE5, hF5⟩ := (unhide hE4).step (unhide hF4) s5
  clear y5 y0 y1 y2 y3 o5 o0 o1 o2 hE4 hF4 s5 h4
  obtain ⟨-, ⟨y5, y0, y1, y2, y3, -, -, -, -⟩, ⟨o5, o0, o1, o2⟩⟩ := id hE5
  replace hE5 := hide hE5
  replace hF5 := hide hF5
  replace h5 := hide h5
  go_wp2_with fail
  go_at_call 18
  refine (cDo_c c F5 1 1 _ x false 0 t _ _ (unhide h5) hx q2 r2 _ hq2 hr2 rfl).mono ?_
  rintro e w6 ⟨rfl, F6, h6, s6⟩
  obtain ⟨hE6, -⟩ := (unhide hE5).step (unhide hF5) s6
  clear y5 y0 y1 y2 y3 o5 o0 o1 o2 hE5 hF5 s6 h5 h6
  have hB := hide hE6.bel
  obtain ⟨-, ⟨y5, y0, y1, y2, y3, -, -, -, -⟩, ⟨o5, o0, o1, o2⟩⟩ := hE6
  obtain ⟨e1, e2, e3, e4, e5⟩ := unhide hst
  clear hst hq hr hq2 hr2
  by_cases cn : 0 < n
  · by_cases ct : n = t
    · subst ct
      cases ow <;> cases bh <;> (simp [cn] at e1 e2; subst e1; subst e2; simp at e3 e4 e5; try subst e3; try subst e4; try subst e5)
      all_goals (go_wp2_with fail; all_goals (go_ret; exact ⟨rfl, unhide hB⟩))
    · have ct1 : decide (n = t) = false ∧ (n == t) = false := by simp [ct]
      obtain ⟨ct1, ct2⟩ := ct1
      cases ow <;> cases bh <;> (simp [cn, ct1] at e1 e2; subst e1; subst e2; simp at e3 e4 e5; try subst e3; try subst e4; try subst e5)
      all_goals (go_wp2_with fail; all_goals (go_ret; exact ⟨rfl, unhide hB⟩))
  · cases ow <;> cases bh <;> (simp [cn] at e1 e2; subst e1; subst e2; simp at e3 e4 e5; try subst e3; try subst e4; try subst e5)
    all_goals (go_wp2_with fail; all_goals (go_ret; exact ⟨rfl, unhide hB⟩))
end Go.Proofs.Ytooopcadefpncaa
