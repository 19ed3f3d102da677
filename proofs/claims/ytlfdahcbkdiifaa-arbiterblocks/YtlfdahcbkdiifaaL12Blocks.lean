/- The walk of ArbiterBlocks: it returns true; no old memory turns (layer 12). -/
import Derived.Test.YtlfdahcbkdiifaaCmp12
import Derived.LaidEqlPtr
namespace Go.Proofs.Ytlfdahcbkdiifaa
open Go.ChangeShapes Go.WideShapes Go.ChangeAt Go.RowKit
set_option linter.unusedSimpArgs false
set_option linter.unusedVariables false
set_option maxRecDepth 10000

attribute [local go_sem, local simp] over_const setCell_drewN alloc_drewN Over.cell Over.frozen lt_s1 lt_s2 lt_s3 le_s0 le_s1 le_s2 le_s3 eq_s0 eq_s1 eq_s2 qe_s0

/-- Two lists that know the same of block x. -/
def Alq (L L' : List Rq) (x : Int) : Prop := L.length = L'.length ∧ (hasQ L.length x = true → getQ L x = getQ L' x)

theorem al_upd {L L' : List Rq} {x : Int} (h : Alq L L' x) (c : Bool) (f : Rq → Rq) : Alq (if (hasQ L.length x && c) = true then L.set x.toNat (f (getQ L x)) else L) (if (hasQ L'.length x && c) = true then L'.set x.toNat (f (getQ L' x)) else L') x := by
  obtain ⟨h1, h2⟩ := h
  rw [← h1]
  by_cases hc : (hasQ L.length x && c) = true
  · rw [if_pos hc, if_pos hc]
    simp only [Bool.and_eq_true] at hc
    obtain ⟨j, rfl, hj⟩ := hasQ_iff.1 hc.1
    refine ⟨by simp [h1], fun _ => ?_⟩
    unfold getQ
    rw [Int.toNat_natCast, List.getElem?_set_self hj, List.getElem?_set_self (by omega)]
    have := h2 hc.1
    unfold getQ at this
    rw [Int.toNat_natCast] at this
    simp only [Option.getD_some, this]
  · rw [if_neg hc, if_neg hc]
    exact ⟨h1, h2⟩
theorem al_upd' {L L' : List Rq} {x y : Int} (h : Alq L L' x) (e : y ≠ x) (c : Bool) (r : Rq) : Alq (if (hasQ L.length y && c) = true then L.set y.toNat r else L) L' x := by
  obtain ⟨h1, h2⟩ := h
  by_cases hc : (hasQ L.length y && c) = true
  · rw [if_pos hc]
    simp only [Bool.and_eq_true] at hc
    obtain ⟨j, rfl, hj⟩ := hasQ_iff.1 hc.1
    refine ⟨by simpa using h1, fun hx => ?_⟩
    rw [List.length_set] at hx
    obtain ⟨i, rfl, hi⟩ := hasQ_iff.1 hx
    rw [← h2 hx]
    unfold getQ
    rw [Int.toNat_natCast, Int.toNat_natCast, List.getElem?_set_ne (by omega)]
  · rw [if_neg hc]
    exact ⟨h1, h2⟩
theorem al_ask {N : Nat} {L L' : List Rq} {x : Int} (h : Alq L L' x) (y : Int) : Alq (nxAsk N L x y) (nxAsk N L' x y) x := al_upd h (hasQ N y) (fun r => nxBQ (pshQ r y))
theorem al_ask' {N : Nat} {L L' : List Rq} {x z : Int} (h : Alq L L' x) (e : z ≠ x) (y : Int) : Alq (nxAsk N L z y) L' x := al_upd' h e (hasQ N y) _
theorem al_ack {N : Nat} {L L' : List Rq} {x : Int} (h : Alq L L' x) (s y : Int) : Alq (nxAck N L x s y) (nxAck N L' x s y) x := al_upd h (hasQ N y) (fun r => nxKQ N r s y)
theorem al_ack' {N : Nat} {L L' : List Rq} {x z : Int} (h : Alq L L' x) (e : z ≠ x) (s y : Int) : Alq (nxAck N L z s y) L' x := al_upd' h e (hasQ N y) _
theorem al_done {L L' : List Rq} {x : Int} (h : Alq L L' x) (s : Int) : Alq (nxDone L x s) (nxDone L' x s) x := by
  have := al_upd h true (fun r => dnQ r s)
  rw [Bool.and_true, Bool.and_true] at this
  exact this
theorem al_done' {L L' : List Rq} {x z : Int} (h : Alq L L' x) (e : z ≠ x) (s : Int) : Alq (nxDone L z s) L' x := by
  have := al_upd' h e true (dnQ (getQ L z) s)
  rw [Bool.and_true] at this
  exact this
theorem al_cur {L L' : List Rq} {x : Int} (h : Alq L L' x) : atCur L' x = atCur L x ∧ okCur L' x = okCur L x ∧ wtsQ L' x = wtsQ L x := by
  obtain ⟨h1, h2⟩ := h
  unfold atCur okCur wtsQ
  rw [← h1]
  cases c : hasQ L.length x with
  | false => exact ⟨rfl, rfl, rfl⟩
  | true => rw [h2 c]; exact ⟨rfl, rfl, rfl⟩

theorem infoAr : ∃ j, Try.prog.info? 57 = some j ∧ j.size ≠ 0 := by
  have h : (Try.prog.info? 57).map (fun i => decide (i.size ≠ 0)) = some true := by kernel_rfl
  cases e : Try.prog.info? 57 with
  | none => rw [e] at h; cases h
  | some j => rw [e] at h; exact ⟨j, rfl, by simpa using h⟩
theorem eql_same (w : World) (c : Nat) : (binOp .eql 25 (ptr c) (ptr c)).run Try.prog w = .ok (.bool true) w := by
  obtain ⟨j, h, _⟩ := infoAr
  exact run_eql_ptr_same w _ Try.underlying25 h
theorem eql_other {w : World} {p g N M p' g' N' M' : Nat} {L L' : List Rq} {F F' : Nat → Prop} (h : ArIs w p g N M L F) (h' : ArIs w p' g' N' M' L' F') (hne : p ≠ p') : (binOp .eql 25 (ptr p) (ptr p')).run Try.prog w = .ok (.bool false) w := by
  obtain ⟨j, hj, hs⟩ := infoAr
  obtain ⟨c1, o1, _⟩ := h.ob
  obtain ⟨c2, o2, _⟩ := h'.ob
  exact run_eql_ptr_other w Try.underlying25 hj hs (fun e => hne (by cases e; rfl)) o1 o2
abbrev litO (c c' : Nat) : Obj := .cells #[ptr c, ptr c'] 25


set_option maxHeartbeats 4000000 in
theorem ArbiterBlocks_walk (nodes : Int) (v1 : Value) (A : List Ac) (block : Int) (w : World) (h1 : ActsAt w.heap.size w v1 A) : Calls Try.prog 7 #[.int .i64 nodes, v1, .int .i64 block] w fun e w' => e = .returned (.bool true) ∧ Below w.heap.size w w' := by
  have hA := hide h1
  obtain ⟨ao, cap, rfl, hlc, hmx, _⟩ := h1
  have hma : A.length ≤ 9223372036854775807 := by unfold maxLen at hmx; omega
  clear hmx
  go_enter Try.func7, Try.ntmps7
  go_wp2_with fail
  go_at_call 9
  refine (awake12_any _).mono ?_
  rintro e w1 ⟨rfl, hB1⟩
  replace hB1 := hide hB1
  by_cases n1 : nodes < 1
  · go_wp2_with fail
    go_at_call 9
    refine (awake12_any _).mono ?_
    rintro e w9 ⟨rfl, hb9⟩
    replace hb9 := hide hb9
    go_wp2_with fail
    go_ret
    exact ⟨rfl, (unhide hB1).trans ((unhide hb9).mono (unhide hB1).size)⟩
  by_cases n2 : 64 < nodes
  · go_wp2_with fail
    go_at_call 9
    refine (awake12_any _).mono ?_
    rintro e w9 ⟨rfl, hb9⟩
    replace hb9 := hide hb9
    go_wp2_with fail
    go_ret
    exact ⟨rfl, (unhide hB1).trans ((unhide hb9).mono (unhide hB1).size)⟩
  by_cases ca : 100 < (A.length : Int)
  · go_wp2_with fail
    go_at_call 9
    refine (awake12_any _).mono ?_
    rintro e w9 ⟨rfl, hb9⟩
    replace hb9 := hide hb9
    go_wp2_with fail
    go_ret
    exact ⟨rfl, (unhide hB1).trans ((unhide hb9).mono (unhide hB1).size)⟩
  obtain ⟨N, hN⟩ : ∃ N, Hid (szQ nodes = N) := ⟨_, rfl⟩
  go_wp2_with fail
  go_at_call 10
  refine (aNew_c nodes 3 w1 N 3 hN (hide rfl)).mono ?_
  rintro e w2 ⟨p, rfl, g, F2, h2, hf2, hp2, hb2⟩
  have E2 := hide (AEnv.first (unhide hB1) h2 hf2 hp2 hb2)
  have hpl2 := h2.pl
  clear h2 hf2 hp2 hb2 hB1 n1 n2
  go_wp2_with fail
  go_at_call 10
  refine (aNew_c nodes 3 w2 N 3 hN (hide rfl)).mono ?_
  rintro e w3 ⟨p', rfl, g', F3, h3, hf3, hp3, hb3⟩
  have P3 := hide (Two.first E2.out h3 hf3 hp3 hb3)
  have npp : ¬ p = p' := by omega
  have npp' : (p == p') = false := by simpa using npp
  clear h3 hf3 hb3 E2
  go_wp2_with fail
  go_loopw [45] (fun i wr => ∃ (j : Nat) (La Lb : List Rq) (Fa Fb : Nat → Prop), j ≤ A.length ∧ i = .int .i64 j ∧ Two w wr p g N j La Fa p' g' N j Lb Fb ∧ Hid (Alq La Lb block)) (fun i _ => A.length - (intOf i).toNat)
  case atStart => exact ⟨0, _, _, _, _, Nat.zero_le _, rfl, P3.out, hide ⟨rfl, fun _ => rfl⟩⟩
  case round =>
    obtain ⟨j, La, Lb, Fa, Fb, hj, rfl, P1, al1⟩ := hrel
    clear P3
    by_cases hlt : j < A.length
    · have hlt' : (j : Int) < A.length := by omega
      obtain ⟨b, o1, rfl, hbB, hbl, -, r0, r1, r2, r3⟩ := acts_row (hA.out.below P1.a.bel) hlt
      generalize A[j] = x at r0 r1 r2 r3
      obtain ⟨k, xb, xs, xn⟩ := x
      have na0 : ¬ Fa wr.heap.size := fun e => by have := P1.a.n.lt _ e; omega
      have na1 : ¬ Fa (wr.heap.size + 1) := fun e => by have := P1.a.n.lt _ e; omega
      have nb1 : ¬ Fb (wr.heap.size + 1) := fun e => by have := P1.b.n.lt _ e; omega
      have P0 := hide ((P1.quiet (belA wr (actsO ⟨k, xb, xs, xn⟩))).quiet (belA _ (litO p p')))
      have q0 := eql_other P0.out.a.n P0.out.b.n npp
      have q1 := eql_same
      clear P1
      by_cases k1 : k = 1
      · subst k1
        go_wp2_with fail
        refine wp_loop_rounds 3 ?_
        rw [rounds_succ]
        go_wp2_with fail
        go_at_call 12
        refine (aAsk_c p g N j La Fa xb xn _ P0.out.a.n (by omega) _ (hide rfl) _ (hide rfl)).mono ?_
        rintro e w3 ⟨rfl, F3, h3, s3⟩
        have P3 : Hid (Two w w3 p g N (j + 1) (nxAsk N La xb xn) F3 p' g' N j Lb Fb) := hide (P0.out.step (h3) s3)
        have m3 := (s3.keep na0 (by simp only [World.size_alloc]; omega)).1
        have l3 := (s3.keep na1 (by simp)).1
        obtain ⟨y9, y0, y1, y2, y3⟩ := (((acts_new wr ⟨1, xb, xs, xn⟩).carry (Below.heap_alloc _ (litO p p') _ (by simp))).carry m3)
        have z1 : w3.cell? ⟨wr.heap.size + 1, 1, none⟩ = some (ptr p') := keep_cell l3 (by simp [go_sem])
        have z9 : wr.heap.size + 1 < w3.heap.size := by have := s3.fr.size; simp at this; omega
        clear h3 s3 m3 l3 P0
        by_cases e : xb = block
        · have e' : decide (xb = block) = true ∧ (xb == block) = true ∧ (xb != block) = false := ⟨by simpa using e, by simpa using e, by simpa using e⟩
          replace e := hide e
          go_wp2_with fail
          rw [rounds_succ]
          go_wp2_with fail
          go_at_call 12
          refine (aAsk_c p' g' N j Lb Fb xb xn _ P3.out.b.n (by omega) _ (hide rfl) _ (hide rfl)).mono ?_
          rintro e w4 ⟨rfl, F4, h4, s4⟩
          have P4 : Hid (Two w w4 p g N (j + 1) (nxAsk N La xb xn) F3 p' g' N (j + 1) (nxAsk N Lb xb xn) F4) := hide (P3.out.swap.step (h4) s4).swap
          have q4 := (s4.keep nb1 z9).1
          replace z1 := keep_cell q4 z1
          replace z9 := block_lt z9 q4
          clear h4 s4 P3 q4 y0 y1 y2 y3 y9
          have hal : Hid (Alq (nxAsk N La xb xn) (nxAsk N Lb xb xn) block) := hide (by cases e.out; exact al_ask al1.out xn)
          go_wp2_with fail
          rw [rounds_succ]
          obtain ⟨a, ha⟩ : ∃ a, Hid (atCur (nxAsk N La xb xn) block = a) := ⟨_, rfl⟩
          obtain ⟨ok, hok⟩ : ∃ ok, Hid (okCur (nxAsk N La xb xn) block = ok) := ⟨_, rfl⟩
          obtain ⟨T, hT⟩ : ∃ T, Hid (wtsQ (nxAsk N La xb xn) block = T) := ⟨_, rfl⟩
          have ha' : Hid (atCur (nxAsk N Lb xb xn) block = a) := hide ((al_cur hal.out).1.trans ha.out)
          have hok' : Hid (okCur (nxAsk N Lb xb xn) block = ok) := hide ((al_cur hal.out).2.1.trans hok.out)
          have hT' : Hid (wtsQ (nxAsk N Lb xb xn) block = T) := hide ((al_cur hal.out).2.2.trans hT.out)
          go_wp2_with fail
          go_at_call 20
          refine (aCur_c p _ _ _ (nxAsk N La xb xn) _ block _ P4.out.a.n a ha ok hok).mono ?_
          rintro e w21 ⟨rfl, hb21⟩
          have hb22 := hb21.trans ((belA w21 (atsO a)).mono hb21.size)
          have P22 := hide (P4.out.quiet hb22)
          have n22 := hide (ats_new w21 a)
          clear hb21 hb22 P4
          go_wp2_with fail
          go_at_call 20
          refine (aCur_c p' _ _ _ (nxAsk N Lb xb xn) _ block _ P22.out.b.n a ha' ok hok').mono ?_
          rintro e w23 ⟨rfl, hb23⟩
          have hb24 := hb23.trans ((belA w23 (atsO a)).mono hb23.size)
          have P24 := hide (P22.out.quiet hb24)
          obtain ⟨y9, y0, y1, y2⟩ := n22.out.below hb23
          clear hb23 hb24 P22 n22
          go_wp2_with fail
          go_at_call 22
          refine (aWait_c p _ _ _ (nxAsk N La xb xn) _ block _ P24.out.a.n (by omega)).mono ?_
          rintro e w25 ⟨v25, rfl, ob25, hW25, -, hb25⟩
          have P25 := hide (P24.out.quiet hb25)
          rw [hT.out] at hW25
          obtain ⟨b25, V25⟩ := hW25.view
          replace V25 := hide V25
          clear hW25 hb25 P24 y9 y0 y1 y2
          go_wp2_with fail
          go_at_call 22
          refine (aWait_c p' _ _ _ (nxAsk N Lb xb xn) _ block _ P25.out.b.n (by omega)).mono ?_
          rintro e w26 ⟨v26, rfl, ob26, hW26, -, hb26⟩
          have P26 := hide (P25.out.quiet hb26)
          rw [hT'.out] at hW26
          obtain ⟨b26, V26⟩ := hW26.view
          have V27 := hide (V25.out.below hb26)
          replace V26 := hide V26
          clear hW26 hb26 P25 V25
          go_wp2_with fail
          go_at_call 21
          refine (ints_c _ _ _ _ T T _ V27.out V26.out).mono ?_
          rw [show decide (T = T) = true by simp]
          rintro e w28 ⟨rfl, nq, rfl⟩
          have P28 := hide (P26.out.quiet (belD w26 nq))
          clear P26 V26 V27
          go_wp2_with fail
          go_roundw
          case rel => exact ⟨j + 1, _, _, _, _, by omega, by simp, P28.out, hal⟩
          case measure => simp [intOf]; omega
        · have e' : decide (xb = block) = false ∧ (xb == block) = false ∧ (xb != block) = true := ⟨by simpa using e, by simpa using e, by simpa using e⟩
          have hal : Hid (Alq (nxAsk N La xb xn) Lb block) := hide (al_ask' al1.out e xn)
          replace e := hide e
          go_wp2_with fail
          rw [rounds_succ]
          go_wp2_with fail
          rw [rounds_succ]
          have P4 := hide (P3.out.mono (K := j + 1) (K' := j + 1) (Nat.le_refl _) (Nat.le_succ _))
          clear P3
          obtain ⟨a, ha⟩ : ∃ a, Hid (atCur (nxAsk N La xb xn) block = a) := ⟨_, rfl⟩
          obtain ⟨ok, hok⟩ : ∃ ok, Hid (okCur (nxAsk N La xb xn) block = ok) := ⟨_, rfl⟩
          obtain ⟨T, hT⟩ : ∃ T, Hid (wtsQ (nxAsk N La xb xn) block = T) := ⟨_, rfl⟩
          have ha' : Hid (atCur Lb block = a) := hide ((al_cur hal.out).1.trans ha.out)
          have hok' : Hid (okCur Lb block = ok) := hide ((al_cur hal.out).2.1.trans hok.out)
          have hT' : Hid (wtsQ Lb block = T) := hide ((al_cur hal.out).2.2.trans hT.out)
          go_wp2_with fail
          go_at_call 20
          refine (aCur_c p _ _ _ (nxAsk N La xb xn) _ block _ P4.out.a.n a ha ok hok).mono ?_
          rintro e w21 ⟨rfl, hb21⟩
          have hb22 := hb21.trans ((belA w21 (atsO a)).mono hb21.size)
          have P22 := hide (P4.out.quiet hb22)
          have n22 := hide (ats_new w21 a)
          clear hb21 hb22 P4
          go_wp2_with fail
          go_at_call 20
          refine (aCur_c p' _ _ _ Lb _ block _ P22.out.b.n a ha' ok hok').mono ?_
          rintro e w23 ⟨rfl, hb23⟩
          have hb24 := hb23.trans ((belA w23 (atsO a)).mono hb23.size)
          have P24 := hide (P22.out.quiet hb24)
          obtain ⟨y9, y0, y1, y2⟩ := n22.out.below hb23
          clear hb23 hb24 P22 n22
          go_wp2_with fail
          go_at_call 22
          refine (aWait_c p _ _ _ (nxAsk N La xb xn) _ block _ P24.out.a.n (by omega)).mono ?_
          rintro e w25 ⟨v25, rfl, ob25, hW25, -, hb25⟩
          have P25 := hide (P24.out.quiet hb25)
          rw [hT.out] at hW25
          obtain ⟨b25, V25⟩ := hW25.view
          replace V25 := hide V25
          clear hW25 hb25 P24 y9 y0 y1 y2
          go_wp2_with fail
          go_at_call 22
          refine (aWait_c p' _ _ _ Lb _ block _ P25.out.b.n (by omega)).mono ?_
          rintro e w26 ⟨v26, rfl, ob26, hW26, -, hb26⟩
          have P26 := hide (P25.out.quiet hb26)
          rw [hT'.out] at hW26
          obtain ⟨b26, V26⟩ := hW26.view
          have V27 := hide (V25.out.below hb26)
          replace V26 := hide V26
          clear hW26 hb26 P25 V25
          go_wp2_with fail
          go_at_call 21
          refine (ints_c _ _ _ _ T T _ V27.out V26.out).mono ?_
          rw [show decide (T = T) = true by simp]
          rintro e w28 ⟨rfl, nq, rfl⟩
          have P28 := hide (P26.out.quiet (belD w26 nq))
          clear P26 V26 V27
          go_wp2_with fail
          go_roundw
          case rel => exact ⟨j + 1, _, _, _, _, by omega, by simp, P28.out, hal⟩
          case measure => simp [intOf]; omega
      by_cases k2 : k = 2
      · subst k2
        go_wp2_with fail
        refine wp_loop_rounds 3 ?_
        rw [rounds_succ]
        go_wp2_with fail
        go_at_call 15
        refine (aDone_c p g N j La Fa xb xs _ P0.out.a.n _ (hide rfl)).mono ?_
        rintro e w3 ⟨rfl, F3, h3, s3⟩
        have P3 : Hid (Two w w3 p g N (j + 1) (nxDone La xb xs) F3 p' g' N j Lb Fb) := hide (P0.out.step (h3.mono (Nat.le_succ j)) s3)
        have m3 := (s3.keep na0 (by simp only [World.size_alloc]; omega)).1
        have l3 := (s3.keep na1 (by simp)).1
        obtain ⟨y9, y0, y1, y2, y3⟩ := (((acts_new wr ⟨2, xb, xs, xn⟩).carry (Below.heap_alloc _ (litO p p') _ (by simp))).carry m3)
        have z1 : w3.cell? ⟨wr.heap.size + 1, 1, none⟩ = some (ptr p') := keep_cell l3 (by simp [go_sem])
        have z9 : wr.heap.size + 1 < w3.heap.size := by have := s3.fr.size; simp at this; omega
        clear h3 s3 m3 l3 P0
        by_cases e : xb = block
        · have e' : decide (xb = block) = true ∧ (xb == block) = true ∧ (xb != block) = false := ⟨by simpa using e, by simpa using e, by simpa using e⟩
          replace e := hide e
          go_wp2_with fail
          rw [rounds_succ]
          go_wp2_with fail
          go_at_call 15
          refine (aDone_c p' g' N j Lb Fb xb xs _ P3.out.b.n _ (hide rfl)).mono ?_
          rintro e w4 ⟨rfl, F4, h4, s4⟩
          have P4 : Hid (Two w w4 p g N (j + 1) (nxDone La xb xs) F3 p' g' N (j + 1) (nxDone Lb xb xs) F4) := hide (P3.out.swap.step (h4.mono (Nat.le_succ j)) s4).swap
          have q4 := (s4.keep nb1 z9).1
          replace z1 := keep_cell q4 z1
          replace z9 := block_lt z9 q4
          clear h4 s4 P3 q4 y0 y1 y2 y3 y9
          have hal : Hid (Alq (nxDone La xb xs) (nxDone Lb xb xs) block) := hide (by cases e.out; exact al_done al1.out xs)
          go_wp2_with fail
          rw [rounds_succ]
          obtain ⟨a, ha⟩ : ∃ a, Hid (atCur (nxDone La xb xs) block = a) := ⟨_, rfl⟩
          obtain ⟨ok, hok⟩ : ∃ ok, Hid (okCur (nxDone La xb xs) block = ok) := ⟨_, rfl⟩
          obtain ⟨T, hT⟩ : ∃ T, Hid (wtsQ (nxDone La xb xs) block = T) := ⟨_, rfl⟩
          have ha' : Hid (atCur (nxDone Lb xb xs) block = a) := hide ((al_cur hal.out).1.trans ha.out)
          have hok' : Hid (okCur (nxDone Lb xb xs) block = ok) := hide ((al_cur hal.out).2.1.trans hok.out)
          have hT' : Hid (wtsQ (nxDone Lb xb xs) block = T) := hide ((al_cur hal.out).2.2.trans hT.out)
          go_wp2_with fail
          go_at_call 20
          refine (aCur_c p _ _ _ (nxDone La xb xs) _ block _ P4.out.a.n a ha ok hok).mono ?_
          rintro e w21 ⟨rfl, hb21⟩
          have hb22 := hb21.trans ((belA w21 (atsO a)).mono hb21.size)
          have P22 := hide (P4.out.quiet hb22)
          have n22 := hide (ats_new w21 a)
          clear hb21 hb22 P4
          go_wp2_with fail
          go_at_call 20
          refine (aCur_c p' _ _ _ (nxDone Lb xb xs) _ block _ P22.out.b.n a ha' ok hok').mono ?_
          rintro e w23 ⟨rfl, hb23⟩
          have hb24 := hb23.trans ((belA w23 (atsO a)).mono hb23.size)
          have P24 := hide (P22.out.quiet hb24)
          obtain ⟨y9, y0, y1, y2⟩ := n22.out.below hb23
          clear hb23 hb24 P22 n22
          go_wp2_with fail
          go_at_call 22
          refine (aWait_c p _ _ _ (nxDone La xb xs) _ block _ P24.out.a.n (by omega)).mono ?_
          rintro e w25 ⟨v25, rfl, ob25, hW25, -, hb25⟩
          have P25 := hide (P24.out.quiet hb25)
          rw [hT.out] at hW25
          obtain ⟨b25, V25⟩ := hW25.view
          replace V25 := hide V25
          clear hW25 hb25 P24 y9 y0 y1 y2
          go_wp2_with fail
          go_at_call 22
          refine (aWait_c p' _ _ _ (nxDone Lb xb xs) _ block _ P25.out.b.n (by omega)).mono ?_
          rintro e w26 ⟨v26, rfl, ob26, hW26, -, hb26⟩
          have P26 := hide (P25.out.quiet hb26)
          rw [hT'.out] at hW26
          obtain ⟨b26, V26⟩ := hW26.view
          have V27 := hide (V25.out.below hb26)
          replace V26 := hide V26
          clear hW26 hb26 P25 V25
          go_wp2_with fail
          go_at_call 21
          refine (ints_c _ _ _ _ T T _ V27.out V26.out).mono ?_
          rw [show decide (T = T) = true by simp]
          rintro e w28 ⟨rfl, nq, rfl⟩
          have P28 := hide (P26.out.quiet (belD w26 nq))
          clear P26 V26 V27
          go_wp2_with fail
          go_roundw
          case rel => exact ⟨j + 1, _, _, _, _, by omega, by simp, P28.out, hal⟩
          case measure => simp [intOf]; omega
        · have e' : decide (xb = block) = false ∧ (xb == block) = false ∧ (xb != block) = true := ⟨by simpa using e, by simpa using e, by simpa using e⟩
          have hal : Hid (Alq (nxDone La xb xs) Lb block) := hide (al_done' al1.out e xs)
          replace e := hide e
          go_wp2_with fail
          rw [rounds_succ]
          go_wp2_with fail
          rw [rounds_succ]
          have P4 := hide (P3.out.mono (K := j + 1) (K' := j + 1) (Nat.le_refl _) (Nat.le_succ _))
          clear P3
          obtain ⟨a, ha⟩ : ∃ a, Hid (atCur (nxDone La xb xs) block = a) := ⟨_, rfl⟩
          obtain ⟨ok, hok⟩ : ∃ ok, Hid (okCur (nxDone La xb xs) block = ok) := ⟨_, rfl⟩
          obtain ⟨T, hT⟩ : ∃ T, Hid (wtsQ (nxDone La xb xs) block = T) := ⟨_, rfl⟩
          have ha' : Hid (atCur Lb block = a) := hide ((al_cur hal.out).1.trans ha.out)
          have hok' : Hid (okCur Lb block = ok) := hide ((al_cur hal.out).2.1.trans hok.out)
          have hT' : Hid (wtsQ Lb block = T) := hide ((al_cur hal.out).2.2.trans hT.out)
          go_wp2_with fail
          go_at_call 20
          refine (aCur_c p _ _ _ (nxDone La xb xs) _ block _ P4.out.a.n a ha ok hok).mono ?_
          rintro e w21 ⟨rfl, hb21⟩
          have hb22 := hb21.trans ((belA w21 (atsO a)).mono hb21.size)
          have P22 := hide (P4.out.quiet hb22)
          have n22 := hide (ats_new w21 a)
          clear hb21 hb22 P4
          go_wp2_with fail
          go_at_call 20
          refine (aCur_c p' _ _ _ Lb _ block _ P22.out.b.n a ha' ok hok').mono ?_
          rintro e w23 ⟨rfl, hb23⟩
          have hb24 := hb23.trans ((belA w23 (atsO a)).mono hb23.size)
          have P24 := hide (P22.out.quiet hb24)
          obtain ⟨y9, y0, y1, y2⟩ := n22.out.below hb23
          clear hb23 hb24 P22 n22
          go_wp2_with fail
          go_at_call 22
          refine (aWait_c p _ _ _ (nxDone La xb xs) _ block _ P24.out.a.n (by omega)).mono ?_
          rintro e w25 ⟨v25, rfl, ob25, hW25, -, hb25⟩
          have P25 := hide (P24.out.quiet hb25)
          rw [hT.out] at hW25
          obtain ⟨b25, V25⟩ := hW25.view
          replace V25 := hide V25
          clear hW25 hb25 P24 y9 y0 y1 y2
          go_wp2_with fail
          go_at_call 22
          refine (aWait_c p' _ _ _ Lb _ block _ P25.out.b.n (by omega)).mono ?_
          rintro e w26 ⟨v26, rfl, ob26, hW26, -, hb26⟩
          have P26 := hide (P25.out.quiet hb26)
          rw [hT'.out] at hW26
          obtain ⟨b26, V26⟩ := hW26.view
          have V27 := hide (V25.out.below hb26)
          replace V26 := hide V26
          clear hW26 hb26 P25 V25
          go_wp2_with fail
          go_at_call 21
          refine (ints_c _ _ _ _ T T _ V27.out V26.out).mono ?_
          rw [show decide (T = T) = true by simp]
          rintro e w28 ⟨rfl, nq, rfl⟩
          have P28 := hide (P26.out.quiet (belD w26 nq))
          clear P26 V26 V27
          go_wp2_with fail
          go_roundw
          case rel => exact ⟨j + 1, _, _, _, _, by omega, by simp, P28.out, hal⟩
          case measure => simp [intOf]; omega
      by_cases k5 : k = 5
      · subst k5
        go_wp2_with fail
        refine wp_loop_rounds 3 ?_
        rw [rounds_succ]
        go_wp2_with fail
        go_at_call 15
        refine (aDone_c p g N j La Fa xb xs _ P0.out.a.n _ (hide rfl)).mono ?_
        rintro e w3 ⟨rfl, F3, h3, s3⟩
        have P3 : Hid (Two w w3 p g N (j + 1) (nxDone La xb xs) F3 p' g' N j Lb Fb) := hide (P0.out.step (h3.mono (Nat.le_succ j)) s3)
        have m3 := (s3.keep na0 (by simp only [World.size_alloc]; omega)).1
        have l3 := (s3.keep na1 (by simp)).1
        obtain ⟨y9, y0, y1, y2, y3⟩ := (((acts_new wr ⟨5, xb, xs, xn⟩).carry (Below.heap_alloc _ (litO p p') _ (by simp))).carry m3)
        have z1 : w3.cell? ⟨wr.heap.size + 1, 1, none⟩ = some (ptr p') := keep_cell l3 (by simp [go_sem])
        have z9 : wr.heap.size + 1 < w3.heap.size := by have := s3.fr.size; simp at this; omega
        clear h3 s3 m3 l3 P0
        by_cases e : xb = block
        · have e' : decide (xb = block) = true ∧ (xb == block) = true ∧ (xb != block) = false := ⟨by simpa using e, by simpa using e, by simpa using e⟩
          replace e := hide e
          go_wp2_with fail
          rw [rounds_succ]
          go_wp2_with fail
          go_at_call 15
          refine (aDone_c p' g' N j Lb Fb xb xs _ P3.out.b.n _ (hide rfl)).mono ?_
          rintro e w4 ⟨rfl, F4, h4, s4⟩
          have P4 : Hid (Two w w4 p g N (j + 1) (nxDone La xb xs) F3 p' g' N (j + 1) (nxDone Lb xb xs) F4) := hide (P3.out.swap.step (h4.mono (Nat.le_succ j)) s4).swap
          have q4 := (s4.keep nb1 z9).1
          replace z1 := keep_cell q4 z1
          replace z9 := block_lt z9 q4
          clear h4 s4 P3 q4 y0 y1 y2 y3 y9
          have hal : Hid (Alq (nxDone La xb xs) (nxDone Lb xb xs) block) := hide (by cases e.out; exact al_done al1.out xs)
          go_wp2_with fail
          rw [rounds_succ]
          obtain ⟨a, ha⟩ : ∃ a, Hid (atCur (nxDone La xb xs) block = a) := ⟨_, rfl⟩
          obtain ⟨ok, hok⟩ : ∃ ok, Hid (okCur (nxDone La xb xs) block = ok) := ⟨_, rfl⟩
          obtain ⟨T, hT⟩ : ∃ T, Hid (wtsQ (nxDone La xb xs) block = T) := ⟨_, rfl⟩
          have ha' : Hid (atCur (nxDone Lb xb xs) block = a) := hide ((al_cur hal.out).1.trans ha.out)
          have hok' : Hid (okCur (nxDone Lb xb xs) block = ok) := hide ((al_cur hal.out).2.1.trans hok.out)
          have hT' : Hid (wtsQ (nxDone Lb xb xs) block = T) := hide ((al_cur hal.out).2.2.trans hT.out)
          go_wp2_with fail
          go_at_call 20
          refine (aCur_c p _ _ _ (nxDone La xb xs) _ block _ P4.out.a.n a ha ok hok).mono ?_
          rintro e w21 ⟨rfl, hb21⟩
          have hb22 := hb21.trans ((belA w21 (atsO a)).mono hb21.size)
          have P22 := hide (P4.out.quiet hb22)
          have n22 := hide (ats_new w21 a)
          clear hb21 hb22 P4
          go_wp2_with fail
          go_at_call 20
          refine (aCur_c p' _ _ _ (nxDone Lb xb xs) _ block _ P22.out.b.n a ha' ok hok').mono ?_
          rintro e w23 ⟨rfl, hb23⟩
          have hb24 := hb23.trans ((belA w23 (atsO a)).mono hb23.size)
          have P24 := hide (P22.out.quiet hb24)
          obtain ⟨y9, y0, y1, y2⟩ := n22.out.below hb23
          clear hb23 hb24 P22 n22
          go_wp2_with fail
          go_at_call 22
          refine (aWait_c p _ _ _ (nxDone La xb xs) _ block _ P24.out.a.n (by omega)).mono ?_
          rintro e w25 ⟨v25, rfl, ob25, hW25, -, hb25⟩
          have P25 := hide (P24.out.quiet hb25)
          rw [hT.out] at hW25
          obtain ⟨b25, V25⟩ := hW25.view
          replace V25 := hide V25
          clear hW25 hb25 P24 y9 y0 y1 y2
          go_wp2_with fail
          go_at_call 22
          refine (aWait_c p' _ _ _ (nxDone Lb xb xs) _ block _ P25.out.b.n (by omega)).mono ?_
          rintro e w26 ⟨v26, rfl, ob26, hW26, -, hb26⟩
          have P26 := hide (P25.out.quiet hb26)
          rw [hT'.out] at hW26
          obtain ⟨b26, V26⟩ := hW26.view
          have V27 := hide (V25.out.below hb26)
          replace V26 := hide V26
          clear hW26 hb26 P25 V25
          go_wp2_with fail
          go_at_call 21
          refine (ints_c _ _ _ _ T T _ V27.out V26.out).mono ?_
          rw [show decide (T = T) = true by simp]
          rintro e w28 ⟨rfl, nq, rfl⟩
          have P28 := hide (P26.out.quiet (belD w26 nq))
          clear P26 V26 V27
          go_wp2_with fail
          go_roundw
          case rel => exact ⟨j + 1, _, _, _, _, by omega, by simp, P28.out, hal⟩
          case measure => simp [intOf]; omega
        · have e' : decide (xb = block) = false ∧ (xb == block) = false ∧ (xb != block) = true := ⟨by simpa using e, by simpa using e, by simpa using e⟩
          have hal : Hid (Alq (nxDone La xb xs) Lb block) := hide (al_done' al1.out e xs)
          replace e := hide e
          go_wp2_with fail
          rw [rounds_succ]
          go_wp2_with fail
          rw [rounds_succ]
          have P4 := hide (P3.out.mono (K := j + 1) (K' := j + 1) (Nat.le_refl _) (Nat.le_succ _))
          clear P3
          obtain ⟨a, ha⟩ : ∃ a, Hid (atCur (nxDone La xb xs) block = a) := ⟨_, rfl⟩
          obtain ⟨ok, hok⟩ : ∃ ok, Hid (okCur (nxDone La xb xs) block = ok) := ⟨_, rfl⟩
          obtain ⟨T, hT⟩ : ∃ T, Hid (wtsQ (nxDone La xb xs) block = T) := ⟨_, rfl⟩
          have ha' : Hid (atCur Lb block = a) := hide ((al_cur hal.out).1.trans ha.out)
          have hok' : Hid (okCur Lb block = ok) := hide ((al_cur hal.out).2.1.trans hok.out)
          have hT' : Hid (wtsQ Lb block = T) := hide ((al_cur hal.out).2.2.trans hT.out)
          go_wp2_with fail
          go_at_call 20
          refine (aCur_c p _ _ _ (nxDone La xb xs) _ block _ P4.out.a.n a ha ok hok).mono ?_
          rintro e w21 ⟨rfl, hb21⟩
          have hb22 := hb21.trans ((belA w21 (atsO a)).mono hb21.size)
          have P22 := hide (P4.out.quiet hb22)
          have n22 := hide (ats_new w21 a)
          clear hb21 hb22 P4
          go_wp2_with fail
          go_at_call 20
          refine (aCur_c p' _ _ _ Lb _ block _ P22.out.b.n a ha' ok hok').mono ?_
          rintro e w23 ⟨rfl, hb23⟩
          have hb24 := hb23.trans ((belA w23 (atsO a)).mono hb23.size)
          have P24 := hide (P22.out.quiet hb24)
          obtain ⟨y9, y0, y1, y2⟩ := n22.out.below hb23
          clear hb23 hb24 P22 n22
          go_wp2_with fail
          go_at_call 22
          refine (aWait_c p _ _ _ (nxDone La xb xs) _ block _ P24.out.a.n (by omega)).mono ?_
          rintro e w25 ⟨v25, rfl, ob25, hW25, -, hb25⟩
          have P25 := hide (P24.out.quiet hb25)
          rw [hT.out] at hW25
          obtain ⟨b25, V25⟩ := hW25.view
          replace V25 := hide V25
          clear hW25 hb25 P24 y9 y0 y1 y2
          go_wp2_with fail
          go_at_call 22
          refine (aWait_c p' _ _ _ Lb _ block _ P25.out.b.n (by omega)).mono ?_
          rintro e w26 ⟨v26, rfl, ob26, hW26, -, hb26⟩
          have P26 := hide (P25.out.quiet hb26)
          rw [hT'.out] at hW26
          obtain ⟨b26, V26⟩ := hW26.view
          have V27 := hide (V25.out.below hb26)
          replace V26 := hide V26
          clear hW26 hb26 P25 V25
          go_wp2_with fail
          go_at_call 21
          refine (ints_c _ _ _ _ T T _ V27.out V26.out).mono ?_
          rw [show decide (T = T) = true by simp]
          rintro e w28 ⟨rfl, nq, rfl⟩
          have P28 := hide (P26.out.quiet (belD w26 nq))
          clear P26 V26 V27
          go_wp2_with fail
          go_roundw
          case rel => exact ⟨j + 1, _, _, _, _, by omega, by simp, P28.out, hal⟩
          case measure => simp [intOf]; omega
      by_cases k3 : k = 3
      · subst k3
        go_wp2_with fail
        refine wp_loop_rounds 3 ?_
        rw [rounds_succ]
        go_wp2_with fail
        go_at_call 17
        refine (aAck_c p g N j La Fa xb xs xn _ P0.out.a.n (by omega) _ (hide rfl) _ (hide rfl)).mono ?_
        rintro e w3 ⟨rfl, F3, h3, s3⟩
        have P3 : Hid (Two w w3 p g N (j + 1) (nxAck N La xb xs xn) F3 p' g' N j Lb Fb) := hide (P0.out.step (h3) s3)
        have m3 := (s3.keep na0 (by simp only [World.size_alloc]; omega)).1
        have l3 := (s3.keep na1 (by simp)).1
        obtain ⟨y9, y0, y1, y2, y3⟩ := (((acts_new wr ⟨3, xb, xs, xn⟩).carry (Below.heap_alloc _ (litO p p') _ (by simp))).carry m3)
        have z1 : w3.cell? ⟨wr.heap.size + 1, 1, none⟩ = some (ptr p') := keep_cell l3 (by simp [go_sem])
        have z9 : wr.heap.size + 1 < w3.heap.size := by have := s3.fr.size; simp at this; omega
        clear h3 s3 m3 l3 P0
        by_cases e : xb = block
        · have e' : decide (xb = block) = true ∧ (xb == block) = true ∧ (xb != block) = false := ⟨by simpa using e, by simpa using e, by simpa using e⟩
          replace e := hide e
          go_wp2_with fail
          rw [rounds_succ]
          go_wp2_with fail
          go_at_call 17
          refine (aAck_c p' g' N j Lb Fb xb xs xn _ P3.out.b.n (by omega) _ (hide rfl) _ (hide rfl)).mono ?_
          rintro e w4 ⟨rfl, F4, h4, s4⟩
          have P4 : Hid (Two w w4 p g N (j + 1) (nxAck N La xb xs xn) F3 p' g' N (j + 1) (nxAck N Lb xb xs xn) F4) := hide (P3.out.swap.step (h4) s4).swap
          have q4 := (s4.keep nb1 z9).1
          replace z1 := keep_cell q4 z1
          replace z9 := block_lt z9 q4
          clear h4 s4 P3 q4 y0 y1 y2 y3 y9
          have hal : Hid (Alq (nxAck N La xb xs xn) (nxAck N Lb xb xs xn) block) := hide (by cases e.out; exact al_ack al1.out xs xn)
          go_wp2_with fail
          rw [rounds_succ]
          obtain ⟨a, ha⟩ : ∃ a, Hid (atCur (nxAck N La xb xs xn) block = a) := ⟨_, rfl⟩
          obtain ⟨ok, hok⟩ : ∃ ok, Hid (okCur (nxAck N La xb xs xn) block = ok) := ⟨_, rfl⟩
          obtain ⟨T, hT⟩ : ∃ T, Hid (wtsQ (nxAck N La xb xs xn) block = T) := ⟨_, rfl⟩
          have ha' : Hid (atCur (nxAck N Lb xb xs xn) block = a) := hide ((al_cur hal.out).1.trans ha.out)
          have hok' : Hid (okCur (nxAck N Lb xb xs xn) block = ok) := hide ((al_cur hal.out).2.1.trans hok.out)
          have hT' : Hid (wtsQ (nxAck N Lb xb xs xn) block = T) := hide ((al_cur hal.out).2.2.trans hT.out)
          go_wp2_with fail
          go_at_call 20
          refine (aCur_c p _ _ _ (nxAck N La xb xs xn) _ block _ P4.out.a.n a ha ok hok).mono ?_
          rintro e w21 ⟨rfl, hb21⟩
          have hb22 := hb21.trans ((belA w21 (atsO a)).mono hb21.size)
          have P22 := hide (P4.out.quiet hb22)
          have n22 := hide (ats_new w21 a)
          clear hb21 hb22 P4
          go_wp2_with fail
          go_at_call 20
          refine (aCur_c p' _ _ _ (nxAck N Lb xb xs xn) _ block _ P22.out.b.n a ha' ok hok').mono ?_
          rintro e w23 ⟨rfl, hb23⟩
          have hb24 := hb23.trans ((belA w23 (atsO a)).mono hb23.size)
          have P24 := hide (P22.out.quiet hb24)
          obtain ⟨y9, y0, y1, y2⟩ := n22.out.below hb23
          clear hb23 hb24 P22 n22
          go_wp2_with fail
          go_at_call 22
          refine (aWait_c p _ _ _ (nxAck N La xb xs xn) _ block _ P24.out.a.n (by omega)).mono ?_
          rintro e w25 ⟨v25, rfl, ob25, hW25, -, hb25⟩
          have P25 := hide (P24.out.quiet hb25)
          rw [hT.out] at hW25
          obtain ⟨b25, V25⟩ := hW25.view
          replace V25 := hide V25
          clear hW25 hb25 P24 y9 y0 y1 y2
          go_wp2_with fail
          go_at_call 22
          refine (aWait_c p' _ _ _ (nxAck N Lb xb xs xn) _ block _ P25.out.b.n (by omega)).mono ?_
          rintro e w26 ⟨v26, rfl, ob26, hW26, -, hb26⟩
          have P26 := hide (P25.out.quiet hb26)
          rw [hT'.out] at hW26
          obtain ⟨b26, V26⟩ := hW26.view
          have V27 := hide (V25.out.below hb26)
          replace V26 := hide V26
          clear hW26 hb26 P25 V25
          go_wp2_with fail
          go_at_call 21
          refine (ints_c _ _ _ _ T T _ V27.out V26.out).mono ?_
          rw [show decide (T = T) = true by simp]
          rintro e w28 ⟨rfl, nq, rfl⟩
          have P28 := hide (P26.out.quiet (belD w26 nq))
          clear P26 V26 V27
          go_wp2_with fail
          go_roundw
          case rel => exact ⟨j + 1, _, _, _, _, by omega, by simp, P28.out, hal⟩
          case measure => simp [intOf]; omega
        · have e' : decide (xb = block) = false ∧ (xb == block) = false ∧ (xb != block) = true := ⟨by simpa using e, by simpa using e, by simpa using e⟩
          have hal : Hid (Alq (nxAck N La xb xs xn) Lb block) := hide (al_ack' al1.out e xs xn)
          replace e := hide e
          go_wp2_with fail
          rw [rounds_succ]
          go_wp2_with fail
          rw [rounds_succ]
          have P4 := hide (P3.out.mono (K := j + 1) (K' := j + 1) (Nat.le_refl _) (Nat.le_succ _))
          clear P3
          obtain ⟨a, ha⟩ : ∃ a, Hid (atCur (nxAck N La xb xs xn) block = a) := ⟨_, rfl⟩
          obtain ⟨ok, hok⟩ : ∃ ok, Hid (okCur (nxAck N La xb xs xn) block = ok) := ⟨_, rfl⟩
          obtain ⟨T, hT⟩ : ∃ T, Hid (wtsQ (nxAck N La xb xs xn) block = T) := ⟨_, rfl⟩
          have ha' : Hid (atCur Lb block = a) := hide ((al_cur hal.out).1.trans ha.out)
          have hok' : Hid (okCur Lb block = ok) := hide ((al_cur hal.out).2.1.trans hok.out)
          have hT' : Hid (wtsQ Lb block = T) := hide ((al_cur hal.out).2.2.trans hT.out)
          go_wp2_with fail
          go_at_call 20
          refine (aCur_c p _ _ _ (nxAck N La xb xs xn) _ block _ P4.out.a.n a ha ok hok).mono ?_
          rintro e w21 ⟨rfl, hb21⟩
          have hb22 := hb21.trans ((belA w21 (atsO a)).mono hb21.size)
          have P22 := hide (P4.out.quiet hb22)
          have n22 := hide (ats_new w21 a)
          clear hb21 hb22 P4
          go_wp2_with fail
          go_at_call 20
          refine (aCur_c p' _ _ _ Lb _ block _ P22.out.b.n a ha' ok hok').mono ?_
          rintro e w23 ⟨rfl, hb23⟩
          have hb24 := hb23.trans ((belA w23 (atsO a)).mono hb23.size)
          have P24 := hide (P22.out.quiet hb24)
          obtain ⟨y9, y0, y1, y2⟩ := n22.out.below hb23
          clear hb23 hb24 P22 n22
          go_wp2_with fail
          go_at_call 22
          refine (aWait_c p _ _ _ (nxAck N La xb xs xn) _ block _ P24.out.a.n (by omega)).mono ?_
          rintro e w25 ⟨v25, rfl, ob25, hW25, -, hb25⟩
          have P25 := hide (P24.out.quiet hb25)
          rw [hT.out] at hW25
          obtain ⟨b25, V25⟩ := hW25.view
          replace V25 := hide V25
          clear hW25 hb25 P24 y9 y0 y1 y2
          go_wp2_with fail
          go_at_call 22
          refine (aWait_c p' _ _ _ Lb _ block _ P25.out.b.n (by omega)).mono ?_
          rintro e w26 ⟨v26, rfl, ob26, hW26, -, hb26⟩
          have P26 := hide (P25.out.quiet hb26)
          rw [hT'.out] at hW26
          obtain ⟨b26, V26⟩ := hW26.view
          have V27 := hide (V25.out.below hb26)
          replace V26 := hide V26
          clear hW26 hb26 P25 V25
          go_wp2_with fail
          go_at_call 21
          refine (ints_c _ _ _ _ T T _ V27.out V26.out).mono ?_
          rw [show decide (T = T) = true by simp]
          rintro e w28 ⟨rfl, nq, rfl⟩
          have P28 := hide (P26.out.quiet (belD w26 nq))
          clear P26 V26 V27
          go_wp2_with fail
          go_roundw
          case rel => exact ⟨j + 1, _, _, _, _, by omega, by simp, P28.out, hal⟩
          case measure => simp [intOf]; omega
      by_cases k6 : k = 6
      · subst k6
        go_wp2_with fail
        refine wp_loop_rounds 3 ?_
        rw [rounds_succ]
        go_wp2_with fail
        go_at_call 17
        refine (aAck_c p g N j La Fa xb xs xn _ P0.out.a.n (by omega) _ (hide rfl) _ (hide rfl)).mono ?_
        rintro e w3 ⟨rfl, F3, h3, s3⟩
        have P3 : Hid (Two w w3 p g N (j + 1) (nxAck N La xb xs xn) F3 p' g' N j Lb Fb) := hide (P0.out.step (h3) s3)
        have m3 := (s3.keep na0 (by simp only [World.size_alloc]; omega)).1
        have l3 := (s3.keep na1 (by simp)).1
        obtain ⟨y9, y0, y1, y2, y3⟩ := (((acts_new wr ⟨6, xb, xs, xn⟩).carry (Below.heap_alloc _ (litO p p') _ (by simp))).carry m3)
        have z1 : w3.cell? ⟨wr.heap.size + 1, 1, none⟩ = some (ptr p') := keep_cell l3 (by simp [go_sem])
        have z9 : wr.heap.size + 1 < w3.heap.size := by have := s3.fr.size; simp at this; omega
        clear h3 s3 m3 l3 P0
        by_cases e : xb = block
        · have e' : decide (xb = block) = true ∧ (xb == block) = true ∧ (xb != block) = false := ⟨by simpa using e, by simpa using e, by simpa using e⟩
          replace e := hide e
          go_wp2_with fail
          rw [rounds_succ]
          go_wp2_with fail
          go_at_call 17
          refine (aAck_c p' g' N j Lb Fb xb xs xn _ P3.out.b.n (by omega) _ (hide rfl) _ (hide rfl)).mono ?_
          rintro e w4 ⟨rfl, F4, h4, s4⟩
          have P4 : Hid (Two w w4 p g N (j + 1) (nxAck N La xb xs xn) F3 p' g' N (j + 1) (nxAck N Lb xb xs xn) F4) := hide (P3.out.swap.step (h4) s4).swap
          have q4 := (s4.keep nb1 z9).1
          replace z1 := keep_cell q4 z1
          replace z9 := block_lt z9 q4
          clear h4 s4 P3 q4 y0 y1 y2 y3 y9
          have hal : Hid (Alq (nxAck N La xb xs xn) (nxAck N Lb xb xs xn) block) := hide (by cases e.out; exact al_ack al1.out xs xn)
          go_wp2_with fail
          rw [rounds_succ]
          obtain ⟨a, ha⟩ : ∃ a, Hid (atCur (nxAck N La xb xs xn) block = a) := ⟨_, rfl⟩
          obtain ⟨ok, hok⟩ : ∃ ok, Hid (okCur (nxAck N La xb xs xn) block = ok) := ⟨_, rfl⟩
          obtain ⟨T, hT⟩ : ∃ T, Hid (wtsQ (nxAck N La xb xs xn) block = T) := ⟨_, rfl⟩
          have ha' : Hid (atCur (nxAck N Lb xb xs xn) block = a) := hide ((al_cur hal.out).1.trans ha.out)
          have hok' : Hid (okCur (nxAck N Lb xb xs xn) block = ok) := hide ((al_cur hal.out).2.1.trans hok.out)
          have hT' : Hid (wtsQ (nxAck N Lb xb xs xn) block = T) := hide ((al_cur hal.out).2.2.trans hT.out)
          go_wp2_with fail
          go_at_call 20
          refine (aCur_c p _ _ _ (nxAck N La xb xs xn) _ block _ P4.out.a.n a ha ok hok).mono ?_
          rintro e w21 ⟨rfl, hb21⟩
          have hb22 := hb21.trans ((belA w21 (atsO a)).mono hb21.size)
          have P22 := hide (P4.out.quiet hb22)
          have n22 := hide (ats_new w21 a)
          clear hb21 hb22 P4
          go_wp2_with fail
          go_at_call 20
          refine (aCur_c p' _ _ _ (nxAck N Lb xb xs xn) _ block _ P22.out.b.n a ha' ok hok').mono ?_
          rintro e w23 ⟨rfl, hb23⟩
          have hb24 := hb23.trans ((belA w23 (atsO a)).mono hb23.size)
          have P24 := hide (P22.out.quiet hb24)
          obtain ⟨y9, y0, y1, y2⟩ := n22.out.below hb23
          clear hb23 hb24 P22 n22
          go_wp2_with fail
          go_at_call 22
          refine (aWait_c p _ _ _ (nxAck N La xb xs xn) _ block _ P24.out.a.n (by omega)).mono ?_
          rintro e w25 ⟨v25, rfl, ob25, hW25, -, hb25⟩
          have P25 := hide (P24.out.quiet hb25)
          rw [hT.out] at hW25
          obtain ⟨b25, V25⟩ := hW25.view
          replace V25 := hide V25
          clear hW25 hb25 P24 y9 y0 y1 y2
          go_wp2_with fail
          go_at_call 22
          refine (aWait_c p' _ _ _ (nxAck N Lb xb xs xn) _ block _ P25.out.b.n (by omega)).mono ?_
          rintro e w26 ⟨v26, rfl, ob26, hW26, -, hb26⟩
          have P26 := hide (P25.out.quiet hb26)
          rw [hT'.out] at hW26
          obtain ⟨b26, V26⟩ := hW26.view
          have V27 := hide (V25.out.below hb26)
          replace V26 := hide V26
          clear hW26 hb26 P25 V25
          go_wp2_with fail
          go_at_call 21
          refine (ints_c _ _ _ _ T T _ V27.out V26.out).mono ?_
          rw [show decide (T = T) = true by simp]
          rintro e w28 ⟨rfl, nq, rfl⟩
          have P28 := hide (P26.out.quiet (belD w26 nq))
          clear P26 V26 V27
          go_wp2_with fail
          go_roundw
          case rel => exact ⟨j + 1, _, _, _, _, by omega, by simp, P28.out, hal⟩
          case measure => simp [intOf]; omega
        · have e' : decide (xb = block) = false ∧ (xb == block) = false ∧ (xb != block) = true := ⟨by simpa using e, by simpa using e, by simpa using e⟩
          have hal : Hid (Alq (nxAck N La xb xs xn) Lb block) := hide (al_ack' al1.out e xs xn)
          replace e := hide e
          go_wp2_with fail
          rw [rounds_succ]
          go_wp2_with fail
          rw [rounds_succ]
          have P4 := hide (P3.out.mono (K := j + 1) (K' := j + 1) (Nat.le_refl _) (Nat.le_succ _))
          clear P3
          obtain ⟨a, ha⟩ : ∃ a, Hid (atCur (nxAck N La xb xs xn) block = a) := ⟨_, rfl⟩
          obtain ⟨ok, hok⟩ : ∃ ok, Hid (okCur (nxAck N La xb xs xn) block = ok) := ⟨_, rfl⟩
          obtain ⟨T, hT⟩ : ∃ T, Hid (wtsQ (nxAck N La xb xs xn) block = T) := ⟨_, rfl⟩
          have ha' : Hid (atCur Lb block = a) := hide ((al_cur hal.out).1.trans ha.out)
          have hok' : Hid (okCur Lb block = ok) := hide ((al_cur hal.out).2.1.trans hok.out)
          have hT' : Hid (wtsQ Lb block = T) := hide ((al_cur hal.out).2.2.trans hT.out)
          go_wp2_with fail
          go_at_call 20
          refine (aCur_c p _ _ _ (nxAck N La xb xs xn) _ block _ P4.out.a.n a ha ok hok).mono ?_
          rintro e w21 ⟨rfl, hb21⟩
          have hb22 := hb21.trans ((belA w21 (atsO a)).mono hb21.size)
          have P22 := hide (P4.out.quiet hb22)
          have n22 := hide (ats_new w21 a)
          clear hb21 hb22 P4
          go_wp2_with fail
          go_at_call 20
          refine (aCur_c p' _ _ _ Lb _ block _ P22.out.b.n a ha' ok hok').mono ?_
          rintro e w23 ⟨rfl, hb23⟩
          have hb24 := hb23.trans ((belA w23 (atsO a)).mono hb23.size)
          have P24 := hide (P22.out.quiet hb24)
          obtain ⟨y9, y0, y1, y2⟩ := n22.out.below hb23
          clear hb23 hb24 P22 n22
          go_wp2_with fail
          go_at_call 22
          refine (aWait_c p _ _ _ (nxAck N La xb xs xn) _ block _ P24.out.a.n (by omega)).mono ?_
          rintro e w25 ⟨v25, rfl, ob25, hW25, -, hb25⟩
          have P25 := hide (P24.out.quiet hb25)
          rw [hT.out] at hW25
          obtain ⟨b25, V25⟩ := hW25.view
          replace V25 := hide V25
          clear hW25 hb25 P24 y9 y0 y1 y2
          go_wp2_with fail
          go_at_call 22
          refine (aWait_c p' _ _ _ Lb _ block _ P25.out.b.n (by omega)).mono ?_
          rintro e w26 ⟨v26, rfl, ob26, hW26, -, hb26⟩
          have P26 := hide (P25.out.quiet hb26)
          rw [hT'.out] at hW26
          obtain ⟨b26, V26⟩ := hW26.view
          have V27 := hide (V25.out.below hb26)
          replace V26 := hide V26
          clear hW26 hb26 P25 V25
          go_wp2_with fail
          go_at_call 21
          refine (ints_c _ _ _ _ T T _ V27.out V26.out).mono ?_
          rw [show decide (T = T) = true by simp]
          rintro e w28 ⟨rfl, nq, rfl⟩
          have P28 := hide (P26.out.quiet (belD w26 nq))
          clear P26 V26 V27
          go_wp2_with fail
          go_roundw
          case rel => exact ⟨j + 1, _, _, _, _, by omega, by simp, P28.out, hal⟩
          case measure => simp [intOf]; omega
      · have k1' : decide (k = 1) = false ∧ (k == 1) = false := ⟨by simpa using k1, by simpa using k1⟩
        have k2' : decide (k = 2) = false ∧ (k == 2) = false := ⟨by simpa using k2, by simpa using k2⟩
        have k5' : decide (k = 5) = false ∧ (k == 5) = false := ⟨by simpa using k5, by simpa using k5⟩
        have k3' : decide (k = 3) = false ∧ (k == 3) = false := ⟨by simpa using k3, by simpa using k3⟩
        have k6' : decide (k = 6) = false ∧ (k == 6) = false := ⟨by simpa using k6, by simpa using k6⟩
        replace k1 := hide k1
        replace k2 := hide k2
        replace k5 := hide k5
        replace k3 := hide k3
        replace k6 := hide k6
        have hal := al1
        have P4 := hide (P0.out.mono (K := j + 1) (K' := j + 1) (Nat.le_succ _) (Nat.le_succ _))
        clear P0
        by_cases e : xb = block
        · have e' : decide (xb = block) = true ∧ (xb == block) = true ∧ (xb != block) = false := ⟨by simpa using e, by simpa using e, by simpa using e⟩
          replace e := hide e
          go_wp2_with fail
          refine wp_loop_rounds 3 ?_
          rw [rounds_succ]
          go_wp2_with fail
          rw [rounds_succ]
          go_wp2_with fail
          rw [rounds_succ]
          obtain ⟨a, ha⟩ : ∃ a, Hid (atCur La block = a) := ⟨_, rfl⟩
          obtain ⟨ok, hok⟩ : ∃ ok, Hid (okCur La block = ok) := ⟨_, rfl⟩
          obtain ⟨T, hT⟩ : ∃ T, Hid (wtsQ La block = T) := ⟨_, rfl⟩
          have ha' : Hid (atCur Lb block = a) := hide ((al_cur hal.out).1.trans ha.out)
          have hok' : Hid (okCur Lb block = ok) := hide ((al_cur hal.out).2.1.trans hok.out)
          have hT' : Hid (wtsQ Lb block = T) := hide ((al_cur hal.out).2.2.trans hT.out)
          go_wp2_with fail
          go_at_call 20
          refine (aCur_c p _ _ _ La _ block _ P4.out.a.n a ha ok hok).mono ?_
          rintro e w21 ⟨rfl, hb21⟩
          have hb22 := hb21.trans ((belA w21 (atsO a)).mono hb21.size)
          have P22 := hide (P4.out.quiet hb22)
          have n22 := hide (ats_new w21 a)
          clear hb21 hb22 P4
          go_wp2_with fail
          go_at_call 20
          refine (aCur_c p' _ _ _ Lb _ block _ P22.out.b.n a ha' ok hok').mono ?_
          rintro e w23 ⟨rfl, hb23⟩
          have hb24 := hb23.trans ((belA w23 (atsO a)).mono hb23.size)
          have P24 := hide (P22.out.quiet hb24)
          obtain ⟨y9, y0, y1, y2⟩ := n22.out.below hb23
          clear hb23 hb24 P22 n22
          go_wp2_with fail
          go_at_call 22
          refine (aWait_c p _ _ _ La _ block _ P24.out.a.n (by omega)).mono ?_
          rintro e w25 ⟨v25, rfl, ob25, hW25, -, hb25⟩
          have P25 := hide (P24.out.quiet hb25)
          rw [hT.out] at hW25
          obtain ⟨b25, V25⟩ := hW25.view
          replace V25 := hide V25
          clear hW25 hb25 P24 y9 y0 y1 y2
          go_wp2_with fail
          go_at_call 22
          refine (aWait_c p' _ _ _ Lb _ block _ P25.out.b.n (by omega)).mono ?_
          rintro e w26 ⟨v26, rfl, ob26, hW26, -, hb26⟩
          have P26 := hide (P25.out.quiet hb26)
          rw [hT'.out] at hW26
          obtain ⟨b26, V26⟩ := hW26.view
          have V27 := hide (V25.out.below hb26)
          replace V26 := hide V26
          clear hW26 hb26 P25 V25
          go_wp2_with fail
          go_at_call 21
          refine (ints_c _ _ _ _ T T _ V27.out V26.out).mono ?_
          rw [show decide (T = T) = true by simp]
          rintro e w28 ⟨rfl, nq, rfl⟩
          have P28 := hide (P26.out.quiet (belD w26 nq))
          clear P26 V26 V27
          go_wp2_with fail
          go_roundw
          case rel => exact ⟨j + 1, _, _, _, _, by omega, by simp, P28.out, hal⟩
          case measure => simp [intOf]; omega
        · have e' : decide (xb = block) = false ∧ (xb == block) = false ∧ (xb != block) = true := ⟨by simpa using e, by simpa using e, by simpa using e⟩
          replace e := hide e
          go_wp2_with fail
          refine wp_loop_rounds 3 ?_
          rw [rounds_succ]
          go_wp2_with fail
          rw [rounds_succ]
          go_wp2_with fail
          rw [rounds_succ]
          obtain ⟨a, ha⟩ : ∃ a, Hid (atCur La block = a) := ⟨_, rfl⟩
          obtain ⟨ok, hok⟩ : ∃ ok, Hid (okCur La block = ok) := ⟨_, rfl⟩
          obtain ⟨T, hT⟩ : ∃ T, Hid (wtsQ La block = T) := ⟨_, rfl⟩
          have ha' : Hid (atCur Lb block = a) := hide ((al_cur hal.out).1.trans ha.out)
          have hok' : Hid (okCur Lb block = ok) := hide ((al_cur hal.out).2.1.trans hok.out)
          have hT' : Hid (wtsQ Lb block = T) := hide ((al_cur hal.out).2.2.trans hT.out)
          go_wp2_with fail
          go_at_call 20
          refine (aCur_c p _ _ _ La _ block _ P4.out.a.n a ha ok hok).mono ?_
          rintro e w21 ⟨rfl, hb21⟩
          have hb22 := hb21.trans ((belA w21 (atsO a)).mono hb21.size)
          have P22 := hide (P4.out.quiet hb22)
          have n22 := hide (ats_new w21 a)
          clear hb21 hb22 P4
          go_wp2_with fail
          go_at_call 20
          refine (aCur_c p' _ _ _ Lb _ block _ P22.out.b.n a ha' ok hok').mono ?_
          rintro e w23 ⟨rfl, hb23⟩
          have hb24 := hb23.trans ((belA w23 (atsO a)).mono hb23.size)
          have P24 := hide (P22.out.quiet hb24)
          obtain ⟨y9, y0, y1, y2⟩ := n22.out.below hb23
          clear hb23 hb24 P22 n22
          go_wp2_with fail
          go_at_call 22
          refine (aWait_c p _ _ _ La _ block _ P24.out.a.n (by omega)).mono ?_
          rintro e w25 ⟨v25, rfl, ob25, hW25, -, hb25⟩
          have P25 := hide (P24.out.quiet hb25)
          rw [hT.out] at hW25
          obtain ⟨b25, V25⟩ := hW25.view
          replace V25 := hide V25
          clear hW25 hb25 P24 y9 y0 y1 y2
          go_wp2_with fail
          go_at_call 22
          refine (aWait_c p' _ _ _ Lb _ block _ P25.out.b.n (by omega)).mono ?_
          rintro e w26 ⟨v26, rfl, ob26, hW26, -, hb26⟩
          have P26 := hide (P25.out.quiet hb26)
          rw [hT'.out] at hW26
          obtain ⟨b26, V26⟩ := hW26.view
          have V27 := hide (V25.out.below hb26)
          replace V26 := hide V26
          clear hW26 hb26 P25 V25
          go_wp2_with fail
          go_at_call 21
          refine (ints_c _ _ _ _ T T _ V27.out V26.out).mono ?_
          rw [show decide (T = T) = true by simp]
          rintro e w28 ⟨rfl, nq, rfl⟩
          have P28 := hide (P26.out.quiet (belD w26 nq))
          clear P26 V26 V27
          go_wp2_with fail
          go_roundw
          case rel => exact ⟨j + 1, _, _, _, _, by omega, by simp, P28.out, hal⟩
          case measure => simp [intOf]; omega
    · obtain rfl : j = A.length := by omega
      replace P1 := hide P1
      go_wp2_with fail
      go_ret
      exact ⟨rfl, P1.out.a.bel⟩
end Go.Proofs.Ytlfdahcbkdiifaa
