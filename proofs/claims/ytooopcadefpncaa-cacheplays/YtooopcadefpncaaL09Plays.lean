/- The walk of CachePlays: it returns true; no old memory turns. Written by wip/gen09p.py. -/
import Derived.Test.YtooopcadefpncaaLaw09
import Derived.Test.YtooopcadefpncaaCacS
import Derived.Test.YtooopcadefpncaaRcX
namespace Go.Proofs.Ytooopcadefpncaa
open Go.ChangeShapes Go.WideShapes Go.ChangeAt Go.RowKit
set_option linter.unusedSimpArgs false
set_option linter.unusedVariables false
set_option maxRecDepth 10000

attribute [local go_sem, local simp] over_const setCell_drewN alloc_drewN Over.cell Over.frozen lt_s1 lt_s2 lt_s3 le_s0 le_s1 le_s2 le_s3 eq_s0 eq_s1 eq_s2 qe_s0

/-- The program's cache and the document's, alike and apart from each other. -/
structure DuoC (w wr : World) (c m : Nat) (F G : Nat → Prop) (S W N : Int) (K : Nat) (C : Ca) : Prop where
  n : CaIs wr c F S W N C
  r : RcIs wr m G S W N K C
  f : ∀ b, F b → w.heap.size ≤ b
  g : ∀ b, G b → w.heap.size ≤ b
  d : ∀ b, F b → ¬ G b
  bel : Below w.heap.size w wr

section
variable {w wr wz w3 w4 : World} {c m : Nat} {F F' G G' : Nat → Prop} {S W N N' : Int} {K K' : Nat} {C C' : Ca}
theorem DuoC.quiet (h : DuoC w wr c m F G S W N K C) (hz : Below wr.heap.size wr wz) : DuoC w wz c m F G S W N K C :=
  ⟨h.n.below hz, h.r.below hz, h.f, h.g, h.d, h.bel.trans (hz.mono h.bel.size)⟩
theorem DuoC.mono (h : DuoC w wr c m F G S W N K C) (hN : N ≤ N') (hK : K ≤ K') : DuoC w wr c m F G S W N' K' C := ⟨h.n.mono hN, h.r.mono hN hK, h.f, h.g, h.d, h.bel⟩

/-- The program's has changed; the document's is as it was. -/
structure HalfC (w wr : World) (c m : Nat) (F G : Nat → Prop) (S W N N' : Int) (K : Nat) (C C' : Ca) : Prop where
  n : CaIs wr c F S W N' C'
  r : RcIs wr m G S W N K C
  f : ∀ b, F b → w.heap.size ≤ b
  g : ∀ b, G b → w.heap.size ≤ b
  d : ∀ b, F b → ¬ G b
  bel : Below w.heap.size w wr
theorem DuoC.half (h : DuoC w wr c m F G S W N K C) (hn : CaIs w3 c F' S W N' C') (hs : Step F F' wr w3) : HalfC w w3 c m F' G S W N N' K C C' := by
  have s1 := h.bel.size
  refine ⟨hn, h.r.fr hs.fr (fun b hb _ e => h.d b e hb), fun b hb => ?_, h.g, fun b hb e => ?_, h.bel.trans (hs.fr.below h.f s1)⟩
  · rcases hs.new b hb with h1 | h1
    · exact h.f b h1
    · omega
  · rcases hs.new b hb with h1 | h1
    · exact h.d b h1 e
    · have := h.r.lt b e; omega
theorem HalfC.quiet (h : HalfC w wr c m F G S W N N' K C C') (hz : Below wr.heap.size wr wz) : HalfC w wz c m F G S W N N' K C C' :=
  ⟨h.n.below hz, h.r.below hz, h.f, h.g, h.d, h.bel.trans (hz.mono h.bel.size)⟩
theorem HalfC.both (h : HalfC w wr c m F G S W N N' K C C') (hm : RcIs w4 m G' S W N' K' C') (ht : Step G G' wr w4) : DuoC w w4 c m F G' S W N' K' C' := by
  have s1 := h.bel.size
  refine ⟨h.n.fr ht.fr (fun b hb _ e => h.d b hb e), hm, h.f, fun b hb => ?_, fun b hb e => ?_, h.bel.trans (ht.fr.below h.g s1)⟩
  · rcases ht.new b hb with h1 | h1
    · exact h.g b h1
    · omega
  · rcases ht.new b e with h1 | h1
    · exact h.d b hb h1
    · have := h.n.lt b hb; omega
end

set_option maxHeartbeats 4000000 in
theorem CachePlays_walk (s t : Int) (v : Value) (A : List Ac) (x : Int) (hx : I64 x) (w : World) (h : ActsAt w.heap.size w v A) : Calls Try.prog 3 #[.agg #[.int .i64 s, .int .i64 t], v, .int .i64 x] w fun e w' => e = .returned (.bool true) ∧ Below w.heap.size w w' := by
  have hfld := field_n
  have hA := hide h
  obtain ⟨ao, cap, rfl, hlc, hmx, _⟩ := h
  have hmx' : A.length ≤ 9223372036854775807 := by unfold maxLen at hmx; omega
  clear hmx
  go_enter Try.func3, Try.ntmps3
  go_wp2_with fail
  go_at_call 10
  refine (awake9_any _).mono ?_
  rintro e w1 ⟨rfl, hb1⟩
  obtain ⟨X1, hB1, hs1⟩ := box1 hb1
  clear hb1
  replace X1 := hide X1
  go_wp2_with fail
  go_at_call 11
  refine (right_c _ A w1 ((unhide hA).below hB1).up).mono ?_
  rintro e w2 ⟨q, rfl, hb2, hq⟩
  replace X1 := (unhide X1).below hb2
  have hB2 := hB1.trans (hb2.mono hB1.size)
  clear hB1 hb2 hs1
  cases q
  · replace hB2 := hide hB2
    clear X1
    go_wp2_with fail
    go_at_call 10
    refine (awake9_any _).mono ?_
    rintro e w3 ⟨rfl, hb3⟩
    replace hb3 := hide hb3
    go_wp2_with fail
    go_ret
    exact ⟨rfl, (unhide hB2).trans ((unhide hb3).mono (unhide hB2).size)⟩
  have hf : Hid (Fine A) := hq rfl
  have hlen : A.length ≤ 200 := hf.out.1
  clear hq
  have XX := hide X1
  obtain ⟨-, q0, q1⟩ := X1
  replace hB2 := hide hB2
  obtain ⟨S, hS⟩ : ∃ S, Hid (clampZ s 1 64 = S) := ⟨_, rfl⟩
  obtain ⟨W, hW⟩ : ∃ W, Hid (clampZ t 1 16 = W) := ⟨_, rfl⟩
  go_wp2_with fail
  refine wp_region_noPanic ?_
  refine wp_region_held_drew (S := (fun w' => w'.cell? ⟨w.heap.size, 0, none⟩ = some (.int .i64 s) ∧ w'.cell? ⟨w.heap.size, 1, none⟩ = some (.int .i64 t))) (by kernel_rfl) ?_ (fun hHeld => ?_)
  · exact ⟨q0, q1⟩
  refine hand_take (i := 0) (d := some 27) (v := ?_) rfl (by kernel_rfl) (by kernel_rfl) (by kernel_rfl) (fun _ _ _ h => h) ?_ hHeld ?_
  rotate_left
  · intro o ho
    simp at ho
    subst ho
    intro wz hSw
    try dsimp only at hSw
    go_simp
    try with_reducible rfl
  try simp only [Act.put, List.setIfInBounds_toArray, List.set_cons_zero, List.set_cons_succ]
  refine hand_take (i := 1) (d := some 28) (v := ?_) rfl (by kernel_rfl) (by kernel_rfl) (by kernel_rfl) (fun _ _ _ h => h) ?_ hHeld ?_
  rotate_left
  · intro o ho
    simp at ho
    subst ho
    intro wz hSw
    try dsimp only at hSw
    go_simp
    try with_reducible rfl
  try simp only [Act.put, List.setIfInBounds_toArray, List.set_cons_zero, List.set_cons_succ]
  refine hand_take (i := 2) (d := some 29) (v := ?_) rfl (by kernel_rfl) (by kernel_rfl) (by kernel_rfl) (fun _ _ _ h => h) ?_ hHeld ?_
  rotate_left
  · intro o ho
    simp at ho
    subst ho
    intro wz hSw
    try dsimp only at hSw
    go_simp
    try with_reducible rfl
  try simp only [Act.put, List.setIfInBounds_toArray, List.set_cons_zero, List.set_cons_succ]
  refine hand_take (i := 3) (d := some 30) (v := ?_) rfl (by kernel_rfl) (by kernel_rfl) (by kernel_rfl) (fun _ _ _ h => h) ?_ hHeld ?_
  rotate_left
  · intro o ho
    simp at ho
    subst ho
    intro wz hSw
    try dsimp only at hSw
    go_simp
    try with_reducible rfl
  try simp only [Act.put, List.setIfInBounds_toArray, List.set_cons_zero, List.set_cons_succ]
  refine hand_take (i := 5) (d := some 32) (v := ?_) rfl (by kernel_rfl) (by kernel_rfl) (by kernel_rfl) (fun _ _ _ h => h) ?_ hHeld ?_
  rotate_left
  · intro o ho
    simp at ho
    subst ho
    intro wz hSw
    try dsimp only at hSw
    go_simp
    try with_reducible rfl
  try simp only [Act.put, List.setIfInBounds_toArray, List.set_cons_zero, List.set_cons_succ]
  refine hand_take (i := 6) (d := some 33) (v := ?_) rfl (by kernel_rfl) (by kernel_rfl) (by kernel_rfl) (fun _ _ _ h => h) ?_ hHeld ?_
  rotate_left
  · intro o ho
    simp at ho
    subst ho
    intro wz hSw
    try dsimp only at hSw
    go_simp
    try with_reducible rfl
  try simp only [Act.put, List.setIfInBounds_toArray, List.set_cons_zero, List.set_cons_succ]
  refine hand_take (i := 7) (d := some 34) (v := ?_) rfl (by kernel_rfl) (by kernel_rfl) (by kernel_rfl) (fun _ _ _ h => h) ?_ hHeld ?_
  rotate_left
  · intro o ho
    simp at ho
    subst ho
    intro wz hSw
    try dsimp only at hSw
    go_simp
    try with_reducible rfl
  try simp only [Act.put, List.setIfInBounds_toArray, List.set_cons_zero, List.set_cons_succ]
  refine hand_take (i := 8) (d := some 35) (v := ?_) rfl (by kernel_rfl) (by kernel_rfl) (by kernel_rfl) (fun _ _ _ h => h) ?_ hHeld ?_
  rotate_left
  · intro o ho
    simp at ho
    subst ho
    intro wz hSw
    try dsimp only at hSw
    go_simp
    try with_reducible rfl
  try simp only [Act.put, List.setIfInBounds_toArray, List.set_cons_zero, List.set_cons_succ]
  refine hand_call (i := 4) rfl (by kernel_rfl) ?_
  intro o ho
  simp at ho
  subst ho
  intro K hK
  go_simp
  go_at_call 12
  refine (cNew_c s t w2.drew).mono ?_
  rw [hS.out, hW.out]
  rintro e w3 ⟨c, F, rfl, hn, hb3, hF⟩
  have hB3 : Below w2.heap.size w2 w3 := ((Below.refl _ _).drew).trans hb3
  have XX3 := (unhide XX).below hB3
  have hn' := hide hn
  have hF' : Hid (∀ b, F b → w2.heap.size ≤ b) := hF
  replace hB3 := hide hB3
  clear hn hF q0 q1 hb3
  refine hK.out _ _ ?_ (fun hHeld => ?_)
  · exact ⟨XX3.c0, XX3.c1⟩
  clear hK K
  try simp only [Act.put, List.setIfInBounds_toArray, List.set_cons_zero, List.set_cons_succ]
  refine hand_call (i := 9) rfl (by kernel_rfl) ?_
  intro o ho
  simp at ho
  subst ho
  intro K hK
  go_simp
  go_at_call 13
  refine (rcNew_c s t w3).mono ?_
  rw [hS.out, hW.out]
  rintro e w4 ⟨m, p, Fr, G, rfl, hr, hb4, hG⟩
  have XX4 := XX3.below hb4
  have hE : Hid (DuoC w w4 c m F G S W 0 0 ⟨[], fun _ => bun0⟩) := by
    have s3 := (unhide hB3).size
    have s2 := (unhide hB2).size
    refine ⟨(unhide hn').below hb4, ⟨(unhide hn').inv, p, Fr, [], hr, ⟨fun _ => rfl, Nat.le_refl _⟩⟩, fun b hb => ?_, fun b hb => ?_, fun b hb e => ?_, ((unhide hB2).trans ((unhide hB3).mono s2)).trans (hb4.mono (by omega))⟩
    · have := unhide hF' b hb; omega
    · have := hG b hb; omega
    · have h1 := (unhide hn').lt b hb; have h2 := hG b e; omega
  clear hn' hF' hB3 hr hb4 hG hB2 XX
  refine hK.out _ _ ?_ (fun hHeld => ?_)
  · exact ⟨XX4.c0, XX4.c1⟩
  clear hK K
  try simp only [Act.put, List.setIfInBounds_toArray, List.set_cons_zero, List.set_cons_succ]
  refine hand_take (i := 10) (d := some 7) (v := ?_) rfl (by kernel_rfl) (by kernel_rfl) (by kernel_rfl) (fun _ _ _ h => h) ?_ hHeld ?_
  rotate_left
  · intro o ho
    simp at ho
    subst ho
    intro wz hSw
    try dsimp only at hSw
    go_simp
    try with_reducible rfl
  try simp only [Act.put, List.setIfInBounds_toArray, List.set_cons_zero, List.set_cons_succ]
  refine hand_take (i := 11) (d := some 8) (v := ?_) rfl (by kernel_rfl) (by kernel_rfl) (by kernel_rfl) (fun _ _ _ h => h) ?_ hHeld ?_
  rotate_left
  · intro o ho
    simp at ho
    subst ho
    intro wz hSw
    try dsimp only at hSw
    go_simp
    try with_reducible rfl
  try simp only [Act.put, List.setIfInBounds_toArray, List.set_cons_zero, List.set_cons_succ]
  refine wpAnyH_done (by kernel_rfl) (NoPanic.normal ?_) _
  clear hHeld
  clear XX3 XX4
  go_wp2_with fail
  go_loopw [41] (fun i wr => ∃ (j : Nat) (F G : Nat → Prop) (C : Ca), j ≤ A.length ∧ i = .int .i64 j ∧ DuoC w wr c m F G S W (j * 1048576) j C) (fun i _ => A.length - (intOf i).toNat)
  case atStart => exact ⟨0, F, G, _, Nat.zero_le _, rfl, by simpa using unhide hE⟩
  case round =>
    obtain ⟨j, F1, G1, C, hj, rfl, hE2⟩ := hrel
    clear hE
    by_cases hlt : j < A.length
    · have hlt' : (j : Int) < A.length := by omega
      obtain ⟨b, o, rfl, hbB, hbl, ⟨a1, a2⟩, r0, r1, r2, r3, r4, r5, r6, r7, r8, r9, r10, r11, r12⟩ := acts_row ((unhide hA).below hE2.bel) hlt
      obtain ⟨hok, hle⟩ := hf.out.2 _ (List.getElem_mem hlt)
      generalize A[j] = a at r0 r1 r2 r3 r4 r5 r6 r7 r8 r9 r10 r11 r12 a1 a2 hok hle
      replace hok := hide hok
      have hcl := hE2.n.lt
      have hI := hide hE2.n.inv
      replace hE2 := hide hE2
      have hgl := (unhide hE2).r.lt
      have hcn : ¬ F1 wr.heap.size := fun e => by have := hcl _ e; omega
      have hgn : ¬ G1 wr.heap.size := fun e => by have := hgl _ e; omega
      have hEa := hide ((unhide hE2).quiet (belA wr (acO a)))
      have hac := hide (ac_new wr a)
      clear hE2 hcl hgl
      by_cases k1 : a.k = 1
      · have kk1 : decide (a.k = 1) = true ∧ (a.k == 1) = true := by simp [k1]
        obtain ⟨kk1, kk2⟩ := kk1
        clear k1
        obtain ⟨⟨r, ok⟩, hg⟩ : ∃ z, Hid (goAb S W C a.bl a.t a.pn = z) := ⟨_, rfl⟩
        obtain ⟨C', hC⟩ : ∃ C', Hid (nxAb S W C a.bl a.t a.pn = C') := ⟨_, rfl⟩
        obtain ⟨z, hz⟩ : ∃ z, Hid (C'.T x = z) := ⟨_, rfl⟩
        go_wp2_with fail
        go_at_call 14
        refine (cAbsorb_c c F1 S W (j * 1048576) 1048576 a.bl a.pn C a.t _ (unhide hEa).n a1 (unhide hok) hle (by omega) r ok C' hg hC).mono ?_
        rintro e w5 ⟨rfl, F5, hn5, st5⟩
        have hH5 := (unhide hEa).half hn5 st5
        obtain ⟨k1, k2, k3⟩ := st5.keep (b := wr.heap.size) hcn (unhide hac).lt
        replace hac := (unhide hac).carry k1
        obtain ⟨hal, y0, y1, y2, y3, y4, y5, y6, y7, y8, y9, y10, y11, y12⟩ := id hac
        replace hac := hide hac
        have hG5 : Hid (∀ b, G1 b → b < w5.heap.size) := hH5.r.lt
        replace hH5 := hide hH5
        clear hn5 st5 hEa k1 k3 r0 r1 r2 r3 r4 r5 r6 r7 r8 r9 r10 r11 r12
        go_wp2_with fail
        go_at_call 15
        refine (rcAbsorb_c m G1 S W (j * 1048576) 1048576 a.bl a.pn j C a.t _ ((unhide hH5).quiet (belA _ _)).r a1 (unhide hok) hle (by omega) (by omega) r ok C' hg hC).mono ?_
        rintro e w6 ⟨rfl, G6, hn6, st6⟩
        obtain ⟨k1, -, k3⟩ := st6.keep (b := w5.heap.size) (fun e => by have := unhide hG5 _ e; omega) (by simp)
        have u : LnAt w6 w5.heap.size r := ⟨k3, keep_cell k1 (by simp [go_sem]), keep_cell k1 (by simp [go_sem]), keep_cell k1 (by simp [go_sem]), keep_cell k1 (by simp [go_sem]), keep_cell k1 (by simp [go_sem]), keep_frozen k1 (by simp [go_sem]), keep_frozen k1 (by simp [go_sem]), keep_frozen k1 (by simp [go_sem]), keep_frozen k1 (by simp [go_sem]), keep_frozen k1 (by simp [go_sem])⟩
        have hE6 := hide ((((unhide hH5).quiet (belA w5 (.cells #[.int .i64 r.b, .int .i64 r.t.n, .bool r.t.o, .bool r.t.h, .int .i64 r.t.d] 37))).both hn6 st6).mono (N' := (j + 1 : Nat) * 1048576) (K' := j + 1) (by omega) (Nat.le_refl _))
        have hE7 := hide ((unhide hE6).quiet (belA w6 (.cells #[.int .i64 r.b, .int .i64 r.t.n, .bool r.t.o, .bool r.t.h, .int .i64 r.t.d] 37)))
        obtain ⟨u5, u0, u1, u2, u3, u4, -⟩ := u
        clear hn6 st6 hH5 hE6 k1 k3 hal y0 y1 y2 y3 y4 y5 y6 y7 y8 y9 y10 y11 y12 hac
        go_wp2_with fail
        go_at_call 20
        refine (cGet_c c F5 S W _ x C' _ (unhide hE7).n hx z hz).mono ?_
        rintro e wa ⟨rfl, hba⟩
        have hEa := hide ((unhide hE7).quiet hba)
        clear hba hE7
        go_wp2_with fail
        go_at_call 21
        obtain ⟨pp, Frr, MM, hat, hrel⟩ := (unhide hEa).r.at'
        refine (rcGet_c m pp Frr G6 S W x C'.A MM _ hat (by have := hrel.len; omega) z ((hrel.t x).trans hz.out)).mono ?_
        rintro e wb ⟨rfl, hbb⟩
        have hEb := hide ((unhide hEa).quiet hbb)
        clear hbb hEa hat hrel
        go_wp2_with fail
        go_at_call 23
        refine (cAll_c c F5 S W _ C' _ (unhide hEb).n).mono ?_
        rintro e wc ⟨v1, g1, rfl, hg1, hO1, hbc⟩
        have hEc := hide ((unhide hEb).quiet hbc)
        have hO1' := hide hO1
        obtain ⟨ao1, cap1, rfl, -⟩ := hO1
        obtain ⟨nn, hnn⟩ : ∃ nn, Hid ((allC C').length = nn) := ⟨_, rfl⟩
        rw [hnn.out] at hO1' ⊢
        clear hbc hEb hg1
        go_wp2_with fail
        go_at_call 24
        refine (rcAll_c m G6 S W _ _ C' _ (unhide hEc).r (by omega)).mono ?_
        rintro e wd ⟨v2, g2, rfl, hg2, hO2, hbd⟩
        have hEd := hide ((unhide hEc).quiet hbd)
        have hO1d := hide ((unhide hO1').below hbd)
        have hO2' := hide hO2
        obtain ⟨ao2, cap2, rfl, -⟩ := hO2
        rw [hnn.out] at hO2' ⊢
        clear hbd hEc hg2 hO1'
        go_wp2_with fail
        go_at_call 22
        refine (sameL_c _ _ _ _ (allC C') _ (unhide hO1d).view (unhide hO2').view).mono ?_
        rintro e we ⟨rfl, nq, rfl⟩
        have hEe := hide ((unhide hEd).quiet (belD _ nq))
        clear hEd hO1d hO2'
        go_wp2_with fail
        go_roundw
        case rel => exact ⟨j + 1, F5, G6, C', by omega, by simp, unhide hEe⟩
        case measure => simp [intOf]; omega
      · have kk1 : decide (a.k = 1) = false ∧ (a.k == 1) = false := by simp [k1]
        obtain ⟨kk1, kk2⟩ := kk1
        clear k1
        by_cases k2 : a.k = 2
        · have kk3 : decide (a.k = 2) = true ∧ (a.k == 2) = true := by simp [k2]
          obtain ⟨kk3, kk4⟩ := kk3
          clear k2
          obtain ⟨g, hg⟩ : ∃ g, Hid (givenB (C.T a.bl) a.ct a.o a.d = g) := ⟨_, rfl⟩
          obtain ⟨C', hC⟩ : ∃ C', Hid (nxTk C a.bl a.ct a.o = C') := ⟨_, rfl⟩
          obtain ⟨z, hz⟩ : ∃ z, Hid (C'.T x = z) := ⟨_, rfl⟩
          obtain ⟨hal, y0, y1, y2, y3, y4, y5, y6, y7, y8, y9, y10, y11, y12⟩ := id (unhide hac)
          go_wp2_with fail
          refine wp_region_noPanic ?_
          refine wp_region_held_drew (S := (fun w' => w'.cell? ⟨wr.heap.size, 1, none⟩ = some (.int .i64 a.bl) ∧ w'.cell? ⟨wr.heap.size, 2, none⟩ = some (.int .i64 a.ct) ∧ w'.cell? ⟨wr.heap.size, 4, none⟩ = some (.bool a.o) ∧ w'.cell? ⟨wr.heap.size, 5, none⟩ = some (.bool a.d))) (by kernel_rfl) ?_ (fun hHeld => ?_)
          · exact ⟨y1, y2, y4, y5⟩
          have hEd := hide ((unhide hEa).quiet (Below.refl _ _).drew)
          have hacd : Hid (AcAt (wr.alloc (acO a)).drew wr.heap.size a) := (unhide hac).carry rfl
          obtain ⟨wd, hwd⟩ : ∃ wd, (wr.alloc (acO a)).drew = wd := ⟨_, rfl⟩
          rw [hwd] at hEd hacd hHeld ⊢
          clear hwd hEa hac hal y0 y1 y2 y3 y4 y5 y6 y7 y8 y9 y10 y11 y12 r0 r1 r2 r3 r4 r5 r6 r7 r8 r9 r10 r11 r12
          refine hand_take (i := 0) (d := some 81) (v := ?_) rfl (by kernel_rfl) (by kernel_rfl) (by kernel_rfl) (fun _ _ _ h => h) ?_ hHeld ?_
          rotate_left
          · intro o ho
            simp at ho
            subst ho
            intro wz hSw
            try dsimp only at hSw
            go_simp
            try with_reducible rfl
          try simp only [Act.put, List.setIfInBounds_toArray, List.set_cons_zero, List.set_cons_succ]
          refine hand_take (i := 1) (d := some 82) (v := ?_) rfl (by kernel_rfl) (by kernel_rfl) (by kernel_rfl) (fun _ _ _ h => h) ?_ hHeld ?_
          rotate_left
          · intro o ho
            simp at ho
            subst ho
            intro wz hSw
            try dsimp only at hSw
            go_simp
            try with_reducible rfl
          try simp only [Act.put, List.setIfInBounds_toArray, List.set_cons_zero, List.set_cons_succ]
          refine hand_take (i := 2) (d := some 83) (v := ?_) rfl (by kernel_rfl) (by kernel_rfl) (by kernel_rfl) (fun _ _ _ h => h) ?_ hHeld ?_
          rotate_left
          · intro o ho
            simp at ho
            subst ho
            intro wz hSw
            try dsimp only at hSw
            go_simp
            try with_reducible rfl
          try simp only [Act.put, List.setIfInBounds_toArray, List.set_cons_zero, List.set_cons_succ]
          refine hand_take (i := 3) (d := some 84) (v := ?_) rfl (by kernel_rfl) (by kernel_rfl) (by kernel_rfl) (fun _ _ _ h => h) ?_ hHeld ?_
          rotate_left
          · intro o ho
            simp at ho
            subst ho
            intro wz hSw
            try dsimp only at hSw
            go_simp
            try with_reducible rfl
          try simp only [Act.put, List.setIfInBounds_toArray, List.set_cons_zero, List.set_cons_succ]
          refine hand_take (i := 4) (d := some 85) (v := ?_) rfl (by kernel_rfl) (by kernel_rfl) (by kernel_rfl) (fun _ _ _ h => h) ?_ hHeld ?_
          rotate_left
          · intro o ho
            simp at ho
            subst ho
            intro wz hSw
            try dsimp only at hSw
            go_simp
            try with_reducible rfl
          try simp only [Act.put, List.setIfInBounds_toArray, List.set_cons_zero, List.set_cons_succ]
          refine hand_take (i := 5) (d := some 86) (v := ?_) rfl (by kernel_rfl) (by kernel_rfl) (by kernel_rfl) (fun _ _ _ h => h) ?_ hHeld ?_
          rotate_left
          · intro o ho
            simp at ho
            subst ho
            intro wz hSw
            try dsimp only at hSw
            go_simp
            try with_reducible rfl
          try simp only [Act.put, List.setIfInBounds_toArray, List.set_cons_zero, List.set_cons_succ]
          refine hand_take (i := 6) (d := some 87) (v := ?_) rfl (by kernel_rfl) (by kernel_rfl) (by kernel_rfl) (fun _ _ _ h => h) ?_ hHeld ?_
          rotate_left
          · intro o ho
            simp at ho
            subst ho
            intro wz hSw
            try dsimp only at hSw
            go_simp
            try with_reducible rfl
          try simp only [Act.put, List.setIfInBounds_toArray, List.set_cons_zero, List.set_cons_succ]
          refine hand_take (i := 7) (d := some 88) (v := ?_) rfl (by kernel_rfl) (by kernel_rfl) (by kernel_rfl) (fun _ _ _ h => h) ?_ hHeld ?_
          rotate_left
          · intro o ho
            simp at ho
            subst ho
            intro wz hSw
            try dsimp only at hSw
            go_simp
            try with_reducible rfl
          try simp only [Act.put, List.setIfInBounds_toArray, List.set_cons_zero, List.set_cons_succ]
          refine hand_take (i := 8) (d := some 89) (v := ?_) rfl (by kernel_rfl) (by kernel_rfl) (by kernel_rfl) (fun _ _ _ h => h) ?_ hHeld ?_
          rotate_left
          · intro o ho
            simp at ho
            subst ho
            intro wz hSw
            try dsimp only at hSw
            go_simp
            try with_reducible rfl
          try simp only [Act.put, List.setIfInBounds_toArray, List.set_cons_zero, List.set_cons_succ]
          refine hand_take (i := 10) (d := some 91) (v := ?_) rfl (by kernel_rfl) (by kernel_rfl) (by kernel_rfl) (fun _ _ _ h => h) ?_ hHeld ?_
          rotate_left
          · intro o ho
            simp at ho
            subst ho
            intro wz hSw
            try dsimp only at hSw
            go_simp
            try with_reducible rfl
          try simp only [Act.put, List.setIfInBounds_toArray, List.set_cons_zero, List.set_cons_succ]
          refine hand_take (i := 11) (d := some 92) (v := ?_) rfl (by kernel_rfl) (by kernel_rfl) (by kernel_rfl) (fun _ _ _ h => h) ?_ hHeld ?_
          rotate_left
          · intro o ho
            simp at ho
            subst ho
            intro wz hSw
            try dsimp only at hSw
            go_simp
            try with_reducible rfl
          try simp only [Act.put, List.setIfInBounds_toArray, List.set_cons_zero, List.set_cons_succ]
          refine hand_take (i := 12) (d := some 93) (v := ?_) rfl (by kernel_rfl) (by kernel_rfl) (by kernel_rfl) (fun _ _ _ h => h) ?_ hHeld ?_
          rotate_left
          · intro o ho
            simp at ho
            subst ho
            intro wz hSw
            try dsimp only at hSw
            go_simp
            try with_reducible rfl
          try simp only [Act.put, List.setIfInBounds_toArray, List.set_cons_zero, List.set_cons_succ]
          refine hand_take (i := 13) (d := some 94) (v := ?_) rfl (by kernel_rfl) (by kernel_rfl) (by kernel_rfl) (fun _ _ _ h => h) ?_ hHeld ?_
          rotate_left
          · intro o ho
            simp at ho
            subst ho
            intro wz hSw
            try dsimp only at hSw
            go_simp
            try with_reducible rfl
          try simp only [Act.put, List.setIfInBounds_toArray, List.set_cons_zero, List.set_cons_succ]
          refine hand_take (i := 14) (d := some 95) (v := ?_) rfl (by kernel_rfl) (by kernel_rfl) (by kernel_rfl) (fun _ _ _ h => h) ?_ hHeld ?_
          rotate_left
          · intro o ho
            simp at ho
            subst ho
            intro wz hSw
            try dsimp only at hSw
            go_simp
            try with_reducible rfl
          try simp only [Act.put, List.setIfInBounds_toArray, List.set_cons_zero, List.set_cons_succ]
          refine hand_take (i := 15) (d := some 96) (v := ?_) rfl (by kernel_rfl) (by kernel_rfl) (by kernel_rfl) (fun _ _ _ h => h) ?_ hHeld ?_
          rotate_left
          · intro o ho
            simp at ho
            subst ho
            intro wz hSw
            try dsimp only at hSw
            go_simp
            try with_reducible rfl
          try simp only [Act.put, List.setIfInBounds_toArray, List.set_cons_zero, List.set_cons_succ]
          refine hand_take (i := 16) (d := some 97) (v := ?_) rfl (by kernel_rfl) (by kernel_rfl) (by kernel_rfl) (fun _ _ _ h => h) ?_ hHeld ?_
          rotate_left
          · intro o ho
            simp at ho
            subst ho
            intro wz hSw
            try dsimp only at hSw
            go_simp
            try with_reducible rfl
          try simp only [Act.put, List.setIfInBounds_toArray, List.set_cons_zero, List.set_cons_succ]
          refine hand_take (i := 17) (d := some 98) (v := ?_) rfl (by kernel_rfl) (by kernel_rfl) (by kernel_rfl) (fun _ _ _ h => h) ?_ hHeld ?_
          rotate_left
          · intro o ho
            simp at ho
            subst ho
            intro wz hSw
            try dsimp only at hSw
            go_simp
            try with_reducible rfl
          try simp only [Act.put, List.setIfInBounds_toArray, List.set_cons_zero, List.set_cons_succ]
          refine hand_take (i := 18) (d := some 99) (v := ?_) rfl (by kernel_rfl) (by kernel_rfl) (by kernel_rfl) (fun _ _ _ h => h) ?_ hHeld ?_
          rotate_left
          · intro o ho
            simp at ho
            subst ho
            intro wz hSw
            try dsimp only at hSw
            go_simp
            try with_reducible rfl
          try simp only [Act.put, List.setIfInBounds_toArray, List.set_cons_zero, List.set_cons_succ]
          refine hand_call (i := 9) rfl (by kernel_rfl) ?_
          intro o ho
          simp at ho
          subst ho
          intro K hK
          go_simp
          go_at_call 16
          refine (cTake_c c F1 S W (j * 1048576) a.bl a.ct a.o a.d C wd (unhide hEd).n a1 (by omega) g C' hg hC).mono ?_
          rintro e w5 ⟨rfl, F5, hn5, st5⟩
          have hH5 := hide ((unhide hEd).half hn5 st5)
          have hac5 := (unhide hacd).fr st5.fr hcn
          obtain ⟨hal, y0, y1, y2, y3, y4, y5, y6, y7, y8, y9, y10, y11, y12⟩ := id hac5
          clear hn5 st5 hEd hacd
          refine hK.out _ _ ?_ (fun hHeld => ?_)
          · exact ⟨y1, y2, y4, y5⟩
          clear hK K
          try simp only [Act.put, List.setIfInBounds_toArray, List.set_cons_zero, List.set_cons_succ]
          clear y0 y1 y2 y3 y4 y5 y6 y7 y8 y9 y10 y11 y12
          refine hand_call (i := 19) rfl (by kernel_rfl) ?_
          intro o ho
          simp at ho
          subst ho
          intro K hK
          go_simp
          go_at_call 17
          refine (rcTake_c m G1 S W (j * 1048576) a.bl a.ct j a.o a.d C w5 (unhide hH5).r (by omega) (by omega) g C' hg hC).mono ?_
          rintro e w6 ⟨rfl, G6, hn6, st6⟩
          have hE7 := hide (((unhide hH5).both hn6 st6).mono (N' := (j + 1 : Nat) * 1048576) (K' := j + 1) (by omega) (Nat.le_refl _))
          obtain ⟨hal', y0, y1, y2, y3, y4, y5, y6, y7, y8, y9, y10, y11, y12⟩ := hac5.fr st6.fr hgn
          clear hn6 st6 hH5 hac5 hal'
          refine hK.out _ _ ?_ (fun hHeld => ?_)
          · exact ⟨y1, y2, y4, y5⟩
          clear hK K
          try simp only [Act.put, List.setIfInBounds_toArray, List.set_cons_zero, List.set_cons_succ]
          clear y0 y1 y2 y3 y4 y5 y6 y7 y8 y9 y10 y11 y12 hal
          refine hand_take (i := 20) (d := some 101) (v := .bool false) rfl (by kernel_rfl) (by kernel_rfl) (by kernel_rfl) (fun _ _ _ h => h) ?_ hHeld ?_
          · intro o ho
            simp at ho
            subst ho
            intro wz hSw
            try dsimp only at hSw
            go_simp
          try simp only [Act.put, List.setIfInBounds_toArray, List.set_cons_zero, List.set_cons_succ]
          refine wpAnyH_done (by kernel_rfl) (NoPanic.normal ?_) _
          clear hHeld
          go_wp2_with fail
          go_at_call 20
          refine (cGet_c c F5 S W _ x C' _ (unhide hE7).n hx z hz).mono ?_
          rintro e wa ⟨rfl, hba⟩
          have hEa := hide ((unhide hE7).quiet hba)
          clear hba hE7
          go_wp2_with fail
          go_at_call 21
          obtain ⟨pp, Frr, MM, hat, hrel⟩ := (unhide hEa).r.at'
          refine (rcGet_c m pp Frr G6 S W x C'.A MM _ hat (by have := hrel.len; omega) z ((hrel.t x).trans hz.out)).mono ?_
          rintro e wb ⟨rfl, hbb⟩
          have hEb := hide ((unhide hEa).quiet hbb)
          clear hbb hEa hat hrel
          go_wp2_with fail
          go_at_call 23
          refine (cAll_c c F5 S W _ C' _ (unhide hEb).n).mono ?_
          rintro e wc ⟨v1, g1, rfl, hg1, hO1, hbc⟩
          have hEc := hide ((unhide hEb).quiet hbc)
          have hO1' := hide hO1
          obtain ⟨ao1, cap1, rfl, -⟩ := hO1
          obtain ⟨nn, hnn⟩ : ∃ nn, Hid ((allC C').length = nn) := ⟨_, rfl⟩
          rw [hnn.out] at hO1' ⊢
          clear hbc hEb hg1
          go_wp2_with fail
          go_at_call 24
          refine (rcAll_c m G6 S W _ _ C' _ (unhide hEc).r (by omega)).mono ?_
          rintro e wd ⟨v2, g2, rfl, hg2, hO2, hbd⟩
          have hEd := hide ((unhide hEc).quiet hbd)
          have hO1d := hide ((unhide hO1').below hbd)
          have hO2' := hide hO2
          obtain ⟨ao2, cap2, rfl, -⟩ := hO2
          rw [hnn.out] at hO2' ⊢
          clear hbd hEc hg2 hO1'
          go_wp2_with fail
          go_at_call 22
          refine (sameL_c _ _ _ _ (allC C') _ (unhide hO1d).view (unhide hO2').view).mono ?_
          rintro e we ⟨rfl, nq, rfl⟩
          have hEe := hide ((unhide hEd).quiet (belD _ nq))
          clear hEd hO1d hO2'
          go_wp2_with fail
          go_roundw
          case rel => exact ⟨j + 1, F5, G6, C', by omega, by simp, unhide hEe⟩
          case measure => simp [intOf]; omega
        · have kk3 : decide (a.k = 2) = false ∧ (a.k == 2) = false := by simp [k2]
          obtain ⟨kk3, kk4⟩ := kk3
          clear k2
          by_cases k3 : a.k = 3
          · have kk5 : decide (a.k = 3) = true ∧ (a.k == 3) = true := by simp [k3]
            obtain ⟨kk5, kk6⟩ := kk5
            clear k3
            obtain ⟨qq, hq⟩ : ∃ qq, Hid (okDo C a.ob a.ow a.ct = qq) := ⟨_, rfl⟩
            obtain ⟨rr, hr⟩ : ∃ rr, Hid (valDo C a.ob a.ow a.ov a.ct = rr) := ⟨_, rfl⟩
            obtain ⟨C', hC⟩ : ∃ C', Hid (nxDo C a.ob a.ow a.ov a.ct = C') := ⟨_, rfl⟩
            obtain ⟨z, hz⟩ : ∃ z, Hid (C'.T x = z) := ⟨_, rfl⟩
            go_wp2_with fail
            go_at_call 18
            refine (cDo_c c F1 S W (j * 1048576) a.ob a.ow a.ov a.ct C _ (unhide hEa).n a2 qq rr C' hq hr hC).mono ?_
            rintro e w5 ⟨rfl, F5, hn5, st5⟩
            have hH5 := hide ((unhide hEa).half hn5 st5)
            have hac5 := (unhide hac).fr st5.fr hcn
            obtain ⟨hal, y0, y1, y2, y3, y4, y5, y6, y7, y8, y9, y10, y11, y12⟩ := hac5
            clear hn5 st5 hEa hac r0 r1 r2 r3 r4 r5 r6 r7 r8 r9 r10 r11 r12
            go_wp2_with fail
            go_at_call 19
            refine (rcDo_c m G1 S W (j * 1048576) a.ob j a.ow a.ov a.ct C _ (unhide hH5).r (by omega) qq rr C' hq hr hC).mono ?_
            rintro e w6 ⟨rfl, G6, hn6, st6⟩
            have hE7 := hide (((unhide hH5).both hn6 st6).mono (N' := (j + 1 : Nat) * 1048576) (K' := j + 1) (by omega) (Nat.le_refl _))
            clear hn6 st6 hH5 hal y0 y1 y2 y3 y4 y5 y6 y7 y8 y9 y10 y11 y12
            go_wp2_with fail
            go_at_call 20
            refine (cGet_c c F5 S W _ x C' _ (unhide hE7).n hx z hz).mono ?_
            rintro e wa ⟨rfl, hba⟩
            have hEa := hide ((unhide hE7).quiet hba)
            clear hba hE7
            go_wp2_with fail
            go_at_call 21
            obtain ⟨pp, Frr, MM, hat, hrel⟩ := (unhide hEa).r.at'
            refine (rcGet_c m pp Frr G6 S W x C'.A MM _ hat (by have := hrel.len; omega) z ((hrel.t x).trans hz.out)).mono ?_
            rintro e wb ⟨rfl, hbb⟩
            have hEb := hide ((unhide hEa).quiet hbb)
            clear hbb hEa hat hrel
            go_wp2_with fail
            go_at_call 23
            refine (cAll_c c F5 S W _ C' _ (unhide hEb).n).mono ?_
            rintro e wc ⟨v1, g1, rfl, hg1, hO1, hbc⟩
            have hEc := hide ((unhide hEb).quiet hbc)
            have hO1' := hide hO1
            obtain ⟨ao1, cap1, rfl, -⟩ := hO1
            obtain ⟨nn, hnn⟩ : ∃ nn, Hid ((allC C').length = nn) := ⟨_, rfl⟩
            rw [hnn.out] at hO1' ⊢
            clear hbc hEb hg1
            go_wp2_with fail
            go_at_call 24
            refine (rcAll_c m G6 S W _ _ C' _ (unhide hEc).r (by omega)).mono ?_
            rintro e wd ⟨v2, g2, rfl, hg2, hO2, hbd⟩
            have hEd := hide ((unhide hEc).quiet hbd)
            have hO1d := hide ((unhide hO1').below hbd)
            have hO2' := hide hO2
            obtain ⟨ao2, cap2, rfl, -⟩ := hO2
            rw [hnn.out] at hO2' ⊢
            clear hbd hEc hg2 hO1'
            go_wp2_with fail
            go_at_call 22
            refine (sameL_c _ _ _ _ (allC C') _ (unhide hO1d).view (unhide hO2').view).mono ?_
            rintro e we ⟨rfl, nq, rfl⟩
            have hEe := hide ((unhide hEd).quiet (belD _ nq))
            clear hEd hO1d hO2'
            go_wp2_with fail
            go_roundw
            case rel => exact ⟨j + 1, F5, G6, C', by omega, by simp, unhide hEe⟩
            case measure => simp [intOf]; omega
          · have kk5 : decide (a.k = 3) = false ∧ (a.k == 3) = false := by simp [k3]
            obtain ⟨kk5, kk6⟩ := kk5
            clear k3
            obtain ⟨z, hz⟩ : ∃ z, Hid (C.T x = z) := ⟨_, rfl⟩
            have hE7 := hide ((unhide hEa).mono (N' := (j + 1 : Nat) * 1048576) (K' := j + 1) (by omega) (by omega))
            clear hEa hac
            go_wp2_with fail
            go_at_call 20
            refine (cGet_c c F1 S W _ x C _ (unhide hE7).n hx z hz).mono ?_
            rintro e wa ⟨rfl, hba⟩
            have hEa := hide ((unhide hE7).quiet hba)
            clear hba hE7
            go_wp2_with fail
            go_at_call 21
            obtain ⟨pp, Frr, MM, hat, hrel⟩ := (unhide hEa).r.at'
            refine (rcGet_c m pp Frr G1 S W x C.A MM _ hat (by have := hrel.len; omega) z ((hrel.t x).trans hz.out)).mono ?_
            rintro e wb ⟨rfl, hbb⟩
            have hEb := hide ((unhide hEa).quiet hbb)
            clear hbb hEa hat hrel
            go_wp2_with fail
            go_at_call 23
            refine (cAll_c c F1 S W _ C _ (unhide hEb).n).mono ?_
            rintro e wc ⟨v1, g1, rfl, hg1, hO1, hbc⟩
            have hEc := hide ((unhide hEb).quiet hbc)
            have hO1' := hide hO1
            obtain ⟨ao1, cap1, rfl, -⟩ := hO1
            obtain ⟨nn, hnn⟩ : ∃ nn, Hid ((allC C).length = nn) := ⟨_, rfl⟩
            rw [hnn.out] at hO1' ⊢
            clear hbc hEb hg1
            go_wp2_with fail
            go_at_call 24
            refine (rcAll_c m G1 S W _ _ C _ (unhide hEc).r (by omega)).mono ?_
            rintro e wd ⟨v2, g2, rfl, hg2, hO2, hbd⟩
            have hEd := hide ((unhide hEc).quiet hbd)
            have hO1d := hide ((unhide hO1').below hbd)
            have hO2' := hide hO2
            obtain ⟨ao2, cap2, rfl, -⟩ := hO2
            rw [hnn.out] at hO2' ⊢
            clear hbd hEc hg2 hO1'
            go_wp2_with fail
            go_at_call 22
            refine (sameL_c _ _ _ _ (allC C) _ (unhide hO1d).view (unhide hO2').view).mono ?_
            rintro e we ⟨rfl, nq, rfl⟩
            have hEe := hide ((unhide hEd).quiet (belD _ nq))
            clear hEd hO1d hO2'
            go_wp2_with fail
            go_roundw
            case rel => exact ⟨j + 1, F1, G1, C, by omega, by simp, unhide hEe⟩
            case measure => simp [intOf]; omega
    · obtain rfl : j = A.length := by omega
      have hb := hide hE2.bel
      clear hE2
      go_wp2_with fail
      go_ret
      exact ⟨rfl, unhide hb⟩
end Go.Proofs.Ytooopcadefpncaa
