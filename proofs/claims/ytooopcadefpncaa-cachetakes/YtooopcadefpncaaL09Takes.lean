/- The walk of CacheTakes: it returns true; no old memory turns. -/
import Derived.Test.YtooopcadefpncaaLaw09
import Derived.Test.YtooopcadefpncaaRef02b
namespace Go.Proofs.Ytooopcadefpncaa
open Go.ChangeShapes Go.WideShapes Go.ChangeAt Go.RowKit
set_option linter.unusedSimpArgs false
set_option linter.unusedVariables false
set_option maxRecDepth 10000

attribute [local go_sem, local simp] over_const setCell_drewN alloc_drewN Over.cell Over.frozen lt_s1 lt_s2 lt_s3 le_s0 le_s1 le_s2 le_s3 eq_s0 eq_s1 eq_s2 qe_s0

abbrev oth9 : Bun := ⟨1, false, true, 5⟩
theorem ok_oth9 : okB oth9 := by simp [okB]
theorem tk_v1 : vicA 2 2 [] 1 (-1) = (-1, true) := by decide
theorem tk_v2 : vicA 2 2 [1] 3 (-1) = (-1, true) := by decide
def tkT1 : Int → Bun := updT (fun _ => bun0) 1 oth9
theorem tk_g1 : goAb 2 2 ⟨[], fun _ => bun0⟩ 1 oth9 (-1) = (ln0, false) := by simp [goAb, tk_v1]
theorem tk_n1 : nxAb 2 2 ⟨[], fun _ => bun0⟩ 1 oth9 (-1) = ⟨[1], tkT1⟩ := by simp [nxAb, tk_v1, tkT1]
def tkC2 (b : Bun) : Ca := if b.n < 1 then ⟨[1], tkT1⟩ else ⟨[1, 3], updT tkT1 3 b⟩
theorem tk_g2 (b : Bun) : goAb 2 2 ⟨[1], tkT1⟩ 3 b (-1) = (ln0, false) := by
  by_cases c : b.n < 1
  · simp [goAb, c]
  · simp [goAb, c, tk_v2]
theorem tk_n2 (b : Bun) : nxAb 2 2 ⟨[1], tkT1⟩ 3 b (-1) = tkC2 b := by
  by_cases c : b.n < 1
  · simp [nxAb, c, tkC2]
  · simp [nxAb, c, tkC2, tk_v2]
theorem tk_3 {b : Bun} (h : okB b) : (tkC2 b).T 3 = b := by
  unfold tkC2
  split
  · rename_i c
    rw [ok_zero h (by have := h.1; omega)]
    simp [tkT1, updT]
  · simp [updT]
theorem tk_1 (b : Bun) : (tkC2 b).T 1 = oth9 := by
  unfold tkC2
  split <;> simp [tkT1, updT]
theorem tk_n3 {b : Bun} (h : okB b) (c : Int) (o : Bool) : (nxTk (tkC2 b) 3 c o).T 3 = restB b c o ∧ (nxTk (tkC2 b) 3 c o).T 1 = oth9 ∧ (nxTk (tkC2 b) 3 c o).A.length = (if 0 < (restB b c o).n then 2 else 1) := by
  have hr := restB_ok h c o
  unfold nxTk
  simp only [tk_3 h, updT_same]
  refine ⟨trivial, by rw [updT_other _ (by decide), tk_1], ?_⟩
  have h0 := hr.1.1
  split
  · rename_i e
    rw [if_neg (by omega)]
    unfold tkC2
    split <;> rfl
  · rename_i e
    rw [if_pos (by omega)]
    unfold tkC2
    rw [if_neg (by omega)]
    rfl

theorem box2_new (w : World) (a b : Bool) (T : TypeId) : (w.alloc (.cells #[.bool a, .bool b] T)).cell? ⟨w.heap.size, 0, none⟩ = some (.bool a) ∧ (w.alloc (.cells #[.bool a, .bool b] T)).cell? ⟨w.heap.size, 1, none⟩ = some (.bool b) := ⟨by simp, by simp⟩

/-- What lies beside the cache. -/
structure TkEnv (w wr : World) (b : Bun) (o d : Bool) : Prop where
  bel : Below w.heap.size w wr
  h : BunAt wr w.heap.size b
  lt : w.heap.size + 1 < wr.heap.size
  c0 : wr.cell? ⟨w.heap.size + 1, 0, none⟩ = some (.bool o)
  c1 : wr.cell? ⟨w.heap.size + 1, 1, none⟩ = some (.bool d)
theorem TkEnv.keep {w wr w' : World} {b : Bun} {o d : Bool} (h : TkEnv w wr b o d) (hb : Below w.heap.size w w') (e0 : w'.heap[w.heap.size]? = wr.heap[w.heap.size]?) (e1 : w'.heap[w.heap.size + 1]? = wr.heap[w.heap.size + 1]?) : TkEnv w w' b o d :=
  ⟨hb, h.h.carry e0, block_lt h.lt e1, keep_cell e1 h.c0, keep_cell e1 h.c1⟩
theorem TkEnv.below {w wr w' : World} {b : Bun} {o d : Bool} (h : TkEnv w wr b o d) (hb : Below wr.heap.size wr w') : TkEnv w w' b o d :=
  h.keep (h.bel.trans (hb.mono h.bel.size)) (hb.block _ h.h.lt) (hb.block _ h.lt)
theorem TkEnv.step {w wr wz w' : World} {b : Bun} {o d : Bool} {F F' : Nat → Prop} (h : TkEnv w wr b o d) (hF : ∀ b, F b → w.heap.size + 2 ≤ b) (hz : Below wr.heap.size wr wz) (hs : Step F F' wz w') : TkEnv w w' b o d ∧ ∀ b, F' b → w.heap.size + 2 ≤ b := by
  have h1 := h.below hz
  have l1 := h1.lt
  refine ⟨h1.keep (h1.bel.trans (hs.fr.below (fun i hi => by have := hF i hi; omega) h1.bel.size)) (hs.fr.block _ h1.h.lt (fun e => by have := hF _ e; omega)) (hs.fr.block _ h1.lt (fun e => by have := hF _ e; omega)), fun i hi => ?_⟩
  rcases hs.new i hi with e | e
  · exact hF i e
  · omega

set_option maxHeartbeats 2000000 in
theorem CacheTakes_walk (n : Int) (bo bh : Bool) (bd ct : Int) (o d : Bool) (w : World) : Calls Try.prog 6 #[.agg #[.int .i64 n, .bool bo, .bool bh, .int .i64 bd], .int .i64 ct, .agg #[.bool o, .bool d]] w fun e w' => e = .returned (.bool true) ∧ Below w.heap.size w w' := by
  have b1 : clampZ 2 1 64 = 2 := by decide
  have b2 : clampZ 2 1 16 = 2 := by decide
  obtain ⟨b, hb⟩ : ∃ b : Bun, b = ⟨n, bo, bh, bd⟩ := ⟨_, rfl⟩
  obtain ⟨rfl, rfl, rfl, rfl⟩ : b.n = n ∧ b.o = bo ∧ b.h = bh ∧ b.d = bd := by rw [hb]; exact ⟨rfl, rfl, rfl, rfl⟩
  clear hb
  go_enter Try.func6, Try.ntmps6
  go_wp2_with fail
  have hE0 : TkEnv w ((w.alloc (.cells #[.int .i64 b.n, .bool b.o, .bool b.h, .int .i64 b.d] 31)).alloc (.cells #[.bool o, .bool d] 49)) b o d :=
    ⟨((Below.refl _ _).alloc (Nat.le_refl _) _).alloc (by simp) _, ⟨by simp, by simp [go_sem], by simp [go_sem], by simp [go_sem], by simp [go_sem], by simp [go_sem], by simp [go_sem], by simp [go_sem], by simp [go_sem]⟩, by simp, by simp [go_sem], by simp [go_sem]⟩
  go_at_call 10
  refine (awake9_any _).mono ?_
  rintro e w1 ⟨rfl, hb1⟩
  replace hE0 := hE0.below hb1
  clear hb1
  obtain ⟨-, ⟨y5, y0, y1, y2, y3, -, -, -, -⟩, hl, x0, x1⟩ := id hE0
  obtain ⟨q, hq⟩ : ∃ q, Hid ((checkZ ⟨b.n, b.o, b.h, b.d⟩ 1048576 == 0) = q) := ⟨_, rfl⟩
  replace hE0 := hide hE0
  go_wp2_with fail
  go_at_call 26
  refine (refRight_any b.n b.o b.h b.d 1048576 _).mono ?_
  rw [hq.out]
  rintro e w2 ⟨rfl, hb2⟩
  have hE2 := (unhide hE0).below hb2
  clear hb2 hE0 y5 y0 y1 y2 y3 hl x0 x1
  cases q
  · have hB := hide hE2.bel
    clear hE2
    go_wp2_with fail
    go_at_call 10
    refine (awake9_any _).mono ?_
    rintro e w3 ⟨rfl, hb3⟩
    replace hb3 := hide hb3
    go_wp2_with fail
    go_ret
    exact ⟨rfl, (unhide hB).trans ((unhide hb3).mono (unhide hB).size)⟩
  have hok : Hid (okB b) := okB_of b 1048576 (by have := hq.out; simpa using this)
  have hle : b.n ≤ 1048576 := by
    have := hq.out
    simp only [checkZ, beq_iff_eq] at this
    split at this
    · omega
    · omega
  replace hE2 := hide hE2
  clear hq
  go_wp2_with fail
  go_at_call 12
  refine (cNew_c 2 2 w2).mono ?_
  rw [b1, b2]
  rintro e w3 ⟨c, F3, rfl, h3, hb3, hF3⟩
  have hF3' : Hid (∀ b, F3 b → w.heap.size + 2 ≤ b) := fun i hi => by have := hF3 i hi; have := (unhide hE2).lt; omega
  have hE3 := hide ((unhide hE2).below hb3)
  replace h3 := hide h3
  clear hb3 hF3 hE2 b1 b2
  go_wp2_with fail
  go_at_call 14
  refine (cAbsorb_c c F3 2 2 0 1 1 (-1) _ oth9 _ ((unhide h3).alloc _) ⟨by decide, by decide⟩ ok_oth9 (by decide) (by decide) ln0 false _ tk_g1 tk_n1).mono ?_
  rintro e w4 ⟨rfl, F4, h4, s4⟩
  have hl3 := (unhide h3).lt
  obtain ⟨hE4, hF4⟩ := (unhide hE3).step (unhide hF3') (belA _ _) s4
  obtain ⟨k1, k2, k3⟩ := s4.keep (b := w3.heap.size) (fun e => by have := hl3 _ e; omega) (by simp)
  have yo : Hid (BunAt w4 w3.heap.size oth9) := ⟨k3, keep_cell k1 (by simp [go_sem]), keep_cell k1 (by simp [go_sem]), keep_cell k1 (by simp [go_sem]), keep_cell k1 (by simp [go_sem]), keep_frozen k1 (by simp [go_sem]), keep_frozen k1 (by simp [go_sem]), keep_frozen k1 (by simp [go_sem]), keep_frozen k1 (by simp [go_sem])⟩
  obtain ⟨-, ⟨y5, y0, y1, y2, y3, -, -, -, -⟩, -, -, -⟩ := id hE4
  replace hE4 := hide hE4
  replace hF4 := hide hF4
  replace h4 := hide h4
  clear h3 hF3' hE3 s4 hl3 k1 k3
  go_wp2_with fail
  go_at_call 14
  refine (cAbsorb_c c F4 2 2 (0 + 1) 1048576 3 (-1) _ b _ (unhide h4) ⟨by decide, by decide⟩ (unhide hok) hle (by decide) ln0 false _ (tk_g2 b) (tk_n2 b)).mono ?_
  rintro e w5 ⟨rfl, F5, h5, s5⟩
  obtain ⟨hE5, hF5⟩ := (unhide hE4).step (unhide hF4) (Below.refl _ _) s5
  obtain ⟨k1, k2, k3⟩ := s5.keep (b := w3.heap.size) k2 (unhide yo).lt
  replace yo := hide ((unhide yo).carry k1)
  clear y5 y0 y1 y2 y3
  obtain ⟨-, ⟨y5, y0, y1, y2, y3, -, -, -, -⟩, hl, x0, x1⟩ := id hE5
  replace hE5 := hide hE5
  replace hF5 := hide hF5
  replace h5 := hide h5
  clear h4 hF4 hE4 s5 k1 k3
  obtain ⟨g, hg⟩ : ∃ g, Hid (givenB ⟨b.n, b.o, b.h, b.d⟩ ct o d = g) := ⟨_, rfl⟩
  obtain ⟨z, hz⟩ : ∃ z, Hid (restB ⟨b.n, b.o, b.h, b.d⟩ ct o = z) := ⟨_, rfl⟩
  go_wp2_with fail
  go_at_call 27
  refine (refSplit_any b.n b.o b.h b.d ct o d _ (by omega) (unhide hok) g z hg hz).mono ?_
  rintro e w6 ⟨rfl, hb6⟩
  have hE6 := (unhide hE5).below hb6
  have h6 := hide ((unhide h5).below hb6)
  have yo6 := hide ((unhide yo).below hb6)
  have hl5 := (unhide h5).lt
  have s6 := hb6.size
  have hdG : Hid (∀ i, F5 i → i < w6.heap.size) := fun i hi => Nat.lt_of_lt_of_le (hl5 i hi) s6
  have hw3 : w3.heap.size < w6.heap.size := (unhide yo6).lt
  clear hb6 hE5 h5 yo y5 y0 y1 y2 y3 hl x0 x1 hl5 s6
  obtain ⟨C', hC⟩ : ∃ C', Hid (nxTk (tkC2 b) 3 ct o = C') := ⟨_, rfl⟩
  have hg' : Hid (givenB ((tkC2 b).T 3) ct o d = g) := by rw [tk_3 (unhide hok)]; exact hg
  obtain ⟨m1, m2, m3⟩ := tk_n3 (unhide hok) ct o
  rw [hC.out] at m1 m2 m3
  have hz' : restB b ct o = z := hz.out
  rw [hz'] at m1 m3
  replace m1 := hide m1
  replace m2 := hide m2
  replace hE6 := hide hE6
  go_wp2_with fail
  have hg6 : BunAt ((w6.alloc (.cells #[.int .i64 g.n, .bool g.o, .bool g.h, .int .i64 g.d] 31)).alloc (.cells #[.int .i64 z.n, .bool z.o, .bool z.h, .int .i64 z.d] 31)) w6.heap.size g := ⟨by simp, by simp [go_sem], by simp [go_sem], by simp [go_sem], by simp [go_sem], by simp [go_sem], by simp [go_sem], by simp [go_sem], by simp [go_sem]⟩
  have hz6 : BunAt ((w6.alloc (.cells #[.int .i64 g.n, .bool g.o, .bool g.h, .int .i64 g.d] 31)).alloc (.cells #[.int .i64 z.n, .bool z.o, .bool z.h, .int .i64 z.d] 31)) (w6.heap.size + 1) z := ⟨by simp, by simp [go_sem], by simp [go_sem], by simp [go_sem], by simp [go_sem], by simp [go_sem], by simp [go_sem], by simp [go_sem], by simp [go_sem]⟩
  have hE7 := ((unhide hE6).below (belA w6 (.cells #[.int .i64 g.n, .bool g.o, .bool g.h, .int .i64 g.d] 31))).below (belA _ (.cells #[.int .i64 z.n, .bool z.o, .bool z.h, .int .i64 z.d] 31))
  have yo7 := ((unhide yo6).below (belA w6 (.cells #[.int .i64 g.n, .bool g.o, .bool g.h, .int .i64 g.d] 31))).below (belA _ (.cells #[.int .i64 z.n, .bool z.o, .bool z.h, .int .i64 z.d] 31))
  have h7 := ((unhide h6).alloc (.cells #[.int .i64 g.n, .bool g.o, .bool g.h, .int .i64 g.d] 31)).alloc (.cells #[.int .i64 z.n, .bool z.o, .bool z.h, .int .i64 z.d] 31)
  obtain ⟨w7, hw7⟩ : ∃ w7, (w6.alloc (.cells #[.int .i64 g.n, .bool g.o, .bool g.h, .int .i64 g.d] 31)).alloc (.cells #[.int .i64 z.n, .bool z.o, .bool z.h, .int .i64 z.d] 31) = w7 := ⟨_, rfl⟩
  rw [hw7] at hg6 hz6 hE7 yo7 h7 ⊢
  clear hw7 hE6 h6 yo6
  replace h7 := hide h7
  by_cases hzp : 0 < z.n
  · have hl : Hid ((allC C').length = 2) := by rw [allC_len, m3]; simp [hzp, Hid]
    go_wp2_with fail
    refine wp_region_noPanic ?_
    refine wp_region_held_drew (S := (fun w' => w'.cell? ⟨w.heap.size + 1, 0, none⟩ = some (.bool o) ∧ w'.cell? ⟨w.heap.size + 1, 1, none⟩ = some (.bool d) ∧ w'.cell? ⟨w6.heap.size, 0, none⟩ = some (.int .i64 g.n) ∧ w'.cell? ⟨w6.heap.size, 1, none⟩ = some (.bool g.o) ∧ w'.cell? ⟨w6.heap.size, 2, none⟩ = some (.bool g.h) ∧ w'.cell? ⟨w6.heap.size, 3, none⟩ = some (.int .i64 g.d) ∧ w'.cell? ⟨w6.heap.size + 1, 0, none⟩ = some (.int .i64 z.n) ∧ w'.cell? ⟨w6.heap.size + 1, 1, none⟩ = some (.bool z.o) ∧ w'.cell? ⟨w6.heap.size + 1, 2, none⟩ = some (.bool z.h) ∧ w'.cell? ⟨w6.heap.size + 1, 3, none⟩ = some (.int .i64 z.d) ∧ w'.cell? ⟨w3.heap.size, 0, none⟩ = some (.int .i64 1) ∧ w'.cell? ⟨w3.heap.size, 1, none⟩ = some (.bool false) ∧ w'.cell? ⟨w3.heap.size, 2, none⟩ = some (.bool true) ∧ w'.cell? ⟨w3.heap.size, 3, none⟩ = some (.int .i64 5))) (by kernel_rfl) ?_ (fun hHeld => ?_)
    · exact ⟨hE7.c0, hE7.c1, hg6.c0, hg6.c1, hg6.c2, hg6.c3, hz6.c0, hz6.c1, hz6.c2, hz6.c3, yo7.c0, yo7.c1, yo7.c2, yo7.c3⟩
    refine hand_take (i := 0) (d := some 39) (v := ?_) rfl (by kernel_rfl) (by kernel_rfl) (by kernel_rfl) (fun _ _ _ h => h) ?_ hHeld ?_
    rotate_left
    · intro o ho
      simp at ho
      subst ho
      intro wz hSw
      try dsimp only at hSw
      go_simp
      try with_reducible rfl
    try simp only [Act.put, List.setIfInBounds_toArray, List.set_cons_zero, List.set_cons_succ]
    refine hand_take (i := 1) (d := some 40) (v := ?_) rfl (by kernel_rfl) (by kernel_rfl) (by kernel_rfl) (fun _ _ _ h => h) ?_ hHeld ?_
    rotate_left
    · intro o ho
      simp at ho
      subst ho
      intro wz hSw
      try dsimp only at hSw
      go_simp
      try with_reducible rfl
    try simp only [Act.put, List.setIfInBounds_toArray, List.set_cons_zero, List.set_cons_succ]
    refine hand_take (i := 2) (d := some 41) (v := ?_) rfl (by kernel_rfl) (by kernel_rfl) (by kernel_rfl) (fun _ _ _ h => h) ?_ hHeld ?_
    rotate_left
    · intro o ho
      simp at ho
      subst ho
      intro wz hSw
      try dsimp only at hSw
      go_simp
      try with_reducible rfl
    try simp only [Act.put, List.setIfInBounds_toArray, List.set_cons_zero, List.set_cons_succ]
    refine hand_take (i := 3) (d := some 42) (v := ?_) rfl (by kernel_rfl) (by kernel_rfl) (by kernel_rfl) (fun _ _ _ h => h) ?_ hHeld ?_
    rotate_left
    · intro o ho
      simp at ho
      subst ho
      intro wz hSw
      try dsimp only at hSw
      go_simp
      try with_reducible rfl
    try simp only [Act.put, List.setIfInBounds_toArray, List.set_cons_zero, List.set_cons_succ]
    refine hand_take (i := 4) (d := some 43) (v := ?_) rfl (by kernel_rfl) (by kernel_rfl) (by kernel_rfl) (fun _ _ _ h => h) ?_ hHeld ?_
    rotate_left
    · intro o ho
      simp at ho
      subst ho
      intro wz hSw
      try dsimp only at hSw
      go_simp
      try with_reducible rfl
    try simp only [Act.put, List.setIfInBounds_toArray, List.set_cons_zero, List.set_cons_succ]
    refine hand_take (i := 5) (d := some 44) (v := ?_) rfl (by kernel_rfl) (by kernel_rfl) (by kernel_rfl) (fun _ _ _ h => h) ?_ hHeld ?_
    rotate_left
    · intro o ho
      simp at ho
      subst ho
      intro wz hSw
      try dsimp only at hSw
      go_simp
      try with_reducible rfl
    try simp only [Act.put, List.setIfInBounds_toArray, List.set_cons_zero, List.set_cons_succ]
    refine hand_take (i := 7) (d := some 46) (v := ?_) rfl (by kernel_rfl) (by kernel_rfl) (by kernel_rfl) (fun _ _ _ h => h) ?_ hHeld ?_
    rotate_left
    · intro o ho
      simp at ho
      subst ho
      intro wz hSw
      try dsimp only at hSw
      go_simp
      try with_reducible rfl
    try simp only [Act.put, List.setIfInBounds_toArray, List.set_cons_zero, List.set_cons_succ]
    refine hand_call (i := 6) rfl (by kernel_rfl) ?_
    intro o ho
    simp at ho
    subst ho
    intro K hK
    go_simp
    go_at_call 16
    refine (cTake_c c F5 2 2 (0 + 1 + 1048576) 3 ct o d _ w7.drew ((unhide h7).below (Below.refl _ _).drew) ⟨by decide, by decide⟩ (by decide) g C' hg' hC).mono ?_
    rintro e w8 ⟨rfl, F8, h8, s8⟩
    replace s8 := (Step.of_below (F := F5) ((Below.refl w7.heap.size w7).drew)).trans s8
    obtain ⟨hE8, hF8⟩ := hE7.step (unhide hF5) (Below.refl _ _) s8
    have hg8 := hg6.carry (s8.fr.block _ hg6.lt (fun e => by have := unhide hdG _ e; omega))
    have hz8 := hz6.carry (s8.fr.block _ hz6.lt (fun e => by have := unhide hdG _ e; omega))
    have yo8 := yo7.carry (s8.fr.block _ yo7.lt k2)
    replace h8 := hide h8
    refine hK.out _ _ ?_ (fun hHeld => ?_)
    · exact ⟨hE8.c0, hE8.c1, hg8.c0, hg8.c1, hg8.c2, hg8.c3, hz8.c0, hz8.c1, hz8.c2, hz8.c3, yo8.c0, yo8.c1, yo8.c2, yo8.c3⟩
    clear hK K
    try simp only [Act.put, List.setIfInBounds_toArray, List.set_cons_zero, List.set_cons_succ]
    refine hand_take (i := 8) (d := some 47) (v := .bool true) rfl (by kernel_rfl) (by kernel_rfl) (by kernel_rfl) (fun _ _ _ h => h) ?_ hHeld ?_
    · intro o ho
      simp at ho
      subst ho
      intro wz hSw
      try dsimp only at hSw
      go_simp
    try simp only [Act.put, List.setIfInBounds_toArray, List.set_cons_zero, List.set_cons_succ]
    refine hand_take (i := 9) (d := some 48) (v := ?_) rfl (by kernel_rfl) (by kernel_rfl) (by kernel_rfl) (fun _ _ _ h => h) ?_ hHeld ?_
    rotate_left
    · intro o ho
      simp at ho
      subst ho
      intro wz hSw
      try dsimp only at hSw
      go_simp
      try with_reducible rfl
    try simp only [Act.put, List.setIfInBounds_toArray, List.set_cons_zero, List.set_cons_succ]
    refine hand_take (i := 10) (d := some 49) (v := ?_) rfl (by kernel_rfl) (by kernel_rfl) (by kernel_rfl) (fun _ _ _ h => h) ?_ hHeld ?_
    rotate_left
    · intro o ho
      simp at ho
      subst ho
      intro wz hSw
      try dsimp only at hSw
      go_simp
      try with_reducible rfl
    try simp only [Act.put, List.setIfInBounds_toArray, List.set_cons_zero, List.set_cons_succ]
    refine hand_take (i := 12) (d := some 51) (v := ?_) rfl (by kernel_rfl) (by kernel_rfl) (by kernel_rfl) (fun _ _ _ h => h) ?_ hHeld ?_
    rotate_left
    · intro o ho
      simp at ho
      subst ho
      intro wz hSw
      try dsimp only at hSw
      go_simp
      try with_reducible rfl
    try simp only [Act.put, List.setIfInBounds_toArray, List.set_cons_zero, List.set_cons_succ]
    refine hand_call (i := 11) rfl (by kernel_rfl) ?_
    intro o ho
    simp at ho
    subst ho
    intro K hK
    go_simp
    go_at_call 20
    refine (cGet_c c F8 2 2 _ 3 C' w8 (unhide h8) ⟨by decide, by decide⟩ z m1).mono ?_
    rintro e w9 ⟨rfl, hb9⟩
    have hE9 := hE8.below hb9
    have hg9 := hg8.below hb9
    have hz9 := hz8.below hb9
    have yo9 := yo8.below hb9
    have h9 := hide ((unhide h8).below hb9)
    clear hb9
    refine hK.out _ _ ?_ (fun hHeld => ?_)
    · exact ⟨hE9.c0, hE9.c1, hg9.c0, hg9.c1, hg9.c2, hg9.c3, hz9.c0, hz9.c1, hz9.c2, hz9.c3, yo9.c0, yo9.c1, yo9.c2, yo9.c3⟩
    clear hK K
    try simp only [Act.put, List.setIfInBounds_toArray, List.set_cons_zero, List.set_cons_succ]
    refine hand_take (i := 13) (d := some 52) (v := .bool true) rfl (by kernel_rfl) (by kernel_rfl) (by kernel_rfl) (fun _ _ _ h => h) ?_ hHeld ?_
    · intro o ho
      simp at ho
      subst ho
      intro wz hSw
      try dsimp only at hSw
      go_simp
    try simp only [Act.put, List.setIfInBounds_toArray, List.set_cons_zero, List.set_cons_succ]
    refine hand_take (i := 14) (d := some 53) (v := .bool true) rfl (by kernel_rfl) (by kernel_rfl) (by kernel_rfl) (fun _ _ _ h => h) ?_ hHeld ?_
    · intro o ho
      simp at ho
      subst ho
      intro wz hSw
      try dsimp only at hSw
      go_simp
    try simp only [Act.put, List.setIfInBounds_toArray, List.set_cons_zero, List.set_cons_succ]
    refine hand_take (i := 15) (d := some 54) (v := ?_) rfl (by kernel_rfl) (by kernel_rfl) (by kernel_rfl) (fun _ _ _ h => h) ?_ hHeld ?_
    rotate_left
    · intro o ho
      simp at ho
      subst ho
      intro wz hSw
      try dsimp only at hSw
      go_simp
      try with_reducible rfl
    try simp only [Act.put, List.setIfInBounds_toArray, List.set_cons_zero, List.set_cons_succ]
    refine hand_take (i := 16) (d := some 55) (v := ?_) rfl (by kernel_rfl) (by kernel_rfl) (by kernel_rfl) (fun _ _ _ h => h) ?_ hHeld ?_
    rotate_left
    · intro o ho
      simp at ho
      subst ho
      intro wz hSw
      try dsimp only at hSw
      go_simp
      try with_reducible rfl
    try simp only [Act.put, List.setIfInBounds_toArray, List.set_cons_zero, List.set_cons_succ]
    refine hand_take (i := 18) (d := some 57) (v := ?_) rfl (by kernel_rfl) (by kernel_rfl) (by kernel_rfl) (fun _ _ _ h => h) ?_ hHeld ?_
    rotate_left
    · intro o ho
      simp at ho
      subst ho
      intro wz hSw
      try dsimp only at hSw
      go_simp
      try with_reducible rfl
    try simp only [Act.put, List.setIfInBounds_toArray, List.set_cons_zero, List.set_cons_succ]
    refine hand_call (i := 17) rfl (by kernel_rfl) ?_
    intro o ho
    simp at ho
    subst ho
    intro K hK
    go_simp
    go_at_call 20
    refine (cGet_c c F8 2 2 _ 1 C' w9 (unhide h9) ⟨by decide, by decide⟩ oth9 m2).mono ?_
    rintro e w10 ⟨rfl, hb10⟩
    have hE10 := hE9.below hb10
    have hg10 := hg9.below hb10
    have hz10 := hz9.below hb10
    have yo10 := yo9.below hb10
    have h10 := hide ((unhide h9).below hb10)
    clear hb10
    refine hK.out _ _ ?_ (fun hHeld => ?_)
    · exact ⟨hE10.c0, hE10.c1, hg10.c0, hg10.c1, hg10.c2, hg10.c3, hz10.c0, hz10.c1, hz10.c2, hz10.c3, yo10.c0, yo10.c1, yo10.c2, yo10.c3⟩
    clear hK K
    try simp only [Act.put, List.setIfInBounds_toArray, List.set_cons_zero, List.set_cons_succ]
    refine hand_take (i := 19) (d := some 58) (v := .bool true) rfl (by kernel_rfl) (by kernel_rfl) (by kernel_rfl) (fun _ _ _ h => h) ?_ hHeld ?_
    · intro o ho
      simp at ho
      subst ho
      intro wz hSw
      try dsimp only at hSw
      go_simp
    try simp only [Act.put, List.setIfInBounds_toArray, List.set_cons_zero, List.set_cons_succ]
    refine hand_take (i := 20) (d := some 59) (v := .bool true) rfl (by kernel_rfl) (by kernel_rfl) (by kernel_rfl) (fun _ _ _ h => h) ?_ hHeld ?_
    · intro o ho
      simp at ho
      subst ho
      intro wz hSw
      try dsimp only at hSw
      go_simp
    try simp only [Act.put, List.setIfInBounds_toArray, List.set_cons_zero, List.set_cons_succ]
    refine hand_take (i := 21) (d := some 60) (v := ?_) rfl (by kernel_rfl) (by kernel_rfl) (by kernel_rfl) (fun _ _ _ h => h) ?_ hHeld ?_
    rotate_left
    · intro o ho
      simp at ho
      subst ho
      intro wz hSw
      try dsimp only at hSw
      go_simp
      try with_reducible rfl
    try simp only [Act.put, List.setIfInBounds_toArray, List.set_cons_zero, List.set_cons_succ]
    refine hand_take (i := 22) (d := some 61) (v := ?_) rfl (by kernel_rfl) (by kernel_rfl) (by kernel_rfl) (fun _ _ _ h => h) ?_ hHeld ?_
    rotate_left
    · intro o ho
      simp at ho
      subst ho
      intro wz hSw
      try dsimp only at hSw
      go_simp
      try with_reducible rfl
    try simp only [Act.put, List.setIfInBounds_toArray, List.set_cons_zero, List.set_cons_succ]
    refine hand_take (i := 26) (d := some 65) (v := ?_) rfl (by kernel_rfl) (by kernel_rfl) (by kernel_rfl) (fun _ _ _ h => h) ?_ hHeld ?_
    rotate_left
    · intro o ho
      simp at ho
      subst ho
      intro wz hSw
      try dsimp only at hSw
      go_simp
      try with_reducible rfl
    try simp only [Act.put, List.setIfInBounds_toArray, List.set_cons_zero, List.set_cons_succ]
    refine hand_take (i := 27) (d := some 66) (v := ?_) rfl (by kernel_rfl) (by kernel_rfl) (by kernel_rfl) (fun _ _ _ h => h) ?_ hHeld ?_
    rotate_left
    · intro o ho
      simp at ho
      subst ho
      intro wz hSw
      try dsimp only at hSw
      go_simp
      try with_reducible rfl
    try simp only [Act.put, List.setIfInBounds_toArray, List.set_cons_zero, List.set_cons_succ]
    refine hand_take (i := 28) (d := some 67) (v := .bool true) rfl (by kernel_rfl) (by kernel_rfl) (by kernel_rfl) (fun _ _ _ h => h) ?_ hHeld ?_
    · intro o ho
      simp at ho
      subst ho
      intro wz hSw
      try dsimp only at hSw
      go_simp; try simp [hzp]
    try simp only [Act.put, List.setIfInBounds_toArray, List.set_cons_zero, List.set_cons_succ]
    refine hand_call (i := 23) rfl (by kernel_rfl) ?_
    intro o ho
    simp at ho
    subst ho
    intro K hK
    go_simp
    go_at_call 23
    refine (cAll_c c F8 2 2 _ C' w10 (unhide h10)).mono ?_
    rintro e w11 ⟨vv, gg, rfl, hgg, hO, hb11⟩
    obtain ⟨ao, cap, rfl, -⟩ := hO
    rw [hl.out]
    have hE11 := hE10.below hb11
    have hg11 := hg10.below hb11
    have hz11 := hz10.below hb11
    have yo11 := yo10.below hb11
    clear hb11
    refine hK.out _ _ ?_ (fun hHeld => ?_)
    · exact ⟨hE11.c0, hE11.c1, hg11.c0, hg11.c1, hg11.c2, hg11.c3, hz11.c0, hz11.c1, hz11.c2, hz11.c3, yo11.c0, yo11.c1, yo11.c2, yo11.c3⟩
    clear hK K
    try simp only [Act.put, List.setIfInBounds_toArray, List.set_cons_zero, List.set_cons_succ]
    refine hand_take (i := 24) (d := some 63) (v := ?_) rfl (by kernel_rfl) (by kernel_rfl) (by kernel_rfl) (fun _ _ _ h => h) ?_ hHeld ?_
    rotate_left
    · intro o ho
      simp at ho
      subst ho
      intro wz hSw
      try dsimp only at hSw
      go_simp
      try with_reducible rfl
    try simp only [Act.put, List.setIfInBounds_toArray, List.set_cons_zero, List.set_cons_succ]
    refine hand_take (i := 25) (d := some 64) (v := .bool true) rfl (by kernel_rfl) (by kernel_rfl) (by kernel_rfl) (fun _ _ _ h => h) ?_ hHeld ?_
    · intro o ho
      simp at ho
      subst ho
      intro wz hSw
      try dsimp only at hSw
      go_simp
    try simp only [Act.put, List.setIfInBounds_toArray, List.set_cons_zero, List.set_cons_succ]
    refine hand_take (i := 29) (d := some 68) (v := .bool true) rfl (by kernel_rfl) (by kernel_rfl) (by kernel_rfl) (fun _ _ _ h => h) ?_ hHeld ?_
    · intro o ho
      simp at ho
      subst ho
      intro wz hSw
      try dsimp only at hSw
      go_simp
    try simp only [Act.put, List.setIfInBounds_toArray, List.set_cons_zero, List.set_cons_succ]
    refine hand_take (i := 30) (d := some 69) (v := .bool true) rfl (by kernel_rfl) (by kernel_rfl) (by kernel_rfl) (fun _ _ _ h => h) ?_ hHeld ?_
    · intro o ho
      simp at ho
      subst ho
      intro wz hSw
      try dsimp only at hSw
      go_simp
    try simp only [Act.put, List.setIfInBounds_toArray, List.set_cons_zero, List.set_cons_succ]
    refine hand_take (i := 31) (d := some 6) (v := ?_) rfl (by kernel_rfl) (by kernel_rfl) (by kernel_rfl) (fun _ _ _ h => h) ?_ hHeld ?_
    rotate_left
    · intro o ho
      simp at ho
      subst ho
      intro wz hSw
      try dsimp only at hSw
      go_simp
      try with_reducible rfl
    try simp only [Act.put, List.setIfInBounds_toArray, List.set_cons_zero, List.set_cons_succ]
    refine wpAnyH_done (by kernel_rfl) (NoPanic.normal ?_) _
    clear hHeld
    have hB := hide hE11.bel
    clear hE11 hE10 hE9 hE8 hE7
    go_wp2_with fail
    go_ret
    exact ⟨rfl, unhide hB⟩
  · have hl : Hid ((allC C').length = 1) := by rw [allC_len, m3]; simp [hzp, Hid]
    go_wp2_with fail
    refine wp_region_noPanic ?_
    refine wp_region_held_drew (S := (fun w' => w'.cell? ⟨w.heap.size + 1, 0, none⟩ = some (.bool o) ∧ w'.cell? ⟨w.heap.size + 1, 1, none⟩ = some (.bool d) ∧ w'.cell? ⟨w6.heap.size, 0, none⟩ = some (.int .i64 g.n) ∧ w'.cell? ⟨w6.heap.size, 1, none⟩ = some (.bool g.o) ∧ w'.cell? ⟨w6.heap.size, 2, none⟩ = some (.bool g.h) ∧ w'.cell? ⟨w6.heap.size, 3, none⟩ = some (.int .i64 g.d) ∧ w'.cell? ⟨w6.heap.size + 1, 0, none⟩ = some (.int .i64 z.n) ∧ w'.cell? ⟨w6.heap.size + 1, 1, none⟩ = some (.bool z.o) ∧ w'.cell? ⟨w6.heap.size + 1, 2, none⟩ = some (.bool z.h) ∧ w'.cell? ⟨w6.heap.size + 1, 3, none⟩ = some (.int .i64 z.d) ∧ w'.cell? ⟨w3.heap.size, 0, none⟩ = some (.int .i64 1) ∧ w'.cell? ⟨w3.heap.size, 1, none⟩ = some (.bool false) ∧ w'.cell? ⟨w3.heap.size, 2, none⟩ = some (.bool true) ∧ w'.cell? ⟨w3.heap.size, 3, none⟩ = some (.int .i64 5))) (by kernel_rfl) ?_ (fun hHeld => ?_)
    · exact ⟨hE7.c0, hE7.c1, hg6.c0, hg6.c1, hg6.c2, hg6.c3, hz6.c0, hz6.c1, hz6.c2, hz6.c3, yo7.c0, yo7.c1, yo7.c2, yo7.c3⟩
    refine hand_take (i := 0) (d := some 39) (v := ?_) rfl (by kernel_rfl) (by kernel_rfl) (by kernel_rfl) (fun _ _ _ h => h) ?_ hHeld ?_
    rotate_left
    · intro o ho
      simp at ho
      subst ho
      intro wz hSw
      try dsimp only at hSw
      go_simp
      try with_reducible rfl
    try simp only [Act.put, List.setIfInBounds_toArray, List.set_cons_zero, List.set_cons_succ]
    refine hand_take (i := 1) (d := some 40) (v := ?_) rfl (by kernel_rfl) (by kernel_rfl) (by kernel_rfl) (fun _ _ _ h => h) ?_ hHeld ?_
    rotate_left
    · intro o ho
      simp at ho
      subst ho
      intro wz hSw
      try dsimp only at hSw
      go_simp
      try with_reducible rfl
    try simp only [Act.put, List.setIfInBounds_toArray, List.set_cons_zero, List.set_cons_succ]
    refine hand_take (i := 2) (d := some 41) (v := ?_) rfl (by kernel_rfl) (by kernel_rfl) (by kernel_rfl) (fun _ _ _ h => h) ?_ hHeld ?_
    rotate_left
    · intro o ho
      simp at ho
      subst ho
      intro wz hSw
      try dsimp only at hSw
      go_simp
      try with_reducible rfl
    try simp only [Act.put, List.setIfInBounds_toArray, List.set_cons_zero, List.set_cons_succ]
    refine hand_take (i := 3) (d := some 42) (v := ?_) rfl (by kernel_rfl) (by kernel_rfl) (by kernel_rfl) (fun _ _ _ h => h) ?_ hHeld ?_
    rotate_left
    · intro o ho
      simp at ho
      subst ho
      intro wz hSw
      try dsimp only at hSw
      go_simp
      try with_reducible rfl
    try simp only [Act.put, List.setIfInBounds_toArray, List.set_cons_zero, List.set_cons_succ]
    refine hand_take (i := 4) (d := some 43) (v := ?_) rfl (by kernel_rfl) (by kernel_rfl) (by kernel_rfl) (fun _ _ _ h => h) ?_ hHeld ?_
    rotate_left
    · intro o ho
      simp at ho
      subst ho
      intro wz hSw
      try dsimp only at hSw
      go_simp
      try with_reducible rfl
    try simp only [Act.put, List.setIfInBounds_toArray, List.set_cons_zero, List.set_cons_succ]
    refine hand_take (i := 5) (d := some 44) (v := ?_) rfl (by kernel_rfl) (by kernel_rfl) (by kernel_rfl) (fun _ _ _ h => h) ?_ hHeld ?_
    rotate_left
    · intro o ho
      simp at ho
      subst ho
      intro wz hSw
      try dsimp only at hSw
      go_simp
      try with_reducible rfl
    try simp only [Act.put, List.setIfInBounds_toArray, List.set_cons_zero, List.set_cons_succ]
    refine hand_take (i := 7) (d := some 46) (v := ?_) rfl (by kernel_rfl) (by kernel_rfl) (by kernel_rfl) (fun _ _ _ h => h) ?_ hHeld ?_
    rotate_left
    · intro o ho
      simp at ho
      subst ho
      intro wz hSw
      try dsimp only at hSw
      go_simp
      try with_reducible rfl
    try simp only [Act.put, List.setIfInBounds_toArray, List.set_cons_zero, List.set_cons_succ]
    refine hand_call (i := 6) rfl (by kernel_rfl) ?_
    intro o ho
    simp at ho
    subst ho
    intro K hK
    go_simp
    go_at_call 16
    refine (cTake_c c F5 2 2 (0 + 1 + 1048576) 3 ct o d _ w7.drew ((unhide h7).below (Below.refl _ _).drew) ⟨by decide, by decide⟩ (by decide) g C' hg' hC).mono ?_
    rintro e w8 ⟨rfl, F8, h8, s8⟩
    replace s8 := (Step.of_below (F := F5) ((Below.refl w7.heap.size w7).drew)).trans s8
    obtain ⟨hE8, hF8⟩ := hE7.step (unhide hF5) (Below.refl _ _) s8
    have hg8 := hg6.carry (s8.fr.block _ hg6.lt (fun e => by have := unhide hdG _ e; omega))
    have hz8 := hz6.carry (s8.fr.block _ hz6.lt (fun e => by have := unhide hdG _ e; omega))
    have yo8 := yo7.carry (s8.fr.block _ yo7.lt k2)
    replace h8 := hide h8
    refine hK.out _ _ ?_ (fun hHeld => ?_)
    · exact ⟨hE8.c0, hE8.c1, hg8.c0, hg8.c1, hg8.c2, hg8.c3, hz8.c0, hz8.c1, hz8.c2, hz8.c3, yo8.c0, yo8.c1, yo8.c2, yo8.c3⟩
    clear hK K
    try simp only [Act.put, List.setIfInBounds_toArray, List.set_cons_zero, List.set_cons_succ]
    refine hand_take (i := 8) (d := some 47) (v := .bool true) rfl (by kernel_rfl) (by kernel_rfl) (by kernel_rfl) (fun _ _ _ h => h) ?_ hHeld ?_
    · intro o ho
      simp at ho
      subst ho
      intro wz hSw
      try dsimp only at hSw
      go_simp
    try simp only [Act.put, List.setIfInBounds_toArray, List.set_cons_zero, List.set_cons_succ]
    refine hand_take (i := 9) (d := some 48) (v := ?_) rfl (by kernel_rfl) (by kernel_rfl) (by kernel_rfl) (fun _ _ _ h => h) ?_ hHeld ?_
    rotate_left
    · intro o ho
      simp at ho
      subst ho
      intro wz hSw
      try dsimp only at hSw
      go_simp
      try with_reducible rfl
    try simp only [Act.put, List.setIfInBounds_toArray, List.set_cons_zero, List.set_cons_succ]
    refine hand_take (i := 10) (d := some 49) (v := ?_) rfl (by kernel_rfl) (by kernel_rfl) (by kernel_rfl) (fun _ _ _ h => h) ?_ hHeld ?_
    rotate_left
    · intro o ho
      simp at ho
      subst ho
      intro wz hSw
      try dsimp only at hSw
      go_simp
      try with_reducible rfl
    try simp only [Act.put, List.setIfInBounds_toArray, List.set_cons_zero, List.set_cons_succ]
    refine hand_take (i := 12) (d := some 51) (v := ?_) rfl (by kernel_rfl) (by kernel_rfl) (by kernel_rfl) (fun _ _ _ h => h) ?_ hHeld ?_
    rotate_left
    · intro o ho
      simp at ho
      subst ho
      intro wz hSw
      try dsimp only at hSw
      go_simp
      try with_reducible rfl
    try simp only [Act.put, List.setIfInBounds_toArray, List.set_cons_zero, List.set_cons_succ]
    refine hand_call (i := 11) rfl (by kernel_rfl) ?_
    intro o ho
    simp at ho
    subst ho
    intro K hK
    go_simp
    go_at_call 20
    refine (cGet_c c F8 2 2 _ 3 C' w8 (unhide h8) ⟨by decide, by decide⟩ z m1).mono ?_
    rintro e w9 ⟨rfl, hb9⟩
    have hE9 := hE8.below hb9
    have hg9 := hg8.below hb9
    have hz9 := hz8.below hb9
    have yo9 := yo8.below hb9
    have h9 := hide ((unhide h8).below hb9)
    clear hb9
    refine hK.out _ _ ?_ (fun hHeld => ?_)
    · exact ⟨hE9.c0, hE9.c1, hg9.c0, hg9.c1, hg9.c2, hg9.c3, hz9.c0, hz9.c1, hz9.c2, hz9.c3, yo9.c0, yo9.c1, yo9.c2, yo9.c3⟩
    clear hK K
    try simp only [Act.put, List.setIfInBounds_toArray, List.set_cons_zero, List.set_cons_succ]
    refine hand_take (i := 13) (d := some 52) (v := .bool true) rfl (by kernel_rfl) (by kernel_rfl) (by kernel_rfl) (fun _ _ _ h => h) ?_ hHeld ?_
    · intro o ho
      simp at ho
      subst ho
      intro wz hSw
      try dsimp only at hSw
      go_simp
    try simp only [Act.put, List.setIfInBounds_toArray, List.set_cons_zero, List.set_cons_succ]
    refine hand_take (i := 14) (d := some 53) (v := .bool true) rfl (by kernel_rfl) (by kernel_rfl) (by kernel_rfl) (fun _ _ _ h => h) ?_ hHeld ?_
    · intro o ho
      simp at ho
      subst ho
      intro wz hSw
      try dsimp only at hSw
      go_simp
    try simp only [Act.put, List.setIfInBounds_toArray, List.set_cons_zero, List.set_cons_succ]
    refine hand_take (i := 15) (d := some 54) (v := ?_) rfl (by kernel_rfl) (by kernel_rfl) (by kernel_rfl) (fun _ _ _ h => h) ?_ hHeld ?_
    rotate_left
    · intro o ho
      simp at ho
      subst ho
      intro wz hSw
      try dsimp only at hSw
      go_simp
      try with_reducible rfl
    try simp only [Act.put, List.setIfInBounds_toArray, List.set_cons_zero, List.set_cons_succ]
    refine hand_take (i := 16) (d := some 55) (v := ?_) rfl (by kernel_rfl) (by kernel_rfl) (by kernel_rfl) (fun _ _ _ h => h) ?_ hHeld ?_
    rotate_left
    · intro o ho
      simp at ho
      subst ho
      intro wz hSw
      try dsimp only at hSw
      go_simp
      try with_reducible rfl
    try simp only [Act.put, List.setIfInBounds_toArray, List.set_cons_zero, List.set_cons_succ]
    refine hand_take (i := 18) (d := some 57) (v := ?_) rfl (by kernel_rfl) (by kernel_rfl) (by kernel_rfl) (fun _ _ _ h => h) ?_ hHeld ?_
    rotate_left
    · intro o ho
      simp at ho
      subst ho
      intro wz hSw
      try dsimp only at hSw
      go_simp
      try with_reducible rfl
    try simp only [Act.put, List.setIfInBounds_toArray, List.set_cons_zero, List.set_cons_succ]
    refine hand_call (i := 17) rfl (by kernel_rfl) ?_
    intro o ho
    simp at ho
    subst ho
    intro K hK
    go_simp
    go_at_call 20
    refine (cGet_c c F8 2 2 _ 1 C' w9 (unhide h9) ⟨by decide, by decide⟩ oth9 m2).mono ?_
    rintro e w10 ⟨rfl, hb10⟩
    have hE10 := hE9.below hb10
    have hg10 := hg9.below hb10
    have hz10 := hz9.below hb10
    have yo10 := yo9.below hb10
    have h10 := hide ((unhide h9).below hb10)
    clear hb10
    refine hK.out _ _ ?_ (fun hHeld => ?_)
    · exact ⟨hE10.c0, hE10.c1, hg10.c0, hg10.c1, hg10.c2, hg10.c3, hz10.c0, hz10.c1, hz10.c2, hz10.c3, yo10.c0, yo10.c1, yo10.c2, yo10.c3⟩
    clear hK K
    try simp only [Act.put, List.setIfInBounds_toArray, List.set_cons_zero, List.set_cons_succ]
    refine hand_take (i := 19) (d := some 58) (v := .bool true) rfl (by kernel_rfl) (by kernel_rfl) (by kernel_rfl) (fun _ _ _ h => h) ?_ hHeld ?_
    · intro o ho
      simp at ho
      subst ho
      intro wz hSw
      try dsimp only at hSw
      go_simp
    try simp only [Act.put, List.setIfInBounds_toArray, List.set_cons_zero, List.set_cons_succ]
    refine hand_take (i := 20) (d := some 59) (v := .bool true) rfl (by kernel_rfl) (by kernel_rfl) (by kernel_rfl) (fun _ _ _ h => h) ?_ hHeld ?_
    · intro o ho
      simp at ho
      subst ho
      intro wz hSw
      try dsimp only at hSw
      go_simp
    try simp only [Act.put, List.setIfInBounds_toArray, List.set_cons_zero, List.set_cons_succ]
    refine hand_take (i := 21) (d := some 60) (v := ?_) rfl (by kernel_rfl) (by kernel_rfl) (by kernel_rfl) (fun _ _ _ h => h) ?_ hHeld ?_
    rotate_left
    · intro o ho
      simp at ho
      subst ho
      intro wz hSw
      try dsimp only at hSw
      go_simp
      try with_reducible rfl
    try simp only [Act.put, List.setIfInBounds_toArray, List.set_cons_zero, List.set_cons_succ]
    refine hand_take (i := 22) (d := some 61) (v := ?_) rfl (by kernel_rfl) (by kernel_rfl) (by kernel_rfl) (fun _ _ _ h => h) ?_ hHeld ?_
    rotate_left
    · intro o ho
      simp at ho
      subst ho
      intro wz hSw
      try dsimp only at hSw
      go_simp
      try with_reducible rfl
    try simp only [Act.put, List.setIfInBounds_toArray, List.set_cons_zero, List.set_cons_succ]
    refine hand_take (i := 26) (d := some 65) (v := ?_) rfl (by kernel_rfl) (by kernel_rfl) (by kernel_rfl) (fun _ _ _ h => h) ?_ hHeld ?_
    rotate_left
    · intro o ho
      simp at ho
      subst ho
      intro wz hSw
      try dsimp only at hSw
      go_simp
      try with_reducible rfl
    try simp only [Act.put, List.setIfInBounds_toArray, List.set_cons_zero, List.set_cons_succ]
    refine hand_take (i := 27) (d := some 66) (v := ?_) rfl (by kernel_rfl) (by kernel_rfl) (by kernel_rfl) (fun _ _ _ h => h) ?_ hHeld ?_
    rotate_left
    · intro o ho
      simp at ho
      subst ho
      intro wz hSw
      try dsimp only at hSw
      go_simp
      try with_reducible rfl
    try simp only [Act.put, List.setIfInBounds_toArray, List.set_cons_zero, List.set_cons_succ]
    refine hand_take (i := 28) (d := some 67) (v := .bool false) rfl (by kernel_rfl) (by kernel_rfl) (by kernel_rfl) (fun _ _ _ h => h) ?_ hHeld ?_
    · intro o ho
      simp at ho
      subst ho
      intro wz hSw
      try dsimp only at hSw
      go_simp; try simp [hzp]
    try simp only [Act.put, List.setIfInBounds_toArray, List.set_cons_zero, List.set_cons_succ]
    refine hand_call (i := 23) rfl (by kernel_rfl) ?_
    intro o ho
    simp at ho
    subst ho
    intro K hK
    go_simp
    go_at_call 23
    refine (cAll_c c F8 2 2 _ C' w10 (unhide h10)).mono ?_
    rintro e w11 ⟨vv, gg, rfl, hgg, hO, hb11⟩
    obtain ⟨ao, cap, rfl, -⟩ := hO
    rw [hl.out]
    have hE11 := hE10.below hb11
    have hg11 := hg10.below hb11
    have hz11 := hz10.below hb11
    have yo11 := yo10.below hb11
    clear hb11
    refine hK.out _ _ ?_ (fun hHeld => ?_)
    · exact ⟨hE11.c0, hE11.c1, hg11.c0, hg11.c1, hg11.c2, hg11.c3, hz11.c0, hz11.c1, hz11.c2, hz11.c3, yo11.c0, yo11.c1, yo11.c2, yo11.c3⟩
    clear hK K
    try simp only [Act.put, List.setIfInBounds_toArray, List.set_cons_zero, List.set_cons_succ]
    refine hand_take (i := 24) (d := some 63) (v := ?_) rfl (by kernel_rfl) (by kernel_rfl) (by kernel_rfl) (fun _ _ _ h => h) ?_ hHeld ?_
    rotate_left
    · intro o ho
      simp at ho
      subst ho
      intro wz hSw
      try dsimp only at hSw
      go_simp
      try with_reducible rfl
    try simp only [Act.put, List.setIfInBounds_toArray, List.set_cons_zero, List.set_cons_succ]
    refine hand_take (i := 25) (d := some 64) (v := .bool false) rfl (by kernel_rfl) (by kernel_rfl) (by kernel_rfl) (fun _ _ _ h => h) ?_ hHeld ?_
    · intro o ho
      simp at ho
      subst ho
      intro wz hSw
      try dsimp only at hSw
      go_simp
    try simp only [Act.put, List.setIfInBounds_toArray, List.set_cons_zero, List.set_cons_succ]
    refine hand_take (i := 29) (d := some 68) (v := .bool true) rfl (by kernel_rfl) (by kernel_rfl) (by kernel_rfl) (fun _ _ _ h => h) ?_ hHeld ?_
    · intro o ho
      simp at ho
      subst ho
      intro wz hSw
      try dsimp only at hSw
      go_simp
    try simp only [Act.put, List.setIfInBounds_toArray, List.set_cons_zero, List.set_cons_succ]
    refine hand_take (i := 30) (d := some 69) (v := .bool true) rfl (by kernel_rfl) (by kernel_rfl) (by kernel_rfl) (fun _ _ _ h => h) ?_ hHeld ?_
    · intro o ho
      simp at ho
      subst ho
      intro wz hSw
      try dsimp only at hSw
      go_simp
    try simp only [Act.put, List.setIfInBounds_toArray, List.set_cons_zero, List.set_cons_succ]
    refine hand_take (i := 31) (d := some 6) (v := ?_) rfl (by kernel_rfl) (by kernel_rfl) (by kernel_rfl) (fun _ _ _ h => h) ?_ hHeld ?_
    rotate_left
    · intro o ho
      simp at ho
      subst ho
      intro wz hSw
      try dsimp only at hSw
      go_simp
      try with_reducible rfl
    try simp only [Act.put, List.setIfInBounds_toArray, List.set_cons_zero, List.set_cons_succ]
    refine wpAnyH_done (by kernel_rfl) (NoPanic.normal ?_) _
    clear hHeld
    have hB := hide hE11.bel
    clear hE11 hE10 hE9 hE8 hE7
    go_wp2_with fail
    go_ret
    exact ⟨rfl, unhide hB⟩
end Go.Proofs.Ytooopcadefpncaa
