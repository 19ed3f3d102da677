/- The walk of LinesPlays: it returns true; no old memory turns. -/
import Derived.Test.YtameolfdbmepmaaLinO
import Derived.Test.YtameolfdbmepmaaLaw08b
namespace Go.Proofs.Ytameolfdbmepmaa
open Go.ChangeShapes Go.WideShapes Go.ChangeAt Go.RowKit
set_option linter.unusedSimpArgs false
set_option linter.unusedVariables false

attribute [local go_sem, local simp] over_const setCell_drewN alloc_drewN Over.cell Over.frozen lt_s1 lt_s2 lt_s3 le_s0 le_s1 le_s2 le_s3 eq_s0 eq_s1 eq_s2 qe_s0

/-- The program's lines and the document's, alike and apart from each other. -/
structure Duo (w wr : World) (p m : Nat) (F G : Nat → Prop) (S W : Int) (L : List Int) (x u : Int) : Prop where
  n : LnIs wr p F S W L
  r : RfIs wr m G S W L
  f : ∀ b, F b → w.heap.size + 2 ≤ b
  g : ∀ b, G b → w.heap.size + 2 ≤ b
  d : ∀ b, F b → ¬ G b
  box : Box wr (w.heap.size + 1) x u
  bel : Below w.heap.size w wr

theorem Duo.quiet {w wr wz : World} {p m : Nat} {F G : Nat → Prop} {S W : Int} {L : List Int} {x u : Int} (h : Duo w wr p m F G S W L x u) (hz : Below wr.heap.size wr wz) : Duo w wz p m F G S W L x u :=
  ⟨h.n.below hz, h.r.below hz, h.f, h.g, h.d, h.box.below hz, h.bel.trans (hz.mono h.bel.size)⟩

/-- While the program's are written the document's stay. -/
theorem Duo.mid {w wr w3 : World} {p m : Nat} {F F' G : Nat → Prop} {S W : Int} {L : List Int} {x u : Int} (h : Duo w wr p m F G S W L x u) (hs : Step F F' wr w3) : RfIs w3 m G S W L := h.r.fr hs.fr (fun b hb _ e => h.d b e hb)

theorem Duo.both {w wr w3 w4 : World} {p m : Nat} {F F' G G' : Nat → Prop} {S W : Int} {L L' : List Int} {x u : Int} (h : Duo w wr p m F G S W L x u) (hn : LnIs w3 p F' S W L') (hs : Step F F' wr w3) (hm : RfIs w4 m G' S W L') (ht : Step G G' w3 w4) : Duo w w4 p m F' G' S W L' x u := by
  have q := h.box.lt
  have hF : ∀ b, F' b → w.heap.size + 2 ≤ b := fun b hb => by
    rcases hs.new b hb with h1 | h1
    · exact h.f b h1
    · omega
  have hD : ∀ b, F' b → ¬ G b := fun b hb e => by
    rcases hs.new b hb with h1 | h1
    · exact h.d b h1 e
    · have := h.r.lt b e; omega
  have s3 := hs.fr.size
  have hB := h.bel.trans (hs.fr.below (fun i hi => by have := h.f i hi; omega) h.bel.size)
  have hX := h.box.fr hs.fr (fun e => by have := h.f _ e; omega)
  refine ⟨hn.fr ht.fr (fun b hb _ e => hD b hb e), hm, hF, fun b hb => ?_, fun b hb e => ?_, hX.fr ht.fr (fun e => by have := h.g _ e; omega), hB.trans (ht.fr.below (fun i hi => by have := h.g i hi; omega) hB.size)⟩
  · rcases ht.new b hb with h1 | h1
    · exact h.g b h1
    · omega
  · rcases ht.new b e with h1 | h1
    · exact hD b hb h1
    · have := hn.lt b hb; omega

set_option maxHeartbeats 8000000 in
set_option maxRecDepth 100000 in
theorem LinesPlays_walk (s t x u : Int) (v : Value) (A : List (Int × Int)) (w : World) (h : ActsAt w.heap.size w v A) : Calls Try.prog 3 #[.agg #[.int .i64 s, .int .i64 t], v, .agg #[.int .i64 x, .int .i64 u]] w fun e w' => e = .returned (.bool true) ∧ Below w.heap.size w w' := by
  have hA := hide h
  obtain ⟨ao, cap, rfl, hlc, hmx, _⟩ := h
  have hmx' : A.length ≤ 9223372036854775807 := by unfold maxLen at hmx; omega
  clear hmx
  obtain ⟨w0, hw0⟩ : ∃ w0, (w.alloc (.cells #[.int .i64 s, .int .i64 t] 22)).alloc (.cells #[.int .i64 x, .int .i64 u] 22) = w0 := ⟨_, rfl⟩
  have hbx : Box w0 w.heap.size s t ∧ Box w0 (w.heap.size + 1) x u ∧ Below w.heap.size w w0 ∧ w.heap.size + 2 ≤ w0.heap.size := by rw [← hw0]; exact boxes (Below.refl _ _)
  obtain ⟨B1, B2, hB0, hs0⟩ := hbx
  obtain ⟨-, x0, x1⟩ := B1
  go_enter Try.func3, Try.ntmps3
  go_wp2_with fail
  refine wp_region_noPanic ?_
  refine wp_region_held_drew (S := fun w' => w' = w0.drew ∧ w'.cell? ⟨w.heap.size, 0, none⟩ = some (.int .i64 s) ∧ w'.cell? ⟨w.heap.size, 1, none⟩ = some (.int .i64 t)) (by kernel_rfl) ?_ (fun hHeld => ?_)
  · exact ⟨rfl, x0, x1⟩
  refine hand_take (i := 0) (d := some 18) (v := ?_) rfl (by kernel_rfl) (by kernel_rfl) (by kernel_rfl) (fun _ _ _ h => h) ?_ hHeld ?_
  rotate_left
  · intro o ho
    simp at ho
    subst ho
    intro wz hSw
    try dsimp only at hSw
    go_simp
    try with_reducible rfl
  try simp only [Act.put, List.setIfInBounds_toArray, List.set_cons_zero, List.set_cons_succ]
  refine hand_take (i := 1) (d := some 19) (v := ?_) rfl (by kernel_rfl) (by kernel_rfl) (by kernel_rfl) (fun _ _ _ h => h) ?_ hHeld ?_
  rotate_left
  · intro o ho
    simp at ho
    subst ho
    intro wz hSw
    try dsimp only at hSw
    go_simp
    try with_reducible rfl
  try simp only [Act.put, List.setIfInBounds_toArray, List.set_cons_zero, List.set_cons_succ]
  refine hand_take (i := 2) (d := some 20) (v := ?_) rfl (by kernel_rfl) (by kernel_rfl) (by kernel_rfl) (fun _ _ _ h => h) ?_ hHeld ?_
  rotate_left
  · intro o ho
    simp at ho
    subst ho
    intro wz hSw
    try dsimp only at hSw
    go_simp
    try with_reducible rfl
  try simp only [Act.put, List.setIfInBounds_toArray, List.set_cons_zero, List.set_cons_succ]
  refine hand_take (i := 3) (d := some 21) (v := ?_) rfl (by kernel_rfl) (by kernel_rfl) (by kernel_rfl) (fun _ _ _ h => h) ?_ hHeld ?_
  rotate_left
  · intro o ho
    simp at ho
    subst ho
    intro wz hSw
    try dsimp only at hSw
    go_simp
    try with_reducible rfl
  try simp only [Act.put, List.setIfInBounds_toArray, List.set_cons_zero, List.set_cons_succ]
  refine hand_take (i := 4) (d := some 7) (v := ?_) rfl (by kernel_rfl) (by kernel_rfl) (by kernel_rfl) (fun _ _ _ h => h) ?_ hHeld ?_
  rotate_left
  · intro o ho
    simp at ho
    subst ho
    intro wz hSw
    try dsimp only at hSw
    go_simp
    try with_reducible rfl
  try simp only [Act.put, List.setIfInBounds_toArray, List.set_cons_zero, List.set_cons_succ]
  refine hand_take (i := 5) (d := some 8) (v := ?_) rfl (by kernel_rfl) (by kernel_rfl) (by kernel_rfl) (fun _ _ _ h => h) ?_ hHeld ?_
  rotate_left
  · intro o ho
    simp at ho
    subst ho
    intro wz hSw
    try dsimp only at hSw
    go_simp
    try with_reducible rfl
  try simp only [Act.put, List.setIfInBounds_toArray, List.set_cons_zero, List.set_cons_succ]
  refine wpAnyH_done (by kernel_rfl) (NoPanic.normal ?_) _
  clear hHeld
  clear x0 x1 hw0
  go_wp2_with fail
  go_at_call 9
  refine (awake8_any _).mono ?_
  rintro e w1 ⟨rfl, hb1⟩
  have hB1 : Below w.heap.size w w1 := hB0.drew.trans (hb1.mono (show w.heap.size ≤ w0.heap.size by omega))
  have hs1 : w.heap.size + 2 ≤ w1.heap.size := by have : w0.heap.size ≤ w1.heap.size := hb1.size; omega
  have hX1 : Hid (Box w1 (w.heap.size + 1) x u) := (B2.carry (w' := w0.drew) rfl).below hb1
  clear hb1 hB0 B2 hs0
  by_cases c : 200 < (A.length : Int)
  · replace hB1 := hide hB1
    go_wp2_with fail
    go_at_call 9
    refine (awake8_any _).mono ?_
    rintro e w3 ⟨rfl, hb3⟩
    replace hb3 := hide hb3
    go_wp2_with fail
    go_ret
    exact ⟨rfl, (unhide hB1).trans ((unhide hb3).mono (by omega))⟩
  replace hB1 := hide hB1
  obtain ⟨S, hS⟩ : ∃ S, Hid (clampZ s 1 64 = S) := ⟨_, rfl⟩
  obtain ⟨W, hW⟩ : ∃ W, Hid (clampZ t 1 16 = W) := ⟨_, rfl⟩
  go_wp2_with fail
  go_at_call 10
  refine (new_c s t _).mono ?_
  rw [hS.out, hW.out]
  rintro e w2 ⟨p, F, rfl, hn, hb2, hF⟩
  replace hn := hide hn
  go_wp2_with fail
  go_at_call 11
  refine (rNew_c s t _).mono ?_
  rw [hS.out, hW.out]
  rintro e w3 ⟨m, G, rfl, hr, hb3, hG⟩
  have hE0 : Hid (Duo w w3 p m F G S W [] x u) := by
    have q2 := hb2.size
    exact ⟨(unhide hn).below hb3, hr, fun b hb => by have := hF b hb; omega, fun b hb => by have := hG b hb; omega, fun b hb e => by have := (unhide hn).lt b hb; have := hG b e; omega, ((unhide hX1).below hb2).below hb3, ((unhide hB1).trans (hb2.mono (by omega))).trans (hb3.mono (by omega))⟩
  clear hn hr hb2 hb3 hF hG hX1 hB1 hs1
  go_wp2_with fail
  go_loopw [40] (fun i wr => ∃ (j : Nat) (F G : Nat → Prop) (L : List Int), j ≤ A.length ∧ i = .int .i64 j ∧ Duo w wr p m F G S W L x u) (fun i _ => A.length - (intOf i).toNat)
  case atStart => exact ⟨0, F, G, [], Nat.zero_le _, rfl, unhide hE0⟩
  case round =>
    obtain ⟨j, F, G, L, hj, rfl, hE⟩ := hrel
    clear hE0
    by_cases hlt : j < A.length
    · have hlt' : (j : Int) < A.length := by omega
      obtain ⟨b, o, rfl, hbB, hbl, a0, a1, a2⟩ := acts_row ((unhide hA).below hE.bel) hlt
      generalize A[j] = a at a0 a1 a2
      obtain ⟨k, bl⟩ := a
      dsimp only at a0 a1 a2
      obtain ⟨wa, hwa⟩ : ∃ wa, wr.alloc (.cells #[.int .i64 k, .int .i64 bl] 30) = wa := ⟨_, rfl⟩
      have hEa : Duo w wa p m F G S W L x u := by rw [← hwa]; exact hE.quiet (belA' _ _)
      have hXa : Box wa wr.heap.size k bl := by rw [← hwa]; exact box_new _ _ _ _
      have hFa : Hid (∀ b, F b ∨ G b → b ≠ wr.heap.size) := fun b hb e => by
        rcases hb with hb | hb
        · have := hE.n.lt b hb; omega
        · have := hE.r.lt b hb; omega
      obtain ⟨hXl, y0, y1⟩ := hXa
      replace hEa := hide hEa
      clear hE
      by_cases ck1 : k = 1
      · subst ck1
        go_wp2_with fail
        refine wp_region_noPanic ?_
        refine wp_region_held_drew (S := fun w' => w'.cell? ⟨wr.heap.size, 1, none⟩ = some (.int .i64 bl)) (by kernel_rfl) ?_ (fun hHeld => ?_)
        · exact y1
        obtain ⟨wd, hwd⟩ : ∃ wd, wa.drew = wd := ⟨_, rfl⟩
        have hEd : Hid (Duo w wd p m F G S W L x u) := by rw [← hwd]; exact (unhide hEa).quiet (Below.refl _ _).drew
        have z1 : wd.cell? ⟨wr.heap.size, 1, none⟩ = some (.int .i64 bl) := by rw [← hwd]; exact y1
        have zl : wr.heap.size < wd.heap.size := by rw [← hwd]; exact hXl
        rw [hwd] at hHeld ⊢
        clear hwd hEa y0 y1 hwa hXl
        obtain ⟨ok, hok⟩ : ∃ ok, Hid (okAdd S W L bl = ok) := ⟨_, rfl⟩
        refine hand_take (i := 0) (d := some 48) (v := ?_) rfl (by kernel_rfl) (by kernel_rfl) (by kernel_rfl) (fun _ _ _ h => h) ?_ hHeld ?_
        rotate_left
        · intro o ho
          simp at ho
          subst ho
          intro wz hSw
          try dsimp only at hSw
          go_simp
          try with_reducible rfl
        try simp only [Act.put, List.setIfInBounds_toArray, List.set_cons_zero, List.set_cons_succ]
        refine hand_take (i := 1) (d := some 49) (v := ?_) rfl (by kernel_rfl) (by kernel_rfl) (by kernel_rfl) (fun _ _ _ h => h) ?_ hHeld ?_
        rotate_left
        · intro o ho
          simp at ho
          subst ho
          intro wz hSw
          try dsimp only at hSw
          go_simp
          try with_reducible rfl
        try simp only [Act.put, List.setIfInBounds_toArray, List.set_cons_zero, List.set_cons_succ]
        refine hand_take (i := 2) (d := some 50) (v := ?_) rfl (by kernel_rfl) (by kernel_rfl) (by kernel_rfl) (fun _ _ _ h => h) ?_ hHeld ?_
        rotate_left
        · intro o ho
          simp at ho
          subst ho
          intro wz hSw
          try dsimp only at hSw
          go_simp
          try with_reducible rfl
        try simp only [Act.put, List.setIfInBounds_toArray, List.set_cons_zero, List.set_cons_succ]
        refine hand_take (i := 4) (d := some 52) (v := ?_) rfl (by kernel_rfl) (by kernel_rfl) (by kernel_rfl) (fun _ _ _ h => h) ?_ hHeld ?_
        rotate_left
        · intro o ho
          simp at ho
          subst ho
          intro wz hSw
          try dsimp only at hSw
          go_simp
          try with_reducible rfl
        try simp only [Act.put, List.setIfInBounds_toArray, List.set_cons_zero, List.set_cons_succ]
        refine hand_take (i := 5) (d := some 53) (v := ?_) rfl (by kernel_rfl) (by kernel_rfl) (by kernel_rfl) (fun _ _ _ h => h) ?_ hHeld ?_
        rotate_left
        · intro o ho
          simp at ho
          subst ho
          intro wz hSw
          try dsimp only at hSw
          go_simp
          try with_reducible rfl
        try simp only [Act.put, List.setIfInBounds_toArray, List.set_cons_zero, List.set_cons_succ]
        refine hand_take (i := 6) (d := some 54) (v := ?_) rfl (by kernel_rfl) (by kernel_rfl) (by kernel_rfl) (fun _ _ _ h => h) ?_ hHeld ?_
        rotate_left
        · intro o ho
          simp at ho
          subst ho
          intro wz hSw
          try dsimp only at hSw
          go_simp
          try with_reducible rfl
        try simp only [Act.put, List.setIfInBounds_toArray, List.set_cons_zero, List.set_cons_succ]
        refine hand_call (i := 3) rfl (by kernel_rfl) ?_
        intro o3 ho
        simp at ho
        subst ho
        intro K hK
        go_simp
        go_at_call 12
        refine (add_c p F S W bl L wd (unhide hEd).n a2).mono ?_
        rw [hok.out]
        rintro e w4 ⟨rfl, F4, hn4, st4⟩
        have z4 : w4.cell? ⟨wr.heap.size, 1, none⟩ = some (.int .i64 bl) := (st4.fr.cell zl (fun e => unhide hFa _ (.inl e) rfl)).trans z1
        have zl4 : wr.heap.size < w4.heap.size := Nat.lt_of_lt_of_le zl st4.fr.size
        replace hn4 := hide hn4
        replace st4 := hide st4
        refine hK.out _ _ ?_ (fun hHeld => ?_)
        · exact z4
        clear hK K
        try simp only [Act.put, List.setIfInBounds_toArray, List.set_cons_zero, List.set_cons_succ]
        refine hand_call (i := 7) rfl (by kernel_rfl) ?_
        intro o7 ho
        simp at ho
        subst ho
        intro K hK
        go_simp
        go_at_call 13
        refine (rAdd_c m G S W bl L w4 ((unhide hEd).mid (unhide st4)) a2).mono ?_
        rw [hok.out]
        rintro e w5 ⟨rfl, G5, hn5, st5⟩
        have z5 : w5.cell? ⟨wr.heap.size, 1, none⟩ = some (.int .i64 bl) := (st5.fr.cell zl4 (fun e => unhide hFa _ (.inr e) rfl)).trans z4
        have hE5 := hide ((unhide hEd).both (unhide hn4) (unhide st4) hn5 st5)
        refine hK.out _ _ ?_ (fun hHeld => ?_)
        · exact z5
        clear hK K hn5 st5 hn4 st4 hEd z1 zl z4 zl4 z5
        try simp only [Act.put, List.setIfInBounds_toArray, List.set_cons_zero, List.set_cons_succ]
        refine hand_take (i := 8) (d := some 56) (v := .bool true) rfl (by kernel_rfl) (by kernel_rfl) (by kernel_rfl) (fun _ _ _ h => h) ?_ hHeld ?_
        · intro o ho
          simp at ho
          subst ho
          intro wz hSw
          try dsimp only at hSw
          go_simp; try simp
        try simp only [Act.put, List.setIfInBounds_toArray, List.set_cons_zero, List.set_cons_succ]
        refine hand_take (i := 9) (d := some 13) (v := ?_) rfl (by kernel_rfl) (by kernel_rfl) (by kernel_rfl) (fun _ _ _ h => h) ?_ hHeld ?_
        rotate_left
        · intro o ho
          simp at ho
          subst ho
          intro wz hSw
          try dsimp only at hSw
          go_simp
          try with_reducible rfl
        try simp only [Act.put, List.setIfInBounds_toArray, List.set_cons_zero, List.set_cons_succ]
        refine wpAnyH_done (by kernel_rfl) (NoPanic.normal ?_) _
        clear hHeld
        obtain ⟨L5, hL5⟩ : ∃ L5, Hid (nxAdd S W L bl = L5) := ⟨_, rfl⟩
        rw [hL5.out] at hE5
        obtain ⟨-, x0, x1⟩ := (unhide hE5).box
        obtain ⟨⟨v1, ok1⟩, hvv⟩ : ∃ b, Hid (vicA S W L5 x u = b) := ⟨_, rfl⟩
        obtain ⟨had, hhad⟩ : ∃ b, Hid (decide (x ∈ L5) = b) := ⟨_, rfl⟩
        go_wp2_with fail
        go_at_call 18
        refine (victim_c p F4 S W x u L5 w5 (unhide hE5).n).mono ?_
        rw [hvv.out]
        rintro e w6 ⟨rfl, n6, rfl⟩
        go_wp2_with fail
        go_at_call 19
        refine (rVictim_c m G5 S W x u L5 _ ((unhide hE5).r.drewN _)).mono ?_
        rw [hvv.out]
        rintro e w7 ⟨rfl, hb7⟩
        have hE7 := hide ((unhide hE5).quiet ((belD _ _).trans hb7))
        clear x0 x1 hb7 hE5
        obtain ⟨-, x0, x1⟩ := (unhide hE7).box
        go_wp2_with fail
        refine wp_region_noPanic ?_
        refine wp_region_held_drew (S := fun w' => w'.cell? ⟨w.heap.size + 1, 0, none⟩ = some (.int .i64 x)) (by kernel_rfl) ?_ (fun hHeld => ?_)
        · exact x0
        obtain ⟨w8, hw8⟩ : ∃ w8, w7.drew = w8 := ⟨_, rfl⟩
        have hE8 : Hid (Duo w w8 p m F4 G5 S W L5 x u) := by rw [← hw8]; exact (unhide hE7).quiet (Below.refl _ _).drew
        rw [hw8] at hHeld ⊢
        clear hw8 hE7 x0 x1
        refine hand_take (i := 0) (d := some 97) (v := ?_) rfl (by kernel_rfl) (by kernel_rfl) (by kernel_rfl) (fun _ _ _ h => h) ?_ hHeld ?_
        rotate_left
        · intro o ho
          simp at ho
          subst ho
          intro wz hSw
          try dsimp only at hSw
          go_simp
          try with_reducible rfl
        try simp only [Act.put, List.setIfInBounds_toArray, List.set_cons_zero, List.set_cons_succ]
        refine hand_take (i := 1) (d := some 98) (v := ?_) rfl (by kernel_rfl) (by kernel_rfl) (by kernel_rfl) (fun _ _ _ h => h) ?_ hHeld ?_
        rotate_left
        · intro o ho
          simp at ho
          subst ho
          intro wz hSw
          try dsimp only at hSw
          go_simp
          try with_reducible rfl
        try simp only [Act.put, List.setIfInBounds_toArray, List.set_cons_zero, List.set_cons_succ]
        refine hand_take (i := 2) (d := some 99) (v := ?_) rfl (by kernel_rfl) (by kernel_rfl) (by kernel_rfl) (fun _ _ _ h => h) ?_ hHeld ?_
        rotate_left
        · intro o ho
          simp at ho
          subst ho
          intro wz hSw
          try dsimp only at hSw
          go_simp
          try with_reducible rfl
        try simp only [Act.put, List.setIfInBounds_toArray, List.set_cons_zero, List.set_cons_succ]
        refine hand_take (i := 3) (d := some 100) (v := ?_) rfl (by kernel_rfl) (by kernel_rfl) (by kernel_rfl) (fun _ _ _ h => h) ?_ hHeld ?_
        rotate_left
        · intro o ho
          simp at ho
          subst ho
          intro wz hSw
          try dsimp only at hSw
          go_simp
          try with_reducible rfl
        try simp only [Act.put, List.setIfInBounds_toArray, List.set_cons_zero, List.set_cons_succ]
        refine hand_take (i := 4) (d := some 101) (v := ?_) rfl (by kernel_rfl) (by kernel_rfl) (by kernel_rfl) (fun _ _ _ h => h) ?_ hHeld ?_
        rotate_left
        · intro o ho
          simp at ho
          subst ho
          intro wz hSw
          try dsimp only at hSw
          go_simp
          try with_reducible rfl
        try simp only [Act.put, List.setIfInBounds_toArray, List.set_cons_zero, List.set_cons_succ]
        refine hand_take (i := 5) (d := some 102) (v := .bool false) rfl (by kernel_rfl) (by kernel_rfl) (by kernel_rfl) (fun _ _ _ h => h) ?_ hHeld ?_
        · intro o ho
          simp at ho
          subst ho
          intro wz hSw
          try dsimp only at hSw
          go_simp; try simp
        try simp only [Act.put, List.setIfInBounds_toArray, List.set_cons_zero, List.set_cons_succ]
        refine hand_take (i := 6) (d := some 103) (v := ?_) rfl (by kernel_rfl) (by kernel_rfl) (by kernel_rfl) (fun _ _ _ h => h) ?_ hHeld ?_
        rotate_left
        · intro o ho
          simp at ho
          subst ho
          intro wz hSw
          try dsimp only at hSw
          go_simp
          try with_reducible rfl
        try simp only [Act.put, List.setIfInBounds_toArray, List.set_cons_zero, List.set_cons_succ]
        refine hand_take (i := 7) (d := some 104) (v := ?_) rfl (by kernel_rfl) (by kernel_rfl) (by kernel_rfl) (fun _ _ _ h => h) ?_ hHeld ?_
        rotate_left
        · intro o ho
          simp at ho
          subst ho
          intro wz hSw
          try dsimp only at hSw
          go_simp
          try with_reducible rfl
        try simp only [Act.put, List.setIfInBounds_toArray, List.set_cons_zero, List.set_cons_succ]
        refine hand_take (i := 8) (d := some 105) (v := ?_) rfl (by kernel_rfl) (by kernel_rfl) (by kernel_rfl) (fun _ _ _ h => h) ?_ hHeld ?_
        rotate_left
        · intro o ho
          simp at ho
          subst ho
          intro wz hSw
          try dsimp only at hSw
          go_simp
          try with_reducible rfl
        try simp only [Act.put, List.setIfInBounds_toArray, List.set_cons_zero, List.set_cons_succ]
        refine hand_take (i := 9) (d := some 106) (v := ?_) rfl (by kernel_rfl) (by kernel_rfl) (by kernel_rfl) (fun _ _ _ h => h) ?_ hHeld ?_
        rotate_left
        · intro o ho
          simp at ho
          subst ho
          intro wz hSw
          try dsimp only at hSw
          go_simp
          try with_reducible rfl
        try simp only [Act.put, List.setIfInBounds_toArray, List.set_cons_zero, List.set_cons_succ]
        refine hand_take (i := 10) (d := some 107) (v := .bool false) rfl (by kernel_rfl) (by kernel_rfl) (by kernel_rfl) (fun _ _ _ h => h) ?_ hHeld ?_
        · intro o ho
          simp at ho
          subst ho
          intro wz hSw
          try dsimp only at hSw
          go_simp; try simp
        try simp only [Act.put, List.setIfInBounds_toArray, List.set_cons_zero, List.set_cons_succ]
        refine hand_take (i := 11) (d := some 108) (v := ?_) rfl (by kernel_rfl) (by kernel_rfl) (by kernel_rfl) (fun _ _ _ h => h) ?_ hHeld ?_
        rotate_left
        · intro o ho
          simp at ho
          subst ho
          intro wz hSw
          try dsimp only at hSw
          go_simp
          try with_reducible rfl
        try simp only [Act.put, List.setIfInBounds_toArray, List.set_cons_zero, List.set_cons_succ]
        refine hand_take (i := 12) (d := some 109) (v := ?_) rfl (by kernel_rfl) (by kernel_rfl) (by kernel_rfl) (fun _ _ _ h => h) ?_ hHeld ?_
        rotate_left
        · intro o ho
          simp at ho
          subst ho
          intro wz hSw
          try dsimp only at hSw
          go_simp
          try with_reducible rfl
        try simp only [Act.put, List.setIfInBounds_toArray, List.set_cons_zero, List.set_cons_succ]
        refine hand_take (i := 13) (d := some 110) (v := ?_) rfl (by kernel_rfl) (by kernel_rfl) (by kernel_rfl) (fun _ _ _ h => h) ?_ hHeld ?_
        rotate_left
        · intro o ho
          simp at ho
          subst ho
          intro wz hSw
          try dsimp only at hSw
          go_simp
          try with_reducible rfl
        try simp only [Act.put, List.setIfInBounds_toArray, List.set_cons_zero, List.set_cons_succ]
        refine hand_take (i := 14) (d := some 111) (v := ?_) rfl (by kernel_rfl) (by kernel_rfl) (by kernel_rfl) (fun _ _ _ h => h) ?_ hHeld ?_
        rotate_left
        · intro o ho
          simp at ho
          subst ho
          intro wz hSw
          try dsimp only at hSw
          go_simp
          try with_reducible rfl
        try simp only [Act.put, List.setIfInBounds_toArray, List.set_cons_zero, List.set_cons_succ]
        refine hand_take (i := 15) (d := some 112) (v := ?_) rfl (by kernel_rfl) (by kernel_rfl) (by kernel_rfl) (fun _ _ _ h => h) ?_ hHeld ?_
        rotate_left
        · intro o ho
          simp at ho
          subst ho
          intro wz hSw
          try dsimp only at hSw
          go_simp
          try with_reducible rfl
        try simp only [Act.put, List.setIfInBounds_toArray, List.set_cons_zero, List.set_cons_succ]
        refine hand_take (i := 17) (d := some 114) (v := ?_) rfl (by kernel_rfl) (by kernel_rfl) (by kernel_rfl) (fun _ _ _ h => h) ?_ hHeld ?_
        rotate_left
        · intro o ho
          simp at ho
          subst ho
          intro wz hSw
          try dsimp only at hSw
          go_simp
          try with_reducible rfl
        try simp only [Act.put, List.setIfInBounds_toArray, List.set_cons_zero, List.set_cons_succ]
        refine hand_take (i := 18) (d := some 115) (v := ?_) rfl (by kernel_rfl) (by kernel_rfl) (by kernel_rfl) (fun _ _ _ h => h) ?_ hHeld ?_
        rotate_left
        · intro o ho
          simp at ho
          subst ho
          intro wz hSw
          try dsimp only at hSw
          go_simp
          try with_reducible rfl
        try simp only [Act.put, List.setIfInBounds_toArray, List.set_cons_zero, List.set_cons_succ]
        refine hand_take (i := 19) (d := some 116) (v := ?_) rfl (by kernel_rfl) (by kernel_rfl) (by kernel_rfl) (fun _ _ _ h => h) ?_ hHeld ?_
        rotate_left
        · intro o ho
          simp at ho
          subst ho
          intro wz hSw
          try dsimp only at hSw
          go_simp
          try with_reducible rfl
        try simp only [Act.put, List.setIfInBounds_toArray, List.set_cons_zero, List.set_cons_succ]
        refine hand_call (i := 16) rfl (by kernel_rfl) ?_
        intro o16 ho
        simp at ho
        subst ho
        intro K hK
        go_simp
        go_at_call 20
        refine (has_c p F4 S W x L5 w8 (unhide hE8).n).mono ?_
        rw [hhad.out]
        rintro e w9 ⟨rfl, n9, rfl⟩
        have hE9 := hide ((unhide hE8).quiet (belD _ n9))
        refine hK.out _ _ ?_ (fun hHeld => ?_)
        · exact (unhide hE9).box.c0
        clear hK K hE8
        try simp only [Act.put, List.setIfInBounds_toArray, List.set_cons_zero, List.set_cons_succ]
        refine hand_call (i := 20) rfl (by kernel_rfl) ?_
        intro o20 ho
        simp at ho
        subst ho
        intro K hK
        go_simp
        go_at_call 21
        refine (rHas_c m G5 S W x L5 _ (unhide hE9).r).mono ?_
        rw [hhad.out]
        rintro e w' ⟨rfl, hw'⟩
        rw [hw']
        clear hw' w'
        refine hK.out _ _ ?_ (fun hHeld => ?_)
        · exact (unhide hE9).box.c0
        clear hK K
        try simp only [Act.put, List.setIfInBounds_toArray, List.set_cons_zero, List.set_cons_succ]
        refine hand_take (i := 21) (d := some 118) (v := .bool false) rfl (by kernel_rfl) (by kernel_rfl) (by kernel_rfl) (fun _ _ _ h => h) ?_ hHeld ?_
        · intro o ho
          simp at ho
          subst ho
          intro wz hSw
          try dsimp only at hSw
          go_simp; try simp
        try simp only [Act.put, List.setIfInBounds_toArray, List.set_cons_zero, List.set_cons_succ]
        refine hand_take (i := 22) (d := some 119) (v := ?_) rfl (by kernel_rfl) (by kernel_rfl) (by kernel_rfl) (fun _ _ _ h => h) ?_ hHeld ?_
        rotate_left
        · intro o ho
          simp at ho
          subst ho
          intro wz hSw
          try dsimp only at hSw
          go_simp
          try with_reducible rfl
        try simp only [Act.put, List.setIfInBounds_toArray, List.set_cons_zero, List.set_cons_succ]
        refine hand_take (i := 23) (d := some 120) (v := ?_) rfl (by kernel_rfl) (by kernel_rfl) (by kernel_rfl) (fun _ _ _ h => h) ?_ hHeld ?_
        rotate_left
        · intro o ho
          simp at ho
          subst ho
          intro wz hSw
          try dsimp only at hSw
          go_simp
          try with_reducible rfl
        try simp only [Act.put, List.setIfInBounds_toArray, List.set_cons_zero, List.set_cons_succ]
        refine hand_take (i := 24) (d := some 121) (v := ?_) rfl (by kernel_rfl) (by kernel_rfl) (by kernel_rfl) (fun _ _ _ h => h) ?_ hHeld ?_
        rotate_left
        · intro o ho
          simp at ho
          subst ho
          intro wz hSw
          try dsimp only at hSw
          go_simp
          try with_reducible rfl
        try simp only [Act.put, List.setIfInBounds_toArray, List.set_cons_zero, List.set_cons_succ]
        refine hand_take (i := 26) (d := some 123) (v := ?_) rfl (by kernel_rfl) (by kernel_rfl) (by kernel_rfl) (fun _ _ _ h => h) ?_ hHeld ?_
        rotate_left
        · intro o ho
          simp at ho
          subst ho
          intro wz hSw
          try dsimp only at hSw
          go_simp
          try with_reducible rfl
        try simp only [Act.put, List.setIfInBounds_toArray, List.set_cons_zero, List.set_cons_succ]
        refine hand_call (i := 25) rfl (by kernel_rfl) ?_
        intro o25 ho
        simp at ho
        subst ho
        intro K hK
        go_simp
        go_at_call 23
        refine (list_c p F4 S W L5 _ (unhide hE9).n).mono ?_
        rintro e w10 ⟨v10, g10, rfl, hg10, hO10, hb10⟩
        have hE10 := hide ((unhide hE9).quiet hb10)
        have hO10' := hide hO10
        obtain ⟨ao10, cap10, rfl, -⟩ := hO10
        refine hK.out _ _ ?_ (fun hHeld => ?_)
        · exact (unhide hE10).box.c0
        clear hK K hE9 hb10 hg10
        try simp only [Act.put, List.setIfInBounds_toArray, List.set_cons_zero, List.set_cons_succ]
        refine hand_call (i := 27) rfl (by kernel_rfl) ?_
        intro o27 ho
        simp at ho
        subst ho
        intro K hK
        go_simp
        go_at_call 24
        refine (rList_c m G5 S W L5 _ (unhide hE10).r).mono ?_
        rintro e w11 ⟨v11, g11, rfl, hg11, hO11, hb11⟩
        have hE11 := hide ((unhide hE10).quiet hb11)
        have hV10 := hide ((unhide hO10').view.below hb11)
        have hO11' := hide hO11
        obtain ⟨ao11, cap11, rfl, -⟩ := hO11
        refine hK.out _ _ ?_ (fun hHeld => ?_)
        · exact (unhide hE11).box.c0
        clear hK K hE10 hb11 hg11 hO10'
        try simp only [Act.put, List.setIfInBounds_toArray, List.set_cons_zero, List.set_cons_succ]
        refine hand_call (i := 28) rfl (by kernel_rfl) ?_
        intro o28 ho
        simp at ho
        subst ho
        intro K hK
        go_simp
        go_at_call 22
        refine (ints_c _ _ _ _ (listA L5) (listA L5) w11 (unhide hV10) (unhide hO11').view).mono ?_
        simp only [decide_true]
        rintro e w12 ⟨rfl, n12, rfl⟩
        have hE12 := hide ((unhide hE11).quiet (belD _ n12))
        refine hK.out _ _ ?_ (fun hHeld => ?_)
        · exact (unhide hE12).box.c0
        clear hK K hE11 hV10 hO11'
        try simp only [Act.put, List.setIfInBounds_toArray, List.set_cons_zero, List.set_cons_succ]
        refine hand_take (i := 29) (d := some 126) (v := ?_) rfl (by kernel_rfl) (by kernel_rfl) (by kernel_rfl) (fun _ _ _ h => h) ?_ hHeld ?_
        rotate_left
        · intro o ho
          simp at ho
          subst ho
          intro wz hSw
          try dsimp only at hSw
          go_simp
          try with_reducible rfl
        try simp only [Act.put, List.setIfInBounds_toArray, List.set_cons_zero, List.set_cons_succ]
        refine hand_take (i := 30) (d := some 127) (v := ?_) rfl (by kernel_rfl) (by kernel_rfl) (by kernel_rfl) (fun _ _ _ h => h) ?_ hHeld ?_
        rotate_left
        · intro o ho
          simp at ho
          subst ho
          intro wz hSw
          try dsimp only at hSw
          go_simp
          try with_reducible rfl
        try simp only [Act.put, List.setIfInBounds_toArray, List.set_cons_zero, List.set_cons_succ]
        refine wpAnyH_done (by kernel_rfl) (NoPanic.normal ?_) _
        clear hHeld
        go_wp2_with fail
        go_roundw
        case rel => exact ⟨j + 1, F4, G5, L5, by omega, by simp, unhide hE12⟩
        case measure => simp [intOf]; omega
      by_cases ck2 : k = 2
      · subst ck2
        go_wp2_with fail
        refine wp_region_noPanic ?_
        refine wp_region_held_drew (S := fun w' => w'.cell? ⟨wr.heap.size, 1, none⟩ = some (.int .i64 bl)) (by kernel_rfl) ?_ (fun hHeld => ?_)
        · exact y1
        obtain ⟨wd, hwd⟩ : ∃ wd, wa.drew = wd := ⟨_, rfl⟩
        have hEd : Hid (Duo w wd p m F G S W L x u) := by rw [← hwd]; exact (unhide hEa).quiet (Below.refl _ _).drew
        have z1 : wd.cell? ⟨wr.heap.size, 1, none⟩ = some (.int .i64 bl) := by rw [← hwd]; exact y1
        have zl : wr.heap.size < wd.heap.size := by rw [← hwd]; exact hXl
        rw [hwd] at hHeld ⊢
        clear hwd hEa y0 y1 hwa hXl
        obtain ⟨ok, hok⟩ : ∃ ok, Hid (okRem L bl = ok) := ⟨_, rfl⟩
        refine hand_take (i := 0) (d := some 59) (v := ?_) rfl (by kernel_rfl) (by kernel_rfl) (by kernel_rfl) (fun _ _ _ h => h) ?_ hHeld ?_
        rotate_left
        · intro o ho
          simp at ho
          subst ho
          intro wz hSw
          try dsimp only at hSw
          go_simp
          try with_reducible rfl
        try simp only [Act.put, List.setIfInBounds_toArray, List.set_cons_zero, List.set_cons_succ]
        refine hand_take (i := 1) (d := some 60) (v := ?_) rfl (by kernel_rfl) (by kernel_rfl) (by kernel_rfl) (fun _ _ _ h => h) ?_ hHeld ?_
        rotate_left
        · intro o ho
          simp at ho
          subst ho
          intro wz hSw
          try dsimp only at hSw
          go_simp
          try with_reducible rfl
        try simp only [Act.put, List.setIfInBounds_toArray, List.set_cons_zero, List.set_cons_succ]
        refine hand_take (i := 2) (d := some 61) (v := ?_) rfl (by kernel_rfl) (by kernel_rfl) (by kernel_rfl) (fun _ _ _ h => h) ?_ hHeld ?_
        rotate_left
        · intro o ho
          simp at ho
          subst ho
          intro wz hSw
          try dsimp only at hSw
          go_simp
          try with_reducible rfl
        try simp only [Act.put, List.setIfInBounds_toArray, List.set_cons_zero, List.set_cons_succ]
        refine hand_take (i := 4) (d := some 63) (v := ?_) rfl (by kernel_rfl) (by kernel_rfl) (by kernel_rfl) (fun _ _ _ h => h) ?_ hHeld ?_
        rotate_left
        · intro o ho
          simp at ho
          subst ho
          intro wz hSw
          try dsimp only at hSw
          go_simp
          try with_reducible rfl
        try simp only [Act.put, List.setIfInBounds_toArray, List.set_cons_zero, List.set_cons_succ]
        refine hand_take (i := 5) (d := some 64) (v := ?_) rfl (by kernel_rfl) (by kernel_rfl) (by kernel_rfl) (fun _ _ _ h => h) ?_ hHeld ?_
        rotate_left
        · intro o ho
          simp at ho
          subst ho
          intro wz hSw
          try dsimp only at hSw
          go_simp
          try with_reducible rfl
        try simp only [Act.put, List.setIfInBounds_toArray, List.set_cons_zero, List.set_cons_succ]
        refine hand_take (i := 6) (d := some 65) (v := ?_) rfl (by kernel_rfl) (by kernel_rfl) (by kernel_rfl) (fun _ _ _ h => h) ?_ hHeld ?_
        rotate_left
        · intro o ho
          simp at ho
          subst ho
          intro wz hSw
          try dsimp only at hSw
          go_simp
          try with_reducible rfl
        try simp only [Act.put, List.setIfInBounds_toArray, List.set_cons_zero, List.set_cons_succ]
        refine hand_call (i := 3) rfl (by kernel_rfl) ?_
        intro o3 ho
        simp at ho
        subst ho
        intro K hK
        go_simp
        go_at_call 14
        refine (use_c p F S W bl L wd (unhide hEd).n a2).mono ?_
        rw [hok.out]
        rintro e w4 ⟨rfl, F4, hn4, st4⟩
        have z4 : w4.cell? ⟨wr.heap.size, 1, none⟩ = some (.int .i64 bl) := (st4.fr.cell zl (fun e => unhide hFa _ (.inl e) rfl)).trans z1
        have zl4 : wr.heap.size < w4.heap.size := Nat.lt_of_lt_of_le zl st4.fr.size
        replace hn4 := hide hn4
        replace st4 := hide st4
        refine hK.out _ _ ?_ (fun hHeld => ?_)
        · exact z4
        clear hK K
        try simp only [Act.put, List.setIfInBounds_toArray, List.set_cons_zero, List.set_cons_succ]
        refine hand_call (i := 7) rfl (by kernel_rfl) ?_
        intro o7 ho
        simp at ho
        subst ho
        intro K hK
        go_simp
        go_at_call 15
        refine (rUse_c m G S W bl L w4 ((unhide hEd).mid (unhide st4))).mono ?_
        rw [hok.out]
        rintro e w5 ⟨rfl, G5, hn5, st5⟩
        have z5 : w5.cell? ⟨wr.heap.size, 1, none⟩ = some (.int .i64 bl) := (st5.fr.cell zl4 (fun e => unhide hFa _ (.inr e) rfl)).trans z4
        have hE5 := hide ((unhide hEd).both (unhide hn4) (unhide st4) hn5 st5)
        refine hK.out _ _ ?_ (fun hHeld => ?_)
        · exact z5
        clear hK K hn5 st5 hn4 st4 hEd z1 zl z4 zl4 z5
        try simp only [Act.put, List.setIfInBounds_toArray, List.set_cons_zero, List.set_cons_succ]
        refine hand_take (i := 8) (d := some 67) (v := .bool true) rfl (by kernel_rfl) (by kernel_rfl) (by kernel_rfl) (fun _ _ _ h => h) ?_ hHeld ?_
        · intro o ho
          simp at ho
          subst ho
          intro wz hSw
          try dsimp only at hSw
          go_simp; try simp
        try simp only [Act.put, List.setIfInBounds_toArray, List.set_cons_zero, List.set_cons_succ]
        refine hand_take (i := 9) (d := some 13) (v := ?_) rfl (by kernel_rfl) (by kernel_rfl) (by kernel_rfl) (fun _ _ _ h => h) ?_ hHeld ?_
        rotate_left
        · intro o ho
          simp at ho
          subst ho
          intro wz hSw
          try dsimp only at hSw
          go_simp
          try with_reducible rfl
        try simp only [Act.put, List.setIfInBounds_toArray, List.set_cons_zero, List.set_cons_succ]
        refine wpAnyH_done (by kernel_rfl) (NoPanic.normal ?_) _
        clear hHeld
        obtain ⟨L5, hL5⟩ : ∃ L5, Hid (nxUse L bl = L5) := ⟨_, rfl⟩
        rw [hL5.out] at hE5
        obtain ⟨-, x0, x1⟩ := (unhide hE5).box
        obtain ⟨⟨v1, ok1⟩, hvv⟩ : ∃ b, Hid (vicA S W L5 x u = b) := ⟨_, rfl⟩
        obtain ⟨had, hhad⟩ : ∃ b, Hid (decide (x ∈ L5) = b) := ⟨_, rfl⟩
        go_wp2_with fail
        go_at_call 18
        refine (victim_c p F4 S W x u L5 w5 (unhide hE5).n).mono ?_
        rw [hvv.out]
        rintro e w6 ⟨rfl, n6, rfl⟩
        go_wp2_with fail
        go_at_call 19
        refine (rVictim_c m G5 S W x u L5 _ ((unhide hE5).r.drewN _)).mono ?_
        rw [hvv.out]
        rintro e w7 ⟨rfl, hb7⟩
        have hE7 := hide ((unhide hE5).quiet ((belD _ _).trans hb7))
        clear x0 x1 hb7 hE5
        obtain ⟨-, x0, x1⟩ := (unhide hE7).box
        go_wp2_with fail
        refine wp_region_noPanic ?_
        refine wp_region_held_drew (S := fun w' => w'.cell? ⟨w.heap.size + 1, 0, none⟩ = some (.int .i64 x)) (by kernel_rfl) ?_ (fun hHeld => ?_)
        · exact x0
        obtain ⟨w8, hw8⟩ : ∃ w8, w7.drew = w8 := ⟨_, rfl⟩
        have hE8 : Hid (Duo w w8 p m F4 G5 S W L5 x u) := by rw [← hw8]; exact (unhide hE7).quiet (Below.refl _ _).drew
        rw [hw8] at hHeld ⊢
        clear hw8 hE7 x0 x1
        refine hand_take (i := 0) (d := some 97) (v := ?_) rfl (by kernel_rfl) (by kernel_rfl) (by kernel_rfl) (fun _ _ _ h => h) ?_ hHeld ?_
        rotate_left
        · intro o ho
          simp at ho
          subst ho
          intro wz hSw
          try dsimp only at hSw
          go_simp
          try with_reducible rfl
        try simp only [Act.put, List.setIfInBounds_toArray, List.set_cons_zero, List.set_cons_succ]
        refine hand_take (i := 1) (d := some 98) (v := ?_) rfl (by kernel_rfl) (by kernel_rfl) (by kernel_rfl) (fun _ _ _ h => h) ?_ hHeld ?_
        rotate_left
        · intro o ho
          simp at ho
          subst ho
          intro wz hSw
          try dsimp only at hSw
          go_simp
          try with_reducible rfl
        try simp only [Act.put, List.setIfInBounds_toArray, List.set_cons_zero, List.set_cons_succ]
        refine hand_take (i := 2) (d := some 99) (v := ?_) rfl (by kernel_rfl) (by kernel_rfl) (by kernel_rfl) (fun _ _ _ h => h) ?_ hHeld ?_
        rotate_left
        · intro o ho
          simp at ho
          subst ho
          intro wz hSw
          try dsimp only at hSw
          go_simp
          try with_reducible rfl
        try simp only [Act.put, List.setIfInBounds_toArray, List.set_cons_zero, List.set_cons_succ]
        refine hand_take (i := 3) (d := some 100) (v := ?_) rfl (by kernel_rfl) (by kernel_rfl) (by kernel_rfl) (fun _ _ _ h => h) ?_ hHeld ?_
        rotate_left
        · intro o ho
          simp at ho
          subst ho
          intro wz hSw
          try dsimp only at hSw
          go_simp
          try with_reducible rfl
        try simp only [Act.put, List.setIfInBounds_toArray, List.set_cons_zero, List.set_cons_succ]
        refine hand_take (i := 4) (d := some 101) (v := ?_) rfl (by kernel_rfl) (by kernel_rfl) (by kernel_rfl) (fun _ _ _ h => h) ?_ hHeld ?_
        rotate_left
        · intro o ho
          simp at ho
          subst ho
          intro wz hSw
          try dsimp only at hSw
          go_simp
          try with_reducible rfl
        try simp only [Act.put, List.setIfInBounds_toArray, List.set_cons_zero, List.set_cons_succ]
        refine hand_take (i := 5) (d := some 102) (v := .bool false) rfl (by kernel_rfl) (by kernel_rfl) (by kernel_rfl) (fun _ _ _ h => h) ?_ hHeld ?_
        · intro o ho
          simp at ho
          subst ho
          intro wz hSw
          try dsimp only at hSw
          go_simp; try simp
        try simp only [Act.put, List.setIfInBounds_toArray, List.set_cons_zero, List.set_cons_succ]
        refine hand_take (i := 6) (d := some 103) (v := ?_) rfl (by kernel_rfl) (by kernel_rfl) (by kernel_rfl) (fun _ _ _ h => h) ?_ hHeld ?_
        rotate_left
        · intro o ho
          simp at ho
          subst ho
          intro wz hSw
          try dsimp only at hSw
          go_simp
          try with_reducible rfl
        try simp only [Act.put, List.setIfInBounds_toArray, List.set_cons_zero, List.set_cons_succ]
        refine hand_take (i := 7) (d := some 104) (v := ?_) rfl (by kernel_rfl) (by kernel_rfl) (by kernel_rfl) (fun _ _ _ h => h) ?_ hHeld ?_
        rotate_left
        · intro o ho
          simp at ho
          subst ho
          intro wz hSw
          try dsimp only at hSw
          go_simp
          try with_reducible rfl
        try simp only [Act.put, List.setIfInBounds_toArray, List.set_cons_zero, List.set_cons_succ]
        refine hand_take (i := 8) (d := some 105) (v := ?_) rfl (by kernel_rfl) (by kernel_rfl) (by kernel_rfl) (fun _ _ _ h => h) ?_ hHeld ?_
        rotate_left
        · intro o ho
          simp at ho
          subst ho
          intro wz hSw
          try dsimp only at hSw
          go_simp
          try with_reducible rfl
        try simp only [Act.put, List.setIfInBounds_toArray, List.set_cons_zero, List.set_cons_succ]
        refine hand_take (i := 9) (d := some 106) (v := ?_) rfl (by kernel_rfl) (by kernel_rfl) (by kernel_rfl) (fun _ _ _ h => h) ?_ hHeld ?_
        rotate_left
        · intro o ho
          simp at ho
          subst ho
          intro wz hSw
          try dsimp only at hSw
          go_simp
          try with_reducible rfl
        try simp only [Act.put, List.setIfInBounds_toArray, List.set_cons_zero, List.set_cons_succ]
        refine hand_take (i := 10) (d := some 107) (v := .bool false) rfl (by kernel_rfl) (by kernel_rfl) (by kernel_rfl) (fun _ _ _ h => h) ?_ hHeld ?_
        · intro o ho
          simp at ho
          subst ho
          intro wz hSw
          try dsimp only at hSw
          go_simp; try simp
        try simp only [Act.put, List.setIfInBounds_toArray, List.set_cons_zero, List.set_cons_succ]
        refine hand_take (i := 11) (d := some 108) (v := ?_) rfl (by kernel_rfl) (by kernel_rfl) (by kernel_rfl) (fun _ _ _ h => h) ?_ hHeld ?_
        rotate_left
        · intro o ho
          simp at ho
          subst ho
          intro wz hSw
          try dsimp only at hSw
          go_simp
          try with_reducible rfl
        try simp only [Act.put, List.setIfInBounds_toArray, List.set_cons_zero, List.set_cons_succ]
        refine hand_take (i := 12) (d := some 109) (v := ?_) rfl (by kernel_rfl) (by kernel_rfl) (by kernel_rfl) (fun _ _ _ h => h) ?_ hHeld ?_
        rotate_left
        · intro o ho
          simp at ho
          subst ho
          intro wz hSw
          try dsimp only at hSw
          go_simp
          try with_reducible rfl
        try simp only [Act.put, List.setIfInBounds_toArray, List.set_cons_zero, List.set_cons_succ]
        refine hand_take (i := 13) (d := some 110) (v := ?_) rfl (by kernel_rfl) (by kernel_rfl) (by kernel_rfl) (fun _ _ _ h => h) ?_ hHeld ?_
        rotate_left
        · intro o ho
          simp at ho
          subst ho
          intro wz hSw
          try dsimp only at hSw
          go_simp
          try with_reducible rfl
        try simp only [Act.put, List.setIfInBounds_toArray, List.set_cons_zero, List.set_cons_succ]
        refine hand_take (i := 14) (d := some 111) (v := ?_) rfl (by kernel_rfl) (by kernel_rfl) (by kernel_rfl) (fun _ _ _ h => h) ?_ hHeld ?_
        rotate_left
        · intro o ho
          simp at ho
          subst ho
          intro wz hSw
          try dsimp only at hSw
          go_simp
          try with_reducible rfl
        try simp only [Act.put, List.setIfInBounds_toArray, List.set_cons_zero, List.set_cons_succ]
        refine hand_take (i := 15) (d := some 112) (v := ?_) rfl (by kernel_rfl) (by kernel_rfl) (by kernel_rfl) (fun _ _ _ h => h) ?_ hHeld ?_
        rotate_left
        · intro o ho
          simp at ho
          subst ho
          intro wz hSw
          try dsimp only at hSw
          go_simp
          try with_reducible rfl
        try simp only [Act.put, List.setIfInBounds_toArray, List.set_cons_zero, List.set_cons_succ]
        refine hand_take (i := 17) (d := some 114) (v := ?_) rfl (by kernel_rfl) (by kernel_rfl) (by kernel_rfl) (fun _ _ _ h => h) ?_ hHeld ?_
        rotate_left
        · intro o ho
          simp at ho
          subst ho
          intro wz hSw
          try dsimp only at hSw
          go_simp
          try with_reducible rfl
        try simp only [Act.put, List.setIfInBounds_toArray, List.set_cons_zero, List.set_cons_succ]
        refine hand_take (i := 18) (d := some 115) (v := ?_) rfl (by kernel_rfl) (by kernel_rfl) (by kernel_rfl) (fun _ _ _ h => h) ?_ hHeld ?_
        rotate_left
        · intro o ho
          simp at ho
          subst ho
          intro wz hSw
          try dsimp only at hSw
          go_simp
          try with_reducible rfl
        try simp only [Act.put, List.setIfInBounds_toArray, List.set_cons_zero, List.set_cons_succ]
        refine hand_take (i := 19) (d := some 116) (v := ?_) rfl (by kernel_rfl) (by kernel_rfl) (by kernel_rfl) (fun _ _ _ h => h) ?_ hHeld ?_
        rotate_left
        · intro o ho
          simp at ho
          subst ho
          intro wz hSw
          try dsimp only at hSw
          go_simp
          try with_reducible rfl
        try simp only [Act.put, List.setIfInBounds_toArray, List.set_cons_zero, List.set_cons_succ]
        refine hand_call (i := 16) rfl (by kernel_rfl) ?_
        intro o16 ho
        simp at ho
        subst ho
        intro K hK
        go_simp
        go_at_call 20
        refine (has_c p F4 S W x L5 w8 (unhide hE8).n).mono ?_
        rw [hhad.out]
        rintro e w9 ⟨rfl, n9, rfl⟩
        have hE9 := hide ((unhide hE8).quiet (belD _ n9))
        refine hK.out _ _ ?_ (fun hHeld => ?_)
        · exact (unhide hE9).box.c0
        clear hK K hE8
        try simp only [Act.put, List.setIfInBounds_toArray, List.set_cons_zero, List.set_cons_succ]
        refine hand_call (i := 20) rfl (by kernel_rfl) ?_
        intro o20 ho
        simp at ho
        subst ho
        intro K hK
        go_simp
        go_at_call 21
        refine (rHas_c m G5 S W x L5 _ (unhide hE9).r).mono ?_
        rw [hhad.out]
        rintro e w' ⟨rfl, hw'⟩
        rw [hw']
        clear hw' w'
        refine hK.out _ _ ?_ (fun hHeld => ?_)
        · exact (unhide hE9).box.c0
        clear hK K
        try simp only [Act.put, List.setIfInBounds_toArray, List.set_cons_zero, List.set_cons_succ]
        refine hand_take (i := 21) (d := some 118) (v := .bool false) rfl (by kernel_rfl) (by kernel_rfl) (by kernel_rfl) (fun _ _ _ h => h) ?_ hHeld ?_
        · intro o ho
          simp at ho
          subst ho
          intro wz hSw
          try dsimp only at hSw
          go_simp; try simp
        try simp only [Act.put, List.setIfInBounds_toArray, List.set_cons_zero, List.set_cons_succ]
        refine hand_take (i := 22) (d := some 119) (v := ?_) rfl (by kernel_rfl) (by kernel_rfl) (by kernel_rfl) (fun _ _ _ h => h) ?_ hHeld ?_
        rotate_left
        · intro o ho
          simp at ho
          subst ho
          intro wz hSw
          try dsimp only at hSw
          go_simp
          try with_reducible rfl
        try simp only [Act.put, List.setIfInBounds_toArray, List.set_cons_zero, List.set_cons_succ]
        refine hand_take (i := 23) (d := some 120) (v := ?_) rfl (by kernel_rfl) (by kernel_rfl) (by kernel_rfl) (fun _ _ _ h => h) ?_ hHeld ?_
        rotate_left
        · intro o ho
          simp at ho
          subst ho
          intro wz hSw
          try dsimp only at hSw
          go_simp
          try with_reducible rfl
        try simp only [Act.put, List.setIfInBounds_toArray, List.set_cons_zero, List.set_cons_succ]
        refine hand_take (i := 24) (d := some 121) (v := ?_) rfl (by kernel_rfl) (by kernel_rfl) (by kernel_rfl) (fun _ _ _ h => h) ?_ hHeld ?_
        rotate_left
        · intro o ho
          simp at ho
          subst ho
          intro wz hSw
          try dsimp only at hSw
          go_simp
          try with_reducible rfl
        try simp only [Act.put, List.setIfInBounds_toArray, List.set_cons_zero, List.set_cons_succ]
        refine hand_take (i := 26) (d := some 123) (v := ?_) rfl (by kernel_rfl) (by kernel_rfl) (by kernel_rfl) (fun _ _ _ h => h) ?_ hHeld ?_
        rotate_left
        · intro o ho
          simp at ho
          subst ho
          intro wz hSw
          try dsimp only at hSw
          go_simp
          try with_reducible rfl
        try simp only [Act.put, List.setIfInBounds_toArray, List.set_cons_zero, List.set_cons_succ]
        refine hand_call (i := 25) rfl (by kernel_rfl) ?_
        intro o25 ho
        simp at ho
        subst ho
        intro K hK
        go_simp
        go_at_call 23
        refine (list_c p F4 S W L5 _ (unhide hE9).n).mono ?_
        rintro e w10 ⟨v10, g10, rfl, hg10, hO10, hb10⟩
        have hE10 := hide ((unhide hE9).quiet hb10)
        have hO10' := hide hO10
        obtain ⟨ao10, cap10, rfl, -⟩ := hO10
        refine hK.out _ _ ?_ (fun hHeld => ?_)
        · exact (unhide hE10).box.c0
        clear hK K hE9 hb10 hg10
        try simp only [Act.put, List.setIfInBounds_toArray, List.set_cons_zero, List.set_cons_succ]
        refine hand_call (i := 27) rfl (by kernel_rfl) ?_
        intro o27 ho
        simp at ho
        subst ho
        intro K hK
        go_simp
        go_at_call 24
        refine (rList_c m G5 S W L5 _ (unhide hE10).r).mono ?_
        rintro e w11 ⟨v11, g11, rfl, hg11, hO11, hb11⟩
        have hE11 := hide ((unhide hE10).quiet hb11)
        have hV10 := hide ((unhide hO10').view.below hb11)
        have hO11' := hide hO11
        obtain ⟨ao11, cap11, rfl, -⟩ := hO11
        refine hK.out _ _ ?_ (fun hHeld => ?_)
        · exact (unhide hE11).box.c0
        clear hK K hE10 hb11 hg11 hO10'
        try simp only [Act.put, List.setIfInBounds_toArray, List.set_cons_zero, List.set_cons_succ]
        refine hand_call (i := 28) rfl (by kernel_rfl) ?_
        intro o28 ho
        simp at ho
        subst ho
        intro K hK
        go_simp
        go_at_call 22
        refine (ints_c _ _ _ _ (listA L5) (listA L5) w11 (unhide hV10) (unhide hO11').view).mono ?_
        simp only [decide_true]
        rintro e w12 ⟨rfl, n12, rfl⟩
        have hE12 := hide ((unhide hE11).quiet (belD _ n12))
        refine hK.out _ _ ?_ (fun hHeld => ?_)
        · exact (unhide hE12).box.c0
        clear hK K hE11 hV10 hO11'
        try simp only [Act.put, List.setIfInBounds_toArray, List.set_cons_zero, List.set_cons_succ]
        refine hand_take (i := 29) (d := some 126) (v := ?_) rfl (by kernel_rfl) (by kernel_rfl) (by kernel_rfl) (fun _ _ _ h => h) ?_ hHeld ?_
        rotate_left
        · intro o ho
          simp at ho
          subst ho
          intro wz hSw
          try dsimp only at hSw
          go_simp
          try with_reducible rfl
        try simp only [Act.put, List.setIfInBounds_toArray, List.set_cons_zero, List.set_cons_succ]
        refine hand_take (i := 30) (d := some 127) (v := ?_) rfl (by kernel_rfl) (by kernel_rfl) (by kernel_rfl) (fun _ _ _ h => h) ?_ hHeld ?_
        rotate_left
        · intro o ho
          simp at ho
          subst ho
          intro wz hSw
          try dsimp only at hSw
          go_simp
          try with_reducible rfl
        try simp only [Act.put, List.setIfInBounds_toArray, List.set_cons_zero, List.set_cons_succ]
        refine wpAnyH_done (by kernel_rfl) (NoPanic.normal ?_) _
        clear hHeld
        go_wp2_with fail
        go_roundw
        case rel => exact ⟨j + 1, F4, G5, L5, by omega, by simp, unhide hE12⟩
        case measure => simp [intOf]; omega
      by_cases ck3 : k = 3
      · subst ck3
        go_wp2_with fail
        refine wp_region_noPanic ?_
        refine wp_region_held_drew (S := fun w' => w'.cell? ⟨wr.heap.size, 1, none⟩ = some (.int .i64 bl)) (by kernel_rfl) ?_ (fun hHeld => ?_)
        · exact y1
        obtain ⟨wd, hwd⟩ : ∃ wd, wa.drew = wd := ⟨_, rfl⟩
        have hEd : Hid (Duo w wd p m F G S W L x u) := by rw [← hwd]; exact (unhide hEa).quiet (Below.refl _ _).drew
        have z1 : wd.cell? ⟨wr.heap.size, 1, none⟩ = some (.int .i64 bl) := by rw [← hwd]; exact y1
        have zl : wr.heap.size < wd.heap.size := by rw [← hwd]; exact hXl
        rw [hwd] at hHeld ⊢
        clear hwd hEa y0 y1 hwa hXl
        obtain ⟨ok, hok⟩ : ∃ ok, Hid (okRem L bl = ok) := ⟨_, rfl⟩
        refine hand_take (i := 0) (d := some 70) (v := ?_) rfl (by kernel_rfl) (by kernel_rfl) (by kernel_rfl) (fun _ _ _ h => h) ?_ hHeld ?_
        rotate_left
        · intro o ho
          simp at ho
          subst ho
          intro wz hSw
          try dsimp only at hSw
          go_simp
          try with_reducible rfl
        try simp only [Act.put, List.setIfInBounds_toArray, List.set_cons_zero, List.set_cons_succ]
        refine hand_take (i := 1) (d := some 71) (v := ?_) rfl (by kernel_rfl) (by kernel_rfl) (by kernel_rfl) (fun _ _ _ h => h) ?_ hHeld ?_
        rotate_left
        · intro o ho
          simp at ho
          subst ho
          intro wz hSw
          try dsimp only at hSw
          go_simp
          try with_reducible rfl
        try simp only [Act.put, List.setIfInBounds_toArray, List.set_cons_zero, List.set_cons_succ]
        refine hand_take (i := 2) (d := some 72) (v := ?_) rfl (by kernel_rfl) (by kernel_rfl) (by kernel_rfl) (fun _ _ _ h => h) ?_ hHeld ?_
        rotate_left
        · intro o ho
          simp at ho
          subst ho
          intro wz hSw
          try dsimp only at hSw
          go_simp
          try with_reducible rfl
        try simp only [Act.put, List.setIfInBounds_toArray, List.set_cons_zero, List.set_cons_succ]
        refine hand_take (i := 4) (d := some 74) (v := ?_) rfl (by kernel_rfl) (by kernel_rfl) (by kernel_rfl) (fun _ _ _ h => h) ?_ hHeld ?_
        rotate_left
        · intro o ho
          simp at ho
          subst ho
          intro wz hSw
          try dsimp only at hSw
          go_simp
          try with_reducible rfl
        try simp only [Act.put, List.setIfInBounds_toArray, List.set_cons_zero, List.set_cons_succ]
        refine hand_take (i := 5) (d := some 75) (v := ?_) rfl (by kernel_rfl) (by kernel_rfl) (by kernel_rfl) (fun _ _ _ h => h) ?_ hHeld ?_
        rotate_left
        · intro o ho
          simp at ho
          subst ho
          intro wz hSw
          try dsimp only at hSw
          go_simp
          try with_reducible rfl
        try simp only [Act.put, List.setIfInBounds_toArray, List.set_cons_zero, List.set_cons_succ]
        refine hand_take (i := 6) (d := some 76) (v := ?_) rfl (by kernel_rfl) (by kernel_rfl) (by kernel_rfl) (fun _ _ _ h => h) ?_ hHeld ?_
        rotate_left
        · intro o ho
          simp at ho
          subst ho
          intro wz hSw
          try dsimp only at hSw
          go_simp
          try with_reducible rfl
        try simp only [Act.put, List.setIfInBounds_toArray, List.set_cons_zero, List.set_cons_succ]
        refine hand_call (i := 3) rfl (by kernel_rfl) ?_
        intro o3 ho
        simp at ho
        subst ho
        intro K hK
        go_simp
        go_at_call 16
        refine (remove_c p F S W bl L wd (unhide hEd).n).mono ?_
        rw [hok.out]
        rintro e w4 ⟨rfl, F4, hn4, st4⟩
        have z4 : w4.cell? ⟨wr.heap.size, 1, none⟩ = some (.int .i64 bl) := (st4.fr.cell zl (fun e => unhide hFa _ (.inl e) rfl)).trans z1
        have zl4 : wr.heap.size < w4.heap.size := Nat.lt_of_lt_of_le zl st4.fr.size
        replace hn4 := hide hn4
        replace st4 := hide st4
        refine hK.out _ _ ?_ (fun hHeld => ?_)
        · exact z4
        clear hK K
        try simp only [Act.put, List.setIfInBounds_toArray, List.set_cons_zero, List.set_cons_succ]
        refine hand_call (i := 7) rfl (by kernel_rfl) ?_
        intro o7 ho
        simp at ho
        subst ho
        intro K hK
        go_simp
        go_at_call 17
        refine (rRemove_c m G S W bl L w4 ((unhide hEd).mid (unhide st4))).mono ?_
        rw [hok.out]
        rintro e w5 ⟨rfl, G5, hn5, st5⟩
        have z5 : w5.cell? ⟨wr.heap.size, 1, none⟩ = some (.int .i64 bl) := (st5.fr.cell zl4 (fun e => unhide hFa _ (.inr e) rfl)).trans z4
        have hE5 := hide ((unhide hEd).both (unhide hn4) (unhide st4) hn5 st5)
        refine hK.out _ _ ?_ (fun hHeld => ?_)
        · exact z5
        clear hK K hn5 st5 hn4 st4 hEd z1 zl z4 zl4 z5
        try simp only [Act.put, List.setIfInBounds_toArray, List.set_cons_zero, List.set_cons_succ]
        refine hand_take (i := 8) (d := some 78) (v := .bool true) rfl (by kernel_rfl) (by kernel_rfl) (by kernel_rfl) (fun _ _ _ h => h) ?_ hHeld ?_
        · intro o ho
          simp at ho
          subst ho
          intro wz hSw
          try dsimp only at hSw
          go_simp; try simp
        try simp only [Act.put, List.setIfInBounds_toArray, List.set_cons_zero, List.set_cons_succ]
        refine hand_take (i := 9) (d := some 13) (v := ?_) rfl (by kernel_rfl) (by kernel_rfl) (by kernel_rfl) (fun _ _ _ h => h) ?_ hHeld ?_
        rotate_left
        · intro o ho
          simp at ho
          subst ho
          intro wz hSw
          try dsimp only at hSw
          go_simp
          try with_reducible rfl
        try simp only [Act.put, List.setIfInBounds_toArray, List.set_cons_zero, List.set_cons_succ]
        refine wpAnyH_done (by kernel_rfl) (NoPanic.normal ?_) _
        clear hHeld
        obtain ⟨L5, hL5⟩ : ∃ L5, Hid (L.erase bl = L5) := ⟨_, rfl⟩
        rw [hL5.out] at hE5
        obtain ⟨-, x0, x1⟩ := (unhide hE5).box
        obtain ⟨⟨v1, ok1⟩, hvv⟩ : ∃ b, Hid (vicA S W L5 x u = b) := ⟨_, rfl⟩
        obtain ⟨had, hhad⟩ : ∃ b, Hid (decide (x ∈ L5) = b) := ⟨_, rfl⟩
        go_wp2_with fail
        go_at_call 18
        refine (victim_c p F4 S W x u L5 w5 (unhide hE5).n).mono ?_
        rw [hvv.out]
        rintro e w6 ⟨rfl, n6, rfl⟩
        go_wp2_with fail
        go_at_call 19
        refine (rVictim_c m G5 S W x u L5 _ ((unhide hE5).r.drewN _)).mono ?_
        rw [hvv.out]
        rintro e w7 ⟨rfl, hb7⟩
        have hE7 := hide ((unhide hE5).quiet ((belD _ _).trans hb7))
        clear x0 x1 hb7 hE5
        obtain ⟨-, x0, x1⟩ := (unhide hE7).box
        go_wp2_with fail
        refine wp_region_noPanic ?_
        refine wp_region_held_drew (S := fun w' => w'.cell? ⟨w.heap.size + 1, 0, none⟩ = some (.int .i64 x)) (by kernel_rfl) ?_ (fun hHeld => ?_)
        · exact x0
        obtain ⟨w8, hw8⟩ : ∃ w8, w7.drew = w8 := ⟨_, rfl⟩
        have hE8 : Hid (Duo w w8 p m F4 G5 S W L5 x u) := by rw [← hw8]; exact (unhide hE7).quiet (Below.refl _ _).drew
        rw [hw8] at hHeld ⊢
        clear hw8 hE7 x0 x1
        refine hand_take (i := 0) (d := some 97) (v := ?_) rfl (by kernel_rfl) (by kernel_rfl) (by kernel_rfl) (fun _ _ _ h => h) ?_ hHeld ?_
        rotate_left
        · intro o ho
          simp at ho
          subst ho
          intro wz hSw
          try dsimp only at hSw
          go_simp
          try with_reducible rfl
        try simp only [Act.put, List.setIfInBounds_toArray, List.set_cons_zero, List.set_cons_succ]
        refine hand_take (i := 1) (d := some 98) (v := ?_) rfl (by kernel_rfl) (by kernel_rfl) (by kernel_rfl) (fun _ _ _ h => h) ?_ hHeld ?_
        rotate_left
        · intro o ho
          simp at ho
          subst ho
          intro wz hSw
          try dsimp only at hSw
          go_simp
          try with_reducible rfl
        try simp only [Act.put, List.setIfInBounds_toArray, List.set_cons_zero, List.set_cons_succ]
        refine hand_take (i := 2) (d := some 99) (v := ?_) rfl (by kernel_rfl) (by kernel_rfl) (by kernel_rfl) (fun _ _ _ h => h) ?_ hHeld ?_
        rotate_left
        · intro o ho
          simp at ho
          subst ho
          intro wz hSw
          try dsimp only at hSw
          go_simp
          try with_reducible rfl
        try simp only [Act.put, List.setIfInBounds_toArray, List.set_cons_zero, List.set_cons_succ]
        refine hand_take (i := 3) (d := some 100) (v := ?_) rfl (by kernel_rfl) (by kernel_rfl) (by kernel_rfl) (fun _ _ _ h => h) ?_ hHeld ?_
        rotate_left
        · intro o ho
          simp at ho
          subst ho
          intro wz hSw
          try dsimp only at hSw
          go_simp
          try with_reducible rfl
        try simp only [Act.put, List.setIfInBounds_toArray, List.set_cons_zero, List.set_cons_succ]
        refine hand_take (i := 4) (d := some 101) (v := ?_) rfl (by kernel_rfl) (by kernel_rfl) (by kernel_rfl) (fun _ _ _ h => h) ?_ hHeld ?_
        rotate_left
        · intro o ho
          simp at ho
          subst ho
          intro wz hSw
          try dsimp only at hSw
          go_simp
          try with_reducible rfl
        try simp only [Act.put, List.setIfInBounds_toArray, List.set_cons_zero, List.set_cons_succ]
        refine hand_take (i := 5) (d := some 102) (v := .bool false) rfl (by kernel_rfl) (by kernel_rfl) (by kernel_rfl) (fun _ _ _ h => h) ?_ hHeld ?_
        · intro o ho
          simp at ho
          subst ho
          intro wz hSw
          try dsimp only at hSw
          go_simp; try simp
        try simp only [Act.put, List.setIfInBounds_toArray, List.set_cons_zero, List.set_cons_succ]
        refine hand_take (i := 6) (d := some 103) (v := ?_) rfl (by kernel_rfl) (by kernel_rfl) (by kernel_rfl) (fun _ _ _ h => h) ?_ hHeld ?_
        rotate_left
        · intro o ho
          simp at ho
          subst ho
          intro wz hSw
          try dsimp only at hSw
          go_simp
          try with_reducible rfl
        try simp only [Act.put, List.setIfInBounds_toArray, List.set_cons_zero, List.set_cons_succ]
        refine hand_take (i := 7) (d := some 104) (v := ?_) rfl (by kernel_rfl) (by kernel_rfl) (by kernel_rfl) (fun _ _ _ h => h) ?_ hHeld ?_
        rotate_left
        · intro o ho
          simp at ho
          subst ho
          intro wz hSw
          try dsimp only at hSw
          go_simp
          try with_reducible rfl
        try simp only [Act.put, List.setIfInBounds_toArray, List.set_cons_zero, List.set_cons_succ]
        refine hand_take (i := 8) (d := some 105) (v := ?_) rfl (by kernel_rfl) (by kernel_rfl) (by kernel_rfl) (fun _ _ _ h => h) ?_ hHeld ?_
        rotate_left
        · intro o ho
          simp at ho
          subst ho
          intro wz hSw
          try dsimp only at hSw
          go_simp
          try with_reducible rfl
        try simp only [Act.put, List.setIfInBounds_toArray, List.set_cons_zero, List.set_cons_succ]
        refine hand_take (i := 9) (d := some 106) (v := ?_) rfl (by kernel_rfl) (by kernel_rfl) (by kernel_rfl) (fun _ _ _ h => h) ?_ hHeld ?_
        rotate_left
        · intro o ho
          simp at ho
          subst ho
          intro wz hSw
          try dsimp only at hSw
          go_simp
          try with_reducible rfl
        try simp only [Act.put, List.setIfInBounds_toArray, List.set_cons_zero, List.set_cons_succ]
        refine hand_take (i := 10) (d := some 107) (v := .bool false) rfl (by kernel_rfl) (by kernel_rfl) (by kernel_rfl) (fun _ _ _ h => h) ?_ hHeld ?_
        · intro o ho
          simp at ho
          subst ho
          intro wz hSw
          try dsimp only at hSw
          go_simp; try simp
        try simp only [Act.put, List.setIfInBounds_toArray, List.set_cons_zero, List.set_cons_succ]
        refine hand_take (i := 11) (d := some 108) (v := ?_) rfl (by kernel_rfl) (by kernel_rfl) (by kernel_rfl) (fun _ _ _ h => h) ?_ hHeld ?_
        rotate_left
        · intro o ho
          simp at ho
          subst ho
          intro wz hSw
          try dsimp only at hSw
          go_simp
          try with_reducible rfl
        try simp only [Act.put, List.setIfInBounds_toArray, List.set_cons_zero, List.set_cons_succ]
        refine hand_take (i := 12) (d := some 109) (v := ?_) rfl (by kernel_rfl) (by kernel_rfl) (by kernel_rfl) (fun _ _ _ h => h) ?_ hHeld ?_
        rotate_left
        · intro o ho
          simp at ho
          subst ho
          intro wz hSw
          try dsimp only at hSw
          go_simp
          try with_reducible rfl
        try simp only [Act.put, List.setIfInBounds_toArray, List.set_cons_zero, List.set_cons_succ]
        refine hand_take (i := 13) (d := some 110) (v := ?_) rfl (by kernel_rfl) (by kernel_rfl) (by kernel_rfl) (fun _ _ _ h => h) ?_ hHeld ?_
        rotate_left
        · intro o ho
          simp at ho
          subst ho
          intro wz hSw
          try dsimp only at hSw
          go_simp
          try with_reducible rfl
        try simp only [Act.put, List.setIfInBounds_toArray, List.set_cons_zero, List.set_cons_succ]
        refine hand_take (i := 14) (d := some 111) (v := ?_) rfl (by kernel_rfl) (by kernel_rfl) (by kernel_rfl) (fun _ _ _ h => h) ?_ hHeld ?_
        rotate_left
        · intro o ho
          simp at ho
          subst ho
          intro wz hSw
          try dsimp only at hSw
          go_simp
          try with_reducible rfl
        try simp only [Act.put, List.setIfInBounds_toArray, List.set_cons_zero, List.set_cons_succ]
        refine hand_take (i := 15) (d := some 112) (v := ?_) rfl (by kernel_rfl) (by kernel_rfl) (by kernel_rfl) (fun _ _ _ h => h) ?_ hHeld ?_
        rotate_left
        · intro o ho
          simp at ho
          subst ho
          intro wz hSw
          try dsimp only at hSw
          go_simp
          try with_reducible rfl
        try simp only [Act.put, List.setIfInBounds_toArray, List.set_cons_zero, List.set_cons_succ]
        refine hand_take (i := 17) (d := some 114) (v := ?_) rfl (by kernel_rfl) (by kernel_rfl) (by kernel_rfl) (fun _ _ _ h => h) ?_ hHeld ?_
        rotate_left
        · intro o ho
          simp at ho
          subst ho
          intro wz hSw
          try dsimp only at hSw
          go_simp
          try with_reducible rfl
        try simp only [Act.put, List.setIfInBounds_toArray, List.set_cons_zero, List.set_cons_succ]
        refine hand_take (i := 18) (d := some 115) (v := ?_) rfl (by kernel_rfl) (by kernel_rfl) (by kernel_rfl) (fun _ _ _ h => h) ?_ hHeld ?_
        rotate_left
        · intro o ho
          simp at ho
          subst ho
          intro wz hSw
          try dsimp only at hSw
          go_simp
          try with_reducible rfl
        try simp only [Act.put, List.setIfInBounds_toArray, List.set_cons_zero, List.set_cons_succ]
        refine hand_take (i := 19) (d := some 116) (v := ?_) rfl (by kernel_rfl) (by kernel_rfl) (by kernel_rfl) (fun _ _ _ h => h) ?_ hHeld ?_
        rotate_left
        · intro o ho
          simp at ho
          subst ho
          intro wz hSw
          try dsimp only at hSw
          go_simp
          try with_reducible rfl
        try simp only [Act.put, List.setIfInBounds_toArray, List.set_cons_zero, List.set_cons_succ]
        refine hand_call (i := 16) rfl (by kernel_rfl) ?_
        intro o16 ho
        simp at ho
        subst ho
        intro K hK
        go_simp
        go_at_call 20
        refine (has_c p F4 S W x L5 w8 (unhide hE8).n).mono ?_
        rw [hhad.out]
        rintro e w9 ⟨rfl, n9, rfl⟩
        have hE9 := hide ((unhide hE8).quiet (belD _ n9))
        refine hK.out _ _ ?_ (fun hHeld => ?_)
        · exact (unhide hE9).box.c0
        clear hK K hE8
        try simp only [Act.put, List.setIfInBounds_toArray, List.set_cons_zero, List.set_cons_succ]
        refine hand_call (i := 20) rfl (by kernel_rfl) ?_
        intro o20 ho
        simp at ho
        subst ho
        intro K hK
        go_simp
        go_at_call 21
        refine (rHas_c m G5 S W x L5 _ (unhide hE9).r).mono ?_
        rw [hhad.out]
        rintro e w' ⟨rfl, hw'⟩
        rw [hw']
        clear hw' w'
        refine hK.out _ _ ?_ (fun hHeld => ?_)
        · exact (unhide hE9).box.c0
        clear hK K
        try simp only [Act.put, List.setIfInBounds_toArray, List.set_cons_zero, List.set_cons_succ]
        refine hand_take (i := 21) (d := some 118) (v := .bool false) rfl (by kernel_rfl) (by kernel_rfl) (by kernel_rfl) (fun _ _ _ h => h) ?_ hHeld ?_
        · intro o ho
          simp at ho
          subst ho
          intro wz hSw
          try dsimp only at hSw
          go_simp; try simp
        try simp only [Act.put, List.setIfInBounds_toArray, List.set_cons_zero, List.set_cons_succ]
        refine hand_take (i := 22) (d := some 119) (v := ?_) rfl (by kernel_rfl) (by kernel_rfl) (by kernel_rfl) (fun _ _ _ h => h) ?_ hHeld ?_
        rotate_left
        · intro o ho
          simp at ho
          subst ho
          intro wz hSw
          try dsimp only at hSw
          go_simp
          try with_reducible rfl
        try simp only [Act.put, List.setIfInBounds_toArray, List.set_cons_zero, List.set_cons_succ]
        refine hand_take (i := 23) (d := some 120) (v := ?_) rfl (by kernel_rfl) (by kernel_rfl) (by kernel_rfl) (fun _ _ _ h => h) ?_ hHeld ?_
        rotate_left
        · intro o ho
          simp at ho
          subst ho
          intro wz hSw
          try dsimp only at hSw
          go_simp
          try with_reducible rfl
        try simp only [Act.put, List.setIfInBounds_toArray, List.set_cons_zero, List.set_cons_succ]
        refine hand_take (i := 24) (d := some 121) (v := ?_) rfl (by kernel_rfl) (by kernel_rfl) (by kernel_rfl) (fun _ _ _ h => h) ?_ hHeld ?_
        rotate_left
        · intro o ho
          simp at ho
          subst ho
          intro wz hSw
          try dsimp only at hSw
          go_simp
          try with_reducible rfl
        try simp only [Act.put, List.setIfInBounds_toArray, List.set_cons_zero, List.set_cons_succ]
        refine hand_take (i := 26) (d := some 123) (v := ?_) rfl (by kernel_rfl) (by kernel_rfl) (by kernel_rfl) (fun _ _ _ h => h) ?_ hHeld ?_
        rotate_left
        · intro o ho
          simp at ho
          subst ho
          intro wz hSw
          try dsimp only at hSw
          go_simp
          try with_reducible rfl
        try simp only [Act.put, List.setIfInBounds_toArray, List.set_cons_zero, List.set_cons_succ]
        refine hand_call (i := 25) rfl (by kernel_rfl) ?_
        intro o25 ho
        simp at ho
        subst ho
        intro K hK
        go_simp
        go_at_call 23
        refine (list_c p F4 S W L5 _ (unhide hE9).n).mono ?_
        rintro e w10 ⟨v10, g10, rfl, hg10, hO10, hb10⟩
        have hE10 := hide ((unhide hE9).quiet hb10)
        have hO10' := hide hO10
        obtain ⟨ao10, cap10, rfl, -⟩ := hO10
        refine hK.out _ _ ?_ (fun hHeld => ?_)
        · exact (unhide hE10).box.c0
        clear hK K hE9 hb10 hg10
        try simp only [Act.put, List.setIfInBounds_toArray, List.set_cons_zero, List.set_cons_succ]
        refine hand_call (i := 27) rfl (by kernel_rfl) ?_
        intro o27 ho
        simp at ho
        subst ho
        intro K hK
        go_simp
        go_at_call 24
        refine (rList_c m G5 S W L5 _ (unhide hE10).r).mono ?_
        rintro e w11 ⟨v11, g11, rfl, hg11, hO11, hb11⟩
        have hE11 := hide ((unhide hE10).quiet hb11)
        have hV10 := hide ((unhide hO10').view.below hb11)
        have hO11' := hide hO11
        obtain ⟨ao11, cap11, rfl, -⟩ := hO11
        refine hK.out _ _ ?_ (fun hHeld => ?_)
        · exact (unhide hE11).box.c0
        clear hK K hE10 hb11 hg11 hO10'
        try simp only [Act.put, List.setIfInBounds_toArray, List.set_cons_zero, List.set_cons_succ]
        refine hand_call (i := 28) rfl (by kernel_rfl) ?_
        intro o28 ho
        simp at ho
        subst ho
        intro K hK
        go_simp
        go_at_call 22
        refine (ints_c _ _ _ _ (listA L5) (listA L5) w11 (unhide hV10) (unhide hO11').view).mono ?_
        simp only [decide_true]
        rintro e w12 ⟨rfl, n12, rfl⟩
        have hE12 := hide ((unhide hE11).quiet (belD _ n12))
        refine hK.out _ _ ?_ (fun hHeld => ?_)
        · exact (unhide hE12).box.c0
        clear hK K hE11 hV10 hO11'
        try simp only [Act.put, List.setIfInBounds_toArray, List.set_cons_zero, List.set_cons_succ]
        refine hand_take (i := 29) (d := some 126) (v := ?_) rfl (by kernel_rfl) (by kernel_rfl) (by kernel_rfl) (fun _ _ _ h => h) ?_ hHeld ?_
        rotate_left
        · intro o ho
          simp at ho
          subst ho
          intro wz hSw
          try dsimp only at hSw
          go_simp
          try with_reducible rfl
        try simp only [Act.put, List.setIfInBounds_toArray, List.set_cons_zero, List.set_cons_succ]
        refine hand_take (i := 30) (d := some 127) (v := ?_) rfl (by kernel_rfl) (by kernel_rfl) (by kernel_rfl) (fun _ _ _ h => h) ?_ hHeld ?_
        rotate_left
        · intro o ho
          simp at ho
          subst ho
          intro wz hSw
          try dsimp only at hSw
          go_simp
          try with_reducible rfl
        try simp only [Act.put, List.setIfInBounds_toArray, List.set_cons_zero, List.set_cons_succ]
        refine wpAnyH_done (by kernel_rfl) (NoPanic.normal ?_) _
        clear hHeld
        go_wp2_with fail
        go_roundw
        case rel => exact ⟨j + 1, F4, G5, L5, by omega, by simp, unhide hE12⟩
        case measure => simp [intOf]; omega
      clear hFa hXl y1
      obtain ⟨-, x0, x1⟩ := (unhide hEa).box
      obtain ⟨⟨v1, ok1⟩, hvv⟩ : ∃ b, Hid (vicA S W L x u = b) := ⟨_, rfl⟩
      obtain ⟨had, hhad⟩ : ∃ b, Hid (decide (x ∈ L) = b) := ⟨_, rfl⟩
      go_wp2_with fail
      go_at_call 18
      refine (victim_c p F S W x u L wa (unhide hEa).n).mono ?_
      rw [hvv.out]
      rintro e w6 ⟨rfl, n6, rfl⟩
      go_wp2_with fail
      go_at_call 19
      refine (rVictim_c m G S W x u L _ ((unhide hEa).r.drewN _)).mono ?_
      rw [hvv.out]
      rintro e w7 ⟨rfl, hb7⟩
      have hE7 := hide ((unhide hEa).quiet ((belD _ _).trans hb7))
      clear x0 x1 hb7 hEa
      obtain ⟨-, x0, x1⟩ := (unhide hE7).box
      go_wp2_with fail
      refine wp_region_noPanic ?_
      refine wp_region_held_drew (S := fun w' => w'.cell? ⟨w.heap.size + 1, 0, none⟩ = some (.int .i64 x)) (by kernel_rfl) ?_ (fun hHeld => ?_)
      · exact x0
      obtain ⟨w8, hw8⟩ : ∃ w8, w7.drew = w8 := ⟨_, rfl⟩
      have hE8 : Hid (Duo w w8 p m F G S W L x u) := by rw [← hw8]; exact (unhide hE7).quiet (Below.refl _ _).drew
      rw [hw8] at hHeld ⊢
      clear hw8 hE7 x0 x1
      refine hand_take (i := 0) (d := some 97) (v := ?_) rfl (by kernel_rfl) (by kernel_rfl) (by kernel_rfl) (fun _ _ _ h => h) ?_ hHeld ?_
      rotate_left
      · intro o ho
        simp at ho
        subst ho
        intro wz hSw
        try dsimp only at hSw
        go_simp
        try with_reducible rfl
      try simp only [Act.put, List.setIfInBounds_toArray, List.set_cons_zero, List.set_cons_succ]
      refine hand_take (i := 1) (d := some 98) (v := ?_) rfl (by kernel_rfl) (by kernel_rfl) (by kernel_rfl) (fun _ _ _ h => h) ?_ hHeld ?_
      rotate_left
      · intro o ho
        simp at ho
        subst ho
        intro wz hSw
        try dsimp only at hSw
        go_simp
        try with_reducible rfl
      try simp only [Act.put, List.setIfInBounds_toArray, List.set_cons_zero, List.set_cons_succ]
      refine hand_take (i := 2) (d := some 99) (v := ?_) rfl (by kernel_rfl) (by kernel_rfl) (by kernel_rfl) (fun _ _ _ h => h) ?_ hHeld ?_
      rotate_left
      · intro o ho
        simp at ho
        subst ho
        intro wz hSw
        try dsimp only at hSw
        go_simp
        try with_reducible rfl
      try simp only [Act.put, List.setIfInBounds_toArray, List.set_cons_zero, List.set_cons_succ]
      refine hand_take (i := 3) (d := some 100) (v := ?_) rfl (by kernel_rfl) (by kernel_rfl) (by kernel_rfl) (fun _ _ _ h => h) ?_ hHeld ?_
      rotate_left
      · intro o ho
        simp at ho
        subst ho
        intro wz hSw
        try dsimp only at hSw
        go_simp
        try with_reducible rfl
      try simp only [Act.put, List.setIfInBounds_toArray, List.set_cons_zero, List.set_cons_succ]
      refine hand_take (i := 4) (d := some 101) (v := ?_) rfl (by kernel_rfl) (by kernel_rfl) (by kernel_rfl) (fun _ _ _ h => h) ?_ hHeld ?_
      rotate_left
      · intro o ho
        simp at ho
        subst ho
        intro wz hSw
        try dsimp only at hSw
        go_simp
        try with_reducible rfl
      try simp only [Act.put, List.setIfInBounds_toArray, List.set_cons_zero, List.set_cons_succ]
      refine hand_take (i := 5) (d := some 102) (v := .bool false) rfl (by kernel_rfl) (by kernel_rfl) (by kernel_rfl) (fun _ _ _ h => h) ?_ hHeld ?_
      · intro o ho
        simp at ho
        subst ho
        intro wz hSw
        try dsimp only at hSw
        go_simp; try simp
      try simp only [Act.put, List.setIfInBounds_toArray, List.set_cons_zero, List.set_cons_succ]
      refine hand_take (i := 6) (d := some 103) (v := ?_) rfl (by kernel_rfl) (by kernel_rfl) (by kernel_rfl) (fun _ _ _ h => h) ?_ hHeld ?_
      rotate_left
      · intro o ho
        simp at ho
        subst ho
        intro wz hSw
        try dsimp only at hSw
        go_simp
        try with_reducible rfl
      try simp only [Act.put, List.setIfInBounds_toArray, List.set_cons_zero, List.set_cons_succ]
      refine hand_take (i := 7) (d := some 104) (v := ?_) rfl (by kernel_rfl) (by kernel_rfl) (by kernel_rfl) (fun _ _ _ h => h) ?_ hHeld ?_
      rotate_left
      · intro o ho
        simp at ho
        subst ho
        intro wz hSw
        try dsimp only at hSw
        go_simp
        try with_reducible rfl
      try simp only [Act.put, List.setIfInBounds_toArray, List.set_cons_zero, List.set_cons_succ]
      refine hand_take (i := 8) (d := some 105) (v := ?_) rfl (by kernel_rfl) (by kernel_rfl) (by kernel_rfl) (fun _ _ _ h => h) ?_ hHeld ?_
      rotate_left
      · intro o ho
        simp at ho
        subst ho
        intro wz hSw
        try dsimp only at hSw
        go_simp
        try with_reducible rfl
      try simp only [Act.put, List.setIfInBounds_toArray, List.set_cons_zero, List.set_cons_succ]
      refine hand_take (i := 9) (d := some 106) (v := ?_) rfl (by kernel_rfl) (by kernel_rfl) (by kernel_rfl) (fun _ _ _ h => h) ?_ hHeld ?_
      rotate_left
      · intro o ho
        simp at ho
        subst ho
        intro wz hSw
        try dsimp only at hSw
        go_simp
        try with_reducible rfl
      try simp only [Act.put, List.setIfInBounds_toArray, List.set_cons_zero, List.set_cons_succ]
      refine hand_take (i := 10) (d := some 107) (v := .bool false) rfl (by kernel_rfl) (by kernel_rfl) (by kernel_rfl) (fun _ _ _ h => h) ?_ hHeld ?_
      · intro o ho
        simp at ho
        subst ho
        intro wz hSw
        try dsimp only at hSw
        go_simp; try simp
      try simp only [Act.put, List.setIfInBounds_toArray, List.set_cons_zero, List.set_cons_succ]
      refine hand_take (i := 11) (d := some 108) (v := ?_) rfl (by kernel_rfl) (by kernel_rfl) (by kernel_rfl) (fun _ _ _ h => h) ?_ hHeld ?_
      rotate_left
      · intro o ho
        simp at ho
        subst ho
        intro wz hSw
        try dsimp only at hSw
        go_simp
        try with_reducible rfl
      try simp only [Act.put, List.setIfInBounds_toArray, List.set_cons_zero, List.set_cons_succ]
      refine hand_take (i := 12) (d := some 109) (v := ?_) rfl (by kernel_rfl) (by kernel_rfl) (by kernel_rfl) (fun _ _ _ h => h) ?_ hHeld ?_
      rotate_left
      · intro o ho
        simp at ho
        subst ho
        intro wz hSw
        try dsimp only at hSw
        go_simp
        try with_reducible rfl
      try simp only [Act.put, List.setIfInBounds_toArray, List.set_cons_zero, List.set_cons_succ]
      refine hand_take (i := 13) (d := some 110) (v := ?_) rfl (by kernel_rfl) (by kernel_rfl) (by kernel_rfl) (fun _ _ _ h => h) ?_ hHeld ?_
      rotate_left
      · intro o ho
        simp at ho
        subst ho
        intro wz hSw
        try dsimp only at hSw
        go_simp
        try with_reducible rfl
      try simp only [Act.put, List.setIfInBounds_toArray, List.set_cons_zero, List.set_cons_succ]
      refine hand_take (i := 14) (d := some 111) (v := ?_) rfl (by kernel_rfl) (by kernel_rfl) (by kernel_rfl) (fun _ _ _ h => h) ?_ hHeld ?_
      rotate_left
      · intro o ho
        simp at ho
        subst ho
        intro wz hSw
        try dsimp only at hSw
        go_simp
        try with_reducible rfl
      try simp only [Act.put, List.setIfInBounds_toArray, List.set_cons_zero, List.set_cons_succ]
      refine hand_take (i := 15) (d := some 112) (v := ?_) rfl (by kernel_rfl) (by kernel_rfl) (by kernel_rfl) (fun _ _ _ h => h) ?_ hHeld ?_
      rotate_left
      · intro o ho
        simp at ho
        subst ho
        intro wz hSw
        try dsimp only at hSw
        go_simp
        try with_reducible rfl
      try simp only [Act.put, List.setIfInBounds_toArray, List.set_cons_zero, List.set_cons_succ]
      refine hand_take (i := 17) (d := some 114) (v := ?_) rfl (by kernel_rfl) (by kernel_rfl) (by kernel_rfl) (fun _ _ _ h => h) ?_ hHeld ?_
      rotate_left
      · intro o ho
        simp at ho
        subst ho
        intro wz hSw
        try dsimp only at hSw
        go_simp
        try with_reducible rfl
      try simp only [Act.put, List.setIfInBounds_toArray, List.set_cons_zero, List.set_cons_succ]
      refine hand_take (i := 18) (d := some 115) (v := ?_) rfl (by kernel_rfl) (by kernel_rfl) (by kernel_rfl) (fun _ _ _ h => h) ?_ hHeld ?_
      rotate_left
      · intro o ho
        simp at ho
        subst ho
        intro wz hSw
        try dsimp only at hSw
        go_simp
        try with_reducible rfl
      try simp only [Act.put, List.setIfInBounds_toArray, List.set_cons_zero, List.set_cons_succ]
      refine hand_take (i := 19) (d := some 116) (v := ?_) rfl (by kernel_rfl) (by kernel_rfl) (by kernel_rfl) (fun _ _ _ h => h) ?_ hHeld ?_
      rotate_left
      · intro o ho
        simp at ho
        subst ho
        intro wz hSw
        try dsimp only at hSw
        go_simp
        try with_reducible rfl
      try simp only [Act.put, List.setIfInBounds_toArray, List.set_cons_zero, List.set_cons_succ]
      refine hand_call (i := 16) rfl (by kernel_rfl) ?_
      intro o16 ho
      simp at ho
      subst ho
      intro K hK
      go_simp
      go_at_call 20
      refine (has_c p F S W x L w8 (unhide hE8).n).mono ?_
      rw [hhad.out]
      rintro e w9 ⟨rfl, n9, rfl⟩
      have hE9 := hide ((unhide hE8).quiet (belD _ n9))
      refine hK.out _ _ ?_ (fun hHeld => ?_)
      · exact (unhide hE9).box.c0
      clear hK K hE8
      try simp only [Act.put, List.setIfInBounds_toArray, List.set_cons_zero, List.set_cons_succ]
      refine hand_call (i := 20) rfl (by kernel_rfl) ?_
      intro o20 ho
      simp at ho
      subst ho
      intro K hK
      go_simp
      go_at_call 21
      refine (rHas_c m G S W x L _ (unhide hE9).r).mono ?_
      rw [hhad.out]
      rintro e w' ⟨rfl, hw'⟩
      rw [hw']
      clear hw' w'
      refine hK.out _ _ ?_ (fun hHeld => ?_)
      · exact (unhide hE9).box.c0
      clear hK K
      try simp only [Act.put, List.setIfInBounds_toArray, List.set_cons_zero, List.set_cons_succ]
      refine hand_take (i := 21) (d := some 118) (v := .bool false) rfl (by kernel_rfl) (by kernel_rfl) (by kernel_rfl) (fun _ _ _ h => h) ?_ hHeld ?_
      · intro o ho
        simp at ho
        subst ho
        intro wz hSw
        try dsimp only at hSw
        go_simp; try simp
      try simp only [Act.put, List.setIfInBounds_toArray, List.set_cons_zero, List.set_cons_succ]
      refine hand_take (i := 22) (d := some 119) (v := ?_) rfl (by kernel_rfl) (by kernel_rfl) (by kernel_rfl) (fun _ _ _ h => h) ?_ hHeld ?_
      rotate_left
      · intro o ho
        simp at ho
        subst ho
        intro wz hSw
        try dsimp only at hSw
        go_simp
        try with_reducible rfl
      try simp only [Act.put, List.setIfInBounds_toArray, List.set_cons_zero, List.set_cons_succ]
      refine hand_take (i := 23) (d := some 120) (v := ?_) rfl (by kernel_rfl) (by kernel_rfl) (by kernel_rfl) (fun _ _ _ h => h) ?_ hHeld ?_
      rotate_left
      · intro o ho
        simp at ho
        subst ho
        intro wz hSw
        try dsimp only at hSw
        go_simp
        try with_reducible rfl
      try simp only [Act.put, List.setIfInBounds_toArray, List.set_cons_zero, List.set_cons_succ]
      refine hand_take (i := 24) (d := some 121) (v := ?_) rfl (by kernel_rfl) (by kernel_rfl) (by kernel_rfl) (fun _ _ _ h => h) ?_ hHeld ?_
      rotate_left
      · intro o ho
        simp at ho
        subst ho
        intro wz hSw
        try dsimp only at hSw
        go_simp
        try with_reducible rfl
      try simp only [Act.put, List.setIfInBounds_toArray, List.set_cons_zero, List.set_cons_succ]
      refine hand_take (i := 26) (d := some 123) (v := ?_) rfl (by kernel_rfl) (by kernel_rfl) (by kernel_rfl) (fun _ _ _ h => h) ?_ hHeld ?_
      rotate_left
      · intro o ho
        simp at ho
        subst ho
        intro wz hSw
        try dsimp only at hSw
        go_simp
        try with_reducible rfl
      try simp only [Act.put, List.setIfInBounds_toArray, List.set_cons_zero, List.set_cons_succ]
      refine hand_call (i := 25) rfl (by kernel_rfl) ?_
      intro o25 ho
      simp at ho
      subst ho
      intro K hK
      go_simp
      go_at_call 23
      refine (list_c p F S W L _ (unhide hE9).n).mono ?_
      rintro e w10 ⟨v10, g10, rfl, hg10, hO10, hb10⟩
      have hE10 := hide ((unhide hE9).quiet hb10)
      have hO10' := hide hO10
      obtain ⟨ao10, cap10, rfl, -⟩ := hO10
      refine hK.out _ _ ?_ (fun hHeld => ?_)
      · exact (unhide hE10).box.c0
      clear hK K hE9 hb10 hg10
      try simp only [Act.put, List.setIfInBounds_toArray, List.set_cons_zero, List.set_cons_succ]
      refine hand_call (i := 27) rfl (by kernel_rfl) ?_
      intro o27 ho
      simp at ho
      subst ho
      intro K hK
      go_simp
      go_at_call 24
      refine (rList_c m G S W L _ (unhide hE10).r).mono ?_
      rintro e w11 ⟨v11, g11, rfl, hg11, hO11, hb11⟩
      have hE11 := hide ((unhide hE10).quiet hb11)
      have hV10 := hide ((unhide hO10').view.below hb11)
      have hO11' := hide hO11
      obtain ⟨ao11, cap11, rfl, -⟩ := hO11
      refine hK.out _ _ ?_ (fun hHeld => ?_)
      · exact (unhide hE11).box.c0
      clear hK K hE10 hb11 hg11 hO10'
      try simp only [Act.put, List.setIfInBounds_toArray, List.set_cons_zero, List.set_cons_succ]
      refine hand_call (i := 28) rfl (by kernel_rfl) ?_
      intro o28 ho
      simp at ho
      subst ho
      intro K hK
      go_simp
      go_at_call 22
      refine (ints_c _ _ _ _ (listA L) (listA L) w11 (unhide hV10) (unhide hO11').view).mono ?_
      simp only [decide_true]
      rintro e w12 ⟨rfl, n12, rfl⟩
      have hE12 := hide ((unhide hE11).quiet (belD _ n12))
      refine hK.out _ _ ?_ (fun hHeld => ?_)
      · exact (unhide hE12).box.c0
      clear hK K hE11 hV10 hO11'
      try simp only [Act.put, List.setIfInBounds_toArray, List.set_cons_zero, List.set_cons_succ]
      refine hand_take (i := 29) (d := some 126) (v := ?_) rfl (by kernel_rfl) (by kernel_rfl) (by kernel_rfl) (fun _ _ _ h => h) ?_ hHeld ?_
      rotate_left
      · intro o ho
        simp at ho
        subst ho
        intro wz hSw
        try dsimp only at hSw
        go_simp
        try with_reducible rfl
      try simp only [Act.put, List.setIfInBounds_toArray, List.set_cons_zero, List.set_cons_succ]
      refine hand_take (i := 30) (d := some 127) (v := ?_) rfl (by kernel_rfl) (by kernel_rfl) (by kernel_rfl) (fun _ _ _ h => h) ?_ hHeld ?_
      rotate_left
      · intro o ho
        simp at ho
        subst ho
        intro wz hSw
        try dsimp only at hSw
        go_simp
        try with_reducible rfl
      try simp only [Act.put, List.setIfInBounds_toArray, List.set_cons_zero, List.set_cons_succ]
      refine wpAnyH_done (by kernel_rfl) (NoPanic.normal ?_) _
      clear hHeld
      go_wp2_with fail
      go_roundw
      case rel => exact ⟨j + 1, F, G, L, by omega, by simp, unhide hE12⟩
      case measure => simp [intOf]; omega
    · obtain rfl : j = A.length := by omega
      have hfin := hide hE.bel
      clear hE hlt
      go_wp2_with fail
      go_ret
      exact ⟨rfl, unhide hfin⟩
end Go.Proofs.Ytameolfdbmepmaa
