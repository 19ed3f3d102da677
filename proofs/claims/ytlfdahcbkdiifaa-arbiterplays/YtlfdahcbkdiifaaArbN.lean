/- The contract of requests.next: the first who waits becomes active (layer 12). -/
import Derived.Test.YtlfdahcbkdiifaaArb
namespace Go.Proofs.Ytlfdahcbkdiifaa
open Go.ChangeShapes Go.WideShapes Go.ChangeAt Go.RowKit
set_option linter.unusedSimpArgs false
set_option linter.unusedVariables false
set_option maxRecDepth 10000

attribute [local go_sem, local simp] over_const setCell_drewN alloc_drewN Over.cell Over.frozen lt_s1 lt_s2 lt_s3 le_s0 le_s1 le_s2 le_s3 eq_s0 eq_s1 eq_s2 qe_s0

/-- A slice without its first. -/
theorem Own.tail {w : World} {ao : Option Addr} {n cap g : Nat} {x : Int} {A : List Int} (h : Own w (.slice ao n cap) g (x :: A)) : ∃ o, ao = some ⟨g, o, none⟩ ∧ n = A.length + 1 ∧ 1 ≤ cap ∧ n ≤ cap ∧ w.cell? ⟨g, o, none⟩ = some (.int .i64 x) ∧ Own w (.slice (some ⟨g, o + 1, none⟩) A.length (cap - 1)) g A ∧ (cap - 1 = 0 → Own w (.slice (some ⟨g, o, none⟩) A.length (cap - 1)) g A) := by
  obtain ⟨ao', cap', e, h1, h2, h3, h4⟩ := h
  simp only [Value.slice.injEq, List.length_cons] at e h1
  obtain ⟨rfl, rfl, rfl⟩ := e
  rcases h4 with ⟨rfl, rfl⟩ | ⟨o, rfl, h5, h6⟩
  · omega
  · have h7 := h5 0 (by simp)
    simp [ints] at h7
    refine ⟨o, rfl, rfl, by omega, h1, h7, ⟨_, _, rfl, by omega, by omega, h3, .inr ⟨o + 1, rfl, fun j hj => ?_, fun j hj => ?_⟩⟩, fun hz => ?_⟩
    · have := h5 (j + 1) (by simp; omega)
      rw [show o + (j + 1) = o + 1 + j by omega] at this
      simpa [ints] using this
    · have := h6 (j + 1) (by omega)
      rw [show o + (j + 1) = o + 1 + j by omega] at this
      exact this
    · have e0 : A = [] := List.eq_nil_of_length_eq_zero (by omega)
      subst e0
      exact ⟨_, _, rfl, by simp, by omega, h3, .inr ⟨o, rfl, fun j hj => by simp at hj, fun j hj => by omega⟩⟩

theorem RowC.put4 {w : World} {g o : Nat} {b : Int} {r : Rq} (h : RowC w g o b r) (r' : Rq) (ek : ∀ i, i < 64 → knM r' i = knM r i) : RowC (w.setCells g o [.int .i64 (lastBQ b r'), .int .i64 (lastNQ r'), .int .i64 r'.n, .int .i64 r'.ph]) g o b r' := by
  have hs : ∀ i, i < 4 → (w.cell? ⟨g, o + i, none⟩).isSome = true := fun i hi => (h.th i (by omega)).1
  have hc := fun j (hj : j < 4) => World.cell?_setCells_in g [.int .i64 (lastBQ b r'), .int .i64 (lastNQ r'), .int .i64 r'.n, .int .i64 r'.ph] o w hs j hj
  refine ⟨hc 0 (by omega), hc 1 (by omega), hc 2 (by omega), hc 3 (by omega), ?_, World.there_setCells h.th _ _ _⟩
  rw [mkM_ext ek]
  exact World.rangeAt_setCells_apart h.kn _ _ _ (.inr (.inr (by simp)))
theorem RowC.put68 {w : World} {g o : Nat} {b : Int} {r : Rq} (h : RowC w g o b r) (v : Value) : RowC (w.setCells g (o + 68) [v]) g o b r ∧ (w.setCells g (o + 68) [v]).cell? ⟨g, o + 68, none⟩ = some v := by
  have hx : ∀ i, i < 68 → (w.setCells g (o + 68) [v]).cell? ⟨g, o + i, none⟩ = w.cell? ⟨g, o + i, none⟩ := fun i hi => World.cell?_setCells_out _ _ _ _ _ (fun _ _ => .inl (by show o + i < o + 68; omega))
  refine ⟨⟨(hx 0 (by omega)).trans h.c0, (hx 1 (by omega)).trans h.c1, (hx 2 (by omega)).trans h.c2, (hx 3 (by omega)).trans h.c3, World.rangeAt_setCells_apart h.kn _ _ _ (.inr (.inl (by rw [mkM_len]; omega))), World.there_setCells h.th _ _ _⟩, ?_⟩
  exact World.cell?_setCells_in g [v] (o + 68) w (fun i hi => by obtain rfl : i = 0 := by simp at hi; exact hi
                                                                 exact (h.th 68 (by omega)).1) 0 (by simp)

/-- The chain of writes. -/
abbrev setN (w : World) (g o : Nat) (x0 x1 x2 x3 : Int) (v : Value) : World := ((((w.setCell ⟨g, o, none⟩ (.int .i64 x0)).setCell ⟨g, o + 1, none⟩ (.int .i64 x1)).setCell ⟨g, o + 2, none⟩ (.int .i64 x2)).setCell ⟨g, o + 3, none⟩ (.int .i64 x3)).setCell ⟨g, o + 68, none⟩ v
theorem row_next {w : World} {g o gb : Nat} {b : Int} {r r' : Rq} {v : Value} {x0 x1 x2 x3 : Int} (h : RowC w g o b r) (gn : gb ≠ g) (e0 : lastBQ b r' = x0) (e1 : lastNQ r' = x1) (e2 : (r'.n : Int) = x2) (e3 : r'.ph = x3) (ek : ∀ i, i < 64 → knM r' i = knM r i) (hO : Own w v gb (wtQ r')) :
    RowAt (setN w g o x0 x1 x2 x3 v) g o b r' (some gb) ∧ RF g o (some gb) w (setN w g o x0 x1 x2 x3 v) := by
  subst e0 e1 e2 e3
  have h1 := (h.put4 r' ek).put68 v
  have f1 : RF g o (some gb) w (setN w g o (lastBQ b r') (lastNQ r') r'.n r'.ph v) := (((((RF.refl g o (some gb) w).setCell (by omega) (by omega) _).setCell (by omega) (by omega) _).setCell (by omega) (by omega) _).setCell (by omega) (by omega) _).setCell (by omega) (by omega) _
  have f2 : FrS (· = g) w (setN w g o (lastBQ b r') (lastNQ r') r'.n r'.ph v) := (setCells_frS g [.int .i64 (lastBQ b r'), .int .i64 (lastNQ r'), .int .i64 r'.n, .int .i64 r'.ph] o w).trans (setCells_frS g [v] (o + 68) _) (fun _ e => .inl e)
  exact ⟨⟨h1.1, v, h1.2, hO.fr f2 gn⟩, f1⟩


set_option maxHeartbeats 1000000 in
theorem rNext_c (g o : Nat) (b : Int) (r : Rq) (ob : Option Nat) (N M : Nat) (w : World) (h : RowAt w g o b r ob) (h0 : r.ph = 0) (hI : RPre N M r) (hM : M ≤ 100000) (hne : ob ≠ some g) (a : At) (ha : Hid (atBQ b r = a)) (ok : Bool) (hok : Hid (okBQ r = ok)) : Calls Try.prog 27 #[ptrO g o, .int .i64 b] w fun e w' => e = .returned (.tuple #[.agg #[.int .i64 a.b, .int .i64 a.n, .int .i64 a.s], .bool ok]) ∧ RowAt w' g o b (nxBQ r) ob ∧ RF g o ob w w' := by
  have hH := hide h
  have hgl := h.gl
  have hle := hI.le
  obtain ⟨v, hv, hW⟩ := h.wt
  have ha' := ha.out
  have hok' := hok.out
  unfold okBQ at hok'
  unfold atBQ at ha'
  unfold wtQ at hW
  by_cases c : r.n < r.A.length
  · rw [List.drop_eq_getElem_cons c] at hW
    cases ob with
    | none => exact absurd hW.2 (List.cons_ne_nil _ _)
    | some gb =>
    obtain ⟨ao, cap, rfl, -⟩ := id hW
    obtain ⟨o', rfl, hn, hc1, hnc, hx, ht, ht0⟩ := Own.tail hW
    obtain rfl : ok = true := by rw [← hok']; simp [h0, c]
    rw [if_pos ⟨h0, c⟩] at ha'
    obtain ⟨x, hxx⟩ : ∃ x, r.A[r.n] = x := ⟨_, rfl⟩
    obtain ⟨T, hT⟩ : ∃ T, r.A.drop (r.n + 1) = T := ⟨_, rfl⟩
    rw [hT] at hv hnc hn ht ht0
    rw [List.length_cons] at hv hnc
    rw [hxx] at hx
    rw [show r.A.getD r.n 0 = x by simp [List.getD, c, hxx]] at ha'
    obtain ⟨n, hrn⟩ : ∃ n, r.n = n := ⟨_, rfl⟩
    rw [hrn] at ha'
    subst ha'
    obtain ⟨m, hm⟩ : ∃ m, T.length = m := ⟨_, rfl⟩
    rw [hm] at hv hnc ht ht0
    have hlx : Hid (lastNQ ⟨r.A, r.n + 1, 1, r.kn⟩ = x) := hide (by unfold lastNQ; simp [c, hxx])
    have hkx : Hid (∀ i, i < 64 → knM ⟨r.A, r.n + 1, 1, r.kn⟩ i = knM r i) := hide (fun i _ => by unfold knM; simp [h0])
    have hnx : Hid (nxBQ r = ⟨r.A, r.n + 1, 1, r.kn⟩) := hide (by unfold nxBQ; rw [if_pos ⟨h0, c⟩])
    have c2 := h.c.c2
    rw [hrn] at c2
    have hwr : IntKind.i64.wrap ((n : Int) + 1) = n + 1 := by have := hI.al; rw [IntKind.wrap_i64]; omega
    have th := hide h.c.th
    have gn : gb ≠ g := fun e => hne (by rw [e])
    obtain ⟨-, f0⟩ := h.c.th 0 (by omega)
    obtain ⟨-, f1⟩ := h.c.th 1 (by omega)
    obtain ⟨-, f2⟩ := h.c.th 2 (by omega)
    obtain ⟨-, f3⟩ := h.c.th 3 (by omega)
    obtain ⟨-, f68⟩ := h.c.th 68 (by omega)
    rw [Nat.add_zero] at f0
    have c0 := h.c.c0
    have c1 := h.c.c1
    have c3 := h.c.c3
    generalize lastBQ b r = lb at c0
    generalize lastNQ r = ln at c1
    have hgb : gb < w.heap.size := Own.lt hW
    replace hW := hide hW
    replace ht := hide ht
    replace ht0 := hide ht0
    replace hI := hide hI
    replace hxx := hide hxx
    replace hT := hide hT
    replace hm := hide hm
    replace hrn := hide hrn
    clear h hok' hn hle
    replace c := hide c
    replace h0 := hide h0
    by_cases hcap : cap = 1
    · subst hcap
      obtain rfl : m = 0 := by omega
      have hO : Own w (.slice (some ⟨gb, o', none⟩) 0 0) gb (wtQ ⟨r.A, r.n + 1, 1, r.kn⟩) := by show Own _ _ _ (r.A.drop (r.n + 1)); rw [hT.out]; exact ht0.out rfl
      obtain ⟨W1, hW1⟩ : ∃ W1, setN w g o b x (n + 1) 1 (.slice (some ⟨gb, o', none⟩) 0 0) = W1 := ⟨_, rfl⟩
      have hk := hide (row_next (unhide hH).c gn (r' := ⟨r.A, r.n + 1, 1, r.kn⟩) (x0 := b) (x1 := x) (x2 := n + 1) (x3 := 1) rfl hlx.out (by show ((r.n + 1 : Nat) : Int) = _; rw [hrn.out]; simp) rfl hkx.out hO)
      rw [hW1] at hk
      dsimp only [setN] at hW1
      replace hW1 := hide hW1
      clear hO
      go_enter Try.func27, Try.ntmps27
      go_wp2_with fail
      refine wp_region_noPanic ?_
      refine last_begin 17 (fun w' => w'.cell? ⟨g, o + 68, none⟩ = some (.slice (some ⟨gb, o', none⟩) (0 + 1) 1) ∧ w'.cell? ⟨gb, o', none⟩ = some (.int .i64 x) ∧ w'.cell? ⟨g, o + 2, none⟩ = some (.int .i64 n)) (by kernel_rfl) ?_ (fun hHeld => ?_)
      · exact ⟨by simp [go_sem, *], by simp [go_sem, *], by simp [go_sem, *]⟩
      refine last_take (i := 0) (d := some 13) (v := ?_) rfl (by kernel_rfl) (by kernel_rfl) (by kernel_rfl) (by kernel_rfl) (fun _ _ _ h => h) ?_ hHeld ?_
      rotate_left
      · intro o ho
        simp at ho
        subst ho
        intro wz hSw
        try dsimp only at hSw
        go_simp
        try with_reducible rfl
      try simp only [Act.put, List.setIfInBounds_toArray, List.set_cons_zero, List.set_cons_succ]
      refine last_take (i := 1) (d := some 14) (v := ?_) rfl (by kernel_rfl) (by kernel_rfl) (by kernel_rfl) (by kernel_rfl) (fun _ _ _ h => h) ?_ hHeld ?_
      rotate_left
      · intro o ho
        simp at ho
        subst ho
        intro wz hSw
        try dsimp only at hSw
        go_simp
        try with_reducible rfl
      try simp only [Act.put, List.setIfInBounds_toArray, List.set_cons_zero, List.set_cons_succ]
      refine last_take (i := 2) (d := some 15) (v := ?_) rfl (by kernel_rfl) (by kernel_rfl) (by kernel_rfl) (by kernel_rfl) (fun _ _ _ h => h) ?_ hHeld ?_
      rotate_left
      · intro o ho
        simp at ho
        subst ho
        intro wz hSw
        try dsimp only at hSw
        go_simp
        try with_reducible rfl
      try simp only [Act.put, List.setIfInBounds_toArray, List.set_cons_zero, List.set_cons_succ]
      refine last_take (i := 3) (d := some 16) (v := ?_) rfl (by kernel_rfl) (by kernel_rfl) (by kernel_rfl) (by kernel_rfl) (fun _ _ _ h => h) ?_ hHeld ?_
      rotate_left
      · intro o ho
        simp at ho
        subst ho
        intro wz hSw
        try dsimp only at hSw
        go_simp
        try with_reducible rfl
      try simp only [Act.put, List.setIfInBounds_toArray, List.set_cons_zero, List.set_cons_succ]
      refine last_take (i := 4) (d := some 17) (v := ?_) rfl (by kernel_rfl) (by kernel_rfl) (by kernel_rfl) (by kernel_rfl) (fun _ _ _ h => h) ?_ hHeld ?_
      rotate_left
      · intro o ho
        simp at ho
        subst ho
        intro wz hSw
        try dsimp only at hSw
        go_simp
        try with_reducible rfl
      try simp only [Act.put, List.setIfInBounds_toArray, List.set_cons_zero, List.set_cons_succ]
      refine last_take (i := 5) (d := some 18) (v := ?_) rfl (by kernel_rfl) (by kernel_rfl) (by kernel_rfl) (by kernel_rfl) (fun _ _ _ h => h) ?_ hHeld ?_
      rotate_left
      · intro o ho
        simp at ho
        subst ho
        intro wz hSw
        try dsimp only at hSw
        go_simp
        try with_reducible rfl
      try simp only [Act.put, List.setIfInBounds_toArray, List.set_cons_zero, List.set_cons_succ]
      refine last_take (i := 6) (d := some 19) (v := ?_) rfl (by kernel_rfl) (by kernel_rfl) (by kernel_rfl) (by kernel_rfl) (fun _ _ _ h => h) ?_ hHeld ?_
      rotate_left
      · intro o ho
        simp at ho
        subst ho
        intro wz hSw
        try dsimp only at hSw
        go_simp
        try with_reducible rfl
      try simp only [Act.put, List.setIfInBounds_toArray, List.set_cons_zero, List.set_cons_succ]
      refine last_take (i := 7) (d := some 20) (v := ?_) rfl (by kernel_rfl) (by kernel_rfl) (by kernel_rfl) (by kernel_rfl) (fun _ _ _ h => h) ?_ hHeld ?_
      rotate_left
      · intro o ho
        simp at ho
        subst ho
        intro wz hSw
        try dsimp only at hSw
        go_simp
        try with_reducible rfl
      try simp only [Act.put, List.setIfInBounds_toArray, List.set_cons_zero, List.set_cons_succ]
      refine last_take (i := 8) (d := some 21) (v := ?_) rfl (by kernel_rfl) (by kernel_rfl) (by kernel_rfl) (by kernel_rfl) (fun _ _ _ h => h) ?_ hHeld ?_
      rotate_left
      · intro o ho
        simp at ho
        subst ho
        intro wz hSw
        try dsimp only at hSw
        go_simp
        try with_reducible rfl
      try simp only [Act.put, List.setIfInBounds_toArray, List.set_cons_zero, List.set_cons_succ]
      refine last_take (i := 9) (d := some 22) (v := ?_) rfl (by kernel_rfl) (by kernel_rfl) (by kernel_rfl) (by kernel_rfl) (fun _ _ _ h => h) ?_ hHeld ?_
      rotate_left
      · intro o ho
        simp at ho
        subst ho
        intro wz hSw
        try dsimp only at hSw
        go_simp
        try with_reducible rfl
      try simp only [Act.put, List.setIfInBounds_toArray, List.set_cons_zero, List.set_cons_succ]
      refine last_take (i := 10) (d := some 23) (v := ?_) rfl (by kernel_rfl) (by kernel_rfl) (by kernel_rfl) (by kernel_rfl) (fun _ _ _ h => h) ?_ hHeld ?_
      rotate_left
      · intro o ho
        simp at ho
        subst ho
        intro wz hSw
        try dsimp only at hSw
        go_simp
        try with_reducible rfl
      try simp only [Act.put, List.setIfInBounds_toArray, List.set_cons_zero, List.set_cons_succ]
      refine last_take (i := 11) (d := some 24) (v := ?_) rfl (by kernel_rfl) (by kernel_rfl) (by kernel_rfl) (by kernel_rfl) (fun _ _ _ h => h) ?_ hHeld ?_
      rotate_left
      · intro o ho
        simp at ho
        subst ho
        intro wz hSw
        try dsimp only at hSw
        go_simp
        try with_reducible rfl
      try simp only [Act.put, List.setIfInBounds_toArray, List.set_cons_zero, List.set_cons_succ]
      refine last_take (i := 12) (d := some 25) (v := ?_) rfl (by kernel_rfl) (by kernel_rfl) (by kernel_rfl) (by kernel_rfl) (fun _ _ _ h => h) ?_ hHeld ?_
      rotate_left
      · intro o ho
        simp at ho
        subst ho
        intro wz hSw
        try dsimp only at hSw
        go_simp
        try with_reducible rfl
      try simp only [Act.put, List.setIfInBounds_toArray, List.set_cons_zero, List.set_cons_succ]
      refine last_take (i := 13) (d := some 26) (v := ?_) rfl (by kernel_rfl) (by kernel_rfl) (by kernel_rfl) (by kernel_rfl) (fun _ _ _ h => h) ?_ hHeld ?_
      rotate_left
      · intro o ho
        simp at ho
        subst ho
        intro wz hSw
        try dsimp only at hSw
        go_simp
        try with_reducible rfl
      try simp only [Act.put, List.setIfInBounds_toArray, List.set_cons_zero, List.set_cons_succ]
      refine last_take (i := 14) (d := some 27) (v := ?_) rfl (by kernel_rfl) (by kernel_rfl) (by kernel_rfl) (by kernel_rfl) (fun _ _ _ h => h) ?_ hHeld ?_
      rotate_left
      · intro o ho
        simp at ho
        subst ho
        intro wz hSw
        try dsimp only at hSw
        go_simp
        try with_reducible rfl
      try simp only [Act.put, List.setIfInBounds_toArray, List.set_cons_zero, List.set_cons_succ]
      refine last_call (i := 15) rfl (by kernel_rfl) ?_
      intro o ho
      simp at ho
      subst ho
      intro K hK
      go_simp
      refine hK.out _ _ (fun _ => ?_) (fun hHeld0 => ?_)
      · exact hHeld
      clear hK K
      replace hHeld := hHeld0 (by decide)
      clear hHeld0
      try simp only [Act.put, List.setIfInBounds_toArray, List.set_cons_zero, List.set_cons_succ]
      refine last_take (i := 16) (d := some 29) (v := ?_) rfl (by kernel_rfl) (by kernel_rfl) (by kernel_rfl) (by kernel_rfl) (fun _ _ _ h => h) ?_ hHeld ?_
      rotate_left
      · intro o ho
        simp at ho
        subst ho
        intro wz hSw
        try dsimp only at hSw
        go_simp
        try with_reducible rfl
      try simp only [Act.put, List.setIfInBounds_toArray, List.set_cons_zero, List.set_cons_succ]
      refine last_call (i := 17) rfl (by kernel_rfl) ?_
      intro o ho
      simp at ho
      subst ho
      intro K hK
      go_simp
      refine hK.out _ _ (fun h => absurd rfl h) (fun _ => ?_)
      clear hK K
      try simp only [Act.put, List.setIfInBounds_toArray, List.set_cons_zero, List.set_cons_succ]
      refine last_done (by kernel_rfl) (NoPanic.normal ?_) _
      clear hHeld
      go_wp2_with fail
      refine bodyPost_ret (by simp [results, Try.results27, go_sem, *]; done) rfl ⟨rfl, ?_⟩
      rw [hnx.out, hW1.out]
      have hB : Below W1.heap.size W1 (W1.alloc (.cells #[.int .i64 b, .int .i64 x, .int .i64 (n + 1)] 32)).drew := ((Below.refl _ _).alloc (Nat.le_refl _) _).drew
      exact ⟨hk.out.1.below hB, hk.out.2.trans (RF.of_below hB hk.out.1.gl) (.inl rfl)⟩
    · have hO : Own w (.slice (some ⟨gb, o' + 1, none⟩) m (cap - 1)) gb (wtQ ⟨r.A, r.n + 1, 1, r.kn⟩) := by show Own _ _ _ (r.A.drop (r.n + 1)); rw [hT.out]; exact ht.out
      obtain ⟨W1, hW1⟩ : ∃ W1, setN w g o b x (n + 1) 1 (.slice (some ⟨gb, o' + 1, none⟩) m (cap - 1)) = W1 := ⟨_, rfl⟩
      have hk := hide (row_next (unhide hH).c gn (r' := ⟨r.A, r.n + 1, 1, r.kn⟩) (x0 := b) (x1 := x) (x2 := n + 1) (x3 := 1) rfl hlx.out (by show ((r.n + 1 : Nat) : Int) = _; rw [hrn.out]; simp) rfl hkx.out hO)
      rw [hW1] at hk
      dsimp only [setN] at hW1
      replace hW1 := hide hW1
      clear hO
      go_enter Try.func27, Try.ntmps27
      go_wp2_with fail
      refine wp_region_noPanic ?_
      refine last_begin 17 (fun w' => w'.cell? ⟨g, o + 68, none⟩ = some (.slice (some ⟨gb, o', none⟩) (m + 1) cap) ∧ w'.cell? ⟨gb, o', none⟩ = some (.int .i64 x) ∧ w'.cell? ⟨g, o + 2, none⟩ = some (.int .i64 n)) (by kernel_rfl) ?_ (fun hHeld => ?_)
      · exact ⟨by simp [go_sem, *], by simp [go_sem, *], by simp [go_sem, *]⟩
      refine last_take (i := 0) (d := some 13) (v := ?_) rfl (by kernel_rfl) (by kernel_rfl) (by kernel_rfl) (by kernel_rfl) (fun _ _ _ h => h) ?_ hHeld ?_
      rotate_left
      · intro o ho
        simp at ho
        subst ho
        intro wz hSw
        try dsimp only at hSw
        go_simp
        try with_reducible rfl
      try simp only [Act.put, List.setIfInBounds_toArray, List.set_cons_zero, List.set_cons_succ]
      refine last_take (i := 1) (d := some 14) (v := ?_) rfl (by kernel_rfl) (by kernel_rfl) (by kernel_rfl) (by kernel_rfl) (fun _ _ _ h => h) ?_ hHeld ?_
      rotate_left
      · intro o ho
        simp at ho
        subst ho
        intro wz hSw
        try dsimp only at hSw
        go_simp
        try with_reducible rfl
      try simp only [Act.put, List.setIfInBounds_toArray, List.set_cons_zero, List.set_cons_succ]
      refine last_take (i := 2) (d := some 15) (v := ?_) rfl (by kernel_rfl) (by kernel_rfl) (by kernel_rfl) (by kernel_rfl) (fun _ _ _ h => h) ?_ hHeld ?_
      rotate_left
      · intro o ho
        simp at ho
        subst ho
        intro wz hSw
        try dsimp only at hSw
        go_simp
        try with_reducible rfl
      try simp only [Act.put, List.setIfInBounds_toArray, List.set_cons_zero, List.set_cons_succ]
      refine last_take (i := 3) (d := some 16) (v := ?_) rfl (by kernel_rfl) (by kernel_rfl) (by kernel_rfl) (by kernel_rfl) (fun _ _ _ h => h) ?_ hHeld ?_
      rotate_left
      · intro o ho
        simp at ho
        subst ho
        intro wz hSw
        try dsimp only at hSw
        go_simp
        try with_reducible rfl
      try simp only [Act.put, List.setIfInBounds_toArray, List.set_cons_zero, List.set_cons_succ]
      refine last_take (i := 4) (d := some 17) (v := ?_) rfl (by kernel_rfl) (by kernel_rfl) (by kernel_rfl) (by kernel_rfl) (fun _ _ _ h => h) ?_ hHeld ?_
      rotate_left
      · intro o ho
        simp at ho
        subst ho
        intro wz hSw
        try dsimp only at hSw
        go_simp
        try with_reducible rfl
      try simp only [Act.put, List.setIfInBounds_toArray, List.set_cons_zero, List.set_cons_succ]
      refine last_take (i := 5) (d := some 18) (v := ?_) rfl (by kernel_rfl) (by kernel_rfl) (by kernel_rfl) (by kernel_rfl) (fun _ _ _ h => h) ?_ hHeld ?_
      rotate_left
      · intro o ho
        simp at ho
        subst ho
        intro wz hSw
        try dsimp only at hSw
        go_simp
        try with_reducible rfl
      try simp only [Act.put, List.setIfInBounds_toArray, List.set_cons_zero, List.set_cons_succ]
      refine last_take (i := 6) (d := some 19) (v := ?_) rfl (by kernel_rfl) (by kernel_rfl) (by kernel_rfl) (by kernel_rfl) (fun _ _ _ h => h) ?_ hHeld ?_
      rotate_left
      · intro o ho
        simp at ho
        subst ho
        intro wz hSw
        try dsimp only at hSw
        go_simp
        try with_reducible rfl
      try simp only [Act.put, List.setIfInBounds_toArray, List.set_cons_zero, List.set_cons_succ]
      refine last_take (i := 7) (d := some 20) (v := ?_) rfl (by kernel_rfl) (by kernel_rfl) (by kernel_rfl) (by kernel_rfl) (fun _ _ _ h => h) ?_ hHeld ?_
      rotate_left
      · intro o ho
        simp at ho
        subst ho
        intro wz hSw
        try dsimp only at hSw
        go_simp
        try with_reducible rfl
      try simp only [Act.put, List.setIfInBounds_toArray, List.set_cons_zero, List.set_cons_succ]
      refine last_take (i := 8) (d := some 21) (v := ?_) rfl (by kernel_rfl) (by kernel_rfl) (by kernel_rfl) (by kernel_rfl) (fun _ _ _ h => h) ?_ hHeld ?_
      rotate_left
      · intro o ho
        simp at ho
        subst ho
        intro wz hSw
        try dsimp only at hSw
        go_simp
        try with_reducible rfl
      try simp only [Act.put, List.setIfInBounds_toArray, List.set_cons_zero, List.set_cons_succ]
      refine last_take (i := 9) (d := some 22) (v := ?_) rfl (by kernel_rfl) (by kernel_rfl) (by kernel_rfl) (by kernel_rfl) (fun _ _ _ h => h) ?_ hHeld ?_
      rotate_left
      · intro o ho
        simp at ho
        subst ho
        intro wz hSw
        try dsimp only at hSw
        go_simp
        try with_reducible rfl
      try simp only [Act.put, List.setIfInBounds_toArray, List.set_cons_zero, List.set_cons_succ]
      refine last_take (i := 10) (d := some 23) (v := ?_) rfl (by kernel_rfl) (by kernel_rfl) (by kernel_rfl) (by kernel_rfl) (fun _ _ _ h => h) ?_ hHeld ?_
      rotate_left
      · intro o ho
        simp at ho
        subst ho
        intro wz hSw
        try dsimp only at hSw
        go_simp
        try with_reducible rfl
      try simp only [Act.put, List.setIfInBounds_toArray, List.set_cons_zero, List.set_cons_succ]
      refine last_take (i := 11) (d := some 24) (v := ?_) rfl (by kernel_rfl) (by kernel_rfl) (by kernel_rfl) (by kernel_rfl) (fun _ _ _ h => h) ?_ hHeld ?_
      rotate_left
      · intro o ho
        simp at ho
        subst ho
        intro wz hSw
        try dsimp only at hSw
        go_simp
        try with_reducible rfl
      try simp only [Act.put, List.setIfInBounds_toArray, List.set_cons_zero, List.set_cons_succ]
      refine last_take (i := 12) (d := some 25) (v := ?_) rfl (by kernel_rfl) (by kernel_rfl) (by kernel_rfl) (by kernel_rfl) (fun _ _ _ h => h) ?_ hHeld ?_
      rotate_left
      · intro o ho
        simp at ho
        subst ho
        intro wz hSw
        try dsimp only at hSw
        go_simp
        try with_reducible rfl
      try simp only [Act.put, List.setIfInBounds_toArray, List.set_cons_zero, List.set_cons_succ]
      refine last_take (i := 13) (d := some 26) (v := ?_) rfl (by kernel_rfl) (by kernel_rfl) (by kernel_rfl) (by kernel_rfl) (fun _ _ _ h => h) ?_ hHeld ?_
      rotate_left
      · intro o ho
        simp at ho
        subst ho
        intro wz hSw
        try dsimp only at hSw
        go_simp
        try with_reducible rfl
      try simp only [Act.put, List.setIfInBounds_toArray, List.set_cons_zero, List.set_cons_succ]
      refine last_take (i := 14) (d := some 27) (v := ?_) rfl (by kernel_rfl) (by kernel_rfl) (by kernel_rfl) (by kernel_rfl) (fun _ _ _ h => h) ?_ hHeld ?_
      rotate_left
      · intro o ho
        simp at ho
        subst ho
        intro wz hSw
        try dsimp only at hSw
        go_simp
        try with_reducible rfl
      try simp only [Act.put, List.setIfInBounds_toArray, List.set_cons_zero, List.set_cons_succ]
      refine last_call (i := 15) rfl (by kernel_rfl) ?_
      intro o ho
      simp at ho
      subst ho
      intro K hK
      go_simp
      refine hK.out _ _ (fun _ => ?_) (fun hHeld0 => ?_)
      · exact hHeld
      clear hK K
      replace hHeld := hHeld0 (by decide)
      clear hHeld0
      try simp only [Act.put, List.setIfInBounds_toArray, List.set_cons_zero, List.set_cons_succ]
      refine last_take (i := 16) (d := some 29) (v := ?_) rfl (by kernel_rfl) (by kernel_rfl) (by kernel_rfl) (by kernel_rfl) (fun _ _ _ h => h) ?_ hHeld ?_
      rotate_left
      · intro o ho
        simp at ho
        subst ho
        intro wz hSw
        try dsimp only at hSw
        go_simp
        try with_reducible rfl
      try simp only [Act.put, List.setIfInBounds_toArray, List.set_cons_zero, List.set_cons_succ]
      refine last_call (i := 17) rfl (by kernel_rfl) ?_
      intro o ho
      simp at ho
      subst ho
      intro K hK
      go_simp
      refine hK.out _ _ (fun h => absurd rfl h) (fun _ => ?_)
      clear hK K
      try simp only [Act.put, List.setIfInBounds_toArray, List.set_cons_zero, List.set_cons_succ]
      refine last_done (by kernel_rfl) (NoPanic.normal ?_) _
      clear hHeld
      go_wp2_with fail
      refine bodyPost_ret (by simp [results, Try.results27, go_sem, *]; done) rfl ⟨rfl, ?_⟩
      rw [hnx.out, hW1.out]
      have hB : Below W1.heap.size W1 (W1.alloc (.cells #[.int .i64 b, .int .i64 x, .int .i64 (n + 1)] 32)).drew := ((Below.refl _ _).alloc (Nat.le_refl _) _).drew
      exact ⟨hk.out.1.below hB, hk.out.2.trans (RF.of_below hB hk.out.1.gl) (.inl rfl)⟩
  · obtain rfl : ok = false := by rw [← hok']; simp [c]
    rw [if_neg (fun h => c h.2)] at ha'
    subst ha'
    have hn : nxBQ r = r := by unfold nxBQ; rw [if_neg (fun h => c h.2)]
    rw [hn]
    have hl : (r.A.drop r.n) = [] := List.drop_eq_nil_of_le (by omega)
    rw [hl] at hW
    obtain ⟨ao, cap, rfl⟩ : ∃ ao cap, v = .slice ao 0 cap := by
      cases ob with
      | none => exact ⟨none, 0, hW.1⟩
      | some b' => obtain ⟨ao, cap, e, _⟩ := hW; exact ⟨ao, cap, e⟩
    clear hW hl hok' hn c hle h
    go_enter Try.func27, Try.ntmps27
    go_wp2_with fail
    refine bodyPost_ret (by simp [results, Try.results27, go_sem, *]; done) rfl ⟨rfl, ?_⟩
    have hB : Below w.heap.size w (w.alloc (Obj.cells #[Value.int IntKind.i64 0, Value.int IntKind.i64 0, Value.int IntKind.i64 0] 32)) := (Below.refl _ _).alloc (Nat.le_refl _) _
    exact ⟨(unhide hH).below hB, RF.of_below hB hgl⟩
end Go.Proofs.Ytlfdahcbkdiifaa
