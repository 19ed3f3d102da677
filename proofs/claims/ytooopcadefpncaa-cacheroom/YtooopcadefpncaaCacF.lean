/- The contract of package cache's Do (layer 9). -/
import Derived.Test.YtooopcadefpncaaCacB
import Derived.Test.YtooopcadefpncaaPermDo
namespace Go.Proofs.Ytooopcadefpncaa
open Go.ChangeShapes Go.WideShapes Go.ChangeAt Go.RowKit
set_option linter.unusedSimpArgs false
set_option linter.unusedVariables false
set_option maxRecDepth 10000

attribute [local go_sem, local simp] over_const setCell_drewN alloc_drewN Over.cell Over.frozen lt_s1 lt_s2 lt_s3 le_s0 le_s1 le_s2 le_s3 eq_s0 eq_s1 eq_s2 qe_s0

abbrev setB (w : World) (B : Nat) (b : Bun) : World := (((w.setCell ⟨B, 0, none⟩ (.int .i64 b.n)).setCell ⟨B, 1, none⟩ (.bool b.o)).setCell ⟨B, 2, none⟩ (.bool b.h)).setCell ⟨B, 3, none⟩ (.int .i64 b.d)

theorem set_bun {w : World} {B : Nat} {b0 : Bun} (h : BunAt w B b0) (b : Bun) : BunAt (setB w B b) B b ∧ FrS (· = B) w (setB w B b) := by
  obtain ⟨y5, y0, y1, y2, y3, z0, z1, z2, z3⟩ := h
  refine ⟨⟨by simp; exact y5, by simp [go_sem, *], by simp [go_sem, *], by simp [go_sem, *], by simp [go_sem, *], by simp [go_sem, *], by simp [go_sem, *], by simp [go_sem, *], by simp [go_sem, *]⟩, ?_⟩
  repeat' first | with_reducible exact FrS.refl _ _ | refine FrS.wr ?_ _

/-- An operation in block b. -/
structure OpAt (w : World) (b : Nat) (x : Int) (wr : Bool) (v : Int) : Prop where
  lt : b < w.heap.size
  c0 : w.cell? ⟨b, 0, none⟩ = some (.int .i64 x)
  c1 : w.cell? ⟨b, 1, none⟩ = some (.bool wr)
  c2 : w.cell? ⟨b, 2, none⟩ = some (.int .i64 v)

theorem OpAt.carry {w w' : World} {b : Nat} {x : Int} {wr : Bool} {v : Int} (h : OpAt w b x wr v) (e : w'.heap[b]? = w.heap[b]?) : OpAt w' b x wr v := ⟨block_lt h.lt e, keep_cell e h.c0, keep_cell e h.c1, keep_cell e h.c2⟩
theorem OpAt.below {w w' : World} {b : Nat} {x : Int} {wr : Bool} {v : Int} (h : OpAt w b x wr v) (hb : Below w.heap.size w w') : OpAt w' b x wr v := h.carry (hb.block b h.lt)
theorem OpAt.fr {w w' : World} {b : Nat} {x : Int} {wr : Bool} {v : Int} {F : Nat → Prop} (h : OpAt w b x wr v) (hf : FrS F w w') (hn : ¬ F b) : OpAt w' b x wr v := h.carry (hf.block b h.lt hn)
theorem op_new (w : World) (x : Int) (wr : Bool) (v : Int) (T : TypeId) : OpAt (w.alloc (.cells #[.int .i64 x, .bool wr, .int .i64 v] T)) w.heap.size x wr v :=
  ⟨by simp, cell_of_row _ _ _ _ _ _ (heap_alloc_new w _), cell_of_row _ _ _ _ _ _ (heap_alloc_new w _), cell_of_row _ _ _ _ _ _ (heap_alloc_new w _)⟩
theorem bun_new (w : World) (T : TypeId) : BunAt (w.alloc (.cells #[.int .i64 0, .bool false, .bool false, .int .i64 0] T)) w.heap.size bun0 :=
  ⟨by simp, by simp [go_sem], by simp [go_sem], by simp [go_sem], by simp [go_sem], by simp [go_sem], by simp [go_sem], by simp [go_sem], by simp [go_sem]⟩
theorem BunAt.fr {w w' : World} {b : Nat} {x : Bun} {F : Nat → Prop} (h : BunAt w b x) (hf : FrS F w w') (hn : ¬ F b) : BunAt w' b x := h.carry (hf.block b h.lt hn)

/-- Behind the region's store: the tokens lie in a new block. -/
structure DoMid (w w3 : World) (B : Nat) (x : Int) (wr : Bool) (v : Int) (b : Bun) : Prop where
  bel : Below w.heap.size w w3
  op : OpAt w3 w.heap.size x wr v
  bun : BunAt w3 B b
  new : w.heap.size < B

theorem DoMid.of {w w2 : World} {B : Nat} {x : Int} {wr : Bool} {v : Int} {b0 : Bun} (hB : Below w.heap.size w w2) (ho : OpAt w2 w.heap.size x wr v) (hb : BunAt w2 B b0) (hn : w.heap.size < B) (b : Bun) : DoMid w (setB w2 B b) B x wr v b := by
  obtain ⟨h1, h2⟩ := set_bun hb b
  exact ⟨hB.trans (h2.below (fun i hi => by omega) hB.size), ho.fr h2 (by omega), h1, hn⟩

theorem belA0 (w : World) (o : Obj) : Below w.heap.size w (w.alloc o) := (Below.refl _ _).alloc (Nat.le_refl _) _

set_option maxHeartbeats 2000000 in
theorem cDo_c (c : Nat) (Ft : Nat → Prop) (S W N x : Int) (wr : Bool) (v t : Int) (C : Ca) (w : World) (h : CaIs w c Ft S W N C) (hx : I64 x) (q : Bool) (r : Int) (C' : Ca) (hq : Hid (okDo C x wr t = q)) (hr : Hid (valDo C x wr v t = r)) (hC : Hid (nxDo C x wr v t = C')) :
    Calls Try.prog 18 #[ptr c, .agg #[.int .i64 x, .bool wr, .int .i64 v], .int .i64 t] w fun e w' => e = .returned (.tuple #[.int .i64 r, .bool q]) ∧ ∃ Ft', CaIs w' c Ft' S W N C' ∧ Step Ft Ft' w w' := by
  have hI' := hide (h.inv.dx x wr v t)
  rw [hC.out] at hI'
  have hH := hide h
  have hlt : ∀ b, Ft b → b < w.heap.size := h.lt
  obtain ⟨p, tb, Fh, c0, c1, hh, hF, hc⟩ := h.at'
  have hcl := h.lt c h.fc
  have hlen := h.inv.inv.len
  have hmem : Hid (q = true → x ∈ C.A) := fun e => (okDo_mem h.inv (hq.out.trans e)).1
  obtain ⟨D, hD⟩ := hh.tk
  have htl := hh.lt tb hh.ft
  replace hD := hide hD
  replace hh := hide hh
  have hFhw : ∀ b, Fh b → b < w.heap.size := fun b e => hlt b (hF b e)
  clear h
  obtain ⟨z, hz⟩ : ∃ z, Hid (C.T x = z) := ⟨_, rfl⟩
  obtain ⟨d', hd⟩ : ∃ d', Hid (datDo C x wr v t = d') := ⟨_, rfl⟩
  have hq1 : Hid (canB wr z.n z.h t = q) := by have := hq.out; rw [okDo, hz.out] at this; exact this
  have hd1 : Hid ((if (q && wr) = true then v else z.d) = d') := by have := hd.out; rw [datDo, hz.out, hq.out] at this; exact this
  have hr1 : Hid ((if q = true then d' else 0) = r) := by have := hr.out; rw [valDo, hd.out, hq.out] at this; exact this
  have hC1 := hC.out
  rw [nxDo, hq.out, hz.out, hd.out] at hC1
  replace hC1 := hide hC1
  clear hq hr hC
  go_enter Try.func18, Try.ntmps18
  go_wp2_with fail
  have ho0 := op_new w x wr v 33
  have hB0 : Below w.heap.size w (w.alloc (.cells #[.int .i64 x, .bool wr, .int .i64 v] 33)) := (Below.refl _ _).alloc (Nat.le_refl _) _
  obtain ⟨wb, hwb⟩ : ∃ wb, (w.alloc (.cells #[.int .i64 x, .bool wr, .int .i64 v] 33)) = wb := ⟨_, rfl⟩
  rw [hwb] at ho0 hB0 ⊢
  clear hwb
  obtain ⟨-, o0, o1, o2⟩ := id ho0
  go_wp2_with fail
  refine wp_region_noPanic ?_
  refine wp_region_held_drew (S := (fun w' => w'.cell? ⟨w.heap.size, 0, none⟩ = some (.int .i64 x) ∧ w'.cell? ⟨w.heap.size, 1, none⟩ = some (.bool wr) ∧ w'.cell? ⟨w.heap.size, 2, none⟩ = some (.int .i64 v))) (by kernel_rfl) ?_ (fun hHeld => ?_)
  · exact ⟨o0, o1, o2⟩
  have ho1 : OpAt wb.drew w.heap.size x wr v := ho0.carry rfl
  have hB1 : Below w.heap.size w wb.drew := hB0.drew
  obtain ⟨wd, hwd⟩ : ∃ wd, wb.drew = wd := ⟨_, rfl⟩
  rw [hwd] at hHeld ho1 hB1 ⊢
  clear hwd ho0 hB0 o0 o1 o2
  refine hand_take (i := 0) (d := some 12) (v := ?_) rfl (by kernel_rfl) (by kernel_rfl) (by kernel_rfl) (fun _ _ _ h => h) ?_ hHeld ?_
  rotate_left
  · intro o ho
    simp at ho
    subst ho
    intro wz hSw
    try dsimp only at hSw
    go_simp
    try with_reducible rfl
  try simp only [Act.put, List.setIfInBounds_toArray, List.set_cons_zero, List.set_cons_succ]
  refine hand_take (i := 1) (d := some 13) (v := ?_) rfl (by kernel_rfl) (by kernel_rfl) (by kernel_rfl) (fun _ _ _ h => h) ?_ hHeld ?_
  rotate_left
  · intro o ho
    simp at ho
    subst ho
    intro wz hSw
    try dsimp only at hSw
    go_simp
    try with_reducible rfl
  try simp only [Act.put, List.setIfInBounds_toArray, List.set_cons_zero, List.set_cons_succ]
  refine hand_take (i := 2) (d := some 14) (v := ?_) rfl (by kernel_rfl) (by kernel_rfl) (by kernel_rfl) (fun _ _ _ h => h) ?_ hHeld ?_
  rotate_left
  · intro o ho
    simp at ho
    subst ho
    intro wz hSw
    try dsimp only at hSw
    go_simp
    try with_reducible rfl
  try simp only [Act.put, List.setIfInBounds_toArray, List.set_cons_zero, List.set_cons_succ]
  refine hand_take (i := 3) (d := some 15) (v := ?_) rfl (by kernel_rfl) (by kernel_rfl) (by kernel_rfl) (fun _ _ _ h => h) ?_ hHeld ?_
  rotate_left
  · intro o ho
    simp at ho
    subst ho
    intro wz hSw
    try dsimp only at hSw
    go_simp
    try with_reducible rfl
  try simp only [Act.put, List.setIfInBounds_toArray, List.set_cons_zero, List.set_cons_succ]
  refine hand_take (i := 5) (d := some 17) (v := ?_) rfl (by kernel_rfl) (by kernel_rfl) (by kernel_rfl) (fun _ _ _ h => h) ?_ hHeld ?_
  rotate_left
  · intro o ho
    simp at ho
    subst ho
    intro wz hSw
    try dsimp only at hSw
    go_simp
    try with_reducible rfl
  try simp only [Act.put, List.setIfInBounds_toArray, List.set_cons_zero, List.set_cons_succ]
  refine hand_two (i := 4) (j := 11) rfl rfl (by kernel_rfl) ?_ ?_
  · intro o ho
    simp at ho
    subst ho
    intro K hK
    go_simp
    go_at_call 20
    refine (cGet_c c Ft S W N x C wd ((unhide hH).below hB1) hx z hz).mono ?_
    rintro e w1 ⟨rfl, hb⟩
    have ho2 := ho1.below hb
    have hB2 := hB1.trans (hb.mono hB1.size)
    clear hb
    refine hK.out _ _ ?_ (fun hHeld => ?_)
    · exact ⟨ho2.c0, ho2.c1, ho2.c2⟩
    clear hK K
    try simp only [Act.put, List.setIfInBounds_toArray, List.set_cons_zero, List.set_cons_succ]
    refine hand_two (i := 6) (j := 11) rfl rfl (by kernel_rfl) ?_ ?_
    · intro o ho
      simp at ho
      subst ho
      intro K hK
      go_simp
      go_at_call 42
      refine (do_c x wr v z.n z.o z.h z.d t w1 q hq1 d' r hd1 hr1).mono ?_
      rintro e w2 ⟨rfl, hb⟩
      have ho3 := ho2.below hb
      have hB3 := hB2.trans (hb.mono hB2.size)
      clear hb
      refine hK.out _ _ ?_ (fun hHeld => ?_)
      · exact ⟨ho3.c0, ho3.c1, ho3.c2⟩
      clear hK K
      try simp only [Act.put, List.setIfInBounds_toArray, List.set_cons_zero, List.set_cons_succ]
      refine hand_take (i := 7) (d := some 11) (v := ?_) rfl (by kernel_rfl) (by kernel_rfl) (by kernel_rfl) (fun _ _ _ h => h) ?_ hHeld ?_
      rotate_left
      · intro o ho
        simp at ho
        subst ho
        intro wz hSw
        try dsimp only at hSw
        go_simp
        try with_reducible rfl
      try simp only [Act.put, List.setIfInBounds_toArray, List.set_cons_zero, List.set_cons_succ]
      refine hand_take (i := 8) (d := some 19) (v := ?_) rfl (by kernel_rfl) (by kernel_rfl) (by kernel_rfl) (fun _ _ _ h => h) ?_ hHeld ?_
      rotate_left
      · intro o ho
        simp at ho
        subst ho
        intro wz hSw
        try dsimp only at hSw
        go_simp
        try with_reducible rfl
      try simp only [Act.put, List.setIfInBounds_toArray, List.set_cons_zero, List.set_cons_succ]
      refine hand_take (i := 9) (d := some 20) (v := ?_) rfl (by kernel_rfl) (by kernel_rfl) (by kernel_rfl) (fun _ _ _ h => h) ?_ hHeld ?_
      rotate_left
      · intro o ho
        simp at ho
        subst ho
        intro wz hSw
        try dsimp only at hSw
        go_simp
        try with_reducible rfl
      try simp only [Act.put, List.setIfInBounds_toArray, List.set_cons_zero, List.set_cons_succ]
      refine hand_take (i := 10) (d := some 21) (v := ?_) rfl (by kernel_rfl) (by kernel_rfl) (by kernel_rfl) (fun _ _ _ h => h) ?_ hHeld ?_
      rotate_left
      · intro o ho
        simp at ho
        subst ho
        intro wz hSw
        try dsimp only at hSw
        go_simp
        try with_reducible rfl
      try simp only [Act.put, List.setIfInBounds_toArray, List.set_cons_zero, List.set_cons_succ]
      refine hand_call (i := 11) rfl (by kernel_rfl) ?_
      intro o ho
      simp at ho
      subst ho
      intro K hK
      go_simp
      have ho4 := ho3.below (belA0 w2 (.cells #[.int .i64 0, .bool false, .bool false, .int .i64 0] 31))
      have hB4 := hB3.alloc hB3.size (.cells #[.int .i64 0, .bool false, .bool false, .int .i64 0] 31)
      have hy := bun_new w2 31
      have hn : w.heap.size < w2.heap.size := ho3.lt
      obtain ⟨B, eB⟩ : ∃ B, w2.heap.size = B := ⟨_, rfl⟩
      obtain ⟨w4, hw4⟩ : ∃ w4, w2.alloc (.cells #[.int .i64 0, .bool false, .bool false, .int .i64 0] 31) = w4 := ⟨_, rfl⟩
      rw [hw4] at ho4 hB4 hy ⊢
      rw [eB] at hy hn ⊢
      clear hw4 eB ho3 hB3
      refine hK.out _ _ ?_ (fun hHeld => ?_)
      · exact ⟨ho4.c0, ho4.c1, ho4.c2⟩
      clear hK K
      try simp only [Act.put, List.setIfInBounds_toArray, List.set_cons_zero, List.set_cons_succ]
      obtain ⟨y5, y0, y1, y2, y3, z0, z1, z2, z3⟩ := id hy
      refine hand_call (i := 12) rfl (by kernel_rfl) ?_
      intro o ho
      simp at ho
      subst ho
      intro K hK
      go_simp
      clear y5 y0 y1 y2 y3 z0 z1 z2 z3
      obtain ⟨w6, hw6⟩ : ∃ w6, setB w4 B ⟨z.n, z.o, z.h, d'⟩ = w6 := ⟨_, rfl⟩
      have M : DoMid w w6 B x wr v ⟨z.n, z.o, z.h, d'⟩ := by rw [← hw6]; exact DoMid.of hB4 ho4 hy hn _
      dsimp only [setB] at hw6
      rw [hw6]
      clear hw6
      refine hK.out _ _ ?_ (fun hHeld => ?_)
      · exact ⟨M.op.c0, M.op.c1, M.op.c2⟩
      clear hK K
      try simp only [Act.put, List.setIfInBounds_toArray, List.set_cons_zero, List.set_cons_succ]
      refine hand_take (i := 13) (d := some 9) (v := ?_) rfl (by kernel_rfl) (by kernel_rfl) (by kernel_rfl) (fun _ _ _ h => h) ?_ hHeld ?_
      rotate_left
      · intro o ho
        simp at ho
        subst ho
        intro wz hSw
        try dsimp only at hSw
        go_simp
        try with_reducible rfl
      try simp only [Act.put, List.setIfInBounds_toArray, List.set_cons_zero, List.set_cons_succ]
      refine hand_take (i := 14) (d := some 10) (v := ?_) rfl (by kernel_rfl) (by kernel_rfl) (by kernel_rfl) (fun _ _ _ h => h) ?_ hHeld ?_
      rotate_left
      · intro o ho
        simp at ho
        subst ho
        intro wz hSw
        try dsimp only at hSw
        go_simp
        try with_reducible rfl
      try simp only [Act.put, List.setIfInBounds_toArray, List.set_cons_zero, List.set_cons_succ]
      refine wpAnyH_done (by kernel_rfl) (NoPanic.normal ?_) _
      clear hHeld
      obtain ⟨M1, ⟨ol, o0, o1, o2⟩, hy, hn⟩ := M
      obtain ⟨y5, y0, y1, y2, y3, -, -, -, -⟩ := id hy
      have c0' := keep_cell (M1.block c hcl) c0
      have c1' := keep_cell (M1.block c hcl) c1
      replace M1 := hide M1
      replace hy := hide hy
      cases q
      · go_wp2_with fail
        refine bodyPost_ret (by simp [results, Try.results18, go_sem, *]; done) rfl ⟨rfl, ?_⟩
        obtain rfl : C = C' := by have := hC1.out; simpa using this
        exact (unhide hH).quiet (unhide M1)
      · have hxA : Hid (x ∈ C.A) := unhide hmem rfl
        have hlen2 : Hid ((nxUse C.A x).length ≤ 2000) := by have h1 := (unhide hH).inv.inv.nxUse x; have := h1.len; unfold Hid; omega
        obtain rfl : (⟨nxUse C.A x, updT C.T x ⟨z.n, z.o, z.h, d'⟩⟩ : Ca) = C' := by have := hC1.out; simpa using this
        go_wp2_with fail
        refine wp_region_noPanic ?_
        refine last_begin 8 (fun w' => w'.cell? ⟨c, 1, none⟩ = some (.map (some tb)) ∧ w'.cell? ⟨w.heap.size, 0, none⟩ = some (.int .i64 x) ∧ w'.cell? ⟨B, 0, none⟩ = some (.int .i64 z.n) ∧ w'.cell? ⟨B, 1, none⟩ = some (.bool z.o) ∧ w'.cell? ⟨B, 2, none⟩ = some (.bool z.h) ∧ w'.cell? ⟨B, 3, none⟩ = some (.int .i64 d')) (by kernel_rfl) ?_ (fun hHeld => ?_)
        · exact ⟨c1', o0, y0, y1, y2, y3⟩
        refine last_take (i := 0) (d := some 23) (v := ?_) rfl (by kernel_rfl) (by kernel_rfl) (by kernel_rfl) (by kernel_rfl) (fun _ _ _ h => h) ?_ hHeld ?_
        rotate_left
        · intro o ho
          simp at ho
          subst ho
          intro wz hSw
          try dsimp only at hSw
          go_simp
          try with_reducible rfl
        try simp only [Act.put, List.setIfInBounds_toArray, List.set_cons_zero, List.set_cons_succ]
        refine last_take (i := 1) (d := some 24) (v := ?_) rfl (by kernel_rfl) (by kernel_rfl) (by kernel_rfl) (by kernel_rfl) (fun _ _ _ h => h) ?_ hHeld ?_
        rotate_left
        · intro o ho
          simp at ho
          subst ho
          intro wz hSw
          try dsimp only at hSw
          go_simp
          try with_reducible rfl
        try simp only [Act.put, List.setIfInBounds_toArray, List.set_cons_zero, List.set_cons_succ]
        refine last_take (i := 2) (d := some 25) (v := ?_) rfl (by kernel_rfl) (by kernel_rfl) (by kernel_rfl) (by kernel_rfl) (fun _ _ _ h => h) ?_ hHeld ?_
        rotate_left
        · intro o ho
          simp at ho
          subst ho
          intro wz hSw
          try dsimp only at hSw
          go_simp
          try with_reducible rfl
        try simp only [Act.put, List.setIfInBounds_toArray, List.set_cons_zero, List.set_cons_succ]
        refine last_take (i := 3) (d := some 26) (v := ?_) rfl (by kernel_rfl) (by kernel_rfl) (by kernel_rfl) (by kernel_rfl) (fun _ _ _ h => h) ?_ hHeld ?_
        rotate_left
        · intro o ho
          simp at ho
          subst ho
          intro wz hSw
          try dsimp only at hSw
          go_simp
          try with_reducible rfl
        try simp only [Act.put, List.setIfInBounds_toArray, List.set_cons_zero, List.set_cons_succ]
        refine last_take (i := 4) (d := some 27) (v := ?_) rfl (by kernel_rfl) (by kernel_rfl) (by kernel_rfl) (by kernel_rfl) (fun _ _ _ h => h) ?_ hHeld ?_
        rotate_left
        · intro o ho
          simp at ho
          subst ho
          intro wz hSw
          try dsimp only at hSw
          go_simp
          try with_reducible rfl
        try simp only [Act.put, List.setIfInBounds_toArray, List.set_cons_zero, List.set_cons_succ]
        refine last_take (i := 5) (d := some 28) (v := ?_) rfl (by kernel_rfl) (by kernel_rfl) (by kernel_rfl) (by kernel_rfl) (fun _ _ _ h => h) ?_ hHeld ?_
        rotate_left
        · intro o ho
          simp at ho
          subst ho
          intro wz hSw
          try dsimp only at hSw
          go_simp
          try with_reducible rfl
        try simp only [Act.put, List.setIfInBounds_toArray, List.set_cons_zero, List.set_cons_succ]
        refine last_take (i := 6) (d := some 29) (v := ?_) rfl (by kernel_rfl) (by kernel_rfl) (by kernel_rfl) (by kernel_rfl) (fun _ _ _ h => h) ?_ hHeld ?_
        rotate_left
        · intro o ho
          simp at ho
          subst ho
          intro wz hSw
          try dsimp only at hSw
          go_simp
          try with_reducible rfl
        try simp only [Act.put, List.setIfInBounds_toArray, List.set_cons_zero, List.set_cons_succ]
        refine last_take (i := 7) (d := some 30) (v := ?_) rfl (by kernel_rfl) (by kernel_rfl) (by kernel_rfl) (by kernel_rfl) (fun _ _ _ h => h) ?_ hHeld ?_
        rotate_left
        · intro o ho
          simp at ho
          subst ho
          intro wz hSw
          try dsimp only at hSw
          go_simp
          try with_reducible rfl
        try simp only [Act.put, List.setIfInBounds_toArray, List.set_cons_zero, List.set_cons_succ]
        refine last_call (i := 8) rfl (by kernel_rfl) ?_
        intro o ho
        simp at ho
        subst ho
        intro K hK
        refine wp_updE (.tmp 27) (.tmp 29) (.tmp 30) rfl rfl rfl rfl (tk_putE (K' := nxUse C.A x) ((unhide hD).carry ((unhide M1).drew.block tb htl)) hx ⟨z.n, z.o, z.h, d'⟩ (fun k hk => mem_nxUse.2 hk) (mem_nxUse.2 (unhide hxA)) (unhide hlen2)) ?_; intro w7 hw7
        refine hK.out _ _ (fun h => absurd rfl h) (fun _ => ?_)
        clear hK K
        try simp only [Act.put, List.setIfInBounds_toArray, List.set_cons_zero, List.set_cons_succ]
        refine last_done (by kernel_rfl) (NoPanic.normal ?_) _
        clear hHeld
        obtain ⟨D7, hD7, hf7⟩ := hw7
        obtain ⟨Fh7, hh7, hsh7⟩ := ((unhide hh).below (unhide M1).drew).retok hD7 hf7
        have hdr : Below w6.heap.size w6 w6.drew := (Below.refl _ _).drew
        have s6 := (unhide M1).size
        obtain ⟨k1, k2, k3⟩ := hsh7.keep (b := c) hc (show c < w6.heap.size by omega)
        obtain ⟨a1, a2, a3⟩ := hsh7.keep (b := w.heap.size) (fun e => by have := hFhw _ e; omega) (show w.heap.size < w6.heap.size from ol)
        have q0 : w7.cell? ⟨c, 0, none⟩ = some (ptr p) := keep_cell k1 c0'
        have q1 : w7.cell? ⟨w.heap.size, 0, none⟩ = some (.int .i64 x) := keep_cell a1 o0
        obtain ⟨Fl7, hl7, hFl7, hnt7⟩ := hh7.ln
        replace hl7 := hide hl7
        replace hh7 := hide hh7
        replace hsh7 := hide hsh7
        replace hD7 := hide hD7
        clear hf7 k1 a1 o0 o1 o2 y0 y1 y2 y3 c1'
        go_wp2_with fail
        refine wp_region_noPanic ?_
        refine wp_region_held_drew (S := (fun w' => w'.cell? ⟨c, 0, none⟩ = some (ptr p) ∧ w'.cell? ⟨w.heap.size, 0, none⟩ = some (.int .i64 x))) (by kernel_rfl) ?_ (fun hHeld => ?_)
        · exact ⟨q0, q1⟩
        refine hand_take (i := 0) (d := some 31) (v := ?_) rfl (by kernel_rfl) (by kernel_rfl) (by kernel_rfl) (fun _ _ _ h => h) ?_ hHeld ?_
        rotate_left
        · intro o ho
          simp at ho
          subst ho
          intro wz hSw
          try dsimp only at hSw
          go_simp
          try with_reducible rfl
        try simp only [Act.put, List.setIfInBounds_toArray, List.set_cons_zero, List.set_cons_succ]
        refine hand_take (i := 1) (d := some 32) (v := ?_) rfl (by kernel_rfl) (by kernel_rfl) (by kernel_rfl) (fun _ _ _ h => h) ?_ hHeld ?_
        rotate_left
        · intro o ho
          simp at ho
          subst ho
          intro wz hSw
          try dsimp only at hSw
          go_simp
          try with_reducible rfl
        try simp only [Act.put, List.setIfInBounds_toArray, List.set_cons_zero, List.set_cons_succ]
        refine hand_take (i := 2) (d := some 33) (v := ?_) rfl (by kernel_rfl) (by kernel_rfl) (by kernel_rfl) (fun _ _ _ h => h) ?_ hHeld ?_
        rotate_left
        · intro o ho
          simp at ho
          subst ho
          intro wz hSw
          try dsimp only at hSw
          go_simp
          try with_reducible rfl
        try simp only [Act.put, List.setIfInBounds_toArray, List.set_cons_zero, List.set_cons_succ]
        refine hand_take (i := 3) (d := some 34) (v := ?_) rfl (by kernel_rfl) (by kernel_rfl) (by kernel_rfl) (fun _ _ _ h => h) ?_ hHeld ?_
        rotate_left
        · intro o ho
          simp at ho
          subst ho
          intro wz hSw
          try dsimp only at hSw
          go_simp
          try with_reducible rfl
        try simp only [Act.put, List.setIfInBounds_toArray, List.set_cons_zero, List.set_cons_succ]
        refine hand_take (i := 4) (d := some 35) (v := ?_) rfl (by kernel_rfl) (by kernel_rfl) (by kernel_rfl) (fun _ _ _ h => h) ?_ hHeld ?_
        rotate_left
        · intro o ho
          simp at ho
          subst ho
          intro wz hSw
          try dsimp only at hSw
          go_simp
          try with_reducible rfl
        try simp only [Act.put, List.setIfInBounds_toArray, List.set_cons_zero, List.set_cons_succ]
        refine hand_take (i := 5) (d := some 36) (v := ?_) rfl (by kernel_rfl) (by kernel_rfl) (by kernel_rfl) (fun _ _ _ h => h) ?_ hHeld ?_
        rotate_left
        · intro o ho
          simp at ho
          subst ho
          intro wz hSw
          try dsimp only at hSw
          go_simp
          try with_reducible rfl
        try simp only [Act.put, List.setIfInBounds_toArray, List.set_cons_zero, List.set_cons_succ]
        refine hand_take (i := 6) (d := some 37) (v := ?_) rfl (by kernel_rfl) (by kernel_rfl) (by kernel_rfl) (fun _ _ _ h => h) ?_ hHeld ?_
        rotate_left
        · intro o ho
          simp at ho
          subst ho
          intro wz hSw
          try dsimp only at hSw
          go_simp
          try with_reducible rfl
        try simp only [Act.put, List.setIfInBounds_toArray, List.set_cons_zero, List.set_cons_succ]
        refine hand_call (i := 7) rfl (by kernel_rfl) ?_
        intro o ho
        simp at ho
        subst ho
        intro K hK
        go_simp
        go_at_call 31
        refine (use_c p Fl7 S W x C.A w7.drew ((unhide hl7).below (Below.refl _ _).drew) hx.2).mono ?_
        rintro e w8 ⟨rfl, Fl8, hn8, hs8⟩
        obtain ⟨Fh8, hh8, hsh8⟩ := (unhide hh7).turn hFl7 hnt7 (Below.refl _ _).drew hn8 hs8 (unhide hD7)
        obtain ⟨k1, -, -⟩ := hsh8.keep (b := c) k2 k3
        obtain ⟨a1, -, -⟩ := hsh8.keep (b := w.heap.size) a2 a3
        have q02 := keep_cell k1 q0
        have q12 := keep_cell a1 q1
        obtain ⟨Ft8, hn, hs⟩ := ((unhide hH).below (unhide M1)).back c0' (keep_cell ((unhide M1).block c hcl) c1) hF hc (unhide hI') hh8 (((Step.of_below hdr).trans (unhide hsh7)).trans hsh8)
        have hfin : Hid (∃ Ft', CaIs w8 c Ft' S W N ⟨nxUse C.A x, updT C.T x ⟨z.n, z.o, z.h, d'⟩⟩ ∧ Step Ft Ft' w w8) := ⟨Ft8, hn, (Step.of_below (unhide M1)).trans hs⟩
        clear hn hs hh8 hsh8 hn8 hs8 k1 a1
        refine hK.out _ _ ?_ (fun hHeld => ?_)
        · exact ⟨q02, q12⟩
        clear hK K
        try simp only [Act.put, List.setIfInBounds_toArray, List.set_cons_zero, List.set_cons_succ]
        refine wpAnyH_done (by kernel_rfl) (NoPanic.normal ?_) _
        clear hHeld
        go_wp2_with fail
        refine bodyPost_ret (by simp [results, Try.results18, go_sem, *]; done) rfl ⟨rfl, ?_⟩
        exact unhide hfin
    · intro o ho
      simp at ho
      subst ho
      intro K hK
      go_simp
      have ho3 := ho2.below (belA0 w1 (.cells #[.int .i64 0, .bool false, .bool false, .int .i64 0] 31))
      have hB3 := hB2.alloc hB2.size (.cells #[.int .i64 0, .bool false, .bool false, .int .i64 0] 31)
      have hy := bun_new w1 31
      have hn : w.heap.size < w1.heap.size := ho2.lt
      obtain ⟨B, eB⟩ : ∃ B, w1.heap.size = B := ⟨_, rfl⟩
      obtain ⟨w4, hw4⟩ : ∃ w4, w1.alloc (.cells #[.int .i64 0, .bool false, .bool false, .int .i64 0] 31) = w4 := ⟨_, rfl⟩
      rw [hw4] at ho3 hB3 hy ⊢
      rw [eB] at hy hn ⊢
      clear hw4 eB ho2 hB2
      refine hK.out _ _ ?_ (fun hHeld => ?_)
      · exact ⟨ho3.c0, ho3.c1, ho3.c2⟩
      clear hK K
      try simp only [Act.put, List.setIfInBounds_toArray, List.set_cons_zero, List.set_cons_succ]
      refine hand_call (i := 6) rfl (by kernel_rfl) ?_
      intro o ho
      simp at ho
      subst ho
      intro K hK
      go_simp
      go_at_call 42
      refine (do_c x wr v z.n z.o z.h z.d t w4 q hq1 d' r hd1 hr1).mono ?_
      rintro e w5 ⟨rfl, hb⟩
      have ho5 := ho3.below hb
      have hB5 := hB3.trans (hb.mono hB3.size)
      replace hy := hy.below hb
      clear hb
      refine hK.out _ _ ?_ (fun hHeld => ?_)
      · exact ⟨ho5.c0, ho5.c1, ho5.c2⟩
      clear hK K
      try simp only [Act.put, List.setIfInBounds_toArray, List.set_cons_zero, List.set_cons_succ]
      refine hand_take (i := 7) (d := some 11) (v := ?_) rfl (by kernel_rfl) (by kernel_rfl) (by kernel_rfl) (fun _ _ _ h => h) ?_ hHeld ?_
      rotate_left
      · intro o ho
        simp at ho
        subst ho
        intro wz hSw
        try dsimp only at hSw
        go_simp
        try with_reducible rfl
      try simp only [Act.put, List.setIfInBounds_toArray, List.set_cons_zero, List.set_cons_succ]
      refine hand_take (i := 8) (d := some 19) (v := ?_) rfl (by kernel_rfl) (by kernel_rfl) (by kernel_rfl) (fun _ _ _ h => h) ?_ hHeld ?_
      rotate_left
      · intro o ho
        simp at ho
        subst ho
        intro wz hSw
        try dsimp only at hSw
        go_simp
        try with_reducible rfl
      try simp only [Act.put, List.setIfInBounds_toArray, List.set_cons_zero, List.set_cons_succ]
      refine hand_take (i := 9) (d := some 20) (v := ?_) rfl (by kernel_rfl) (by kernel_rfl) (by kernel_rfl) (fun _ _ _ h => h) ?_ hHeld ?_
      rotate_left
      · intro o ho
        simp at ho
        subst ho
        intro wz hSw
        try dsimp only at hSw
        go_simp
        try with_reducible rfl
      try simp only [Act.put, List.setIfInBounds_toArray, List.set_cons_zero, List.set_cons_succ]
      refine hand_take (i := 10) (d := some 21) (v := ?_) rfl (by kernel_rfl) (by kernel_rfl) (by kernel_rfl) (fun _ _ _ h => h) ?_ hHeld ?_
      rotate_left
      · intro o ho
        simp at ho
        subst ho
        intro wz hSw
        try dsimp only at hSw
        go_simp
        try with_reducible rfl
      try simp only [Act.put, List.setIfInBounds_toArray, List.set_cons_zero, List.set_cons_succ]
      obtain ⟨y5, y0, y1, y2, y3, z0, z1, z2, z3⟩ := id hy
      refine hand_call (i := 12) rfl (by kernel_rfl) ?_
      intro o ho
      simp at ho
      subst ho
      intro K hK
      go_simp
      clear y5 y0 y1 y2 y3 z0 z1 z2 z3
      obtain ⟨w6, hw6⟩ : ∃ w6, setB w5 B ⟨z.n, z.o, z.h, d'⟩ = w6 := ⟨_, rfl⟩
      have M : DoMid w w6 B x wr v ⟨z.n, z.o, z.h, d'⟩ := by rw [← hw6]; exact DoMid.of hB5 ho5 hy hn _
      dsimp only [setB] at hw6
      rw [hw6]
      clear hw6
      refine hK.out _ _ ?_ (fun hHeld => ?_)
      · exact ⟨M.op.c0, M.op.c1, M.op.c2⟩
      clear hK K
      try simp only [Act.put, List.setIfInBounds_toArray, List.set_cons_zero, List.set_cons_succ]
      refine hand_take (i := 13) (d := some 9) (v := ?_) rfl (by kernel_rfl) (by kernel_rfl) (by kernel_rfl) (fun _ _ _ h => h) ?_ hHeld ?_
      rotate_left
      · intro o ho
        simp at ho
        subst ho
        intro wz hSw
        try dsimp only at hSw
        go_simp
        try with_reducible rfl
      try simp only [Act.put, List.setIfInBounds_toArray, List.set_cons_zero, List.set_cons_succ]
      refine hand_take (i := 14) (d := some 10) (v := ?_) rfl (by kernel_rfl) (by kernel_rfl) (by kernel_rfl) (fun _ _ _ h => h) ?_ hHeld ?_
      rotate_left
      · intro o ho
        simp at ho
        subst ho
        intro wz hSw
        try dsimp only at hSw
        go_simp
        try with_reducible rfl
      try simp only [Act.put, List.setIfInBounds_toArray, List.set_cons_zero, List.set_cons_succ]
      refine wpAnyH_done (by kernel_rfl) (NoPanic.normal ?_) _
      clear hHeld
      obtain ⟨M1, ⟨ol, o0, o1, o2⟩, hy, hn⟩ := M
      obtain ⟨y5, y0, y1, y2, y3, -, -, -, -⟩ := id hy
      have c0' := keep_cell (M1.block c hcl) c0
      have c1' := keep_cell (M1.block c hcl) c1
      replace M1 := hide M1
      replace hy := hide hy
      cases q
      · go_wp2_with fail
        refine bodyPost_ret (by simp [results, Try.results18, go_sem, *]; done) rfl ⟨rfl, ?_⟩
        obtain rfl : C = C' := by have := hC1.out; simpa using this
        exact (unhide hH).quiet (unhide M1)
      · have hxA : Hid (x ∈ C.A) := unhide hmem rfl
        have hlen2 : Hid ((nxUse C.A x).length ≤ 2000) := by have h1 := (unhide hH).inv.inv.nxUse x; have := h1.len; unfold Hid; omega
        obtain rfl : (⟨nxUse C.A x, updT C.T x ⟨z.n, z.o, z.h, d'⟩⟩ : Ca) = C' := by have := hC1.out; simpa using this
        go_wp2_with fail
        refine wp_region_noPanic ?_
        refine last_begin 8 (fun w' => w'.cell? ⟨c, 1, none⟩ = some (.map (some tb)) ∧ w'.cell? ⟨w.heap.size, 0, none⟩ = some (.int .i64 x) ∧ w'.cell? ⟨B, 0, none⟩ = some (.int .i64 z.n) ∧ w'.cell? ⟨B, 1, none⟩ = some (.bool z.o) ∧ w'.cell? ⟨B, 2, none⟩ = some (.bool z.h) ∧ w'.cell? ⟨B, 3, none⟩ = some (.int .i64 d')) (by kernel_rfl) ?_ (fun hHeld => ?_)
        · exact ⟨c1', o0, y0, y1, y2, y3⟩
        refine last_take (i := 0) (d := some 23) (v := ?_) rfl (by kernel_rfl) (by kernel_rfl) (by kernel_rfl) (by kernel_rfl) (fun _ _ _ h => h) ?_ hHeld ?_
        rotate_left
        · intro o ho
          simp at ho
          subst ho
          intro wz hSw
          try dsimp only at hSw
          go_simp
          try with_reducible rfl
        try simp only [Act.put, List.setIfInBounds_toArray, List.set_cons_zero, List.set_cons_succ]
        refine last_take (i := 1) (d := some 24) (v := ?_) rfl (by kernel_rfl) (by kernel_rfl) (by kernel_rfl) (by kernel_rfl) (fun _ _ _ h => h) ?_ hHeld ?_
        rotate_left
        · intro o ho
          simp at ho
          subst ho
          intro wz hSw
          try dsimp only at hSw
          go_simp
          try with_reducible rfl
        try simp only [Act.put, List.setIfInBounds_toArray, List.set_cons_zero, List.set_cons_succ]
        refine last_take (i := 2) (d := some 25) (v := ?_) rfl (by kernel_rfl) (by kernel_rfl) (by kernel_rfl) (by kernel_rfl) (fun _ _ _ h => h) ?_ hHeld ?_
        rotate_left
        · intro o ho
          simp at ho
          subst ho
          intro wz hSw
          try dsimp only at hSw
          go_simp
          try with_reducible rfl
        try simp only [Act.put, List.setIfInBounds_toArray, List.set_cons_zero, List.set_cons_succ]
        refine last_take (i := 3) (d := some 26) (v := ?_) rfl (by kernel_rfl) (by kernel_rfl) (by kernel_rfl) (by kernel_rfl) (fun _ _ _ h => h) ?_ hHeld ?_
        rotate_left
        · intro o ho
          simp at ho
          subst ho
          intro wz hSw
          try dsimp only at hSw
          go_simp
          try with_reducible rfl
        try simp only [Act.put, List.setIfInBounds_toArray, List.set_cons_zero, List.set_cons_succ]
        refine last_take (i := 4) (d := some 27) (v := ?_) rfl (by kernel_rfl) (by kernel_rfl) (by kernel_rfl) (by kernel_rfl) (fun _ _ _ h => h) ?_ hHeld ?_
        rotate_left
        · intro o ho
          simp at ho
          subst ho
          intro wz hSw
          try dsimp only at hSw
          go_simp
          try with_reducible rfl
        try simp only [Act.put, List.setIfInBounds_toArray, List.set_cons_zero, List.set_cons_succ]
        refine last_take (i := 5) (d := some 28) (v := ?_) rfl (by kernel_rfl) (by kernel_rfl) (by kernel_rfl) (by kernel_rfl) (fun _ _ _ h => h) ?_ hHeld ?_
        rotate_left
        · intro o ho
          simp at ho
          subst ho
          intro wz hSw
          try dsimp only at hSw
          go_simp
          try with_reducible rfl
        try simp only [Act.put, List.setIfInBounds_toArray, List.set_cons_zero, List.set_cons_succ]
        refine last_take (i := 6) (d := some 29) (v := ?_) rfl (by kernel_rfl) (by kernel_rfl) (by kernel_rfl) (by kernel_rfl) (fun _ _ _ h => h) ?_ hHeld ?_
        rotate_left
        · intro o ho
          simp at ho
          subst ho
          intro wz hSw
          try dsimp only at hSw
          go_simp
          try with_reducible rfl
        try simp only [Act.put, List.setIfInBounds_toArray, List.set_cons_zero, List.set_cons_succ]
        refine last_take (i := 7) (d := some 30) (v := ?_) rfl (by kernel_rfl) (by kernel_rfl) (by kernel_rfl) (by kernel_rfl) (fun _ _ _ h => h) ?_ hHeld ?_
        rotate_left
        · intro o ho
          simp at ho
          subst ho
          intro wz hSw
          try dsimp only at hSw
          go_simp
          try with_reducible rfl
        try simp only [Act.put, List.setIfInBounds_toArray, List.set_cons_zero, List.set_cons_succ]
        refine last_call (i := 8) rfl (by kernel_rfl) ?_
        intro o ho
        simp at ho
        subst ho
        intro K hK
        refine wp_updE (.tmp 27) (.tmp 29) (.tmp 30) rfl rfl rfl rfl (tk_putE (K' := nxUse C.A x) ((unhide hD).carry ((unhide M1).drew.block tb htl)) hx ⟨z.n, z.o, z.h, d'⟩ (fun k hk => mem_nxUse.2 hk) (mem_nxUse.2 (unhide hxA)) (unhide hlen2)) ?_; intro w7 hw7
        refine hK.out _ _ (fun h => absurd rfl h) (fun _ => ?_)
        clear hK K
        try simp only [Act.put, List.setIfInBounds_toArray, List.set_cons_zero, List.set_cons_succ]
        refine last_done (by kernel_rfl) (NoPanic.normal ?_) _
        clear hHeld
        obtain ⟨D7, hD7, hf7⟩ := hw7
        obtain ⟨Fh7, hh7, hsh7⟩ := ((unhide hh).below (unhide M1).drew).retok hD7 hf7
        have hdr : Below w6.heap.size w6 w6.drew := (Below.refl _ _).drew
        have s6 := (unhide M1).size
        obtain ⟨k1, k2, k3⟩ := hsh7.keep (b := c) hc (show c < w6.heap.size by omega)
        obtain ⟨a1, a2, a3⟩ := hsh7.keep (b := w.heap.size) (fun e => by have := hFhw _ e; omega) (show w.heap.size < w6.heap.size from ol)
        have q0 : w7.cell? ⟨c, 0, none⟩ = some (ptr p) := keep_cell k1 c0'
        have q1 : w7.cell? ⟨w.heap.size, 0, none⟩ = some (.int .i64 x) := keep_cell a1 o0
        obtain ⟨Fl7, hl7, hFl7, hnt7⟩ := hh7.ln
        replace hl7 := hide hl7
        replace hh7 := hide hh7
        replace hsh7 := hide hsh7
        replace hD7 := hide hD7
        clear hf7 k1 a1 o0 o1 o2 y0 y1 y2 y3 c1'
        go_wp2_with fail
        refine wp_region_noPanic ?_
        refine wp_region_held_drew (S := (fun w' => w'.cell? ⟨c, 0, none⟩ = some (ptr p) ∧ w'.cell? ⟨w.heap.size, 0, none⟩ = some (.int .i64 x))) (by kernel_rfl) ?_ (fun hHeld => ?_)
        · exact ⟨q0, q1⟩
        refine hand_take (i := 0) (d := some 31) (v := ?_) rfl (by kernel_rfl) (by kernel_rfl) (by kernel_rfl) (fun _ _ _ h => h) ?_ hHeld ?_
        rotate_left
        · intro o ho
          simp at ho
          subst ho
          intro wz hSw
          try dsimp only at hSw
          go_simp
          try with_reducible rfl
        try simp only [Act.put, List.setIfInBounds_toArray, List.set_cons_zero, List.set_cons_succ]
        refine hand_take (i := 1) (d := some 32) (v := ?_) rfl (by kernel_rfl) (by kernel_rfl) (by kernel_rfl) (fun _ _ _ h => h) ?_ hHeld ?_
        rotate_left
        · intro o ho
          simp at ho
          subst ho
          intro wz hSw
          try dsimp only at hSw
          go_simp
          try with_reducible rfl
        try simp only [Act.put, List.setIfInBounds_toArray, List.set_cons_zero, List.set_cons_succ]
        refine hand_take (i := 2) (d := some 33) (v := ?_) rfl (by kernel_rfl) (by kernel_rfl) (by kernel_rfl) (fun _ _ _ h => h) ?_ hHeld ?_
        rotate_left
        · intro o ho
          simp at ho
          subst ho
          intro wz hSw
          try dsimp only at hSw
          go_simp
          try with_reducible rfl
        try simp only [Act.put, List.setIfInBounds_toArray, List.set_cons_zero, List.set_cons_succ]
        refine hand_take (i := 3) (d := some 34) (v := ?_) rfl (by kernel_rfl) (by kernel_rfl) (by kernel_rfl) (fun _ _ _ h => h) ?_ hHeld ?_
        rotate_left
        · intro o ho
          simp at ho
          subst ho
          intro wz hSw
          try dsimp only at hSw
          go_simp
          try with_reducible rfl
        try simp only [Act.put, List.setIfInBounds_toArray, List.set_cons_zero, List.set_cons_succ]
        refine hand_take (i := 4) (d := some 35) (v := ?_) rfl (by kernel_rfl) (by kernel_rfl) (by kernel_rfl) (fun _ _ _ h => h) ?_ hHeld ?_
        rotate_left
        · intro o ho
          simp at ho
          subst ho
          intro wz hSw
          try dsimp only at hSw
          go_simp
          try with_reducible rfl
        try simp only [Act.put, List.setIfInBounds_toArray, List.set_cons_zero, List.set_cons_succ]
        refine hand_take (i := 5) (d := some 36) (v := ?_) rfl (by kernel_rfl) (by kernel_rfl) (by kernel_rfl) (fun _ _ _ h => h) ?_ hHeld ?_
        rotate_left
        · intro o ho
          simp at ho
          subst ho
          intro wz hSw
          try dsimp only at hSw
          go_simp
          try with_reducible rfl
        try simp only [Act.put, List.setIfInBounds_toArray, List.set_cons_zero, List.set_cons_succ]
        refine hand_take (i := 6) (d := some 37) (v := ?_) rfl (by kernel_rfl) (by kernel_rfl) (by kernel_rfl) (fun _ _ _ h => h) ?_ hHeld ?_
        rotate_left
        · intro o ho
          simp at ho
          subst ho
          intro wz hSw
          try dsimp only at hSw
          go_simp
          try with_reducible rfl
        try simp only [Act.put, List.setIfInBounds_toArray, List.set_cons_zero, List.set_cons_succ]
        refine hand_call (i := 7) rfl (by kernel_rfl) ?_
        intro o ho
        simp at ho
        subst ho
        intro K hK
        go_simp
        go_at_call 31
        refine (use_c p Fl7 S W x C.A w7.drew ((unhide hl7).below (Below.refl _ _).drew) hx.2).mono ?_
        rintro e w8 ⟨rfl, Fl8, hn8, hs8⟩
        obtain ⟨Fh8, hh8, hsh8⟩ := (unhide hh7).turn hFl7 hnt7 (Below.refl _ _).drew hn8 hs8 (unhide hD7)
        obtain ⟨k1, -, -⟩ := hsh8.keep (b := c) k2 k3
        obtain ⟨a1, -, -⟩ := hsh8.keep (b := w.heap.size) a2 a3
        have q02 := keep_cell k1 q0
        have q12 := keep_cell a1 q1
        obtain ⟨Ft8, hn, hs⟩ := ((unhide hH).below (unhide M1)).back c0' (keep_cell ((unhide M1).block c hcl) c1) hF hc (unhide hI') hh8 (((Step.of_below hdr).trans (unhide hsh7)).trans hsh8)
        have hfin : Hid (∃ Ft', CaIs w8 c Ft' S W N ⟨nxUse C.A x, updT C.T x ⟨z.n, z.o, z.h, d'⟩⟩ ∧ Step Ft Ft' w w8) := ⟨Ft8, hn, (Step.of_below (unhide M1)).trans hs⟩
        clear hn hs hh8 hsh8 hn8 hs8 k1 a1
        refine hK.out _ _ ?_ (fun hHeld => ?_)
        · exact ⟨q02, q12⟩
        clear hK K
        try simp only [Act.put, List.setIfInBounds_toArray, List.set_cons_zero, List.set_cons_succ]
        refine wpAnyH_done (by kernel_rfl) (NoPanic.normal ?_) _
        clear hHeld
        go_wp2_with fail
        refine bodyPost_ret (by simp [results, Try.results18, go_sem, *]; done) rfl ⟨rfl, ?_⟩
        exact unhide hfin
  · intro o ho
    simp at ho
    subst ho
    intro K hK
    go_simp
    have ho2 := ho1.below (belA0 wd (.cells #[.int .i64 0, .bool false, .bool false, .int .i64 0] 31))
    have hB2 := hB1.alloc hB1.size (.cells #[.int .i64 0, .bool false, .bool false, .int .i64 0] 31)
    have hy := bun_new wd 31
    have hn : w.heap.size < wd.heap.size := ho1.lt
    obtain ⟨B, eB⟩ : ∃ B, wd.heap.size = B := ⟨_, rfl⟩
    obtain ⟨w1, hw1⟩ : ∃ w1, wd.alloc (.cells #[.int .i64 0, .bool false, .bool false, .int .i64 0] 31) = w1 := ⟨_, rfl⟩
    rw [hw1] at ho2 hB2 hy ⊢
    rw [eB] at hy hn ⊢
    clear hw1 eB ho1 hB1
    refine hK.out _ _ ?_ (fun hHeld => ?_)
    · exact ⟨ho2.c0, ho2.c1, ho2.c2⟩
    clear hK K
    try simp only [Act.put, List.setIfInBounds_toArray, List.set_cons_zero, List.set_cons_succ]
    refine hand_call (i := 4) rfl (by kernel_rfl) ?_
    intro o ho
    simp at ho
    subst ho
    intro K hK
    go_simp
    go_at_call 20
    refine (cGet_c c Ft S W N x C w1 ((unhide hH).below hB2) hx z hz).mono ?_
    rintro e w4 ⟨rfl, hb⟩
    have ho3 := ho2.below hb
    have hB3 := hB2.trans (hb.mono hB2.size)
    replace hy := hy.below hb
    clear hb
    refine hK.out _ _ ?_ (fun hHeld => ?_)
    · exact ⟨ho3.c0, ho3.c1, ho3.c2⟩
    clear hK K
    try simp only [Act.put, List.setIfInBounds_toArray, List.set_cons_zero, List.set_cons_succ]
    refine hand_call (i := 6) rfl (by kernel_rfl) ?_
    intro o ho
    simp at ho
    subst ho
    intro K hK
    go_simp
    go_at_call 42
    refine (do_c x wr v z.n z.o z.h z.d t w4 q hq1 d' r hd1 hr1).mono ?_
    rintro e w5 ⟨rfl, hb⟩
    have ho5 := ho3.below hb
    have hB5 := hB3.trans (hb.mono hB3.size)
    replace hy := hy.below hb
    clear hb
    refine hK.out _ _ ?_ (fun hHeld => ?_)
    · exact ⟨ho5.c0, ho5.c1, ho5.c2⟩
    clear hK K
    try simp only [Act.put, List.setIfInBounds_toArray, List.set_cons_zero, List.set_cons_succ]
    refine hand_take (i := 7) (d := some 11) (v := ?_) rfl (by kernel_rfl) (by kernel_rfl) (by kernel_rfl) (fun _ _ _ h => h) ?_ hHeld ?_
    rotate_left
    · intro o ho
      simp at ho
      subst ho
      intro wz hSw
      try dsimp only at hSw
      go_simp
      try with_reducible rfl
    try simp only [Act.put, List.setIfInBounds_toArray, List.set_cons_zero, List.set_cons_succ]
    refine hand_take (i := 8) (d := some 19) (v := ?_) rfl (by kernel_rfl) (by kernel_rfl) (by kernel_rfl) (fun _ _ _ h => h) ?_ hHeld ?_
    rotate_left
    · intro o ho
      simp at ho
      subst ho
      intro wz hSw
      try dsimp only at hSw
      go_simp
      try with_reducible rfl
    try simp only [Act.put, List.setIfInBounds_toArray, List.set_cons_zero, List.set_cons_succ]
    refine hand_take (i := 9) (d := some 20) (v := ?_) rfl (by kernel_rfl) (by kernel_rfl) (by kernel_rfl) (fun _ _ _ h => h) ?_ hHeld ?_
    rotate_left
    · intro o ho
      simp at ho
      subst ho
      intro wz hSw
      try dsimp only at hSw
      go_simp
      try with_reducible rfl
    try simp only [Act.put, List.setIfInBounds_toArray, List.set_cons_zero, List.set_cons_succ]
    refine hand_take (i := 10) (d := some 21) (v := ?_) rfl (by kernel_rfl) (by kernel_rfl) (by kernel_rfl) (fun _ _ _ h => h) ?_ hHeld ?_
    rotate_left
    · intro o ho
      simp at ho
      subst ho
      intro wz hSw
      try dsimp only at hSw
      go_simp
      try with_reducible rfl
    try simp only [Act.put, List.setIfInBounds_toArray, List.set_cons_zero, List.set_cons_succ]
    obtain ⟨y5, y0, y1, y2, y3, z0, z1, z2, z3⟩ := id hy
    refine hand_call (i := 12) rfl (by kernel_rfl) ?_
    intro o ho
    simp at ho
    subst ho
    intro K hK
    go_simp
    clear y5 y0 y1 y2 y3 z0 z1 z2 z3
    obtain ⟨w6, hw6⟩ : ∃ w6, setB w5 B ⟨z.n, z.o, z.h, d'⟩ = w6 := ⟨_, rfl⟩
    have M : DoMid w w6 B x wr v ⟨z.n, z.o, z.h, d'⟩ := by rw [← hw6]; exact DoMid.of hB5 ho5 hy hn _
    dsimp only [setB] at hw6
    rw [hw6]
    clear hw6
    refine hK.out _ _ ?_ (fun hHeld => ?_)
    · exact ⟨M.op.c0, M.op.c1, M.op.c2⟩
    clear hK K
    try simp only [Act.put, List.setIfInBounds_toArray, List.set_cons_zero, List.set_cons_succ]
    refine hand_take (i := 13) (d := some 9) (v := ?_) rfl (by kernel_rfl) (by kernel_rfl) (by kernel_rfl) (fun _ _ _ h => h) ?_ hHeld ?_
    rotate_left
    · intro o ho
      simp at ho
      subst ho
      intro wz hSw
      try dsimp only at hSw
      go_simp
      try with_reducible rfl
    try simp only [Act.put, List.setIfInBounds_toArray, List.set_cons_zero, List.set_cons_succ]
    refine hand_take (i := 14) (d := some 10) (v := ?_) rfl (by kernel_rfl) (by kernel_rfl) (by kernel_rfl) (fun _ _ _ h => h) ?_ hHeld ?_
    rotate_left
    · intro o ho
      simp at ho
      subst ho
      intro wz hSw
      try dsimp only at hSw
      go_simp
      try with_reducible rfl
    try simp only [Act.put, List.setIfInBounds_toArray, List.set_cons_zero, List.set_cons_succ]
    refine wpAnyH_done (by kernel_rfl) (NoPanic.normal ?_) _
    clear hHeld
    obtain ⟨M1, ⟨ol, o0, o1, o2⟩, hy, hn⟩ := M
    obtain ⟨y5, y0, y1, y2, y3, -, -, -, -⟩ := id hy
    have c0' := keep_cell (M1.block c hcl) c0
    have c1' := keep_cell (M1.block c hcl) c1
    replace M1 := hide M1
    replace hy := hide hy
    cases q
    · go_wp2_with fail
      refine bodyPost_ret (by simp [results, Try.results18, go_sem, *]; done) rfl ⟨rfl, ?_⟩
      obtain rfl : C = C' := by have := hC1.out; simpa using this
      exact (unhide hH).quiet (unhide M1)
    · have hxA : Hid (x ∈ C.A) := unhide hmem rfl
      have hlen2 : Hid ((nxUse C.A x).length ≤ 2000) := by have h1 := (unhide hH).inv.inv.nxUse x; have := h1.len; unfold Hid; omega
      obtain rfl : (⟨nxUse C.A x, updT C.T x ⟨z.n, z.o, z.h, d'⟩⟩ : Ca) = C' := by have := hC1.out; simpa using this
      go_wp2_with fail
      refine wp_region_noPanic ?_
      refine last_begin 8 (fun w' => w'.cell? ⟨c, 1, none⟩ = some (.map (some tb)) ∧ w'.cell? ⟨w.heap.size, 0, none⟩ = some (.int .i64 x) ∧ w'.cell? ⟨B, 0, none⟩ = some (.int .i64 z.n) ∧ w'.cell? ⟨B, 1, none⟩ = some (.bool z.o) ∧ w'.cell? ⟨B, 2, none⟩ = some (.bool z.h) ∧ w'.cell? ⟨B, 3, none⟩ = some (.int .i64 d')) (by kernel_rfl) ?_ (fun hHeld => ?_)
      · exact ⟨c1', o0, y0, y1, y2, y3⟩
      refine last_take (i := 0) (d := some 23) (v := ?_) rfl (by kernel_rfl) (by kernel_rfl) (by kernel_rfl) (by kernel_rfl) (fun _ _ _ h => h) ?_ hHeld ?_
      rotate_left
      · intro o ho
        simp at ho
        subst ho
        intro wz hSw
        try dsimp only at hSw
        go_simp
        try with_reducible rfl
      try simp only [Act.put, List.setIfInBounds_toArray, List.set_cons_zero, List.set_cons_succ]
      refine last_take (i := 1) (d := some 24) (v := ?_) rfl (by kernel_rfl) (by kernel_rfl) (by kernel_rfl) (by kernel_rfl) (fun _ _ _ h => h) ?_ hHeld ?_
      rotate_left
      · intro o ho
        simp at ho
        subst ho
        intro wz hSw
        try dsimp only at hSw
        go_simp
        try with_reducible rfl
      try simp only [Act.put, List.setIfInBounds_toArray, List.set_cons_zero, List.set_cons_succ]
      refine last_take (i := 2) (d := some 25) (v := ?_) rfl (by kernel_rfl) (by kernel_rfl) (by kernel_rfl) (by kernel_rfl) (fun _ _ _ h => h) ?_ hHeld ?_
      rotate_left
      · intro o ho
        simp at ho
        subst ho
        intro wz hSw
        try dsimp only at hSw
        go_simp
        try with_reducible rfl
      try simp only [Act.put, List.setIfInBounds_toArray, List.set_cons_zero, List.set_cons_succ]
      refine last_take (i := 3) (d := some 26) (v := ?_) rfl (by kernel_rfl) (by kernel_rfl) (by kernel_rfl) (by kernel_rfl) (fun _ _ _ h => h) ?_ hHeld ?_
      rotate_left
      · intro o ho
        simp at ho
        subst ho
        intro wz hSw
        try dsimp only at hSw
        go_simp
        try with_reducible rfl
      try simp only [Act.put, List.setIfInBounds_toArray, List.set_cons_zero, List.set_cons_succ]
      refine last_take (i := 4) (d := some 27) (v := ?_) rfl (by kernel_rfl) (by kernel_rfl) (by kernel_rfl) (by kernel_rfl) (fun _ _ _ h => h) ?_ hHeld ?_
      rotate_left
      · intro o ho
        simp at ho
        subst ho
        intro wz hSw
        try dsimp only at hSw
        go_simp
        try with_reducible rfl
      try simp only [Act.put, List.setIfInBounds_toArray, List.set_cons_zero, List.set_cons_succ]
      refine last_take (i := 5) (d := some 28) (v := ?_) rfl (by kernel_rfl) (by kernel_rfl) (by kernel_rfl) (by kernel_rfl) (fun _ _ _ h => h) ?_ hHeld ?_
      rotate_left
      · intro o ho
        simp at ho
        subst ho
        intro wz hSw
        try dsimp only at hSw
        go_simp
        try with_reducible rfl
      try simp only [Act.put, List.setIfInBounds_toArray, List.set_cons_zero, List.set_cons_succ]
      refine last_take (i := 6) (d := some 29) (v := ?_) rfl (by kernel_rfl) (by kernel_rfl) (by kernel_rfl) (by kernel_rfl) (fun _ _ _ h => h) ?_ hHeld ?_
      rotate_left
      · intro o ho
        simp at ho
        subst ho
        intro wz hSw
        try dsimp only at hSw
        go_simp
        try with_reducible rfl
      try simp only [Act.put, List.setIfInBounds_toArray, List.set_cons_zero, List.set_cons_succ]
      refine last_take (i := 7) (d := some 30) (v := ?_) rfl (by kernel_rfl) (by kernel_rfl) (by kernel_rfl) (by kernel_rfl) (fun _ _ _ h => h) ?_ hHeld ?_
      rotate_left
      · intro o ho
        simp at ho
        subst ho
        intro wz hSw
        try dsimp only at hSw
        go_simp
        try with_reducible rfl
      try simp only [Act.put, List.setIfInBounds_toArray, List.set_cons_zero, List.set_cons_succ]
      refine last_call (i := 8) rfl (by kernel_rfl) ?_
      intro o ho
      simp at ho
      subst ho
      intro K hK
      refine wp_updE (.tmp 27) (.tmp 29) (.tmp 30) rfl rfl rfl rfl (tk_putE (K' := nxUse C.A x) ((unhide hD).carry ((unhide M1).drew.block tb htl)) hx ⟨z.n, z.o, z.h, d'⟩ (fun k hk => mem_nxUse.2 hk) (mem_nxUse.2 (unhide hxA)) (unhide hlen2)) ?_; intro w7 hw7
      refine hK.out _ _ (fun h => absurd rfl h) (fun _ => ?_)
      clear hK K
      try simp only [Act.put, List.setIfInBounds_toArray, List.set_cons_zero, List.set_cons_succ]
      refine last_done (by kernel_rfl) (NoPanic.normal ?_) _
      clear hHeld
      obtain ⟨D7, hD7, hf7⟩ := hw7
      obtain ⟨Fh7, hh7, hsh7⟩ := ((unhide hh).below (unhide M1).drew).retok hD7 hf7
      have hdr : Below w6.heap.size w6 w6.drew := (Below.refl _ _).drew
      have s6 := (unhide M1).size
      obtain ⟨k1, k2, k3⟩ := hsh7.keep (b := c) hc (show c < w6.heap.size by omega)
      obtain ⟨a1, a2, a3⟩ := hsh7.keep (b := w.heap.size) (fun e => by have := hFhw _ e; omega) (show w.heap.size < w6.heap.size from ol)
      have q0 : w7.cell? ⟨c, 0, none⟩ = some (ptr p) := keep_cell k1 c0'
      have q1 : w7.cell? ⟨w.heap.size, 0, none⟩ = some (.int .i64 x) := keep_cell a1 o0
      obtain ⟨Fl7, hl7, hFl7, hnt7⟩ := hh7.ln
      replace hl7 := hide hl7
      replace hh7 := hide hh7
      replace hsh7 := hide hsh7
      replace hD7 := hide hD7
      clear hf7 k1 a1 o0 o1 o2 y0 y1 y2 y3 c1'
      go_wp2_with fail
      refine wp_region_noPanic ?_
      refine wp_region_held_drew (S := (fun w' => w'.cell? ⟨c, 0, none⟩ = some (ptr p) ∧ w'.cell? ⟨w.heap.size, 0, none⟩ = some (.int .i64 x))) (by kernel_rfl) ?_ (fun hHeld => ?_)
      · exact ⟨q0, q1⟩
      refine hand_take (i := 0) (d := some 31) (v := ?_) rfl (by kernel_rfl) (by kernel_rfl) (by kernel_rfl) (fun _ _ _ h => h) ?_ hHeld ?_
      rotate_left
      · intro o ho
        simp at ho
        subst ho
        intro wz hSw
        try dsimp only at hSw
        go_simp
        try with_reducible rfl
      try simp only [Act.put, List.setIfInBounds_toArray, List.set_cons_zero, List.set_cons_succ]
      refine hand_take (i := 1) (d := some 32) (v := ?_) rfl (by kernel_rfl) (by kernel_rfl) (by kernel_rfl) (fun _ _ _ h => h) ?_ hHeld ?_
      rotate_left
      · intro o ho
        simp at ho
        subst ho
        intro wz hSw
        try dsimp only at hSw
        go_simp
        try with_reducible rfl
      try simp only [Act.put, List.setIfInBounds_toArray, List.set_cons_zero, List.set_cons_succ]
      refine hand_take (i := 2) (d := some 33) (v := ?_) rfl (by kernel_rfl) (by kernel_rfl) (by kernel_rfl) (fun _ _ _ h => h) ?_ hHeld ?_
      rotate_left
      · intro o ho
        simp at ho
        subst ho
        intro wz hSw
        try dsimp only at hSw
        go_simp
        try with_reducible rfl
      try simp only [Act.put, List.setIfInBounds_toArray, List.set_cons_zero, List.set_cons_succ]
      refine hand_take (i := 3) (d := some 34) (v := ?_) rfl (by kernel_rfl) (by kernel_rfl) (by kernel_rfl) (fun _ _ _ h => h) ?_ hHeld ?_
      rotate_left
      · intro o ho
        simp at ho
        subst ho
        intro wz hSw
        try dsimp only at hSw
        go_simp
        try with_reducible rfl
      try simp only [Act.put, List.setIfInBounds_toArray, List.set_cons_zero, List.set_cons_succ]
      refine hand_take (i := 4) (d := some 35) (v := ?_) rfl (by kernel_rfl) (by kernel_rfl) (by kernel_rfl) (fun _ _ _ h => h) ?_ hHeld ?_
      rotate_left
      · intro o ho
        simp at ho
        subst ho
        intro wz hSw
        try dsimp only at hSw
        go_simp
        try with_reducible rfl
      try simp only [Act.put, List.setIfInBounds_toArray, List.set_cons_zero, List.set_cons_succ]
      refine hand_take (i := 5) (d := some 36) (v := ?_) rfl (by kernel_rfl) (by kernel_rfl) (by kernel_rfl) (fun _ _ _ h => h) ?_ hHeld ?_
      rotate_left
      · intro o ho
        simp at ho
        subst ho
        intro wz hSw
        try dsimp only at hSw
        go_simp
        try with_reducible rfl
      try simp only [Act.put, List.setIfInBounds_toArray, List.set_cons_zero, List.set_cons_succ]
      refine hand_take (i := 6) (d := some 37) (v := ?_) rfl (by kernel_rfl) (by kernel_rfl) (by kernel_rfl) (fun _ _ _ h => h) ?_ hHeld ?_
      rotate_left
      · intro o ho
        simp at ho
        subst ho
        intro wz hSw
        try dsimp only at hSw
        go_simp
        try with_reducible rfl
      try simp only [Act.put, List.setIfInBounds_toArray, List.set_cons_zero, List.set_cons_succ]
      refine hand_call (i := 7) rfl (by kernel_rfl) ?_
      intro o ho
      simp at ho
      subst ho
      intro K hK
      go_simp
      go_at_call 31
      refine (use_c p Fl7 S W x C.A w7.drew ((unhide hl7).below (Below.refl _ _).drew) hx.2).mono ?_
      rintro e w8 ⟨rfl, Fl8, hn8, hs8⟩
      obtain ⟨Fh8, hh8, hsh8⟩ := (unhide hh7).turn hFl7 hnt7 (Below.refl _ _).drew hn8 hs8 (unhide hD7)
      obtain ⟨k1, -, -⟩ := hsh8.keep (b := c) k2 k3
      obtain ⟨a1, -, -⟩ := hsh8.keep (b := w.heap.size) a2 a3
      have q02 := keep_cell k1 q0
      have q12 := keep_cell a1 q1
      obtain ⟨Ft8, hn, hs⟩ := ((unhide hH).below (unhide M1)).back c0' (keep_cell ((unhide M1).block c hcl) c1) hF hc (unhide hI') hh8 (((Step.of_below hdr).trans (unhide hsh7)).trans hsh8)
      have hfin : Hid (∃ Ft', CaIs w8 c Ft' S W N ⟨nxUse C.A x, updT C.T x ⟨z.n, z.o, z.h, d'⟩⟩ ∧ Step Ft Ft' w w8) := ⟨Ft8, hn, (Step.of_below (unhide M1)).trans hs⟩
      clear hn hs hh8 hsh8 hn8 hs8 k1 a1
      refine hK.out _ _ ?_ (fun hHeld => ?_)
      · exact ⟨q02, q12⟩
      clear hK K
      try simp only [Act.put, List.setIfInBounds_toArray, List.set_cons_zero, List.set_cons_succ]
      refine wpAnyH_done (by kernel_rfl) (NoPanic.normal ?_) _
      clear hHeld
      go_wp2_with fail
      refine bodyPost_ret (by simp [results, Try.results18, go_sem, *]; done) rfl ⟨rfl, ?_⟩
      exact unhide hfin
end Go.Proofs.Ytooopcadefpncaa
