/- The contracts of package proc: Pending, Issue, Tick (layer 14). -/
import Derived.Test.YtmdioofpghbjbaaProc
namespace Go.Proofs.Ytmdioofpghbjbaa
open Go.ChangeShapes Go.WideShapes Go.ChangeAt Go.RowKit
set_option linter.unusedSimpArgs false
set_option linter.unusedVariables false
set_option maxRecDepth 10000

attribute [local go_sem, local simp] over_const setCell_drewN alloc_drewN Over.cell Over.frozen lt_s1 lt_s2 lt_s3 le_s0 le_s1 le_s2 le_s3 eq_s0 eq_s1 eq_s2 qe_s0

abbrev opO (x : Op3) : Obj := .cells #[.int .i64 x.b, .bool x.w, .int .i64 x.v] 28

set_option maxHeartbeats 1000000 in
theorem pPend_c (p : Nat) (wa tr : Int) (P : Pm) (w : World) (h : PrIs w p wa tr P) (x : Op3) (hx : Hid (P.op = x)) (ok : Bool) (hok : Hid (P.busy = ok)) : Calls Try.prog 17 #[ptr p] w fun e w' => e = .returned (.tuple #[.agg #[.int .i64 x.b, .bool x.w, .int .i64 x.v], .bool ok]) ∧ Below w.heap.size w w' := by
  have hx' := hx.out
  have hok' := hok.out
  clear hx hok
  obtain ⟨k, l, t, o, ⟨b, ow, v⟩, busy⟩ := P
  obtain ⟨hl, c0, c1, c2, c3, c4, c5, c6, c7, c8, c9, fz⟩ := h.at'
  obtain rfl : busy = ok := hok'
  obtain rfl : (⟨b, ow, v⟩ : Op3) = x := hx'
  clear h
  go_enter Try.func17, Try.ntmps17
  go_wp2_with fail
  refine wp_region_noPanic ?_
  refine wp_region_held_drew (S := (fun w' => w'.cell? ⟨p, 6, none⟩ = some (.int .i64 b) ∧ w'.cell? ⟨p, 7, none⟩ = some (.bool ow) ∧ w'.cell? ⟨p, 8, none⟩ = some (.int .i64 v) ∧ w'.cell? ⟨p, 9, none⟩ = some (.bool busy))) (by kernel_rfl) ?_ (fun hHeld => ?_)
  · exact ⟨by simp [go_sem, *], by simp [go_sem, *], by simp [go_sem, *], by simp [go_sem, *]⟩
  refine hand_take (i := 0) (d := some 4) (v := ?_) rfl (by kernel_rfl) (by kernel_rfl) (by kernel_rfl) (fun _ _ _ h => h) ?_ hHeld ?_
  rotate_left
  · intro o ho
    simp at ho
    subst ho
    intro wz hSw
    try dsimp only at hSw
    go_simp
    try with_reducible rfl
  try simp only [Act.put, List.setIfInBounds_toArray, List.set_cons_zero, List.set_cons_succ]
  refine hand_take (i := 1) (d := some 5) (v := ?_) rfl (by kernel_rfl) (by kernel_rfl) (by kernel_rfl) (fun _ _ _ h => h) ?_ hHeld ?_
  rotate_left
  · intro o ho
    simp at ho
    subst ho
    intro wz hSw
    try dsimp only at hSw
    go_simp
    try with_reducible rfl
  try simp only [Act.put, List.setIfInBounds_toArray, List.set_cons_zero, List.set_cons_succ]
  refine hand_take (i := 2) (d := some 6) (v := ?_) rfl (by kernel_rfl) (by kernel_rfl) (by kernel_rfl) (fun _ _ _ h => h) ?_ hHeld ?_
  rotate_left
  · intro o ho
    simp at ho
    subst ho
    intro wz hSw
    try dsimp only at hSw
    go_simp
    try with_reducible rfl
  try simp only [Act.put, List.setIfInBounds_toArray, List.set_cons_zero, List.set_cons_succ]
  refine hand_take (i := 3) (d := some 7) (v := ?_) rfl (by kernel_rfl) (by kernel_rfl) (by kernel_rfl) (fun _ _ _ h => h) ?_ hHeld ?_
  rotate_left
  · intro o ho
    simp at ho
    subst ho
    intro wz hSw
    try dsimp only at hSw
    go_simp
    try with_reducible rfl
  try simp only [Act.put, List.setIfInBounds_toArray, List.set_cons_zero, List.set_cons_succ]
  refine hand_take (i := 4) (d := some 8) (v := ?_) rfl (by kernel_rfl) (by kernel_rfl) (by kernel_rfl) (fun _ _ _ h => h) ?_ hHeld ?_
  rotate_left
  · intro o ho
    simp at ho
    subst ho
    intro wz hSw
    try dsimp only at hSw
    go_simp
    try with_reducible rfl
  try simp only [Act.put, List.setIfInBounds_toArray, List.set_cons_zero, List.set_cons_succ]
  refine hand_take (i := 5) (d := some 9) (v := ?_) rfl (by kernel_rfl) (by kernel_rfl) (by kernel_rfl) (fun _ _ _ h => h) ?_ hHeld ?_
  rotate_left
  · intro o ho
    simp at ho
    subst ho
    intro wz hSw
    try dsimp only at hSw
    go_simp
    try with_reducible rfl
  try simp only [Act.put, List.setIfInBounds_toArray, List.set_cons_zero, List.set_cons_succ]
  refine hand_take (i := 6) (d := some 10) (v := ?_) rfl (by kernel_rfl) (by kernel_rfl) (by kernel_rfl) (fun _ _ _ h => h) ?_ hHeld ?_
  rotate_left
  · intro o ho
    simp at ho
    subst ho
    intro wz hSw
    try dsimp only at hSw
    go_simp
    try with_reducible rfl
  try simp only [Act.put, List.setIfInBounds_toArray, List.set_cons_zero, List.set_cons_succ]
  refine hand_take (i := 7) (d := some 11) (v := ?_) rfl (by kernel_rfl) (by kernel_rfl) (by kernel_rfl) (fun _ _ _ h => h) ?_ hHeld ?_
  rotate_left
  · intro o ho
    simp at ho
    subst ho
    intro wz hSw
    try dsimp only at hSw
    go_simp
    try with_reducible rfl
  try simp only [Act.put, List.setIfInBounds_toArray, List.set_cons_zero, List.set_cons_succ]
  refine hand_take (i := 8) (d := some 12) (v := ?_) rfl (by kernel_rfl) (by kernel_rfl) (by kernel_rfl) (fun _ _ _ h => h) ?_ hHeld ?_
  rotate_left
  · intro o ho
    simp at ho
    subst ho
    intro wz hSw
    try dsimp only at hSw
    go_simp
    try with_reducible rfl
  try simp only [Act.put, List.setIfInBounds_toArray, List.set_cons_zero, List.set_cons_succ]
  refine hand_take (i := 9) (d := some 13) (v := ?_) rfl (by kernel_rfl) (by kernel_rfl) (by kernel_rfl) (fun _ _ _ h => h) ?_ hHeld ?_
  rotate_left
  · intro o ho
    simp at ho
    subst ho
    intro wz hSw
    try dsimp only at hSw
    go_simp
    try with_reducible rfl
  try simp only [Act.put, List.setIfInBounds_toArray, List.set_cons_zero, List.set_cons_succ]
  refine hand_call (i := 10) rfl (by kernel_rfl) ?_
  intro o ho
  simp at ho
  subst ho
  intro K hK
  go_simp
  refine hK.out _ _ ?_ (fun hHeld => ?_)
  · exact ⟨by simp [go_sem, *], by simp [go_sem, *], by simp [go_sem, *], by simp [go_sem, *]⟩
  clear hK K
  try simp only [Act.put, List.setIfInBounds_toArray, List.set_cons_zero, List.set_cons_succ]
  refine hand_take (i := 11) (d := some 3) (v := ?_) rfl (by kernel_rfl) (by kernel_rfl) (by kernel_rfl) (fun _ _ _ h => h) ?_ hHeld ?_
  rotate_left
  · intro o ho
    simp at ho
    subst ho
    intro wz hSw
    try dsimp only at hSw
    go_simp
    try with_reducible rfl
  try simp only [Act.put, List.setIfInBounds_toArray, List.set_cons_zero, List.set_cons_succ]
  refine wpAnyH_done (by kernel_rfl) (NoPanic.normal ?_) _
  clear hHeld
  go_wp2_with fail
  refine bodyPost_ret (by simp [results, Try.results17, go_sem, *]; done) rfl ⟨rfl, ?_⟩
  repeat' first | with_reducible exact Below.refl _ _ | with_reducible refine Below.setCell ?_ ?_ _ | with_reducible refine Below.alloc ?_ ?_ _ | with_reducible refine Below.drew ?_ | with_reducible refine belowN ?_ _ | with_reducible refine Over.go _ ?_ ?_ | with_reducible exact Nat.le_refl _ | with_reducible refine Over.sz _ _ ?_ | with_reducible refine le_alloc ?_ | with_reducible refine le_setCell ?_ | with_reducible refine le_drewN ?_ | with_reducible refine le_drew ?_ | omega | (dsimp only; omega)

set_option maxHeartbeats 1000000 in
theorem pIss_c (p : Nat) (wa tr : Int) (P : Pm) (x : Op3) (w : World) (h : PrIs w p wa tr P) (ok : Bool) (hok : Hid ((!P.busy) = ok)) : Calls Try.prog 10 #[ptr p, .agg #[.int .i64 x.b, .bool x.w, .int .i64 x.v]] w fun e w' => e = .returned (.bool ok) ∧ PrIs w' p wa tr (nxI wa P x) ∧ FrS (· = p) w w' := by
  have hok' := hok.out
  have hH := hide h
  have hI := hide (h.inv.iss x)
  clear hok
  obtain ⟨k, l, t, o, ⟨b, ow, v⟩, busy⟩ := P
  obtain ⟨xb, xw, xv⟩ := x
  obtain ⟨hl, c0, c1, c2, c3, c4, c5, c6, c7, c8, c9, fz⟩ := h.at'
  clear h
  cases busy
  · obtain rfl : true = ok := hok'
    obtain ⟨m, hm⟩ : ∃ m, Hid (max wa 1 = m) := ⟨_, rfl⟩
    have hI' : Hid (PInv wa tr ⟨k, m, 0, false, ⟨xb, xw, xv⟩, true⟩) := by rw [← hm.out]; exact hI
    have hQ : nxI wa ⟨k, l, t, o, ⟨b, ow, v⟩, false⟩ ⟨xb, xw, xv⟩ = ⟨k, m, 0, false, ⟨xb, xw, xv⟩, true⟩ := by rw [← hm.out]; rfl
    rw [hQ]
    clear hQ hI
    go_enter Try.func10, Try.ntmps10
    go_wp2_with fail
    have hH0 := hide (hH.out.alloc (opO ⟨xb, xw, xv⟩))
    have hB0 : Hid (Below w.heap.size w (w.alloc (opO ⟨xb, xw, xv⟩))) := hide ((Below.refl _ _).alloc (Nat.le_refl _) _)
    have hs0 : w.heap.size < (w.alloc (opO ⟨xb, xw, xv⟩)).heap.size := by simp
    have q0 : (w.alloc (opO ⟨xb, xw, xv⟩)).cell? ⟨w.heap.size, 0, none⟩ = some (.int .i64 xb) := by simp [go_sem]
    have q1 : (w.alloc (opO ⟨xb, xw, xv⟩)).cell? ⟨w.heap.size, 1, none⟩ = some (.bool xw) := by simp [go_sem]
    have q2 : (w.alloc (opO ⟨xb, xw, xv⟩)).cell? ⟨w.heap.size, 2, none⟩ = some (.int .i64 xv) := by simp [go_sem]
    obtain ⟨w0, hw0⟩ : ∃ w0, w.alloc (opO ⟨xb, xw, xv⟩) = w0 := ⟨_, rfl⟩
    rw [hw0] at hH0 hB0 hs0 q0 q1 q2
    dsimp only [opO] at hw0
    rw [hw0]
    clear hw0 c0 c1 c2 c3 c4 c5 c6 c7 c8 c9 fz
    obtain ⟨hl0, c0, -, -, -, -, -, -, -, -, -, -⟩ := hH0.out.at'
    go_wp2_with fail
    refine wp_region_noPanic ?_
    refine wp_region_held_drew (S := (fun w' => w'.cell? ⟨p, 0, none⟩ = some (.int .i64 wa) ∧ w'.cell? ⟨w.heap.size, 0, none⟩ = some (.int .i64 xb) ∧ w'.cell? ⟨w.heap.size, 1, none⟩ = some (.bool xw) ∧ w'.cell? ⟨w.heap.size, 2, none⟩ = some (.int .i64 xv))) (by kernel_rfl) ?_ (fun hHeld => ?_)
    · exact ⟨c0, q0, q1, q2⟩
    refine hand_take (i := 0) (d := some 10) (v := ?_) rfl (by kernel_rfl) (by kernel_rfl) (by kernel_rfl) (fun _ _ _ h => h) ?_ hHeld ?_
    rotate_left
    · intro o ho
      simp at ho
      subst ho
      intro wz hSw
      try dsimp only at hSw
      go_simp
      try with_reducible rfl
    try simp only [Act.put, List.setIfInBounds_toArray, List.set_cons_zero, List.set_cons_succ]
    refine hand_take (i := 1) (d := some 11) (v := ?_) rfl (by kernel_rfl) (by kernel_rfl) (by kernel_rfl) (fun _ _ _ h => h) ?_ hHeld ?_
    rotate_left
    · intro o ho
      simp at ho
      subst ho
      intro wz hSw
      try dsimp only at hSw
      go_simp
      try with_reducible rfl
    try simp only [Act.put, List.setIfInBounds_toArray, List.set_cons_zero, List.set_cons_succ]
    refine hand_take (i := 2) (d := some 12) (v := ?_) rfl (by kernel_rfl) (by kernel_rfl) (by kernel_rfl) (fun _ _ _ h => h) ?_ hHeld ?_
    rotate_left
    · intro o ho
      simp at ho
      subst ho
      intro wz hSw
      try dsimp only at hSw
      go_simp
      try with_reducible rfl
    try simp only [Act.put, List.setIfInBounds_toArray, List.set_cons_zero, List.set_cons_succ]
    refine hand_take (i := 3) (d := some 13) (v := ?_) rfl (by kernel_rfl) (by kernel_rfl) (by kernel_rfl) (fun _ _ _ h => h) ?_ hHeld ?_
    rotate_left
    · intro o ho
      simp at ho
      subst ho
      intro wz hSw
      try dsimp only at hSw
      go_simp
      try with_reducible rfl
    try simp only [Act.put, List.setIfInBounds_toArray, List.set_cons_zero, List.set_cons_succ]
    refine hand_take (i := 4) (d := some 14) (v := ?_) rfl (by kernel_rfl) (by kernel_rfl) (by kernel_rfl) (fun _ _ _ h => h) ?_ hHeld ?_
    rotate_left
    · intro o ho
      simp at ho
      subst ho
      intro wz hSw
      try dsimp only at hSw
      go_simp
      try with_reducible rfl
    try simp only [Act.put, List.setIfInBounds_toArray, List.set_cons_zero, List.set_cons_succ]
    refine hand_take (i := 6) (d := some 16) (v := ?_) rfl (by kernel_rfl) (by kernel_rfl) (by kernel_rfl) (fun _ _ _ h => h) ?_ hHeld ?_
    rotate_left
    · intro o ho
      simp at ho
      subst ho
      intro wz hSw
      try dsimp only at hSw
      go_simp
      try with_reducible rfl
    try simp only [Act.put, List.setIfInBounds_toArray, List.set_cons_zero, List.set_cons_succ]
    refine hand_call (i := 5) rfl (by kernel_rfl) ?_
    intro o ho
    simp at ho
    subst ho
    intro K hK
    go_simp
    go_at_call 22
    refine (startT_c wa _ m hm).mono ?_
    rintro e w1 ⟨rfl, hb1⟩
    have hb2 := ((Below.refl w0.heap.size w0).drew).trans hb1
    have hB1 := hide (hB0.out.trans (hb2.mono hB0.out.size))
    have hH1 := hide (hH0.out.below hb2)
    have e0 := (hb2.cell (p := ⟨p, 0, none⟩) hl0).trans c0
    have e1 := (hb2.cell (p := ⟨w.heap.size, 0, none⟩) hs0).trans q0
    have e2 := (hb2.cell (p := ⟨w.heap.size, 1, none⟩) hs0).trans q1
    have e3 := (hb2.cell (p := ⟨w.heap.size, 2, none⟩) hs0).trans q2
    have s1 : w.heap.size < w1.heap.size := Nat.lt_of_lt_of_le hs0 hb2.size
    clear hb1 hb2 q0 q1 q2 c0
    refine hK.out _ _ ?_ (fun hHeld => ?_)
    · exact ⟨e0, e1, e2, e3⟩
    clear hK K
    try simp only [Act.put, List.setIfInBounds_toArray, List.set_cons_zero, List.set_cons_succ]
    refine hand_take (i := 7) (d := some 17) (v := ?_) rfl (by kernel_rfl) (by kernel_rfl) (by kernel_rfl) (fun _ _ _ h => h) ?_ hHeld ?_
    rotate_left
    · intro o ho
      simp at ho
      subst ho
      intro wz hSw
      try dsimp only at hSw
      go_simp
      try with_reducible rfl
    try simp only [Act.put, List.setIfInBounds_toArray, List.set_cons_zero, List.set_cons_succ]
    refine hand_take (i := 8) (d := some 18) (v := ?_) rfl (by kernel_rfl) (by kernel_rfl) (by kernel_rfl) (fun _ _ _ h => h) ?_ hHeld ?_
    rotate_left
    · intro o ho
      simp at ho
      subst ho
      intro wz hSw
      try dsimp only at hSw
      go_simp
      try with_reducible rfl
    try simp only [Act.put, List.setIfInBounds_toArray, List.set_cons_zero, List.set_cons_succ]
    refine hand_take (i := 9) (d := some 19) (v := ?_) rfl (by kernel_rfl) (by kernel_rfl) (by kernel_rfl) (fun _ _ _ h => h) ?_ hHeld ?_
    rotate_left
    · intro o ho
      simp at ho
      subst ho
      intro wz hSw
      try dsimp only at hSw
      go_simp
      try with_reducible rfl
    try simp only [Act.put, List.setIfInBounds_toArray, List.set_cons_zero, List.set_cons_succ]
    obtain ⟨hl1, d0, d1, d2, d3, d4, d5, d6, d7, d8, d9, fz1⟩ := hH1.out.at'
    refine hand_call (i := 10) rfl (by kernel_rfl) ?_
    intro o ho
    simp at ho
    subst ho
    intro K hK
    go_simp
    have h1 := hH1.out.wanted m 0 false ⟨xb, xw, xv⟩ true hI'.out
    clear d0 d1 d2 d3 d4 d5 d6 d7 d8 d9 fz1
    obtain ⟨w4, hw4⟩ : ∃ w4, (setO (setT w1 p 3 m 0 false) p 6 ⟨xb, xw, xv⟩).setCell ⟨p, 9, none⟩ (.bool true) = w4 := ⟨_, rfl⟩
    rw [hw4] at h1
    dsimp only [setT, setO] at hw4
    rw [hw4]
    clear hw4
    obtain ⟨h1, hf1⟩ := h1
    have hn : ¬ w.heap.size = p := by omega
    refine hK.out _ _ ?_ (fun hHeld => ?_)
    · exact ⟨h1.at'.c0, (hf1.cell s1 hn).trans e1, (hf1.cell s1 hn).trans e2, (hf1.cell s1 hn).trans e3⟩
    clear hK K
    try simp only [Act.put, List.setIfInBounds_toArray, List.set_cons_zero, List.set_cons_succ]
    refine wpAnyH_done (by kernel_rfl) (NoPanic.normal ?_) _
    clear hHeld
    clear e0 e1 e2 e3
    have h1 := hide h1
    have hf1 := hide hf1
    go_wp2_with fail
    go_ret
    exact ⟨rfl, h1.out, (FrS.of_below hB1.out).trans hf1.out (fun _ e => .inl e)⟩
  · obtain rfl : false = ok := hok'
    go_enter Try.func10, Try.ntmps10
    go_wp2_with fail
    go_ret
    exact ⟨rfl, hH.out.alloc _, FrS.of_below (by repeat' first | with_reducible exact Below.refl _ _ | with_reducible refine Below.setCell ?_ ?_ _ | with_reducible refine Below.alloc ?_ ?_ _ | with_reducible refine Below.drew ?_ | with_reducible refine belowN ?_ _ | with_reducible refine Over.go _ ?_ ?_ | with_reducible exact Nat.le_refl _ | with_reducible refine Over.sz _ _ ?_ | with_reducible refine le_alloc ?_ | with_reducible refine le_setCell ?_ | with_reducible refine le_drewN ?_ | with_reducible refine le_drew ?_ | omega | (dsimp only; omega))⟩

/-- Behind a tick, ahead of the last store: the timer in a block of its own. -/
structure TkMid (w w3 : World) (p : Nat) (wa tr : Int) (P : Pm) (B : Nat) (r : Tk) : Prop where
  pr : PrIs w3 p wa tr P
  bel : Below w.heap.size w w3
  tim : TimAt w3 B r.l r.t r.o
  new : w.heap.size ≤ B

theorem TkMid.of {w w2 : World} {p B : Nat} {wa tr : Int} {P : Pm} (h : PrIs w2 p wa tr P) (hb : Below w.heap.size w w2) (ht : TimAt w2 B 0 0 false) (hn : w.heap.size ≤ B) (hne : p ≠ B) (r : Tk) : TkMid w (setT w2 B 0 r.l r.t r.o) p wa tr P B r := by
  have h2 : FrS (· = B) w2 (setT w2 B 0 r.l r.t r.o) := wrP (wrP (wrP (FrS.refl _ _) _) _) _
  exact ⟨h.fr h2 hne, hb.trans (h2.below (fun i hi => by omega) hb.size), ht.set _ _ _, hn⟩


set_option maxHeartbeats 2000000 in
theorem pTick_c (p : Nat) (wa tr : Int) (P : Pm) (w : World) (h : PrIs w p wa tr P) (n : Int) (hn : Hid (doT wa tr P = n)) : Calls Try.prog 14 #[ptr p] w fun e w' => e = .returned (.int .i64 n) ∧ PrIs w' p wa tr (nxT wa tr P) ∧ FrS (· = p) w w' := by
  have hn' := hn.out
  have hH := hide h
  have hI0 := hide h.inv
  have hI := hide (h.inv.tick)
  clear hn
  obtain ⟨k, l, t, o, ⟨b, ow, v⟩, busy⟩ := P
  obtain ⟨hl, c0, c1, c2, c3, c4, c5, c6, c7, c8, c9, fz⟩ := h.at'
  clear h
  cases busy
  · obtain rfl : 0 = n := hn'
    go_enter Try.func14, Try.ntmps14
    go_wp2_with fail
    go_ret
    exact ⟨rfl, hH.out, FrS.refl _ _⟩
  · obtain ⟨⟨rl, rt, ro, rn⟩, hr⟩ : ∃ r : Tk, Hid (tickT l t o wa tr = r) := ⟨_, rfl⟩
    obtain rfl : rn = n := by rw [← hn']; show rn = (tickT l t o wa tr).n; rw [hr.out]
    have hQ : nxT wa tr ⟨k, l, t, o, ⟨b, ow, v⟩, true⟩ = ⟨k, rl, rt, ro, ⟨b, ow, v⟩, true⟩ := by show Pm.mk k (tickT l t o wa tr).l (tickT l t o wa tr).t (tickT l t o wa tr).o ⟨b, ow, v⟩ true = _; rw [hr.out]
    rw [hQ] at hI ⊢
    clear hQ hn'
    go_enter Try.func14, Try.ntmps14
    go_wp2_with fail
    refine wp_region_noPanic ?_
    refine wp_region_held_drew (S := (fun w' => w'.cell? ⟨p, 0, none⟩ = some (.int .i64 wa) ∧ w'.cell? ⟨p, 1, none⟩ = some (.int .i64 tr) ∧ w'.cell? ⟨p, 3, none⟩ = some (.int .i64 l) ∧ w'.cell? ⟨p, 4, none⟩ = some (.int .i64 t) ∧ w'.cell? ⟨p, 5, none⟩ = some (.bool o))) (by kernel_rfl) ?_ (fun hHeld => ?_)
    · exact ⟨c0, c1, c3, c4, c5⟩
    refine hand_take (i := 0) (d := some 12) (v := ?_) rfl (by kernel_rfl) (by kernel_rfl) (by kernel_rfl) (fun _ _ _ h => h) ?_ hHeld ?_
    rotate_left
    · intro o ho
      simp at ho
      subst ho
      intro wz hSw
      try dsimp only at hSw
      go_simp
      try with_reducible rfl
    try simp only [Act.put, List.setIfInBounds_toArray, List.set_cons_zero, List.set_cons_succ]
    refine hand_take (i := 1) (d := some 13) (v := ?_) rfl (by kernel_rfl) (by kernel_rfl) (by kernel_rfl) (fun _ _ _ h => h) ?_ hHeld ?_
    rotate_left
    · intro o ho
      simp at ho
      subst ho
      intro wz hSw
      try dsimp only at hSw
      go_simp
      try with_reducible rfl
    try simp only [Act.put, List.setIfInBounds_toArray, List.set_cons_zero, List.set_cons_succ]
    refine hand_take (i := 2) (d := some 14) (v := ?_) rfl (by kernel_rfl) (by kernel_rfl) (by kernel_rfl) (fun _ _ _ h => h) ?_ hHeld ?_
    rotate_left
    · intro o ho
      simp at ho
      subst ho
      intro wz hSw
      try dsimp only at hSw
      go_simp
      try with_reducible rfl
    try simp only [Act.put, List.setIfInBounds_toArray, List.set_cons_zero, List.set_cons_succ]
    refine hand_take (i := 3) (d := some 15) (v := ?_) rfl (by kernel_rfl) (by kernel_rfl) (by kernel_rfl) (fun _ _ _ h => h) ?_ hHeld ?_
    rotate_left
    · intro o ho
      simp at ho
      subst ho
      intro wz hSw
      try dsimp only at hSw
      go_simp
      try with_reducible rfl
    try simp only [Act.put, List.setIfInBounds_toArray, List.set_cons_zero, List.set_cons_succ]
    refine hand_take (i := 4) (d := some 16) (v := ?_) rfl (by kernel_rfl) (by kernel_rfl) (by kernel_rfl) (fun _ _ _ h => h) ?_ hHeld ?_
    rotate_left
    · intro o ho
      simp at ho
      subst ho
      intro wz hSw
      try dsimp only at hSw
      go_simp
      try with_reducible rfl
    try simp only [Act.put, List.setIfInBounds_toArray, List.set_cons_zero, List.set_cons_succ]
    refine hand_take (i := 5) (d := some 17) (v := ?_) rfl (by kernel_rfl) (by kernel_rfl) (by kernel_rfl) (fun _ _ _ h => h) ?_ hHeld ?_
    rotate_left
    · intro o ho
      simp at ho
      subst ho
      intro wz hSw
      try dsimp only at hSw
      go_simp
      try with_reducible rfl
    try simp only [Act.put, List.setIfInBounds_toArray, List.set_cons_zero, List.set_cons_succ]
    refine hand_take (i := 6) (d := some 18) (v := ?_) rfl (by kernel_rfl) (by kernel_rfl) (by kernel_rfl) (fun _ _ _ h => h) ?_ hHeld ?_
    rotate_left
    · intro o ho
      simp at ho
      subst ho
      intro wz hSw
      try dsimp only at hSw
      go_simp
      try with_reducible rfl
    try simp only [Act.put, List.setIfInBounds_toArray, List.set_cons_zero, List.set_cons_succ]
    refine hand_take (i := 7) (d := some 19) (v := ?_) rfl (by kernel_rfl) (by kernel_rfl) (by kernel_rfl) (fun _ _ _ h => h) ?_ hHeld ?_
    rotate_left
    · intro o ho
      simp at ho
      subst ho
      intro wz hSw
      try dsimp only at hSw
      go_simp
      try with_reducible rfl
    try simp only [Act.put, List.setIfInBounds_toArray, List.set_cons_zero, List.set_cons_succ]
    refine hand_take (i := 8) (d := some 20) (v := ?_) rfl (by kernel_rfl) (by kernel_rfl) (by kernel_rfl) (fun _ _ _ h => h) ?_ hHeld ?_
    rotate_left
    · intro o ho
      simp at ho
      subst ho
      intro wz hSw
      try dsimp only at hSw
      go_simp
      try with_reducible rfl
    try simp only [Act.put, List.setIfInBounds_toArray, List.set_cons_zero, List.set_cons_succ]
    refine hand_take (i := 9) (d := some 21) (v := ?_) rfl (by kernel_rfl) (by kernel_rfl) (by kernel_rfl) (fun _ _ _ h => h) ?_ hHeld ?_
    rotate_left
    · intro o ho
      simp at ho
      subst ho
      intro wz hSw
      try dsimp only at hSw
      go_simp
      try with_reducible rfl
    try simp only [Act.put, List.setIfInBounds_toArray, List.set_cons_zero, List.set_cons_succ]
    refine hand_take (i := 10) (d := some 22) (v := ?_) rfl (by kernel_rfl) (by kernel_rfl) (by kernel_rfl) (fun _ _ _ h => h) ?_ hHeld ?_
    rotate_left
    · intro o ho
      simp at ho
      subst ho
      intro wz hSw
      try dsimp only at hSw
      go_simp
      try with_reducible rfl
    try simp only [Act.put, List.setIfInBounds_toArray, List.set_cons_zero, List.set_cons_succ]
    refine hand_take (i := 11) (d := some 23) (v := ?_) rfl (by kernel_rfl) (by kernel_rfl) (by kernel_rfl) (fun _ _ _ h => h) ?_ hHeld ?_
    rotate_left
    · intro o ho
      simp at ho
      subst ho
      intro wz hSw
      try dsimp only at hSw
      go_simp
      try with_reducible rfl
    try simp only [Act.put, List.setIfInBounds_toArray, List.set_cons_zero, List.set_cons_succ]
    refine hand_take (i := 12) (d := some 24) (v := ?_) rfl (by kernel_rfl) (by kernel_rfl) (by kernel_rfl) (fun _ _ _ h => h) ?_ hHeld ?_
    rotate_left
    · intro o ho
      simp at ho
      subst ho
      intro wz hSw
      try dsimp only at hSw
      go_simp
      try with_reducible rfl
    try simp only [Act.put, List.setIfInBounds_toArray, List.set_cons_zero, List.set_cons_succ]
    have hH1 := hH.out.below ((Below.refl w.heap.size w).drew)
    have hB1 : Below w.heap.size w w.drew := (Below.refl w.heap.size w).drew
    obtain ⟨wd, hwd⟩ : ∃ wd, w.drew = wd := ⟨_, rfl⟩
    rw [hwd] at hHeld hH1 hB1 ⊢
    clear hwd c0 c1 c2 c3 c4 c5 c6 c7 c8 c9 fz
    refine hand_two (i := 13) (j := 17) rfl rfl (by kernel_rfl) ?_ ?_
    · intro o ho
      simp at ho
      subst ho
      intro K hK
      go_simp
      go_at_call 24
      refine (tick_c l t o wa tr _ hI0.out.lb hI0.out.tb hI0.out.wb hI0.out.rb ⟨rl, rt, ro, rn⟩ hr).mono ?_
      dsimp only
      rintro e w1 ⟨rfl, hb1⟩
      have hH2 := hH1.below hb1
      have hB2 := hB1.trans (hb1.mono hB1.size)
      clear hb1
      have A2 := hH2.at'
      refine hK.out _ _ ?_ (fun hHeld => ?_)
      · exact ⟨A2.c0, A2.c1, A2.c3, A2.c4, A2.c5⟩
      clear hK K
      try simp only [Act.put, List.setIfInBounds_toArray, List.set_cons_zero, List.set_cons_succ]
      refine hand_take (i := 14) (d := some 11) (v := ?_) rfl (by kernel_rfl) (by kernel_rfl) (by kernel_rfl) (fun _ _ _ h => h) ?_ hHeld ?_
      rotate_left
      · intro o ho
        simp at ho
        subst ho
        intro wz hSw
        try dsimp only at hSw
        go_simp
        try with_reducible rfl
      try simp only [Act.put, List.setIfInBounds_toArray, List.set_cons_zero, List.set_cons_succ]
      refine hand_take (i := 15) (d := some 26) (v := ?_) rfl (by kernel_rfl) (by kernel_rfl) (by kernel_rfl) (fun _ _ _ h => h) ?_ hHeld ?_
      rotate_left
      · intro o ho
        simp at ho
        subst ho
        intro wz hSw
        try dsimp only at hSw
        go_simp
        try with_reducible rfl
      try simp only [Act.put, List.setIfInBounds_toArray, List.set_cons_zero, List.set_cons_succ]
      refine hand_take (i := 16) (d := some 27) (v := ?_) rfl (by kernel_rfl) (by kernel_rfl) (by kernel_rfl) (fun _ _ _ h => h) ?_ hHeld ?_
      rotate_left
      · intro o ho
        simp at ho
        subst ho
        intro wz hSw
        try dsimp only at hSw
        go_simp
        try with_reducible rfl
      try simp only [Act.put, List.setIfInBounds_toArray, List.set_cons_zero, List.set_cons_succ]
      refine hand_call (i := 17) rfl (by kernel_rfl) ?_
      intro o ho
      simp at ho
      subst ho
      intro K hK
      go_simp
      have hH3 := hH2.alloc (.cells #[.int .i64 0, .int .i64 0, .bool false] 52)
      have hB3 := hB2.alloc hB2.size (.cells #[.int .i64 0, .int .i64 0, .bool false] 52)
      have hT3 := TimAt.new w1 0 0 false 52
      have hn3 : w.heap.size ≤ w1.heap.size := hB2.size
      have hne : p ≠ w1.heap.size := by have := hH2.lt; omega
      obtain ⟨B, eB⟩ : ∃ B, w1.heap.size = B := ⟨_, rfl⟩
      obtain ⟨w2, hw2⟩ : ∃ w2, w1.alloc (.cells #[.int .i64 0, .int .i64 0, .bool false] 52) = w2 := ⟨_, rfl⟩
      rw [hw2] at hH3 hB3 hT3 ⊢
      rw [eB] at hT3 hn3 hne ⊢
      clear hw2 eB hH2 hB2 A2
      have A3 := hH3.at'
      refine hK.out _ _ ?_ (fun hHeld => ?_)
      · exact ⟨A3.c0, A3.c1, A3.c3, A3.c4, A3.c5⟩
      clear hK K
      try simp only [Act.put, List.setIfInBounds_toArray, List.set_cons_zero, List.set_cons_succ]
      clear A3
      obtain ⟨hlB, y0, y1, y2, z0, z1, z2⟩ := id hT3
      refine hand_call (i := 18) rfl (by kernel_rfl) ?_
      intro o ho
      simp at ho
      subst ho
      intro K hK
      go_simp
      clear y0 y1 y2 z0 z1 z2
      obtain ⟨w4, hw4⟩ : ∃ w4, setT w2 B 0 rl rt ro = w4 := ⟨_, rfl⟩
      have M := TkMid.of hH3 hB3 hT3 hn3 hne ⟨rl, rt, ro, rn⟩
      dsimp only at M
      rw [hw4] at M
      dsimp only [setT] at hw4
      rw [hw4]
      clear hw4 hH3 hB3 hT3
      have A4 := M.pr.at'
      refine hK.out _ _ ?_ (fun hHeld => ?_)
      · exact ⟨A4.c0, A4.c1, A4.c3, A4.c4, A4.c5⟩
      clear hK K
      try simp only [Act.put, List.setIfInBounds_toArray, List.set_cons_zero, List.set_cons_succ]
      clear A4
      refine hand_take (i := 19) (d := some 4) (v := ?_) rfl (by kernel_rfl) (by kernel_rfl) (by kernel_rfl) (fun _ _ _ h => h) ?_ hHeld ?_
      rotate_left
      · intro o ho
        simp at ho
        subst ho
        intro wz hSw
        try dsimp only at hSw
        go_simp
        try with_reducible rfl
      try simp only [Act.put, List.setIfInBounds_toArray, List.set_cons_zero, List.set_cons_succ]
      refine wpAnyH_done (by kernel_rfl) (NoPanic.normal ?_) _
      clear hHeld
      obtain ⟨H3, B3, T3, n3⟩ := M
      obtain ⟨hl3, d0, d1, d2, d3, d4, d5, d6, d7, d8, d9, fz3⟩ := H3.at'
      obtain ⟨hlB, y0, y1, y2, -, -, -⟩ := T3
      have h3 := hide H3
      have b3 := hide B3
      clear H3 B3
      go_wp2_with fail
      go_ret
      have h4 := h3.out.timer rl rt ro hI.out
      exact ⟨rfl, h4.1, (FrS.of_below b3.out).trans h4.2 (fun _ e => .inl e)⟩
    · intro o ho
      simp at ho
      subst ho
      intro K hK
      go_simp
      have hH2 := hH1.alloc (.cells #[.int .i64 0, .int .i64 0, .bool false] 52)
      have hB2 := hB1.alloc hB1.size (.cells #[.int .i64 0, .int .i64 0, .bool false] 52)
      have hT2 := TimAt.new wd 0 0 false 52
      have hn3 : w.heap.size ≤ wd.heap.size := hB1.size
      have hne : p ≠ wd.heap.size := by have := hH1.lt; omega
      obtain ⟨B, eB⟩ : ∃ B, wd.heap.size = B := ⟨_, rfl⟩
      obtain ⟨w2, hw2⟩ : ∃ w2, wd.alloc (.cells #[.int .i64 0, .int .i64 0, .bool false] 52) = w2 := ⟨_, rfl⟩
      rw [hw2] at hH2 hB2 hT2 ⊢
      rw [eB] at hT2 hn3 hne ⊢
      clear hw2 eB hH1 hB1
      have A2 := hH2.at'
      refine hK.out _ _ ?_ (fun hHeld => ?_)
      · exact ⟨A2.c0, A2.c1, A2.c3, A2.c4, A2.c5⟩
      clear hK K
      try simp only [Act.put, List.setIfInBounds_toArray, List.set_cons_zero, List.set_cons_succ]
      clear A2
      refine hand_call (i := 13) rfl (by kernel_rfl) ?_
      intro o ho
      simp at ho
      subst ho
      intro K hK
      go_simp
      go_at_call 24
      refine (tick_c l t o wa tr _ hI0.out.lb hI0.out.tb hI0.out.wb hI0.out.rb ⟨rl, rt, ro, rn⟩ hr).mono ?_
      dsimp only
      rintro e w3 ⟨rfl, hb3⟩
      have hH3 := hH2.below hb3
      have hB3 := hB2.trans (hb3.mono hB2.size)
      have hT3 := hT2.below hb3
      clear hb3 hH2 hB2 hT2
      have A3 := hH3.at'
      refine hK.out _ _ ?_ (fun hHeld => ?_)
      · exact ⟨A3.c0, A3.c1, A3.c3, A3.c4, A3.c5⟩
      clear hK K
      try simp only [Act.put, List.setIfInBounds_toArray, List.set_cons_zero, List.set_cons_succ]
      clear A3
      refine hand_take (i := 14) (d := some 11) (v := ?_) rfl (by kernel_rfl) (by kernel_rfl) (by kernel_rfl) (fun _ _ _ h => h) ?_ hHeld ?_
      rotate_left
      · intro o ho
        simp at ho
        subst ho
        intro wz hSw
        try dsimp only at hSw
        go_simp
        try with_reducible rfl
      try simp only [Act.put, List.setIfInBounds_toArray, List.set_cons_zero, List.set_cons_succ]
      refine hand_take (i := 15) (d := some 26) (v := ?_) rfl (by kernel_rfl) (by kernel_rfl) (by kernel_rfl) (fun _ _ _ h => h) ?_ hHeld ?_
      rotate_left
      · intro o ho
        simp at ho
        subst ho
        intro wz hSw
        try dsimp only at hSw
        go_simp
        try with_reducible rfl
      try simp only [Act.put, List.setIfInBounds_toArray, List.set_cons_zero, List.set_cons_succ]
      refine hand_take (i := 16) (d := some 27) (v := ?_) rfl (by kernel_rfl) (by kernel_rfl) (by kernel_rfl) (fun _ _ _ h => h) ?_ hHeld ?_
      rotate_left
      · intro o ho
        simp at ho
        subst ho
        intro wz hSw
        try dsimp only at hSw
        go_simp
        try with_reducible rfl
      try simp only [Act.put, List.setIfInBounds_toArray, List.set_cons_zero, List.set_cons_succ]
      obtain ⟨hlB, y0, y1, y2, z0, z1, z2⟩ := id hT3
      refine hand_call (i := 18) rfl (by kernel_rfl) ?_
      intro o ho
      simp at ho
      subst ho
      intro K hK
      go_simp
      clear y0 y1 y2 z0 z1 z2
      obtain ⟨w4, hw4⟩ : ∃ w4, setT w3 B 0 rl rt ro = w4 := ⟨_, rfl⟩
      have M := TkMid.of hH3 hB3 hT3 hn3 hne ⟨rl, rt, ro, rn⟩
      dsimp only at M
      rw [hw4] at M
      dsimp only [setT] at hw4
      rw [hw4]
      clear hw4 hH3 hB3 hT3
      have A4 := M.pr.at'
      refine hK.out _ _ ?_ (fun hHeld => ?_)
      · exact ⟨A4.c0, A4.c1, A4.c3, A4.c4, A4.c5⟩
      clear hK K
      try simp only [Act.put, List.setIfInBounds_toArray, List.set_cons_zero, List.set_cons_succ]
      clear A4
      refine hand_take (i := 19) (d := some 4) (v := ?_) rfl (by kernel_rfl) (by kernel_rfl) (by kernel_rfl) (fun _ _ _ h => h) ?_ hHeld ?_
      rotate_left
      · intro o ho
        simp at ho
        subst ho
        intro wz hSw
        try dsimp only at hSw
        go_simp
        try with_reducible rfl
      try simp only [Act.put, List.setIfInBounds_toArray, List.set_cons_zero, List.set_cons_succ]
      refine wpAnyH_done (by kernel_rfl) (NoPanic.normal ?_) _
      clear hHeld
      obtain ⟨H3, B3, T3, n3⟩ := M
      obtain ⟨hl3, d0, d1, d2, d3, d4, d5, d6, d7, d8, d9, fz3⟩ := H3.at'
      obtain ⟨hlB, y0, y1, y2, -, -, -⟩ := T3
      have h3 := hide H3
      have b3 := hide B3
      clear H3 B3
      go_wp2_with fail
      go_ret
      have h4 := h3.out.timer rl rt ro hI.out
      exact ⟨rfl, h4.1, (FrS.of_below b3.out).trans h4.2 (fun _ e => .inl e)⟩
end Go.Proofs.Ytmdioofpghbjbaa
