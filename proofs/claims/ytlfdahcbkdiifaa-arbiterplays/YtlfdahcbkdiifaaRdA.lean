/- The contracts of the document's Block, last, begin, Done, Current (layer 12). -/
import Derived.Test.YtlfdahcbkdiifaaRdBase
namespace Go.Proofs.Ytlfdahcbkdiifaa
open Go.ChangeShapes Go.WideShapes Go.ChangeAt Go.RowKit
set_option linter.unusedSimpArgs false
set_option linter.unusedVariables false
set_option maxRecDepth 10000

attribute [local go_sem, local simp] over_const setCell_drewN alloc_drewN Over.cell Over.frozen lt_s1 lt_s2 lt_s3 le_s0 le_s1 le_s2 le_s3 eq_s0 eq_s1 eq_s2 qe_s0

set_option maxHeartbeats 400000 in
theorem dBlock_c (q h N M : Nat) (L : List Rq) (F : Nat → Prop) (x : Int) (w : World) (hr : RdIs w q h N M L F) (b : Bool) (hb : Hid (hasQ L.length x = b)) : Calls Try.prog 28 #[ptr q, .int .i64 x] w fun e w' => e = .returned (.bool b) ∧ w' = w := by
  have c1 := hr.c1
  have hq' := hb.out
  unfold hasQ at hq'
  clear hr hb
  by_cases a : x < 0
  · obtain rfl : b = false := by rw [← hq']; simp; omega
    clear hq'
    go_enter Try.func28, Try.ntmps28
    go_wp2_with fail
    go_ret
    exact ⟨rfl, rfl⟩
  · by_cases d : x < (L.length : Int)
    · obtain rfl : b = true := by rw [← hq']; simp; omega
      clear hq'
      go_enter Try.func28, Try.ntmps28
      go_wp2_with fail
      go_ret
      exact ⟨rfl, rfl⟩
    · obtain rfl : b = false := by rw [← hq']; simp; omega
      clear hq'
      go_enter Try.func28, Try.ntmps28
      go_wp2_with fail
      go_ret
      exact ⟨rfl, rfl⟩

theorem VwD.val {w : World} {F : Nat → Prop} {h : Nat} {v : Value} {A : List Int} (hV : VwD w F h v A) : ∃ ao cap, v = .slice ao A.length cap := by
  obtain ⟨b, ⟨ao, cap, e, _⟩, _⟩ := hV
  exact ⟨ao, cap, e⟩

set_option maxHeartbeats 1000000 in
theorem dLast_c (q h N M : Nat) (L : List Rq) (F : Nat → Prop) (j : Nat) (w : World) (hr : RdIs w q h N M L F) (hj : j < L.length) (r : Rq) (hrj : L[j] = r) (hn1 : 1 ≤ r.n) (hM : M ≤ 100000) (ln : Int) (hln : Hid (lastNQ r = ln)) (n : Nat) (hn : Hid (r.n = n)) : Calls Try.prog 30 #[ptr q, .int .i64 j] w fun e w' => e = .returned (.agg #[.int .i64 j, .int .i64 ln, .int .i64 n]) ∧ Below w.heap.size w w' := by
  have c1 := hr.c1
  have hql := hr.ql
  have hhl := hr.hl
  have hI := hr.inv.get hj
  have hrow := hr.rows j hj
  rw [hrj] at hrow hI
  obtain ⟨v0, k0, b0, ⟨ao, cap, rfl, hlc, hmx, hA⟩, hF0⟩ := hrow.c0
  obtain ⟨v3, k3, hV3⟩ := hrow.c3
  obtain ⟨ao3, cap3, rfl⟩ := hV3.val
  have k1 := hrow.c1
  have k2 := hrow.c2
  have hle := hI.le
  have hal := hI.al
  rcases hA with hA | ⟨o, rfl, hbl, hcs⟩
  · rw [hA] at hle; simp at hle; omega
  have hcell := hcs (r.n - 1) (by omega)
  rw [ints_at _ _ (by omega)] at hcell
  have hl : r.A[r.n - 1]'(by omega) = ln := by rw [← hln.out]; unfold lastNQ; rw [if_neg (by omega)]; simp [List.getD, show r.n - 1 < r.A.length by omega]
  rw [hl] at hcell
  obtain ⟨nA, hnA⟩ : ∃ nA, r.A.length = nA := ⟨_, rfl⟩
  rw [hnA] at k0 hle hal
  rw [hn.out] at k1 hcell hle hn1
  generalize r.ph = ph at k2
  generalize r.kn.length = nK at k3
  have hw1 : IntKind.i64.wrap ((n : Int) - 1) = ((n - 1 : Nat) : Int) := by rw [IntKind.wrap_i64]; omega
  have hlt1 : ((n - 1 : Nat) : Int) < nA := by omega
  have hj' : (j : Int) < L.length := by omega
  obtain ⟨n1, hn1e⟩ : ∃ n1, n - 1 = n1 := ⟨_, rfl⟩
  rw [hn1e] at hw1 hlt1 hcell
  replace hn1e := hide hn1e
  clear hcs hrow hI hr hF0 hV3 hl hnA hmx hlc hrj
  go_enter Try.func30, Try.ntmps30
  go_wp2_with fail
  refine name_world ?_
  intro W hW
  have hB : Hid (Below w.heap.size w W) := by rw [← hW]; exact hide (by repeat' first | with_reducible exact Below.refl _ _ | with_reducible refine Below.setCell ?_ ?_ _ | with_reducible refine Below.alloc ?_ ?_ _ | with_reducible refine Below.drew ?_ | with_reducible refine belowN ?_ _ | with_reducible refine Over.go _ ?_ ?_ | with_reducible exact Nat.le_refl _ | with_reducible refine Over.sz _ _ ?_ | with_reducible refine le_alloc ?_ | with_reducible refine le_setCell ?_ | with_reducible refine le_drewN ?_ | with_reducible refine le_drew ?_ | omega | (dsimp only; omega))
  have z0 : W.cell? ⟨w.heap.size + 1, 0, none⟩ = some (.slice (some ⟨b0, o, none⟩) nA cap) := by rw [← hW]; simp [go_sem]
  have z1 : W.cell? ⟨w.heap.size + 1, 1, none⟩ = some (.int .i64 n) := by rw [← hW]; simp [go_sem]
  have z2 := keep_cell (hB.out.block b0 hbl) hcell
  have y0 : W.cell? ⟨w.heap.size, 0, none⟩ = some (.int .i64 0) := by rw [← hW]; simp [go_sem]
  have y1 : W.cell? ⟨w.heap.size, 1, none⟩ = some (.int .i64 0) := by rw [← hW]; simp [go_sem]
  have y2 : W.cell? ⟨w.heap.size, 2, none⟩ = some (.int .i64 0) := by rw [← hW]; simp [go_sem]
  have f0 : W.frozen? ⟨w.heap.size, 0, none⟩ = false := by rw [← hW]; simp [go_sem]
  have f1 : W.frozen? ⟨w.heap.size, 1, none⟩ = false := by rw [← hW]; simp [go_sem]
  have f2 : W.frozen? ⟨w.heap.size, 2, none⟩ = false := by rw [← hW]; simp [go_sem]
  clear hW k0 k1 k2 k3 c1 hcell
  go_wp2_with fail
  refine wp_region_noPanic ?_
  refine last_begin 11 (fun w' => w'.cell? ⟨w.heap.size + 1, 0, none⟩ = some (.slice (some ⟨b0, o, none⟩) nA cap) ∧ w'.cell? ⟨w.heap.size + 1, 1, none⟩ = some (.int .i64 n) ∧ w'.cell? ⟨b0, o + n1, none⟩ = some (.int .i64 ln)) (by kernel_rfl) ?_ (fun hHeld => ?_)
  · exact ⟨z0, z1, z2⟩
  refine last_take (i := 0) (d := some 13) (v := ?_) rfl (by kernel_rfl) (by kernel_rfl) (by kernel_rfl) (by kernel_rfl) (fun _ _ _ h => h) ?_ hHeld ?_
  rotate_left
  · intro o ho
    simp at ho
    subst ho
    intro wz hSw
    try dsimp only at hSw
    go_simp
    try with_reducible rfl
  try simp only [Act.put, List.setIfInBounds_toArray, List.set_cons_zero, List.set_cons_succ]
  refine last_take (i := 1) (d := some 14) (v := ?_) rfl (by kernel_rfl) (by kernel_rfl) (by kernel_rfl) (by kernel_rfl) (fun _ _ _ h => h) ?_ hHeld ?_
  rotate_left
  · intro o ho
    simp at ho
    subst ho
    intro wz hSw
    try dsimp only at hSw
    go_simp
    try with_reducible rfl
  try simp only [Act.put, List.setIfInBounds_toArray, List.set_cons_zero, List.set_cons_succ]
  refine last_take (i := 2) (d := some 15) (v := ?_) rfl (by kernel_rfl) (by kernel_rfl) (by kernel_rfl) (by kernel_rfl) (fun _ _ _ h => h) ?_ hHeld ?_
  rotate_left
  · intro o ho
    simp at ho
    subst ho
    intro wz hSw
    try dsimp only at hSw
    go_simp
    try with_reducible rfl
  try simp only [Act.put, List.setIfInBounds_toArray, List.set_cons_zero, List.set_cons_succ]
  refine last_take (i := 3) (d := some 16) (v := ?_) rfl (by kernel_rfl) (by kernel_rfl) (by kernel_rfl) (by kernel_rfl) (fun _ _ _ h => h) ?_ hHeld ?_
  rotate_left
  · intro o ho
    simp at ho
    subst ho
    intro wz hSw
    try dsimp only at hSw
    go_simp
    try with_reducible rfl
  try simp only [Act.put, List.setIfInBounds_toArray, List.set_cons_zero, List.set_cons_succ]
  refine last_take (i := 4) (d := some 17) (v := ?_) rfl (by kernel_rfl) (by kernel_rfl) (by kernel_rfl) (by kernel_rfl) (fun _ _ _ h => h) ?_ hHeld ?_
  rotate_left
  · intro o ho
    simp at ho
    subst ho
    intro wz hSw
    try dsimp only at hSw
    go_simp
    try with_reducible rfl
  try simp only [Act.put, List.setIfInBounds_toArray, List.set_cons_zero, List.set_cons_succ]
  refine last_take (i := 5) (d := some 18) (v := ?_) rfl (by kernel_rfl) (by kernel_rfl) (by kernel_rfl) (by kernel_rfl) (fun _ _ _ h => h) ?_ hHeld ?_
  rotate_left
  · intro o ho
    simp at ho
    subst ho
    intro wz hSw
    try dsimp only at hSw
    go_simp
    try with_reducible rfl
  try simp only [Act.put, List.setIfInBounds_toArray, List.set_cons_zero, List.set_cons_succ]
  refine last_take (i := 6) (d := some 19) (v := ?_) rfl (by kernel_rfl) (by kernel_rfl) (by kernel_rfl) (by kernel_rfl) (fun _ _ _ h => h) ?_ hHeld ?_
  rotate_left
  · intro o ho
    simp at ho
    subst ho
    intro wz hSw
    try dsimp only at hSw
    go_simp
    try with_reducible rfl
  try simp only [Act.put, List.setIfInBounds_toArray, List.set_cons_zero, List.set_cons_succ]
  refine last_take (i := 7) (d := some 20) (v := ?_) rfl (by kernel_rfl) (by kernel_rfl) (by kernel_rfl) (by kernel_rfl) (fun _ _ _ h => h) ?_ hHeld ?_
  rotate_left
  · intro o ho
    simp at ho
    subst ho
    intro wz hSw
    try dsimp only at hSw
    go_simp
    try with_reducible rfl
  try simp only [Act.put, List.setIfInBounds_toArray, List.set_cons_zero, List.set_cons_succ]
  refine last_take (i := 8) (d := some 21) (v := ?_) rfl (by kernel_rfl) (by kernel_rfl) (by kernel_rfl) (by kernel_rfl) (fun _ _ _ h => h) ?_ hHeld ?_
  rotate_left
  · intro o ho
    simp at ho
    subst ho
    intro wz hSw
    try dsimp only at hSw
    go_simp
    try with_reducible rfl
  try simp only [Act.put, List.setIfInBounds_toArray, List.set_cons_zero, List.set_cons_succ]
  refine last_take (i := 9) (d := some 22) (v := ?_) rfl (by kernel_rfl) (by kernel_rfl) (by kernel_rfl) (by kernel_rfl) (fun _ _ _ h => h) ?_ hHeld ?_
  rotate_left
  · intro o ho
    simp at ho
    subst ho
    intro wz hSw
    try dsimp only at hSw
    go_simp
    try with_reducible rfl
  try simp only [Act.put, List.setIfInBounds_toArray, List.set_cons_zero, List.set_cons_succ]
  refine last_take (i := 10) (d := some 23) (v := ?_) rfl (by kernel_rfl) (by kernel_rfl) (by kernel_rfl) (by kernel_rfl) (fun _ _ _ h => h) ?_ hHeld ?_
  rotate_left
  · intro o ho
    simp at ho
    subst ho
    intro wz hSw
    try dsimp only at hSw
    go_simp
    try with_reducible rfl
  try simp only [Act.put, List.setIfInBounds_toArray, List.set_cons_zero, List.set_cons_succ]
  refine last_call (i := 11) rfl (by kernel_rfl) ?_
  intro o ho
  simp at ho
  subst ho
  intro K hK
  go_simp
  refine hK.out _ _ (fun h => absurd rfl h) (fun _ => ?_)
  clear hK K
  try simp only [Act.put, List.setIfInBounds_toArray, List.set_cons_zero, List.set_cons_succ]
  refine last_done (by kernel_rfl) (NoPanic.normal ?_) _
  clear hHeld
  go_wp2_with fail
  refine bodyPost_ret (by simp [results, Try.results30, go_sem, *]; done) rfl ⟨rfl, ?_⟩
  exact (((hB.out.setCell (Nat.le_refl _) _).setCell (Nat.le_refl _) _).setCell (Nat.le_refl _) _).drew

section
variable {w : World} {F F' : Nat → Prop} {h o : Nat} {r : Rq}
theorem RowD.off (hr : RowD w F h o r) (i : Nat) (v : Value) : (∀ k, k ≠ i → (w.setCell ⟨h, o + i, none⟩ v).cell? ⟨h, o + k, none⟩ = w.cell? ⟨h, o + k, none⟩) ∧ (w.setCell ⟨h, o + i, none⟩ v).there h o 4 ∧ (∀ b, F b → b ≠ h → (w.setCell ⟨h, o + i, none⟩ v).heap[b]? = w.heap[b]?) :=
  ⟨fun k hk => World.cell?_setCell_other _ _ _ _ (fun e => by have : o + i = o + k := congrArg Addr.off e; omega), World.there_setCells hr.th h (o + i) [v], fun b _ hb => heap_setCell_other _ _ _ _ hb⟩
theorem RowD.set1 (hr : RowD w F h o r) (n' : Nat) : RowD (w.setCell ⟨h, o + 1, none⟩ (.int .i64 n')) F h o ⟨r.A, n', r.ph, r.kn⟩ := by
  obtain ⟨e, t, f⟩ := hr.off 1 (.int .i64 n')
  obtain ⟨v0, k0, V0⟩ := hr.c0
  obtain ⟨v3, k3, V3⟩ := hr.c3
  exact ⟨⟨v0, (e 0 (by omega)).trans k0, V0.carry f (fun _ h => h)⟩, World.cell?_setCell_same _ _ _ hr.c1, (e 2 (by omega)).trans hr.c2, ⟨v3, (e 3 (by omega)).trans k3, V3.carry f (fun _ h => h)⟩, t⟩
theorem RowD.set2 (hr : RowD w F h o r) (p' : Int) : RowD (w.setCell ⟨h, o + 2, none⟩ (.int .i64 p')) F h o ⟨r.A, r.n, p', r.kn⟩ := by
  obtain ⟨e, t, f⟩ := hr.off 2 (.int .i64 p')
  obtain ⟨v0, k0, V0⟩ := hr.c0
  obtain ⟨v3, k3, V3⟩ := hr.c3
  exact ⟨⟨v0, (e 0 (by omega)).trans k0, V0.carry f (fun _ h => h)⟩, (e 1 (by omega)).trans hr.c1, World.cell?_setCell_same _ _ _ hr.c2, ⟨v3, (e 3 (by omega)).trans k3, V3.carry f (fun _ h => h)⟩, t⟩
theorem RowD.set0 (hr : RowD w F h o r) (hF : ∀ b, F b → F' b) {v : Value} {A : List Int} (hV : VwD w F' h v A) : RowD (w.setCell ⟨h, o, none⟩ v) F' h o ⟨A, r.n, r.ph, r.kn⟩ := by
  obtain ⟨e, t, f⟩ := hr.off 0 v
  rw [Nat.add_zero] at e t f
  obtain ⟨v0, k0, V0⟩ := hr.c0
  obtain ⟨v3, k3, V3⟩ := hr.c3
  exact ⟨⟨v, World.cell?_setCell_same _ _ _ k0, hV.carry (fun b _ hb => heap_setCell_other _ _ _ _ hb) (fun _ h => h)⟩, (e 1 (by omega)).trans hr.c1, (e 2 (by omega)).trans hr.c2, ⟨v3, (e 3 (by omega)).trans k3, V3.carry f hF⟩, t⟩
theorem RowD.set3 (hr : RowD w F h o r) (hF : ∀ b, F b → F' b) {v : Value} {A : List Int} (hV : VwD w F' h v A) : RowD (w.setCell ⟨h, o + 3, none⟩ v) F' h o ⟨r.A, r.n, r.ph, A⟩ := by
  obtain ⟨e, t, f⟩ := hr.off 3 v
  obtain ⟨v0, k0, V0⟩ := hr.c0
  obtain ⟨v3, k3, V3⟩ := hr.c3
  exact ⟨⟨v0, (e 0 (by omega)).trans k0, V0.carry f hF⟩, (e 1 (by omega)).trans hr.c1, (e 2 (by omega)).trans hr.c2, ⟨v, World.cell?_setCell_same _ _ _ k3, hV.carry (fun b _ hb => heap_setCell_other _ _ _ _ hb) (fun _ h => h)⟩, t⟩
end

abbrev resD (a : At) : Obj := .cells #[.int .i64 a.b, .int .i64 a.n, .int .i64 a.s] 32
abbrev setD (w : World) (k : Nat) (a : At) : World := ((w.setCell ⟨k, 0, none⟩ (.int .i64 a.b)).setCell ⟨k, 1, none⟩ (.int .i64 a.n)).setCell ⟨k, 2, none⟩ (.int .i64 a.s)
theorem setD_fr (w : World) (k : Nat) (a : At) : FrS (· = k) w (setD w k a) :=
  FrS.setCell (F := (· = k)) (q := ⟨k, 2, none⟩) (FrS.setCell (F := (· = k)) (q := ⟨k, 1, none⟩) (FrS.setCell (F := (· = k)) (q := ⟨k, 0, none⟩) (FrS.refl _ w) (.inl rfl) _) (.inl rfl) _) (.inl rfl) _

/-- The result's block is written last. -/
theorem RdIs.res {w w4 : World} {q h N M : Nat} {L : List Rq} {F F0 : Nat → Prop} (hr : RdIs w4 q h N M L F) (hs : Step F0 F w w4) (hq : q < w.heap.size) (hn : ¬ F w.heap.size) (a : At) : RdIs (setD w4 w.heap.size a) q h N M L F ∧ Step F0 F w (setD w4 w.heap.size a) := by
  have hf := setD_fr w4 w.heap.size a
  refine ⟨hr.fr hf (by omega) (fun b hb e => hn (e ▸ hb)), hs.fr.trans hf (fun i hi => .inr (by omega)), hs.new⟩

set_option maxHeartbeats 1000000 in
theorem dBegin_c (q h N M : Nat) (L : List Rq) (F : Nat → Prop) (j : Nat) (w : World) (hr : RdIs w q h N M L F) (hj : j < L.length) (r : Rq) (hrj : L[j] = r) (hM : M ≤ 100000) (a : At) (ha : Hid (atBQ j r = a)) (ok : Bool) (hok : Hid (okBQ r = ok)) : Calls Try.prog 29 #[ptr q, .int .i64 j] w fun e w' => e = .returned (.tuple #[.agg #[.int .i64 a.b, .int .i64 a.n, .int .i64 a.s], .bool ok]) ∧ RdIs w' q h N M (L.set j (nxBQ r)) F ∧ Step F F w w' := by
  have hH := hide hr
  have c1 := hr.c1
  have hql := hr.ql
  have hhl := hr.hl
  have hI := hr.inv.get hj
  have hrow := hr.rows j hj
  rw [hrj] at hrow hI
  obtain ⟨v0, k0, hV0⟩ := hrow.c0
  obtain ⟨ao, cap, rfl⟩ := hV0.val
  obtain ⟨v3, k3, hV3⟩ := hrow.c3
  obtain ⟨ao3, cap3, rfl⟩ := hV3.val
  have k1 := hrow.c1
  have k2 := hrow.c2
  have f1 := (hrow.th 1 (by omega)).2
  have f2 := (hrow.th 2 (by omega)).2
  have hj' : (j : Int) < L.length := by omega
  have hle := hI.le
  have hal := hI.al
  have hrs : L.set j r = L := by rw [← hrj]; exact List.set_getElem_self hj
  have ha' := ha.out
  have hok' := hok.out
  unfold atBQ at ha'
  unfold okBQ at hok'
  by_cases c : r.ph = 0 ∧ r.n < r.A.length
  · rw [if_pos c] at ha'
    obtain rfl : ok = true := by rw [← hok']; simp [c]
    have hnx : nxBQ r = ⟨r.A, r.n + 1, 1, r.kn⟩ := by unfold nxBQ; rw [if_pos c]
    rw [hnx]
    obtain ⟨nA, hnA⟩ : ∃ nA, r.A.length = nA := ⟨_, rfl⟩
    obtain ⟨nK, hnK⟩ : ∃ nK, r.kn.length = nK := ⟨_, rfl⟩
    obtain ⟨n, hn⟩ : ∃ n, r.n = n := ⟨_, rfl⟩
    rw [hnA] at k0 hal
    rw [hnK] at k3
    rw [hn] at k1
    rw [c.1] at k2
    have hlt : (n : Int) < nA := by rw [← hn, ← hnA]; omega
    have hw1 : IntKind.i64.wrap ((n : Int) + 1) = (n : Int) + 1 := by rw [IntKind.wrap_i64]; omega
    have hqh : ¬ q = h := fun e => hr.fq (e ▸ hr.fh)
    have hqh' : ¬ h = q := fun e => hqh e.symm
    have hrow2 := (hrow.set1 (n + 1)).set2 1
    have hg2 : RG h (j * 4) w ((w.setCell ⟨h, j * 4 + 1, none⟩ (.int .i64 ((n + 1 : Nat) : Int))).setCell ⟨h, j * 4 + 2, none⟩ (.int .i64 1)) := ((RG.refl h (j * 4) w).setCell (by omega) (by omega) _).setCell (by omega) (by omega) _
    have hI2 := hI.next
    rw [hnx, hn] at hI2
    have hput := hr.put hj hrow2 hg2 (fun _ h => h) (fun _ h => .inl h) hI2 (Nat.le_refl _)
    rw [show ((n + 1 : Nat) : Int) = (n : Int) + 1 by omega] at hput
    obtain ⟨W5, hW5⟩ : ∃ W5, (w.setCell ⟨h, j * 4 + 1, none⟩ (.int .i64 ((n : Int) + 1))).setCell ⟨h, j * 4 + 2, none⟩ (.int .i64 1) = W5 := ⟨_, rfl⟩
    rw [hW5] at hput
    obtain ⟨ln, hln⟩ : ∃ ln, Hid (lastNQ ⟨r.A, n + 1, 1, r.kn⟩ = ln) := ⟨_, rfl⟩
    have hla : ln = r.A.getD r.n 0 := by rw [← hln.out, ← hn]; unfold lastNQ; rw [if_neg (by simp)]; simp
    rw [← hla, hn] at ha'
    subst ha'
    have hset : (L.set j ⟨r.A, n + 1, 1, r.kn⟩)[j]'(by rw [List.length_set]; exact hj) = ⟨r.A, n + 1, 1, r.kn⟩ := by simp
    rw [hn]
    replace hput := hide hput
    replace hset := hide hset
    replace hnA := hide hnA
    replace hnK := hide hnK
    replace hn := hide hn
    replace hla := hide hla
    replace hW5 := hide hW5
    clear hrow2 hg2 hI2 hnx hok' c hV0 hV3 hrow hI hle hr hrs
    go_enter Try.func29, Try.ntmps29
    go_wp2_with fail
    refine wp_region_noPanic ?_
    refine last_begin 10 (fun w' => w'.cell? ⟨q, 1, none⟩ = some (slD h L.length) ∧ w'.cell? ⟨w.heap.size + 1, 1, none⟩ = some (.int .i64 n)) (by kernel_rfl) ?_ (fun hHeld => ?_)
    · exact ⟨by simp [go_sem, *], by simp [go_sem, *]⟩
    refine last_take (i := 0) (d := some 26) (v := ?_) rfl (by kernel_rfl) (by kernel_rfl) (by kernel_rfl) (by kernel_rfl) (fun _ _ _ h => h) ?_ hHeld ?_
    rotate_left
    · intro o ho
      simp at ho
      subst ho
      intro wz hSw
      try dsimp only at hSw
      go_simp
      try with_reducible rfl
    try simp only [Act.put, List.setIfInBounds_toArray, List.set_cons_zero, List.set_cons_succ]
    refine last_take (i := 1) (d := some 27) (v := ?_) rfl (by kernel_rfl) (by kernel_rfl) (by kernel_rfl) (by kernel_rfl) (fun _ _ _ h => h) ?_ hHeld ?_
    rotate_left
    · intro o ho
      simp at ho
      subst ho
      intro wz hSw
      try dsimp only at hSw
      go_simp
      try with_reducible rfl
    try simp only [Act.put, List.setIfInBounds_toArray, List.set_cons_zero, List.set_cons_succ]
    refine last_take (i := 2) (d := some 28) (v := ?_) rfl (by kernel_rfl) (by kernel_rfl) (by kernel_rfl) (by kernel_rfl) (fun _ _ _ h => h) ?_ hHeld ?_
    rotate_left
    · intro o ho
      simp at ho
      subst ho
      intro wz hSw
      try dsimp only at hSw
      go_simp
      try with_reducible rfl
    try simp only [Act.put, List.setIfInBounds_toArray, List.set_cons_zero, List.set_cons_succ]
    refine last_take (i := 3) (d := some 29) (v := ?_) rfl (by kernel_rfl) (by kernel_rfl) (by kernel_rfl) (by kernel_rfl) (fun _ _ _ h => h) ?_ hHeld ?_
    rotate_left
    · intro o ho
      simp at ho
      subst ho
      intro wz hSw
      try dsimp only at hSw
      go_simp
      try with_reducible rfl
    try simp only [Act.put, List.setIfInBounds_toArray, List.set_cons_zero, List.set_cons_succ]
    refine last_take (i := 4) (d := some 30) (v := ?_) rfl (by kernel_rfl) (by kernel_rfl) (by kernel_rfl) (by kernel_rfl) (fun _ _ _ h => h) ?_ hHeld ?_
    rotate_left
    · intro o ho
      simp at ho
      subst ho
      intro wz hSw
      try dsimp only at hSw
      go_simp
      try with_reducible rfl
    try simp only [Act.put, List.setIfInBounds_toArray, List.set_cons_zero, List.set_cons_succ]
    refine last_take (i := 5) (d := some 31) (v := ?_) rfl (by kernel_rfl) (by kernel_rfl) (by kernel_rfl) (by kernel_rfl) (fun _ _ _ h => h) ?_ hHeld ?_
    rotate_left
    · intro o ho
      simp at ho
      subst ho
      intro wz hSw
      try dsimp only at hSw
      go_simp
      try with_reducible rfl
    try simp only [Act.put, List.setIfInBounds_toArray, List.set_cons_zero, List.set_cons_succ]
    refine last_take (i := 6) (d := some 32) (v := ?_) rfl (by kernel_rfl) (by kernel_rfl) (by kernel_rfl) (by kernel_rfl) (fun _ _ _ h => h) ?_ hHeld ?_
    rotate_left
    · intro o ho
      simp at ho
      subst ho
      intro wz hSw
      try dsimp only at hSw
      go_simp
      try with_reducible rfl
    try simp only [Act.put, List.setIfInBounds_toArray, List.set_cons_zero, List.set_cons_succ]
    refine last_take (i := 7) (d := some 33) (v := ?_) rfl (by kernel_rfl) (by kernel_rfl) (by kernel_rfl) (by kernel_rfl) (fun _ _ _ h => h) ?_ hHeld ?_
    rotate_left
    · intro o ho
      simp at ho
      subst ho
      intro wz hSw
      try dsimp only at hSw
      go_simp
      try with_reducible rfl
    try simp only [Act.put, List.setIfInBounds_toArray, List.set_cons_zero, List.set_cons_succ]
    refine last_call (i := 8) rfl (by kernel_rfl) ?_
    intro o ho
    simp at ho
    subst ho
    intro K hK
    go_simp
    refine hK.out _ _ (fun _ => ?_) (fun hHeld0 => ?_)
    · exact hHeld
    clear hK K
    replace hHeld := hHeld0 (by decide)
    clear hHeld0
    try simp only [Act.put, List.setIfInBounds_toArray, List.set_cons_zero, List.set_cons_succ]
    refine last_take (i := 9) (d := some 35) (v := ?_) rfl (by kernel_rfl) (by kernel_rfl) (by kernel_rfl) (by kernel_rfl) (fun _ _ _ h => h) ?_ hHeld ?_
    rotate_left
    · intro o ho
      simp at ho
      subst ho
      intro wz hSw
      try dsimp only at hSw
      go_simp
      try with_reducible rfl
    try simp only [Act.put, List.setIfInBounds_toArray, List.set_cons_zero, List.set_cons_succ]
    refine last_call (i := 10) rfl (by kernel_rfl) ?_
    intro o ho
    simp at ho
    subst ho
    intro K hK
    go_simp
    refine hK.out _ _ (fun h => absurd rfl h) (fun _ => ?_)
    clear hK K
    try simp only [Act.put, List.setIfInBounds_toArray, List.set_cons_zero, List.set_cons_succ]
    refine last_done (by kernel_rfl) (NoPanic.normal ?_) _
    clear hHeld
    go_wp2_with fail
    rw [hW5.out]
    obtain ⟨U, hU⟩ : ∃ U, ((W5.alloc (resD at0)).alloc (.cells #[.slice ao nA cap, .int .i64 n, .int .i64 0, .slice ao3 nK cap3] 63)).drew = U := ⟨_, rfl⟩
    have hs5 : W5.heap.size = w.heap.size := by rw [← hW5.out]; simp
    have hBU : Below W5.heap.size W5 U := by rw [← hU]; exact (((Below.refl _ _).alloc (Nat.le_refl _) _).alloc (by simp) _).drew
    have hrU : U.heap[w.heap.size]? = some (resD at0) := by rw [← hU, ← hs5]; exact (Below.heap_alloc _ _ _ (by simp)).trans (heap_alloc_new W5 _)
    have hRU := hide (hput.out.1.below hBU)
    have hSU := hide (hput.out.2.trans (Step.of_below (F := F) hBU))
    rw [hU]
    replace hrU := hide hrU
    clear hU hBU hs5 hW5 k0 k1 k2 k3 f1 f2 c1 hput
    go_at_call 30
    refine (dLast_c q h N M _ F j U hRU.out (by rw [List.length_set]; exact hj) _ hset.out (by simp) hM ln hln (n + 1) (hide rfl)).mono ?_
    rintro e w7 ⟨rfl, hb7⟩
    have hb8 : w7.heap[w.heap.size]? = some (resD at0) := (hb7.block _ (Array.getElem?_eq_some_iff.1 hrU.out).1).trans hrU.out
    have z0 : w7.cell? ⟨w.heap.size, 0, none⟩ = some (.int .i64 0) := cell_of_row _ _ _ _ _ _ hb8
    have z1 : w7.cell? ⟨w.heap.size, 1, none⟩ = some (.int .i64 0) := cell_of_row _ _ _ _ _ _ hb8
    have z2 : w7.cell? ⟨w.heap.size, 2, none⟩ = some (.int .i64 0) := cell_of_row _ _ _ _ _ _ hb8
    have x0 : w7.frozen? ⟨w.heap.size, 0, none⟩ = false := frozen_of_row _ _ _ _ _ hb8
    have x1 : w7.frozen? ⟨w.heap.size, 1, none⟩ = false := frozen_of_row _ _ _ _ _ hb8
    have x2 : w7.frozen? ⟨w.heap.size, 2, none⟩ = false := frozen_of_row _ _ _ _ _ hb8
    have hfin := hide ((hRU.out.below hb7).res (hSU.out.trans (Step.of_below (F := F) hb7)) hql (fun e => by have := hH.out.lt _ e; omega) ⟨j, ln, n + 1⟩)
    clear hb7 hb8 hRU hSU
    go_wp2_with fail
    refine bodyPost_ret (by simp [results, Try.results29, go_sem, *]; done) rfl ⟨rfl, ?_⟩
    exact hfin.out
  · obtain rfl : ok = false := by rw [← hok']; exact decide_eq_false c
    rw [if_neg c] at ha'
    subst ha'
    have hnx : nxBQ r = r := by unfold nxBQ; rw [if_neg c]
    rw [hnx, hrs]
    obtain ⟨nA, hnA⟩ : ∃ nA, r.A.length = nA := ⟨_, rfl⟩
    rw [hnA] at k0 c
    generalize r.kn.length = nK at k3
    generalize r.n = n at k1 c
    generalize r.ph = ph at k2 c
    have hB : Hid (Below w.heap.size w ((w.alloc (resD at0)).alloc (.cells #[.slice ao nA cap, .int .i64 n, .int .i64 ph, .slice ao3 nK cap3] 63))) := hide (((Below.refl _ _).alloc (Nat.le_refl _) _).alloc (by simp) _)
    have hfin := hide ((unhide hH).below hB.out)
    by_cases c0 : ph = 0
    · subst c0
      have c2 : ¬ (n : Int) < nA := by omega
      clear hnx hok' c hV0 hV3 hrow hI hle hr hrs hal hnA
      go_enter Try.func29, Try.ntmps29
      go_wp2_with fail
      refine bodyPost_ret (by simp [results, Try.results29, go_sem, *]; done) rfl ⟨rfl, ?_⟩
      exact ⟨hfin.out, Step.of_below hB.out⟩
    · have c0' : decide (ph = 0) = false ∧ (ph == 0) = false ∧ (ph != 0) = true := ⟨by simpa using c0, by simpa using c0, by simpa using c0⟩
      clear hnx hok' c hV0 hV3 hrow hI hle hr hrs hal hnA
      replace c0 := hide c0
      go_enter Try.func29, Try.ntmps29
      go_wp2_with fail
      refine bodyPost_ret (by simp [results, Try.results29, go_sem, *]; done) rfl ⟨rfl, ?_⟩
      exact ⟨hfin.out, Step.of_below hB.out⟩


set_option maxHeartbeats 1000000 in
theorem dCur_c (q h N M : Nat) (L : List Rq) (F : Nat → Prop) (x : Int) (w : World) (hr : RdIs w q h N M L F) (hM : M ≤ 100000) (a : At) (ha : Hid (atCur L x = a)) (ok : Bool) (hok : Hid (okCur L x = ok)) : Calls Try.prog 14 #[ptr q, .int .i64 x] w fun e w' => e = .returned (.tuple #[.agg #[.int .i64 a.b, .int .i64 a.n, .int .i64 a.s], .bool ok]) ∧ Below w.heap.size w w' := by
  have hH := hide hr
  have c1 := hr.c1
  have hql := hr.ql
  have hhl := hr.hl
  obtain ⟨b, hb⟩ : ∃ b, Hid (hasQ L.length x = b) := ⟨_, rfl⟩
  have ha' := ha.out
  have hok' := hok.out
  unfold atCur at ha'
  unfold okCur at hok'
  rw [hb.out] at ha' hok'
  cases b with
  | false =>
    obtain rfl : ok = false := by rw [← hok']; rfl
    obtain rfl : a = at0 := by rw [← ha']; rfl
    clear ha' hok' hr
    go_enter Try.func14, Try.ntmps14
    go_wp2_with fail
    go_at_call 28
    refine (dBlock_c q h N M L F x _ (hH.out.alloc _) false hb).mono ?_
    rintro e w' ⟨rfl, hw'⟩
    rw [hw']
    clear hw' w'
    go_wp2_with fail
    refine bodyPost_ret (by simp [results, Try.results14, go_sem, *]; done) rfl ⟨rfl, ?_⟩
    repeat' first | with_reducible exact Below.refl _ _ | with_reducible refine Below.setCell ?_ ?_ _ | with_reducible refine Below.alloc ?_ ?_ _ | with_reducible refine Below.drew ?_ | with_reducible refine belowN ?_ _ | with_reducible refine Over.go _ ?_ ?_ | with_reducible exact Nat.le_refl _ | with_reducible refine Over.sz _ _ ?_ | with_reducible refine le_alloc ?_ | with_reducible refine le_setCell ?_ | with_reducible refine le_drewN ?_ | with_reducible refine le_drew ?_ | omega | (dsimp only; omega)
  | true =>
    obtain ⟨j, rfl, hj⟩ := hasQ_iff.1 hb.out
    have hrow := hr.rows j hj
    have hI := hr.inv.get hj
    rw [getQ_at hj] at ha' hok'
    obtain ⟨r, hrj⟩ : ∃ r, L[j] = r := ⟨_, rfl⟩
    rw [hrj] at hrow ha' hok' hI
    have k2 := hrow.c2
    have hj' : (j : Int) < L.length := by omega
    by_cases c : r.ph = 1
    · obtain rfl : ok = true := by rw [← hok']; simp [okCQ, c]
      obtain ⟨ln, hln⟩ : ∃ ln, Hid (lastNQ r = ln) := ⟨_, rfl⟩
      obtain ⟨n, hn⟩ : ∃ n, Hid (r.n = n) := ⟨_, rfl⟩
      obtain rfl : a = ⟨j, ln, n⟩ := by rw [← ha', ← hln.out, ← hn.out]; simp [atCQ, c]
      have hn1 : 1 ≤ r.n := hI.on (by rw [c]; decide)
      rw [c] at k2
      replace hrj := hide hrj
      clear ha' hok' hrow hI c hr
      go_enter Try.func14, Try.ntmps14
      go_wp2_with fail
      go_at_call 28
      refine (dBlock_c q h N M L F j _ (hH.out.alloc _) true hb).mono ?_
      rintro e w' ⟨rfl, hw'⟩
      rw [hw']
      clear hw' w'
      go_wp2_with fail
      go_at_call 30
      refine (dLast_c q h N M L F j _ (hH.out.alloc _) hj r hrj.out hn1 hM ln hln n hn).mono ?_
      rintro e w7 ⟨rfl, hb7⟩
      have hb8 : w7.heap[w.heap.size]? = some (resD at0) := (hb7.block _ (by simp)).trans (heap_alloc_new w _)
      have z0 : w7.cell? ⟨w.heap.size, 0, none⟩ = some (.int .i64 0) := cell_of_row _ _ _ _ _ _ hb8
      have z1 : w7.cell? ⟨w.heap.size, 1, none⟩ = some (.int .i64 0) := cell_of_row _ _ _ _ _ _ hb8
      have z2 : w7.cell? ⟨w.heap.size, 2, none⟩ = some (.int .i64 0) := cell_of_row _ _ _ _ _ _ hb8
      have x0 : w7.frozen? ⟨w.heap.size, 0, none⟩ = false := frozen_of_row _ _ _ _ _ hb8
      have x1 : w7.frozen? ⟨w.heap.size, 1, none⟩ = false := frozen_of_row _ _ _ _ _ hb8
      have x2 : w7.frozen? ⟨w.heap.size, 2, none⟩ = false := frozen_of_row _ _ _ _ _ hb8
      have hfin : Hid (Below w.heap.size w (setD w7 w.heap.size ⟨j, ln, n⟩)) := hide (((((((Below.refl _ _).alloc (Nat.le_refl _) _).trans (hb7.mono (by simp))).setCell (Nat.le_refl _) _).setCell (Nat.le_refl _) _).setCell (Nat.le_refl _) _))
      clear hb7 hb8
      go_wp2_with fail
      refine bodyPost_ret (by simp [results, Try.results14, go_sem, *]; done) rfl ⟨rfl, ?_⟩
      exact hfin.out
    · obtain rfl : ok = false := by rw [← hok']; simp [okCQ, c]
      obtain rfl : a = at0 := by rw [← ha']; simp [atCQ, c]
      generalize r.ph = ph at k2 c
      have c' : decide (ph = 1) = false ∧ (ph == 1) = false ∧ (ph != 1) = true := ⟨by simpa using c, by simpa using c, by simpa using c⟩
      replace hrj := hide hrj
      replace c := hide c
      clear ha' hok' hrow hI hr
      go_enter Try.func14, Try.ntmps14
      go_wp2_with fail
      go_at_call 28
      refine (dBlock_c q h N M L F j _ (hH.out.alloc _) true hb).mono ?_
      rintro e w' ⟨rfl, hw'⟩
      rw [hw']
      clear hw' w'
      go_wp2_with fail
      refine bodyPost_ret (by simp [results, Try.results14, go_sem, *]; done) rfl ⟨rfl, ?_⟩
      repeat' first | with_reducible exact Below.refl _ _ | with_reducible refine Below.setCell ?_ ?_ _ | with_reducible refine Below.alloc ?_ ?_ _ | with_reducible refine Below.drew ?_ | with_reducible refine belowN ?_ _ | with_reducible refine Over.go _ ?_ ?_ | with_reducible exact Nat.le_refl _ | with_reducible refine Over.sz _ _ ?_ | with_reducible refine le_alloc ?_ | with_reducible refine le_setCell ?_ | with_reducible refine le_drewN ?_ | with_reducible refine le_drew ?_ | omega | (dsimp only; omega)

set_option maxHeartbeats 1000000 in
theorem dDone_c (q h N M : Nat) (L : List Rq) (F : Nat → Prop) (x s : Int) (w : World) (hr : RdIs w q h N M L F) (ok : Bool) (hok : Hid (okDone L x s = ok)) : Calls Try.prog 16 #[ptr q, .int .i64 x, .int .i64 s] w fun e w' => e = .returned (.bool ok) ∧ RdIs w' q h N M (nxDone L x s) F ∧ Step F F w w' := by
  have hH := hide hr
  have c1 := hr.c1
  have hql := hr.ql
  have hhl := hr.hl
  have hqh : ¬ q = h := fun e => hr.fq (e ▸ hr.fh)
  have hqh' : ¬ h = q := fun e => hqh e.symm
  obtain ⟨b, hb⟩ : ∃ b, Hid (hasQ L.length x = b) := ⟨_, rfl⟩
  have hok' := hok.out
  unfold okDone at hok'
  rw [hb.out] at hok'
  obtain ⟨L', hL'⟩ : ∃ L', nxDone L x s = L' := ⟨_, rfl⟩
  rw [hL']
  unfold nxDone at hL'
  rw [hb.out] at hL'
  cases b with
  | false =>
    obtain rfl : ok = false := by rw [← hok']; rfl
    obtain rfl : L = L' := by rw [← hL']; rfl
    clear hL' hok' hr
    go_enter Try.func16, Try.ntmps16
    go_wp2_with fail
    go_at_call 28
    refine (dBlock_c q h N M L F x _ hH.out false hb).mono ?_
    rintro e w' ⟨rfl, hw'⟩
    rw [hw']
    clear hw' w'
    go_wp2_with fail
    go_ret
    exact ⟨rfl, hH.out, Step.refl _ _⟩
  | true =>
    obtain ⟨j, rfl, hj⟩ := hasQ_iff.1 hb.out
    have hrow := hr.rows j hj
    have hI := hr.inv.get hj
    rw [getQ_at hj, Bool.true_and] at hok'
    rw [if_pos rfl, getQ_at hj, Int.toNat_natCast] at hL'
    obtain ⟨r, hrj⟩ : ∃ r, L[j] = r := ⟨_, rfl⟩
    have hrs : L.set j r = L := by rw [← hrj]; exact List.set_getElem_self hj
    rw [hrj] at hrow hok' hL' hI
    have k1 := hrow.c1
    have k2 := hrow.c2
    obtain ⟨v3, k3, hV3⟩ := hrow.c3
    obtain ⟨ao3, cap3, rfl⟩ := hV3.val
    have f2 := (hrow.th 2 (by omega)).2
    have f3 := (hrow.th 3 (by omega)).2
    have hj' : (j : Int) < L.length := by omega
    generalize r.kn.length = nK at k3
    by_cases c : r.ph = 1
    · by_cases d : (r.n : Int) = s
      · obtain rfl : ok = true := by rw [← hok']; simp [okDQ, c, d]
        have hdq : dnQ r s = ⟨r.A, r.n, 2, []⟩ := by unfold dnQ; rw [if_pos ⟨c, d⟩]
        rw [hdq] at hL'
        have hrow2 := ((hrow.set2 2).set3 (F' := F) (fun _ h => h) (v := .slice none 0 0) (A := []) ⟨0, view_nil _ _, fun e => absurd rfl e⟩)
        have hg2 : RG h (j * 4) w ((w.setCell ⟨h, j * 4 + 2, none⟩ (.int .i64 2)).setCell ⟨h, j * 4 + 3, none⟩ (.slice none 0 0)) := ((RG.refl h (j * 4) w).setCell (by omega) (by omega) _).setCell (by omega) (by omega) _
        have hI2 := hI.done s
        rw [hdq] at hI2
        have hput := hide (hr.put hj hrow2 hg2 (fun _ h => h) (fun _ h => .inl h) hI2 (Nat.le_refl _))
        rw [hL'] at hput
        rw [c] at k2
        subst d
        generalize r.n = n at k1
        clear hrow2 hg2 hI2 hdq hL' hok' hrow hI hV3 hrs hr c
        replace hrj := hide hrj
        go_enter Try.func16, Try.ntmps16
        go_wp2_with fail
        go_at_call 28
        refine (dBlock_c q h N M L F j _ hH.out true hb).mono ?_
        rintro e w' ⟨rfl, hw'⟩
        rw [hw']
        clear hw' w'
        go_wp2_with fail
        go_ret
        exact ⟨rfl, hput.out⟩
      · obtain rfl : ok = false := by rw [← hok']; simp [okDQ, d]
        have hdq : dnQ r s = r := by unfold dnQ; rw [if_neg (fun e => d e.2)]
        rw [hdq, hrs] at hL'
        subst hL'
        rw [c] at k2
        generalize r.n = n at k1 d
        have d' : decide ((n : Int) = s) = false ∧ ((n : Int) == s) = false ∧ ((n : Int) != s) = true := ⟨by simpa using d, by simpa using d, by simpa using d⟩
        clear hdq hok' hrow hI hV3 hrs hr c
        replace hrj := hide hrj
        replace d := hide d
        go_enter Try.func16, Try.ntmps16
        go_wp2_with fail
        go_at_call 28
        refine (dBlock_c q h N M L F j _ hH.out true hb).mono ?_
        rintro e w' ⟨rfl, hw'⟩
        rw [hw']
        clear hw' w'
        go_wp2_with fail
        go_ret
        exact ⟨rfl, hH.out, Step.refl _ _⟩
    · obtain rfl : ok = false := by rw [← hok']; simp [okDQ, c]
      have hdq : dnQ r s = r := by unfold dnQ; rw [if_neg (fun e => c e.1)]
      rw [hdq, hrs] at hL'
      subst hL'
      generalize r.ph = ph at k2 c
      have c' : decide (ph = 1) = false ∧ (ph == 1) = false ∧ (ph != 1) = true := ⟨by simpa using c, by simpa using c, by simpa using c⟩
      clear hdq hok' hrow hI hV3 hrs hr
      replace hrj := hide hrj
      replace c := hide c
      go_enter Try.func16, Try.ntmps16
      go_wp2_with fail
      go_at_call 28
      refine (dBlock_c q h N M L F j _ hH.out true hb).mono ?_
      rintro e w' ⟨rfl, hw'⟩
      rw [hw']
      clear hw' w'
      go_wp2_with fail
      go_ret
      exact ⟨rfl, hH.out, Step.refl _ _⟩
end Go.Proofs.Ytlfdahcbkdiifaa
