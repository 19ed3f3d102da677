/- layer 16: RdA RdC, put together. -/
import Derived.Test.YtmgjgeaigdiadaaDoorB20
namespace Go.Proofs.YtmgjgeaigdiadaaDoor
open Go.ChangeShapes Go.WideShapes Go.ChangeAt Go.RowKit
set_option linter.unusedSimpArgs false
set_option linter.unusedVariables false
set_option maxRecDepth 10000
attribute [local go_sem, local simp] over_const setCell_drewN alloc_drewN Over.cell Over.frozen lt_s1 lt_s2 lt_s3 le_s0 le_s1 le_s2 le_s3 eq_s0 eq_s1 eq_s2 qe_s0
set_option maxHeartbeats 400000 in
theorem dBlock_c (q h N M : Nat) (L : List Rq) (F : Nat → Prop) (x : Int) (w : World) (hr : RdIs w q h N M L F) (b : Bool) (hb : Hid (hasQ L.length x = b)) : Calls Tryd.prog 40 #[ptr q, .int .i64 x] w fun e w' => e = .returned (.bool b) ∧ w' = w := by
  have c1 := hr.c1
  have hq' := hb.out
  unfold hasQ at hq'
  clear hr hb
  by_cases a : x < 0
  · obtain rfl : b = false := by rw [← hq']; simp; omega
    clear hq'
    go_enter Tryd.func40, Tryd.ntmps40
    go_wp2_with fail
    go_ret
    exact ⟨rfl, rfl⟩
  · by_cases d : x < (L.length : Int)
    · obtain rfl : b = true := by rw [← hq']; simp; omega
      clear hq'
      go_enter Tryd.func40, Tryd.ntmps40
      go_wp2_with fail
      go_ret
      exact ⟨rfl, rfl⟩
    · obtain rfl : b = false := by rw [← hq']; simp; omega
      clear hq'
      go_enter Tryd.func40, Tryd.ntmps40
      go_wp2_with fail
      go_ret
      exact ⟨rfl, rfl⟩
theorem VwD.val {w : World} {F : Nat → Prop} {h : Nat} {v : Value} {A : List Int} (hV : VwD w F h v A) : ∃ ao cap, v = .slice ao A.length cap := by
  obtain ⟨b, ⟨ao, cap, e, _⟩, _⟩ := hV
  exact ⟨ao, cap, e⟩
set_option maxHeartbeats 1000000 in
theorem dLast_c (q h N M : Nat) (L : List Rq) (F : Nat → Prop) (j : Nat) (w : World) (hr : RdIs w q h N M L F) (hj : j < L.length) (r : Rq) (hrj : L[j] = r) (hn1 : 1 ≤ r.n) (hM : M ≤ 100000) (ln : Int) (hln : Hid (lastNQ r = ln)) (n : Nat) (hn : Hid (r.n = n)) : Calls Tryd.prog 41 #[ptr q, .int .i64 j] w fun e w' => e = .returned (.agg #[.int .i64 j, .int .i64 ln, .int .i64 n]) ∧ Below w.heap.size w w' := by
  have c1 := hr.c1
  have hql := hr.ql
  have hhl := hr.hl
  have hI := hr.inv.get hj
  have hrow := hr.rows j hj
  rw [hrj] at hrow hI
  obtain ⟨v0, k0, b0, ⟨ao, cap, rfl, hlc, hmx, hA⟩, hF0⟩ := hrow.c0
  obtain ⟨v3, k3, hV3⟩ := hrow.c3
  obtain ⟨ao3, cap3, rfl⟩ := hV3.val
  have k1 := hrow.c1
  have k2 := hrow.c2
  have hle := hI.le
  have hal := hI.al
  rcases hA with hA | ⟨o, rfl, hbl, hcs⟩
  · rw [hA] at hle; simp at hle; omega
  have hcell := hcs (r.n - 1) (by omega)
  rw [ints_at _ _ (by omega)] at hcell
  have hl : r.A[r.n - 1]'(by omega) = ln := by rw [← hln.out]; unfold lastNQ; rw [if_neg (by omega)]; simp [List.getD, show r.n - 1 < r.A.length by omega]
  rw [hl] at hcell
  obtain ⟨nA, hnA⟩ : ∃ nA, r.A.length = nA := ⟨_, rfl⟩
  rw [hnA] at k0 hle hal
  rw [hn.out] at k1 hcell hle hn1
  generalize r.ph = ph at k2
  generalize r.kn.length = nK at k3
  have hw1 : IntKind.i64.wrap ((n : Int) - 1) = ((n - 1 : Nat) : Int) := by rw [IntKind.wrap_i64]; omega
  have hlt1 : ((n - 1 : Nat) : Int) < nA := by omega
  have hj' : (j : Int) < L.length := by omega
  obtain ⟨n1, hn1e⟩ : ∃ n1, n - 1 = n1 := ⟨_, rfl⟩
  rw [hn1e] at hw1 hlt1 hcell
  replace hn1e := hide hn1e
  clear hcs hrow hI hr hF0 hV3 hl hnA hmx hlc hrj
  go_enter Tryd.func41, Tryd.ntmps41
  go_wp2_with fail
  refine name_world ?_
  intro W hW
  have hB : Hid (Below w.heap.size w W) := by rw [← hW]; exact hide (by all_goals exact belEnd)
  have z0 : W.cell? ⟨w.heap.size + 1, 0, none⟩ = some (.slice (some ⟨b0, o, none⟩) nA cap) := by rw [← hW]; simp [go_sem]
  have z1 : W.cell? ⟨w.heap.size + 1, 1, none⟩ = some (.int .i64 n) := by rw [← hW]; simp [go_sem]
  have z2 := keep_cell (hB.out.block b0 hbl) hcell
  have y0 : W.cell? ⟨w.heap.size, 0, none⟩ = some (.int .i64 0) := by rw [← hW]; simp [go_sem]
  have y1 : W.cell? ⟨w.heap.size, 1, none⟩ = some (.int .i64 0) := by rw [← hW]; simp [go_sem]
  have y2 : W.cell? ⟨w.heap.size, 2, none⟩ = some (.int .i64 0) := by rw [← hW]; simp [go_sem]
  have f0 : W.frozen? ⟨w.heap.size, 0, none⟩ = false := by rw [← hW]; simp [go_sem]
  have f1 : W.frozen? ⟨w.heap.size, 1, none⟩ = false := by rw [← hW]; simp [go_sem]
  have f2 : W.frozen? ⟨w.heap.size, 2, none⟩ = false := by rw [← hW]; simp [go_sem]
  clear hW k0 k1 k2 k3 c1 hcell
  go_wp2_with fail
  refine wp_region_noPanic ?_
  refine last_begin 11 (fun w' => w'.cell? ⟨w.heap.size + 1, 0, none⟩ = some (.slice (some ⟨b0, o, none⟩) nA cap) ∧ w'.cell? ⟨w.heap.size + 1, 1, none⟩ = some (.int .i64 n) ∧ w'.cell? ⟨b0, o + n1, none⟩ = some (.int .i64 ln)) (by kernel_rfl) ?_ fun hHeld => ?_
  · exact ⟨z0, z1, z2⟩
  refine lTk 0 13 hHeld ?_
  refine lTk 1 14 hHeld ?_
  refine lTk 2 15 hHeld ?_
  refine lTk 3 16 hHeld ?_
  refine lTk 4 17 hHeld ?_
  refine lTk 5 18 hHeld ?_
  refine lTk 6 19 hHeld ?_
  refine lTk 7 20 hHeld ?_
  refine lTk 8 21 hHeld ?_
  refine lTk 9 22 hHeld ?_
  refine lTk 10 23 hHeld ?_
  refine lNo 11 fun K hK => ?_
  go_simp
  refine hK.out _ _ (fun h => absurd rfl h) fun _ => ?_
  clear hK K
  try simp only [Act.put, za, zb, zc]
  refine last_done (by kernel_rfl) (NoPanic.normal ?_) _
  clear hHeld
  go_wp2_with fail
  refine bodyPost_ret (by simp [results, Tryd.results41, go_sem, *]; done) rfl ⟨rfl, ?_⟩
  exact (((hB.out.setCell (Nat.le_refl _) _).setCell (Nat.le_refl _) _).setCell (Nat.le_refl _) _).drew
section
variable {w : World} {F F' : Nat → Prop} {h o : Nat} {r : Rq}
theorem RowD.off (hr : RowD w F h o r) (i : Nat) (v : Value) : (∀ k, k ≠ i → (w.setCell ⟨h, o + i, none⟩ v).cell? ⟨h, o + k, none⟩ = w.cell? ⟨h, o + k, none⟩) ∧ (w.setCell ⟨h, o + i, none⟩ v).there h o 4 ∧ (∀ b, F b → b ≠ h → (w.setCell ⟨h, o + i, none⟩ v).heap[b]? = w.heap[b]?) :=
  ⟨fun k hk => World.cell?_setCell_other _ _ _ _ (fun e => by have : o + i = o + k := congrArg Addr.off e; omega), World.there_setCells hr.th h (o + i) [v], fun b _ hb => heap_setCell_other _ _ _ _ hb⟩
theorem RowD.set1 (hr : RowD w F h o r) (n' : Nat) : RowD (w.setCell ⟨h, o + 1, none⟩ (.int .i64 n')) F h o ⟨r.A, n', r.ph, r.kn⟩ := by
  obtain ⟨e, t, f⟩ := hr.off 1 (.int .i64 n')
  obtain ⟨v0, k0, V0⟩ := hr.c0
  obtain ⟨v3, k3, V3⟩ := hr.c3
  exact ⟨⟨v0, (e 0 (by omega)).trans k0, V0.carry f (fun _ h => h)⟩, World.cell?_setCell_same _ _ _ hr.c1, (e 2 (by omega)).trans hr.c2, ⟨v3, (e 3 (by omega)).trans k3, V3.carry f (fun _ h => h)⟩, t⟩
theorem RowD.set2 (hr : RowD w F h o r) (p' : Int) : RowD (w.setCell ⟨h, o + 2, none⟩ (.int .i64 p')) F h o ⟨r.A, r.n, p', r.kn⟩ := by
  obtain ⟨e, t, f⟩ := hr.off 2 (.int .i64 p')
  obtain ⟨v0, k0, V0⟩ := hr.c0
  obtain ⟨v3, k3, V3⟩ := hr.c3
  exact ⟨⟨v0, (e 0 (by omega)).trans k0, V0.carry f (fun _ h => h)⟩, (e 1 (by omega)).trans hr.c1, World.cell?_setCell_same _ _ _ hr.c2, ⟨v3, (e 3 (by omega)).trans k3, V3.carry f (fun _ h => h)⟩, t⟩
theorem RowD.set0 (hr : RowD w F h o r) (hF : ∀ b, F b → F' b) {v : Value} {A : List Int} (hV : VwD w F' h v A) : RowD (w.setCell ⟨h, o, none⟩ v) F' h o ⟨A, r.n, r.ph, r.kn⟩ := by
  obtain ⟨e, t, f⟩ := hr.off 0 v
  rw [Nat.add_zero] at e t f
  obtain ⟨v0, k0, V0⟩ := hr.c0
  obtain ⟨v3, k3, V3⟩ := hr.c3
  exact ⟨⟨v, World.cell?_setCell_same _ _ _ k0, hV.carry (fun b _ hb => heap_setCell_other _ _ _ _ hb) (fun _ h => h)⟩, (e 1 (by omega)).trans hr.c1, (e 2 (by omega)).trans hr.c2, ⟨v3, (e 3 (by omega)).trans k3, V3.carry f hF⟩, t⟩
theorem RowD.set3 (hr : RowD w F h o r) (hF : ∀ b, F b → F' b) {v : Value} {A : List Int} (hV : VwD w F' h v A) : RowD (w.setCell ⟨h, o + 3, none⟩ v) F' h o ⟨r.A, r.n, r.ph, A⟩ := by
  obtain ⟨e, t, f⟩ := hr.off 3 v
  obtain ⟨v0, k0, V0⟩ := hr.c0
  obtain ⟨v3, k3, V3⟩ := hr.c3
  exact ⟨⟨v0, (e 0 (by omega)).trans k0, V0.carry f hF⟩, (e 1 (by omega)).trans hr.c1, (e 2 (by omega)).trans hr.c2, ⟨v, World.cell?_setCell_same _ _ _ k3, hV.carry (fun b _ hb => heap_setCell_other _ _ _ _ hb) (fun _ h => h)⟩, t⟩
end
abbrev resD (a : At) : Obj := .cells #[.int .i64 a.b, .int .i64 a.n, .int .i64 a.s] 43
abbrev setD (w : World) (k : Nat) (a : At) : World := ((w.setCell ⟨k, 0, none⟩ (.int .i64 a.b)).setCell ⟨k, 1, none⟩ (.int .i64 a.n)).setCell ⟨k, 2, none⟩ (.int .i64 a.s)
theorem setD_fr (w : World) (k : Nat) (a : At) : FrS (· = k) w (setD w k a) :=
  FrS.setCell (F := (· = k)) (q := ⟨k, 2, none⟩) (FrS.setCell (F := (· = k)) (q := ⟨k, 1, none⟩) (FrS.setCell (F := (· = k)) (q := ⟨k, 0, none⟩) (FrS.refl _ w) (.inl rfl) _) (.inl rfl) _) (.inl rfl) _
theorem RdIs.res {w w4 : World} {q h N M : Nat} {L : List Rq} {F F0 : Nat → Prop} (hr : RdIs w4 q h N M L F) (hs : Step F0 F w w4) (hq : q < w.heap.size) (hn : ¬ F w.heap.size) (a : At) : RdIs (setD w4 w.heap.size a) q h N M L F ∧ Step F0 F w (setD w4 w.heap.size a) := by
  have hf := setD_fr w4 w.heap.size a
  refine ⟨hr.fr hf (by omega) (fun b hb e => hn (e ▸ hb)), hs.fr.trans hf (fun i hi => .inr (by omega)), hs.new⟩
set_option maxHeartbeats 1000000 in
theorem dBegin_c (q h N M : Nat) (L : List Rq) (F : Nat → Prop) (j : Nat) (w : World) (hr : RdIs w q h N M L F) (hj : j < L.length) (r : Rq) (hrj : L[j] = r) (hM : M ≤ 100000) (a : At) (ha : Hid (atBQ j r = a)) (ok : Bool) (hok : Hid (okBQ r = ok)) : Calls Tryd.prog 66 #[ptr q, .int .i64 j] w fun e w' => e = .returned (.tuple #[.agg #[.int .i64 a.b, .int .i64 a.n, .int .i64 a.s], .bool ok]) ∧ RdIs w' q h N M (L.set j (nxBQ r)) F ∧ Step F F w w' := by
  have hH := hide hr
  have c1 := hr.c1
  have hql := hr.ql
  have hhl := hr.hl
  have hI := hr.inv.get hj
  have hrow := hr.rows j hj
  rw [hrj] at hrow hI
  obtain ⟨v0, k0, hV0⟩ := hrow.c0
  obtain ⟨ao, cap, rfl⟩ := hV0.val
  obtain ⟨v3, k3, hV3⟩ := hrow.c3
  obtain ⟨ao3, cap3, rfl⟩ := hV3.val
  have k1 := hrow.c1
  have k2 := hrow.c2
  have f1 := (hrow.th 1 (by omega)).2
  have f2 := (hrow.th 2 (by omega)).2
  have hj' : (j : Int) < L.length := by omega
  have hle := hI.le
  have hal := hI.al
  have hrs : L.set j r = L := by rw [← hrj]; exact List.set_getElem_self hj
  have ha' := ha.out
  have hok' := hok.out
  unfold atBQ at ha'
  unfold okBQ at hok'
  by_cases c : r.ph = 0 ∧ r.n < r.A.length
  · rw [if_pos c] at ha'
    obtain rfl : ok = true := by rw [← hok']; simp [c]
    have hnx : nxBQ r = ⟨r.A, r.n + 1, 1, r.kn⟩ := by unfold nxBQ; rw [if_pos c]
    rw [hnx]
    obtain ⟨nA, hnA⟩ : ∃ nA, r.A.length = nA := ⟨_, rfl⟩
    obtain ⟨nK, hnK⟩ : ∃ nK, r.kn.length = nK := ⟨_, rfl⟩
    obtain ⟨n, hn⟩ : ∃ n, r.n = n := ⟨_, rfl⟩
    rw [hnA] at k0 hal
    rw [hnK] at k3
    rw [hn] at k1
    rw [c.1] at k2
    have hlt : (n : Int) < nA := by rw [← hn, ← hnA]; omega
    have hw1 : IntKind.i64.wrap ((n : Int) + 1) = (n : Int) + 1 := by rw [IntKind.wrap_i64]; omega
    have hqh : ¬ q = h := fun e => hr.fq (e ▸ hr.fh)
    have hqh' : ¬ h = q := fun e => hqh e.symm
    have hrow2 := (hrow.set1 (n + 1)).set2 1
    have hg2 : RG h (j * 4) w ((w.setCell ⟨h, j * 4 + 1, none⟩ (.int .i64 ((n + 1 : Nat) : Int))).setCell ⟨h, j * 4 + 2, none⟩ (.int .i64 1)) := ((RG.refl h (j * 4) w).setCell (by omega) (by omega) _).setCell (by omega) (by omega) _
    have hI2 := hI.next
    rw [hnx, hn] at hI2
    have hput := hr.put hj hrow2 hg2 (fun _ h => h) (fun _ h => .inl h) hI2 (Nat.le_refl _)
    rw [show ((n + 1 : Nat) : Int) = (n : Int) + 1 by omega] at hput
    obtain ⟨W5, hW5⟩ : ∃ W5, (w.setCell ⟨h, j * 4 + 1, none⟩ (.int .i64 ((n : Int) + 1))).setCell ⟨h, j * 4 + 2, none⟩ (.int .i64 1) = W5 := ⟨_, rfl⟩
    rw [hW5] at hput
    obtain ⟨ln, hln⟩ : ∃ ln, Hid (lastNQ ⟨r.A, n + 1, 1, r.kn⟩ = ln) := ⟨_, rfl⟩
    have hla : ln = r.A.getD r.n 0 := by rw [← hln.out, ← hn]; unfold lastNQ; rw [if_neg (by simp)]; simp
    rw [← hla, hn] at ha'
    subst ha'
    have hset : (L.set j ⟨r.A, n + 1, 1, r.kn⟩)[j]'(by rw [List.length_set]; exact hj) = ⟨r.A, n + 1, 1, r.kn⟩ := by simp
    rw [hn]
    replace hput := hide hput
    replace hset := hide hset
    replace hnA := hide hnA
    replace hnK := hide hnK
    replace hn := hide hn
    replace hla := hide hla
    replace hW5 := hide hW5
    clear hrow2 hg2 hI2 hnx hok' c hV0 hV3 hrow hI hle hr hrs
    go_enter Tryd.func66, Tryd.ntmps66
    go_wp2_with fail
    refine wp_region_noPanic ?_
    refine last_begin 10 (fun w' => w'.cell? ⟨q, 1, none⟩ = some (slD h L.length) ∧ w'.cell? ⟨w.heap.size + 1, 1, none⟩ = some (.int .i64 n)) (by kernel_rfl) ?_ fun hHeld => ?_
    · exact ⟨by simp [go_sem, *], by simp [go_sem, *]⟩
    refine lTk 0 26 hHeld ?_
    refine lTk 1 27 hHeld ?_
    refine lTk 2 28 hHeld ?_
    refine lTk 3 29 hHeld ?_
    refine lTk 4 30 hHeld ?_
    refine lTk 5 31 hHeld ?_
    refine lTk 6 32 hHeld ?_
    refine lTk 7 33 hHeld ?_
    refine lNo 8 fun K hK => ?_
    go_simp
    refine hK.out _ _ (fun _ => ?_) fun hHeld0 => ?_
    · exact hHeld
    clear hK K
    replace hHeld := hHeld0 (by decide)
    clear hHeld0
    try simp only [Act.put, za, zb, zc]
    refine lTk 9 35 hHeld ?_
    refine lNo 10 fun K hK => ?_
    go_simp
    refine hK.out _ _ (fun h => absurd rfl h) fun _ => ?_
    clear hK K
    try simp only [Act.put, za, zb, zc]
    refine last_done (by kernel_rfl) (NoPanic.normal ?_) _
    clear hHeld
    go_wp2_with fail
    rw [hW5.out]
    obtain ⟨U, hU⟩ : ∃ U, ((W5.alloc (resD at0)).alloc (.cells #[.slice ao nA cap, .int .i64 n, .int .i64 0, .slice ao3 nK cap3] 91)).drew = U := ⟨_, rfl⟩
    have hs5 : W5.heap.size = w.heap.size := by rw [← hW5.out]; simp
    have hBU : Below W5.heap.size W5 U := by rw [← hU]; exact (((Below.refl _ _).alloc (Nat.le_refl _) _).alloc (by simp) _).drew
    have hrU : U.heap[w.heap.size]? = some (resD at0) := by rw [← hU, ← hs5]; exact (Below.heap_alloc _ _ _ (by simp)).trans (heap_alloc_new W5 _)
    have hRU := hide (hput.out.1.below hBU)
    have hSU := hide (hput.out.2.trans (Step.of_below (F := F) hBU))
    rw [hU]
    replace hrU := hide hrU
    clear hU hBU hs5 hW5 k0 k1 k2 k3 f1 f2 c1 hput
    go_at_call 41
    refine (dLast_c q h N M _ F j U hRU.out (by rw [List.length_set]; exact hj) _ hset.out (by simp) hM ln hln (n + 1) (hide rfl)).mono ?_
    rintro e w7 ⟨rfl, hb7⟩
    have hb8 : w7.heap[w.heap.size]? = some (resD at0) := (hb7.block _ (Array.getElem?_eq_some_iff.1 hrU.out).1).trans hrU.out
    have z0 : w7.cell? ⟨w.heap.size, 0, none⟩ = some (.int .i64 0) := cell_of_row _ _ _ _ _ _ hb8
    have z1 : w7.cell? ⟨w.heap.size, 1, none⟩ = some (.int .i64 0) := cell_of_row _ _ _ _ _ _ hb8
    have z2 : w7.cell? ⟨w.heap.size, 2, none⟩ = some (.int .i64 0) := cell_of_row _ _ _ _ _ _ hb8
    have x0 : w7.frozen? ⟨w.heap.size, 0, none⟩ = false := frozen_of_row _ _ _ _ _ hb8
    have x1 : w7.frozen? ⟨w.heap.size, 1, none⟩ = false := frozen_of_row _ _ _ _ _ hb8
    have x2 : w7.frozen? ⟨w.heap.size, 2, none⟩ = false := frozen_of_row _ _ _ _ _ hb8
    have hfin := hide ((hRU.out.below hb7).res (hSU.out.trans (Step.of_below (F := F) hb7)) hql (fun e => by have := hH.out.lt _ e; omega) ⟨j, ln, n + 1⟩)
    clear hb7 hb8 hRU hSU
    go_wp2_with fail
    refine bodyPost_ret (by simp [results, Tryd.results66, go_sem, *]; done) rfl ⟨rfl, ?_⟩
    exact hfin.out
  · obtain rfl : ok = false := by rw [← hok']; exact decide_eq_false c
    rw [if_neg c] at ha'
    subst ha'
    have hnx : nxBQ r = r := by unfold nxBQ; rw [if_neg c]
    rw [hnx, hrs]
    obtain ⟨nA, hnA⟩ : ∃ nA, r.A.length = nA := ⟨_, rfl⟩
    rw [hnA] at k0 c
    generalize r.kn.length = nK at k3
    generalize r.n = n at k1 c
    generalize r.ph = ph at k2 c
    have hB : Hid (Below w.heap.size w ((w.alloc (resD at0)).alloc (.cells #[.slice ao nA cap, .int .i64 n, .int .i64 ph, .slice ao3 nK cap3] 91))) := hide (((Below.refl _ _).alloc (Nat.le_refl _) _).alloc (by simp) _)
    have hfin := hide ((unhide hH).below hB.out)
    by_cases c0 : ph = 0
    · subst c0
      have c2 : ¬ (n : Int) < nA := by omega
      clear hnx hok' c hV0 hV3 hrow hI hle hr hrs hal hnA
      go_enter Tryd.func66, Tryd.ntmps66
      go_wp2_with fail
      refine bodyPost_ret (by simp [results, Tryd.results66, go_sem, *]; done) rfl ⟨rfl, ?_⟩
      exact ⟨hfin.out, Step.of_below hB.out⟩
    · have c0' : decide (ph = 0) = false ∧ (ph == 0) = false ∧ (ph != 0) = true := ⟨by simpa using c0, by simpa using c0, by simpa using c0⟩
      clear hnx hok' c hV0 hV3 hrow hI hle hr hrs hal hnA
      replace c0 := hide c0
      go_enter Tryd.func66, Tryd.ntmps66
      go_wp2_with fail
      refine bodyPost_ret (by simp [results, Tryd.results66, go_sem, *]; done) rfl ⟨rfl, ?_⟩
      exact ⟨hfin.out, Step.of_below hB.out⟩
set_option maxHeartbeats 1000000 in
theorem dCur_c (q h N M : Nat) (L : List Rq) (F : Nat → Prop) (x : Int) (w : World) (hr : RdIs w q h N M L F) (hM : M ≤ 100000) (a : At) (ha : Hid (atCur L x = a)) (ok : Bool) (hok : Hid (okCur L x = ok)) : Calls Tryd.prog 16 #[ptr q, .int .i64 x] w fun e w' => e = .returned (.tuple #[.agg #[.int .i64 a.b, .int .i64 a.n, .int .i64 a.s], .bool ok]) ∧ Below w.heap.size w w' := by
  have hH := hide hr
  have c1 := hr.c1
  have hql := hr.ql
  have hhl := hr.hl
  obtain ⟨b, hb⟩ : ∃ b, Hid (hasQ L.length x = b) := ⟨_, rfl⟩
  have ha' := ha.out
  have hok' := hok.out
  unfold atCur at ha'
  unfold okCur at hok'
  rw [hb.out] at ha' hok'
  cases b with
  | false =>
    obtain rfl : ok = false := by rw [← hok']; rfl
    obtain rfl : a = at0 := by rw [← ha']; rfl
    clear ha' hok' hr
    go_enter Tryd.func16, Tryd.ntmps16
    go_wp2_with fail
    go_at_call 40
    refine (dBlock_c q h N M L F x _ (hH.out.alloc _) false hb).mono ?_
    rintro e w' ⟨rfl, hw'⟩
    rw [hw']
    clear hw' w'
    go_wp2_with fail
    refine bodyPost_ret (by simp [results, Tryd.results16, go_sem, *]; done) rfl ⟨rfl, ?_⟩
    all_goals exact belEnd
  | true =>
    obtain ⟨j, rfl, hj⟩ := hasQ_iff.1 hb.out
    have hrow := hr.rows j hj
    have hI := hr.inv.get hj
    rw [getQ_at hj] at ha' hok'
    obtain ⟨r, hrj⟩ : ∃ r, L[j] = r := ⟨_, rfl⟩
    rw [hrj] at hrow ha' hok' hI
    have k2 := hrow.c2
    have hj' : (j : Int) < L.length := by omega
    by_cases c : r.ph = 1
    · obtain rfl : ok = true := by rw [← hok']; simp [okCQ, c]
      obtain ⟨ln, hln⟩ : ∃ ln, Hid (lastNQ r = ln) := ⟨_, rfl⟩
      obtain ⟨n, hn⟩ : ∃ n, Hid (r.n = n) := ⟨_, rfl⟩
      obtain rfl : a = ⟨j, ln, n⟩ := by rw [← ha', ← hln.out, ← hn.out]; simp [atCQ, c]
      have hn1 : 1 ≤ r.n := hI.on (by rw [c]; decide)
      rw [c] at k2
      replace hrj := hide hrj
      clear ha' hok' hrow hI c hr
      go_enter Tryd.func16, Tryd.ntmps16
      go_wp2_with fail
      go_at_call 40
      refine (dBlock_c q h N M L F j _ (hH.out.alloc _) true hb).mono ?_
      rintro e w' ⟨rfl, hw'⟩
      rw [hw']
      clear hw' w'
      go_wp2_with fail
      go_at_call 41
      refine (dLast_c q h N M L F j _ (hH.out.alloc _) hj r hrj.out hn1 hM ln hln n hn).mono ?_
      rintro e w7 ⟨rfl, hb7⟩
      have hb8 : w7.heap[w.heap.size]? = some (resD at0) := (hb7.block _ (by simp)).trans (heap_alloc_new w _)
      have z0 : w7.cell? ⟨w.heap.size, 0, none⟩ = some (.int .i64 0) := cell_of_row _ _ _ _ _ _ hb8
      have z1 : w7.cell? ⟨w.heap.size, 1, none⟩ = some (.int .i64 0) := cell_of_row _ _ _ _ _ _ hb8
      have z2 : w7.cell? ⟨w.heap.size, 2, none⟩ = some (.int .i64 0) := cell_of_row _ _ _ _ _ _ hb8
      have x0 : w7.frozen? ⟨w.heap.size, 0, none⟩ = false := frozen_of_row _ _ _ _ _ hb8
      have x1 : w7.frozen? ⟨w.heap.size, 1, none⟩ = false := frozen_of_row _ _ _ _ _ hb8
      have x2 : w7.frozen? ⟨w.heap.size, 2, none⟩ = false := frozen_of_row _ _ _ _ _ hb8
      have hfin : Hid (Below w.heap.size w (setD w7 w.heap.size ⟨j, ln, n⟩)) := hide (((((((Below.refl _ _).alloc (Nat.le_refl _) _).trans (hb7.mono (by simp))).setCell (Nat.le_refl _) _).setCell (Nat.le_refl _) _).setCell (Nat.le_refl _) _))
      clear hb7 hb8
      go_wp2_with fail
      refine bodyPost_ret (by simp [results, Tryd.results16, go_sem, *]; done) rfl ⟨rfl, ?_⟩
      exact hfin.out
    · obtain rfl : ok = false := by rw [← hok']; simp [okCQ, c]
      obtain rfl : a = at0 := by rw [← ha']; simp [atCQ, c]
      generalize r.ph = ph at k2 c
      have c' : decide (ph = 1) = false ∧ (ph == 1) = false ∧ (ph != 1) = true := ⟨by simpa using c, by simpa using c, by simpa using c⟩
      replace hrj := hide hrj
      replace c := hide c
      clear ha' hok' hrow hI hr
      go_enter Tryd.func16, Tryd.ntmps16
      go_wp2_with fail
      go_at_call 40
      refine (dBlock_c q h N M L F j _ (hH.out.alloc _) true hb).mono ?_
      rintro e w' ⟨rfl, hw'⟩
      rw [hw']
      clear hw' w'
      go_wp2_with fail
      refine bodyPost_ret (by simp [results, Tryd.results16, go_sem, *]; done) rfl ⟨rfl, ?_⟩
      all_goals exact belEnd
set_option maxHeartbeats 1000000 in
theorem dDone_c (q h N M : Nat) (L : List Rq) (F : Nat → Prop) (x s : Int) (w : World) (hr : RdIs w q h N M L F) (ok : Bool) (hok : Hid (okDone L x s = ok)) : Calls Tryd.prog 36 #[ptr q, .int .i64 x, .int .i64 s] w fun e w' => e = .returned (.bool ok) ∧ RdIs w' q h N M (nxDone L x s) F ∧ Step F F w w' := by
  have hH := hide hr
  have c1 := hr.c1
  have hql := hr.ql
  have hhl := hr.hl
  have hqh : ¬ q = h := fun e => hr.fq (e ▸ hr.fh)
  have hqh' : ¬ h = q := fun e => hqh e.symm
  obtain ⟨b, hb⟩ : ∃ b, Hid (hasQ L.length x = b) := ⟨_, rfl⟩
  have hok' := hok.out
  unfold okDone at hok'
  rw [hb.out] at hok'
  obtain ⟨L', hL'⟩ : ∃ L', nxDone L x s = L' := ⟨_, rfl⟩
  rw [hL']
  unfold nxDone at hL'
  rw [hb.out] at hL'
  cases b with
  | false =>
    obtain rfl : ok = false := by rw [← hok']; rfl
    obtain rfl : L = L' := by rw [← hL']; rfl
    clear hL' hok' hr
    go_enter Tryd.func36, Tryd.ntmps36
    go_wp2_with fail
    go_at_call 40
    refine (dBlock_c q h N M L F x _ hH.out false hb).mono ?_
    rintro e w' ⟨rfl, hw'⟩
    rw [hw']
    clear hw' w'
    go_wp2_with fail
    go_ret
    exact ⟨rfl, hH.out, Step.refl _ _⟩
  | true =>
    obtain ⟨j, rfl, hj⟩ := hasQ_iff.1 hb.out
    have hrow := hr.rows j hj
    have hI := hr.inv.get hj
    rw [getQ_at hj, Bool.true_and] at hok'
    rw [if_pos rfl, getQ_at hj, Int.toNat_natCast] at hL'
    obtain ⟨r, hrj⟩ : ∃ r, L[j] = r := ⟨_, rfl⟩
    have hrs : L.set j r = L := by rw [← hrj]; exact List.set_getElem_self hj
    rw [hrj] at hrow hok' hL' hI
    have k1 := hrow.c1
    have k2 := hrow.c2
    obtain ⟨v3, k3, hV3⟩ := hrow.c3
    obtain ⟨ao3, cap3, rfl⟩ := hV3.val
    have f2 := (hrow.th 2 (by omega)).2
    have f3 := (hrow.th 3 (by omega)).2
    have hj' : (j : Int) < L.length := by omega
    generalize r.kn.length = nK at k3
    by_cases c : r.ph = 1
    · by_cases d : (r.n : Int) = s
      · obtain rfl : ok = true := by rw [← hok']; simp [okDQ, c, d]
        have hdq : dnQ r s = ⟨r.A, r.n, 2, []⟩ := by unfold dnQ; rw [if_pos ⟨c, d⟩]
        rw [hdq] at hL'
        have hrow2 := ((hrow.set2 2).set3 (F' := F) (fun _ h => h) (v := .slice none 0 0) (A := []) ⟨0, view_nil _ _, fun e => absurd rfl e⟩)
        have hg2 : RG h (j * 4) w ((w.setCell ⟨h, j * 4 + 2, none⟩ (.int .i64 2)).setCell ⟨h, j * 4 + 3, none⟩ (.slice none 0 0)) := ((RG.refl h (j * 4) w).setCell (by omega) (by omega) _).setCell (by omega) (by omega) _
        have hI2 := hI.done s
        rw [hdq] at hI2
        have hput := hide (hr.put hj hrow2 hg2 (fun _ h => h) (fun _ h => .inl h) hI2 (Nat.le_refl _))
        rw [hL'] at hput
        rw [c] at k2
        subst d
        generalize r.n = n at k1
        clear hrow2 hg2 hI2 hdq hL' hok' hrow hI hV3 hrs hr c
        replace hrj := hide hrj
        go_enter Tryd.func36, Tryd.ntmps36
        go_wp2_with fail
        go_at_call 40
        refine (dBlock_c q h N M L F j _ hH.out true hb).mono ?_
        rintro e w' ⟨rfl, hw'⟩
        rw [hw']
        clear hw' w'
        go_wp2_with fail
        go_ret
        exact ⟨rfl, hput.out⟩
      · obtain rfl : ok = false := by rw [← hok']; simp [okDQ, d]
        have hdq : dnQ r s = r := by unfold dnQ; rw [if_neg (fun e => d e.2)]
        rw [hdq, hrs] at hL'
        subst hL'
        rw [c] at k2
        generalize r.n = n at k1 d
        have d' : decide ((n : Int) = s) = false ∧ ((n : Int) == s) = false ∧ ((n : Int) != s) = true := ⟨by simpa using d, by simpa using d, by simpa using d⟩
        clear hdq hok' hrow hI hV3 hrs hr c
        replace hrj := hide hrj
        replace d := hide d
        go_enter Tryd.func36, Tryd.ntmps36
        go_wp2_with fail
        go_at_call 40
        refine (dBlock_c q h N M L F j _ hH.out true hb).mono ?_
        rintro e w' ⟨rfl, hw'⟩
        rw [hw']
        clear hw' w'
        go_wp2_with fail
        go_ret
        exact ⟨rfl, hH.out, Step.refl _ _⟩
    · obtain rfl : ok = false := by rw [← hok']; simp [okDQ, c]
      have hdq : dnQ r s = r := by unfold dnQ; rw [if_neg (fun e => c e.1)]
      rw [hdq, hrs] at hL'
      subst hL'
      generalize r.ph = ph at k2 c
      have c' : decide (ph = 1) = false ∧ (ph == 1) = false ∧ (ph != 1) = true := ⟨by simpa using c, by simpa using c, by simpa using c⟩
      clear hdq hok' hrow hI hV3 hrs hr
      replace hrj := hide hrj
      replace c := hide c
      go_enter Tryd.func36, Tryd.ntmps36
      go_wp2_with fail
      go_at_call 40
      refine (dBlock_c q h N M L F j _ hH.out true hb).mono ?_
      rintro e w' ⟨rfl, hw'⟩
      rw [hw']
      clear hw' w'
      go_wp2_with fail
      go_ret
      exact ⟨rfl, hH.out, Step.refl _ _⟩
def zcD : List Value := [.slice none 0 0, .int .i64 0, .int .i64 0, .slice none 0 0]
theorem infoRow : (Tryd.prog.info? 91).map (fun i => (i.zero, i.size, i.bytes)) = some (some (.agg zcD.toArray), 4, 64) := by kernel_rfl
theorem rowD_made {w : World} {F : Nat → Prop} {g k : Nat} {C : Array Value} {ty : TypeId} (hb : w.heap[g]? = some (.cells C ty (0, 0))) (hC : ∀ c, c < 4 → C[k * 4 + c]? = zcD[c]?) : RowD w F g (k * 4) rq0 := by
  have hc : ∀ c, c < 4 → w.cell? ⟨g, k * 4 + c, none⟩ = zcD[c]? := fun c h => (cell_of_row _ _ _ _ _ _ hb).trans (hC c h)
  refine ⟨⟨.slice none 0 0, hc 0 (by omega), 0, view_nil _ _, fun e => absurd rfl e⟩, hc 1 (by omega), hc 2 (by omega), ⟨.slice none 0 0, hc 3 (by omega), 0, view_nil _ _, fun e => absurd rfl e⟩, fun j hj => ⟨?_, frozen_of_row _ _ _ _ _ hb⟩⟩
  rw [hc j hj, List.getElem?_eq_getElem (by exact hj)]
  rfl
theorem madeD_at (n k c : Nat) (hk : k < n) (hc : c < 4) : (madeCells (Value.agg zcD.toArray).cells (n * 4))[k * 4 + c]? = zcD[c]? := by
  have hl : zcD.length = 4 := rfl
  simp only [madeCells, Value.cells]
  rw [Array.getElem?_map, Array.getElem?_range, if_pos (by omega)]
  simp only [Option.map_some, List.size_toArray, hl]
  rw [show (k * 4 + c) % 4 = c by omega, List.getElem?_eq_getElem (by omega)]
  simp [hl, hc]
section
variable {w : World} {ops : Array Oper} {rest : List Oper} {o : Oper} {a : Act} {Q : Exit → Act → World → Prop}
theorem wpList_makeD (hg : o.guard = none) (l c : Operand) (hop : o.op = Op.makeSlice 92 l c) (n : Nat) (hl : a.eval l = .int .i64 (n : Int)) (hc : a.eval c = .int .i64 (n : Int)) (hn : n ≤ 64)
    (hK : ∀ w', (∀ k F, k < n → RowD w' F w.heap.size (k * 4) rq0) → Below w.heap.size w w' → w'.heap.size = w.heap.size + 1 → wpList Tryd.prog ops Q rest (a.put o.dst (slD w.heap.size n)) w') : wpList Tryd.prog ops Q (o :: rest) a w := by
  refine wpList_plain hg fun K hK' => ?_
  obtain ⟨i, hi, hz0, hz1, hz2⟩ := info_parts infoRow
  have hrun := run_make (P := Tryd.prog) w 92 _ i _ Tryd.underlying92 hi hz0 .i64 .i64 n n (by omega) (Int.le_refl _) (by rw [hz2]; omega) (by omega)
  simp only [Int.toNat_natCast, hz1] at hrun
  unfold Oper.wp
  simp [execOp, hop, hl, hc, hrun, Result.andThen]
  exact hK' _ _ (hK _ (fun k F hk => rowD_made (heap_alloc_new w _) (fun c h => madeD_at n k c hk h)) ((Below.refl _ _).alloc (Nat.le_refl _) _) (by simp))
end
def szN (x : Int) : Nat := if x < 0 then 0 else if 64 < x then 64 else x.toNat
set_option maxHeartbeats 1000000 in
theorem dNew_c (s t : Int) (w : World) (K n : Nat) (hK : Hid (szN s = K)) (hn : Hid (szN t = n)) : Calls Tryd.prog 52 #[.int .i64 s, .int .i64 t] w fun e w' => ∃ q, e = .returned (ptr q) ∧ ∃ h F, RdIs w' q h K 0 (List.replicate n rq0) F ∧ (∀ b, F b → w.heap.size ≤ b) ∧ w.heap.size ≤ q ∧ Below w.heap.size w w' := by
  have hn64 : n ≤ 64 := by rw [← hn.out]; unfold szN; split; omega; split <;> omega
  have hK64 : K ≤ 64 := by rw [← hK.out]; unfold szN; split; omega; split <;> omega
  have cs : (s < 0 ∧ K = 0) ∨ (64 < s ∧ ¬ s < 0 ∧ K = 64) ∨ (¬ s < 0 ∧ ¬ 64 < s ∧ s = K) := by have := hK.out; unfold szN at this; split at this; omega; split at this <;> omega
  have ct : (t < 0 ∧ n = 0) ∨ (64 < t ∧ ¬ t < 0 ∧ n = 64) ∨ (¬ t < 0 ∧ ¬ 64 < t ∧ t = n) := by have := hn.out; unfold szN at this; split at this; omega; split at this <;> omega
  have fin : ∀ w1 : World, (∀ k F, k < n → RowD w1 F w.heap.size (k * 4) rq0) → Below w.heap.size w w1 → w1.heap.size = w.heap.size + 1 → RdIs (w1.alloc (.cells #[.int .i64 K, slD w.heap.size n] 94)) w1.heap.size w.heap.size K 0 (List.replicate n rq0) (· = w.heap.size) := fun w1 h1 h2 h3 => by
    refine ⟨hK64, by simpa using hn64, fun r hr => ?_, (cell_of_row _ _ _ _ _ _ (heap_alloc_new w1 _)).trans rfl, ?_, by simp, rfl, by omega, fun b hb => by simp; omega, fun k hk => ?_⟩
    · obtain rfl := List.eq_of_mem_replicate hr; exact (rinv0 K 0).pre
    · rw [List.length_replicate]; exact (cell_of_row _ _ _ _ _ _ (heap_alloc_new w1 _)).trans rfl
    · rw [List.getElem_replicate]
      have e := Below.heap_alloc w1 (.cells #[.int .i64 K, slD w.heap.size n] 94) w.heap.size (by omega)
      exact (h1 k (· = w.heap.size) (by simpa using hk)).keep (fun i _ => ⟨World.cell?_of_block (w := w1) e, World.frozen?_of_block (w := w1) e⟩) (fun b hb hne => absurd hb hne) (fun _ h => h)
  replace fin := hide fin
  rcases cs with ⟨c1, rfl⟩ | ⟨c1, c2, rfl⟩ | ⟨c1, c2, rfl⟩ <;> rcases ct with ⟨d1, rfl⟩ | ⟨d1, d2, rfl⟩ | ⟨d1, d2, rfl⟩
  · go_enter Tryd.func52, Tryd.ntmps52
    go_wp2_with (at_make; refine wpList_makeD rfl _ _ rfl 0 rfl rfl hn64 ?_; intro w1 hO1 hB1 hs1; have F1 := hide (fin.out w1 hO1 hB1 hs1); replace hB1 := hide hB1; clear hO1 hs1)
    go_ret
    exact ⟨_, rfl, _, _, F1.out, fun b hb => (by omega), hB1.out.size, hB1.out.alloc hB1.out.size _⟩
  · go_enter Tryd.func52, Tryd.ntmps52
    go_wp2_with (at_make; refine wpList_makeD rfl _ _ rfl 64 rfl rfl hn64 ?_; intro w1 hO1 hB1 hs1; have F1 := hide (fin.out w1 hO1 hB1 hs1); replace hB1 := hide hB1; clear hO1 hs1)
    go_ret
    exact ⟨_, rfl, _, _, F1.out, fun b hb => (by omega), hB1.out.size, hB1.out.alloc hB1.out.size _⟩
  · go_enter Tryd.func52, Tryd.ntmps52
    go_wp2_with (at_make; refine wpList_makeD rfl _ _ rfl n rfl rfl hn64 ?_; intro w1 hO1 hB1 hs1; have F1 := hide (fin.out w1 hO1 hB1 hs1); replace hB1 := hide hB1; clear hO1 hs1)
    go_ret
    exact ⟨_, rfl, _, _, F1.out, fun b hb => (by omega), hB1.out.size, hB1.out.alloc hB1.out.size _⟩
  · go_enter Tryd.func52, Tryd.ntmps52
    go_wp2_with (at_make; refine wpList_makeD rfl _ _ rfl 0 rfl rfl hn64 ?_; intro w1 hO1 hB1 hs1; have F1 := hide (fin.out w1 hO1 hB1 hs1); replace hB1 := hide hB1; clear hO1 hs1)
    go_ret
    exact ⟨_, rfl, _, _, F1.out, fun b hb => (by omega), hB1.out.size, hB1.out.alloc hB1.out.size _⟩
  · go_enter Tryd.func52, Tryd.ntmps52
    go_wp2_with (at_make; refine wpList_makeD rfl _ _ rfl 64 rfl rfl hn64 ?_; intro w1 hO1 hB1 hs1; have F1 := hide (fin.out w1 hO1 hB1 hs1); replace hB1 := hide hB1; clear hO1 hs1)
    go_ret
    exact ⟨_, rfl, _, _, F1.out, fun b hb => (by omega), hB1.out.size, hB1.out.alloc hB1.out.size _⟩
  · go_enter Tryd.func52, Tryd.ntmps52
    go_wp2_with (at_make; refine wpList_makeD rfl _ _ rfl n rfl rfl hn64 ?_; intro w1 hO1 hB1 hs1; have F1 := hide (fin.out w1 hO1 hB1 hs1); replace hB1 := hide hB1; clear hO1 hs1)
    go_ret
    exact ⟨_, rfl, _, _, F1.out, fun b hb => (by omega), hB1.out.size, hB1.out.alloc hB1.out.size _⟩
  · go_enter Tryd.func52, Tryd.ntmps52
    go_wp2_with (at_make; refine wpList_makeD rfl _ _ rfl 0 rfl rfl hn64 ?_; intro w1 hO1 hB1 hs1; have F1 := hide (fin.out w1 hO1 hB1 hs1); replace hB1 := hide hB1; clear hO1 hs1)
    go_ret
    exact ⟨_, rfl, _, _, F1.out, fun b hb => (by omega), hB1.out.size, hB1.out.alloc hB1.out.size _⟩
  · go_enter Tryd.func52, Tryd.ntmps52
    go_wp2_with (at_make; refine wpList_makeD rfl _ _ rfl 64 rfl rfl hn64 ?_; intro w1 hO1 hB1 hs1; have F1 := hide (fin.out w1 hO1 hB1 hs1); replace hB1 := hide hB1; clear hO1 hs1)
    go_ret
    exact ⟨_, rfl, _, _, F1.out, fun b hb => (by omega), hB1.out.size, hB1.out.alloc hB1.out.size _⟩
  · go_enter Tryd.func52, Tryd.ntmps52
    go_wp2_with (at_make; refine wpList_makeD rfl _ _ rfl n rfl rfl hn64 ?_; intro w1 hO1 hB1 hs1; have F1 := hide (fin.out w1 hO1 hB1 hs1); replace hB1 := hide hB1; clear hO1 hs1)
    go_ret
    exact ⟨_, rfl, _, _, F1.out, fun b hb => (by omega), hB1.out.size, hB1.out.alloc hB1.out.size _⟩
def cutV (ao : Option Addr) (m cap n : Nat) : Value := .slice (if cap = n then ao else ao.map (·.add (n * 1))) (m - n) (cap - n)
theorem exec_cutV {a : Act} {o : Oper} {w : World} (x y : Operand) (ho : o.op = .slice 53 x (some y) none none) {ao : Option Addr} {m cap n : Nat} (hx : a.eval x = .slice ao m cap) (hy : a.eval y = .int .i64 (n : Int)) (hn : n ≤ m) (hm : m ≤ cap) : (execOp a.eval o).run Tryd.prog w = .ok (.value (cutV ao m cap n)) w := by
  have hs : ∀ w, (sizeOf 3).run Tryd.prog w = .ok 1 w := fun w => by kernel_rfl
  have hb : ∀ w code, (Instr.sliceBound (.int .i64 (n : Int)) m code).run Tryd.prog w = .ok n w := fun w code => by
    have := run_sliceBound (P := Tryd.prog) w .i64 (n : Int) m code (by omega) (by omega)
    simpa using this
  unfold execOp
  simp only [ho, hx, hy, Option.map_some, Option.map_none, Sem.run_bind, Sem.run_pure, Result.andThen_ok]
  rw [run_sliceAt_slice w 53 _ _ _ _ Tryd.underlying53]
  simp only [Instr.slice, Instr.sliceBounds, Sem.run_bind, Sem.run_pure, Result.andThen_ok, run_underlying Tryd.underlying53, hb, hs, Option.isSome_none, Bool.false_eq_true, if_false]
  rfl
theorem View.cut {w : World} {ao : Option Addr} {m cap b n : Nat} {A : List Int} (h : View w (.slice ao m cap) b A) (hn : n ≤ m) : View w (cutV ao m cap n) b (A.drop n) := by
  obtain ⟨ao', cap', e, h1, h2, h3⟩ := h
  cases e
  refine ⟨_, cap - n, by unfold cutV; rw [List.length_drop], by rw [List.length_drop]; omega, by omega, ?_⟩
  by_cases hz : A.drop n = []
  · exact .inl hz
  · have hlt : n < A.length := by
      apply Classical.byContradiction
      intro hc
      exact hz (List.drop_eq_nil_of_le (by omega))
    rcases h3 with rfl | ⟨o, rfl, h4, h5⟩
    · simp at hlt
    · refine .inr ⟨o + n, ?_, h4, fun j hj => ?_⟩
      · rw [if_neg (by omega), Option.map_some, Addr.add_lit, Nat.mul_one]
      · rw [List.length_drop] at hj
        have := h5 (n + j) (by omega)
        rw [← Nat.add_assoc] at this
        rw [this]
        simp [ints]
theorem own_emptyKJ {w : World} {k : Nat} (hk : w.heap.size = k) (o : Obj) : Own (w.alloc o) (.slice (some ⟨k, 0, none⟩) 0 0) k [] := hk ▸ own_empty w o
set_option maxHeartbeats 2000000 in
theorem dWait_c (q h N M : Nat) (L : List Rq) (F : Nat → Prop) (x : Int) (w : World) (hr : RdIs w q h N M L F) (hM : M ≤ 100000) : Calls Tryd.prog 21 #[ptr q, .int .i64 x] w fun e w' => ∃ v, e = .returned v ∧ ∃ b, View w' v b (wtsQ L x) ∧ Below w.heap.size w w' := by
  have hH := hide hr
  have c1 := hr.c1
  have hql := hr.ql
  have hhl := hr.hl
  obtain ⟨b, hb⟩ : ∃ b, Hid (hasQ L.length x = b) := ⟨_, rfl⟩
  obtain ⟨T, hT⟩ : ∃ T, Hid (wtsQ L x = T) := ⟨_, rfl⟩
  have hT' := hT.out
  unfold wtsQ at hT'
  rw [hb.out] at hT'
  rw [hT.out]
  cases b with
  | false =>
    obtain rfl : T = [] := by rw [← hT']; rfl
    clear hT' hr
    go_enter Tryd.func21, Tryd.ntmps21
    go_wp2_with fail
    go_at_call 40
    refine (dBlock_c q h N M L F x _ hH.out false hb).mono ?_
    rintro e w' ⟨rfl, hw'⟩
    rw [hw']
    clear hw' w'
    go_wp2_with fail
    go_ret
    exact ⟨_, rfl, 0, view_nil _ _, Below.refl _ _⟩
  | true =>
    obtain ⟨j, rfl, hj⟩ := hasQ_iff.1 hb.out
    have hrow := hr.rows j hj
    have hI := hr.inv.get hj
    rw [if_pos rfl, getQ_at hj] at hT'
    obtain ⟨r, hrj⟩ : ∃ r, L[j] = r := ⟨_, rfl⟩
    rw [hrj] at hrow hI hT'
    obtain ⟨v0, k0, b0, hVw, -⟩ := hrow.c0
    obtain ⟨ao, cap, rfl, hlc, hmx, hcs⟩ := hVw
    have k1 := hrow.c1
    have hle := hI.le
    have hal := hI.al
    unfold wtQ at hT'
    have hTl : T.length = r.A.length - r.n := by rw [← hT', List.length_drop]
    obtain ⟨nA, hnA⟩ : ∃ nA, r.A.length = nA := ⟨_, rfl⟩
    obtain ⟨n, hn⟩ : ∃ n, r.n = n := ⟨_, rfl⟩
    rw [hnA] at k0 hle hal hTl hlc
    rw [hn] at k1 hle hTl hT'
    have hj' : (j : Int) < L.length := by omega
    have hle' : (n : Int) ≤ nA := by omega
    have hcut := hide (View.cut (w := w) (b := b0) (n := n) (A := r.A) ⟨ao, cap, by rw [hnA], by rw [hnA]; exact hlc, hmx, hcs⟩ hle)
    rw [hT'] at hcut
    have hl1 : Hid (([] : List Int).length + T.length ≤ 1000000) := hide (by rw [hTl]; simp; omega)
    have hl2 : Hid (([] : List Int).length + T.length = nA - n) := hide (by rw [hTl]; simp)
    replace hTl := hide hTl
    replace hrj := hide hrj
    clear hrow hI hr hcs hmx hnA hn hT'
    go_enter Tryd.func21, Tryd.ntmps21
    go_wp2_with fail
    go_at_call 40
    refine (dBlock_c q h N M L F j _ hH.out true hb).mono ?_
    rintro e w' ⟨rfl, hw'⟩
    rw [hw']
    clear hw' w'
    go_wp2_with fail
    refine wp_region_noPanic ?_
    refine wp_region_held_drew (S := (fun w' => Hid (Below w.heap.size w w') ∧ w'.cell? ⟨q, 1, none⟩ = some (slD h L.length) ∧ w'.cell? ⟨h, j * 4, none⟩ = some (.slice ao nA cap) ∧ w'.cell? ⟨h, j * 4 + 1, none⟩ = some (.int .i64 n))) (by kernel_rfl) ?_ (fun hHeld => ?_)
    · exact ⟨hide (Below.refl _ _).drew, c1, k0, k1⟩
    refine hTk 1 10 hHeld ?_
    refine hTk 2 11 hHeld ?_
    refine hTk 3 12 hHeld ?_
    refine hTk 4 13 hHeld ?_
    refine hTk 5 14 hHeld ?_
    refine hTk 6 15 hHeld ?_
    refine hTk 7 16 hHeld ?_
    refine hTk 8 17 hHeld ?_
    refine hTk 9 18 hHeld ?_
    refine hTk 10 19 hHeld ?_
    refine hTk 11 20 hHeld ?_
    refine hTk 12 21 hHeld ?_
    refine hTk 13 22 hHeld ?_
    refine hTk 14 23 hHeld ?_
    refine hTk 15 24 hHeld ?_
    refine hTk 16 25 hHeld ?_
    refine hVl 17 26 (cutV ao nA cap n) hHeld (fun wz hSw => ?_) ?_
    · try dsimp only at hSw
      exact exec_cutV (.tmp 17) (.tmp 25) rfl rfl rfl hle hlc
    have hB1 : Below w.heap.size w (w.drew.alloc (.cells #[] 3)) := (Below.refl _ _).drew.alloc (Nat.le_refl _) _
    refine hNo 0 fun K hK => ?_
    go_simp
    refine hK.out _ _ ?_ fun hHeld => ?_
    · exact ⟨hide hB1, keep_cell (hB1.block q hql) c1, keep_cell (hB1.block h hhl) k0, keep_cell (hB1.block h hhl) k1⟩
    clear hK K
    try simp only [Act.put, za, zb, zc]
    refine hand_call (i := 18) rfl (by kernel_rfl) ?_
    intro oo ho
    simp at ho
    subst ho
    intro K hK
    refine wp_app (.tmp 9) (.tmp 26) rfl rfl rfl (own_emptyKJ (w := w.drew) (k := w.heap.size) rfl _) (hcut.out.below hB1) hl1.out (nA - n) hl2.out ?_
    intro ao2 cap2 w2 g2 hown hap
    rw [List.nil_append] at hown
    have hB2 : Below w.heap.size w w2 := hB1.trans (hap.fr.below (fun i hi => by rw [hi]; exact Nat.le_refl _) hB1.size)
    refine hK.out _ _ ?_ (fun hHeld => ?_)
    · exact ⟨hide hB2, keep_cell (hB2.block q hql) c1, keep_cell (hB2.block h hhl) k0, keep_cell (hB2.block h hhl) k1⟩
    clear hK K
    try simp only [Act.put, List.setIfInBounds_toArray, List.set_cons_zero, List.set_cons_succ]
    refine hTk 19 4 hHeld ?_
    refine wpAnyH_done (by kernel_rfl) (NoPanic.normal ?_) _
    clear hHeld
    replace hown := hide hown
    replace hB2 := hide hB2
    clear hap hB1 c1 k0 k1
    go_wp2_with fail
    go_ret
    exact ⟨_, rfl, g2, hown.out.view, hB2.out⟩
end Go.Proofs.YtmgjgeaigdiadaaDoor
