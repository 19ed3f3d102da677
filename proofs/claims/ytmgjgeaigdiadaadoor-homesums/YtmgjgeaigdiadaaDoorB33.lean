/- layer 16: RdB, put together. -/
import Derived.Test.YtmgjgeaigdiadaaDoorB24
namespace Go.Proofs.YtmgjgeaigdiadaaDoor
open Go.ChangeShapes Go.WideShapes Go.ChangeAt Go.RowKit
set_option linter.unusedSimpArgs false
set_option linter.unusedVariables false
set_option maxRecDepth 10000
attribute [local go_sem, local simp] over_const setCell_drewN alloc_drewN Over.cell Over.frozen lt_s1 lt_s2 lt_s3 le_s0 le_s1 le_s2 le_s3 eq_s0 eq_s1 eq_s2 qe_s0
theorem heldD {V w' : World} {q h o : Nat} {u v : Value} (hq : q < V.heap.size) (hh : h < V.heap.size) (hc : V.cell? ⟨q, 1, none⟩ = some u ∧ V.cell? ⟨h, o, none⟩ = some v) (hb : Below V.heap.size V w') :
    Hid (Below V.heap.size V w') ∧ w'.cell? ⟨q, 1, none⟩ = some u ∧ w'.cell? ⟨h, o, none⟩ = some v :=
  ⟨hide hb, keep_cell (hb.block q hq) hc.1, keep_cell (hb.block h hh) hc.2⟩
structure DMid (W wz : World) (ao : Option Addr) (n cap g gb : Nat) (A : List Int) (y : Int) : Prop where
  own : Own wz (.slice ao n cap) g A
  one : View wz (.slice (some ⟨gb, 0, none⟩) 1 1) gb [y]
  b : Below W.heap.size W wz
  lo : W.heap.size ≤ g
theorem appD_below {W wz w2 : World} {v v' : Value} {g g' : Nat} (hb : Below W.heap.size W wz) (hg : W.heap.size ≤ g) (hap : AppP wz w2 v v' g g') : Below W.heap.size W w2 ∧ W.heap.size ≤ g' := by
  refine ⟨hb.trans (hap.fr.below (fun i hi => by rw [hi]; exact hg) hb.size), ?_⟩
  rcases hap.lies with e | e
  · omega
  · have := hb.size; omega
theorem oneI_app {w wz : World} {v v' x : Value} {g g' gb : Nat} {y : Int} (h : View w x gb [y]) (hap : AppP w wz v v' g g') (hn : gb ≠ g) : View wz x gb [y] := h.fr hap.fr (fun _ => hn)
theorem own_emptyKI {w : World} {k : Nat} (hk : w.heap.size = k) (o : Obj) : Own (w.alloc o) (.slice (some ⟨k, 0, none⟩) 0 0) k [] := hk ▸ own_empty w o
theorem view_oneId (w : World) (y : Int) : View (w.alloc (.cells #[.int .i64 y] 3)) (.slice (some ⟨w.heap.size, 0, none⟩) 1 1) w.heap.size [y] :=
  ⟨_, 1, rfl, Nat.le_refl _, by simp [maxLen], .inr ⟨0, rfl, by simp, fun j hj => by
    obtain rfl : j = 0 := by simp at hj; exact hj
    rw [cell_of_row _ _ _ _ _ _ (heap_alloc_new w _)]; rfl⟩⟩
theorem view_oneKd {w : World} {k : Nat} (hk : w.heap.size = k) (y : Int) : View (w.alloc (.cells #[.int .i64 y] 3)) (.slice (some ⟨k, 0, none⟩) 1 1) k [y] := hk ▸ view_oneId w y
theorem dpsh_put {V w3 : World} {q h N M j g3 : Nat} {L : List Rq} {F : Nat → Prop} {r : Rq} {v : Value} {y : Int} (hr : RdIs V q h N M L F) (hj : j < L.length) (hrj : L[j] = r) (hb : Below V.heap.size V w3) (hO : Own w3 v g3 (r.A ++ [y])) (hg : V.heap.size ≤ g3) :
    RdIs (w3.setCell ⟨h, j * 4, none⟩ v) q h N (M + 1) (L.set j (pshQ r y)) (fun b => F b ∨ b = g3) ∧ Step F (fun b => F b ∨ b = g3) V (w3.setCell ⟨h, j * 4, none⟩ v) := by
  have hrow := (hr.below hb).rows j hj
  rw [hrj] at hrow
  have hI := hr.inv.get hj
  rw [hrj] at hI
  have hhl := hr.hl
  have h1 := hrow.set0 (F' := fun b => F b ∨ b = g3) (fun b h => .inl h) (v := v) (A := r.A ++ [y]) ⟨g3, hO.view, fun _ => ⟨.inr rfl, by omega⟩⟩
  exact hr.put hj h1 ((RG.of_below hb hhl).setCell (by omega) (by omega) v) (fun b h => .inl h) (fun b h => h.imp (fun e => e) (fun e => by subst e; exact ⟨hg, by simpa using hO.lt⟩)) (hI.psh y) (Nat.le_succ M)
theorem dkn_put {V w3 : World} {q h N M j g3 : Nat} {L : List Rq} {F : Nat → Prop} {r : Rq} {v : Value} {y : Int} (hr : RdIs V q h N M L F) (hj : j < L.length) (hrj : L[j] = r) (hp : r.ph = 2) (hy : 0 ≤ y ∧ y < N) (hb : Below V.heap.size V w3) (hO : Own w3 v g3 (r.kn ++ [y])) (hg : V.heap.size ≤ g3) :
    RdIs (w3.setCell ⟨h, j * 4 + 3, none⟩ v) q h N (M + 1) (L.set j ⟨r.A, r.n, r.ph, r.kn ++ [y]⟩) (fun b => F b ∨ b = g3) ∧ Step F (fun b => F b ∨ b = g3) V (w3.setCell ⟨h, j * 4 + 3, none⟩ v) := by
  have hrow := (hr.below hb).rows j hj
  rw [hrj] at hrow
  have hI := hr.inv.get hj
  rw [hrj] at hI
  have hhl := hr.hl
  have h1 := hrow.set3 (F' := fun b => F b ∨ b = g3) (fun b h => .inl h) (v := v) (A := r.kn ++ [y]) ⟨g3, hO.view, fun _ => ⟨.inr rfl, by omega⟩⟩
  exact hr.put hj h1 ((RG.of_below hb hhl).setCell (by omega) (by omega) v) (fun b h => .inl h) (fun b h => h.imp (fun e => e) (fun e => by subst e; exact ⟨hg, by simpa using hO.lt⟩)) (hI.kn hp r.ph (.inr hp) hy) (Nat.le_succ M)
set_option maxHeartbeats 4000000 in
theorem dAsk_c (q h N M : Nat) (L : List Rq) (F : Nat → Prop) (x y : Int) (w : World) (hr : RdIs w q h N M L F) (hM : M + 1 ≤ 100000) (a : At) (ha : Hid (atAsk N L x y = a)) (ok : Bool) (hok : Hid (okAsk N L x y = ok)) : Calls Tryd.prog 34 #[ptr q, .int .i64 x, .int .i64 y] w fun e w' => e = .returned (.tuple #[.agg #[.int .i64 a.b, .int .i64 a.n, .int .i64 a.s], .bool ok]) ∧ ∃ F', RdIs w' q h N (M + 1) (nxAsk N L x y) F' ∧ Step F F' w w' := by
  have hH := hide hr
  have c0 := hr.c0
  have c1 := hr.c1
  have hql := hr.ql
  have hhl := hr.hl
  have hqh : ¬ q = h := fun e => hr.fq (e ▸ hr.fh)
  have hqh' : ¬ h = q := fun e => hqh e.symm
  obtain ⟨b, hb⟩ : ∃ b, Hid (hasQ L.length x = b) := ⟨_, rfl⟩
  obtain ⟨b2, hb2⟩ : ∃ b2, Hid (hasQ N y = b2) := ⟨_, rfl⟩
  have ha' := ha.out
  have hok' := hok.out
  unfold atAsk at ha'
  unfold okAsk at hok'
  obtain ⟨L', hL'⟩ : ∃ L', nxAsk N L x y = L' := ⟨_, rfl⟩
  rw [hL']
  unfold nxAsk at hL'
  rw [hb.out, hb2.out] at ha' hok' hL'
  cases b with
  | false =>
    obtain rfl : ok = false := by rw [← hok']; rfl
    obtain rfl : a = at0 := by rw [← ha']; rfl
    obtain rfl : L = L' := by rw [← hL']; rfl
    clear ha' hok' hL' hr
    go_enter Tryd.func34, Tryd.ntmps34
    go_wp2_with fail
    go_at_call 40
    refine (dBlock_c q h N M L F x _ (hH.out.alloc _) false hb).mono ?_
    rintro e w' ⟨rfl, hw'⟩
    rw [hw']
    clear hw' w'
    go_wp2_with fail
    refine bodyPost_ret (by simp [results, Tryd.results34, go_sem, *]; done) rfl ⟨rfl, F, (hH.out.alloc _).mono (Nat.le_succ M), ?_⟩
    exact Step.of_below ((Below.refl _ _).alloc (Nat.le_refl _) _)
  | true =>
  obtain ⟨j, rfl, hj⟩ := hasQ_iff.1 hb.out
  have hj' : (j : Int) < L.length := by omega
  cases b2 with
  | false =>
    obtain rfl : ok = false := by rw [← hok']; rfl
    obtain rfl : a = at0 := by rw [← ha']; rfl
    obtain rfl : L = L' := by rw [← hL']; rfl
    clear ha' hok' hL' hr
    rcases hasQ_no.1 hb2.out with c | c
    all_goals
      go_enter Tryd.func34, Tryd.ntmps34
      go_wp2_with fail
      go_at_call 40
      refine (dBlock_c q h N M L F j _ (hH.out.alloc _) true hb).mono ?_
      rintro e w' ⟨rfl, hw'⟩
      rw [hw']
      clear hw' w'
      go_wp2_with fail
      refine bodyPost_ret (by simp [results, Tryd.results34, go_sem, *]; done) rfl ⟨rfl, F, (hH.out.alloc _).mono (Nat.le_succ M), ?_⟩
      exact Step.of_below ((Below.refl _ _).alloc (Nat.le_refl _) _)
  | true =>
    obtain ⟨yn, hyn, hyl⟩ := hasQ_iff.1 hb2.out
    have y0 : ¬ y < 0 := by omega
    have y1 : y < (N : Int) := by omega
    clear hyn hyl yn
    rw [Bool.true_and, if_pos rfl, getQ_at hj] at ha'
    rw [Bool.true_and, Bool.true_and, getQ_at hj] at hok'
    rw [Bool.true_and, if_pos rfl, getQ_at hj, Int.toNat_natCast] at hL'
    have hrow := hr.rows j hj
    have hI := hr.inv.get hj
    obtain ⟨r, hrj⟩ : ∃ r, L[j] = r := ⟨_, rfl⟩
    rw [hrj] at hrow ha' hok' hL' hI
    obtain ⟨v0, k0, b0, hVw, -⟩ := hrow.c0
    obtain ⟨ao, cap, rfl, -⟩ := id hVw
    have f0 := (hrow.th 0 (by omega)).2
    rw [Nat.add_zero] at f0
    have hal := hI.al
    obtain ⟨n, hn⟩ : ∃ n, r.A.length = n := ⟨_, rfl⟩
    rw [hn] at k0 hVw hal
    have l1 : Hid (([] : List Int).length + r.A.length ≤ 1000000) := hide (by rw [hn]; simp; omega)
    have l2 : Hid (([] : List Int).length + r.A.length = n) := hide (by simpa using hn)
    have l3 : Hid (r.A.length + [y].length ≤ 1000000) := hide (by rw [hn]; simp; omega)
    have l4 : Hid (r.A.length + [y].length = n + 1) := hide (by simpa using hn)
    replace hVw := hide hVw
    replace hrj := hide hrj
    replace ha' := hide ha'
    replace hok' := hide hok'
    replace hL' := hide hL'
    replace hn := hide hn
    clear hrow hI hr
    go_enter Tryd.func34, Tryd.ntmps34
    go_wp2_with fail
    go_at_call 40
    refine (dBlock_c q h N M L F j _ (hH.out.alloc _) true hb).mono ?_
    rintro e w' ⟨rfl, hw'⟩
    rw [hw']
    clear hw' w'
    go_wp2_with fail
    refine name_world ?_
    intro V hV
    have hRV : Hid (RdIs V q h N M L F) := by rw [← hV]; exact hide (hH.out.alloc _)
    have hBV : Hid (Below w.heap.size w V) := by rw [← hV]; exact hide ((Below.refl _ _).alloc (Nat.le_refl _) _)
    have hrV : Hid (V.heap[w.heap.size]? = some (resD at0)) := by rw [← hV]; exact hide (heap_alloc_new w _)
    have hqV : q < V.heap.size := hRV.out.ql
    have hhV : h < V.heap.size := hRV.out.hl
    have d1 : V.cell? ⟨q, 1, none⟩ = some (slD h L.length) := hRV.out.c1
    have d2 : V.cell? ⟨h, j * 4, none⟩ = some (.slice ao n cap) := keep_cell (hBV.out.block h hhl) k0
    have d3 : V.frozen? ⟨h, j * 4, none⟩ = false := keep_frozen (hBV.out.block h hhl) f0
    have hVV := hide (hVw.out.below hBV.out)
    have hC := hide (And.intro d1 d2)
    clear hV k0 f0
    go_wp2_with fail
    refine wp_region_noPanic ?_
    refine last_begin 20 (fun w' => Hid (Below V.heap.size V w') ∧ w'.cell? ⟨q, 1, none⟩ = some (slD h L.length) ∧ w'.cell? ⟨h, j * 4, none⟩ = some (.slice ao n cap)) (by kernel_rfl) ?_ fun hHeld => ?_
    · exact heldD hqV hhV hC.out (Below.refl _ _).drew
    refine lTk 0 25 hHeld ?_
    refine lTk 1 26 hHeld ?_
    refine lTk 2 27 hHeld ?_
    refine lTk 3 28 hHeld ?_
    refine lTk 4 29 hHeld ?_
    refine lTk 6 31 hHeld ?_
    refine lTk 7 32 hHeld ?_
    refine lTk 8 33 hHeld ?_
    refine lTk 9 34 hHeld ?_
    refine lTk 10 35 hHeld ?_
    refine lTk 11 36 hHeld ?_
    refine lTk 12 37 hHeld ?_
    refine lTk 13 38 hHeld ?_
    refine lTk 15 40 hHeld ?_
    have b3 : Below V.heap.size V (V.drew.alloc (.cells #[] 3)) := (Below.refl _ _).drew.alloc (Nat.le_refl _) _
    have b4 : Below V.heap.size V (V.drew.alloc (.cells #[.int .i64 y] 3)) := (Below.refl _ _).drew.alloc (Nat.le_refl _) _
    have b5 : Below V.heap.size V ((V.drew.alloc (.cells #[] 3)).alloc (.cells #[.int .i64 y] 3)) := b3.alloc b3.size _
    have b6 : Below V.heap.size V ((V.drew.alloc (.cells #[.int .i64 y] 3)).alloc (.cells #[] 3)) := b4.alloc b4.size _
    replace b3 := hide b3
    replace b4 := hide b4
    replace b5 := hide b5
    replace b6 := hide b6
    refine lTwo 5 16 (fun K hK => ?_) fun K hK => ?_
    · skip
      go_simp
      refine hK.out _ _ (fun _ => ?_) fun hHeld0 => ?_
      · exact heldD hqV hhV hC.out b3.out
      clear hK K
      replace hHeld := hHeld0 (by decide)
      clear hHeld0
      try simp only [Act.put, za, zb, zc]
      refine lTwo 14 16 (fun K hK => ?_) fun K hK => ?_
      · skip
        refine wp_app (.tmp 30) (.tmp 38) rfl rfl rfl (own_emptyKI (k := V.heap.size) rfl _) (hVV.out.below b3.out) l1.out n l2.out ?_
        intro ao2 cap2 w2 g2' hown2 hap2
        rw [List.nil_append] at hown2
        obtain ⟨hB2, hg2⟩ := appD_below b3.out (by omega) hap2
        have hne2 := True.intro
        refine hK.out _ _ (fun _ => ?_) fun hHeld0 => ?_
        · exact heldD hqV hhV hC.out hB2
        clear hK K
        replace hHeld := hHeld0 (by decide)
        clear hHeld0
        try simp only [Act.put, za, zb, zc]
        refine lNo 16 fun K hK => ?_
        go_simp
        have M5 : Hid (DMid V (w2.alloc (.cells #[.int .i64 y] 3)) ao2 n cap2 g2' w2.heap.size r.A y) := hide ⟨hown2.alloc _, view_oneKd rfl y, hB2.alloc hB2.size _, hg2⟩
        refine hK.out _ _ (fun _ => ?_) fun hHeld0 => ?_
        · exact heldD hqV hhV hC.out M5.out.b
        clear hK K
        replace hHeld := hHeld0 (by decide)
        clear hHeld0
        try simp only [Act.put, za, zb, zc]
        clear hown2 hap2 hB2 hg2
        refine lNo 17 fun K hK => ?_
        refine wp_app (.tmp 39) (.tmp 41) rfl rfl rfl M5.out.own M5.out.one l3.out (n + 1) l4.out ?_
        intro ao3 cap3 w3 g3 hown3 hap3
        obtain ⟨hB3, hg3⟩ := appD_below M5.out.b M5.out.lo hap3
        refine hK.out _ _ (fun _ => ?_) fun hHeld0 => ?_
        · exact heldD hqV hhV hC.out hB3
        clear hK K
        replace hHeld := hHeld0 (by decide)
        clear hHeld0
        try simp only [Act.put, za, zb, zc]
        clear hap3 M5
        have hfin := hide (dpsh_put hRV.out hj hrj.out hB3 hown3 hg3)
        have q1 := keep_cell (hB3.block h hhV) d2
        have q2 := keep_frozen (hB3.block h hhV) d3
        clear hown3
        refine lNo 18 fun K hK => ?_
        go_simp
        refine hK.out _ _ (fun _ => ?_) fun hHeld0 => ?_
        · exact heldD hqV hhV hC.out hB3
        clear hK K
        replace hHeld := hHeld0 (by decide)
        clear hHeld0
        try simp only [Act.put, za, zb, zc]
        refine lTk 19 44 hHeld ?_
        refine lNo 20 fun K hK => ?_
        go_simp
        refine hK.out _ _ (fun h => absurd rfl h) fun _ => ?_
        clear hK K
        try simp only [Act.put, za, zb, zc]
        refine last_done (by kernel_rfl) (NoPanic.normal ?_) _
        clear hHeld
        obtain ⟨W4, hW4⟩ : ∃ W4, w3.setCell ⟨h, j * 4, none⟩ (.slice ao3 (n + 1) cap3) = W4 := ⟨_, rfl⟩
        have hr4 : W4.heap[w.heap.size]? = some (resD at0) := by rw [← hW4]; exact (heap_setCell_other _ _ _ _ (by show w.heap.size ≠ h; omega)).trans ((hB3.block _ (Array.getElem?_eq_some_iff.1 hrV.out).1).trans hrV.out)
        have hVs : w.heap.size < V.heap.size := (Array.getElem?_eq_some_iff.1 hrV.out).1
        rw [hW4] at hfin ⊢
        replace hr4 := hide hr4
        have hn4 : ¬ (F w.heap.size ∨ w.heap.size = g3) := fun e => by rcases e with e | e; (have := hH.out.lt _ e; omega); omega
        have hS4 := hide ((Step.of_below (F := F) hBV.out).trans hfin.out.2)
        replace hfin := hide hfin.out.1
        clear hW4 q1 q2 hB3 hg3 d1 d2 d3 hC hVV hRV hBV hrV
        go_wp2_with fail
        go_at_call 66
        refine (dBegin_c q h N (M + 1) (L.set j (pshQ r y)) _ j W4 hfin.out (by simp only [List.length_set]; exact hj) (pshQ r y) (by simp) hM a ha' ok hok').mono ?_
        rintro e w5 ⟨rfl, h5, s5⟩
        rw [List.set_set, hL'.out] at h5
        have hb5 : w5.heap[w.heap.size]? = some (resD at0) := (s5.keep hn4 (Array.getElem?_eq_some_iff.1 hr4.out).1).1.trans hr4.out
        have z0 : w5.cell? ⟨w.heap.size, 0, none⟩ = some (.int .i64 0) := cell_of_row _ _ _ _ _ _ hb5
        have z1 : w5.cell? ⟨w.heap.size, 1, none⟩ = some (.int .i64 0) := cell_of_row _ _ _ _ _ _ hb5
        have z2 : w5.cell? ⟨w.heap.size, 2, none⟩ = some (.int .i64 0) := cell_of_row _ _ _ _ _ _ hb5
        have x0 : w5.frozen? ⟨w.heap.size, 0, none⟩ = false := frozen_of_row _ _ _ _ _ hb5
        have x1 : w5.frozen? ⟨w.heap.size, 1, none⟩ = false := frozen_of_row _ _ _ _ _ hb5
        have x2 : w5.frozen? ⟨w.heap.size, 2, none⟩ = false := frozen_of_row _ _ _ _ _ hb5
        have hfin5 := hide (h5.res (hS4.out.trans s5) hql hn4 a)
        clear h5 s5 hb5
        go_wp2_with fail
        refine bodyPost_ret (by simp [results, Tryd.results34, go_sem, *]; done) rfl ⟨rfl, ?_⟩
        exact ⟨_, hfin5.out⟩
      · skip
        go_simp
        refine hK.out _ _ (fun _ => ?_) fun hHeld0 => ?_
        · exact heldD hqV hhV hC.out b5.out
        clear hK K
        replace hHeld := hHeld0 (by decide)
        clear hHeld0
        try simp only [Act.put, za, zb, zc]
        refine lNo 14 fun K hK => ?_
        have o1 := view_oneId (V.drew.alloc (.cells #[] 3)) y
        rw [World.size_alloc] at o1
        refine wp_app (.tmp 30) (.tmp 38) rfl rfl rfl ((own_emptyKI (w := V.drew) (k := V.heap.size) rfl _).alloc _) (hVV.out.below b5.out) l1.out n l2.out ?_
        intro ao2 cap2 w2 g2' hown2 hap2
        rw [List.nil_append] at hown2
        obtain ⟨hB2, hg2⟩ := appD_below b5.out (by omega) hap2
        have hne2 := oneI_app o1 hap2 (by show V.heap.size + 1 ≠ V.heap.size; omega)
        refine hK.out _ _ (fun _ => ?_) fun hHeld0 => ?_
        · exact heldD hqV hhV hC.out hB2
        clear hK K
        replace hHeld := hHeld0 (by decide)
        clear hHeld0
        try simp only [Act.put, za, zb, zc]
        have M5 : Hid (DMid V w2 ao2 n cap2 g2' (V.heap.size + 1) r.A y) := hide ⟨hown2, hne2, hB2, hg2⟩
        clear hown2 hap2 hB2 hg2 hne2 o1
        refine lNo 17 fun K hK => ?_
        refine wp_app (.tmp 39) (.tmp 41) rfl rfl rfl M5.out.own M5.out.one l3.out (n + 1) l4.out ?_
        intro ao3 cap3 w3 g3 hown3 hap3
        obtain ⟨hB3, hg3⟩ := appD_below M5.out.b M5.out.lo hap3
        refine hK.out _ _ (fun _ => ?_) fun hHeld0 => ?_
        · exact heldD hqV hhV hC.out hB3
        clear hK K
        replace hHeld := hHeld0 (by decide)
        clear hHeld0
        try simp only [Act.put, za, zb, zc]
        clear hap3 M5
        have hfin := hide (dpsh_put hRV.out hj hrj.out hB3 hown3 hg3)
        have q1 := keep_cell (hB3.block h hhV) d2
        have q2 := keep_frozen (hB3.block h hhV) d3
        clear hown3
        refine lNo 18 fun K hK => ?_
        go_simp
        refine hK.out _ _ (fun _ => ?_) fun hHeld0 => ?_
        · exact heldD hqV hhV hC.out hB3
        clear hK K
        replace hHeld := hHeld0 (by decide)
        clear hHeld0
        try simp only [Act.put, za, zb, zc]
        refine lTk 19 44 hHeld ?_
        refine lNo 20 fun K hK => ?_
        go_simp
        refine hK.out _ _ (fun h => absurd rfl h) fun _ => ?_
        clear hK K
        try simp only [Act.put, za, zb, zc]
        refine last_done (by kernel_rfl) (NoPanic.normal ?_) _
        clear hHeld
        obtain ⟨W4, hW4⟩ : ∃ W4, w3.setCell ⟨h, j * 4, none⟩ (.slice ao3 (n + 1) cap3) = W4 := ⟨_, rfl⟩
        have hr4 : W4.heap[w.heap.size]? = some (resD at0) := by rw [← hW4]; exact (heap_setCell_other _ _ _ _ (by show w.heap.size ≠ h; omega)).trans ((hB3.block _ (Array.getElem?_eq_some_iff.1 hrV.out).1).trans hrV.out)
        have hVs : w.heap.size < V.heap.size := (Array.getElem?_eq_some_iff.1 hrV.out).1
        rw [hW4] at hfin ⊢
        replace hr4 := hide hr4
        have hn4 : ¬ (F w.heap.size ∨ w.heap.size = g3) := fun e => by rcases e with e | e; (have := hH.out.lt _ e; omega); omega
        have hS4 := hide ((Step.of_below (F := F) hBV.out).trans hfin.out.2)
        replace hfin := hide hfin.out.1
        clear hW4 q1 q2 hB3 hg3 d1 d2 d3 hC hVV hRV hBV hrV
        go_wp2_with fail
        go_at_call 66
        refine (dBegin_c q h N (M + 1) (L.set j (pshQ r y)) _ j W4 hfin.out (by simp only [List.length_set]; exact hj) (pshQ r y) (by simp) hM a ha' ok hok').mono ?_
        rintro e w5 ⟨rfl, h5, s5⟩
        rw [List.set_set, hL'.out] at h5
        have hb5 : w5.heap[w.heap.size]? = some (resD at0) := (s5.keep hn4 (Array.getElem?_eq_some_iff.1 hr4.out).1).1.trans hr4.out
        have z0 : w5.cell? ⟨w.heap.size, 0, none⟩ = some (.int .i64 0) := cell_of_row _ _ _ _ _ _ hb5
        have z1 : w5.cell? ⟨w.heap.size, 1, none⟩ = some (.int .i64 0) := cell_of_row _ _ _ _ _ _ hb5
        have z2 : w5.cell? ⟨w.heap.size, 2, none⟩ = some (.int .i64 0) := cell_of_row _ _ _ _ _ _ hb5
        have x0 : w5.frozen? ⟨w.heap.size, 0, none⟩ = false := frozen_of_row _ _ _ _ _ hb5
        have x1 : w5.frozen? ⟨w.heap.size, 1, none⟩ = false := frozen_of_row _ _ _ _ _ hb5
        have x2 : w5.frozen? ⟨w.heap.size, 2, none⟩ = false := frozen_of_row _ _ _ _ _ hb5
        have hfin5 := hide (h5.res (hS4.out.trans s5) hql hn4 a)
        clear h5 s5 hb5
        go_wp2_with fail
        refine bodyPost_ret (by simp [results, Tryd.results34, go_sem, *]; done) rfl ⟨rfl, ?_⟩
        exact ⟨_, hfin5.out⟩
    · skip
      go_simp
      refine hK.out _ _ (fun _ => ?_) fun hHeld0 => ?_
      · exact heldD hqV hhV hC.out b4.out
      clear hK K
      replace hHeld := hHeld0 (by decide)
      clear hHeld0
      try simp only [Act.put, za, zb, zc]
      refine lNo 5 fun K hK => ?_
      go_simp
      refine hK.out _ _ (fun _ => ?_) fun hHeld0 => ?_
      · exact heldD hqV hhV hC.out b6.out
      clear hK K
      replace hHeld := hHeld0 (by decide)
      clear hHeld0
      try simp only [Act.put, za, zb, zc]
      refine lNo 14 fun K hK => ?_
      have o1 := (view_oneId V.drew y).alloc (.cells #[] 3)
      refine wp_app (.tmp 30) (.tmp 38) rfl rfl rfl (own_emptyKI (w := V.drew.alloc (.cells #[.int .i64 y] 3)) (k := V.heap.size + 1) (by simp) _) (hVV.out.below b6.out) l1.out n l2.out ?_
      intro ao2 cap2 w2 g2' hown2 hap2
      rw [List.nil_append] at hown2
      obtain ⟨hB2, hg2⟩ := appD_below b6.out (by omega) hap2
      have hne2 := oneI_app o1 hap2 (by show V.heap.size ≠ V.heap.size + 1; omega)
      refine hK.out _ _ (fun _ => ?_) fun hHeld0 => ?_
      · exact heldD hqV hhV hC.out hB2
      clear hK K
      replace hHeld := hHeld0 (by decide)
      clear hHeld0
      try simp only [Act.put, za, zb, zc]
      have M5 : Hid (DMid V w2 ao2 n cap2 g2' V.heap.size r.A y) := hide ⟨hown2, hne2, hB2, hg2⟩
      clear hown2 hap2 hB2 hg2 hne2 o1
      refine lNo 17 fun K hK => ?_
      refine wp_app (.tmp 39) (.tmp 41) rfl rfl rfl M5.out.own M5.out.one l3.out (n + 1) l4.out ?_
      intro ao3 cap3 w3 g3 hown3 hap3
      obtain ⟨hB3, hg3⟩ := appD_below M5.out.b M5.out.lo hap3
      refine hK.out _ _ (fun _ => ?_) fun hHeld0 => ?_
      · exact heldD hqV hhV hC.out hB3
      clear hK K
      replace hHeld := hHeld0 (by decide)
      clear hHeld0
      try simp only [Act.put, za, zb, zc]
      clear hap3 M5
      have hfin := hide (dpsh_put hRV.out hj hrj.out hB3 hown3 hg3)
      have q1 := keep_cell (hB3.block h hhV) d2
      have q2 := keep_frozen (hB3.block h hhV) d3
      clear hown3
      refine lNo 18 fun K hK => ?_
      go_simp
      refine hK.out _ _ (fun _ => ?_) fun hHeld0 => ?_
      · exact heldD hqV hhV hC.out hB3
      clear hK K
      replace hHeld := hHeld0 (by decide)
      clear hHeld0
      try simp only [Act.put, za, zb, zc]
      refine lTk 19 44 hHeld ?_
      refine lNo 20 fun K hK => ?_
      go_simp
      refine hK.out _ _ (fun h => absurd rfl h) fun _ => ?_
      clear hK K
      try simp only [Act.put, za, zb, zc]
      refine last_done (by kernel_rfl) (NoPanic.normal ?_) _
      clear hHeld
      obtain ⟨W4, hW4⟩ : ∃ W4, w3.setCell ⟨h, j * 4, none⟩ (.slice ao3 (n + 1) cap3) = W4 := ⟨_, rfl⟩
      have hr4 : W4.heap[w.heap.size]? = some (resD at0) := by rw [← hW4]; exact (heap_setCell_other _ _ _ _ (by show w.heap.size ≠ h; omega)).trans ((hB3.block _ (Array.getElem?_eq_some_iff.1 hrV.out).1).trans hrV.out)
      have hVs : w.heap.size < V.heap.size := (Array.getElem?_eq_some_iff.1 hrV.out).1
      rw [hW4] at hfin ⊢
      replace hr4 := hide hr4
      have hn4 : ¬ (F w.heap.size ∨ w.heap.size = g3) := fun e => by rcases e with e | e; (have := hH.out.lt _ e; omega); omega
      have hS4 := hide ((Step.of_below (F := F) hBV.out).trans hfin.out.2)
      replace hfin := hide hfin.out.1
      clear hW4 q1 q2 hB3 hg3 d1 d2 d3 hC hVV hRV hBV hrV
      go_wp2_with fail
      go_at_call 66
      refine (dBegin_c q h N (M + 1) (L.set j (pshQ r y)) _ j W4 hfin.out (by simp only [List.length_set]; exact hj) (pshQ r y) (by simp) hM a ha' ok hok').mono ?_
      rintro e w5 ⟨rfl, h5, s5⟩
      rw [List.set_set, hL'.out] at h5
      have hb5 : w5.heap[w.heap.size]? = some (resD at0) := (s5.keep hn4 (Array.getElem?_eq_some_iff.1 hr4.out).1).1.trans hr4.out
      have z0 : w5.cell? ⟨w.heap.size, 0, none⟩ = some (.int .i64 0) := cell_of_row _ _ _ _ _ _ hb5
      have z1 : w5.cell? ⟨w.heap.size, 1, none⟩ = some (.int .i64 0) := cell_of_row _ _ _ _ _ _ hb5
      have z2 : w5.cell? ⟨w.heap.size, 2, none⟩ = some (.int .i64 0) := cell_of_row _ _ _ _ _ _ hb5
      have x0 : w5.frozen? ⟨w.heap.size, 0, none⟩ = false := frozen_of_row _ _ _ _ _ hb5
      have x1 : w5.frozen? ⟨w.heap.size, 1, none⟩ = false := frozen_of_row _ _ _ _ _ hb5
      have x2 : w5.frozen? ⟨w.heap.size, 2, none⟩ = false := frozen_of_row _ _ _ _ _ hb5
      have hfin5 := hide (h5.res (hS4.out.trans s5) hql hn4 a)
      clear h5 s5 hb5
      go_wp2_with fail
      refine bodyPost_ret (by simp [results, Tryd.results34, go_sem, *]; done) rfl ⟨rfl, ?_⟩
      exact ⟨_, hfin5.out⟩
end Go.Proofs.YtmgjgeaigdiadaaDoor
