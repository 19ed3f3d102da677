/- The contracts of Current, Waiting, Done (layer 12). -/
import Derived.Test.YtlfdahcbkdiifaaArbN
namespace Go.Proofs.Ytlfdahcbkdiifaa
open Go.ChangeShapes Go.WideShapes Go.ChangeAt Go.RowKit
set_option linter.unusedSimpArgs false
set_option linter.unusedVariables false
set_option maxRecDepth 10000

attribute [local go_sem, local simp] over_const setCell_drewN alloc_drewN Over.cell Over.frozen lt_s1 lt_s2 lt_s3 le_s0 le_s1 le_s2 le_s3 eq_s0 eq_s1 eq_s2 qe_s0


set_option maxHeartbeats 1000000 in
theorem aCur_c (p g N M : Nat) (L : List Rq) (Ft : Nat → Prop) (x : Int) (w : World) (h : ArIs w p g N M L Ft) (a : At) (ha : Hid (atCur L x = a)) (ok : Bool) (hok : Hid (okCur L x = ok)) : Calls Try.prog 20 #[ptr p, .int .i64 x] w fun e w' => e = .returned (.tuple #[.agg #[.int .i64 a.b, .int .i64 a.n, .int .i64 a.s], .bool ok]) ∧ Below w.heap.size w w' := by
  have hH := hide h
  obtain ⟨cap, c64, -, -⟩ := h.c64
  have hpl := h.pl
  have hgl := h.gl
  obtain ⟨q, hq⟩ : ∃ q, Hid (hasQ L.length x = q) := ⟨_, rfl⟩
  have ha' := ha.out
  have hok' := hok.out
  unfold atCur at ha'
  unfold okCur at hok'
  rw [hq.out] at ha' hok'
  cases q with
  | false =>
    obtain rfl : ok = false := by rw [← hok']; rfl
    obtain rfl : a = at0 := by rw [← ha']; rfl
    clear ha' hok' h
    go_enter Try.func20, Try.ntmps20
    go_wp2_with fail
    go_at_call 25
    refine (aHasB_c p g N M L Ft x _ ((unhide hH).alloc _) false hq).mono ?_
    rintro e w' ⟨rfl, hw'⟩
    rw [hw']
    clear hw' w'
    go_wp2_with fail
    refine bodyPost_ret (by simp [results, Try.results20, go_sem, *]; done) rfl ⟨rfl, ?_⟩
    repeat' first | with_reducible exact Below.refl _ _ | with_reducible refine Below.setCell ?_ ?_ _ | with_reducible refine Below.alloc ?_ ?_ _ | with_reducible refine Below.drew ?_ | with_reducible refine belowN ?_ _ | with_reducible refine Over.go _ ?_ ?_ | with_reducible exact Nat.le_refl _ | with_reducible refine Over.sz _ _ ?_ | with_reducible refine le_alloc ?_ | with_reducible refine le_setCell ?_ | with_reducible refine le_drewN ?_ | with_reducible refine le_drew ?_ | omega | (dsimp only; omega)
  | true =>
    obtain ⟨j, rfl, hj⟩ := hasQ_iff.1 hq.out
    obtain ⟨G, hG⟩ := h.rows
    have hrow := (hG.row j hj).c
    have hI := h.inv.get hj
    rw [getQ_at hj] at ha' hok'
    obtain ⟨r, hr⟩ : ∃ r, L[j] = r := ⟨_, rfl⟩
    rw [hr] at hrow ha' hok' hI
    have c0 := hrow.c0
    have c1 := hrow.c1
    have c2 := hrow.c2
    have c3 := hrow.c3
    have hj' : (j : Int) < L.length := by omega
    replace hr := hide hr
    by_cases c : r.ph = 1
    · obtain rfl : ok = true := by rw [← hok']; simp [okCQ, c]
      obtain rfl : a = ⟨j, lastNQ r, r.n⟩ := by rw [← ha']; simp [atCQ, c]
      have hb : lastBQ (j : Int) r = j := by unfold lastBQ; rw [if_neg (by have := hI.on (by rw [c]; decide); omega)]
      rw [hb] at c0
      rw [c] at c3
      generalize lastNQ r = ln at c1
      generalize r.n = n at c2
      clear ha' hok' hrow hI hG G hb c h
      go_enter Try.func20, Try.ntmps20
      go_wp2_with fail
      go_at_call 25
      refine (aHasB_c p g N M L Ft j _ ((unhide hH).alloc _) true hq).mono ?_
      rintro e w' ⟨rfl, hw'⟩
      rw [hw']
      clear hw' w'
      go_wp2_with fail
      refine bodyPost_ret (by simp [results, Try.results20, go_sem, *]; done) rfl ⟨rfl, ?_⟩
      repeat' first | with_reducible exact Below.refl _ _ | with_reducible refine Below.setCell ?_ ?_ _ | with_reducible refine Below.alloc ?_ ?_ _ | with_reducible refine Below.drew ?_ | with_reducible refine belowN ?_ _ | with_reducible refine Over.go _ ?_ ?_ | with_reducible exact Nat.le_refl _ | with_reducible refine Over.sz _ _ ?_ | with_reducible refine le_alloc ?_ | with_reducible refine le_setCell ?_ | with_reducible refine le_drewN ?_ | with_reducible refine le_drew ?_ | omega | (dsimp only; omega)
    · obtain rfl : ok = false := by rw [← hok']; simp [okCQ, c]
      obtain rfl : a = at0 := by rw [← ha']; simp [atCQ, c]
      generalize r.ph = ph at c3 c
      have c' : decide (ph = 1) = false ∧ (ph == 1) = false ∧ (ph != 1) = true := ⟨by simpa using c, by simpa using c, by simpa using c⟩
      clear ha' hok' hrow hI hG G h c0 c1 c2
      replace c := hide c
      go_enter Try.func20, Try.ntmps20
      go_wp2_with fail
      go_at_call 25
      refine (aHasB_c p g N M L Ft j _ ((unhide hH).alloc _) true hq).mono ?_
      rintro e w' ⟨rfl, hw'⟩
      rw [hw']
      clear hw' w'
      go_wp2_with fail
      refine bodyPost_ret (by simp [results, Try.results20, go_sem, *]; done) rfl ⟨rfl, ?_⟩
      repeat' first | with_reducible exact Below.refl _ _ | with_reducible refine Below.setCell ?_ ?_ _ | with_reducible refine Below.alloc ?_ ?_ _ | with_reducible refine Below.drew ?_ | with_reducible refine belowN ?_ _ | with_reducible refine Over.go _ ?_ ?_ | with_reducible exact Nat.le_refl _ | with_reducible refine Over.sz _ _ ?_ | with_reducible refine le_alloc ?_ | with_reducible refine le_setCell ?_ | with_reducible refine le_drewN ?_ | with_reducible refine le_drew ?_ | omega | (dsimp only; omega)

set_option maxHeartbeats 1000000 in
theorem aWait_c (p g N M : Nat) (L : List Rq) (Ft : Nat → Prop) (x : Int) (w : World) (h : ArIs w p g N M L Ft) (hM : M ≤ 100000) : Calls Try.prog 22 #[ptr p, .int .i64 x] w fun e w' => ∃ v, e = .returned v ∧ ∃ ob, WtIs w' v ob (wtsQ L x) ∧ (∀ b, ob = some b → w.heap.size ≤ b) ∧ Below w.heap.size w w' := by
  have hH := hide h
  obtain ⟨cap, c64, -, -⟩ := h.c64
  have hpl := h.pl
  have hgl := h.gl
  obtain ⟨q, hq⟩ : ∃ q, Hid (hasQ L.length x = q) := ⟨_, rfl⟩
  obtain ⟨T, hT⟩ : ∃ T, Hid (wtsQ L x = T) := ⟨_, rfl⟩
  have hT' := hT.out
  unfold wtsQ at hT'
  rw [hq.out] at hT'
  rw [hT.out]
  cases q with
  | false =>
    obtain rfl : T = [] := by rw [← hT']; rfl
    clear hT' h
    go_enter Try.func22, Try.ntmps22
    go_wp2_with fail
    go_at_call 25
    refine (aHasB_c p g N M L Ft x _ (unhide hH) false hq).mono ?_
    rintro e w' ⟨rfl, hw'⟩
    rw [hw']
    clear hw' w'
    go_wp2_with fail
    go_ret
    exact ⟨_, rfl, none, ⟨rfl, rfl⟩, fun b hb => (by cases hb), Below.refl _ _⟩
  | true =>
    obtain ⟨j, rfl, hj⟩ := hasQ_iff.1 hq.out
    obtain ⟨G, hG⟩ := h.rows
    obtain ⟨v, hv, hW⟩ := (hG.row j hj).wt
    have hI := h.inv.get hj
    rw [getQ_at hj] at hT'
    rw [if_pos rfl] at hT'
    rw [hT'] at hW
    obtain ⟨b, hV⟩ := hW.view
    have hTl : T.length ≤ 100000 := by rw [← hT']; unfold wtQ; rw [List.length_drop]; have := hI.al; omega
    have hj' : (j : Int) < L.length := by omega
    replace hV := hide hV
    clear hG hI hW hT' h
    go_enter Try.func22, Try.ntmps22
    go_wp2_with fail
    go_at_call 25
    refine (aHasB_c p g N M L Ft j _ (unhide hH) true hq).mono ?_
    rintro e w' ⟨rfl, hw'⟩
    rw [hw']
    clear hw' w'
    go_wp2_with fail
    go_at_call 33
    refine (clone_c v b T w (unhide hV) hTl).mono ?_
    rintro e w1 ⟨ao, cp, rfl, hC⟩
    replace hC := hide hC
    go_wp2_with fail
    go_ret
    obtain ⟨hB, hC⟩ := unhide hC
    rcases hC with ⟨rfl, rfl, rfl⟩ | ⟨g', hg, hO⟩
    · exact ⟨_, rfl, none, ⟨rfl, rfl⟩, fun b hb => (by cases hb), hB⟩
    · exact ⟨_, rfl, some g', hO, fun b hb => (by cases hb; exact hg), hB⟩

theorem RowC.put3 {w : World} {g o : Nat} {b : Int} {r : Rq} (h : RowC w g o b r) (r' : Rq) (x3 : Int) (e0 : lastBQ b r' = lastBQ b r) (e1 : lastNQ r' = lastNQ r) (e2 : r'.n = r.n) (e3 : r'.ph = x3) (ek : ∀ i, i < 64 → knM r' i = knM r i) : RowC (w.setCell ⟨g, o + 3, none⟩ (.int .i64 x3)) g o b r' := by
  have h3 := h.th 3 (by omega)
  have hx : ∀ i, i ≠ 3 → (w.setCell ⟨g, o + 3, none⟩ (.int .i64 x3)).cell? ⟨g, o + i, none⟩ = w.cell? ⟨g, o + i, none⟩ := fun i hi => World.cell?_setCell_other _ _ _ _ (fun e => by have : o + 3 = o + i := congrArg Addr.off e; omega)
  refine ⟨by rw [e0]; exact (hx 0 (by omega)).trans h.c0, by rw [e1]; exact (hx 1 (by omega)).trans h.c1, by rw [e2]; exact (hx 2 (by omega)).trans h.c2, by rw [e3]; exact World.cell?_setCell_same _ _ _ h.c3, ?_, World.there_setCells h.th g (o + 3) [.int .i64 x3]⟩
  rw [mkM_ext ek]
  exact World.rangeAt_setCells_apart h.kn g (o + 3) [.int .i64 x3] (.inr (.inr (by simp)))

/-- A row's state anew. -/
theorem row_state {w : World} {g o : Nat} {b : Int} {r r' : Rq} {ob : Option Nat} {x3 : Int} (h : RowAt w g o b r ob) (hne : ob ≠ some g) (e0 : lastBQ b r' = lastBQ b r) (e1 : lastNQ r' = lastNQ r) (e2 : r'.n = r.n) (e3 : r'.ph = x3) (ek : ∀ i, i < 64 → knM r' i = knM r i) (ew : wtQ r' = wtQ r) :
    RowAt (w.setCell ⟨g, o + 3, none⟩ (.int .i64 x3)) g o b r' ob ∧ RF g o ob w (w.setCell ⟨g, o + 3, none⟩ (.int .i64 x3)) := by
  obtain ⟨v, h1, h2⟩ := h.wt
  refine ⟨⟨h.c.put3 r' x3 e0 e1 e2 e3 ek, v, ?_, ?_⟩, (RF.refl g o ob w).setCell (by omega) (by omega) _⟩
  · rw [World.cell?_setCell_other _ _ _ _ (fun e => by have : o + 3 = o + 68 := congrArg Addr.off e; omega)]; exact h1
  · rw [ew]; exact h2.carry (fun b hb => Below.heap_setCell _ _ _ _ (fun e => hne (by rw [hb, e])))

set_option maxHeartbeats 1000000 in
theorem aDone_c (p g N M : Nat) (L : List Rq) (Ft : Nat → Prop) (x s : Int) (w : World) (h : ArIs w p g N M L Ft) (ok : Bool) (hok : Hid (okDone L x s = ok)) : Calls Try.prog 15 #[ptr p, .int .i64 x, .int .i64 s] w fun e w' => e = .returned (.bool ok) ∧ ∃ Ft', ArIs w' p g N M (nxDone L x s) Ft' ∧ Step Ft Ft' w w' := by
  have hH := hide h
  obtain ⟨cap, c64, -, -⟩ := h.c64
  have hpl := h.pl
  have hgl := h.gl
  obtain ⟨q, hq⟩ : ∃ q, Hid (hasQ L.length x = q) := ⟨_, rfl⟩
  have hok' := hok.out
  unfold okDone at hok'
  rw [hq.out] at hok'
  obtain ⟨L', hL'⟩ : ∃ L', nxDone L x s = L' := ⟨_, rfl⟩
  rw [hL']
  unfold nxDone at hL'
  rw [hq.out] at hL'
  cases q with
  | false =>
    obtain rfl : ok = false := by rw [← hok']; rfl
    obtain rfl : L = L' := by rw [← hL']; rfl
    clear hL' hok' h
    go_enter Try.func15, Try.ntmps15
    go_wp2_with fail
    go_at_call 25
    refine (aHasB_c p g N M L Ft x _ (unhide hH) false hq).mono ?_
    rintro e w' ⟨rfl, hw'⟩
    rw [hw']
    clear hw' w'
    go_wp2_with fail
    go_ret
    exact ⟨rfl, Ft, unhide hH, Step.refl _ _⟩
  | true =>
    obtain ⟨j, rfl, hj⟩ := hasQ_iff.1 hq.out
    obtain ⟨G, hG⟩ := h.rows
    have hrow := hG.row j hj
    have hI := h.inv.get hj
    rw [getQ_at hj, Bool.true_and] at hok'
    rw [if_pos rfl, getQ_at hj, Int.toNat_natCast] at hL'
    obtain ⟨r, hr⟩ : ∃ r, L[j] = r := ⟨_, rfl⟩
    have hrs : L.set j r = L := by rw [← hr]; exact List.set_getElem_self hj
    rw [hr] at hrow hok' hL' hI
    have c2 := hrow.c.c2
    have c3 := hrow.c.c3
    have f3 := (hrow.c.th 3 (by omega)).2
    have hj' : (j : Int) < L.length := by omega
    have hne : G j ≠ some g := fun e => (hG.own j g hj e).2 rfl
    replace hr := hide hr
    replace hG := hide hG
    have hdn : Hid (decide (r.ph = 1 ∧ (r.n : Int) = s) = ok) := hide hok'
    cases ok with
    | true =>
      have hc := decide_eq_true_iff.1 hok'
      have hdq : dnQ r s = ⟨r.A, r.n, 2, []⟩ := by unfold dnQ; rw [if_pos hc]
      rw [hdq] at hL'
      have hfin := row_state (r' := ⟨r.A, r.n, 2, []⟩) (x3 := 2) hrow hne rfl rfl rfl rfl (fun i _ => by simp [knM, hc.1]) rfl
      have hI2 := hI.done s
      rw [hdq] at hI2
      have hput := hide ((unhide hH).put (unhide hG) hj hfin.1 hfin.2 (.inl rfl) hI2 (Nat.le_refl _))
      rw [hL'] at hput
      obtain ⟨n, hn⟩ : ∃ n, r.n = n := ⟨_, rfl⟩
      rw [hn] at c2 hdn
      obtain ⟨ph, hph⟩ : ∃ ph, r.ph = ph := ⟨_, rfl⟩
      rw [hph] at c3 hdn
      clear hfin hrow hI hc hdq hok' hn h hI2 hph hL' hrs
      go_enter Try.func15, Try.ntmps15
      go_wp2_with fail
      go_at_call 25
      refine (aHasB_c p g N M L Ft j _ (unhide hH) true hq).mono ?_
      rintro e w' ⟨rfl, hw'⟩
      rw [hw']
      clear hw' w'
      go_wp2_with fail
      go_at_call 31
      refine (rIs_c g (j * 69) n ph 1 s w c2 c3 true hdn).mono ?_
      rintro e w' ⟨rfl, hw'⟩
      rw [hw']
      clear hw' w'
      go_wp2_with fail
      go_ret
      exact ⟨rfl, unhide hput⟩
    | false =>
      have hc := decide_eq_false_iff_not.1 hok'
      have hdq : dnQ r s = r := by unfold dnQ; rw [if_neg hc]
      rw [hdq, hrs] at hL'
      subst hL'
      generalize r.n = n at c2 hdn
      generalize r.ph = ph at c3 hdn
      clear hrow hI hc hdq hok' h hrs
      go_enter Try.func15, Try.ntmps15
      go_wp2_with fail
      go_at_call 25
      refine (aHasB_c p g N M L Ft j _ (unhide hH) true hq).mono ?_
      rintro e w' ⟨rfl, hw'⟩
      rw [hw']
      clear hw' w'
      go_wp2_with fail
      go_at_call 31
      refine (rIs_c g (j * 69) n ph 1 s w c2 c3 false hdn).mono ?_
      rintro e w' ⟨rfl, hw'⟩
      rw [hw']
      clear hw' w'
      go_wp2_with fail
      go_ret
      exact ⟨rfl, Ft, unhide hH, Step.refl _ _⟩
end Go.Proofs.Ytlfdahcbkdiifaa
