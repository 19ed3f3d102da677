/- The contract of Ack (layer 12). -/
import Derived.Test.YtlfdahcbkdiifaaArbB
namespace Go.Proofs.Ytlfdahcbkdiifaa
open Go.ChangeShapes Go.WideShapes Go.ChangeAt Go.RowKit
set_option linter.unusedSimpArgs false
set_option linter.unusedVariables false
set_option maxRecDepth 10000

attribute [local go_sem, local simp] over_const setCell_drewN alloc_drewN Over.cell Over.frozen lt_s1 lt_s2 lt_s3 le_s0 le_s1 le_s2 le_s3 eq_s0 eq_s1 eq_s2 qe_s0

section
variable {a : Act} {o : Oper} {w : World} {ops : Array Oper} {rest : List Oper} {Q : Exit → Act → World → Prop}
theorem exec_loadM (x : Operand) (ho : o.op = .load 55 x) {b k : Nat} (hx : a.eval x = ptrO b k) {f : Nat → Bool} (hc : w.rangeAt b k (mkM f)) : (execOp a.eval o).run Try.prog w = .ok (.value (.agg (mkM f).toArray)) w := by
  unfold execOp
  simp only [ho, hx, Instr.loadAt, Instr.sureAddr, Sem.run_bind, Sem.run_pure, Result.andThen_ok, run_loadVar_mid w b k _ _ _ hc Try.underlying55 rfl (infoMl f)]
theorem exec_neqM (x y : Operand) (ho : o.op = .binOp .neq 55 x y 55) {f g : Nat → Bool} (hx : a.eval x = .agg (mkM f).toArray) (hy : a.eval y = .agg (mkM g).toArray) : (execOp a.eval o).run Try.prog w = .ok (.value (.bool (!eqM f g))) w := by
  unfold execOp
  simp only [ho, hx, hy, Sem.run_bind, Sem.run_pure, Result.andThen_ok, run_eqGuard_agg w _ _ _ _ _ _ Try.eqGuardM, run_neq_marks]
theorem wpList_buildM (hgd : o.guard = none) (ho : o.op = .build 55 #[]) (h : wpList Try.prog ops Q rest (a.put o.dst (.agg (mkM noM).toArray)) w) : wpList Try.prog ops Q (o :: rest) a w :=
  wpList_plain hgd fun K hK => by
    unfold Oper.wp execOp
    simp only [ho, Sem.run_bind, Sem.run_pure, Result.andThen_ok, Array.map_empty, build_marks, List.map_toArray, List.map_nil]
    exact hK _ _ h
end

/-- A row's state and marks anew. -/
theorem row_over {w : World} {g o : Nat} {b : Int} {r : Rq} {ob : Option Nat} (h : RowAt w g o b r ob) (hne : ob ≠ some g) :
    RowAt ((w.setCell ⟨g, o + 3, none⟩ (.int .i64 0)).setCells g (o + 4) (mkM noM)) g o b ⟨r.A, r.n, 0, r.kn⟩ ob ∧ RF g o ob w ((w.setCell ⟨g, o + 3, none⟩ (.int .i64 0)).setCells g (o + 4) (mkM noM)) := by
  obtain ⟨v, h1, h2⟩ := h.wt
  have th1 : (w.setCell ⟨g, o + 3, none⟩ (.int .i64 0)).there g o 69 := World.there_setCells h.c.th g (o + 3) [.int .i64 0]
  have th2 : (w.setCell ⟨g, o + 3, none⟩ (.int .i64 0)).there g (o + 4) (mkM noM).length := fun j hj => by rw [mkM_len] at hj; rw [Nat.add_assoc]; exact th1 (4 + j) (by omega)
  have hx : ∀ i, i < 4 ∨ i = 68 → i ≠ 3 → ((w.setCell ⟨g, o + 3, none⟩ (.int .i64 0)).setCells g (o + 4) (mkM noM)).cell? ⟨g, o + i, none⟩ = w.cell? ⟨g, o + i, none⟩ := fun i hi h3 => by
    rw [World.cell?_setCells_out _ _ _ _ _ (fun _ _ => by rw [mkM_len]; show o + i < o + 4 ∨ o + 4 + 64 ≤ o + i; omega)]
    exact World.cell?_setCell_other _ _ _ _ (fun e => by have : o + 3 = o + i := congrArg Addr.off e; omega)
  have c3 : ((w.setCell ⟨g, o + 3, none⟩ (.int .i64 0)).setCells g (o + 4) (mkM noM)).cell? ⟨g, o + 3, none⟩ = some (.int .i64 0) := by
    rw [World.cell?_setCells_out _ _ _ _ _ (fun _ _ => .inl (by show o + 3 < o + 4; omega))]
    exact World.cell?_setCell_same _ _ _ h.c.c3
  have hk : mkM (knM ⟨r.A, r.n, 0, r.kn⟩) = mkM noM := mkM_ext (fun i _ => by simp [knM])
  have f2 : FrS (· = g) w ((w.setCell ⟨g, o + 3, none⟩ (.int .i64 0)).setCells g (o + 4) (mkM noM)) := (setCells_frS g [.int .i64 0] (o + 3) w).trans (setCells_frS g (mkM noM) (o + 4) _) (fun _ e => .inl e)
  refine ⟨⟨⟨(hx 0 (by omega) (by omega)).trans h.c.c0, (hx 1 (by omega) (by omega)).trans h.c.c1, (hx 2 (by omega) (by omega)).trans h.c.c2, c3, ?_, World.there_setCells th1 _ _ _⟩, v, (hx 68 (by omega) (by omega)).trans h1, ?_⟩, ((RF.refl g o ob w).setCell (by omega) (by omega) _).setCells (by omega) (by rw [mkM_len]; omega)⟩
  · rw [hk]; exact World.rangeAt_setCells_same _ _ _ _ th2
  · exact h2.carry (fun b hb => f2.block b (by subst hb; exact h2.lt) (fun e => hne (by rw [hb, e])))

/-- One more mark. -/
theorem row_mark {w : World} {g o i : Nat} {b : Int} {r : Rq} {ob : Option Nat} (h : RowAt w g o b r ob) (hne : ob ≠ some g) (hp : r.ph = 2) (hi : i < 64) :
    RowAt (w.setCell ⟨g, o + 4 + i, none⟩ (.bool true)) g o b ⟨r.A, r.n, 2, r.kn ++ [(i : Int)]⟩ ob ∧ RF g o ob w (w.setCell ⟨g, o + 4 + i, none⟩ (.bool true)) := by
  obtain ⟨v, h1, h2⟩ := h.wt
  have hx : ∀ q, q ≠ 4 + i → (w.setCell ⟨g, o + 4 + i, none⟩ (.bool true)).cell? ⟨g, o + q, none⟩ = w.cell? ⟨g, o + q, none⟩ := fun q hq => World.cell?_setCell_other _ _ _ _ (fun e => by have : o + 4 + i = o + q := congrArg Addr.off e; omega)
  refine ⟨⟨⟨(hx 0 (by omega)).trans h.c.c0, (hx 1 (by omega)).trans h.c.c1, (hx 2 (by omega)).trans h.c.c2, by rw [hx 3 (by omega), h.c.c3, hp], ?_, World.there_setCells h.c.th g (o + 4 + i) [.bool true]⟩, v, (hx 68 (by omega)).trans h1, ?_⟩, (RF.refl g o ob w).setCell (by omega) (by omega) _⟩
  · intro j u hu
    have hj : j < 64 := by have := (List.getElem?_eq_some_iff.1 hu).1; rwa [mkM_len] at this
    rw [mkM_at _ hj] at hu
    have hold := h.c.kn j _ (mkM_at (knM r) hj)
    by_cases e : j = i
    · subst e
      rw [World.cell?_setCell_same _ _ _ hold, ← hu]
      simp [knM]
    · have e2 := hx (4 + j) (by omega)
      rw [← Nat.add_assoc] at e2
      rw [e2, hold, ← hu]
      have : (j : Int) ≠ i := by omega
      simp [knM, hp, this]
  · exact h2.carry (fun b hb => Below.heap_setCell _ _ _ _ (fun e => hne (by rw [hb, e])))

theorem marks_all {N : Nat} {r : Rq} (hN : N ≤ 64) (hk : ∀ k ∈ r.kn, 0 ≤ k ∧ k < N) (hp : r.ph = 2) : eqM (knM r) (ndM N) = allKQ N r.kn := by
  apply Bool.eq_iff_iff.2
  rw [eqM_iff, allKQ_iff]
  unfold knM ndM
  constructor
  · intro h i hi
    have := h i (by omega)
    simp only [hp, hi, decide_true, Bool.true_and, decide_eq_true_eq] at this
    exact this
  · intro h i hi
    by_cases c : i < N
    · simp [hp, c, h i c]
    · have : ¬ (i : Int) ∈ r.kn := fun e => by have := hk _ e; omega
      simp [c, this]

/-- Behind one more mark. -/
structure AckMid (w W : World) (p g o N : Nat) (b : Int) (r : Rq) (ob : Option Nat) : Prop where
  row : RowAt W g o b r ob
  rf : RF g o ob w W
  res : W.heap[w.heap.size]? = some (resO at0)
  ms : W.rangeAt p 0 (mkM (ndM N))

theorem AckMid.below {w W V : World} {p g o N : Nat} {b : Int} {r : Rq} {ob : Option Nat} (h : AckMid w W p g o N b r ob) (hb : Below W.heap.size W V) : AckMid w V p g o N b r ob :=
  ⟨h.row.below hb, h.rf.trans (RF.of_below hb h.row.gl) (.inl rfl), (hb.block _ (Array.getElem?_eq_some_iff.1 h.res).1).trans h.res, fun j v hv => by have := h.ms j v hv; exact keep_cell (hb.block p (block_lt_of_cell this)) this⟩
theorem ack_mid {w : World} {p g N M j i : Nat} {L : List Rq} {Ft : Nat → Prop} {G : Nat → Option Nat} {r : Rq} (h : ArIs w p g N M L Ft) (hG : Rows12 w g Ft L G) (hj : j < L.length) (hrow : RowAt w g (j * 69) j r (G j)) (hp : r.ph = 2) (hi : i < 64) :
    AckMid w ((w.setCell ⟨g, j * 69 + 4 + i, none⟩ (.bool true)).alloc (resO at0)) p g (j * 69) N j ⟨r.A, r.n, 2, r.kn ++ [(i : Int)]⟩ (G j) := by
  have hne : G j ≠ some g := fun e => (hG.own j g hj e).2 rfl
  have hm := row_mark (i := i) hrow hne hp hi
  have hB : Below _ (w.setCell ⟨g, j * 69 + 4 + i, none⟩ (.bool true)) ((w.setCell ⟨g, j * 69 + 4 + i, none⟩ (.bool true)).alloc (resO at0)) := (Below.refl _ _).alloc (Nat.le_refl _) _
  have hrf := hm.2.trans (RF.of_below (ob := G j) (o := j * 69) hB hm.1.gl) (.inl rfl)
  refine ⟨hm.1.below hB, hrf, ?_, fun k v hv => ?_⟩
  · have := heap_alloc_new (w.setCell ⟨g, j * 69 + 4 + i, none⟩ (.bool true)) (resO at0)
    simpa using this
  · refine keep_cell (hrf.fr.block p h.pl ?_) (h.marks k v hv)
    rintro (e | e)
    · exact h.fp (e ▸ h.fg)
    · exact h.fp (hG.own j p hj e).1




set_option maxHeartbeats 1000000 in
theorem aAck_c (p g N M : Nat) (L : List Rq) (Ft : Nat → Prop) (x s y : Int) (w : World) (h : ArIs w p g N M L Ft) (hM : M + 1 ≤ 100000) (a : At) (ha : Hid (atAck N L x s y = a)) (ok : Bool) (hok : Hid (okAck N L x s y = ok)) : Calls Try.prog 17 #[ptr p, .int .i64 x, .int .i64 s, .int .i64 y] w fun e w' => e = .returned (.tuple #[.agg #[.int .i64 a.b, .int .i64 a.n, .int .i64 a.s], .bool ok]) ∧ ∃ Ft', ArIs w' p g N (M + 1) (nxAck N L x s y) Ft' ∧ Step Ft Ft' w w' := by
  have hH := hide h
  obtain ⟨cap, c64, -, -⟩ := h.c64
  have hpl := h.pl
  have hgl := h.gl
  obtain ⟨q, hq⟩ : ∃ q, Hid (hasQ L.length x = q) := ⟨_, rfl⟩
  obtain ⟨q2, hq2⟩ : ∃ q2, Hid (hasQ N y = q2) := ⟨_, rfl⟩
  have ha' := ha.out
  have hok' := hok.out
  unfold atAck at ha'
  unfold okAck at hok'
  obtain ⟨L', hL'⟩ : ∃ L', nxAck N L x s y = L' := ⟨_, rfl⟩
  rw [hL']
  unfold nxAck at hL'
  rw [hq.out, hq2.out] at ha' hok' hL'
  cases q with
  | false =>
    obtain rfl : ok = false := by rw [← hok']; rfl
    obtain rfl : a = at0 := by rw [← ha']; rfl
    obtain rfl : L = L' := by rw [← hL']; rfl
    clear ha' hok' hL' h
    go_enter Try.func17, Try.ntmps17
    go_wp2_with fail
    go_at_call 25
    refine (aHasB_c p g N M L Ft x _ ((unhide hH).alloc _) false hq).mono ?_
    rintro e w' ⟨rfl, hw'⟩
    rw [hw']
    clear hw' w'
    go_wp2_with fail
    refine bodyPost_ret (by simp [results, Try.results17, go_sem, *]; done) rfl ⟨rfl, Ft, ((unhide hH).alloc _).mono (Nat.le_succ M), ?_⟩
    exact Step.of_below ((Below.refl _ _).alloc (Nat.le_refl _) _)
  | true =>
  obtain ⟨j, rfl, hj⟩ := hasQ_iff.1 hq.out
  have hj' : (j : Int) < L.length := by omega
  cases q2 with
  | false =>
    obtain rfl : ok = false := by rw [← hok']; rfl
    obtain rfl : a = at0 := by rw [← ha']; rfl
    obtain rfl : L = L' := by rw [← hL']; rfl
    clear ha' hok' hL' h
    go_enter Try.func17, Try.ntmps17
    go_wp2_with fail
    go_at_call 25
    refine (aHasB_c p g N M L Ft j _ ((unhide hH).alloc _) true hq).mono ?_
    rintro e w' ⟨rfl, hw'⟩
    rw [hw']
    clear hw' w'
    go_wp2_with fail
    go_at_call 26
    refine (aHasN_c p g N M L Ft y _ ((unhide hH).alloc _) false hq2).mono ?_
    rintro e w' ⟨rfl, hw'⟩
    rw [hw']
    clear hw' w'
    go_wp2_with fail
    refine bodyPost_ret (by simp [results, Try.results17, go_sem, *]; done) rfl ⟨rfl, Ft, ((unhide hH).alloc _).mono (Nat.le_succ M), ?_⟩
    exact Step.of_below ((Below.refl _ _).alloc (Nat.le_refl _) _)
  | true =>
    rw [Bool.true_and, if_pos rfl, getQ_at hj] at ha'
    rw [Bool.true_and, Bool.true_and, getQ_at hj] at hok'
    rw [Bool.true_and, if_pos rfl, getQ_at hj, Int.toNat_natCast] at hL'
    obtain ⟨G, hG⟩ := h.rows
    have hrow := hG.row j hj
    have hI := h.inv.get hj
    obtain ⟨r, hr⟩ : ∃ r, L[j] = r := ⟨_, rfl⟩
    have hrs : L.set j r = L := by rw [← hr]; exact List.set_getElem_self hj
    rw [hr] at hrow ha' hok' hL' hI
    have hne : G j ≠ some g := fun e => (hG.own j g hj e).2 rfl
    have hRb : G j ≠ some w.heap.size := fun e => by have := h.lt _ (hG.own j _ hj e).1; omega
    have c2 := hrow.c.c2
    have c3 := hrow.c.c3
    obtain ⟨n, hn⟩ : ∃ n, r.n = n := ⟨_, rfl⟩
    obtain ⟨ph, hph⟩ : ∃ ph, r.ph = ph := ⟨_, rfl⟩
    unfold nxKQ at hL'
    unfold atKQ at ha'
    unfold okKQ at hok'
    obtain ⟨is, his⟩ : ∃ is, isEQ r s = is := ⟨_, rfl⟩
    rw [his] at ha' hok' hL'
    have hdn : Hid (decide (ph = 2 ∧ (n : Int) = s) = is) := hide (by rw [← hn, ← hph]; exact his)
    rw [hn] at c2
    rw [hph] at c3
    cases is with
    | false =>
      obtain rfl : ok = false := by rw [← hok']; rfl
      obtain rfl : a = at0 := by rw [← ha']; rfl
      rw [if_neg (by decide), hrs] at hL'
      subst hL'
      clear ha' hok' h hrow hI hG hr hrs hn hph his
      go_enter Try.func17, Try.ntmps17
      go_wp2_with fail
      go_at_call 25
      refine (aHasB_c p g N M L Ft j _ ((unhide hH).alloc _) true hq).mono ?_
      rintro e w' ⟨rfl, hw'⟩
      rw [hw']
      clear hw' w'
      go_wp2_with fail
      go_at_call 26
      refine (aHasN_c p g N M L Ft y _ ((unhide hH).alloc _) true hq2).mono ?_
      rintro e w' ⟨rfl, hw'⟩
      rw [hw']
      clear hw' w'
      go_wp2_with fail
      go_at_call 31
      refine (rIs_c g (j * 69) n ph 2 s _ (by simp [go_sem, *]) (by simp [go_sem, *]) false hdn).mono ?_
      rintro e w' ⟨rfl, hw'⟩
      rw [hw']
      clear hw' w'
      go_wp2_with fail
      refine bodyPost_ret (by simp [results, Try.results17, go_sem, *]; done) rfl ⟨rfl, Ft, ((unhide hH).alloc _).mono (Nat.le_succ M), ?_⟩
      exact Step.of_below ((Below.refl _ _).alloc (Nat.le_refl _) _)
    | true =>
      obtain ⟨i, rfl, hi⟩ := hasQ_iff.1 hq2.out
      have hi64 : i < 64 := Nat.lt_of_lt_of_le hi h.n64
      have hi64' : (i : Int) < 64 := by omega
      rw [if_pos rfl] at ha' hL'
      rw [Bool.true_and] at hok'
      have hie := decide_eq_true_iff.1 his
      have hM1 := ack_mid (i := i) h hG hj hrow hie.1 hi64
      have hkm := hrow.c.kn i _ (mkM_at (knM r) hi64)
      have hfm := (hrow.c.th (4 + i) (by omega)).2
      rw [← Nat.add_assoc] at hfm
      generalize knM r i = km at hkm
      obtain ⟨r1, hr1⟩ : ∃ r1 : Rq, ⟨r.A, r.n, 2, r.kn ++ [(i : Int)]⟩ = r1 := ⟨_, rfl⟩
      rw [hr1] at hM1
      have hks := (hI.kn hie.1 (x := i) (by omega)).ks
      have hall : eqM (knM r1) (ndM N) = allKQ N (r.kn ++ [(i : Int)]) := by
        have := marks_all (r := r1) h.n64 (by rw [← hr1]; exact hks) (by rw [← hr1])
        rw [this, ← hr1]
      replace hM1 := hide hM1
      clear hks
      obtain ⟨all, hal⟩ : ∃ all, allKQ N (r.kn ++ [(i : Int)]) = all := ⟨_, rfl⟩
      rw [hal] at hall
      have hkq : knQ N r i = ⟨r.A, r.n, if all then 0 else 2, r.kn ++ [(i : Int)]⟩ := by unfold knQ; rw [hal]
      have hIk := (hI.kn hie.1 (x := i) (by omega))
      rw [hkq] at hL' hok' ha' hIk
      replace hG := hide hG
      replace hall := hide hall
      clear hn hph his hrow hI hr hrs h hal hkq
      cases all with
      | false =>
        have hr2 : (⟨r.A, r.n, if false then 0 else 2, r.kn ++ [(i : Int)]⟩ : Rq) = r1 := by rw [← hr1]; rfl
        rw [hr2] at hL' hok' ha' hIk
        have hph1 : r1.ph ≠ 0 := by rw [← hr1]; simp
        have hnx : nxBQ r1 = r1 := by unfold nxBQ; rw [if_neg (fun e => hph1 e.1)]
        obtain rfl : ok = false := by rw [← hok']; unfold okBQ; exact decide_eq_false (fun e => hph1 e.1)
        obtain rfl : a = at0 := by rw [← ha']; unfold atBQ; rw [if_neg (fun e => hph1 e.1)]
        have hIn := hIk.nextInv
        rw [hnx] at hL' hIn
        replace hIn := hide hIn
        replace hL' := hide hL'
        clear hr1 hr2 hph1 hnx hok' ha' hIk hie
        go_enter Try.func17, Try.ntmps17
        go_wp2_with fail
        go_at_call 25
        refine (aHasB_c p g N M L Ft j _ ((unhide hH).alloc _) true hq).mono ?_
        rintro e w' ⟨rfl, hw'⟩
        rw [hw']
        clear hw' w'
        go_wp2_with fail
        go_at_call 26
        refine (aHasN_c p g N M L Ft i _ ((unhide hH).alloc _) true hq2).mono ?_
        rintro e w' ⟨rfl, hw'⟩
        rw [hw']
        clear hw' w'
        go_wp2_with fail
        go_at_call 31
        refine (rIs_c g (j * 69) n ph 2 s _ (by simp [go_sem, *]) (by simp [go_sem, *]) true hdn).mono ?_
        rintro e w' ⟨rfl, hw'⟩
        rw [hw']
        clear hw' w'
        go_wp2_with fail
        refine name_world ?_
        intro W hW
        have hMW : Hid (AckMid w W p g (j * 69) N j r1 (G j)) := by rw [← hW]; exact hM1
        clear hW hM1 hkm hfm c2 c3 c64
        go_wp2_with fail
        refine wp_region_noPanic ?_
        refine wp_region_held_drew (S := (fun w' => Hid (w'.rangeAt g (j * 69 + 4) (mkM (knM r1))) ∧ Hid (w'.rangeAt p 0 (mkM (ndM N))))) (by kernel_rfl) ?_ (fun hHeld => ?_)
        · exact ⟨hide ((World.rangeAt_drew _ _ _ _).2 hMW.out.row.c.kn), hide ((World.rangeAt_drew _ _ _ _).2 hMW.out.ms)⟩
        refine hand_take (i := 0) (d := some 44) (v := ?_) rfl (by kernel_rfl) (by kernel_rfl) (by kernel_rfl) (fun _ _ _ h => h) ?_ hHeld ?_
        rotate_left
        · intro o ho
          simp at ho
          subst ho
          intro wz hSw
          try dsimp only at hSw
          go_simp
          try with_reducible rfl
        try simp only [Act.put, List.setIfInBounds_toArray, List.set_cons_zero, List.set_cons_succ]
        refine hand_take (i := 1) (d := some 45) (v := ?_) rfl (by kernel_rfl) (by kernel_rfl) (by kernel_rfl) (fun _ _ _ h => h) ?_ hHeld ?_
        rotate_left
        · intro o ho
          simp at ho
          subst ho
          intro wz hSw
          try dsimp only at hSw
          go_simp
          try with_reducible rfl
        try simp only [Act.put, List.setIfInBounds_toArray, List.set_cons_zero, List.set_cons_succ]
        refine hand_take (i := 2) (d := some 46) (v := ?_) rfl (by kernel_rfl) (by kernel_rfl) (by kernel_rfl) (fun _ _ _ h => h) ?_ hHeld ?_
        rotate_left
        · intro o ho
          simp at ho
          subst ho
          intro wz hSw
          try dsimp only at hSw
          go_simp
          try with_reducible rfl
        try simp only [Act.put, List.setIfInBounds_toArray, List.set_cons_zero, List.set_cons_succ]
        refine hand_take (i := 4) (d := some 48) (v := ?_) rfl (by kernel_rfl) (by kernel_rfl) (by kernel_rfl) (fun _ _ _ h => h) ?_ hHeld ?_
        rotate_left
        · intro o ho
          simp at ho
          subst ho
          intro wz hSw
          try dsimp only at hSw
          go_simp
          try with_reducible rfl
        try simp only [Act.put, List.setIfInBounds_toArray, List.set_cons_zero, List.set_cons_succ]
        refine hand_take (i := 5) (d := some 49) (v := ?_) rfl (by kernel_rfl) (by kernel_rfl) (by kernel_rfl) (fun _ _ _ h => h) ?_ hHeld ?_
        rotate_left
        · intro o ho
          simp at ho
          subst ho
          intro wz hSw
          try dsimp only at hSw
          go_simp
          try with_reducible rfl
        try simp only [Act.put, List.setIfInBounds_toArray, List.set_cons_zero, List.set_cons_succ]
        refine hand_take (i := 6) (d := some 50) (v := ?_) rfl (by kernel_rfl) (by kernel_rfl) (by kernel_rfl) (fun _ _ _ h => h) ?_ hHeld ?_
        rotate_left
        · intro o ho
          simp at ho
          subst ho
          intro wz hSw
          try dsimp only at hSw
          go_simp
          try with_reducible rfl
        try simp only [Act.put, List.setIfInBounds_toArray, List.set_cons_zero, List.set_cons_succ]
        refine hand_take (i := 3) (d := some 47) (v := .agg (mkM (knM r1)).toArray) rfl (by kernel_rfl) (by kernel_rfl) (by kernel_rfl) (fun _ _ _ h => h) ?_ hHeld ?_
        · intro o ho
          simp at ho
          subst ho
          intro wz hSw
          try dsimp only at hSw
          exact exec_loadM (.tmp 46) rfl rfl hSw.1.out
        try simp only [Act.put, List.setIfInBounds_toArray, List.set_cons_zero, List.set_cons_succ]
        refine hand_take (i := 7) (d := some 51) (v := .agg (mkM (ndM N)).toArray) rfl (by kernel_rfl) (by kernel_rfl) (by kernel_rfl) (fun _ _ _ h => h) ?_ hHeld ?_
        · intro o ho
          simp at ho
          subst ho
          intro wz hSw
          try dsimp only at hSw
          exact exec_loadM (.tmp 50) rfl rfl hSw.2.out
        try simp only [Act.put, List.setIfInBounds_toArray, List.set_cons_zero, List.set_cons_succ]
        refine hand_take (i := 8) (d := some 52) (v := .bool true) rfl (by kernel_rfl) (by kernel_rfl) (by kernel_rfl) (fun _ _ _ h => h) ?_ hHeld ?_
        · intro o ho
          simp at ho
          subst ho
          intro wz hSw
          try dsimp only at hSw
          rw [exec_neqM (.tmp 47) (.tmp 51) rfl rfl rfl, hall.out]; rfl
        try simp only [Act.put, List.setIfInBounds_toArray, List.set_cons_zero, List.set_cons_succ]
        refine wpAnyH_done (by kernel_rfl) (NoPanic.normal ?_) _
        clear hHeld
        obtain ⟨V, hV⟩ : ∃ V, W.drew = V := ⟨_, rfl⟩
        rw [hV]
        have hMV : Hid (AckMid w V p g (j * 69) N j r1 (G j)) := by rw [← hV]; exact hide (hMW.out.below (Below.refl _ _).drew)
        clear hV hMW
        have y0 : V.cell? ⟨w.heap.size, 0, none⟩ = some (.int .i64 0) := cell_of_row _ _ _ _ _ _ hMV.out.res
        have y1 : V.cell? ⟨w.heap.size, 1, none⟩ = some (.int .i64 0) := cell_of_row _ _ _ _ _ _ hMV.out.res
        have y2 : V.cell? ⟨w.heap.size, 2, none⟩ = some (.int .i64 0) := cell_of_row _ _ _ _ _ _ hMV.out.res
        have e0 : V.frozen? ⟨w.heap.size, 0, none⟩ = false := frozen_of_row _ _ _ _ _ hMV.out.res
        have e1 : V.frozen? ⟨w.heap.size, 1, none⟩ = false := frozen_of_row _ _ _ _ _ hMV.out.res
        have e2 : V.frozen? ⟨w.heap.size, 2, none⟩ = false := frozen_of_row _ _ _ _ _ hMV.out.res
        have hfin := hide (ask_fin (unhide hH) (unhide hG) hj hMV.out.row hMV.out.rf (.inl rfl) hRb hIn.out (Nat.le_succ M) hL'.out at0)
        go_wp2_with fail
        refine bodyPost_ret (by simp [results, Try.results17, go_sem, *]; done) rfl ⟨rfl, ?_⟩
        exact hfin.out
      | true =>
        obtain ⟨r2, hr2⟩ : ∃ r2 : Rq, ⟨r.A, r.n, 0, r.kn ++ [(i : Int)]⟩ = r2 := ⟨_, rfl⟩
        have hr3 : (⟨r.A, r.n, if true then 0 else 2, r.kn ++ [(i : Int)]⟩ : Rq) = r2 := by rw [← hr2]; rfl
        rw [hr3] at hL' hok' ha' hIk
        have hph2 : Hid (r2.ph = 0) := hide (by rw [← hr2])
        have hr12 : Hid ((⟨r1.A, r1.n, 0, r1.kn⟩ : Rq) = r2) := hide (by rw [← hr1, ← hr2])
        replace hIk := hide hIk
        replace hL' := hide hL'
        replace hok' := hide hok'
        replace ha' := hide ha'
        clear hr1 hr2 hr3 hie
        go_enter Try.func17, Try.ntmps17
        go_wp2_with fail
        go_at_call 25
        refine (aHasB_c p g N M L Ft j _ ((unhide hH).alloc _) true hq).mono ?_
        rintro e w' ⟨rfl, hw'⟩
        rw [hw']
        clear hw' w'
        go_wp2_with fail
        go_at_call 26
        refine (aHasN_c p g N M L Ft i _ ((unhide hH).alloc _) true hq2).mono ?_
        rintro e w' ⟨rfl, hw'⟩
        rw [hw']
        clear hw' w'
        go_wp2_with fail
        go_at_call 31
        refine (rIs_c g (j * 69) n ph 2 s _ (by simp [go_sem, *]) (by simp [go_sem, *]) true hdn).mono ?_
        rintro e w' ⟨rfl, hw'⟩
        rw [hw']
        clear hw' w'
        go_wp2_with fail
        refine name_world ?_
        intro W hW
        have hMW : Hid (AckMid w W p g (j * 69) N j r1 (G j)) := by rw [← hW]; exact hM1
        clear hW hM1 hkm hfm c2 c3 c64
        go_wp2_with fail
        refine wp_region_noPanic ?_
        refine wp_region_held_drew (S := (fun w' => Hid (w'.rangeAt g (j * 69 + 4) (mkM (knM r1))) ∧ Hid (w'.rangeAt p 0 (mkM (ndM N))))) (by kernel_rfl) ?_ (fun hHeld => ?_)
        · exact ⟨hide ((World.rangeAt_drew _ _ _ _).2 hMW.out.row.c.kn), hide ((World.rangeAt_drew _ _ _ _).2 hMW.out.ms)⟩
        refine hand_take (i := 0) (d := some 44) (v := ?_) rfl (by kernel_rfl) (by kernel_rfl) (by kernel_rfl) (fun _ _ _ h => h) ?_ hHeld ?_
        rotate_left
        · intro o ho
          simp at ho
          subst ho
          intro wz hSw
          try dsimp only at hSw
          go_simp
          try with_reducible rfl
        try simp only [Act.put, List.setIfInBounds_toArray, List.set_cons_zero, List.set_cons_succ]
        refine hand_take (i := 1) (d := some 45) (v := ?_) rfl (by kernel_rfl) (by kernel_rfl) (by kernel_rfl) (fun _ _ _ h => h) ?_ hHeld ?_
        rotate_left
        · intro o ho
          simp at ho
          subst ho
          intro wz hSw
          try dsimp only at hSw
          go_simp
          try with_reducible rfl
        try simp only [Act.put, List.setIfInBounds_toArray, List.set_cons_zero, List.set_cons_succ]
        refine hand_take (i := 2) (d := some 46) (v := ?_) rfl (by kernel_rfl) (by kernel_rfl) (by kernel_rfl) (fun _ _ _ h => h) ?_ hHeld ?_
        rotate_left
        · intro o ho
          simp at ho
          subst ho
          intro wz hSw
          try dsimp only at hSw
          go_simp
          try with_reducible rfl
        try simp only [Act.put, List.setIfInBounds_toArray, List.set_cons_zero, List.set_cons_succ]
        refine hand_take (i := 4) (d := some 48) (v := ?_) rfl (by kernel_rfl) (by kernel_rfl) (by kernel_rfl) (fun _ _ _ h => h) ?_ hHeld ?_
        rotate_left
        · intro o ho
          simp at ho
          subst ho
          intro wz hSw
          try dsimp only at hSw
          go_simp
          try with_reducible rfl
        try simp only [Act.put, List.setIfInBounds_toArray, List.set_cons_zero, List.set_cons_succ]
        refine hand_take (i := 5) (d := some 49) (v := ?_) rfl (by kernel_rfl) (by kernel_rfl) (by kernel_rfl) (fun _ _ _ h => h) ?_ hHeld ?_
        rotate_left
        · intro o ho
          simp at ho
          subst ho
          intro wz hSw
          try dsimp only at hSw
          go_simp
          try with_reducible rfl
        try simp only [Act.put, List.setIfInBounds_toArray, List.set_cons_zero, List.set_cons_succ]
        refine hand_take (i := 6) (d := some 50) (v := ?_) rfl (by kernel_rfl) (by kernel_rfl) (by kernel_rfl) (fun _ _ _ h => h) ?_ hHeld ?_
        rotate_left
        · intro o ho
          simp at ho
          subst ho
          intro wz hSw
          try dsimp only at hSw
          go_simp
          try with_reducible rfl
        try simp only [Act.put, List.setIfInBounds_toArray, List.set_cons_zero, List.set_cons_succ]
        refine hand_take (i := 3) (d := some 47) (v := .agg (mkM (knM r1)).toArray) rfl (by kernel_rfl) (by kernel_rfl) (by kernel_rfl) (fun _ _ _ h => h) ?_ hHeld ?_
        · intro o ho
          simp at ho
          subst ho
          intro wz hSw
          try dsimp only at hSw
          exact exec_loadM (.tmp 46) rfl rfl hSw.1.out
        try simp only [Act.put, List.setIfInBounds_toArray, List.set_cons_zero, List.set_cons_succ]
        refine hand_take (i := 7) (d := some 51) (v := .agg (mkM (ndM N)).toArray) rfl (by kernel_rfl) (by kernel_rfl) (by kernel_rfl) (fun _ _ _ h => h) ?_ hHeld ?_
        · intro o ho
          simp at ho
          subst ho
          intro wz hSw
          try dsimp only at hSw
          exact exec_loadM (.tmp 50) rfl rfl hSw.2.out
        try simp only [Act.put, List.setIfInBounds_toArray, List.set_cons_zero, List.set_cons_succ]
        refine hand_take (i := 8) (d := some 52) (v := .bool false) rfl (by kernel_rfl) (by kernel_rfl) (by kernel_rfl) (fun _ _ _ h => h) ?_ hHeld ?_
        · intro o ho
          simp at ho
          subst ho
          intro wz hSw
          try dsimp only at hSw
          rw [exec_neqM (.tmp 47) (.tmp 51) rfl rfl rfl, hall.out]; rfl
        try simp only [Act.put, List.setIfInBounds_toArray, List.set_cons_zero, List.set_cons_succ]
        refine wpAnyH_done (by kernel_rfl) (NoPanic.normal ?_) _
        clear hHeld
        obtain ⟨V, hV⟩ : ∃ V, W.drew = V := ⟨_, rfl⟩
        rw [hV]
        have hMV : Hid (AckMid w V p g (j * 69) N j r1 (G j)) := by rw [← hV]; exact hide (hMW.out.below (Below.refl _ _).drew)
        clear hV hMW
        have y0 : V.cell? ⟨w.heap.size, 0, none⟩ = some (.int .i64 0) := cell_of_row _ _ _ _ _ _ hMV.out.res
        have y1 : V.cell? ⟨w.heap.size, 1, none⟩ = some (.int .i64 0) := cell_of_row _ _ _ _ _ _ hMV.out.res
        have y2 : V.cell? ⟨w.heap.size, 2, none⟩ = some (.int .i64 0) := cell_of_row _ _ _ _ _ _ hMV.out.res
        have e0 : V.frozen? ⟨w.heap.size, 0, none⟩ = false := frozen_of_row _ _ _ _ _ hMV.out.res
        have e1 : V.frozen? ⟨w.heap.size, 1, none⟩ = false := frozen_of_row _ _ _ _ _ hMV.out.res
        have e2 : V.frozen? ⟨w.heap.size, 2, none⟩ = false := frozen_of_row _ _ _ _ _ hMV.out.res
        have hO := row_over hMV.out.row hne
        rw [hr12.out] at hO
        have k3 := hMV.out.row.c.c3
        have fr3 := (hMV.out.row.c.th 3 (by omega)).2
        have th1 : (V.setCell ⟨g, j * 69 + 3, none⟩ (.int .i64 0)).there g (j * 69 + 4) (mkM noM).toArray.size := fun k hk => by rw [List.size_toArray, mkM_len] at hk; rw [Nat.add_assoc]; exact World.there_setCells hMV.out.row.c.th g (j * 69 + 3) [.int .i64 0] (4 + k) (by omega)
        obtain ⟨W7, hW7⟩ : ∃ W7, (V.setCell ⟨g, j * 69 + 3, none⟩ (.int .i64 0)).setCells g (j * 69 + 4) (mkM noM) = W7 := ⟨_, rfl⟩
        rw [hW7] at hO
        have hb7 : W7.heap[w.heap.size]? = some (resO at0) := by
          rw [← hW7]
          exact ((setCells_frS g (mkM noM) (j * 69 + 4) _).block _ (by simp; exact block_lt_of_cell y0) (by omega)).trans ((Below.heap_setCell _ _ _ _ (by show w.heap.size ≠ g; omega)).trans hMV.out.res)
        generalize r1.ph = ph1 at k3
        replace hW7 := hide hW7
        replace th1 := hide th1
        replace hO := hide hO
        replace hb7 := hide hb7
        clear y0 y1 y2 e0 e1 e2
        go_wp2_with (first | (refine wpList_buildM rfl rfl ?_) | (refine wpList_store_mid rfl _ _ _ rfl g (j * 69 + 4) (mkM noM).toArray rfl rfl th1.out (infoMs noM) (mkM_all noM) ?_; rw [List.toList_toArray, hW7.out]; clear k3 fr3))
        go_at_call 27
        refine (rNext_c g (j * 69) j r2 (G j) N (M + 1) W7 hO.out.1 hph2.out hIk.out hM hne a ha' ok hok').mono ?_
        rintro e w4 ⟨rfl, hR4, hF4⟩
        have hb4 : w4.heap[w.heap.size]? = some (resO at0) := (hF4.fr.block w.heap.size (Array.getElem?_eq_some_iff.1 hb7.out).1 (fun e => by rcases e with e | e; omega; exact hRb e)).trans hb7.out
        have z0 : w4.cell? ⟨w.heap.size, 0, none⟩ = some (.int .i64 0) := cell_of_row _ _ _ _ _ _ hb4
        have z1 : w4.cell? ⟨w.heap.size, 1, none⟩ = some (.int .i64 0) := cell_of_row _ _ _ _ _ _ hb4
        have z2 : w4.cell? ⟨w.heap.size, 2, none⟩ = some (.int .i64 0) := cell_of_row _ _ _ _ _ _ hb4
        have x0 : w4.frozen? ⟨w.heap.size, 0, none⟩ = false := frozen_of_row _ _ _ _ _ hb4
        have x1 : w4.frozen? ⟨w.heap.size, 1, none⟩ = false := frozen_of_row _ _ _ _ _ hb4
        have x2 : w4.frozen? ⟨w.heap.size, 2, none⟩ = false := frozen_of_row _ _ _ _ _ hb4
        have hfin := hide (ask_fin (unhide hH) (unhide hG) hj hR4 ((hMV.out.rf.trans hO.out.2 (.inl rfl)).trans hF4 (.inl rfl)) (.inl rfl) hRb hIk.out.nextInv (Nat.le_succ M) hL'.out a)
        clear hF4 hb4 hR4
        go_wp2_with fail
        refine bodyPost_ret (by simp [results, Try.results17, go_sem, *]; done) rfl ⟨rfl, ?_⟩
        exact hfin.out
end Go.Proofs.Ytlfdahcbkdiifaa
