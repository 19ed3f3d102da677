/- layer 16: RdD, put together. -/
import Derived.Test.YtmgjgeaigdiadaaDoorB33
namespace Go.Proofs.YtmgjgeaigdiadaaDoor
open Go.ChangeShapes Go.WideShapes Go.ChangeAt Go.RowKit
set_option linter.unusedSimpArgs false
set_option linter.unusedVariables false
set_option maxRecDepth 10000
attribute [local go_sem, local simp] over_const setCell_drewN alloc_drewN Over.cell Over.frozen lt_s1 lt_s2 lt_s3 le_s0 le_s1 le_s2 le_s3 eq_s0 eq_s1 eq_s2 qe_s0
set_option maxHeartbeats 8000000 in
theorem dAckT_c (q h N M : Nat) (L : List Rq) (F : Nat → Prop) (x s y : Int) (w : World) (hr : RdIs w q h N M L F) (hM : M + 1 ≤ 100000) (a : At) (ha : Hid (atAck N L x s y = a)) (ok : Bool) (hok : Hid (okAck N L x s y = ok)) (hF : Hid (hasQ L.length x = true → hasQ N y = true → isEQ (getQ L x) s = true → allKQ N ((getQ L x).kn ++ [y]) = false → (Calls Tryd.prog 38 #[ptr q, .int .i64 x, .int .i64 s, .int .i64 y] w fun e w' => e = .returned (.tuple #[.agg #[.int .i64 a.b, .int .i64 a.n, .int .i64 a.s], .bool ok]) ∧ ∃ F', RdIs w' q h N (M + 1) (nxAck N L x s y) F' ∧ Step F F' w w'))) : (Calls Tryd.prog 38 #[ptr q, .int .i64 x, .int .i64 s, .int .i64 y] w fun e w' => e = .returned (.tuple #[.agg #[.int .i64 a.b, .int .i64 a.n, .int .i64 a.s], .bool ok]) ∧ ∃ F', RdIs w' q h N (M + 1) (nxAck N L x s y) F' ∧ Step F F' w w') := by
  have hH := hide hr
  have c0 := hr.c0
  have c1 := hr.c1
  have hql := hr.ql
  have hhl := hr.hl
  have hqh : ¬ q = h := fun e => hr.fq (e ▸ hr.fh)
  have hqh' : ¬ h = q := fun e => hqh e.symm
  have hN64 := hr.n64
  obtain ⟨b, hb⟩ : ∃ b, Hid (hasQ L.length x = b) := ⟨_, rfl⟩
  obtain ⟨b2, hb2⟩ : ∃ b2, Hid (hasQ N y = b2) := ⟨_, rfl⟩
  have ha' := ha.out
  have hok' := hok.out
  unfold atAck at ha'
  unfold okAck at hok'
  obtain ⟨L', hL'⟩ : ∃ L', nxAck N L x s y = L' := ⟨_, rfl⟩
  rw [hL']
  have hL0 := hide hL'
  unfold nxAck at hL'
  rw [hb.out, hb2.out] at ha' hok' hL'
  cases b with
  | false =>
    obtain rfl : ok = false := by rw [← hok']; rfl
    obtain rfl : a = at0 := by rw [← ha']; rfl
    obtain rfl : L = L' := by rw [← hL']; rfl
    clear ha' hok' hL' hr
    go_enter Tryd.func38, Tryd.ntmps38
    go_wp2_with fail
    go_at_call 40
    refine (dBlock_c q h N M L F x _ (hH.out.alloc _) false hb).mono ?_
    rintro e w' ⟨rfl, hw'⟩
    rw [hw']
    clear hw' w'
    go_wp2_with fail
    refine bodyPost_ret (by simp [results, Tryd.results38, go_sem, *]; done) rfl ⟨rfl, F, (hH.out.alloc _).mono (Nat.le_succ M), ?_⟩
    exact Step.of_below ((Below.refl _ _).alloc (Nat.le_refl _) _)
  | true =>
  obtain ⟨j, rfl, hj⟩ := hasQ_iff.1 hb.out
  have hj' : (j : Int) < L.length := by omega
  cases b2 with
  | false =>
    obtain rfl : ok = false := by rw [← hok']; rfl
    obtain rfl : a = at0 := by rw [← ha']; rfl
    obtain rfl : L = L' := by rw [← hL']; rfl
    clear ha' hok' hL' hr
    rcases hasQ_no.1 hb2.out with c | c
    all_goals
      go_enter Tryd.func38, Tryd.ntmps38
      go_wp2_with fail
      go_at_call 40
      refine (dBlock_c q h N M L F j _ (hH.out.alloc _) true hb).mono ?_
      rintro e w' ⟨rfl, hw'⟩
      rw [hw']
      clear hw' w'
      go_wp2_with fail
      refine bodyPost_ret (by simp [results, Tryd.results38, go_sem, *]; done) rfl ⟨rfl, F, (hH.out.alloc _).mono (Nat.le_succ M), ?_⟩
      exact Step.of_below ((Below.refl _ _).alloc (Nat.le_refl _) _)
  | true =>
    obtain ⟨yn, hyn, hyl⟩ := hasQ_iff.1 hb2.out
    have y0 : ¬ y < 0 := by omega
    have y1 : y < (N : Int) := by omega
    have hyN : Hid (0 ≤ y ∧ y < (N : Int)) := hide ⟨by omega, y1⟩
    clear hyn hyl yn
    rw [Bool.true_and, if_pos rfl, getQ_at hj] at ha'
    rw [Bool.true_and, Bool.true_and, getQ_at hj] at hok'
    rw [Bool.true_and, if_pos rfl, getQ_at hj, Int.toNat_natCast] at hL'
    have hrow := hr.rows j hj
    have hI := hr.inv.get hj
    obtain ⟨r, hrj⟩ : ∃ r, L[j] = r := ⟨_, rfl⟩
    have hrs : L.set j r = L := by rw [← hrj]; exact List.set_getElem_self hj
    rw [hrj] at hrow ha' hok' hL' hI
    unfold nxKQ at hL'
    unfold atKQ at ha'
    unfold okKQ at hok'
    have k1 := hrow.c1
    have k2 := hrow.c2
    by_cases c2 : r.ph = 2
    · by_cases cn : (r.n : Int) = s
      · have his : isEQ r s = true := by unfold isEQ; simp [c2, cn]
        have hie : Hid (r.ph = 2 ∧ (r.n : Int) = s) := hide ⟨c2, cn⟩
        rw [his, if_pos rfl] at ha' hL'
        rw [his, Bool.true_and] at hok'
        obtain ⟨v3, k3, b0, hVw, -⟩ := hrow.c3
        obtain ⟨ao, cap, rfl, -⟩ := id hVw
        have f3 := (hrow.th 3 (by omega)).2
        have hal := hI.kl
        obtain ⟨n, hn⟩ : ∃ n, r.kn.length = n := ⟨_, rfl⟩
        rw [hn] at k3 hVw
        rw [c2] at k2
        have l1 : Hid (([] : List Int).length + r.kn.length ≤ 1000000) := hide (by simp; omega)
        have l2 : Hid (([] : List Int).length + r.kn.length = n) := hide (by simpa using hn)
        have l3 : Hid (r.kn.length + [y].length ≤ 1000000) := hide (by simp; omega)
        have l4 : Hid (r.kn.length + [y].length = n + 1) := hide (by simpa using hn)
        obtain ⟨nb, hnb⟩ : ∃ nb, r.n = nb := ⟨_, rfl⟩
        rw [hnb] at k1
        have cnb : (nb : Int) = s := by rw [← hnb]; exact cn
        subst cnb
        obtain ⟨KN, hKN⟩ : ∃ KN, Hid (r.kn ++ [y] = KN) := ⟨_, rfl⟩
        obtain ⟨all, hall⟩ : ∃ all, Hid (allKQ N KN = all) := ⟨_, rfl⟩
        have hkq : knQ N r y = ⟨r.A, r.n, if all then 0 else 2, KN⟩ := by unfold knQ; rw [hKN.out, hall.out]
        rw [hkq] at ha' hL' hok'
        have hIk := hI.kn c2 (if all then 0 else 2) (by cases all <;> simp) hyN.out
        rw [hKN.out] at hIk
        replace hVw := hide hVw
        replace hrj := hide hrj
        replace hn := hide hn
        replace hnb := hide hnb
        replace hIk := hide hIk
        clear hrow hI hr hrs his hkq cn
        cases all with
        | true =>
          replace ha' : Hid (atBQ j ⟨r.A, r.n, 0, KN⟩ = a) := hide ha'
          replace hok' : Hid (okBQ ⟨r.A, r.n, 0, KN⟩ = ok) := hide hok'
          replace hL' : Hid (L.set j (nxBQ ⟨r.A, r.n, 0, KN⟩) = L') := hide hL'
          replace hIk : Hid (RPre N (M + 1) ⟨r.A, r.n, 0, KN⟩) := hIk
          clear c2
          go_enter Tryd.func38, Tryd.ntmps38
          go_wp2_with fail
          go_at_call 40
          refine (dBlock_c q h N M L F j _ (hH.out.alloc _) true hb).mono ?_
          rintro e w' ⟨rfl, hw'⟩
          rw [hw']
          clear hw' w'
          go_wp2_with fail
          refine name_world ?_
          intro V hV
          have hRV : Hid (RdIs V q h N M L F) := by rw [← hV]; exact hide (hH.out.alloc _)
          have hBV : Hid (Below w.heap.size w V) := by rw [← hV]; exact hide ((Below.refl _ _).alloc (Nat.le_refl _) _)
          have hrV : Hid (V.heap[w.heap.size]? = some (resD at0)) := by rw [← hV]; exact hide (heap_alloc_new w _)
          have hqV : q < V.heap.size := hRV.out.ql
          have hhV : h < V.heap.size := hRV.out.hl
          have d1 : V.cell? ⟨q, 1, none⟩ = some (slD h L.length) := hRV.out.c1
          have d2 : V.cell? ⟨h, j * 4 + 3, none⟩ = some (.slice ao n cap) := keep_cell (hBV.out.block h hhl) k3
          have d3 : V.frozen? ⟨h, j * 4 + 3, none⟩ = false := keep_frozen (hBV.out.block h hhl) f3
          have hVV := hide (hVw.out.below hBV.out)
          have hC := hide (And.intro d1 d2)
          clear hV k3 f3
          go_wp2_with fail
          refine wp_region_noPanic ?_
          refine last_begin 20 (fun w' => Hid (Below V.heap.size V w') ∧ w'.cell? ⟨q, 1, none⟩ = some (slD h L.length) ∧ w'.cell? ⟨h, j * 4 + 3, none⟩ = some (.slice ao n cap)) (by kernel_rfl) ?_ fun hHeld => ?_
          · exact heldD hqV hhV hC.out (Below.refl _ _).drew
          refine lTk 0 53 hHeld ?_
          refine lTk 1 54 hHeld ?_
          refine lTk 2 55 hHeld ?_
          refine lTk 3 56 hHeld ?_
          refine lTk 4 57 hHeld ?_
          refine lTk 6 59 hHeld ?_
          refine lTk 7 60 hHeld ?_
          refine lTk 8 61 hHeld ?_
          refine lTk 9 62 hHeld ?_
          refine lTk 10 63 hHeld ?_
          refine lTk 11 64 hHeld ?_
          refine lTk 12 65 hHeld ?_
          refine lTk 13 66 hHeld ?_
          refine lTk 15 68 hHeld ?_
          have b3 : Below V.heap.size V (V.drew.alloc (.cells #[] 3)) := (Below.refl _ _).drew.alloc (Nat.le_refl _) _
          have b4 : Below V.heap.size V (V.drew.alloc (.cells #[.int .i64 y] 3)) := (Below.refl _ _).drew.alloc (Nat.le_refl _) _
          have b5 : Below V.heap.size V ((V.drew.alloc (.cells #[] 3)).alloc (.cells #[.int .i64 y] 3)) := b3.alloc b3.size _
          have b6 : Below V.heap.size V ((V.drew.alloc (.cells #[.int .i64 y] 3)).alloc (.cells #[] 3)) := b4.alloc b4.size _
          replace b3 := hide b3
          replace b4 := hide b4
          replace b5 := hide b5
          replace b6 := hide b6
          refine lTwo 5 16 (fun K hK => ?_) fun K hK => ?_
          · skip
            go_simp
            refine hK.out _ _ (fun _ => ?_) fun hHeld0 => ?_
            · exact heldD hqV hhV hC.out b3.out
            clear hK K
            replace hHeld := hHeld0 (by decide)
            clear hHeld0
            try simp only [Act.put, za, zb, zc]
            refine lTwo 14 16 (fun K hK => ?_) fun K hK => ?_
            · skip
              refine wp_app (.tmp 58) (.tmp 66) rfl rfl rfl (own_emptyKI (k := V.heap.size) rfl _) (hVV.out.below b3.out) l1.out n l2.out ?_
              intro ao2 cap2 w2 g2' hown2 hap2
              rw [List.nil_append] at hown2
              obtain ⟨hB2, hg2⟩ := appD_below b3.out (by omega) hap2
              have hne2 := True.intro
              refine hK.out _ _ (fun _ => ?_) fun hHeld0 => ?_
              · exact heldD hqV hhV hC.out hB2
              clear hK K
              replace hHeld := hHeld0 (by decide)
              clear hHeld0
              try simp only [Act.put, za, zb, zc]
              refine lNo 16 fun K hK => ?_
              go_simp
              have M5 : Hid (DMid V (w2.alloc (.cells #[.int .i64 y] 3)) ao2 n cap2 g2' w2.heap.size r.kn y) := hide ⟨hown2.alloc _, view_oneKd rfl y, hB2.alloc hB2.size _, hg2⟩
              refine hK.out _ _ (fun _ => ?_) fun hHeld0 => ?_
              · exact heldD hqV hhV hC.out M5.out.b
              clear hK K
              replace hHeld := hHeld0 (by decide)
              clear hHeld0
              try simp only [Act.put, za, zb, zc]
              clear hown2 hap2 hB2 hg2
              refine lNo 17 fun K hK => ?_
              refine wp_app (.tmp 67) (.tmp 69) rfl rfl rfl M5.out.own M5.out.one l3.out (n + 1) l4.out ?_
              intro ao3 cap3 w3 g3 hown3 hap3
              obtain ⟨hB3, hg3⟩ := appD_below M5.out.b M5.out.lo hap3
              refine hK.out _ _ (fun _ => ?_) fun hHeld0 => ?_
              · exact heldD hqV hhV hC.out hB3
              clear hK K
              replace hHeld := hHeld0 (by decide)
              clear hHeld0
              try simp only [Act.put, za, zb, zc]
              clear hap3 M5
              have hfin := hide (dkn_put hRV.out hj hrj.out hie.out.1 hyN.out hB3 hown3 hg3)
              have q1 := keep_cell (hB3.block h hhV) d2
              have q2 := keep_frozen (hB3.block h hhV) d3
              clear hown3
              refine lNo 18 fun K hK => ?_
              go_simp
              refine hK.out _ _ (fun _ => ?_) fun hHeld0 => ?_
              · exact heldD hqV hhV hC.out hB3
              clear hK K
              replace hHeld := hHeld0 (by decide)
              clear hHeld0
              try simp only [Act.put, za, zb, zc]
              refine lTk 19 72 hHeld ?_
              refine lNo 20 fun K hK => ?_
              go_simp
              refine hK.out _ _ (fun h => absurd rfl h) fun _ => ?_
              clear hK K
              try simp only [Act.put, za, zb, zc]
              refine last_done (by kernel_rfl) (NoPanic.normal ?_) _
              clear hHeld
              obtain ⟨W4, hW4⟩ : ∃ W4, w3.setCell ⟨h, j * 4 + 3, none⟩ (.slice ao3 (n + 1) cap3) = W4 := ⟨_, rfl⟩
              have hr4 : W4.heap[w.heap.size]? = some (resD at0) := by rw [← hW4]; exact (heap_setCell_other _ _ _ _ (by show w.heap.size ≠ h; omega)).trans ((hB3.block _ (Array.getElem?_eq_some_iff.1 hrV.out).1).trans hrV.out)
              have hVs : w.heap.size < V.heap.size := (Array.getElem?_eq_some_iff.1 hrV.out).1
              rw [hW4] at hfin ⊢
              replace hr4 := hide hr4
              have hn4 : ¬ (F w.heap.size ∨ w.heap.size = g3) := fun e => by rcases e with e | e; (have := hH.out.lt _ e; omega); omega
              have hS4 := hide ((Step.of_below (F := F) hBV.out).trans hfin.out.2)
              replace hfin := hide hfin.out.1
              clear hW4 q1 q2 hB3 hg3 d1 d2 d3 hC hVV hRV hBV hrV
              obtain ⟨F4, hF4⟩ : ∃ F4, (fun b => F b ∨ b = g3) = F4 := ⟨_, rfl⟩
              rw [hF4] at hfin hS4
              have hn5 : ¬ F4 w.heap.size := by rw [← hF4]; exact hn4
              have e0 := hfin.out.c0
              have e1 := hfin.out.c1
              have hrow4 := hfin.out.rows j (by rw [List.length_set]; exact hj)
              rw [List.getElem_set_self, hKN.out] at hrow4
              rw [List.length_set] at e1
              have e2 := hrow4.c2
              have f2 := (hrow4.th 2 (by omega)).2
              obtain ⟨vK, e3, bK, hVK, -⟩ := hrow4.c3
              obtain ⟨aoK, capK, rfl, -⟩ := id hVK
              replace hVK := hide hVK
              replace hrow4 := hide hrow4
              obtain ⟨nK, hnK⟩ : ∃ nK, KN.length = nK := ⟨_, rfl⟩
              rw [hnK] at e3 hVK
              have hnK1 : nK ≤ 100001 := by rw [← hnK, ← hKN.out, List.length_append]; have := hal; simp; omega
              replace hnK := hide hnK
              clear hF4 hn4
              go_wp2_with fail
              go_loopw [10] (fun i wr => ∃ m : Nat, m ≤ N ∧ i = .int .i64 m ∧ wr = W4 ∧ Hid (∀ i : Nat, i < m → (i : Int) ∈ KN)) (fun i _ => N - (intOf i).toNat)
              case atStart => exact ⟨0, Nat.zero_le _, rfl, rfl, fun i hi => absurd hi (Nat.not_lt_zero _)⟩
              case round =>
                obtain ⟨m, hm, rfl, hwr, hmem⟩ := hrel
                subst hwr
                by_cases hlt : m < N
                · have hlt' : (m : Int) < N := by omega
                  go_wp2_with fail
                  go_loopw [12, 11] (fun i is wx => ∃ t : Nat, t ≤ nK ∧ i = .int .i64 t ∧ is = .bool (decide ((m : Int) ∈ KN.take t)) ∧ wx = wr) (fun i _ _ => nK - (intOf i).toNat)
                  case atStart => exact ⟨0, Nat.zero_le _, rfl, by simp, rfl⟩
                  case round =>
                    obtain ⟨t, ht, rfl, rfl, hwx⟩ := hrel
                    subst hwx
                    by_cases htl : t < nK
                    · have htl' : (t : Int) < nK := by omega
                      obtain ⟨-, -, -, hc⟩ := view_at hVK.out rfl
                      obtain ⟨oK, rfl, hbK, hcell⟩ := hc t (by rw [hnK.out]; exact htl)
                      have htk : KN.take (t + 1) = KN.take t ++ [KN[t]'(by rw [hnK.out]; exact htl)] := by rw [List.take_add_one, List.getElem?_eq_getElem (by rw [hnK.out]; exact htl)]; rfl
                      generalize KN[t]'(by rw [hnK.out]; exact htl) = z at hcell htk
                      obtain ⟨d, hd⟩ : ∃ d, decide ((m : Int) ∈ KN.take t) = d := ⟨_, rfl⟩
                      rw [hd]
                      replace htk := hide htk
                      clear hc
                      cases d with
                      | true =>
                        replace hd := hide hd
                        go_wp2_with fail
                        go_roundw
                        case rel => exact ⟨t + 1, by omega, by simp, by have := hd.out; simp only [decide_eq_true_eq] at this; simp [htk.out, this], trivial⟩
                        case measure => simp [intOf]; omega
                      | false =>
                        replace hd := hide hd
                        by_cases e : z = (m : Int)
                        · have e' : decide (z = (m : Int)) = true ∧ (z == (m : Int)) = true := ⟨by simpa using e, by simpa using e⟩
                          replace e := hide e
                          go_wp2_with fail
                          go_roundw
                          case rel => exact ⟨t + 1, by omega, by simp, by simp [htk.out, e.out], trivial⟩
                          case measure => simp [intOf]; omega
                        · have e' : decide (z = (m : Int)) = false ∧ (z == (m : Int)) = false := ⟨by simpa using e, by simpa using e⟩
                          replace e := hide e
                          go_wp2_with fail
                          go_roundw
                          case rel => exact ⟨t + 1, by omega, by simp, by have := hd.out; simp only [decide_eq_false_iff_not] at this; simp [htk.out, this]; exact fun h => e.out h.symm, trivial⟩
                          case measure => simp [intOf]; omega
                    · obtain rfl : t = nK := by omega
                      obtain ⟨d, hd⟩ : ∃ d, decide ((m : Int) ∈ KN.take t) = d := ⟨_, rfl⟩
                      rw [hd]
                      rw [List.take_of_length_le (by rw [hnK.out]; exact Nat.le_refl _)] at hd
                      cases d with
                      | true =>
                        have hmm : (m : Int) ∈ KN := by simpa using hd
                        replace hmm := hide hmm
                        clear hd
                        have hw2 : IntKind.i64.wrap ((m : Int) + 1) = (m : Int) + 1 := by rw [IntKind.wrap_i64]; omega
                        go_wp2_with fail
                        go_roundw
                        case rel => exact ⟨m + 1, by omega, by simp, trivial, fun i hi => by by_cases c : i = m; (subst c; exact hmm.out); exact hmem.out i (by omega)⟩
                        case measure => simp [intOf]; omega
                      | false =>
                        have hmm : ¬ (m : Int) ∈ KN := by simpa using hd
                        exact absurd (allKQ_iff.1 hall.out m hlt) hmm
                · have hlt2 : ¬ (m : Int) < N := by omega
                  have hput := (hfin.out.put (by rw [List.length_set]; exact hj) (hrow4.out.set2 0) ((RG.refl h (j * 4) wr).setCell (by omega) (by omega) _) (fun _ h => h) (fun _ h => .inl h) hIk.out (Nat.le_refl _))
                  rw [List.set_set] at hput
                  obtain ⟨W5, hW5⟩ : ∃ W5, wr.setCell ⟨h, j * 4 + 2, none⟩ (.int .i64 0) = W5 := ⟨_, rfl⟩
                  have hr5 : W5.heap[w.heap.size]? = some (resD at0) := by rw [← hW5]; exact (heap_setCell_other _ _ _ _ (by show w.heap.size ≠ h; omega)).trans hr4.out
                  rw [hW5] at hput
                  have hR5 := hide hput.1
                  have hS5 := hide (hS4.out.trans hput.2)
                  replace hr5 := hide hr5
                  replace hW5 := hide hW5
                  clear hput
                  go_wp2_with fail
                  rw [hW5.out]
                  go_at_call 66
                  refine (dBegin_c q h N (M + 1) (L.set j ⟨r.A, r.n, 0, KN⟩) F4 j W5 hR5.out (by simp only [List.length_set]; exact hj) ⟨r.A, r.n, 0, KN⟩ (by simp) hM a ha' ok hok').mono ?_
                  rintro e w5 ⟨rfl, h5, s5⟩
                  rw [List.set_set, hL'.out] at h5
                  have hb5 : w5.heap[w.heap.size]? = some (resD at0) := (s5.keep hn5 (Array.getElem?_eq_some_iff.1 hr5.out).1).1.trans hr5.out
                  have z0 : w5.cell? ⟨w.heap.size, 0, none⟩ = some (.int .i64 0) := cell_of_row _ _ _ _ _ _ hb5
                  have z1 : w5.cell? ⟨w.heap.size, 1, none⟩ = some (.int .i64 0) := cell_of_row _ _ _ _ _ _ hb5
                  have z2 : w5.cell? ⟨w.heap.size, 2, none⟩ = some (.int .i64 0) := cell_of_row _ _ _ _ _ _ hb5
                  have x0 : w5.frozen? ⟨w.heap.size, 0, none⟩ = false := frozen_of_row _ _ _ _ _ hb5
                  have x1 : w5.frozen? ⟨w.heap.size, 1, none⟩ = false := frozen_of_row _ _ _ _ _ hb5
                  have x2 : w5.frozen? ⟨w.heap.size, 2, none⟩ = false := frozen_of_row _ _ _ _ _ hb5
                  have hfin5 := hide (h5.res (hS5.out.trans s5) hql hn5 a)
                  clear h5 s5 hb5
                  go_wp2_with fail
                  refine bodyPost_ret (by simp [results, Tryd.results38, go_sem, *]; done) rfl ⟨rfl, ?_⟩
                  exact ⟨_, hfin5.out⟩
            · skip
              go_simp
              refine hK.out _ _ (fun _ => ?_) fun hHeld0 => ?_
              · exact heldD hqV hhV hC.out b5.out
              clear hK K
              replace hHeld := hHeld0 (by decide)
              clear hHeld0
              try simp only [Act.put, za, zb, zc]
              refine lNo 14 fun K hK => ?_
              have o1 := view_oneId (V.drew.alloc (.cells #[] 3)) y
              rw [World.size_alloc] at o1
              refine wp_app (.tmp 58) (.tmp 66) rfl rfl rfl ((own_emptyKI (w := V.drew) (k := V.heap.size) rfl _).alloc _) (hVV.out.below b5.out) l1.out n l2.out ?_
              intro ao2 cap2 w2 g2' hown2 hap2
              rw [List.nil_append] at hown2
              obtain ⟨hB2, hg2⟩ := appD_below b5.out (by omega) hap2
              have hne2 := oneI_app o1 hap2 (by show V.heap.size + 1 ≠ V.heap.size; omega)
              refine hK.out _ _ (fun _ => ?_) fun hHeld0 => ?_
              · exact heldD hqV hhV hC.out hB2
              clear hK K
              replace hHeld := hHeld0 (by decide)
              clear hHeld0
              try simp only [Act.put, za, zb, zc]
              have M5 : Hid (DMid V w2 ao2 n cap2 g2' (V.heap.size + 1) r.kn y) := hide ⟨hown2, hne2, hB2, hg2⟩
              clear hown2 hap2 hB2 hg2 hne2 o1
              refine lNo 17 fun K hK => ?_
              refine wp_app (.tmp 67) (.tmp 69) rfl rfl rfl M5.out.own M5.out.one l3.out (n + 1) l4.out ?_
              intro ao3 cap3 w3 g3 hown3 hap3
              obtain ⟨hB3, hg3⟩ := appD_below M5.out.b M5.out.lo hap3
              refine hK.out _ _ (fun _ => ?_) fun hHeld0 => ?_
              · exact heldD hqV hhV hC.out hB3
              clear hK K
              replace hHeld := hHeld0 (by decide)
              clear hHeld0
              try simp only [Act.put, za, zb, zc]
              clear hap3 M5
              have hfin := hide (dkn_put hRV.out hj hrj.out hie.out.1 hyN.out hB3 hown3 hg3)
              have q1 := keep_cell (hB3.block h hhV) d2
              have q2 := keep_frozen (hB3.block h hhV) d3
              clear hown3
              refine lNo 18 fun K hK => ?_
              go_simp
              refine hK.out _ _ (fun _ => ?_) fun hHeld0 => ?_
              · exact heldD hqV hhV hC.out hB3
              clear hK K
              replace hHeld := hHeld0 (by decide)
              clear hHeld0
              try simp only [Act.put, za, zb, zc]
              refine lTk 19 72 hHeld ?_
              refine lNo 20 fun K hK => ?_
              go_simp
              refine hK.out _ _ (fun h => absurd rfl h) fun _ => ?_
              clear hK K
              try simp only [Act.put, za, zb, zc]
              refine last_done (by kernel_rfl) (NoPanic.normal ?_) _
              clear hHeld
              obtain ⟨W4, hW4⟩ : ∃ W4, w3.setCell ⟨h, j * 4 + 3, none⟩ (.slice ao3 (n + 1) cap3) = W4 := ⟨_, rfl⟩
              have hr4 : W4.heap[w.heap.size]? = some (resD at0) := by rw [← hW4]; exact (heap_setCell_other _ _ _ _ (by show w.heap.size ≠ h; omega)).trans ((hB3.block _ (Array.getElem?_eq_some_iff.1 hrV.out).1).trans hrV.out)
              have hVs : w.heap.size < V.heap.size := (Array.getElem?_eq_some_iff.1 hrV.out).1
              rw [hW4] at hfin ⊢
              replace hr4 := hide hr4
              have hn4 : ¬ (F w.heap.size ∨ w.heap.size = g3) := fun e => by rcases e with e | e; (have := hH.out.lt _ e; omega); omega
              have hS4 := hide ((Step.of_below (F := F) hBV.out).trans hfin.out.2)
              replace hfin := hide hfin.out.1
              clear hW4 q1 q2 hB3 hg3 d1 d2 d3 hC hVV hRV hBV hrV
              obtain ⟨F4, hF4⟩ : ∃ F4, (fun b => F b ∨ b = g3) = F4 := ⟨_, rfl⟩
              rw [hF4] at hfin hS4
              have hn5 : ¬ F4 w.heap.size := by rw [← hF4]; exact hn4
              have e0 := hfin.out.c0
              have e1 := hfin.out.c1
              have hrow4 := hfin.out.rows j (by rw [List.length_set]; exact hj)
              rw [List.getElem_set_self, hKN.out] at hrow4
              rw [List.length_set] at e1
              have e2 := hrow4.c2
              have f2 := (hrow4.th 2 (by omega)).2
              obtain ⟨vK, e3, bK, hVK, -⟩ := hrow4.c3
              obtain ⟨aoK, capK, rfl, -⟩ := id hVK
              replace hVK := hide hVK
              replace hrow4 := hide hrow4
              obtain ⟨nK, hnK⟩ : ∃ nK, KN.length = nK := ⟨_, rfl⟩
              rw [hnK] at e3 hVK
              have hnK1 : nK ≤ 100001 := by rw [← hnK, ← hKN.out, List.length_append]; have := hal; simp; omega
              replace hnK := hide hnK
              clear hF4 hn4
              go_wp2_with fail
              go_loopw [10] (fun i wr => ∃ m : Nat, m ≤ N ∧ i = .int .i64 m ∧ wr = W4 ∧ Hid (∀ i : Nat, i < m → (i : Int) ∈ KN)) (fun i _ => N - (intOf i).toNat)
              case atStart => exact ⟨0, Nat.zero_le _, rfl, rfl, fun i hi => absurd hi (Nat.not_lt_zero _)⟩
              case round =>
                obtain ⟨m, hm, rfl, hwr, hmem⟩ := hrel
                subst hwr
                by_cases hlt : m < N
                · have hlt' : (m : Int) < N := by omega
                  go_wp2_with fail
                  go_loopw [12, 11] (fun i is wx => ∃ t : Nat, t ≤ nK ∧ i = .int .i64 t ∧ is = .bool (decide ((m : Int) ∈ KN.take t)) ∧ wx = wr) (fun i _ _ => nK - (intOf i).toNat)
                  case atStart => exact ⟨0, Nat.zero_le _, rfl, by simp, rfl⟩
                  case round =>
                    obtain ⟨t, ht, rfl, rfl, hwx⟩ := hrel
                    subst hwx
                    by_cases htl : t < nK
                    · have htl' : (t : Int) < nK := by omega
                      obtain ⟨-, -, -, hc⟩ := view_at hVK.out rfl
                      obtain ⟨oK, rfl, hbK, hcell⟩ := hc t (by rw [hnK.out]; exact htl)
                      have htk : KN.take (t + 1) = KN.take t ++ [KN[t]'(by rw [hnK.out]; exact htl)] := by rw [List.take_add_one, List.getElem?_eq_getElem (by rw [hnK.out]; exact htl)]; rfl
                      generalize KN[t]'(by rw [hnK.out]; exact htl) = z at hcell htk
                      obtain ⟨d, hd⟩ : ∃ d, decide ((m : Int) ∈ KN.take t) = d := ⟨_, rfl⟩
                      rw [hd]
                      replace htk := hide htk
                      clear hc
                      cases d with
                      | true =>
                        replace hd := hide hd
                        go_wp2_with fail
                        go_roundw
                        case rel => exact ⟨t + 1, by omega, by simp, by have := hd.out; simp only [decide_eq_true_eq] at this; simp [htk.out, this], trivial⟩
                        case measure => simp [intOf]; omega
                      | false =>
                        replace hd := hide hd
                        by_cases e : z = (m : Int)
                        · have e' : decide (z = (m : Int)) = true ∧ (z == (m : Int)) = true := ⟨by simpa using e, by simpa using e⟩
                          replace e := hide e
                          go_wp2_with fail
                          go_roundw
                          case rel => exact ⟨t + 1, by omega, by simp, by simp [htk.out, e.out], trivial⟩
                          case measure => simp [intOf]; omega
                        · have e' : decide (z = (m : Int)) = false ∧ (z == (m : Int)) = false := ⟨by simpa using e, by simpa using e⟩
                          replace e := hide e
                          go_wp2_with fail
                          go_roundw
                          case rel => exact ⟨t + 1, by omega, by simp, by have := hd.out; simp only [decide_eq_false_iff_not] at this; simp [htk.out, this]; exact fun h => e.out h.symm, trivial⟩
                          case measure => simp [intOf]; omega
                    · obtain rfl : t = nK := by omega
                      obtain ⟨d, hd⟩ : ∃ d, decide ((m : Int) ∈ KN.take t) = d := ⟨_, rfl⟩
                      rw [hd]
                      rw [List.take_of_length_le (by rw [hnK.out]; exact Nat.le_refl _)] at hd
                      cases d with
                      | true =>
                        have hmm : (m : Int) ∈ KN := by simpa using hd
                        replace hmm := hide hmm
                        clear hd
                        have hw2 : IntKind.i64.wrap ((m : Int) + 1) = (m : Int) + 1 := by rw [IntKind.wrap_i64]; omega
                        go_wp2_with fail
                        go_roundw
                        case rel => exact ⟨m + 1, by omega, by simp, trivial, fun i hi => by by_cases c : i = m; (subst c; exact hmm.out); exact hmem.out i (by omega)⟩
                        case measure => simp [intOf]; omega
                      | false =>
                        have hmm : ¬ (m : Int) ∈ KN := by simpa using hd
                        exact absurd (allKQ_iff.1 hall.out m hlt) hmm
                · have hlt2 : ¬ (m : Int) < N := by omega
                  have hput := (hfin.out.put (by rw [List.length_set]; exact hj) (hrow4.out.set2 0) ((RG.refl h (j * 4) wr).setCell (by omega) (by omega) _) (fun _ h => h) (fun _ h => .inl h) hIk.out (Nat.le_refl _))
                  rw [List.set_set] at hput
                  obtain ⟨W5, hW5⟩ : ∃ W5, wr.setCell ⟨h, j * 4 + 2, none⟩ (.int .i64 0) = W5 := ⟨_, rfl⟩
                  have hr5 : W5.heap[w.heap.size]? = some (resD at0) := by rw [← hW5]; exact (heap_setCell_other _ _ _ _ (by show w.heap.size ≠ h; omega)).trans hr4.out
                  rw [hW5] at hput
                  have hR5 := hide hput.1
                  have hS5 := hide (hS4.out.trans hput.2)
                  replace hr5 := hide hr5
                  replace hW5 := hide hW5
                  clear hput
                  go_wp2_with fail
                  rw [hW5.out]
                  go_at_call 66
                  refine (dBegin_c q h N (M + 1) (L.set j ⟨r.A, r.n, 0, KN⟩) F4 j W5 hR5.out (by simp only [List.length_set]; exact hj) ⟨r.A, r.n, 0, KN⟩ (by simp) hM a ha' ok hok').mono ?_
                  rintro e w5 ⟨rfl, h5, s5⟩
                  rw [List.set_set, hL'.out] at h5
                  have hb5 : w5.heap[w.heap.size]? = some (resD at0) := (s5.keep hn5 (Array.getElem?_eq_some_iff.1 hr5.out).1).1.trans hr5.out
                  have z0 : w5.cell? ⟨w.heap.size, 0, none⟩ = some (.int .i64 0) := cell_of_row _ _ _ _ _ _ hb5
                  have z1 : w5.cell? ⟨w.heap.size, 1, none⟩ = some (.int .i64 0) := cell_of_row _ _ _ _ _ _ hb5
                  have z2 : w5.cell? ⟨w.heap.size, 2, none⟩ = some (.int .i64 0) := cell_of_row _ _ _ _ _ _ hb5
                  have x0 : w5.frozen? ⟨w.heap.size, 0, none⟩ = false := frozen_of_row _ _ _ _ _ hb5
                  have x1 : w5.frozen? ⟨w.heap.size, 1, none⟩ = false := frozen_of_row _ _ _ _ _ hb5
                  have x2 : w5.frozen? ⟨w.heap.size, 2, none⟩ = false := frozen_of_row _ _ _ _ _ hb5
                  have hfin5 := hide (h5.res (hS5.out.trans s5) hql hn5 a)
                  clear h5 s5 hb5
                  go_wp2_with fail
                  refine bodyPost_ret (by simp [results, Tryd.results38, go_sem, *]; done) rfl ⟨rfl, ?_⟩
                  exact ⟨_, hfin5.out⟩
          · skip
            go_simp
            refine hK.out _ _ (fun _ => ?_) fun hHeld0 => ?_
            · exact heldD hqV hhV hC.out b4.out
            clear hK K
            replace hHeld := hHeld0 (by decide)
            clear hHeld0
            try simp only [Act.put, za, zb, zc]
            refine lNo 5 fun K hK => ?_
            go_simp
            refine hK.out _ _ (fun _ => ?_) fun hHeld0 => ?_
            · exact heldD hqV hhV hC.out b6.out
            clear hK K
            replace hHeld := hHeld0 (by decide)
            clear hHeld0
            try simp only [Act.put, za, zb, zc]
            refine lNo 14 fun K hK => ?_
            have o1 := (view_oneId V.drew y).alloc (.cells #[] 3)
            refine wp_app (.tmp 58) (.tmp 66) rfl rfl rfl (own_emptyKI (w := V.drew.alloc (.cells #[.int .i64 y] 3)) (k := V.heap.size + 1) (by simp) _) (hVV.out.below b6.out) l1.out n l2.out ?_
            intro ao2 cap2 w2 g2' hown2 hap2
            rw [List.nil_append] at hown2
            obtain ⟨hB2, hg2⟩ := appD_below b6.out (by omega) hap2
            have hne2 := oneI_app o1 hap2 (by show V.heap.size ≠ V.heap.size + 1; omega)
            refine hK.out _ _ (fun _ => ?_) fun hHeld0 => ?_
            · exact heldD hqV hhV hC.out hB2
            clear hK K
            replace hHeld := hHeld0 (by decide)
            clear hHeld0
            try simp only [Act.put, za, zb, zc]
            have M5 : Hid (DMid V w2 ao2 n cap2 g2' V.heap.size r.kn y) := hide ⟨hown2, hne2, hB2, hg2⟩
            clear hown2 hap2 hB2 hg2 hne2 o1
            refine lNo 17 fun K hK => ?_
            refine wp_app (.tmp 67) (.tmp 69) rfl rfl rfl M5.out.own M5.out.one l3.out (n + 1) l4.out ?_
            intro ao3 cap3 w3 g3 hown3 hap3
            obtain ⟨hB3, hg3⟩ := appD_below M5.out.b M5.out.lo hap3
            refine hK.out _ _ (fun _ => ?_) fun hHeld0 => ?_
            · exact heldD hqV hhV hC.out hB3
            clear hK K
            replace hHeld := hHeld0 (by decide)
            clear hHeld0
            try simp only [Act.put, za, zb, zc]
            clear hap3 M5
            have hfin := hide (dkn_put hRV.out hj hrj.out hie.out.1 hyN.out hB3 hown3 hg3)
            have q1 := keep_cell (hB3.block h hhV) d2
            have q2 := keep_frozen (hB3.block h hhV) d3
            clear hown3
            refine lNo 18 fun K hK => ?_
            go_simp
            refine hK.out _ _ (fun _ => ?_) fun hHeld0 => ?_
            · exact heldD hqV hhV hC.out hB3
            clear hK K
            replace hHeld := hHeld0 (by decide)
            clear hHeld0
            try simp only [Act.put, za, zb, zc]
            refine lTk 19 72 hHeld ?_
            refine lNo 20 fun K hK => ?_
            go_simp
            refine hK.out _ _ (fun h => absurd rfl h) fun _ => ?_
            clear hK K
            try simp only [Act.put, za, zb, zc]
            refine last_done (by kernel_rfl) (NoPanic.normal ?_) _
            clear hHeld
            obtain ⟨W4, hW4⟩ : ∃ W4, w3.setCell ⟨h, j * 4 + 3, none⟩ (.slice ao3 (n + 1) cap3) = W4 := ⟨_, rfl⟩
            have hr4 : W4.heap[w.heap.size]? = some (resD at0) := by rw [← hW4]; exact (heap_setCell_other _ _ _ _ (by show w.heap.size ≠ h; omega)).trans ((hB3.block _ (Array.getElem?_eq_some_iff.1 hrV.out).1).trans hrV.out)
            have hVs : w.heap.size < V.heap.size := (Array.getElem?_eq_some_iff.1 hrV.out).1
            rw [hW4] at hfin ⊢
            replace hr4 := hide hr4
            have hn4 : ¬ (F w.heap.size ∨ w.heap.size = g3) := fun e => by rcases e with e | e; (have := hH.out.lt _ e; omega); omega
            have hS4 := hide ((Step.of_below (F := F) hBV.out).trans hfin.out.2)
            replace hfin := hide hfin.out.1
            clear hW4 q1 q2 hB3 hg3 d1 d2 d3 hC hVV hRV hBV hrV
            obtain ⟨F4, hF4⟩ : ∃ F4, (fun b => F b ∨ b = g3) = F4 := ⟨_, rfl⟩
            rw [hF4] at hfin hS4
            have hn5 : ¬ F4 w.heap.size := by rw [← hF4]; exact hn4
            have e0 := hfin.out.c0
            have e1 := hfin.out.c1
            have hrow4 := hfin.out.rows j (by rw [List.length_set]; exact hj)
            rw [List.getElem_set_self, hKN.out] at hrow4
            rw [List.length_set] at e1
            have e2 := hrow4.c2
            have f2 := (hrow4.th 2 (by omega)).2
            obtain ⟨vK, e3, bK, hVK, -⟩ := hrow4.c3
            obtain ⟨aoK, capK, rfl, -⟩ := id hVK
            replace hVK := hide hVK
            replace hrow4 := hide hrow4
            obtain ⟨nK, hnK⟩ : ∃ nK, KN.length = nK := ⟨_, rfl⟩
            rw [hnK] at e3 hVK
            have hnK1 : nK ≤ 100001 := by rw [← hnK, ← hKN.out, List.length_append]; have := hal; simp; omega
            replace hnK := hide hnK
            clear hF4 hn4
            go_wp2_with fail
            go_loopw [10] (fun i wr => ∃ m : Nat, m ≤ N ∧ i = .int .i64 m ∧ wr = W4 ∧ Hid (∀ i : Nat, i < m → (i : Int) ∈ KN)) (fun i _ => N - (intOf i).toNat)
            case atStart => exact ⟨0, Nat.zero_le _, rfl, rfl, fun i hi => absurd hi (Nat.not_lt_zero _)⟩
            case round =>
              obtain ⟨m, hm, rfl, hwr, hmem⟩ := hrel
              subst hwr
              by_cases hlt : m < N
              · have hlt' : (m : Int) < N := by omega
                go_wp2_with fail
                go_loopw [12, 11] (fun i is wx => ∃ t : Nat, t ≤ nK ∧ i = .int .i64 t ∧ is = .bool (decide ((m : Int) ∈ KN.take t)) ∧ wx = wr) (fun i _ _ => nK - (intOf i).toNat)
                case atStart => exact ⟨0, Nat.zero_le _, rfl, by simp, rfl⟩
                case round =>
                  obtain ⟨t, ht, rfl, rfl, hwx⟩ := hrel
                  subst hwx
                  by_cases htl : t < nK
                  · have htl' : (t : Int) < nK := by omega
                    obtain ⟨-, -, -, hc⟩ := view_at hVK.out rfl
                    obtain ⟨oK, rfl, hbK, hcell⟩ := hc t (by rw [hnK.out]; exact htl)
                    have htk : KN.take (t + 1) = KN.take t ++ [KN[t]'(by rw [hnK.out]; exact htl)] := by rw [List.take_add_one, List.getElem?_eq_getElem (by rw [hnK.out]; exact htl)]; rfl
                    generalize KN[t]'(by rw [hnK.out]; exact htl) = z at hcell htk
                    obtain ⟨d, hd⟩ : ∃ d, decide ((m : Int) ∈ KN.take t) = d := ⟨_, rfl⟩
                    rw [hd]
                    replace htk := hide htk
                    clear hc
                    cases d with
                    | true =>
                      replace hd := hide hd
                      go_wp2_with fail
                      go_roundw
                      case rel => exact ⟨t + 1, by omega, by simp, by have := hd.out; simp only [decide_eq_true_eq] at this; simp [htk.out, this], trivial⟩
                      case measure => simp [intOf]; omega
                    | false =>
                      replace hd := hide hd
                      by_cases e : z = (m : Int)
                      · have e' : decide (z = (m : Int)) = true ∧ (z == (m : Int)) = true := ⟨by simpa using e, by simpa using e⟩
                        replace e := hide e
                        go_wp2_with fail
                        go_roundw
                        case rel => exact ⟨t + 1, by omega, by simp, by simp [htk.out, e.out], trivial⟩
                        case measure => simp [intOf]; omega
                      · have e' : decide (z = (m : Int)) = false ∧ (z == (m : Int)) = false := ⟨by simpa using e, by simpa using e⟩
                        replace e := hide e
                        go_wp2_with fail
                        go_roundw
                        case rel => exact ⟨t + 1, by omega, by simp, by have := hd.out; simp only [decide_eq_false_iff_not] at this; simp [htk.out, this]; exact fun h => e.out h.symm, trivial⟩
                        case measure => simp [intOf]; omega
                  · obtain rfl : t = nK := by omega
                    obtain ⟨d, hd⟩ : ∃ d, decide ((m : Int) ∈ KN.take t) = d := ⟨_, rfl⟩
                    rw [hd]
                    rw [List.take_of_length_le (by rw [hnK.out]; exact Nat.le_refl _)] at hd
                    cases d with
                    | true =>
                      have hmm : (m : Int) ∈ KN := by simpa using hd
                      replace hmm := hide hmm
                      clear hd
                      have hw2 : IntKind.i64.wrap ((m : Int) + 1) = (m : Int) + 1 := by rw [IntKind.wrap_i64]; omega
                      go_wp2_with fail
                      go_roundw
                      case rel => exact ⟨m + 1, by omega, by simp, trivial, fun i hi => by by_cases c : i = m; (subst c; exact hmm.out); exact hmem.out i (by omega)⟩
                      case measure => simp [intOf]; omega
                    | false =>
                      have hmm : ¬ (m : Int) ∈ KN := by simpa using hd
                      exact absurd (allKQ_iff.1 hall.out m hlt) hmm
              · have hlt2 : ¬ (m : Int) < N := by omega
                have hput := (hfin.out.put (by rw [List.length_set]; exact hj) (hrow4.out.set2 0) ((RG.refl h (j * 4) wr).setCell (by omega) (by omega) _) (fun _ h => h) (fun _ h => .inl h) hIk.out (Nat.le_refl _))
                rw [List.set_set] at hput
                obtain ⟨W5, hW5⟩ : ∃ W5, wr.setCell ⟨h, j * 4 + 2, none⟩ (.int .i64 0) = W5 := ⟨_, rfl⟩
                have hr5 : W5.heap[w.heap.size]? = some (resD at0) := by rw [← hW5]; exact (heap_setCell_other _ _ _ _ (by show w.heap.size ≠ h; omega)).trans hr4.out
                rw [hW5] at hput
                have hR5 := hide hput.1
                have hS5 := hide (hS4.out.trans hput.2)
                replace hr5 := hide hr5
                replace hW5 := hide hW5
                clear hput
                go_wp2_with fail
                rw [hW5.out]
                go_at_call 66
                refine (dBegin_c q h N (M + 1) (L.set j ⟨r.A, r.n, 0, KN⟩) F4 j W5 hR5.out (by simp only [List.length_set]; exact hj) ⟨r.A, r.n, 0, KN⟩ (by simp) hM a ha' ok hok').mono ?_
                rintro e w5 ⟨rfl, h5, s5⟩
                rw [List.set_set, hL'.out] at h5
                have hb5 : w5.heap[w.heap.size]? = some (resD at0) := (s5.keep hn5 (Array.getElem?_eq_some_iff.1 hr5.out).1).1.trans hr5.out
                have z0 : w5.cell? ⟨w.heap.size, 0, none⟩ = some (.int .i64 0) := cell_of_row _ _ _ _ _ _ hb5
                have z1 : w5.cell? ⟨w.heap.size, 1, none⟩ = some (.int .i64 0) := cell_of_row _ _ _ _ _ _ hb5
                have z2 : w5.cell? ⟨w.heap.size, 2, none⟩ = some (.int .i64 0) := cell_of_row _ _ _ _ _ _ hb5
                have x0 : w5.frozen? ⟨w.heap.size, 0, none⟩ = false := frozen_of_row _ _ _ _ _ hb5
                have x1 : w5.frozen? ⟨w.heap.size, 1, none⟩ = false := frozen_of_row _ _ _ _ _ hb5
                have x2 : w5.frozen? ⟨w.heap.size, 2, none⟩ = false := frozen_of_row _ _ _ _ _ hb5
                have hfin5 := hide (h5.res (hS5.out.trans s5) hql hn5 a)
                clear h5 s5 hb5
                go_wp2_with fail
                refine bodyPost_ret (by simp [results, Tryd.results38, go_sem, *]; done) rfl ⟨rfl, ?_⟩
                exact ⟨_, hfin5.out⟩
        | false =>
          have hgo := hF.out hb.out hb2.out (by rw [getQ_at hj, hrj.out]; unfold isEQ; simp [c2, hnb.out]) (by rw [getQ_at hj, hrj.out, hKN.out]; exact hall.out)
          rw [hL0.out] at hgo
          exact hgo
      · have his : isEQ r s = false := by unfold isEQ; simp [cn]
        rw [his, if_neg (by decide)] at ha' hL'
        rw [his, Bool.false_and] at hok'
        rw [hrs] at hL'
        subst ha' hok' hL'
        rw [c2] at k2
        generalize r.n = nb at k1 cn
        have cn' : decide ((nb : Int) = s) = false ∧ ((nb : Int) == s) = false ∧ ((nb : Int) != s) = true := ⟨by simpa using cn, by simpa using cn, by simpa using cn⟩
        replace cn := hide cn
        replace hrj := hide hrj
        clear hrow hI hr hrs his c2
        go_enter Tryd.func38, Tryd.ntmps38
        go_wp2_with fail
        go_at_call 40
        refine (dBlock_c q h N M L F j _ (hH.out.alloc _) true hb).mono ?_
        rintro e w' ⟨rfl, hw'⟩
        rw [hw']
        clear hw' w'
        go_wp2_with fail
        refine bodyPost_ret (by simp [results, Tryd.results38, go_sem, *]; done) rfl ⟨rfl, F, (hH.out.alloc _).mono (Nat.le_succ M), ?_⟩
        exact Step.of_below ((Below.refl _ _).alloc (Nat.le_refl _) _)
    · have his : isEQ r s = false := by unfold isEQ; simp [c2]
      rw [his, if_neg (by decide)] at ha' hL'
      rw [his, Bool.false_and] at hok'
      rw [hrs] at hL'
      subst ha' hok' hL'
      generalize r.ph = ph at k2 c2
      have c2' : decide (ph = 2) = false ∧ (ph == 2) = false ∧ (ph != 2) = true := ⟨by simpa using c2, by simpa using c2, by simpa using c2⟩
      replace c2 := hide c2
      replace hrj := hide hrj
      clear hrow hI hr hrs his
      go_enter Tryd.func38, Tryd.ntmps38
      go_wp2_with fail
      go_at_call 40
      refine (dBlock_c q h N M L F j _ (hH.out.alloc _) true hb).mono ?_
      rintro e w' ⟨rfl, hw'⟩
      rw [hw']
      clear hw' w'
      go_wp2_with fail
      refine bodyPost_ret (by simp [results, Tryd.results38, go_sem, *]; done) rfl ⟨rfl, F, (hH.out.alloc _).mono (Nat.le_succ M), ?_⟩
      exact Step.of_below ((Below.refl _ _).alloc (Nat.le_refl _) _)
end Go.Proofs.YtmgjgeaigdiadaaDoor
