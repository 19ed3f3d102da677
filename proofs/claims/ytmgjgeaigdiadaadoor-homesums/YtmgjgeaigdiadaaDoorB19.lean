/- layer 16: ArbB ArbC ArbD, put together. -/
import Derived.Test.YtmgjgeaigdiadaaDoorB15
namespace Go.Proofs.YtmgjgeaigdiadaaDoor
open Go.ChangeShapes Go.WideShapes Go.ChangeAt Go.RowKit
set_option linter.unusedSimpArgs false
set_option linter.unusedVariables false
set_option maxRecDepth 10000
attribute [local go_sem, local simp] over_const setCell_drewN alloc_drewN Over.cell Over.frozen lt_s1 lt_s2 lt_s3 le_s0 le_s1 le_s2 le_s3 eq_s0 eq_s1 eq_s2 qe_s0
abbrev resO (a : At) : Obj := .cells #[.int .i64 a.b, .int .i64 a.n, .int .i64 a.s] 43
abbrev setA (w : World) (k : Nat) (a : At) : World := ((w.setCell ⟨k, 0, none⟩ (.int .i64 a.b)).setCell ⟨k, 1, none⟩ (.int .i64 a.n)).setCell ⟨k, 2, none⟩ (.int .i64 a.s)
theorem setA_fr (w : World) (k : Nat) (a : At) : FrS (· = k) w (setA w k a) :=
  FrS.setCell (F := (· = k)) (q := ⟨k, 2, none⟩) (FrS.setCell (F := (· = k)) (q := ⟨k, 1, none⟩) (FrS.setCell (F := (· = k)) (q := ⟨k, 0, none⟩) (FrS.refl _ w) (.inl rfl) _) (.inl rfl) _) (.inl rfl) _
theorem WtIs.own {w : World} {v : Value} {ob : Option Nat} {A : List Int} {g : Nat} (h : WtIs w v ob A) (hg : g < w.heap.size) : ∃ g0, Own w v g0 A ∧ (ob = some g0 ∨ (ob = none ∧ v = .slice none 0 0)) := by
  cases ob with
  | none => obtain ⟨rfl, rfl⟩ := h; exact ⟨g, own_nil hg, .inr ⟨rfl, rfl⟩⟩
  | some b => exact ⟨b, h, .inl rfl⟩
theorem RowAt.fr {w w' : World} {g o : Nat} {b : Int} {r : Rq} {ob : Option Nat} {F : Nat → Prop} (h : RowAt w g o b r ob) (hf : FrS F w w') (hg : ¬ F g) (hb : ∀ b, ob = some b → ¬ F b) : RowAt w' g o b r ob :=
  h.carry (hf.block g h.gl hg) (fun b e => by subst e; obtain ⟨v, _, h2⟩ := h.wt; exact hf.block b h2.lt (hb b rfl))
theorem RF.andThen {g o : Nat} {ob : Option Nat} {F : Nat → Prop} {a b c : World} (h : RF g o ob a b) (k : FrS F b c) (hF : ∀ i, F i → a.heap.size ≤ i) (hg : g < a.heap.size) : RF g o ob a c := by
  have e := k.block g (Nat.lt_of_lt_of_le hg h.fr.size) (fun e => by have := hF g e; omega)
  exact ⟨h.fr.trans k (fun i hi => .inr (hF i hi)), fun i hi => ⟨(World.cell?_of_block (w := b) e).trans (h.out i hi).1, (World.frozen?_of_block (w := b) e).trans (h.out i hi).2⟩⟩
theorem lastNQ_psh {r : Rq} (y : Int) (hle : r.n ≤ r.A.length) : lastNQ (pshQ r y) = lastNQ r := by
  unfold lastNQ pshQ
  dsimp only
  split
  · rfl
  · simp only [List.getD]
    rw [List.getElem?_append_left (by omega)]
theorem wtQ_psh {r : Rq} (y : Int) (hle : r.n ≤ r.A.length) : wtQ (pshQ r y) = wtQ r ++ [y] := by
  unfold wtQ pshQ
  dsimp only
  rw [List.drop_append_of_le_length hle]
theorem app_row {w wz w2 : World} {g o g0 g' n cap : Nat} {ao : Option Addr} {v : Value} {b : Int} {r : Rq} {ob : Option Nat} (h : RowAt w g o b r ob) (hne : ob ≠ some g) (hz : Below w.heap.size w wz) (hg0 : ob = some g0 ∨ (ob = none ∧ v = .slice none 0 0)) (hap : AppP wz w2 v (.slice ao n cap) g0 g') (hn : 1 ≤ n) :
    RF g o ob w w2 ∧ RowC w2 g o b r ∧ (some g' = ob ∨ ∃ k, some g' = some k ∧ wz.heap.size ≤ k) ∧ g' ≠ g ∧ w2.heap[g]? = w.heap[g]? ∧ (∀ k, k < wz.heap.size → ob ≠ some k → w2.heap[k]? = wz.heap[k]?) := by
  have hgl := h.gl
  have hzg := Nat.lt_of_lt_of_le hgl hz.size
  have key : (∀ k, k < wz.heap.size → ob ≠ some k → w2.heap[k]? = wz.heap[k]?) ∧ (some g' = ob ∨ ∃ k, some g' = some k ∧ wz.heap.size ≤ k) := by
    rcases hg0 with rfl | ⟨rfl, rfl⟩
    · refine ⟨fun k hk hn => hap.fr.block k hk (fun e => hn (by rw [e])), ?_⟩
      rcases hap.lies with e | e
      · exact .inl (by rw [e])
      · exact .inr ⟨g', rfl, e⟩
    · refine ⟨fun k hk _ => (hap.nil rfl).block k hk, ?_⟩
      rcases hap.lies with e | e
      · have := hap.keep e rfl
        cases this
        omega
      · exact .inr ⟨g', rfl, e⟩
  have eg : w2.heap[g]? = w.heap[g]? := (key.1 g hzg hne).trans (hz.block g hgl)
  refine ⟨⟨⟨hap.fr.os.trans hz.os, hap.fr.tape.trans hz.tape, hap.fr.output.trans hz.output, Nat.le_trans hz.size hap.fr.size, fun k hk hn => (key.1 k (Nat.lt_of_lt_of_le hk hz.size) (fun e => hn (.inr e))).trans (hz.block k hk)⟩, fun i _ => ⟨World.cell?_of_block (w := w) eg, World.frozen?_of_block (w := w) eg⟩⟩, h.c.carry eg, key.2, ?_, eg, key.1⟩
  rintro rfl
  rcases key.2 with e | ⟨k, e, hk⟩
  · exact hne e.symm
  · cases e; omega
theorem row_psh {w w2 : World} {g o g' : Nat} {v : Value} {b : Int} {r : Rq} {ob : Option Nat} {y : Int} (h2 : RowC w2 g o b r) (hf : RF g o ob w w2) (hle : r.n ≤ r.A.length) (hO : Own w2 v g' (wtQ r ++ [y])) (hg : g' ≠ g) :
    RowAt (w2.setCell ⟨g, o + 68, none⟩ v) g o b (pshQ r y) (some g') ∧ RF g o ob w (w2.setCell ⟨g, o + 68, none⟩ v) := by
  have h3 := h2.put68 v
  refine ⟨⟨⟨h3.1.c0, by rw [lastNQ_psh y hle]; exact h3.1.c1, h3.1.c2, h3.1.c3, h3.1.kn, h3.1.th⟩, v, h3.2, ?_⟩, hf.setCell (by omega) (by omega) v⟩
  rw [wtQ_psh y hle]
  exact Own.fr hO ((FrS.refl (· = g) w2).setCell (.inl rfl) v) hg
theorem view_oneI (w : World) (y : Int) : View (w.alloc (.cells #[.int .i64 y] 3)) (.slice (some ⟨w.heap.size, 0, none⟩) 1 1) w.heap.size [y] :=
  ⟨_, 1, rfl, Nat.le_refl _, by simp [maxLen], .inr ⟨0, rfl, by simp, fun j hj => by
    obtain rfl : j = 0 := by simp at hj; exact hj
    rw [cell_of_row _ _ _ _ _ _ (heap_alloc_new w _)]; rfl⟩⟩
theorem view_oneK {w : World} {k : Nat} (hk : w.heap.size = k) (y : Int) : View (w.alloc (.cells #[.int .i64 y] 3)) (.slice (some ⟨k, 0, none⟩) 1 1) k [y] := hk ▸ view_oneI w y
structure AskMid (w W3 : World) (g o g2 : Nat) (b : Int) (r : Rq) (ob : Option Nat) : Prop where
  row : RowAt W3 g o b r (some g2)
  rf : RF g o ob w W3
  new : some g2 = ob ∨ ∃ k, some g2 = some k ∧ w.heap.size ≤ k
  ng : g2 ≠ g
  nR : g2 ≠ w.heap.size
  res : W3.heap[w.heap.size]? = some (resO at0)
theorem ask_mid {w w2 : World} {g o g0 g' n cap : Nat} {ao : Option Addr} {v : Value} {b y : Int} {r : Rq} {ob : Option Nat} (h : RowAt w g o b r ob) (hne : ob ≠ some g) (hRb : ob ≠ some w.heap.size) (hle : r.n ≤ r.A.length) (hg0 : ob = some g0 ∨ (ob = none ∧ v = .slice none 0 0))
    (hown : Own w2 (.slice ao n cap) g' (wtQ r ++ [y])) (hap : AppP ((w.alloc (resO at0)).alloc (.cells #[.int .i64 y] 3)) w2 v (.slice ao n cap) g0 g') (hn : 1 ≤ n) :
    AskMid w (w2.setCell ⟨g, o + 68, none⟩ (.slice ao n cap)) g o g' b (pshQ r y) ob ∧ w2.heap[g]? = w.heap[g]? := by
  have hgl := h.gl
  have hz : Below w.heap.size w ((w.alloc (resO at0)).alloc (.cells #[.int .i64 y] 3)) := ((Below.refl _ _).alloc (Nat.le_refl _) _).alloc (by simp) _
  obtain ⟨hRF, hC2, hl2, hg2, he2, hk2⟩ := app_row h hne hz hg0 hap hn
  have hP := row_psh hC2 hRF hle hown hg2
  have hr := (hk2 w.heap.size (by simp) hRb).trans ((Below.heap_alloc _ _ _ (by simp)).trans (heap_alloc_new w _))
  refine ⟨⟨hP.1, hP.2, ?_, hg2, ?_, (Below.heap_setCell _ _ _ _ (by show w.heap.size ≠ g; omega)).trans hr⟩, he2⟩
  · rcases hl2 with e | ⟨k, e, hk⟩
    · exact .inl e
    · exact .inr ⟨k, e, by simp at hk; omega⟩
  · rintro rfl
    rcases hl2 with e | ⟨k, e, hk⟩
    · exact hRb e.symm
    · cases e; simp at hk; omega
theorem ask_fin {w w4 : World} {p g N M M' k : Nat} {L L' : List Rq} {Ft : Nat → Prop} {G : Nat → Option Nat} {r : Rq} {ob : Option Nat} (h : ArIs w p g N M L Ft) (hG : Rows12 w g Ft L G) (hk : k < L.length) (hR : RowAt w4 g (k * 69) k r ob) (hF : RF g (k * 69) (G k) w w4)
    (new : ob = G k ∨ ∃ n, ob = some n ∧ w.heap.size ≤ n) (nR : ob ≠ some w.heap.size) (hI : RInv N M' r) (hM : M ≤ M') (hL : L.set k r = L') (a : At) : ∃ Ft', ArIs (setA w4 w.heap.size a) p g N M' L' Ft' ∧ Step Ft Ft' w (setA w4 w.heap.size a) := by
  have hf := setA_fr w4 w.heap.size a
  rw [← hL]
  have hgl := h.gl
  exact h.put hG hk (hR.fr hf (by omega) (fun b e hb => nR (by rw [e, hb]))) (hF.andThen hf (fun i hi => by omega) hgl) new hI hM
set_option maxHeartbeats 1000000 in
theorem aAsk_c (p g N M : Nat) (L : List Rq) (Ft : Nat → Prop) (x y : Int) (w : World) (h : ArIs w p g N M L Ft) (hM : M + 1 ≤ 100000) (a : At) (ha : Hid (atAsk N L x y = a)) (ok : Bool) (hok : Hid (okAsk N L x y = ok)) : Calls Tryd.prog 80 #[ptr p, .int .i64 x, .int .i64 y] w fun e w' => e = .returned (.tuple #[.agg #[.int .i64 a.b, .int .i64 a.n, .int .i64 a.s], .bool ok]) ∧ ∃ Ft', ArIs w' p g N (M + 1) (nxAsk N L x y) Ft' ∧ Step Ft Ft' w w' := by
  have hH := hide h
  obtain ⟨cap, c64, -, -⟩ := h.c64
  have hpl := h.pl
  have hgl := h.gl
  obtain ⟨q, hq⟩ : ∃ q, Hid (hasQ L.length x = q) := ⟨_, rfl⟩
  obtain ⟨q2, hq2⟩ : ∃ q2, Hid (hasQ N y = q2) := ⟨_, rfl⟩
  have ha' := ha.out
  have hok' := hok.out
  unfold atAsk at ha'
  unfold okAsk at hok'
  obtain ⟨L', hL'⟩ : ∃ L', nxAsk N L x y = L' := ⟨_, rfl⟩
  rw [hL']
  unfold nxAsk at hL'
  rw [hq.out, hq2.out] at ha' hok' hL'
  cases q with
  | false =>
    obtain rfl : ok = false := by rw [← hok']; rfl
    obtain rfl : a = at0 := by rw [← ha']; rfl
    obtain rfl : L = L' := by rw [← hL']; rfl
    clear ha' hok' hL' h
    go_enter Tryd.func80, Tryd.ntmps80
    go_wp2_with fail
    go_at_call 67
    refine (aHasB_c p g N M L Ft x _ ((unhide hH).alloc _) false hq).mono ?_
    rintro e w' ⟨rfl, hw'⟩
    rw [hw']
    clear hw' w'
    go_wp2_with fail
    refine bodyPost_ret (by simp [results, Tryd.results80, go_sem, *]; done) rfl ⟨rfl, Ft, ((unhide hH).alloc _).mono (Nat.le_succ M), ?_⟩
    exact Step.of_below ((Below.refl _ _).alloc (Nat.le_refl _) _)
  | true =>
  obtain ⟨j, rfl, hj⟩ := hasQ_iff.1 hq.out
  have hj' : (j : Int) < L.length := by omega
  cases q2 with
  | false =>
    obtain rfl : ok = false := by rw [← hok']; rfl
    obtain rfl : a = at0 := by rw [← ha']; rfl
    obtain rfl : L = L' := by rw [← hL']; rfl
    clear ha' hok' hL' h
    go_enter Tryd.func80, Tryd.ntmps80
    go_wp2_with fail
    go_at_call 67
    refine (aHasB_c p g N M L Ft j _ ((unhide hH).alloc _) true hq).mono ?_
    rintro e w' ⟨rfl, hw'⟩
    rw [hw']
    clear hw' w'
    go_wp2_with fail
    go_at_call 94
    refine (aHasN_c p g N M L Ft y _ ((unhide hH).alloc _) false hq2).mono ?_
    rintro e w' ⟨rfl, hw'⟩
    rw [hw']
    clear hw' w'
    go_wp2_with fail
    refine bodyPost_ret (by simp [results, Tryd.results80, go_sem, *]; done) rfl ⟨rfl, Ft, ((unhide hH).alloc _).mono (Nat.le_succ M), ?_⟩
    exact Step.of_below ((Below.refl _ _).alloc (Nat.le_refl _) _)
  | true =>
    rw [Bool.true_and, if_pos rfl, getQ_at hj] at ha'
    rw [Bool.true_and, Bool.true_and, getQ_at hj] at hok'
    rw [Bool.true_and, if_pos rfl, getQ_at hj, Int.toNat_natCast] at hL'
    obtain ⟨G, hG⟩ := h.rows
    have hrow := hG.row j hj
    have hI := h.inv.get hj
    obtain ⟨r, hr⟩ : ∃ r, L[j] = r := ⟨_, rfl⟩
    rw [hr] at hrow ha' hok' hL' hI
    have hne : G j ≠ some g := fun e => (hG.own j g hj e).2 rfl
    obtain ⟨v, hv, hW⟩ := hrow.wt
    obtain ⟨g0, hO, hg0⟩ := hW.own hgl
    have f68 := (hrow.c.th 68 (by omega)).2
    have hle := hI.le
    have hlen : (wtQ r).length + [y].length ≤ 1000000 := by unfold wtQ; rw [List.length_drop]; have := hI.al; simp; omega
    obtain ⟨n, hn⟩ : ∃ n, (wtQ r).length = n := ⟨_, rfl⟩
    have hn1 : (wtQ r).length + [y].length = n + 1 := by rw [hn]; rfl
    obtain ⟨ao, cp, rfl, -⟩ := id hO
    rw [hn] at hv hO hg0
    have hb1 : Below w.heap.size w ((w.alloc (resO at0)).alloc (.cells #[.int .i64 y] 3)) := ((Below.refl _ _).alloc (Nat.le_refl _) _).alloc (by simp) _
    have hob1 : ((w.alloc (resO at0)).alloc (.cells #[.int .i64 y] 3)).heap[w.heap.size]? = some (resO at0) := (Below.heap_alloc _ _ _ (by simp)).trans (heap_alloc_new w _)
    replace hob1 := hide hob1
    replace hb1 := hide hb1
    replace hO := hide hO
    replace hg0 := hide hg0
    replace hrow := hide hrow
    replace hG := hide hG
    replace hr := hide hr
    replace hI := hide hI
    replace hlen := hide hlen
    replace hn1 := hide hn1
    replace hn := hide hn
    replace ha' := hide ha'
    replace hok' := hide hok'
    replace hL' := hide hL'
    have hRb : G j ≠ some w.heap.size := fun e => by have := (unhide hH).lt _ ((unhide hG).own j _ hj e).1; omega
    have c3 := (unhide hrow).c.c3
    clear hW h
    by_cases hph : r.ph = 0
    · rw [hph] at c3
      go_enter Tryd.func80, Tryd.ntmps80
      go_wp2_with fail
      go_at_call 67
      refine (aHasB_c p g N M L Ft j _ ((unhide hH).alloc _) true hq).mono ?_
      rintro e w' ⟨rfl, hw'⟩
      rw [hw']
      clear hw' w'
      go_wp2_with fail
      go_at_call 94
      refine (aHasN_c p g N M L Ft y _ ((unhide hH).alloc _) true hq2).mono ?_
      rintro e w' ⟨rfl, hw'⟩
      rw [hw']
      clear hw' w'
      go_wp2_with (at_builtin; go_loud (refine wpList_app rfl _ _ rfl rfl rfl (((unhide hO).below (unhide hb1))) (view_oneK (by simp) y) (unhide hlen) (n + 1) (unhide hn1) ?_; intro ao2 cap2 w2 g2 hown hap; obtain ⟨hS, he2⟩ := ask_mid (unhide hrow) hne hRb hle (unhide hg0) hown hap (by omega); have k68 := keep_cell he2 hv; have kf := keep_frozen he2 f68; obtain ⟨W3, hW3⟩ : ∃ W3, w2.setCell ⟨g, j * 69 + 68, none⟩ (.slice ao2 (n + 1) cap2) = W3 := ⟨_, rfl⟩; rw [hW3] at hS; have k3 : W3.cell? ⟨g, j * 69 + 3, none⟩ = some (.int .i64 0) := (by have k := hS.row.c.c3; rw [show (pshQ r y).ph = 0 from hph] at k; exact k); have y0 : W3.cell? ⟨w.heap.size, 0, none⟩ = some (.int .i64 0) := cell_of_row _ _ _ _ _ _ hS.res; have y1 : W3.cell? ⟨w.heap.size, 1, none⟩ = some (.int .i64 0) := cell_of_row _ _ _ _ _ _ hS.res; have y2 : W3.cell? ⟨w.heap.size, 2, none⟩ = some (.int .i64 0) := cell_of_row _ _ _ _ _ _ hS.res; have e0 : W3.frozen? ⟨w.heap.size, 0, none⟩ = false := frozen_of_row _ _ _ _ _ hS.res; have e1 : W3.frozen? ⟨w.heap.size, 1, none⟩ = false := frozen_of_row _ _ _ _ _ hS.res; have e2 : W3.frozen? ⟨w.heap.size, 2, none⟩ = false := frozen_of_row _ _ _ _ _ hS.res; replace hS := hide hS; clear hown hap he2))
      replace hph := hide hph
      go_at_call 95
      refine (rNext_c g (j * 69) j (pshQ r y) (some g2) N (M + 1) W3 hS.out.row hph.out ((unhide hI).psh y) hM (fun e => hS.out.ng (by cases e; rfl)) a ha' ok hok').mono ?_
      rintro e w4 ⟨rfl, hR4, hF4⟩
      have hb4 : w4.heap[w.heap.size]? = some (resO at0) := (hF4.fr.block w.heap.size (block_lt_of_cell y0) (fun e => by rcases e with e | e; omega; exact hS.out.nR (by cases e; rfl))).trans hS.out.res
      have z0 : w4.cell? ⟨w.heap.size, 0, none⟩ = some (.int .i64 0) := cell_of_row _ _ _ _ _ _ hb4
      have z1 : w4.cell? ⟨w.heap.size, 1, none⟩ = some (.int .i64 0) := cell_of_row _ _ _ _ _ _ hb4
      have z2 : w4.cell? ⟨w.heap.size, 2, none⟩ = some (.int .i64 0) := cell_of_row _ _ _ _ _ _ hb4
      have x0 : w4.frozen? ⟨w.heap.size, 0, none⟩ = false := frozen_of_row _ _ _ _ _ hb4
      have x1 : w4.frozen? ⟨w.heap.size, 1, none⟩ = false := frozen_of_row _ _ _ _ _ hb4
      have x2 : w4.frozen? ⟨w.heap.size, 2, none⟩ = false := frozen_of_row _ _ _ _ _ hb4
      have hfin := hide (ask_fin (unhide hH) (unhide hG) hj hR4 (hS.out.rf.trans hF4 hS.out.new) hS.out.new (fun e => hS.out.nR (by cases e; rfl)) ((unhide hI).ask y) (Nat.le_succ M) hL'.out a)
      clear hF4 hb4 y0 y1 y2 e0 e1 e2 hR4
      go_wp2_with fail
      refine bodyPost_ret (by simp [results, Tryd.results80, go_sem, *]; done) rfl ⟨rfl, ?_⟩
      exact hfin.out
    · have hnx : nxBQ (pshQ r y) = pshQ r y := by unfold nxBQ; rw [if_neg (fun e => hph e.1)]
      obtain rfl : ok = false := by rw [← hok'.out]; unfold okBQ; exact decide_eq_false (fun e => hph e.1)
      obtain rfl : a = at0 := by rw [← ha'.out]; unfold atBQ; rw [if_neg (fun e => hph e.1)]
      obtain ⟨ph, hpe⟩ : ∃ ph, r.ph = ph := ⟨_, rfl⟩
      have hpc : decide (ph = 0) = false ∧ (ph == 0) = false ∧ (ph != 0) = true := by rw [hpe] at hph; exact ⟨by simpa using hph, by simpa using hph, by simpa using hph⟩
      rw [hpe] at c3
      replace hpe := hide hpe
      have hIn := (unhide hI).ask y
      rw [hnx] at hL' hIn
      replace hIn := hide hIn
      clear hph hnx
      go_enter Tryd.func80, Tryd.ntmps80
      go_wp2_with fail
      go_at_call 67
      refine (aHasB_c p g N M L Ft j _ ((unhide hH).alloc _) true hq).mono ?_
      rintro e w' ⟨rfl, hw'⟩
      rw [hw']
      clear hw' w'
      go_wp2_with fail
      go_at_call 94
      refine (aHasN_c p g N M L Ft y _ ((unhide hH).alloc _) true hq2).mono ?_
      rintro e w' ⟨rfl, hw'⟩
      rw [hw']
      clear hw' w'
      go_wp2_with (at_builtin; go_loud (refine wpList_app rfl _ _ rfl rfl rfl (((unhide hO).below (unhide hb1))) (view_oneK (by simp) y) (unhide hlen) (n + 1) (unhide hn1) ?_; intro ao2 cap2 w2 g2 hown hap; obtain ⟨hS, he2⟩ := ask_mid (unhide hrow) hne hRb hle (unhide hg0) hown hap (by omega); have k68 := keep_cell he2 hv; have kf := keep_frozen he2 f68; obtain ⟨W3, hW3⟩ : ∃ W3, w2.setCell ⟨g, j * 69 + 68, none⟩ (.slice ao2 (n + 1) cap2) = W3 := ⟨_, rfl⟩; rw [hW3] at hS; have k3 : W3.cell? ⟨g, j * 69 + 3, none⟩ = some (.int .i64 ph) := (by have k := hS.row.c.c3; rw [show (pshQ r y).ph = ph from hpe.out] at k; exact k); have y0 : W3.cell? ⟨w.heap.size, 0, none⟩ = some (.int .i64 0) := cell_of_row _ _ _ _ _ _ hS.res; have y1 : W3.cell? ⟨w.heap.size, 1, none⟩ = some (.int .i64 0) := cell_of_row _ _ _ _ _ _ hS.res; have y2 : W3.cell? ⟨w.heap.size, 2, none⟩ = some (.int .i64 0) := cell_of_row _ _ _ _ _ _ hS.res; have e0 : W3.frozen? ⟨w.heap.size, 0, none⟩ = false := frozen_of_row _ _ _ _ _ hS.res; have e1 : W3.frozen? ⟨w.heap.size, 1, none⟩ = false := frozen_of_row _ _ _ _ _ hS.res; have e2 : W3.frozen? ⟨w.heap.size, 2, none⟩ = false := frozen_of_row _ _ _ _ _ hS.res; replace hS := hide hS; clear hown hap he2))
      refine bodyPost_ret (by simp [results, Tryd.results80, go_sem, *]; done) rfl ⟨rfl, ?_⟩
      exact ask_fin (unhide hH) (unhide hG) hj hS.out.row hS.out.rf hS.out.new (fun e => hS.out.nR (by cases e; rfl)) hIn.out (Nat.le_succ M) hL'.out at0
section
variable {a : Act} {o : Oper} {w : World} {ops : Array Oper} {rest : List Oper} {Q : Exit → Act → World → Prop}
theorem exec_loadM (x : Operand) (ho : o.op = .load 116 x) {b k : Nat} (hx : a.eval x = ptrO b k) {f : Nat → Bool} (hc : w.rangeAt b k (mkM f)) : (execOp a.eval o).run Tryd.prog w = .ok (.value (.agg (mkM f).toArray)) w := by
  unfold execOp
  simp only [ho, hx, Instr.loadAt, Instr.sureAddr, Sem.run_bind, Sem.run_pure, Result.andThen_ok, run_loadVar_mid w b k _ _ _ hc Tryd.underlying116 rfl (infoMl f)]
theorem exec_neqM (x y : Operand) (ho : o.op = .binOp .neq 116 x y 116) {f g : Nat → Bool} (hx : a.eval x = .agg (mkM f).toArray) (hy : a.eval y = .agg (mkM g).toArray) : (execOp a.eval o).run Tryd.prog w = .ok (.value (.bool (!eqM f g))) w := by
  unfold execOp
  simp only [ho, hx, hy, Sem.run_bind, Sem.run_pure, Result.andThen_ok, run_eqGuard_agg w _ _ _ _ _ _ Tryd.eqGuardM, run_neq_marks]
theorem wpList_buildM (hgd : o.guard = none) (ho : o.op = .build 116 #[]) (h : wpList Tryd.prog ops Q rest (a.put o.dst (.agg (mkM noM).toArray)) w) : wpList Tryd.prog ops Q (o :: rest) a w :=
  wpList_plain hgd fun K hK => by
    unfold Oper.wp execOp
    simp only [ho, Sem.run_bind, Sem.run_pure, Result.andThen_ok, Array.map_empty, build_marks, List.map_toArray, List.map_nil]
    exact hK _ _ h
end
theorem row_over {w : World} {g o : Nat} {b : Int} {r : Rq} {ob : Option Nat} (h : RowAt w g o b r ob) (hne : ob ≠ some g) :
    RowAt ((w.setCell ⟨g, o + 3, none⟩ (.int .i64 0)).setCells g (o + 4) (mkM noM)) g o b ⟨r.A, r.n, 0, r.kn⟩ ob ∧ RF g o ob w ((w.setCell ⟨g, o + 3, none⟩ (.int .i64 0)).setCells g (o + 4) (mkM noM)) := by
  obtain ⟨v, h1, h2⟩ := h.wt
  have th1 : (w.setCell ⟨g, o + 3, none⟩ (.int .i64 0)).there g o 69 := World.there_setCells h.c.th g (o + 3) [.int .i64 0]
  have th2 : (w.setCell ⟨g, o + 3, none⟩ (.int .i64 0)).there g (o + 4) (mkM noM).length := fun j hj => by rw [mkM_len] at hj; rw [Nat.add_assoc]; exact th1 (4 + j) (by omega)
  have hx : ∀ i, i < 4 ∨ i = 68 → i ≠ 3 → ((w.setCell ⟨g, o + 3, none⟩ (.int .i64 0)).setCells g (o + 4) (mkM noM)).cell? ⟨g, o + i, none⟩ = w.cell? ⟨g, o + i, none⟩ := fun i hi h3 => by
    rw [World.cell?_setCells_out _ _ _ _ _ (fun _ _ => by rw [mkM_len]; show o + i < o + 4 ∨ o + 4 + 64 ≤ o + i; omega)]
    exact World.cell?_setCell_other _ _ _ _ (fun e => by have : o + 3 = o + i := congrArg Addr.off e; omega)
  have c3 : ((w.setCell ⟨g, o + 3, none⟩ (.int .i64 0)).setCells g (o + 4) (mkM noM)).cell? ⟨g, o + 3, none⟩ = some (.int .i64 0) := by
    rw [World.cell?_setCells_out _ _ _ _ _ (fun _ _ => .inl (by show o + 3 < o + 4; omega))]
    exact World.cell?_setCell_same _ _ _ h.c.c3
  have hk : mkM (knM ⟨r.A, r.n, 0, r.kn⟩) = mkM noM := mkM_ext (fun i _ => by simp [knM])
  have f2 : FrS (· = g) w ((w.setCell ⟨g, o + 3, none⟩ (.int .i64 0)).setCells g (o + 4) (mkM noM)) := (setCells_frS g [.int .i64 0] (o + 3) w).trans (setCells_frS g (mkM noM) (o + 4) _) (fun _ e => .inl e)
  refine ⟨⟨⟨(hx 0 (by omega) (by omega)).trans h.c.c0, (hx 1 (by omega) (by omega)).trans h.c.c1, (hx 2 (by omega) (by omega)).trans h.c.c2, c3, ?_, World.there_setCells th1 _ _ _⟩, v, (hx 68 (by omega) (by omega)).trans h1, ?_⟩, ((RF.refl g o ob w).setCell (by omega) (by omega) _).setCells (by omega) (by rw [mkM_len]; omega)⟩
  · rw [hk]; exact World.rangeAt_setCells_same _ _ _ _ th2
  · exact h2.carry (fun b hb => f2.block b (by subst hb; exact h2.lt) (fun e => hne (by rw [hb, e])))
theorem row_mark {w : World} {g o i : Nat} {b : Int} {r : Rq} {ob : Option Nat} (h : RowAt w g o b r ob) (hne : ob ≠ some g) (hp : r.ph = 2) (hi : i < 64) :
    RowAt (w.setCell ⟨g, o + 4 + i, none⟩ (.bool true)) g o b ⟨r.A, r.n, 2, r.kn ++ [(i : Int)]⟩ ob ∧ RF g o ob w (w.setCell ⟨g, o + 4 + i, none⟩ (.bool true)) := by
  obtain ⟨v, h1, h2⟩ := h.wt
  have hx : ∀ q, q ≠ 4 + i → (w.setCell ⟨g, o + 4 + i, none⟩ (.bool true)).cell? ⟨g, o + q, none⟩ = w.cell? ⟨g, o + q, none⟩ := fun q hq => World.cell?_setCell_other _ _ _ _ (fun e => by have : o + 4 + i = o + q := congrArg Addr.off e; omega)
  refine ⟨⟨⟨(hx 0 (by omega)).trans h.c.c0, (hx 1 (by omega)).trans h.c.c1, (hx 2 (by omega)).trans h.c.c2, by rw [hx 3 (by omega), h.c.c3, hp], ?_, World.there_setCells h.c.th g (o + 4 + i) [.bool true]⟩, v, (hx 68 (by omega)).trans h1, ?_⟩, (RF.refl g o ob w).setCell (by omega) (by omega) _⟩
  · intro j u hu
    have hj : j < 64 := by have := (List.getElem?_eq_some_iff.1 hu).1; rwa [mkM_len] at this
    rw [mkM_at _ hj] at hu
    have hold := h.c.kn j _ (mkM_at (knM r) hj)
    by_cases e : j = i
    · subst e
      rw [World.cell?_setCell_same _ _ _ hold, ← hu]
      simp [knM]
    · have e2 := hx (4 + j) (by omega)
      rw [← Nat.add_assoc] at e2
      rw [e2, hold, ← hu]
      have : (j : Int) ≠ i := by omega
      simp [knM, hp, this]
  · exact h2.carry (fun b hb => Below.heap_setCell _ _ _ _ (fun e => hne (by rw [hb, e])))
theorem marks_all {N : Nat} {r : Rq} (hN : N ≤ 64) (hk : ∀ k ∈ r.kn, 0 ≤ k ∧ k < N) (hp : r.ph = 2) : eqM (knM r) (ndM N) = allKQ N r.kn := by
  apply Bool.eq_iff_iff.2
  rw [eqM_iff, allKQ_iff]
  unfold knM ndM
  constructor
  · intro h i hi
    have := h i (by omega)
    simp only [hp, hi, decide_true, Bool.true_and, decide_eq_true_eq] at this
    exact this
  · intro h i hi
    by_cases c : i < N
    · simp [hp, c, h i c]
    · have : ¬ (i : Int) ∈ r.kn := fun e => by have := hk _ e; omega
      simp [c, this]
structure AckMid (w W : World) (p g o N : Nat) (b : Int) (r : Rq) (ob : Option Nat) : Prop where
  row : RowAt W g o b r ob
  rf : RF g o ob w W
  res : W.heap[w.heap.size]? = some (resO at0)
  ms : W.rangeAt p 0 (mkM (ndM N))
theorem AckMid.below {w W V : World} {p g o N : Nat} {b : Int} {r : Rq} {ob : Option Nat} (h : AckMid w W p g o N b r ob) (hb : Below W.heap.size W V) : AckMid w V p g o N b r ob :=
  ⟨h.row.below hb, h.rf.trans (RF.of_below hb h.row.gl) (.inl rfl), (hb.block _ (Array.getElem?_eq_some_iff.1 h.res).1).trans h.res, fun j v hv => by have := h.ms j v hv; exact keep_cell (hb.block p (block_lt_of_cell this)) this⟩
theorem ack_mid {w : World} {p g N M j i : Nat} {L : List Rq} {Ft : Nat → Prop} {G : Nat → Option Nat} {r : Rq} (h : ArIs w p g N M L Ft) (hG : Rows12 w g Ft L G) (hj : j < L.length) (hrow : RowAt w g (j * 69) j r (G j)) (hp : r.ph = 2) (hi : i < 64) :
    AckMid w ((w.setCell ⟨g, j * 69 + 4 + i, none⟩ (.bool true)).alloc (resO at0)) p g (j * 69) N j ⟨r.A, r.n, 2, r.kn ++ [(i : Int)]⟩ (G j) := by
  have hne : G j ≠ some g := fun e => (hG.own j g hj e).2 rfl
  have hm := row_mark (i := i) hrow hne hp hi
  have hB : Below _ (w.setCell ⟨g, j * 69 + 4 + i, none⟩ (.bool true)) ((w.setCell ⟨g, j * 69 + 4 + i, none⟩ (.bool true)).alloc (resO at0)) := (Below.refl _ _).alloc (Nat.le_refl _) _
  have hrf := hm.2.trans (RF.of_below (ob := G j) (o := j * 69) hB hm.1.gl) (.inl rfl)
  refine ⟨hm.1.below hB, hrf, ?_, fun k v hv => ?_⟩
  · have := heap_alloc_new (w.setCell ⟨g, j * 69 + 4 + i, none⟩ (.bool true)) (resO at0)
    simpa using this
  · refine keep_cell (hrf.fr.block p h.pl ?_) (h.marks k v hv)
    rintro (e | e)
    · exact h.fp (e ▸ h.fg)
    · exact h.fp (hG.own j p hj e).1
set_option maxHeartbeats 1000000 in
theorem aAck_c (p g N M : Nat) (L : List Rq) (Ft : Nat → Prop) (x s y : Int) (w : World) (h : ArIs w p g N M L Ft) (hM : M + 1 ≤ 100000) (a : At) (ha : Hid (atAck N L x s y = a)) (ok : Bool) (hok : Hid (okAck N L x s y = ok)) : Calls Tryd.prog 83 #[ptr p, .int .i64 x, .int .i64 s, .int .i64 y] w fun e w' => e = .returned (.tuple #[.agg #[.int .i64 a.b, .int .i64 a.n, .int .i64 a.s], .bool ok]) ∧ ∃ Ft', ArIs w' p g N (M + 1) (nxAck N L x s y) Ft' ∧ Step Ft Ft' w w' := by
  have hH := hide h
  obtain ⟨cap, c64, -, -⟩ := h.c64
  have hpl := h.pl
  have hgl := h.gl
  obtain ⟨q, hq⟩ : ∃ q, Hid (hasQ L.length x = q) := ⟨_, rfl⟩
  obtain ⟨q2, hq2⟩ : ∃ q2, Hid (hasQ N y = q2) := ⟨_, rfl⟩
  have ha' := ha.out
  have hok' := hok.out
  unfold atAck at ha'
  unfold okAck at hok'
  obtain ⟨L', hL'⟩ : ∃ L', nxAck N L x s y = L' := ⟨_, rfl⟩
  rw [hL']
  unfold nxAck at hL'
  rw [hq.out, hq2.out] at ha' hok' hL'
  cases q with
  | false =>
    obtain rfl : ok = false := by rw [← hok']; rfl
    obtain rfl : a = at0 := by rw [← ha']; rfl
    obtain rfl : L = L' := by rw [← hL']; rfl
    clear ha' hok' hL' h
    go_enter Tryd.func83, Tryd.ntmps83
    go_wp2_with fail
    go_at_call 67
    refine (aHasB_c p g N M L Ft x _ ((unhide hH).alloc _) false hq).mono ?_
    rintro e w' ⟨rfl, hw'⟩
    rw [hw']
    clear hw' w'
    go_wp2_with fail
    refine bodyPost_ret (by simp [results, Tryd.results83, go_sem, *]; done) rfl ⟨rfl, Ft, ((unhide hH).alloc _).mono (Nat.le_succ M), ?_⟩
    exact Step.of_below ((Below.refl _ _).alloc (Nat.le_refl _) _)
  | true =>
  obtain ⟨j, rfl, hj⟩ := hasQ_iff.1 hq.out
  have hj' : (j : Int) < L.length := by omega
  cases q2 with
  | false =>
    obtain rfl : ok = false := by rw [← hok']; rfl
    obtain rfl : a = at0 := by rw [← ha']; rfl
    obtain rfl : L = L' := by rw [← hL']; rfl
    clear ha' hok' hL' h
    go_enter Tryd.func83, Tryd.ntmps83
    go_wp2_with fail
    go_at_call 67
    refine (aHasB_c p g N M L Ft j _ ((unhide hH).alloc _) true hq).mono ?_
    rintro e w' ⟨rfl, hw'⟩
    rw [hw']
    clear hw' w'
    go_wp2_with fail
    go_at_call 94
    refine (aHasN_c p g N M L Ft y _ ((unhide hH).alloc _) false hq2).mono ?_
    rintro e w' ⟨rfl, hw'⟩
    rw [hw']
    clear hw' w'
    go_wp2_with fail
    refine bodyPost_ret (by simp [results, Tryd.results83, go_sem, *]; done) rfl ⟨rfl, Ft, ((unhide hH).alloc _).mono (Nat.le_succ M), ?_⟩
    exact Step.of_below ((Below.refl _ _).alloc (Nat.le_refl _) _)
  | true =>
    rw [Bool.true_and, if_pos rfl, getQ_at hj] at ha'
    rw [Bool.true_and, Bool.true_and, getQ_at hj] at hok'
    rw [Bool.true_and, if_pos rfl, getQ_at hj, Int.toNat_natCast] at hL'
    obtain ⟨G, hG⟩ := h.rows
    have hrow := hG.row j hj
    have hI := h.inv.get hj
    obtain ⟨r, hr⟩ : ∃ r, L[j] = r := ⟨_, rfl⟩
    have hrs : L.set j r = L := by rw [← hr]; exact List.set_getElem_self hj
    rw [hr] at hrow ha' hok' hL' hI
    have hne : G j ≠ some g := fun e => (hG.own j g hj e).2 rfl
    have hRb : G j ≠ some w.heap.size := fun e => by have := h.lt _ (hG.own j _ hj e).1; omega
    have c2 := hrow.c.c2
    have c3 := hrow.c.c3
    obtain ⟨n, hn⟩ : ∃ n, r.n = n := ⟨_, rfl⟩
    obtain ⟨ph, hph⟩ : ∃ ph, r.ph = ph := ⟨_, rfl⟩
    unfold nxKQ at hL'
    unfold atKQ at ha'
    unfold okKQ at hok'
    obtain ⟨is, his⟩ : ∃ is, isEQ r s = is := ⟨_, rfl⟩
    rw [his] at ha' hok' hL'
    have hdn : Hid (decide (ph = 2 ∧ (n : Int) = s) = is) := hide (by rw [← hn, ← hph]; exact his)
    rw [hn] at c2
    rw [hph] at c3
    cases is with
    | false =>
      obtain rfl : ok = false := by rw [← hok']; rfl
      obtain rfl : a = at0 := by rw [← ha']; rfl
      rw [if_neg (by decide), hrs] at hL'
      subst hL'
      clear ha' hok' h hrow hI hG hr hrs hn hph his
      go_enter Tryd.func83, Tryd.ntmps83
      go_wp2_with fail
      go_at_call 67
      refine (aHasB_c p g N M L Ft j _ ((unhide hH).alloc _) true hq).mono ?_
      rintro e w' ⟨rfl, hw'⟩
      rw [hw']
      clear hw' w'
      go_wp2_with fail
      go_at_call 94
      refine (aHasN_c p g N M L Ft y _ ((unhide hH).alloc _) true hq2).mono ?_
      rintro e w' ⟨rfl, hw'⟩
      rw [hw']
      clear hw' w'
      go_wp2_with fail
      go_at_call 96
      refine (rIs_c g (j * 69) n ph 2 s _ (by simp [go_sem, *]) (by simp [go_sem, *]) false hdn).mono ?_
      rintro e w' ⟨rfl, hw'⟩
      rw [hw']
      clear hw' w'
      go_wp2_with fail
      refine bodyPost_ret (by simp [results, Tryd.results83, go_sem, *]; done) rfl ⟨rfl, Ft, ((unhide hH).alloc _).mono (Nat.le_succ M), ?_⟩
      exact Step.of_below ((Below.refl _ _).alloc (Nat.le_refl _) _)
    | true =>
      obtain ⟨i, rfl, hi⟩ := hasQ_iff.1 hq2.out
      have hi64 : i < 64 := Nat.lt_of_lt_of_le hi h.n64
      have hi64' : (i : Int) < 64 := by omega
      rw [if_pos rfl] at ha' hL'
      rw [Bool.true_and] at hok'
      have hie := decide_eq_true_iff.1 his
      have hM1 := ack_mid (i := i) h hG hj hrow hie.1 hi64
      have hkm := hrow.c.kn i _ (mkM_at (knM r) hi64)
      have hfm := (hrow.c.th (4 + i) (by omega)).2
      rw [← Nat.add_assoc] at hfm
      generalize knM r i = km at hkm
      obtain ⟨r1, hr1⟩ : ∃ r1 : Rq, ⟨r.A, r.n, 2, r.kn ++ [(i : Int)]⟩ = r1 := ⟨_, rfl⟩
      rw [hr1] at hM1
      have hks := (hI.kn hie.1 (x := i) (by omega)).ks
      have hall : eqM (knM r1) (ndM N) = allKQ N (r.kn ++ [(i : Int)]) := by
        have := marks_all (r := r1) h.n64 (by rw [← hr1]; exact hks) (by rw [← hr1])
        rw [this, ← hr1]
      replace hM1 := hide hM1
      clear hks
      obtain ⟨all, hal⟩ : ∃ all, allKQ N (r.kn ++ [(i : Int)]) = all := ⟨_, rfl⟩
      rw [hal] at hall
      have hkq : knQ N r i = ⟨r.A, r.n, if all then 0 else 2, r.kn ++ [(i : Int)]⟩ := by unfold knQ; rw [hal]
      have hIk := (hI.kn hie.1 (x := i) (by omega))
      rw [hkq] at hL' hok' ha' hIk
      replace hG := hide hG
      replace hall := hide hall
      clear hn hph his hrow hI hr hrs h hal hkq
      cases all with
      | false =>
        have hr2 : (⟨r.A, r.n, if false then 0 else 2, r.kn ++ [(i : Int)]⟩ : Rq) = r1 := by rw [← hr1]; rfl
        rw [hr2] at hL' hok' ha' hIk
        have hph1 : r1.ph ≠ 0 := by rw [← hr1]; simp
        have hnx : nxBQ r1 = r1 := by unfold nxBQ; rw [if_neg (fun e => hph1 e.1)]
        obtain rfl : ok = false := by rw [← hok']; unfold okBQ; exact decide_eq_false (fun e => hph1 e.1)
        obtain rfl : a = at0 := by rw [← ha']; unfold atBQ; rw [if_neg (fun e => hph1 e.1)]
        have hIn := hIk.nextInv
        rw [hnx] at hL' hIn
        replace hIn := hide hIn
        replace hL' := hide hL'
        clear hr1 hr2 hph1 hnx hok' ha' hIk hie
        go_enter Tryd.func83, Tryd.ntmps83
        go_wp2_with fail
        go_at_call 67
        refine (aHasB_c p g N M L Ft j _ ((unhide hH).alloc _) true hq).mono ?_
        rintro e w' ⟨rfl, hw'⟩
        rw [hw']
        clear hw' w'
        go_wp2_with fail
        go_at_call 94
        refine (aHasN_c p g N M L Ft i _ ((unhide hH).alloc _) true hq2).mono ?_
        rintro e w' ⟨rfl, hw'⟩
        rw [hw']
        clear hw' w'
        go_wp2_with fail
        go_at_call 96
        refine (rIs_c g (j * 69) n ph 2 s _ (by simp [go_sem, *]) (by simp [go_sem, *]) true hdn).mono ?_
        rintro e w' ⟨rfl, hw'⟩
        rw [hw']
        clear hw' w'
        go_wp2_with fail
        refine name_world ?_
        intro W hW
        have hMW : Hid (AckMid w W p g (j * 69) N j r1 (G j)) := by rw [← hW]; exact hM1
        clear hW hM1 hkm hfm c2 c3 c64
        go_wp2_with fail
        refine wp_region_noPanic ?_
        refine wp_region_held_drew (S := (fun w' => Hid (w'.rangeAt g (j * 69 + 4) (mkM (knM r1))) ∧ Hid (w'.rangeAt p 0 (mkM (ndM N))))) (by kernel_rfl) ?_ (fun hHeld => ?_)
        · exact ⟨hide ((World.rangeAt_drew _ _ _ _).2 hMW.out.row.c.kn), hide ((World.rangeAt_drew _ _ _ _).2 hMW.out.ms)⟩
        refine hTk 0 44 hHeld ?_
        refine hTk 1 45 hHeld ?_
        refine hTk 2 46 hHeld ?_
        refine hTk 4 48 hHeld ?_
        refine hTk 5 49 hHeld ?_
        refine hTk 6 50 hHeld ?_
        refine hVl 3 47 (.agg (mkM (knM r1)).toArray) hHeld (fun wz hSw => ?_) ?_
        · try dsimp only at hSw
          exact exec_loadM (.tmp 46) rfl rfl hSw.1.out
        refine hVl 7 51 (.agg (mkM (ndM N)).toArray) hHeld (fun wz hSw => ?_) ?_
        · try dsimp only at hSw
          exact exec_loadM (.tmp 50) rfl rfl hSw.2.out
        refine hVl 8 52 (.bool true) hHeld (fun wz hSw => ?_) ?_
        · try dsimp only at hSw
          rw [exec_neqM (.tmp 47) (.tmp 51) rfl rfl rfl, hall.out]; rfl
        refine wpAnyH_done (by kernel_rfl) (NoPanic.normal ?_) _
        clear hHeld
        obtain ⟨V, hV⟩ : ∃ V, W.drew = V := ⟨_, rfl⟩
        rw [hV]
        have hMV : Hid (AckMid w V p g (j * 69) N j r1 (G j)) := by rw [← hV]; exact hide (hMW.out.below (Below.refl _ _).drew)
        clear hV hMW
        have y0 : V.cell? ⟨w.heap.size, 0, none⟩ = some (.int .i64 0) := cell_of_row _ _ _ _ _ _ hMV.out.res
        have y1 : V.cell? ⟨w.heap.size, 1, none⟩ = some (.int .i64 0) := cell_of_row _ _ _ _ _ _ hMV.out.res
        have y2 : V.cell? ⟨w.heap.size, 2, none⟩ = some (.int .i64 0) := cell_of_row _ _ _ _ _ _ hMV.out.res
        have e0 : V.frozen? ⟨w.heap.size, 0, none⟩ = false := frozen_of_row _ _ _ _ _ hMV.out.res
        have e1 : V.frozen? ⟨w.heap.size, 1, none⟩ = false := frozen_of_row _ _ _ _ _ hMV.out.res
        have e2 : V.frozen? ⟨w.heap.size, 2, none⟩ = false := frozen_of_row _ _ _ _ _ hMV.out.res
        have hfin := hide (ask_fin (unhide hH) (unhide hG) hj hMV.out.row hMV.out.rf (.inl rfl) hRb hIn.out (Nat.le_succ M) hL'.out at0)
        go_wp2_with fail
        refine bodyPost_ret (by simp [results, Tryd.results83, go_sem, *]; done) rfl ⟨rfl, ?_⟩
        exact hfin.out
      | true =>
        obtain ⟨r2, hr2⟩ : ∃ r2 : Rq, ⟨r.A, r.n, 0, r.kn ++ [(i : Int)]⟩ = r2 := ⟨_, rfl⟩
        have hr3 : (⟨r.A, r.n, if true then 0 else 2, r.kn ++ [(i : Int)]⟩ : Rq) = r2 := by rw [← hr2]; rfl
        rw [hr3] at hL' hok' ha' hIk
        have hph2 : Hid (r2.ph = 0) := hide (by rw [← hr2])
        have hr12 : Hid ((⟨r1.A, r1.n, 0, r1.kn⟩ : Rq) = r2) := hide (by rw [← hr1, ← hr2])
        replace hIk := hide hIk
        replace hL' := hide hL'
        replace hok' := hide hok'
        replace ha' := hide ha'
        clear hr1 hr2 hr3 hie
        go_enter Tryd.func83, Tryd.ntmps83
        go_wp2_with fail
        go_at_call 67
        refine (aHasB_c p g N M L Ft j _ ((unhide hH).alloc _) true hq).mono ?_
        rintro e w' ⟨rfl, hw'⟩
        rw [hw']
        clear hw' w'
        go_wp2_with fail
        go_at_call 94
        refine (aHasN_c p g N M L Ft i _ ((unhide hH).alloc _) true hq2).mono ?_
        rintro e w' ⟨rfl, hw'⟩
        rw [hw']
        clear hw' w'
        go_wp2_with fail
        go_at_call 96
        refine (rIs_c g (j * 69) n ph 2 s _ (by simp [go_sem, *]) (by simp [go_sem, *]) true hdn).mono ?_
        rintro e w' ⟨rfl, hw'⟩
        rw [hw']
        clear hw' w'
        go_wp2_with fail
        refine name_world ?_
        intro W hW
        have hMW : Hid (AckMid w W p g (j * 69) N j r1 (G j)) := by rw [← hW]; exact hM1
        clear hW hM1 hkm hfm c2 c3 c64
        go_wp2_with fail
        refine wp_region_noPanic ?_
        refine wp_region_held_drew (S := (fun w' => Hid (w'.rangeAt g (j * 69 + 4) (mkM (knM r1))) ∧ Hid (w'.rangeAt p 0 (mkM (ndM N))))) (by kernel_rfl) ?_ (fun hHeld => ?_)
        · exact ⟨hide ((World.rangeAt_drew _ _ _ _).2 hMW.out.row.c.kn), hide ((World.rangeAt_drew _ _ _ _).2 hMW.out.ms)⟩
        refine hTk 0 44 hHeld ?_
        refine hTk 1 45 hHeld ?_
        refine hTk 2 46 hHeld ?_
        refine hTk 4 48 hHeld ?_
        refine hTk 5 49 hHeld ?_
        refine hTk 6 50 hHeld ?_
        refine hVl 3 47 (.agg (mkM (knM r1)).toArray) hHeld (fun wz hSw => ?_) ?_
        · try dsimp only at hSw
          exact exec_loadM (.tmp 46) rfl rfl hSw.1.out
        refine hVl 7 51 (.agg (mkM (ndM N)).toArray) hHeld (fun wz hSw => ?_) ?_
        · try dsimp only at hSw
          exact exec_loadM (.tmp 50) rfl rfl hSw.2.out
        refine hVl 8 52 (.bool false) hHeld (fun wz hSw => ?_) ?_
        · try dsimp only at hSw
          rw [exec_neqM (.tmp 47) (.tmp 51) rfl rfl rfl, hall.out]; rfl
        refine wpAnyH_done (by kernel_rfl) (NoPanic.normal ?_) _
        clear hHeld
        obtain ⟨V, hV⟩ : ∃ V, W.drew = V := ⟨_, rfl⟩
        rw [hV]
        have hMV : Hid (AckMid w V p g (j * 69) N j r1 (G j)) := by rw [← hV]; exact hide (hMW.out.below (Below.refl _ _).drew)
        clear hV hMW
        have y0 : V.cell? ⟨w.heap.size, 0, none⟩ = some (.int .i64 0) := cell_of_row _ _ _ _ _ _ hMV.out.res
        have y1 : V.cell? ⟨w.heap.size, 1, none⟩ = some (.int .i64 0) := cell_of_row _ _ _ _ _ _ hMV.out.res
        have y2 : V.cell? ⟨w.heap.size, 2, none⟩ = some (.int .i64 0) := cell_of_row _ _ _ _ _ _ hMV.out.res
        have e0 : V.frozen? ⟨w.heap.size, 0, none⟩ = false := frozen_of_row _ _ _ _ _ hMV.out.res
        have e1 : V.frozen? ⟨w.heap.size, 1, none⟩ = false := frozen_of_row _ _ _ _ _ hMV.out.res
        have e2 : V.frozen? ⟨w.heap.size, 2, none⟩ = false := frozen_of_row _ _ _ _ _ hMV.out.res
        have hO := row_over hMV.out.row hne
        rw [hr12.out] at hO
        have k3 := hMV.out.row.c.c3
        have fr3 := (hMV.out.row.c.th 3 (by omega)).2
        have th1 : (V.setCell ⟨g, j * 69 + 3, none⟩ (.int .i64 0)).there g (j * 69 + 4) (mkM noM).toArray.size := fun k hk => by rw [List.size_toArray, mkM_len] at hk; rw [Nat.add_assoc]; exact World.there_setCells hMV.out.row.c.th g (j * 69 + 3) [.int .i64 0] (4 + k) (by omega)
        obtain ⟨W7, hW7⟩ : ∃ W7, (V.setCell ⟨g, j * 69 + 3, none⟩ (.int .i64 0)).setCells g (j * 69 + 4) (mkM noM) = W7 := ⟨_, rfl⟩
        rw [hW7] at hO
        have hb7 : W7.heap[w.heap.size]? = some (resO at0) := by
          rw [← hW7]
          exact ((setCells_frS g (mkM noM) (j * 69 + 4) _).block _ (by simp; exact block_lt_of_cell y0) (by omega)).trans ((Below.heap_setCell _ _ _ _ (by show w.heap.size ≠ g; omega)).trans hMV.out.res)
        generalize r1.ph = ph1 at k3
        replace hW7 := hide hW7
        replace th1 := hide th1
        replace hO := hide hO
        replace hb7 := hide hb7
        clear y0 y1 y2 e0 e1 e2
        go_wp2_with (first | (refine wpList_buildM rfl rfl ?_) | (refine wpList_store_mid rfl _ _ _ rfl g (j * 69 + 4) (mkM noM).toArray rfl rfl th1.out (infoMs noM) (mkM_all noM) ?_; rw [List.toList_toArray, hW7.out]; clear k3 fr3))
        go_at_call 95
        refine (rNext_c g (j * 69) j r2 (G j) N (M + 1) W7 hO.out.1 hph2.out hIk.out hM hne a ha' ok hok').mono ?_
        rintro e w4 ⟨rfl, hR4, hF4⟩
        have hb4 : w4.heap[w.heap.size]? = some (resO at0) := (hF4.fr.block w.heap.size (Array.getElem?_eq_some_iff.1 hb7.out).1 (fun e => by rcases e with e | e; omega; exact hRb e)).trans hb7.out
        have z0 : w4.cell? ⟨w.heap.size, 0, none⟩ = some (.int .i64 0) := cell_of_row _ _ _ _ _ _ hb4
        have z1 : w4.cell? ⟨w.heap.size, 1, none⟩ = some (.int .i64 0) := cell_of_row _ _ _ _ _ _ hb4
        have z2 : w4.cell? ⟨w.heap.size, 2, none⟩ = some (.int .i64 0) := cell_of_row _ _ _ _ _ _ hb4
        have x0 : w4.frozen? ⟨w.heap.size, 0, none⟩ = false := frozen_of_row _ _ _ _ _ hb4
        have x1 : w4.frozen? ⟨w.heap.size, 1, none⟩ = false := frozen_of_row _ _ _ _ _ hb4
        have x2 : w4.frozen? ⟨w.heap.size, 2, none⟩ = false := frozen_of_row _ _ _ _ _ hb4
        have hfin := hide (ask_fin (unhide hH) (unhide hG) hj hR4 ((hMV.out.rf.trans hO.out.2 (.inl rfl)).trans hF4 (.inl rfl)) (.inl rfl) hRb hIk.out.nextInv (Nat.le_succ M) hL'.out a)
        clear hF4 hb4 hR4
        go_wp2_with fail
        refine bodyPost_ret (by simp [results, Tryd.results83, go_sem, *]; done) rfl ⟨rfl, ?_⟩
        exact hfin.out
def zcQ : List Value := [.int .i64 0, .int .i64 0, .int .i64 0, .int .i64 0] ++ mkM noM ++ [.slice none 0 0]
theorem zcQ_len : zcQ.length = 69 := by simp [zcQ, mkM_len]
theorem infoQ : (Tryd.prog.info? 118).map (fun i => (i.zero, i.size, i.bytes)) = some (some (.agg zcQ.toArray), 69, 120) := by kernel_rfl
def arbC (f : Nat → Bool) (v : Value) : Array Value := (mkM f ++ [v]).toArray
theorem build_arb (w : World) (ad : Option Addr) (n c : Nat) : (Instr.build 121 #[(1, .slice ad n c)]).run Tryd.prog w = .ok (.agg (arbC noM (.slice ad n c))) w := by kernel_rfl
theorem build_arb2 (w : World) (f : Nat → Bool) (ad : Option Addr) (n c : Nat) : (Instr.build 121 #[(0, .agg (mkM f).toArray), (1, .slice ad n c)]).run Tryd.prog w = .ok (.agg (arbC f (.slice ad n c))) w := by kernel_rfl
theorem zcQ_mid {j : Nat} (hj : j < 64) : zcQ[4 + j]? = (mkM noM)[j]? := by
  unfold zcQ
  rw [List.append_assoc, List.getElem?_append_right (by simp), List.getElem?_append_left (by rw [mkM_len]; simp; omega)]
  simp
theorem row_made {w : World} {g k : Nat} {C : Array Value} {ty : TypeId} (hb : w.heap[g]? = some (.cells C ty (0, 0))) (hC : ∀ c, c < 69 → C[k * 69 + c]? = zcQ[c]?) : RowAt w g (k * 69) k rq0 none := by
  have hc : ∀ c, c < 69 → w.cell? ⟨g, k * 69 + c, none⟩ = zcQ[c]? := fun c h => (cell_of_row _ _ _ _ _ _ hb).trans (hC c h)
  have hk : mkM (knM rq0) = mkM noM := mkM_ext (fun i _ => by simp [knM])
  refine ⟨⟨hc 0 (by omega), hc 1 (by omega), hc 2 (by omega), hc 3 (by omega), fun j v hv => ?_, fun j hj => ⟨?_, frozen_of_row _ _ _ _ _ hb⟩⟩, .slice none 0 0, ?_, rfl, rfl⟩
  · have hj : j < 64 := by have := (List.getElem?_eq_some_iff.1 hv).1; rwa [mkM_len] at this
    rw [Nat.add_assoc, hc (4 + j) (by omega), zcQ_mid hj, ← hk]
    exact hv
  · rw [hc j hj, List.getElem?_eq_getElem (by rw [zcQ_len]; exact hj)]; rfl
  · rw [hc 68 (by omega)]; unfold zcQ; rw [List.getElem?_append_right (by simp [mkM_len])]; simp [mkM_len]
theorem madeQ_at (n k c : Nat) (hk : k < n) (hc : c < 69) : (madeCells (Value.agg zcQ.toArray).cells (n * 69))[k * 69 + c]? = zcQ[c]? := by
  have hl := zcQ_len
  simp only [madeCells, Value.cells]
  rw [Array.getElem?_map, Array.getElem?_range, if_pos (by omega)]
  simp only [Option.map_some, List.size_toArray, hl]
  rw [show (k * 69 + c) % 69 = c by omega, List.getElem?_eq_getElem (by omega)]
  simp [hl, hc]
abbrev slQ (g n : Nat) : Value := .slice (some ⟨g, 0, none⟩) n n
section
variable {w : World} {ops : Array Oper} {rest : List Oper} {o : Oper} {a : Act} {Q : Exit → Act → World → Prop}
theorem wpList_makeQ (hg : o.guard = none) (l c : Operand) (hop : o.op = Op.makeSlice 119 l c) (n : Nat) (hl : a.eval l = .int .i64 (n : Int)) (hc : a.eval c = .int .i64 (n : Int)) (hn : n ≤ 64)
    (hK : ∀ w', (∀ k, k < n → RowAt w' w.heap.size (k * 69) k rq0 none) → Below w.heap.size w w' → w'.heap.size = w.heap.size + 1 → wpList Tryd.prog ops Q rest (a.put o.dst (slQ w.heap.size n)) w') : wpList Tryd.prog ops Q (o :: rest) a w := by
  refine wpList_plain hg fun K hK' => ?_
  obtain ⟨i, hi, hz0, hz1, hz2⟩ := info_parts infoQ
  have hrun := run_make (P := Tryd.prog) w 119 _ i _ Tryd.underlying119 hi hz0 .i64 .i64 n n (by omega) (Int.le_refl _) (by rw [hz2]; omega) (by omega)
  simp only [Int.toNat_natCast, hz1] at hrun
  unfold Oper.wp
  simp [execOp, hop, hl, hc, hrun, Result.andThen]
  exact hK' _ _ (hK _ (fun k hk => row_made (heap_alloc_new w _) (fun c h => madeQ_at n k c hk h)) ((Below.refl _ _).alloc (Nat.le_refl _) _) (by simp))
theorem wpList_buildA (hgd : o.guard = none) (x : Operand) (ho : o.op = .build 121 #[(1, x)]) {ad : Option Addr} {n c : Nat} (hx : a.eval x = .slice ad n c) (h : wpList Tryd.prog ops Q rest (a.put o.dst (.agg (arbC noM (.slice ad n c)))) w) : wpList Tryd.prog ops Q (o :: rest) a w :=
  wpList_plain hgd fun K hK => by
    unfold Oper.wp execOp
    simp only [ho, hx, Sem.run_bind, Sem.run_pure, Result.andThen_ok, List.map_toArray, List.map_nil, List.map_cons, build_arb]
    exact hK _ _ h
end
theorem arbC_size (f : Nat → Bool) (v : Value) : (arbC f v).size = 65 := by simp [arbC, mkM_len]
theorem arbC_at (f : Nat → Bool) (v : Value) {i : Nat} (h : i < 64) : (arbC f v)[i]? = some (.bool (f i)) := by
  unfold arbC
  rw [List.getElem?_toArray, List.getElem?_append_left (by rw [mkM_len]; exact h), mkM_at _ h]
theorem arbC_last (f : Nat → Bool) (v : Value) : (arbC f v)[64]? = some v := by
  unfold arbC
  rw [List.getElem?_toArray, List.getElem?_append_right (by rw [mkM_len]; exact Nat.le_refl _), mkM_len]
  rfl
theorem arbC_set (v : Value) {j : Nat} (hj : j < 64) : (arbC (ndM j) v).setIfInBounds j (.bool true) = arbC (ndM (j + 1)) v := by
  apply Array.ext_getElem?
  intro i
  rw [Array.getElem?_setIfInBounds]
  by_cases c : j = i
  · subst c
    rw [if_pos rfl, if_pos (by rw [arbC_size]; omega), arbC_at _ _ hj]
    simp [ndM]
  · rw [if_neg c]
    by_cases h1 : i < 64
    · rw [arbC_at _ _ h1, arbC_at _ _ h1]
      have : (i < j + 1) ↔ i < j := by omega
      simp [ndM, this]
    · by_cases h2 : i = 64
      · subst h2; rw [arbC_last, arbC_last]
      · rw [Array.getElem?_eq_none (by rw [arbC_size]; omega), Array.getElem?_eq_none (by rw [arbC_size]; omega)]
def szQ (x : Int) : Nat := if x < 0 then 0 else if 64 < x then 64 else x.toNat
theorem szQ_le (x : Int) : szQ x ≤ 64 := by unfold szQ; split; omega; split <;> omega
theorem ar_new {w : World} {p g K n cap : Nat} (hn : n ≤ 64) (hK : K ≤ 64) (hcap : n ≤ cap) (hcm : cap ≤ maxLen) (hp : w.heap[p]? = some (.cells (arbC (ndM K) (.slice (some ⟨g, 0, none⟩) n cap)) 121 (0, 0))) (hne : p ≠ g) (hg : g < w.heap.size) (hr : ∀ k, k < n → RowAt w g (k * 69) k rq0 none) :
    ArIs w p g K 0 (List.replicate n rq0) (· = g) := by
  refine ⟨hK, by simpa using hn, linv_rep _ _ _, ⟨cap, ?_, by simpa using hcap, hcm⟩, hg, rfl, hne, fun b hb => hb ▸ hg, fun _ => none, fun k b _ h => (by cases h), fun i j b _ _ h => (by cases h), fun k hk => ?_⟩
  · rw [List.length_replicate]; exact hp
  · rw [List.getElem_replicate]; exact hr k (by simpa using hk)
theorem ndM_zero : ndM 0 = noM := by funext i; simp [ndM]
structure NewMid (w w1 wr : World) (p g n j : Nat) : Prop where
  hp : wr.heap[p]? = some (.cells (arbC (ndM j) (.slice (some ⟨g, 0, none⟩) n n)) 121 (0, 0))
  hg : wr.heap[g]? = w1.heap[g]?
  bel : Below w.heap.size w wr
theorem NewMid.step {w w1 wr : World} {p g n j : Nat} (h : NewMid w w1 wr p g n j) (hj : j < 64) (hg : g < p) (hw : w.heap.size ≤ g) : NewMid w w1 (wr.setCell ⟨p, j, none⟩ (.bool true)) p g n (j + 1) :=
  ⟨by rw [heap_setCell_same _ _ _ _ _ _ h.hp, arbC_set _ hj], (heap_setCell_other _ _ _ _ (by show g ≠ p; omega)).trans h.hg, h.bel.setCell (by show w.heap.size ≤ p; omega) _⟩
set_option maxHeartbeats 1000000 in
theorem aNew_c (s t : Int) (w : World) (K n : Nat) (hK0 : Hid (szQ s = K)) (hn0 : Hid (szQ t = n)) : Calls Tryd.prog 50 #[.int .i64 s, .int .i64 t] w fun e w' => ∃ p, e = .returned (ptr p) ∧ ∃ g Ft, ArIs w' p g K 0 (List.replicate n rq0) Ft ∧ (∀ b, Ft b → w.heap.size ≤ b) ∧ w.heap.size ≤ p ∧ Below w.heap.size w w' := by
  have hn64 : n ≤ 64 := by rw [← hn0.out]; exact szQ_le t
  have hK64 : K ≤ 64 := by rw [← hK0.out]; exact szQ_le s
  obtain ⟨m, hm⟩ : ∃ m, (if t < 0 then 0 else t) = m := ⟨_, rfl⟩
  have hm2 : (if 64 < m then 64 else m) = (n : Int) := by have := hn0.out; unfold szQ at this; (repeat' split at this) <;> (repeat' split) <;> (repeat' split at hm) <;> omega
  obtain ⟨l, hl⟩ : ∃ l, (if s < 0 then 0 else s) = l := ⟨_, rfl⟩
  have hl2 : (if 64 < l then 64 else l) = (K : Int) := by have := hK0.out; unfold szQ at this; (repeat' split at this) <;> (repeat' split) <;> (repeat' split at hl) <;> omega
  go_enter Tryd.func50, Tryd.ntmps50
  go_wp2_with (first | (at_make; refine wpList_makeQ rfl _ _ rfl n rfl rfl hn64 ?_; intro w1 hO1 hB1 hs1; replace hO1 := hide hO1; replace hB1 := hide hB1; replace hs1 := hide hs1) | (refine wpList_buildA rfl _ rfl rfl ?_))
  have hg : w.heap.size < w1.heap.size := by have := unhide hs1; omega
  have hM : Hid (NewMid w w1 (w1.alloc (.cells (arbC noM (.slice (some ⟨w.heap.size, 0, none⟩) n n)) 121)) w1.heap.size w.heap.size n 0) := hide ⟨by rw [heap_alloc_new, ndM_zero], Below.heap_alloc _ _ _ hg, (unhide hB1).alloc (unhide hB1).size _⟩
  obtain ⟨p, hp⟩ : ∃ p, w1.heap.size = p := ⟨_, rfl⟩
  rw [hp] at hM hg ⊢
  replace hp := hide hp
  clear hm hm2 hl hl2
  go_loopw [16] (fun i wr => ∃ j : Nat, j ≤ K ∧ i = .int .i64 j ∧ NewMid w w1 wr p w.heap.size n j) (fun i _ => K - (intOf i).toNat)
  case atStart => exact ⟨0, Nat.zero_le _, rfl, hM.out⟩
  case round =>
    obtain ⟨j, hj, rfl, hm⟩ := hrel
    clear hM
    by_cases hlt : j < K
    · have hlt' : (j : Int) < K := by omega
      have hj64 : (j : Int) < 64 := by omega
      have k0 : wr.cell? ⟨p, j, none⟩ = some (.bool false) := by rw [cell_of_row _ _ _ _ _ _ hm.hp, arbC_at _ _ (by omega)]; simp [ndM]
      have k1 : wr.frozen? ⟨p, j, none⟩ = false := frozen_of_row _ _ _ _ _ hm.hp
      have hm2 := hide (hm.step (by omega) hg (Nat.le_refl _))
      clear hm
      go_wp2_with fail
      go_roundw
      case rel => exact ⟨j + 1, by omega, by simp, hm2.out⟩
      case measure => simp [intOf]; omega
    · obtain rfl : j = K := by omega
      replace hm := hide hm
      go_wp2_with fail
      go_ret
      refine ⟨p, rfl, w.heap.size, _, ar_new hn64 hK64 (Nat.le_refl n) (by unfold maxLen; omega) hm.out.hp (by omega) (block_lt (by have := hp.out; omega) hm.out.hg) (fun k hk => (hO1.out k hk).carry hm.out.hg (fun b h => by cases h)), fun b hb => (by omega), by omega, hm.out.bel⟩
end Go.Proofs.YtmgjgeaigdiadaaDoor
