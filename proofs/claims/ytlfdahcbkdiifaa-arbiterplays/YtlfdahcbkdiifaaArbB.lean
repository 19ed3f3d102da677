/- The contract of Ask (layer 12). -/
import Derived.Test.YtlfdahcbkdiifaaArbA
namespace Go.Proofs.Ytlfdahcbkdiifaa
open Go.ChangeShapes Go.WideShapes Go.ChangeAt Go.RowKit
set_option linter.unusedSimpArgs false
set_option linter.unusedVariables false
set_option maxRecDepth 10000

attribute [local go_sem, local simp] over_const setCell_drewN alloc_drewN Over.cell Over.frozen lt_s1 lt_s2 lt_s3 le_s0 le_s1 le_s2 le_s3 eq_s0 eq_s1 eq_s2 qe_s0

abbrev resO (a : At) : Obj := .cells #[.int .i64 a.b, .int .i64 a.n, .int .i64 a.s] 32
abbrev setA (w : World) (k : Nat) (a : At) : World := ((w.setCell ⟨k, 0, none⟩ (.int .i64 a.b)).setCell ⟨k, 1, none⟩ (.int .i64 a.n)).setCell ⟨k, 2, none⟩ (.int .i64 a.s)
theorem setA_fr (w : World) (k : Nat) (a : At) : FrS (· = k) w (setA w k a) :=
  FrS.setCell (F := (· = k)) (q := ⟨k, 2, none⟩) (FrS.setCell (F := (· = k)) (q := ⟨k, 1, none⟩) (FrS.setCell (F := (· = k)) (q := ⟨k, 0, none⟩) (FrS.refl _ w) (.inl rfl) _) (.inl rfl) _) (.inl rfl) _

theorem WtIs.own {w : World} {v : Value} {ob : Option Nat} {A : List Int} {g : Nat} (h : WtIs w v ob A) (hg : g < w.heap.size) : ∃ g0, Own w v g0 A ∧ (ob = some g0 ∨ (ob = none ∧ v = .slice none 0 0)) := by
  cases ob with
  | none => obtain ⟨rfl, rfl⟩ := h; exact ⟨g, own_nil hg, .inr ⟨rfl, rfl⟩⟩
  | some b => exact ⟨b, h, .inl rfl⟩

theorem RowAt.fr {w w' : World} {g o : Nat} {b : Int} {r : Rq} {ob : Option Nat} {F : Nat → Prop} (h : RowAt w g o b r ob) (hf : FrS F w w') (hg : ¬ F g) (hb : ∀ b, ob = some b → ¬ F b) : RowAt w' g o b r ob :=
  h.carry (hf.block g h.gl hg) (fun b e => by subst e; obtain ⟨v, _, h2⟩ := h.wt; exact hf.block b h2.lt (hb b rfl))
theorem RF.andThen {g o : Nat} {ob : Option Nat} {F : Nat → Prop} {a b c : World} (h : RF g o ob a b) (k : FrS F b c) (hF : ∀ i, F i → a.heap.size ≤ i) (hg : g < a.heap.size) : RF g o ob a c := by
  have e := k.block g (Nat.lt_of_lt_of_le hg h.fr.size) (fun e => by have := hF g e; omega)
  exact ⟨h.fr.trans k (fun i hi => .inr (hF i hi)), fun i hi => ⟨(World.cell?_of_block (w := b) e).trans (h.out i hi).1, (World.frozen?_of_block (w := b) e).trans (h.out i hi).2⟩⟩

theorem lastNQ_psh {r : Rq} (y : Int) (hle : r.n ≤ r.A.length) : lastNQ (pshQ r y) = lastNQ r := by
  unfold lastNQ pshQ
  dsimp only
  split
  · rfl
  · simp only [List.getD]
    rw [List.getElem?_append_left (by omega)]
theorem wtQ_psh {r : Rq} (y : Int) (hle : r.n ≤ r.A.length) : wtQ (pshQ r y) = wtQ r ++ [y] := by
  unfold wtQ pshQ
  dsimp only
  rw [List.drop_append_of_le_length hle]

/-- What an append leaves of a row. -/
theorem app_row {w wz w2 : World} {g o g0 g' n cap : Nat} {ao : Option Addr} {v : Value} {b : Int} {r : Rq} {ob : Option Nat} (h : RowAt w g o b r ob) (hne : ob ≠ some g) (hz : Below w.heap.size w wz) (hg0 : ob = some g0 ∨ (ob = none ∧ v = .slice none 0 0)) (hap : AppP wz w2 v (.slice ao n cap) g0 g') (hn : 1 ≤ n) :
    RF g o ob w w2 ∧ RowC w2 g o b r ∧ (some g' = ob ∨ ∃ k, some g' = some k ∧ wz.heap.size ≤ k) ∧ g' ≠ g ∧ w2.heap[g]? = w.heap[g]? ∧ (∀ k, k < wz.heap.size → ob ≠ some k → w2.heap[k]? = wz.heap[k]?) := by
  have hgl := h.gl
  have hzg := Nat.lt_of_lt_of_le hgl hz.size
  have key : (∀ k, k < wz.heap.size → ob ≠ some k → w2.heap[k]? = wz.heap[k]?) ∧ (some g' = ob ∨ ∃ k, some g' = some k ∧ wz.heap.size ≤ k) := by
    rcases hg0 with rfl | ⟨rfl, rfl⟩
    · refine ⟨fun k hk hn => hap.fr.block k hk (fun e => hn (by rw [e])), ?_⟩
      rcases hap.lies with e | e
      · exact .inl (by rw [e])
      · exact .inr ⟨g', rfl, e⟩
    · refine ⟨fun k hk _ => (hap.nil rfl).block k hk, ?_⟩
      rcases hap.lies with e | e
      · have := hap.keep e rfl
        cases this
        omega
      · exact .inr ⟨g', rfl, e⟩
  have eg : w2.heap[g]? = w.heap[g]? := (key.1 g hzg hne).trans (hz.block g hgl)
  refine ⟨⟨⟨hap.fr.os.trans hz.os, hap.fr.tape.trans hz.tape, hap.fr.output.trans hz.output, Nat.le_trans hz.size hap.fr.size, fun k hk hn => (key.1 k (Nat.lt_of_lt_of_le hk hz.size) (fun e => hn (.inr e))).trans (hz.block k hk)⟩, fun i _ => ⟨World.cell?_of_block (w := w) eg, World.frozen?_of_block (w := w) eg⟩⟩, h.c.carry eg, key.2, ?_, eg, key.1⟩
  rintro rfl
  rcases key.2 with e | ⟨k, e, hk⟩
  · exact hne e.symm
  · cases e; omega

/-- One more waits. -/
theorem row_psh {w w2 : World} {g o g' : Nat} {v : Value} {b : Int} {r : Rq} {ob : Option Nat} {y : Int} (h2 : RowC w2 g o b r) (hf : RF g o ob w w2) (hle : r.n ≤ r.A.length) (hO : Own w2 v g' (wtQ r ++ [y])) (hg : g' ≠ g) :
    RowAt (w2.setCell ⟨g, o + 68, none⟩ v) g o b (pshQ r y) (some g') ∧ RF g o ob w (w2.setCell ⟨g, o + 68, none⟩ v) := by
  have h3 := h2.put68 v
  refine ⟨⟨⟨h3.1.c0, by rw [lastNQ_psh y hle]; exact h3.1.c1, h3.1.c2, h3.1.c3, h3.1.kn, h3.1.th⟩, v, h3.2, ?_⟩, hf.setCell (by omega) (by omega) v⟩
  rw [wtQ_psh y hle]
  exact Own.fr hO ((FrS.refl (· = g) w2).setCell (.inl rfl) v) hg

theorem view_oneI (w : World) (y : Int) : View (w.alloc (.cells #[.int .i64 y] 3)) (.slice (some ⟨w.heap.size, 0, none⟩) 1 1) w.heap.size [y] :=
  ⟨_, 1, rfl, Nat.le_refl _, by simp [maxLen], .inr ⟨0, rfl, by simp, fun j hj => by
    obtain rfl : j = 0 := by simp at hj; exact hj
    rw [cell_of_row _ _ _ _ _ _ (heap_alloc_new w _)]; rfl⟩⟩
theorem view_oneK {w : World} {k : Nat} (hk : w.heap.size = k) (y : Int) : View (w.alloc (.cells #[.int .i64 y] 3)) (.slice (some ⟨k, 0, none⟩) 1 1) k [y] := hk ▸ view_oneI w y

/-- Behind the append. -/
structure AskMid (w W3 : World) (g o g2 : Nat) (b : Int) (r : Rq) (ob : Option Nat) : Prop where
  row : RowAt W3 g o b r (some g2)
  rf : RF g o ob w W3
  new : some g2 = ob ∨ ∃ k, some g2 = some k ∧ w.heap.size ≤ k
  ng : g2 ≠ g
  nR : g2 ≠ w.heap.size
  res : W3.heap[w.heap.size]? = some (resO at0)

theorem ask_mid {w w2 : World} {g o g0 g' n cap : Nat} {ao : Option Addr} {v : Value} {b y : Int} {r : Rq} {ob : Option Nat} (h : RowAt w g o b r ob) (hne : ob ≠ some g) (hRb : ob ≠ some w.heap.size) (hle : r.n ≤ r.A.length) (hg0 : ob = some g0 ∨ (ob = none ∧ v = .slice none 0 0))
    (hown : Own w2 (.slice ao n cap) g' (wtQ r ++ [y])) (hap : AppP ((w.alloc (resO at0)).alloc (.cells #[.int .i64 y] 3)) w2 v (.slice ao n cap) g0 g') (hn : 1 ≤ n) :
    AskMid w (w2.setCell ⟨g, o + 68, none⟩ (.slice ao n cap)) g o g' b (pshQ r y) ob ∧ w2.heap[g]? = w.heap[g]? := by
  have hgl := h.gl
  have hz : Below w.heap.size w ((w.alloc (resO at0)).alloc (.cells #[.int .i64 y] 3)) := ((Below.refl _ _).alloc (Nat.le_refl _) _).alloc (by simp) _
  obtain ⟨hRF, hC2, hl2, hg2, he2, hk2⟩ := app_row h hne hz hg0 hap hn
  have hP := row_psh hC2 hRF hle hown hg2
  have hr := (hk2 w.heap.size (by simp) hRb).trans ((Below.heap_alloc _ _ _ (by simp)).trans (heap_alloc_new w _))
  refine ⟨⟨hP.1, hP.2, ?_, hg2, ?_, (Below.heap_setCell _ _ _ _ (by show w.heap.size ≠ g; omega)).trans hr⟩, he2⟩
  · rcases hl2 with e | ⟨k, e, hk⟩
    · exact .inl e
    · exact .inr ⟨k, e, by simp at hk; omega⟩
  · rintro rfl
    rcases hl2 with e | ⟨k, e, hk⟩
    · exact hRb e.symm
    · cases e; simp at hk; omega

theorem ask_fin {w w4 : World} {p g N M M' k : Nat} {L L' : List Rq} {Ft : Nat → Prop} {G : Nat → Option Nat} {r : Rq} {ob : Option Nat} (h : ArIs w p g N M L Ft) (hG : Rows12 w g Ft L G) (hk : k < L.length) (hR : RowAt w4 g (k * 69) k r ob) (hF : RF g (k * 69) (G k) w w4)
    (new : ob = G k ∨ ∃ n, ob = some n ∧ w.heap.size ≤ n) (nR : ob ≠ some w.heap.size) (hI : RInv N M' r) (hM : M ≤ M') (hL : L.set k r = L') (a : At) : ∃ Ft', ArIs (setA w4 w.heap.size a) p g N M' L' Ft' ∧ Step Ft Ft' w (setA w4 w.heap.size a) := by
  have hf := setA_fr w4 w.heap.size a
  rw [← hL]
  have hgl := h.gl
  exact h.put hG hk (hR.fr hf (by omega) (fun b e hb => nR (by rw [e, hb]))) (hF.andThen hf (fun i hi => by omega) hgl) new hI hM



set_option maxHeartbeats 1000000 in
theorem aAsk_c (p g N M : Nat) (L : List Rq) (Ft : Nat → Prop) (x y : Int) (w : World) (h : ArIs w p g N M L Ft) (hM : M + 1 ≤ 100000) (a : At) (ha : Hid (atAsk N L x y = a)) (ok : Bool) (hok : Hid (okAsk N L x y = ok)) : Calls Try.prog 12 #[ptr p, .int .i64 x, .int .i64 y] w fun e w' => e = .returned (.tuple #[.agg #[.int .i64 a.b, .int .i64 a.n, .int .i64 a.s], .bool ok]) ∧ ∃ Ft', ArIs w' p g N (M + 1) (nxAsk N L x y) Ft' ∧ Step Ft Ft' w w' := by
  have hH := hide h
  obtain ⟨cap, c64, -, -⟩ := h.c64
  have hpl := h.pl
  have hgl := h.gl
  obtain ⟨q, hq⟩ : ∃ q, Hid (hasQ L.length x = q) := ⟨_, rfl⟩
  obtain ⟨q2, hq2⟩ : ∃ q2, Hid (hasQ N y = q2) := ⟨_, rfl⟩
  have ha' := ha.out
  have hok' := hok.out
  unfold atAsk at ha'
  unfold okAsk at hok'
  obtain ⟨L', hL'⟩ : ∃ L', nxAsk N L x y = L' := ⟨_, rfl⟩
  rw [hL']
  unfold nxAsk at hL'
  rw [hq.out, hq2.out] at ha' hok' hL'
  cases q with
  | false =>
    obtain rfl : ok = false := by rw [← hok']; rfl
    obtain rfl : a = at0 := by rw [← ha']; rfl
    obtain rfl : L = L' := by rw [← hL']; rfl
    clear ha' hok' hL' h
    go_enter Try.func12, Try.ntmps12
    go_wp2_with fail
    go_at_call 25
    refine (aHasB_c p g N M L Ft x _ ((unhide hH).alloc _) false hq).mono ?_
    rintro e w' ⟨rfl, hw'⟩
    rw [hw']
    clear hw' w'
    go_wp2_with fail
    refine bodyPost_ret (by simp [results, Try.results12, go_sem, *]; done) rfl ⟨rfl, Ft, ((unhide hH).alloc _).mono (Nat.le_succ M), ?_⟩
    exact Step.of_below ((Below.refl _ _).alloc (Nat.le_refl _) _)
  | true =>
  obtain ⟨j, rfl, hj⟩ := hasQ_iff.1 hq.out
  have hj' : (j : Int) < L.length := by omega
  cases q2 with
  | false =>
    obtain rfl : ok = false := by rw [← hok']; rfl
    obtain rfl : a = at0 := by rw [← ha']; rfl
    obtain rfl : L = L' := by rw [← hL']; rfl
    clear ha' hok' hL' h
    go_enter Try.func12, Try.ntmps12
    go_wp2_with fail
    go_at_call 25
    refine (aHasB_c p g N M L Ft j _ ((unhide hH).alloc _) true hq).mono ?_
    rintro e w' ⟨rfl, hw'⟩
    rw [hw']
    clear hw' w'
    go_wp2_with fail
    go_at_call 26
    refine (aHasN_c p g N M L Ft y _ ((unhide hH).alloc _) false hq2).mono ?_
    rintro e w' ⟨rfl, hw'⟩
    rw [hw']
    clear hw' w'
    go_wp2_with fail
    refine bodyPost_ret (by simp [results, Try.results12, go_sem, *]; done) rfl ⟨rfl, Ft, ((unhide hH).alloc _).mono (Nat.le_succ M), ?_⟩
    exact Step.of_below ((Below.refl _ _).alloc (Nat.le_refl _) _)
  | true =>
    rw [Bool.true_and, if_pos rfl, getQ_at hj] at ha'
    rw [Bool.true_and, Bool.true_and, getQ_at hj] at hok'
    rw [Bool.true_and, if_pos rfl, getQ_at hj, Int.toNat_natCast] at hL'
    obtain ⟨G, hG⟩ := h.rows
    have hrow := hG.row j hj
    have hI := h.inv.get hj
    obtain ⟨r, hr⟩ : ∃ r, L[j] = r := ⟨_, rfl⟩
    rw [hr] at hrow ha' hok' hL' hI
    have hne : G j ≠ some g := fun e => (hG.own j g hj e).2 rfl
    obtain ⟨v, hv, hW⟩ := hrow.wt
    obtain ⟨g0, hO, hg0⟩ := hW.own hgl
    have f68 := (hrow.c.th 68 (by omega)).2
    have hle := hI.le
    have hlen : (wtQ r).length + [y].length ≤ 1000000 := by unfold wtQ; rw [List.length_drop]; have := hI.al; simp; omega
    obtain ⟨n, hn⟩ : ∃ n, (wtQ r).length = n := ⟨_, rfl⟩
    have hn1 : (wtQ r).length + [y].length = n + 1 := by rw [hn]; rfl
    obtain ⟨ao, cp, rfl, -⟩ := id hO
    rw [hn] at hv hO hg0
    have hb1 : Below w.heap.size w ((w.alloc (resO at0)).alloc (.cells #[.int .i64 y] 3)) := ((Below.refl _ _).alloc (Nat.le_refl _) _).alloc (by simp) _
    have hob1 : ((w.alloc (resO at0)).alloc (.cells #[.int .i64 y] 3)).heap[w.heap.size]? = some (resO at0) := (Below.heap_alloc _ _ _ (by simp)).trans (heap_alloc_new w _)
    replace hob1 := hide hob1
    replace hb1 := hide hb1
    replace hO := hide hO
    replace hg0 := hide hg0
    replace hrow := hide hrow
    replace hG := hide hG
    replace hr := hide hr
    replace hI := hide hI
    replace hlen := hide hlen
    replace hn1 := hide hn1
    replace hn := hide hn
    replace ha' := hide ha'
    replace hok' := hide hok'
    replace hL' := hide hL'
    have hRb : G j ≠ some w.heap.size := fun e => by have := (unhide hH).lt _ ((unhide hG).own j _ hj e).1; omega
    have c3 := (unhide hrow).c.c3
    clear hW h
    by_cases hph : r.ph = 0
    · rw [hph] at c3
      go_enter Try.func12, Try.ntmps12
      go_wp2_with fail
      go_at_call 25
      refine (aHasB_c p g N M L Ft j _ ((unhide hH).alloc _) true hq).mono ?_
      rintro e w' ⟨rfl, hw'⟩
      rw [hw']
      clear hw' w'
      go_wp2_with fail
      go_at_call 26
      refine (aHasN_c p g N M L Ft y _ ((unhide hH).alloc _) true hq2).mono ?_
      rintro e w' ⟨rfl, hw'⟩
      rw [hw']
      clear hw' w'
      go_wp2_with (at_builtin; go_loud (refine wpList_app rfl _ _ rfl rfl rfl (((unhide hO).below (unhide hb1))) (view_oneK (by simp) y) (unhide hlen) (n + 1) (unhide hn1) ?_; intro ao2 cap2 w2 g2 hown hap; obtain ⟨hS, he2⟩ := ask_mid (unhide hrow) hne hRb hle (unhide hg0) hown hap (by omega); have k68 := keep_cell he2 hv; have kf := keep_frozen he2 f68; obtain ⟨W3, hW3⟩ : ∃ W3, w2.setCell ⟨g, j * 69 + 68, none⟩ (.slice ao2 (n + 1) cap2) = W3 := ⟨_, rfl⟩; rw [hW3] at hS; have k3 : W3.cell? ⟨g, j * 69 + 3, none⟩ = some (.int .i64 0) := (by have k := hS.row.c.c3; rw [show (pshQ r y).ph = 0 from hph] at k; exact k); have y0 : W3.cell? ⟨w.heap.size, 0, none⟩ = some (.int .i64 0) := cell_of_row _ _ _ _ _ _ hS.res; have y1 : W3.cell? ⟨w.heap.size, 1, none⟩ = some (.int .i64 0) := cell_of_row _ _ _ _ _ _ hS.res; have y2 : W3.cell? ⟨w.heap.size, 2, none⟩ = some (.int .i64 0) := cell_of_row _ _ _ _ _ _ hS.res; have e0 : W3.frozen? ⟨w.heap.size, 0, none⟩ = false := frozen_of_row _ _ _ _ _ hS.res; have e1 : W3.frozen? ⟨w.heap.size, 1, none⟩ = false := frozen_of_row _ _ _ _ _ hS.res; have e2 : W3.frozen? ⟨w.heap.size, 2, none⟩ = false := frozen_of_row _ _ _ _ _ hS.res; replace hS := hide hS; clear hown hap he2))
      replace hph := hide hph
      go_at_call 27
      refine (rNext_c g (j * 69) j (pshQ r y) (some g2) N (M + 1) W3 hS.out.row hph.out ((unhide hI).psh y) hM (fun e => hS.out.ng (by cases e; rfl)) a ha' ok hok').mono ?_
      rintro e w4 ⟨rfl, hR4, hF4⟩
      have hb4 : w4.heap[w.heap.size]? = some (resO at0) := (hF4.fr.block w.heap.size (block_lt_of_cell y0) (fun e => by rcases e with e | e; omega; exact hS.out.nR (by cases e; rfl))).trans hS.out.res
      have z0 : w4.cell? ⟨w.heap.size, 0, none⟩ = some (.int .i64 0) := cell_of_row _ _ _ _ _ _ hb4
      have z1 : w4.cell? ⟨w.heap.size, 1, none⟩ = some (.int .i64 0) := cell_of_row _ _ _ _ _ _ hb4
      have z2 : w4.cell? ⟨w.heap.size, 2, none⟩ = some (.int .i64 0) := cell_of_row _ _ _ _ _ _ hb4
      have x0 : w4.frozen? ⟨w.heap.size, 0, none⟩ = false := frozen_of_row _ _ _ _ _ hb4
      have x1 : w4.frozen? ⟨w.heap.size, 1, none⟩ = false := frozen_of_row _ _ _ _ _ hb4
      have x2 : w4.frozen? ⟨w.heap.size, 2, none⟩ = false := frozen_of_row _ _ _ _ _ hb4
      have hfin := hide (ask_fin (unhide hH) (unhide hG) hj hR4 (hS.out.rf.trans hF4 hS.out.new) hS.out.new (fun e => hS.out.nR (by cases e; rfl)) ((unhide hI).ask y) (Nat.le_succ M) hL'.out a)
      clear hF4 hb4 y0 y1 y2 e0 e1 e2 hR4
      go_wp2_with fail
      refine bodyPost_ret (by simp [results, Try.results12, go_sem, *]; done) rfl ⟨rfl, ?_⟩
      exact hfin.out
    · have hnx : nxBQ (pshQ r y) = pshQ r y := by unfold nxBQ; rw [if_neg (fun e => hph e.1)]
      obtain rfl : ok = false := by rw [← hok'.out]; unfold okBQ; exact decide_eq_false (fun e => hph e.1)
      obtain rfl : a = at0 := by rw [← ha'.out]; unfold atBQ; rw [if_neg (fun e => hph e.1)]
      obtain ⟨ph, hpe⟩ : ∃ ph, r.ph = ph := ⟨_, rfl⟩
      have hpc : decide (ph = 0) = false ∧ (ph == 0) = false ∧ (ph != 0) = true := by rw [hpe] at hph; exact ⟨by simpa using hph, by simpa using hph, by simpa using hph⟩
      rw [hpe] at c3
      replace hpe := hide hpe
      have hIn := (unhide hI).ask y
      rw [hnx] at hL' hIn
      replace hIn := hide hIn
      clear hph hnx
      go_enter Try.func12, Try.ntmps12
      go_wp2_with fail
      go_at_call 25
      refine (aHasB_c p g N M L Ft j _ ((unhide hH).alloc _) true hq).mono ?_
      rintro e w' ⟨rfl, hw'⟩
      rw [hw']
      clear hw' w'
      go_wp2_with fail
      go_at_call 26
      refine (aHasN_c p g N M L Ft y _ ((unhide hH).alloc _) true hq2).mono ?_
      rintro e w' ⟨rfl, hw'⟩
      rw [hw']
      clear hw' w'
      go_wp2_with (at_builtin; go_loud (refine wpList_app rfl _ _ rfl rfl rfl (((unhide hO).below (unhide hb1))) (view_oneK (by simp) y) (unhide hlen) (n + 1) (unhide hn1) ?_; intro ao2 cap2 w2 g2 hown hap; obtain ⟨hS, he2⟩ := ask_mid (unhide hrow) hne hRb hle (unhide hg0) hown hap (by omega); have k68 := keep_cell he2 hv; have kf := keep_frozen he2 f68; obtain ⟨W3, hW3⟩ : ∃ W3, w2.setCell ⟨g, j * 69 + 68, none⟩ (.slice ao2 (n + 1) cap2) = W3 := ⟨_, rfl⟩; rw [hW3] at hS; have k3 : W3.cell? ⟨g, j * 69 + 3, none⟩ = some (.int .i64 ph) := (by have k := hS.row.c.c3; rw [show (pshQ r y).ph = ph from hpe.out] at k; exact k); have y0 : W3.cell? ⟨w.heap.size, 0, none⟩ = some (.int .i64 0) := cell_of_row _ _ _ _ _ _ hS.res; have y1 : W3.cell? ⟨w.heap.size, 1, none⟩ = some (.int .i64 0) := cell_of_row _ _ _ _ _ _ hS.res; have y2 : W3.cell? ⟨w.heap.size, 2, none⟩ = some (.int .i64 0) := cell_of_row _ _ _ _ _ _ hS.res; have e0 : W3.frozen? ⟨w.heap.size, 0, none⟩ = false := frozen_of_row _ _ _ _ _ hS.res; have e1 : W3.frozen? ⟨w.heap.size, 1, none⟩ = false := frozen_of_row _ _ _ _ _ hS.res; have e2 : W3.frozen? ⟨w.heap.size, 2, none⟩ = false := frozen_of_row _ _ _ _ _ hS.res; replace hS := hide hS; clear hown hap he2))
      refine bodyPost_ret (by simp [results, Try.results12, go_sem, *]; done) rfl ⟨rfl, ?_⟩
      exact ask_fin (unhide hH) (unhide hG) hj hS.out.row hS.out.rf hS.out.new (fun e => hS.out.nR (by cases e; rfl)) hIn.out (Nat.le_succ M) hL'.out at0
end Go.Proofs.Ytlfdahcbkdiifaa
