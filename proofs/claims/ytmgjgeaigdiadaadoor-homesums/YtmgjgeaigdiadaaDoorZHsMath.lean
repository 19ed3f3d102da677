/- layer 16: HsMath, put together. -/
import Derived.Test.YtmgjgeaigdiadaaDoorZSmBase
import Derived.Test.YtmgjgeaigdiadaaDoorB18
namespace Go.Proofs.YtmgjgeaigdiadaaDoor
open Go.ChangeShapes Go.WideShapes Go.ChangeAt Go.RowKit
set_option linter.unusedSimpArgs false
set_option linter.unusedVariables false
set_option maxRecDepth 10000
attribute [local go_sem, local simp] over_const setCell_drewN alloc_drewN Over.cell Over.frozen lt_s1 lt_s2 lt_s3 le_s0 le_s1 le_s2 le_s3 eq_s0 eq_s1 eq_s2 qe_s0
theorem hl_tok {c : Cf} (hc : CfOk c 0) {z b : Int} {x : Bun} (hz : 0 ≤ z ∧ z < c.n) (h0 : 0 ≤ b) (h1 : b < c.bl) (hx : okB x) (hn : 1 ≤ x.n) (ht : x.n ≤ c.tt) : GL c c.n ⟨1, c.n, z, b, 0, 0, false, x.n, x.o, x.h, x.d⟩ := by
  have n0 := hc.n0
  refine ⟨?_, rfl⟩
  unfold lerr letterZ toLet
  have e : ¬ (b < 0 ∨ c.bl ≤ b) := by omega
  have ew : wayB (rowL 1) c.n z c.n = true := by simp [wayB, rowL, oneB, nodeB, hz.1, hz.2]; omega
  have em : marksB (rowL 1) 0 0 false c.n = true := by simp [marksB, seqB, whoB, rowL]
  have es : sentZ ⟨x.n, x.o, x.h, x.d⟩ c.tt = 0 := by
    unfold sentZ
    have h2 := check_of_ok ⟨x.n, x.o, x.h, x.d⟩ c.tt hx ht
    rw [h2, if_pos rfl, if_neg (by dsimp only; omega)]
  simp [e, ew, em, inB, es]
theorem hl_spr {c : Cf} (hc : CfOk c 0) {k i b s wh : Int} (hi : 0 ≤ i ∧ i < c.n) (h0 : 0 ≤ b) (h1 : b < c.bl) (hk : (k = 4 ∧ 0 ≤ wh ∧ wh < c.n) ∨ (k = 6 ∧ wh = 0)) (hs : 1 ≤ s) : GL c c.n ⟨k, c.n, i, b, s, wh, false, 0, false, false, 0⟩ := by
  have n0 := hc.n0
  refine ⟨?_, rfl⟩
  unfold lerr letterZ toLet
  have e : ¬ (b < 0 ∨ c.bl ≤ b) := by omega
  rcases hk with ⟨rfl, hw⟩ | ⟨rfl, rfl⟩
  · have ew : wayB (rowL 4) c.n i c.n = true := by simp [wayB, rowL, oneB, nodeB, hi.1, hi.2]; omega
    have em : marksB (rowL 4) s wh false c.n = true := by simp [marksB, seqB, whoB, rowL, nodeB, hs, hw.1, hw.2]
    simp [e, ew, em, inB, noneB]
  · have ew : wayB (rowL 6) c.n i c.n = true := by simp [wayB, rowL, oneB, nodeB, hi.1, hi.2]; omega
    have em : marksB (rowL 6) s 0 false c.n = true := by simp [marksB, seqB, whoB, rowL, hs]
    simp [e, ew, em, inB, noneB]
theorem spr_sm {c : Cf} (hc : CfOk c 0) {k b s wh : Int} (h0 : 0 ≤ b) (h1 : b < c.bl) (hk : (k = 4 ∧ 0 ≤ wh ∧ wh < c.n) ∨ (k = 6 ∧ wh = 0)) (hs : 1 ≤ s) : AllG c c.n (sprL c k b s wh) ∧ ∀ y, smL (sprL c k b s wh) y = 0 := by
  refine ⟨fun l hl => ?_, fun y => ?_⟩
  · unfold sprL at hl
    obtain ⟨i, hi, rfl⟩ := List.mem_map.1 hl
    have := List.mem_range.1 hi
    exact hl_spr hc (by omega) h0 h1 hk hs
  · unfold smL sprL
    rw [List.map_map]
    have : ∀ n : Nat, ((List.range n).map ((fun l : Lt => if l.q = y then l.n else 0) ∘ sprOne c k b s wh)).sum = 0 := fun n => by
      induction n with
      | zero => rfl
      | succ n ih => rw [List.range_succ, List.map_append, List.sum_append, ih]; by_cases e : b = y <;> simp [sprOne, e]
    exact this _
theorem hsend_sm {c : Cf} (hc : CfOk c 0) {z b : Int} {x : Bun} (hz : 0 ≤ z ∧ z < c.n) (h0 : 0 ≤ b) (h1 : b < c.bl) (hx : okB x) (ht : x.n ≤ c.tt) : AllG c c.n (sendL c.n z b x) ∧ ∀ y, smL (sendL c.n z b x) y = if b = y then x.n else 0 := by
  unfold sendL
  split
  · rename_i h
    have : x.n = 0 := by have := hx.1; omega
    exact ⟨AllG.nil _ _, fun y => by rw [smL_nil, this]; split <;> rfl⟩
  · exact ⟨AllG.one (hl_tok hc hz h0 h1 hx (by omega) ht), fun y => by rw [smL_one]⟩
structure RH (c : Cf) (r : Rq) : Prop where
  who : ∀ a ∈ r.A, 0 ≤ a ∧ a < c.n
  le : r.n ≤ r.A.length
  on : r.ph ≠ 0 → 1 ≤ r.n
theorem getD_mem {A : List Int} {i : Nat} (h : i < A.length) : A.getD i 0 ∈ A := by
  rw [List.getD_eq_getElem?_getD, List.getElem?_eq_getElem h]
  exact List.getElem_mem h
theorem RH.psh {c : Cf} {r : Rq} (h : RH c r) {y : Int} (hy : 0 ≤ y ∧ y < c.n) : RH c (pshQ r y) :=
  ⟨fun a ha => by
    simp only [pshQ, List.mem_append, List.mem_singleton] at ha
    rcases ha with ha | rfl
    · exact h.who a ha
    · exact hy, by have := h.le; simp [pshQ]; omega, h.on⟩
theorem RH.next {c : Cf} {r : Rq} (h : RH c r) : RH c (nxBQ r) := by
  unfold nxBQ
  split
  · rename_i e
    exact ⟨h.who, e.2, fun _ => by show 1 ≤ r.n + 1; omega⟩
  · exact h
theorem RH.at' {c : Cf} {r : Rq} (h : RH c r) (b : Int) (hk : okBQ r = true) : (atBQ b r).b = b ∧ (0 ≤ (atBQ b r).n ∧ (atBQ b r).n < c.n) ∧ 1 ≤ (atBQ b r).s := by
  unfold okBQ at hk
  have e := of_decide_eq_true hk
  unfold atBQ
  rw [if_pos e]
  exact ⟨rfl, h.who _ (getD_mem e.2), by show (1 : Int) ≤ r.n + 1; omega⟩
theorem RH.dn {c : Cf} {r : Rq} (h : RH c r) (s : Int) : RH c (dnQ r s) := by
  unfold dnQ
  split
  · rename_i e
    exact ⟨h.who, h.le, fun _ => h.on (by rw [e.1]; decide)⟩
  · exact h
theorem RH.kn {c : Cf} {r : Rq} (h : RH c r) (N : Nat) (x : Int) (hp : r.ph = 2) : RH c (knQ N r x) := ⟨h.who, h.le, fun _ => h.on (by rw [hp]; decide)⟩
structure HInv (c : Cf) (D : Hm) : Prop where
  m : MInv c.tt D.M
  ml : D.M.length = c.bl.toNat
  al : D.L.length = c.bl.toNat
  row : ∀ r ∈ D.L, RH c r
def cntH (D : Hm) (y : Int) : Int := (getM D.M y).n
def HsOk (c : Cf) (D D' : Hm) (f : Int → Int) (L : List Lt) : Prop := HInv c D' ∧ AllG c c.n L ∧ ∀ y, cntH D' y = cntH D y + f y - smL L y
theorem getM_setH (L : List Bun) (j : Nat) (r : Bun) (hj : j < L.length) (x : Int) : getM (L.set j r) x = if x = j then r else getM L x := by
  have hm : hasM (L.set j r) x = hasM L x := by unfold hasM; rw [List.length_set]
  by_cases e : x = j
  · subst e
    rw [if_pos rfl, getM_nat (by rw [List.length_set]; exact hj)]
    simp
  · rw [if_neg e]
    by_cases h : hasM L x = true
    · obtain ⟨i, rfl, hi⟩ := hasM_at h
      rw [getM_nat (by rw [List.length_set]; exact hi), getM_nat hi]
      exact List.getElem_set_ne (by omega) _
    · have h' : hasM L x = false := by simpa using h
      rw [getM_out h', getM_out (by rw [hm]; exact h')]
section
variable {c : Cf} {D : Hm}
theorem HInv.put (h : HInv c D) {q : Int} {x : Bun} (hx : okB x) (hr : cntH D q + x.n ≤ c.tt) : HInv c ⟨putM D.M q x, D.L⟩ := by
  refine ⟨⟨by rw [putM_len]; exact h.m.len, fun b hb => ?_⟩, by show (putM D.M q x).length = _; rw [putM_len]; exact h.ml, h.al, h.row⟩
  by_cases e : hasM D.M q = true
  · obtain ⟨j, rfl, hj⟩ := hasM_at e
    change b ∈ putM D.M j x at hb
    rw [putM_nat hj] at hb
    rcases List.mem_or_eq_of_mem_set hb with h1 | rfl
    · exact h.m.ok b h1
    · have := h.m.at' hj
      unfold cntH at hr
      rw [getM_nat hj] at hr
      exact ⟨joinB_ok this.1 hx, by rw [joinB_n]; exact hr⟩
  · change b ∈ putM D.M q x at hb
    rw [putM_out (by simpa using e)] at hb
    exact h.m.ok b hb
theorem HInv.tak (h : HInv c D) (q n : Int) (o : Bool) : HInv c ⟨takM D.M q n o, D.L⟩ := ⟨h.m.tak q n o, by show (takM D.M q n o).length = _; rw [takM_len]; exact h.ml, h.al, h.row⟩
theorem cnt_tak (h : HInv c D) (q n : Int) (o v : Bool) (y : Int) : (getM (takM D.M q n o) y).n = (getM D.M y).n - (if q = y then (givenB (getM D.M q) n o v).n else 0) := by
  by_cases e : hasM D.M q = true
  · obtain ⟨j, rfl, hj⟩ := hasM_at e
    rw [takM_nat hj, getM_setH _ _ _ hj, getM_nat hj]
    rcases hd : D.M[j] with ⟨t1, t2, t3, t4⟩
    have hok : okB ⟨t1, t2, t3, t4⟩ := by rw [← hd]; exact (h.m.at' hj).1
    have hp := (parts_math t1 t2 t3 t4 n o v hok (givenB ⟨t1, t2, t3, t4⟩ n o v) (restB ⟨t1, t2, t3, t4⟩ n o) rfl rfl).2.2.1
    by_cases ey : y = (j : Int)
    · subst ey
      rw [if_pos rfl, if_pos rfl, getM_nat hj, hd]
      dsimp only
      omega
    · rw [if_neg ey, if_neg (fun e => ey e.symm)]
      omega
  · have e' : hasM D.M q = false := by simpa using e
    rw [takM_out e', getM_out e', given_zero]
    split <;> simp [bun0]
theorem given_ok (h : HInv c D) (q n : Int) (o v : Bool) (ht : 0 ≤ c.tt) : okB (givenB (getM D.M q) n o v) ∧ (givenB (getM D.M q) n o v).n ≤ c.tt := by
  have hg := h.m.get ht q
  rcases hd : getM D.M q with ⟨t1, t2, t3, t4⟩
  rw [hd] at hg
  have hp := parts_math t1 t2 t3 t4 n o v hg.1 (givenB ⟨t1, t2, t3, t4⟩ n o v) (restB ⟨t1, t2, t3, t4⟩ n o) rfl rfl
  have := hg.2
  dsimp only at this
  exact ⟨hp.2.2.2.1, by omega⟩
theorem HInv.set (h : HInv c D) (j : Nat) {r : Rq} (hr : RH c r) : HInv c ⟨D.M, D.L.set j r⟩ :=
  ⟨h.m, h.ml, by show (D.L.set j r).length = _; rw [List.length_set]; exact h.al, fun q hq => by
    rcases List.mem_or_eq_of_mem_set hq with e | rfl
    · exact h.row q e
    · exact hr⟩
theorem hs_act (hc : CfOk c 0) (h : HInv c D) {a : At} {ok : Bool} (hb : ok = true → (0 ≤ a.b ∧ a.b < c.bl) ∧ (0 ≤ a.n ∧ a.n < c.n) ∧ 1 ≤ a.s) : HsOk c D (nxHAct D a ok) (fun _ => 0) (hActL c D a ok) := by
  unfold nxHAct hActL
  have t0 := hc.t0
  have n0 := hc.n0
  cases ok
  · exact ⟨h, AllG.nil _ _, fun y => by simp [smL_nil]⟩
  · obtain ⟨h1, h2, h3⟩ := hb rfl
    rw [if_pos rfl, if_pos rfl]
    obtain ⟨g1, g2⟩ := given_ok h a.b (getM D.M a.b).n true true (by omega)
    obtain ⟨s1, s2⟩ := hsend_sm hc h2 h1.1 h1.2 g1 g2
    obtain ⟨p1, p2⟩ := spr_sm hc (k := 4) (b := a.b) (s := a.s) (wh := a.n) h1.1 h1.2 (.inl ⟨rfl, h2⟩) h3
    refine ⟨h.tak _ _ _, p1.app s1, fun y => ?_⟩
    rw [smL_app, p2, s2]
    unfold cntH
    have := cnt_tak h a.b (getM D.M a.b).n true true y
    dsimp only
    rw [this]
    split <;> omega
theorem HsOk.pre {D1 D' : Hm} {L : List Lt} (h : HsOk c D1 D' (fun _ => 0) L) (hM : D1.M = D.M) {f : Int → Int} (hf : ∀ y, f y = 0) : HsOk c D D' f L := ⟨h.1, h.2.1, fun y => by rw [h.2.2 y, hf y]; unfold cntH; rw [hM]⟩
def cmH (c : Cf) (l : Lt) (y : Int) : Int := if htOk c l = true ∧ l.q = y then l.n else 0
theorem hs_take (hc : CfOk c 0) (h : HInv c D) {l : Lt} {d0 d1 : Int} (hr : htOk c l = true → l.k = 1 → cntH D l.q + l.n ≤ c.tt) : HsOk c D (nxHT c D l d0 d1) (cmH c l) (htL c D l d0 d1) := by
  have n0 := hc.n0
  have t0 := hc.t0
  have b0 := hc.b0
  unfold nxHT htL
  by_cases ho : htOk c l = true
  · rw [if_pos ho, if_pos ho]
    have ho' := ho
    unfold htOk at ho'
    simp only [Bool.and_eq_true, decide_eq_true_eq] at ho'
    obtain ⟨hl, hb⟩ := ho'
    obtain ⟨q0, q1, -, -⟩ := lerr_q hl
    obtain ⟨w1, w2, -, -, w5⟩ := lerr_way hl
    have wa : 0 ≤ l.a ∧ l.a < c.n := by have := w2 (by omega); omega
    have hcm : l.k ≠ 1 → ∀ y, cmH c l y = 0 := fun e y => by unfold cmH; rw [w5 e]; split <;> rfl
    obtain ⟨j, hj⟩ : ∃ j : Nat, l.q = j := ⟨l.q.toNat, by omega⟩
    have hjL : j < D.L.length := by have := h.al; omega
    have hq1 : hasQ D.L.length l.q = true := hasQ_iff.2 ⟨j, hj, hjL⟩
    have hq2 : hasQ c.n.toNat l.a = true := hasQ_iff.2 ⟨l.a.toNat, by omega, by omega⟩
    have hgq : getQ D.L l.q = D.L[j] := by rw [hj]; exact getQ_at hjL
    have hrow : RH c (getQ D.L l.q) := by rw [hgq]; exact h.row _ (List.getElem_mem hjL)
    by_cases k1 : l.k = 1
    · rw [if_pos k1, if_pos k1]
      obtain ⟨tk1, tk2, tk3, -⟩ := lerr_tok hl k1
      unfold nxHTok hTokL
      cases e : okCur D.L l.q
      · simp only [Bool.false_eq_true, if_false]
        refine ⟨h.put tk1 (hr ho k1), AllG.nil _ _, fun y => ?_⟩
        have hjM : j < D.M.length := by have := h.ml; omega
        unfold cntH cmH
        dsimp only
        rw [hj, putM_nat hjM, getM_setH _ _ _ hjM, smL_nil]
        by_cases ey : y = (j : Int)
        · subst ey
          rw [if_pos rfl, if_pos ⟨ho, rfl⟩, joinB_n, getM_nat hjM]
          show _ + l.n = _
          omega
        · rw [if_neg ey, if_neg (fun e => ey e.2.symm)]
          omega
      · simp only [if_true]
        have hn : 0 ≤ (atCur D.L l.q).n ∧ (atCur D.L l.q).n < c.n := by
          unfold okCur okCQ at e
          simp only [Bool.and_eq_true, decide_eq_true_eq] at e
          unfold atCur atCQ
          rw [if_pos hq1, if_pos e.2]
          have h1 := hrow.on (by rw [e.2]; decide)
          have h2 := hrow.le
          show 0 ≤ lastNQ (getQ D.L l.q) ∧ lastNQ (getQ D.L l.q) < c.n
          unfold lastNQ
          rw [if_neg (by omega)]
          exact hrow.who _ (getD_mem (by omega))
        obtain ⟨s1, s2⟩ := hsend_sm hc hn q0 q1 tk1 tk3
        refine ⟨h, s1, fun y => ?_⟩
        rw [s2]
        unfold cmH
        by_cases ey : l.q = y
        · rw [if_pos ey, if_pos ⟨ho, ey⟩]
          show _ = _ + l.n - l.n
          omega
        · rw [if_neg ey, if_neg (fun e => ey e.2)]
          omega
    · rw [if_neg k1, if_neg k1]
      by_cases k2 : l.k = 2
      · rw [if_pos k2, if_pos k2]
        unfold nxHAsk hAskL
        obtain ⟨g1, g2⟩ := given_ok h l.q (hRep c D l d0 d1).n (hRep c D l d0 d1).o (hRep c D l d0 d1).v (by omega)
        obtain ⟨s1, s2⟩ := hsend_sm hc wa q0 q1 g1 g2
        refine ⟨h.tak _ _ _, s1, fun y => ?_⟩
        rw [s2, hcm k1]
        unfold cntH
        dsimp only
        rw [cnt_tak h l.q _ _ (hRep c D l d0 d1).v y]
        omega
      · rw [if_neg k2, if_neg k2]
        by_cases k3 : l.k = 3
        · rw [if_pos k3, if_pos k3]
          unfold nxHPer hPerL
          have hD : HInv c (hPerD c D l) := by
            unfold hPerD nxAsk
            rw [hq1, hq2]
            exact h.set _ ((hrow.psh wa).next)
          refine (hs_act hc hD (fun e => ?_)).pre rfl (hcm k1)
          unfold okAsk at e
          simp only [Bool.and_eq_true] at e
          unfold atAsk
          rw [hq1, hq2]
          obtain ⟨x1, x2, x3⟩ := (hrow.psh wa).at' l.q e.2
          simp only [Bool.and_self, if_true]
          exact ⟨by rw [x1]; exact ⟨q0, q1⟩, x2, x3⟩
        · rw [if_neg k3, if_neg k3]
          by_cases k5 : l.k = 5
          · rw [if_pos k5, if_pos k5]
            unfold nxHDone hDoneL
            have hD : HInv c ⟨D.M, nxDone D.L l.q l.s⟩ := by
              unfold nxDone
              rw [hq1]
              exact h.set _ (hrow.dn _)
            cases e : okDone D.L l.q l.s
            · simp only [Bool.false_eq_true, if_false]
              exact ⟨hD, AllG.nil _ _, fun y => by rw [hcm k1, smL_nil]; show cntH D y = _; omega⟩
            · simp only [if_true]
              unfold okDone okDQ at e
              simp only [Bool.and_eq_true, decide_eq_true_eq] at e
              have h1 := hrow.on (by rw [e.2.1]; decide)
              obtain ⟨p1, p2⟩ := spr_sm hc (k := 6) (b := l.q) (s := l.s) (wh := 0) q0 q1 (.inr ⟨rfl, rfl⟩) (by omega)
              exact ⟨hD, p1, fun y => by rw [hcm k1, p2]; show cntH D y = _; omega⟩
          · rw [if_neg k5, if_neg k5]
            by_cases k7 : l.k = 7
            · rw [if_pos k7, if_pos k7]
              unfold nxHAck hAckL
              have hD : HInv c (hAckD c D l) := by
                unfold hAckD nxAck
                rw [hq1, hq2]
                refine h.set _ ?_
                unfold nxKQ
                split
                · rename_i e
                  exact (hrow.kn _ _ (of_decide_eq_true e).1).next
                · exact hrow
              refine (hs_act hc hD (fun e => ?_)).pre rfl (hcm k1)
              unfold okAck okKQ at e
              simp only [Bool.and_eq_true] at e
              unfold atAck atKQ
              rw [hq1, hq2]
              obtain ⟨x1, x2, x3⟩ := (hrow.kn c.n.toNat l.a (of_decide_eq_true e.2.1).1).at' l.q e.2.2
              simp only [Bool.and_self, if_true]
              rw [if_pos e.2.1]
              exact ⟨by rw [x1]; exact ⟨q0, q1⟩, x2, x3⟩
            · rw [if_neg k7, if_neg k7]
              exact ⟨h, AllG.nil _ _, fun y => by rw [hcm k1, smL_nil]; omega⟩
  · rw [if_neg ho, if_neg ho]
    exact ⟨h, AllG.nil _ _, fun y => by unfold cmH; rw [if_neg (fun e => ho e.1), smL_nil]; omega⟩
theorem hs_0 (hc : CfOk c 0) : HInv c (hm0 c) := by
  have t0 := hc.t0
  have n0 := hc.n0
  have hml := (newM_len c.bl c.tt).1
  rw [show clampZ c.bl 0 64 = c.bl by unfold clampZ; have := hc.b0; have := hc.b1; (repeat' split) <;> omega] at hml
  exact ⟨MInv.new _ _ _ (Int.le_refl _) (by omega), by show (newM c.bl c.tt).length = _; omega, by simp [hm0], fun r hr => by
    obtain rfl := List.eq_of_mem_replicate hr
    exact ⟨fun a ha => by simp at ha, Nat.le_refl _, fun e => absurd rfl e⟩⟩
theorem cnt_0 (hc : CfOk c 0) {j : Nat} (hj : (j : Int) < c.bl) : cntH (hm0 c) j = c.tt := by
  have t0 := hc.t0
  have n0 := hc.n0
  have hml := (newM_len c.bl c.tt).1
  rw [show clampZ c.bl 0 64 = c.bl by unfold clampZ; have := hc.b0; have := hc.b1; (repeat' split) <;> omega] at hml
  unfold cntH hm0
  dsimp only
  rw [getM_nat (by omega)]
  unfold newM
  rw [List.getElem_replicate]
  unfold fullB
  rw [if_neg (by omega)]
end
end Go.Proofs.YtmgjgeaigdiadaaDoor
