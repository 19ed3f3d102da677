/- layer 16: HrMath HvMath, put together. -/
import Derived.Test.YtmgjgeaigdiadaaDoorB18
import Derived.Test.YtmgjgeaigdiadaaDoorZSerMath
namespace Go.Proofs.YtmgjgeaigdiadaaDoor
open Go.ChangeShapes Go.WideShapes Go.ChangeAt Go.RowKit
set_option linter.unusedSimpArgs false
set_option linter.unusedVariables false
set_option maxRecDepth 10000
attribute [local go_sem, local simp] over_const setCell_drewN alloc_drewN Over.cell Over.frozen lt_s1 lt_s2 lt_s3 le_s0 le_s1 le_s2 le_s3 eq_s0 eq_s1 eq_s2 qe_s0
def restL (L : List Rq) : Prop := ∀ x, okCur L x = false
theorem rest_rep (n : Nat) : restL (List.replicate n rq0) := fun x => by
  unfold okCur
  cases e : hasQ (List.replicate n rq0).length x
  · rfl
  · obtain ⟨j, rfl, hj⟩ := hasQ_iff.1 e
    rw [getQ_at hj, List.getElem_replicate]
    rfl
theorem sendL_one {a b q : Int} {x : Bun} {y : Lt} (h : y ∈ sendL a b q x) : y.k = 1 ∧ y.b = b ∧ y.q = q := by
  unfold sendL at h
  split at h
  · cases h
  · simp only [List.mem_singleton] at h
    subst h
    exact ⟨rfl, rfl, rfl⟩
theorem rest_math {c : Cf} {D : Hm} {l : Lt} {d0 d1 : Int} (hr : restL D.L) (hk : l.k = 1 ∨ l.k = 2) :
    (l.k = 1 → htL c D l d0 d1 = []) ∧ (htL c D l d0 d1).length ≤ 1 ∧ (∀ y ∈ htL c D l d0 d1, y.k = 1 ∧ y.b = l.a ∧ y.q = l.q) ∧ (nxHT c D l d0 d1).L = D.L := by
  unfold htL nxHT
  by_cases ho : htOk c l = true
  · rw [if_pos ho, if_pos ho]
    rcases hk with hk | hk
    · rw [if_pos hk, if_pos hk]
      unfold hTokL nxHTok
      rw [hr l.q]
      exact ⟨fun _ => by simp, by simp, by simp, by simp⟩
    · rw [if_neg (by omega), if_pos hk, if_neg (by omega), if_pos hk]
      exact ⟨fun e => by omega, sendL_lenH _ _ _ _, fun y hy => sendL_one hy, rfl⟩
  · rw [if_neg ho, if_neg ho]
    exact ⟨fun _ => rfl, by simp, by simp, rfl⟩
structure FwdH (D : Hm) (node : Int) : Prop where
  ok : okCur D.L 0 = true
  at' : (atCur D.L 0).n = node
  m : getM D.M 0 = bun0
theorem takM_zero {M : List Bun} (h : getM M 0 = bun0) (cc : Int) (o : Bool) : takM M 0 cc o = M := by
  unfold takM
  split
  · rename_i hh
    rw [h]
    have hz : restB bun0 cc o = bun0 := by
      have := parts_math 0 false false 0 cc o false okB_zero (givenB bun0 cc o false) (restB bun0 cc o) rfl rfl
      exact ok_zero this.2.2.2.2.1 (by have h1 := this.1; have h2 := this.2.1; have h3 := this.2.2.1; omega)
    rw [hz]
    obtain ⟨j, e, hj⟩ := hasM_at hh
    have ej : j = 0 := by omega
    subst ej
    have h0 : M[0] = bun0 := by rw [← h]; exact (getM_nat hj).symm
    rw [show ((0 : Int).toNat) = 0 from rfl, ← h0]
    exact List.set_getElem_self hj
  · rfl
theorem fwd_math {c : Cf} {D : Hm} {node : Int} {l : Lt} {d0 d1 : Int} (hr : FwdH D node) (hq : l.q = 0) (hk : l.k = 1 ∨ l.k = 2) (hl : lerr c l = 0) (hb : l.b = c.n) (hn : l.k = 1 → 1 ≤ l.n) :
    (l.k = 1 → htL c D l d0 d1 = [⟨1, c.n, node, 0, 0, 0, false, l.n, l.o, l.h, l.d⟩]) ∧ (l.k = 2 → htL c D l d0 d1 = []) ∧ nxHT c D l d0 d1 = D := by
  have ho : htOk c l = true := by unfold htOk; rw [hl]; simp [hb]
  unfold htL nxHT
  rw [if_pos ho, if_pos ho]
  rcases hk with hk | hk
  · rw [if_pos hk, if_pos hk]
    unfold hTokL nxHTok
    rw [hq, hr.ok, hr.at']
    refine ⟨fun _ => ?_, fun e => by omega, by simp⟩
    unfold sendL tokOf
    have := hn hk
    simp
    omega
  · rw [if_neg (by omega), if_pos hk, if_neg (by omega), if_pos hk]
    unfold hAskL nxHAsk
    rw [hq, hr.m]
    refine ⟨fun e => by omega, fun _ => ?_, ?_⟩
    · rw [given_zero]
      rfl
    · rw [takM_zero hr.m]
theorem per_ok {c : Cf} (hc : CfOk c 0) {node : Int} (h0 : 0 ≤ node) (h1 : node < c.n) : htOk c ⟨3, node, c.n, 0, 0, 0, false, 0, false, false, 0⟩ = true := by
  have hb0 := hc.b0
  have hl : lerr c ⟨3, node, c.n, 0, 0, 0, false, 0, false, false, 0⟩ = 0 := by
    unfold lerr letterZ toLet
    dsimp only
    rw [if_neg (by decide), if_neg (by omega)]
    have e1 : wayB (rowL 3) node c.n c.n = true := by simp [wayB, rowL, oneB, nodeB]; omega
    have e2 : marksB (rowL 3) 0 0 false c.n = true := by simp [marksB, rowL, seqB, whoB]
    rw [e1, e2]
    simp [noneB]
  unfold htOk
  rw [hl]
  simp
theorem fwd_first {c : Cf} (hc : CfOk c 0) {node : Int} (h0 : 0 ≤ node) (h1 : node < c.n) : FwdH (nxHT c (hm0 c) ⟨3, node, c.n, 0, 0, 0, false, 0, false, false, 0⟩ 0 0) node := by
  have hb0 := hc.b0
  have hb1 := hc.b1
  have e : nxHT c (hm0 c) ⟨3, node, c.n, 0, 0, 0, false, 0, false, false, 0⟩ 0 0 = nxHPer c (hm0 c) ⟨3, node, c.n, 0, 0, 0, false, 0, false, false, 0⟩ := by
    unfold nxHT
    rw [if_pos (per_ok hc h0 h1), if_neg (by dsimp only; omega), if_neg (by dsimp only; omega), if_pos rfl]
  rw [e]
  have hlen : (List.replicate c.bl.toNat rq0).length = c.bl.toNat := by simp
  have hq1 : hasQ (List.replicate c.bl.toNat rq0).length 0 = true := hasQ_iff.2 ⟨0, rfl, by omega⟩
  have hq2 : hasQ c.n.toNat node = true := hasQ_iff.2 ⟨node.toNat, by omega, by omega⟩
  have hg : getQ (List.replicate c.bl.toNat rq0) 0 = rq0 := by
    have : (0 : Int) = ((0 : Nat) : Int) := rfl
    rw [this, getQ_at (by omega), List.getElem_replicate]
  have hok : okAsk c.n.toNat (List.replicate c.bl.toNat rq0) 0 node = true := by
    unfold okAsk; rw [hq1, hq2, hg]; simp [okBQ, pshQ]
  have hat : atAsk c.n.toNat (List.replicate c.bl.toNat rq0) 0 node = ⟨0, node, 1⟩ := by
    unfold atAsk; rw [hq1, hq2, hg]; simp [atBQ, pshQ]
  have hnx : nxAsk c.n.toNat (List.replicate c.bl.toNat rq0) 0 node = (List.replicate c.bl.toNat rq0).set 0 ⟨[node], 1, 1, []⟩ := by
    unfold nxAsk; rw [hq1, hq2, hg]; simp [nxBQ, pshQ]
  have hset : getQ ((List.replicate c.bl.toNat rq0).set 0 ⟨[node], 1, 1, []⟩) 0 = ⟨[node], 1, 1, []⟩ := by
    have : (0 : Int) = ((0 : Nat) : Int) := rfl
    rw [this, getQ_at (by simp; omega)]
    simp
  have hq3 : hasQ ((List.replicate c.bl.toNat rq0).set 0 ⟨[node], 1, 1, []⟩).length 0 = true := hasQ_iff.2 ⟨0, rfl, by simp; omega⟩
  have hml := (newM_len c.bl c.tt).1
  rw [show clampZ c.bl 0 64 = c.bl by unfold clampZ; (repeat' split) <;> omega] at hml
  have hm0 : hasM (newM c.bl c.tt) 0 = true := hasM_iff.2 ⟨by omega, by omega⟩
  have hok2 : okB (getM (newM c.bl c.tt) 0) := ((MInv.new c.bl c.tt (max c.tt 0) (by omega) (by omega)).get (by omega) 0).1
  have eM : (nxHPer c (Hm.mk (newM c.bl c.tt) (List.replicate c.bl.toNat rq0)) ⟨3, node, c.n, 0, 0, 0, false, 0, false, false, 0⟩) = ⟨takM (newM c.bl c.tt) 0 (getM (newM c.bl c.tt) 0).n true, (List.replicate c.bl.toNat rq0).set 0 ⟨[node], 1, 1, []⟩⟩ := by
    unfold nxHPer hPerD nxHAct
    dsimp only
    rw [hok, hat, hnx, if_pos rfl]
  have e2 : nxHPer c (Go.Proofs.YtmgjgeaigdiadaaDoor.hm0 c) ⟨3, node, c.n, 0, 0, 0, false, 0, false, false, 0⟩ = _ := eM
  rw [e2]
  refine ⟨?_, ?_, ?_⟩
  · dsimp only
    unfold okCur
    rw [hq3, hset]
    simp [okCQ]
  · dsimp only
    unfold atCur
    rw [hq3, hset]
    simp [atCQ, lastNQ]
  · dsimp only
    have hz : (0 : Int) = ((0 : Nat) : Int) := rfl
    have hj : 0 < (newM c.bl c.tt).length := by omega
    rw [hz, takM_nat hj, getM_nat (by simp; omega)]
    rw [hz, getM_nat hj] at hok2
    simp only [List.getElem_set_self]
    rw [getM_nat hj]
    exact (given_all hok2).2
def begL (L : List Lt) : List Int := (L.filter fun l => decide (l.k = 4) && decide (l.b = 0)).map Lt.w
theorem begL_app (L M : List Lt) : begL (L ++ M) = begL L ++ begL M := by simp [begL]
theorem begL_send (a b q : Int) (x : Bun) : begL (sendL a b q x) = [] := by
  unfold sendL
  split <;> simp [begL]
theorem begL_spr {c : Cf} (hc : 1 ≤ c.n) (q s w : Int) : begL (sprL c 4 q s w) = [w] := by
  obtain ⟨n, hn⟩ : ∃ n, c.n.toNat = n + 1 := ⟨c.n.toNat - 1, by omega⟩
  unfold begL sprL
  rw [hn, List.range_succ_eq_map, List.map_cons, List.filter_cons, if_pos (by simp [sprOne]), List.map_cons]
  have : (List.map (sprOne c 4 q s w) (List.map Nat.succ (List.range n))).filter (fun l => decide (l.k = 4) && decide (l.b = 0)) = [] := by
    rw [List.filter_eq_nil_iff]
    intro l hl
    simp only [List.mem_map] at hl
    obtain ⟨_, ⟨i, _, rfl⟩, rfl⟩ := hl
    intro h
    simp only [sprOne, Bool.and_eq_true, decide_eq_true_eq] at h
    have h2 : ((Nat.succ i : Nat) : Int) = 0 := of_decide_eq_true h.2
    omega
  rw [this]
  rfl
theorem begL_act {c : Cf} (hc : 1 ≤ c.n) (D : Hm) (a : At) (ok : Bool) : begL (hActL c D a ok) = if ok = true then [a.n] else [] := by
  unfold hActL
  cases ok
  · rfl
  · rw [if_pos rfl, if_pos rfl, begL_app, begL_spr hc, begL_send]
    rfl
theorem br_get {L : List Rq} (h : 0 < L.length) : getQ [getQ L 0] 0 = getQ L 0 := rfl
theorem has0 {L : List Rq} (h : 0 < L.length) : hasQ L.length 0 = true := hasQ_iff.2 ⟨0, rfl, h⟩
theorem get_set0 {L : List Rq} (h : 0 < L.length) (r : Rq) : getQ (L.set ((0 : Int)).toNat r) 0 = r := by
  have e : (0 : Int) = ((0 : Nat) : Int) := rfl
  rw [e, getQ_at (by simpa using h)]
  simp
theorem br_ask {L : List Rq} (h : 0 < L.length) (N : Nat) (y : Int) : okAsk N L 0 y = okAsk N [getQ L 0] 0 y ∧ atAsk N L 0 y = atAsk N [getQ L 0] 0 y ∧ nxAsk N [getQ L 0] 0 y = [getQ (nxAsk N L 0 y) 0] := by
  unfold okAsk atAsk nxAsk
  rw [has0 h, has_one, get_one]
  cases hasQ N y
  · exact ⟨rfl, rfl, by simp⟩
  · refine ⟨rfl, rfl, ?_⟩
    simp only [Bool.and_self, if_true]
    rw [get_set0 h]
    rfl
theorem br_done {L : List Rq} (h : 0 < L.length) (s : Int) : okDone L 0 s = okDone [getQ L 0] 0 s ∧ nxDone [getQ L 0] 0 s = [getQ (nxDone L 0 s) 0] := by
  unfold okDone nxDone
  rw [has0 h, has_one, get_one]
  refine ⟨rfl, ?_⟩
  simp only [if_true]
  rw [get_set0 h]
  rfl
theorem br_ack {L : List Rq} (h : 0 < L.length) (N : Nat) (s y : Int) : okAck N L 0 s y = okAck N [getQ L 0] 0 s y ∧ atAck N L 0 s y = atAck N [getQ L 0] 0 s y ∧ nxAck N [getQ L 0] 0 s y = [getQ (nxAck N L 0 s y) 0] := by
  unfold okAck atAck nxAck
  rw [has0 h, has_one, get_one]
  cases hasQ N y
  · exact ⟨rfl, rfl, by simp⟩
  · refine ⟨rfl, rfl, ?_⟩
    simp only [Bool.and_self, if_true]
    rw [get_set0 h]
    rfl
theorem br_cur {L : List Rq} (h : 0 < L.length) : okCur L 0 = okCur [getQ L 0] 0 := by
  unfold okCur
  rw [has0 h, has_one, get_one]
def SD (N : Nat) (W : List Int) (s m : Nat) (r : Rq) : Prop := r.A = W ∧ r.n = s ∧ r.ph = 2 ∧ ∀ i : Nat, i < N → ((i : Int) ∈ r.kn ↔ i < m)
theorem serD_ack {N : Nat} {W : List Int} {s m : Nat} {r : Rq} (h : SD N W s m r) (hN : m + 1 < N) : okAck N [r] 0 s m = false ∧ ∃ r', nxAck N [r] 0 s m = [r'] ∧ SD N W s (m + 1) r' := by
  obtain ⟨h1, h2, h3, h4⟩ := h
  have hq : hasQ N (m : Int) = true := hasQ_iff.2 ⟨m, rfl, by omega⟩
  have he : isEQ r s = true := by unfold isEQ; simp [h3, h2]
  have ha : allKQ N (r.kn ++ [(m : Int)]) = false := by
    cases e : allKQ N (r.kn ++ [(m : Int)])
    · rfl
    · have := allKQ_iff.1 e (m + 1) hN
      simp only [List.mem_append, List.mem_singleton] at this
      rcases this with q | q
      · have := (h4 (m + 1) hN).1 q; omega
      · omega
  have hk : knQ N r m = ⟨r.A, r.n, 2, r.kn ++ [(m : Int)]⟩ := by unfold knQ; rw [ha]; rfl
  refine ⟨?_, ⟨r.A, r.n, 2, r.kn ++ [(m : Int)]⟩, ?_, h1, h2, rfl, fun i hi => ?_⟩
  · unfold okAck okKQ
    rw [has_one, hq, get_one, he, hk]
    simp [okBQ]
  · unfold nxAck nxKQ
    rw [has_one, hq, get_one, he, hk]
    simp [nxBQ]
  · simp only [List.mem_append, List.mem_singleton]
    rw [h4 i hi]
    omega
theorem serD_last {N : Nat} {W : List Int} {s m : Nat} {r : Rq} (h : SD N W s m r) (hN : m + 1 = N) (hs : s ≤ W.length) : okAck N [r] 0 s m = decide (s < W.length) ∧ (s < W.length → (atAck N [r] 0 s m).n = W.getD s 0) ∧ ∃ r', nxAck N [r] 0 s m = [r'] ∧ SB W (s + 1) r' := by
  obtain ⟨h1, h2, h3, h4⟩ := h
  have hq : hasQ N (m : Int) = true := hasQ_iff.2 ⟨m, rfl, by omega⟩
  have he : isEQ r s = true := by unfold isEQ; simp [h3, h2]
  have ha : allKQ N (r.kn ++ [(m : Int)]) = true := allKQ_iff.2 (fun i hi => by
    simp only [List.mem_append, List.mem_singleton]
    by_cases e : i < m
    · exact .inl ((h4 i hi).2 e)
    · exact .inr (by omega))
  have hk : knQ N r m = ⟨W, s, 0, r.kn ++ [(m : Int)]⟩ := by unfold knQ; rw [ha, h1, h2]; rfl
  refine ⟨?_, fun hl => ?_, nxBQ ⟨W, s, 0, r.kn ++ [(m : Int)]⟩, ?_, ?_⟩
  · unfold okAck okKQ
    rw [has_one, hq, get_one, he, hk]
    simp [okBQ]
  · unfold atAck atKQ
    rw [has_one, hq, get_one, he, hk]
    simp only [Bool.and_self, if_true]
    unfold atBQ
    rw [if_pos ⟨rfl, hl⟩]
  · unfold nxAck nxKQ
    rw [has_one, hq, get_one, he, hk]
    simp
  · unfold nxBQ SB
    by_cases e : s < W.length
    · rw [if_pos ⟨rfl, e⟩]
      exact ⟨rfl, .inl ⟨by omega, rfl, rfl⟩⟩
    · rw [if_neg (fun q => e q.2)]
      exact ⟨rfl, .inr ⟨by omega, by dsimp only; omega, rfl⟩⟩
theorem end_ok {c : Cf} (hc : CfOk c 0) {k n s : Int} (hk : k = 5 ∨ k = 7) (h0 : 0 ≤ n) (h1 : n < c.n) (hs : 1 ≤ s) : htOk c ⟨k, n, c.n, 0, s, 0, false, 0, false, false, 0⟩ = true := by
  have hb0 := hc.b0
  have hl : lerr c ⟨k, n, c.n, 0, s, 0, false, 0, false, false, 0⟩ = 0 := by
    unfold lerr letterZ toLet
    dsimp only
    rcases hk with rfl | rfl
    · rw [if_neg (by decide), if_neg (by omega)]
      have e1 : wayB (rowL 5) n c.n c.n = true := by simp [wayB, rowL, oneB, nodeB]; omega
      have e2 : marksB (rowL 5) s 0 false c.n = true := by simp [marksB, rowL, seqB, whoB, hs]
      rw [e1, e2]
      simp [noneB]
    · rw [if_neg (by decide), if_neg (by omega)]
      have e1 : wayB (rowL 7) n c.n c.n = true := by simp [wayB, rowL, oneB, nodeB]; omega
      have e2 : marksB (rowL 7) s 0 false c.n = true := by simp [marksB, rowL, seqB, whoB, hs]
      rw [e1, e2]
      simp [noneB]
  unfold htOk
  rw [hl]
  simp
theorem nxHAct_L (D : Hm) (a : At) (ok : Bool) : (nxHAct D a ok).L = D.L := by unfold nxHAct; split <;> rfl
section
variable {c : Cf} {D : Hm}
theorem hv_ask (hc : CfOk c 0) (hL : 0 < D.L.length) {n : Int} (h0 : 0 ≤ n) (h1 : n < c.n) {W : List Int} (hs : SA W (getQ D.L 0)) :
    SA (W ++ [n]) (getQ (nxHT c D ⟨3, n, c.n, 0, 0, 0, false, 0, false, false, 0⟩ 0 0).L 0) ∧ W.take 1 ++ begL (htL c D ⟨3, n, c.n, 0, 0, 0, false, 0, false, false, 0⟩ 0 0) = (W ++ [n]).take 1 ∧ 0 < (nxHT c D ⟨3, n, c.n, 0, 0, 0, false, 0, false, false, 0⟩ 0 0).L.length := by
  have hq : hasQ c.n.toNat n = true := hasQ_iff.2 ⟨n.toNat, by omega, by omega⟩
  have ho := per_ok hc h0 h1
  have e1 : nxHT c D ⟨3, n, c.n, 0, 0, 0, false, 0, false, false, 0⟩ 0 0 = nxHPer c D ⟨3, n, c.n, 0, 0, 0, false, 0, false, false, 0⟩ := by
    unfold nxHT; rw [if_pos ho, if_neg (by dsimp only; omega), if_neg (by dsimp only; omega), if_pos rfl]
  have e2 : htL c D ⟨3, n, c.n, 0, 0, 0, false, 0, false, false, 0⟩ 0 0 = hPerL c D ⟨3, n, c.n, 0, 0, 0, false, 0, false, false, 0⟩ := by
    unfold htL; rw [if_pos ho, if_neg (by dsimp only; omega), if_neg (by dsimp only; omega), if_pos rfl]
  rw [e1, e2]
  unfold nxHPer hPerL
  rw [nxHAct_L, begL_act hc.n0]
  unfold hPerD
  dsimp only
  obtain ⟨b1, b2, b3⟩ := br_ask hL c.n.toNat n
  refine ⟨?_, ?_, by rw [nxAsk_len]; exact hL⟩
  · by_cases hW : W = []
    · subst hW
      obtain ⟨-, -, r', s3, s4⟩ := ser_first hq hs
      rw [b3] at s3
      have : getQ (nxAsk c.n.toNat D.L 0 n) 0 = r' := by simpa using s3
      rw [this]
      exact s4
    · obtain ⟨-, -, r', s3, s4⟩ := ser_more hq hW hs
      rw [b3] at s3
      have : getQ (nxAsk c.n.toNat D.L 0 n) 0 = r' := by simpa using s3
      rw [this]
      exact s4
  · rw [b1, b2]
    by_cases hW : W = []
    · subst hW
      obtain ⟨s1, s2, -⟩ := ser_first hq hs
      rw [s1, s2]
      rfl
    · obtain ⟨s1, s2, -⟩ := ser_more hq hW hs
      rw [s1, s2]
      cases W with
      | nil => exact absurd rfl hW
      | cons x W => rfl
theorem hv_done (hc : CfOk c 0) (hL : 0 < D.L.length) {W : List Int} {s : Nat} (h1 : 1 ≤ s) (hs : s ≤ W.length) (h : SB W s (getQ D.L 0)) :
    SD c.n.toNat W s 0 (getQ (nxHT c D ⟨5, 0, c.n, 0, s, 0, false, 0, false, false, 0⟩ 0 0).L 0) ∧ (htL c D ⟨5, 0, c.n, 0, s, 0, false, 0, false, false, 0⟩ 0 0).length = c.n.toNat ∧ 0 < (nxHT c D ⟨5, 0, c.n, 0, s, 0, false, 0, false, false, 0⟩ 0 0).L.length := by
  have n0 := hc.n0
  have ho := end_ok hc (k := 5) (n := 0) (s := s) (.inl rfl) (by omega) (by omega) (by omega)
  have e1 : nxHT c D ⟨5, 0, c.n, 0, s, 0, false, 0, false, false, 0⟩ 0 0 = nxHDone D ⟨5, 0, c.n, 0, s, 0, false, 0, false, false, 0⟩ := by
    unfold nxHT; rw [if_pos ho, if_neg (by dsimp only; omega), if_neg (by dsimp only; omega), if_neg (by dsimp only; omega), if_pos rfl]
  have e2 : htL c D ⟨5, 0, c.n, 0, s, 0, false, 0, false, false, 0⟩ 0 0 = hDoneL c D ⟨5, 0, c.n, 0, s, 0, false, 0, false, false, 0⟩ := by
    unfold htL; rw [if_pos ho, if_neg (by dsimp only; omega), if_neg (by dsimp only; omega), if_neg (by dsimp only; omega), if_pos rfl]
  rw [e1, e2]
  unfold nxHDone hDoneL
  dsimp only
  obtain ⟨b1, b2⟩ := br_done hL (s : Int)
  obtain ⟨-, -, s3, r', s4, s5, s6, s7, s8⟩ := ser_cur h hs
  rw [b1, s3]
  rw [b2] at s4
  have : getQ (nxDone D.L 0 s) 0 = r' := by simpa using s4
  rw [this, if_pos rfl]
  exact ⟨⟨s5, s6, s7, fun i hi => by rw [s8]; simp⟩, sprL_len _ _ _ _ _, by rw [nxDone_len]; exact hL⟩
theorem hv_ack (hc : CfOk c 0) (hL : 0 < D.L.length) {W : List Int} {s m : Nat} (h1 : 1 ≤ s) (hs : s ≤ W.length) (hm : m < c.n.toNat) (h : SD c.n.toNat W s m (getQ D.L 0)) :
    (if m + 1 < c.n.toNat then SD c.n.toNat W s (m + 1) (getQ (nxHT c D ⟨7, m, c.n, 0, s, 0, false, 0, false, false, 0⟩ 0 0).L 0) ∧ begL (htL c D ⟨7, m, c.n, 0, s, 0, false, 0, false, false, 0⟩ 0 0) = []
     else SB W (s + 1) (getQ (nxHT c D ⟨7, m, c.n, 0, s, 0, false, 0, false, false, 0⟩ 0 0).L 0) ∧ W.take s ++ begL (htL c D ⟨7, m, c.n, 0, s, 0, false, 0, false, false, 0⟩ 0 0) = W.take (s + 1)) ∧ 0 < (nxHT c D ⟨7, m, c.n, 0, s, 0, false, 0, false, false, 0⟩ 0 0).L.length := by
  have ho := end_ok hc (k := 7) (n := m) (s := s) (.inr rfl) (by omega) (by omega) (by omega)
  have e1 : nxHT c D ⟨7, m, c.n, 0, s, 0, false, 0, false, false, 0⟩ 0 0 = nxHAck c D ⟨7, m, c.n, 0, s, 0, false, 0, false, false, 0⟩ := by
    unfold nxHT; rw [if_pos ho, if_neg (by dsimp only; omega), if_neg (by dsimp only; omega), if_neg (by dsimp only; omega), if_neg (by dsimp only; omega), if_pos rfl]
  have e2 : htL c D ⟨7, m, c.n, 0, s, 0, false, 0, false, false, 0⟩ 0 0 = hAckL c D ⟨7, m, c.n, 0, s, 0, false, 0, false, false, 0⟩ := by
    unfold htL; rw [if_pos ho, if_neg (by dsimp only; omega), if_neg (by dsimp only; omega), if_neg (by dsimp only; omega), if_neg (by dsimp only; omega), if_pos rfl]
  rw [e1, e2]
  unfold nxHAck hAckL
  rw [nxHAct_L, begL_act hc.n0]
  unfold hAckD
  dsimp only
  obtain ⟨b1, b2, b3⟩ := br_ack hL c.n.toNat (s : Int) (m : Int)
  refine ⟨?_, by rw [nxAck_len]; exact hL⟩
  split
  · rename_i hlt
    obtain ⟨a1, r', a2, a3⟩ := serD_ack h hlt
    rw [b3] at a2
    have : getQ (nxAck c.n.toNat D.L 0 s m) 0 = r' := by simpa using a2
    rw [this, b1, a1]
    exact ⟨a3, rfl⟩
  · rename_i hlt
    obtain ⟨a1, a4, r', a2, a3⟩ := serD_last h (by omega) hs
    rw [b3] at a2
    have : getQ (nxAck c.n.toNat D.L 0 s m) 0 = r' := by simpa using a2
    rw [this, b1, a1, b2]
    refine ⟨a3, ?_⟩
    by_cases e : s < W.length
    · rw [if_pos (by simpa using e), a4 e, take_more e]
    · rw [if_neg (by simpa using e), List.append_nil, List.take_of_length_le (by omega), List.take_of_length_le (by omega)]
end
theorem htL_len (c : Cf) (D : Hm) (l : Lt) (d0 d1 : Int) (h : c.n ≤ 64) : (htL c D l d0 d1).length ≤ 1000 := by
  have a : ∀ D a ok, (hActL c D a ok).length ≤ 65 := fun D a ok => by
    unfold hActL
    split
    · rw [List.length_append, sprL_len]
      have := sendL_lenH c.n a.n a.b (givenB (getM D.M a.b) (getM D.M a.b).n true true)
      omega
    · simp
  unfold htL
  split
  · split
    · unfold hTokL; split
      · have := sendL_lenH c.n (atCur D.L l.q).n l.q (tokOf l); omega
      · simp
    · split
      · unfold hAskL; have := sendL_lenH c.n l.a l.q (givenB (getM D.M l.q) (hRep c D l d0 d1).n (hRep c D l d0 d1).o (hRep c D l d0 d1).v); omega
      · split
        · have := a (hPerD c D l) (atAsk c.n.toNat D.L l.q l.a) (okAsk c.n.toNat D.L l.q l.a); unfold hPerL; omega
        · split
          · unfold hDoneL; split
            · rw [sprL_len]; omega
            · simp
          · split
            · have := a (hAckD c D l) (atAck c.n.toNat D.L l.q l.s l.a) (okAck c.n.toNat D.L l.q l.s l.a); unfold hAckL; omega
            · simp
  · simp
end Go.Proofs.YtmgjgeaigdiadaaDoor
