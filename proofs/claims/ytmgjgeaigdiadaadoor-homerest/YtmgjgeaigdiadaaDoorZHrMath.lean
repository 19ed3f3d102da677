/- layer 16: HrMath, put together. -/
import Derived.Test.YtmgjgeaigdiadaaDoorB18
namespace Go.Proofs.YtmgjgeaigdiadaaDoor
open Go.ChangeShapes Go.WideShapes Go.ChangeAt Go.RowKit
set_option linter.unusedSimpArgs false
set_option linter.unusedVariables false
set_option maxRecDepth 10000
attribute [local go_sem, local simp] over_const setCell_drewN alloc_drewN Over.cell Over.frozen lt_s1 lt_s2 lt_s3 le_s0 le_s1 le_s2 le_s3 eq_s0 eq_s1 eq_s2 qe_s0
def restL (L : List Rq) : Prop := ∀ x, okCur L x = false
theorem rest_rep (n : Nat) : restL (List.replicate n rq0) := fun x => by
  unfold okCur
  cases e : hasQ (List.replicate n rq0).length x
  · rfl
  · obtain ⟨j, rfl, hj⟩ := hasQ_iff.1 e
    rw [getQ_at hj, List.getElem_replicate]
    rfl
theorem sendL_one {a b q : Int} {x : Bun} {y : Lt} (h : y ∈ sendL a b q x) : y.k = 1 ∧ y.b = b ∧ y.q = q := by
  unfold sendL at h
  split at h
  · cases h
  · simp only [List.mem_singleton] at h
    subst h
    exact ⟨rfl, rfl, rfl⟩
theorem rest_math {c : Cf} {D : Hm} {l : Lt} {d0 d1 : Int} (hr : restL D.L) (hk : l.k = 1 ∨ l.k = 2) :
    (l.k = 1 → htL c D l d0 d1 = []) ∧ (htL c D l d0 d1).length ≤ 1 ∧ (∀ y ∈ htL c D l d0 d1, y.k = 1 ∧ y.b = l.a ∧ y.q = l.q) ∧ (nxHT c D l d0 d1).L = D.L := by
  unfold htL nxHT
  by_cases ho : htOk c l = true
  · rw [if_pos ho, if_pos ho]
    rcases hk with hk | hk
    · rw [if_pos hk, if_pos hk]
      unfold hTokL nxHTok
      rw [hr l.q]
      exact ⟨fun _ => by simp, by simp, by simp, by simp⟩
    · rw [if_neg (by omega), if_pos hk, if_neg (by omega), if_pos hk]
      exact ⟨fun e => by omega, sendL_lenH _ _ _ _, fun y hy => sendL_one hy, rfl⟩
  · rw [if_neg ho, if_neg ho]
    exact ⟨fun _ => rfl, by simp, by simp, rfl⟩
structure FwdH (D : Hm) (node : Int) : Prop where
  ok : okCur D.L 0 = true
  at' : (atCur D.L 0).n = node
  m : getM D.M 0 = bun0
theorem takM_zero {M : List Bun} (h : getM M 0 = bun0) (cc : Int) (o : Bool) : takM M 0 cc o = M := by
  unfold takM
  split
  · rename_i hh
    rw [h]
    have hz : restB bun0 cc o = bun0 := by
      have := parts_math 0 false false 0 cc o false okB_zero (givenB bun0 cc o false) (restB bun0 cc o) rfl rfl
      exact ok_zero this.2.2.2.2.1 (by have h1 := this.1; have h2 := this.2.1; have h3 := this.2.2.1; omega)
    rw [hz]
    obtain ⟨j, e, hj⟩ := hasM_at hh
    have ej : j = 0 := by omega
    subst ej
    have h0 : M[0] = bun0 := by rw [← h]; exact (getM_nat hj).symm
    rw [show ((0 : Int).toNat) = 0 from rfl, ← h0]
    exact List.set_getElem_self hj
  · rfl
theorem fwd_math {c : Cf} {D : Hm} {node : Int} {l : Lt} {d0 d1 : Int} (hr : FwdH D node) (hq : l.q = 0) (hk : l.k = 1 ∨ l.k = 2) (hl : lerr c l = 0) (hb : l.b = c.n) (hn : l.k = 1 → 1 ≤ l.n) :
    (l.k = 1 → htL c D l d0 d1 = [⟨1, c.n, node, 0, 0, 0, false, l.n, l.o, l.h, l.d⟩]) ∧ (l.k = 2 → htL c D l d0 d1 = []) ∧ nxHT c D l d0 d1 = D := by
  have ho : htOk c l = true := by unfold htOk; rw [hl]; simp [hb]
  unfold htL nxHT
  rw [if_pos ho, if_pos ho]
  rcases hk with hk | hk
  · rw [if_pos hk, if_pos hk]
    unfold hTokL nxHTok
    rw [hq, hr.ok, hr.at']
    refine ⟨fun _ => ?_, fun e => by omega, by simp⟩
    unfold sendL tokOf
    have := hn hk
    simp
    omega
  · rw [if_neg (by omega), if_pos hk, if_neg (by omega), if_pos hk]
    unfold hAskL nxHAsk
    rw [hq, hr.m]
    refine ⟨fun e => by omega, fun _ => ?_, ?_⟩
    · rw [given_zero]
      rfl
    · rw [takM_zero hr.m]
theorem per_ok {c : Cf} (hc : CfOk c 0) {node : Int} (h0 : 0 ≤ node) (h1 : node < c.n) : htOk c ⟨3, node, c.n, 0, 0, 0, false, 0, false, false, 0⟩ = true := by
  have hb0 := hc.b0
  have hl : lerr c ⟨3, node, c.n, 0, 0, 0, false, 0, false, false, 0⟩ = 0 := by
    unfold lerr letterZ toLet
    dsimp only
    rw [if_neg (by decide), if_neg (by omega)]
    have e1 : wayB (rowL 3) node c.n c.n = true := by simp [wayB, rowL, oneB, nodeB]; omega
    have e2 : marksB (rowL 3) 0 0 false c.n = true := by simp [marksB, rowL, seqB, whoB]
    rw [e1, e2]
    simp [noneB]
  unfold htOk
  rw [hl]
  simp
theorem fwd_first {c : Cf} (hc : CfOk c 0) {node : Int} (h0 : 0 ≤ node) (h1 : node < c.n) : FwdH (nxHT c (hm0 c) ⟨3, node, c.n, 0, 0, 0, false, 0, false, false, 0⟩ 0 0) node := by
  have hb0 := hc.b0
  have hb1 := hc.b1
  have e : nxHT c (hm0 c) ⟨3, node, c.n, 0, 0, 0, false, 0, false, false, 0⟩ 0 0 = nxHPer c (hm0 c) ⟨3, node, c.n, 0, 0, 0, false, 0, false, false, 0⟩ := by
    unfold nxHT
    rw [if_pos (per_ok hc h0 h1), if_neg (by dsimp only; omega), if_neg (by dsimp only; omega), if_pos rfl]
  rw [e]
  have hlen : (List.replicate c.bl.toNat rq0).length = c.bl.toNat := by simp
  have hq1 : hasQ (List.replicate c.bl.toNat rq0).length 0 = true := hasQ_iff.2 ⟨0, rfl, by omega⟩
  have hq2 : hasQ c.n.toNat node = true := hasQ_iff.2 ⟨node.toNat, by omega, by omega⟩
  have hg : getQ (List.replicate c.bl.toNat rq0) 0 = rq0 := by
    have : (0 : Int) = ((0 : Nat) : Int) := rfl
    rw [this, getQ_at (by omega), List.getElem_replicate]
  have hok : okAsk c.n.toNat (List.replicate c.bl.toNat rq0) 0 node = true := by
    unfold okAsk; rw [hq1, hq2, hg]; simp [okBQ, pshQ]
  have hat : atAsk c.n.toNat (List.replicate c.bl.toNat rq0) 0 node = ⟨0, node, 1⟩ := by
    unfold atAsk; rw [hq1, hq2, hg]; simp [atBQ, pshQ]
  have hnx : nxAsk c.n.toNat (List.replicate c.bl.toNat rq0) 0 node = (List.replicate c.bl.toNat rq0).set 0 ⟨[node], 1, 1, []⟩ := by
    unfold nxAsk; rw [hq1, hq2, hg]; simp [nxBQ, pshQ]
  have hset : getQ ((List.replicate c.bl.toNat rq0).set 0 ⟨[node], 1, 1, []⟩) 0 = ⟨[node], 1, 1, []⟩ := by
    have : (0 : Int) = ((0 : Nat) : Int) := rfl
    rw [this, getQ_at (by simp; omega)]
    simp
  have hq3 : hasQ ((List.replicate c.bl.toNat rq0).set 0 ⟨[node], 1, 1, []⟩).length 0 = true := hasQ_iff.2 ⟨0, rfl, by simp; omega⟩
  have hml := (newM_len c.bl c.tt).1
  rw [show clampZ c.bl 0 64 = c.bl by unfold clampZ; (repeat' split) <;> omega] at hml
  have hm0 : hasM (newM c.bl c.tt) 0 = true := hasM_iff.2 ⟨by omega, by omega⟩
  have hok2 : okB (getM (newM c.bl c.tt) 0) := ((MInv.new c.bl c.tt (max c.tt 0) (by omega) (by omega)).get (by omega) 0).1
  have eM : (nxHPer c (Hm.mk (newM c.bl c.tt) (List.replicate c.bl.toNat rq0)) ⟨3, node, c.n, 0, 0, 0, false, 0, false, false, 0⟩) = ⟨takM (newM c.bl c.tt) 0 (getM (newM c.bl c.tt) 0).n true, (List.replicate c.bl.toNat rq0).set 0 ⟨[node], 1, 1, []⟩⟩ := by
    unfold nxHPer hPerD nxHAct
    dsimp only
    rw [hok, hat, hnx, if_pos rfl]
  have e2 : nxHPer c (Go.Proofs.YtmgjgeaigdiadaaDoor.hm0 c) ⟨3, node, c.n, 0, 0, 0, false, 0, false, false, 0⟩ = _ := eM
  rw [e2]
  refine ⟨?_, ?_, ?_⟩
  · dsimp only
    unfold okCur
    rw [hq3, hset]
    simp [okCQ]
  · dsimp only
    unfold atCur
    rw [hq3, hset]
    simp [atCQ, lastNQ]
  · dsimp only
    have hz : (0 : Int) = ((0 : Nat) : Int) := rfl
    have hj : 0 < (newM c.bl c.tt).length := by omega
    rw [hz, takM_nat hj, getM_nat (by simp; omega)]
    rw [hz, getM_nat hj] at hok2
    simp only [List.getElem_set_self]
    rw [getM_nat hj]
    exact (given_all hok2).2
end Go.Proofs.YtmgjgeaigdiadaaDoor
