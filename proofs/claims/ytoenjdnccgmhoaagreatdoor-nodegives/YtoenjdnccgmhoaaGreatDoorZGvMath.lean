/- layer 15: GvMath, put together. -/
import Derived.Test.YtoenjdnccgmhoaaGreatDoorB44
namespace Go.Proofs.YtoenjdnccgmhoaaGreatDoor
open Go.ChangeShapes Go.WideShapes Go.ChangeAt Go.RowKit
set_option linter.unusedSimpArgs false
set_option linter.unusedVariables false
set_option maxRecDepth 10000
attribute [local go_sem, local simp] over_const setCell_drewN alloc_drewN Over.cell Over.frozen lt_s1 lt_s2 lt_s3 le_s0 le_s1 le_s2 le_s3 eq_s0 eq_s1 eq_s2 qe_s0
abbrev ltGa (c : Cf) (op : Op3) : Lt := ⟨4, c.n, 0, op.b, 1, 0, false, 0, false, false, 0⟩
abbrev ltGs (op : Op3) (wr : Bool) : Lt := ⟨2, 1, 0, op.b, 0, 0, wr, 0, false, false, 0⟩
def bun1 : Bun := ⟨1, false, false, 0⟩
abbrev ltGt (c : Cf) (op : Op3) : Lt := ⟨1, c.n, 0, op.b, 0, 0, false, 1, false, false, 0⟩
abbrev tbGv (op : Op3) : Tb := ⟨[⟨op.b, 0, 1⟩], fun _ => 0⟩
def ndG1 (c : Cf) (op : Op3) : Nd := ⟨⟨[], fun _ => bun0⟩, tb0, pmLd c op, fun _ => false, fun _ => 0⟩
def ndG2 (c : Cf) (op : Op3) : Nd := ⟨⟨[], fun _ => bun0⟩, tbGv op, pmLd c op, fun _ => false, fun _ => 0⟩
def ndG3 (c : Cf) (op : Op3) : Nd := ⟨caLd op bun1, tbGv op, pmLd c op, fun _ => false, fun _ => 0⟩
section
variable {c : Cf} {op : Op3}
theorem gv_iss (h0 : 0 ≤ op.b) (h1 : op.b < c.bl) : isOk c nd0 op = true ∧ nxIs c 0 nd0 op = ndG1 c op := ld_iss h0 h1
theorem gv_ea (hc : CfOk c 0) (h0 : 0 ≤ op.b) (h1 : op.b < c.bl) : lerr c (ltGa c op) = 0 := by
  have n1 := hc.n0
  unfold lerr letterZ toLet
  have e : ¬ (op.b < 0 ∨ c.bl ≤ op.b) := by omega
  have ew : wayB (rowL 4) c.n 0 c.n = true := by
    simp [wayB, rowL, oneB, nodeB]
    omega
  have em : marksB (rowL 4) 1 0 false c.n = true := by
    simp [marksB, seqB, whoB, rowL, nodeB]
    omega
  simp [e, ew, em, inB, noneB]
theorem gv_et (hc : CfOk c 0) (h0 : 0 ≤ op.b) (h1 : op.b < c.bl) (h2 : 2 ≤ c.tt) : lerr c (ltGt c op) = 0 := by
  have n1 := hc.n0
  have t1 := hc.t1
  unfold lerr letterZ toLet
  have e : ¬ (op.b < 0 ∨ c.bl ≤ op.b) := by omega
  have ew : wayB (rowL 1) c.n 0 c.n = true := by
    simp [wayB, rowL, oneB, nodeB]
    omega
  have em : marksB (rowL 1) 0 0 false c.n = true := by simp [marksB, seqB, whoB, rowL]
  have es : sentZ ⟨1, false, false, 0⟩ c.tt = 0 := by
    unfold sentZ checkZ
    simp
    omega
  simp [e, ew, em, inB, es]
theorem gv_act (hc : CfOk c 0) (h0 : 0 ≤ op.b) (h1 : op.b < c.bl) : nxTake c 0 (ndG1 c op) (ltGa c op) 0 0 = ndG2 c op := by
  have htk : tkOk c 0 (ltGa c op) = true := by unfold tkOk; rw [gv_ea hc h0 h1]; rfl
  have hok : okA tb0 (actA (ltGa c op)) = true := by simp [okA, actA, getA]
  have hw : waitB (ndG1 c op) op.b = true := by simp [waitB, ndG1, pmLd]
  have hac : acD (ndG1 c op) (ltGa c op) = ndG2 c op := by
    show (⟨_, nxA tb0 (actA (ltGa c op)), _, _, _⟩ : Nd) = _
    unfold nxA
    rw [hok, if_pos rfl]
    rfl
  unfold nxTake nxAc
  rw [htk, if_pos rfl, if_neg (show ¬ (4 : Int) = 1 by decide), if_neg (show ¬ (4 : Int) = 2 by decide), if_pos rfl]
  show (if okA tb0 (actA (ltGa c op)) = true then _ else _) = _
  rw [hok, if_pos rfl, if_pos rfl, hw, if_pos rfl, hac]
theorem gv_tok (hc : CfOk c 0) (h0 : 0 ≤ op.b) (h1 : op.b < c.bl) (h2 : 2 ≤ c.tt) : nxTake c 0 (ndG2 c op) (ltGt c op) 0 0 = ndG3 c op := by
  have htk : tkOk c 0 (ltGt c op) = true := by unfold tkOk; rw [gv_et hc h0 h1 h2]; rfl
  have hfw : fwdB 0 (ndG2 c op) op.b = false := by simp [fwdB, ndG2, hasA, getA]
  obtain ⟨ha, -⟩ := ld_ab (c := c) (op := op) (b := bun1) hc h0 (by decide)
  have hab : abD c (ndG2 c op) (ltGt c op) = ndG3 c op := by unfold abD ndG3; rw [← ha]; rfl
  have hst : sttOk c (ndG3 c op) = false := by
    unfold sttOk okDo canB ndG3 pmLd caLd
    simp [updT_same, bun1]
  unfold nxTake nxTok nxS
  rw [htk, if_pos rfl, if_pos rfl, hfw, if_neg (by decide), hab, hst, if_neg (by decide)]
theorem gv_ask (wr : Bool) (d0 d1 : Int) : nxTake c 0 (ndG3 c op) (ltGs op wr) d0 d1 = ndG3 c op ∧ tkL c 0 (ndG3 c op) (ltGs op wr) d0 d1 = [] := by
  have hh : heldB 0 (ndG3 c op) op.b = true := by simp [heldB, ownB, waitB, ndG3, pmLd, hasA, getA]
  constructor
  · unfold nxTake nxAns
    split
    · rw [if_neg (show ¬ (2 : Int) = 1 by decide), if_pos rfl]
    · rfl
  · unfold tkL ansL
    split
    · rw [if_neg (show ¬ (2 : Int) = 1 by decide), if_pos rfl]
    · rfl
theorem gv_all : allC (ndG3 c op).C = [⟨op.b, bun1⟩] := by
  unfold allC ndG3 caLd
  have : listA [op.b] = [op.b] := by simp [listA]
  rw [this]
  simp [updT_same]
end
end Go.Proofs.YtoenjdnccgmhoaaGreatDoor
