/- layer 15: LdMath, put together. -/
import Derived.Test.YtoenjdnccgmhoaaGreatDoorB40
namespace Go.Proofs.YtoenjdnccgmhoaaGreatDoor
open Go.ChangeShapes Go.WideShapes Go.ChangeAt Go.RowKit
set_option linter.unusedSimpArgs false
set_option linter.unusedVariables false
set_option maxRecDepth 10000
attribute [local go_sem, local simp] over_const setCell_drewN alloc_drewN Over.cell Over.frozen lt_s1 lt_s2 lt_s3 le_s0 le_s1 le_s2 le_s3 eq_s0 eq_s1 eq_s2 qe_s0
abbrev ltLd (c : Cf) (op : Op3) (b : Bun) : Lt := ⟨1, c.n, 0, op.b, 0, 0, false, b.n, b.o, b.h, b.d⟩
def caLd (op : Op3) (b : Bun) : Ca := ⟨[op.b], updT (fun _ => bun0) op.b b⟩
def pmLd (c : Cf) (op : Op3) : Pm := ⟨0, max c.cu 1, 0, false, op, true⟩
def ndLd (c : Cf) (op : Op3) (b : Bun) : Nd := ⟨caLd op b, tb0, pmLd c op, fun _ => false, fun _ => 0⟩
def mayLd (c : Cf) (op : Op3) (b : Bun) : Bool := b.h && (!op.w || decide (b.n = c.tt))
theorem ld_iss {c : Cf} {op : Op3} (h0 : 0 ≤ op.b) (h1 : op.b < c.bl) : isOk c nd0 op = true ∧ nxIs c 0 nd0 op = ⟨⟨[], fun _ => bun0⟩, tb0, pmLd c op, fun _ => false, fun _ => 0⟩ := by
  have hok : isOk c nd0 op = true := by unfold isOk; simp [h0, h1, nd0]
  refine ⟨hok, ?_⟩
  have hD : isD c nd0 op = ⟨⟨[], fun _ => bun0⟩, tb0, pmLd c op, fun _ => false, fun _ => 0⟩ := by unfold isD nxI nd0 pmLd; simp
  have hs : sttOk c (isD c nd0 op) = false := by rw [hD]; unfold sttOk okDo canB; simp
  unfold nxIs nxS
  rw [hok, if_pos rfl, hs, if_neg (by decide), hD]
theorem ld_ab {c : Cf} {op : Op3} {b : Bun} (hc : CfOk c 0) (h0 : 0 ≤ op.b) (hb : 1 ≤ b.n) : nxAb c.cs c.cy ⟨[], fun _ => bun0⟩ op.b b op.b = caLd op b ∧ goAb c.cs c.cy ⟨[], fun _ => bun0⟩ op.b b op.b = (ln0, false) := by
  have hf : fullA c.cs c.cy [] op.b = false := by
    have := hc.y0
    unfold fullA
    rw [decide_eq_false_iff_not]
    simp only [part, List.filter_nil, List.length_nil]
    omega
  have hv : vicA c.cs c.cy [] op.b op.b = (-1, true) := by unfold vicA; rw [if_neg (by omega), if_pos (.inr hf)]
  have n1 : ¬ b.n < 1 := by omega
  have n2 : ¬ op.b ∈ ([] : List Int) := by simp
  constructor
  · unfold nxAb
    rw [if_neg n1, if_neg n2, hv]
    simp [caLd]
  · unfold goAb
    rw [if_neg n1, if_neg n2, hv]
    simp
theorem ld_take {c : Cf} {op : Op3} {b : Bun} (hc : CfOk c 0) (hl : lerr c (ltLd c op b) = 0) :
    isOk c nd0 op = true ∧ tkL c 0 (nxIs c 0 nd0 op) (ltLd c op b) 0 0 = [] ∧ tkN c 0 (nxIs c 0 nd0 op) (ltLd c op b) = (if mayLd c op b = true then [⟨0, 1, op.b, op.w, op.v, if op.w = true then op.v else b.d, 0⟩] else []) ∧ (nxTake c 0 (nxIs c 0 nd0 op) (ltLd c op b) 0 0).P.busy = !mayLd c op b := by
  obtain ⟨q1, q2, -, -⟩ := lerr_q hl
  obtain ⟨t1, t2, t3, -⟩ := lerr_tok hl rfl
  dsimp only at q1 q2 t2
  obtain ⟨hok, hD⟩ := ld_iss (c := c) (op := op) q1 q2
  obtain ⟨ha, hg⟩ := ld_ab (c := c) (op := op) (b := b) hc q1 t2
  have htk : tkOk c 0 (ltLd c op b) = true := by unfold tkOk; rw [hl]; rfl
  have hfw : fwdB 0 ⟨⟨[], fun _ => bun0⟩, tb0, pmLd c op, fun _ => false, fun _ => 0⟩ op.b = false := by unfold fwdB; rfl
  have hab : abD c ⟨⟨[], fun _ => bun0⟩, tb0, pmLd c op, fun _ => false, fun _ => 0⟩ (ltLd c op b) = ndLd c op b := by unfold abD ndLd; rw [← ha]; rfl
  have hgo : abG c ⟨⟨[], fun _ => bun0⟩, tb0, pmLd c op, fun _ => false, fun _ => 0⟩ (ltLd c op b) = (ln0, false) := by unfold abG; rw [← hg]; rfl
  have hT : updT (fun _ => bun0) op.b b op.b = b := updT_same _ _ _
  have hst : sttOk c (ndLd c op b) = mayLd c op b := by
    unfold sttOk okDo canB mayLd ndLd pmLd caLd
    dsimp only
    simp [updT_same, t2]
  have hend : endL c 0 (sttD c (ndLd c op b)) op.b = [] := by unfold endL endOk ownB; rfl
  have hnE : ∀ D : Nd, D.T = tb0 → nxE 0 D op.b = D := fun D hD => by unfold nxE endOk ownB; rw [hD]; rfl
  refine ⟨hok, ?_, ?_, ?_⟩
  · rw [hD]
    unfold tkL tokL abL sttL
    rw [htk, if_pos rfl, if_pos rfl, hfw, if_neg (by decide), hgo, hab]
    show [] ++ (if sttOk c (ndLd c op b) = true then endL c 0 (sttD c (ndLd c op b)) op.b else []) = []
    rw [hend]
    split <;> rfl
  · rw [hD]
    unfold tkN tokN sttN
    rw [htk, if_pos rfl, if_pos rfl, hfw, if_neg (by decide), hab, hst]
    split
    · rename_i hm
      have ho : okDo (caLd op b) op.b op.w c.tt = true := by rw [← hst] at hm; unfold sttOk at hm; simp at hm; exact hm.2
      show [(⟨0, 0 + 1, op.b, op.w, op.v, valDo (caLd op b) op.b op.w op.v c.tt, 0⟩ : Dn)] = _
      unfold valDo datDo
      rw [ho]
      cases op.w <;> simp [caLd, hT]
    · rfl
  · rw [hD]
    unfold nxTake nxTok nxS
    rw [htk, if_pos rfl, if_pos rfl, hfw, if_neg (by decide), hab, hst]
    split
    · rename_i hm
      have e : (ndLd c op b).P.op.b = op.b := rfl
      rw [e, hnE _ rfl, hm]
      rfl
    · rename_i hm
      simp only [Bool.not_eq_true] at hm
      rw [hm]
      rfl
end Go.Proofs.YtoenjdnccgmhoaaGreatDoor
