/- layer 16: TkBase, put together. -/
import Derived.Test.YtmgjgeaigdiadaaDoorB09
import Derived.Test.YtmgjgeaigdiadaaDoorB26
import Derived.Test.YtmgjgeaigdiadaaDoorB11
namespace Go.Proofs.YtmgjgeaigdiadaaDoor
open Go.ChangeShapes Go.WideShapes Go.ChangeAt Go.RowKit
set_option linter.unusedSimpArgs false
set_option linter.unusedVariables false
set_option maxRecDepth 10000
attribute [local go_sem, local simp] over_const setCell_drewN alloc_drewN Over.cell Over.frozen lt_s1 lt_s2 lt_s3 le_s0 le_s1 le_s2 le_s3 eq_s0 eq_s1 eq_s2 qe_s0
theorem wpList_ins {P : Program} {ops : Array Oper} {Q : Exit → Act → World → Prop} {rest : List Oper} {o : Oper} {a : Act} {w w2 : World} {t : TypeId} {mv kv vv : Value} (hg : o.guard = none) (m x v : Operand) (ho : o.op = Op.insert t m x v) (hm : a.eval m = mv) (hx : a.eval x = kv) (hv : a.eval v = vv) (hr : (Instr.mapUpdate t mv kv vv).run P w = .ok () w2) (h : wpList P ops Q rest (a.put o.dst undef) w2) : wpList P ops Q (o :: rest) a w :=
  wpList_plain hg fun K' hK => by
    unfold Oper.wp
    simp [execOp, ho, hm, hx, hv, hr, Result.andThen]
    exact hK _ _ h
theorem i64_of_small {x : Int} (h0 : 0 ≤ x) (h1 : x ≤ 100) : I64 x := ⟨by omega, by omega⟩
theorem Tab.step {w w' : World} {F F' : Nat → Prop} (h : Tab w) (s : Step F F' w w') (h0 : ¬ F 0) : Tab w' :=
  ⟨Nat.lt_of_lt_of_le h.1 s.fr.size, fun i v hv => keep_cell (s.fr.block 0 h.1 h0) (h.2 i v hv)⟩
theorem lerr_q {c : Cf} {l : Lt} (h : lerr c l = 0) : 0 ≤ l.q ∧ l.q < c.bl ∧ 1 ≤ l.k ∧ l.k ≤ 7 := by
  unfold lerr letterZ toLet at h
  dsimp only at h
  split at h <;> (try omega)
  rename_i h1
  split at h <;> (try omega)
  rename_i h2
  have := inB_true.1 (by simpa using h1)
  omega
theorem lerr_tok {c : Cf} {l : Lt} (h : lerr c l = 0) (hk : l.k = 1) : okB (tokOf l) ∧ 1 ≤ l.n ∧ l.n ≤ c.tt ∧ checkZ (tokOf l) c.tt = 0 := by
  unfold lerr letterZ toLet at h
  dsimp only at h
  split at h <;> (try omega)
  split at h <;> (try omega)
  split at h <;> (try omega)
  split at h <;> (try omega)
  unfold sentZ at h
  dsimp only at h
  split at h
  · rename_i hc
    have ho := okB_of _ _ hc
    have hn := ho.1
    have hn2 : l.n ≤ c.tt := by
      have h2 := hc
      unfold checkZ at h2
      dsimp only at h2
      split at h2
      · omega
      · rename_i h3; omega
    dsimp only at hn
    split at h
    · omega
    · rename_i h0
      exact ⟨ho, by omega, hn2, hc⟩
  · omega
end Go.Proofs.YtmgjgeaigdiadaaDoor
