/- Nothing of the program: what is said of one answer (layer 12). -/
import Derived.Test.YtlfdahcbkdiifaaTell12
namespace Go.Proofs.Ytlfdahcbkdiifaa
open Go.ChangeShapes Go.WideShapes Go.ChangeAt Go.RowKit
set_option linter.unusedSimpArgs false
set_option linter.unusedVariables false
set_option maxRecDepth 10000

attribute [local go_sem, local simp] over_const setCell_drewN alloc_drewN Over.cell Over.frozen lt_s1 lt_s2 lt_s3 le_s0 le_s1 le_s2 le_s3 eq_s0 eq_s1 eq_s2 qe_s0

theorem szQ_in {x : Int} (h1 : ¬ x < 0) (h2 : ¬ 64 < x) : (szQ x : Int) = x := by unfold szQ; rw [if_neg h1, if_neg h2]; omega
end Go.Proofs.Ytlfdahcbkdiifaa
