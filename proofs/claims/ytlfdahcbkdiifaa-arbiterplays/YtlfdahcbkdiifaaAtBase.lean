/- A request, as plain data (layers 11, 12). -/
import Derived.Test.YtlfdahcbkdiifaaFrSet
namespace Go.Proofs.Ytlfdahcbkdiifaa
open Go.ChangeShapes Go.WideShapes Go.ChangeAt Go.RowKit
set_option linter.unusedSimpArgs false
set_option linter.unusedVariables false
set_option maxRecDepth 10000

attribute [local go_sem, local simp] over_const setCell_drewN alloc_drewN Over.cell Over.frozen lt_s1 lt_s2 lt_s3 le_s0 le_s1 le_s2 le_s3 eq_s0 eq_s1 eq_s2 qe_s0

structure At where
  b : Int
  n : Int
  s : Int

abbrev atV (l : At) : Value := .agg #[.int .i64 l.b, .int .i64 l.n, .int .i64 l.s]
abbrev at0 : At := ⟨0, 0, 0⟩
end Go.Proofs.Ytlfdahcbkdiifaa
