/- A field of tokens as a value (layer 9). -/
import Derived.Test.YtooopcadefpncaaCacB
namespace Go.Proofs.Ytooopcadefpncaa
open Go.ChangeShapes Go.WideShapes Go.ChangeAt Go.RowKit
set_option linter.unusedSimpArgs false
set_option linter.unusedVariables false
set_option maxRecDepth 10000

attribute [local go_sem, local simp] over_const setCell_drewN alloc_drewN Over.cell Over.frozen lt_s1 lt_s2 lt_s3 le_s0 le_s1 le_s2 le_s3 eq_s0 eq_s1 eq_s2 qe_s0

theorem field_n (w : World) (n : Int) (o h : Bool) (d : Int) : (Instr.field 31 (.agg #[.int .i64 n, .bool o, .bool h, .int .i64 d]) 0).run Try.prog w = .ok (.int .i64 n) w := by kernel_rfl
end Go.Proofs.Ytooopcadefpncaa
