/- layer 16: RdG, put together. -/
import Derived.Test.YtmgjgeaigdiadaaDoorB35
import Derived.Test.YtmgjgeaigdiadaaDoorB36
namespace Go.Proofs.YtmgjgeaigdiadaaDoor
open Go.ChangeShapes Go.WideShapes Go.ChangeAt Go.RowKit
set_option linter.unusedSimpArgs false
set_option linter.unusedVariables false
set_option maxRecDepth 10000
attribute [local go_sem, local simp] over_const setCell_drewN alloc_drewN Over.cell Over.frozen lt_s1 lt_s2 lt_s3 le_s0 le_s1 le_s2 le_s3 eq_s0 eq_s1 eq_s2 qe_s0
theorem dAck_c (q h N M : Nat) (L : List Rq) (F : Nat → Prop) (x s y : Int) (w : World) (hr : RdIs w q h N M L F) (hM : M + 1 ≤ 100000) (a : At) (ha : Hid (atAck N L x s y = a)) (ok : Bool) (hok : Hid (okAck N L x s y = ok)) : (Calls Tryd.prog 38 #[ptr q, .int .i64 x, .int .i64 s, .int .i64 y] w fun e w' => e = .returned (.tuple #[.agg #[.int .i64 a.b, .int .i64 a.n, .int .i64 a.s], .bool ok]) ∧ ∃ F', RdIs w' q h N (M + 1) (nxAck N L x s y) F' ∧ Step F F' w w') :=
  dAckT_c q h N M L F x s y w hr hM a ha ok hok (hide fun h1 h2 h3 h4 => dAckF_c q h N M L F x s y w hr hM a ha ok hok h1 h2 h3 h4)
end Go.Proofs.YtmgjgeaigdiadaaDoor
