/- The contract of the document's own Join (jetonref02), for tokens that may be. -/
import Derived.Test.YtafccninjjhibaaRef02
import Derived.Deep.RegionHeld3
namespace Go.Proofs.Ytafccninjjhibaa
open Go.ChangeShapes Go.WideShapes Go.ChangeAt Go.RowKit
set_option linter.unusedSimpArgs false
set_option linter.unusedVariables false

attribute [local go_sem, local simp] setCell_drewN alloc_drewN

theorem refJoin_any (n : Int) (o h : Bool) (d : Int) (n' : Int) (o' h' : Bool) (d' : Int) (w : World) (h1 : -9223372036854775808 ≤ n + n') (h2 : n + n' ≤ 9223372036854775807)
    (k1 : h = false → d = 0) (r : Bun) (hr : Hid (joinB ⟨n, o, h, d⟩ ⟨n', o', h', d'⟩ = r)) :
    Calls Try.prog 25 #[.agg #[.int .i64 n, .bool o, .bool h, .int .i64 d], .agg #[.int .i64 n', .bool o', .bool h', .int .i64 d']] w fun e w' =>
      e = .returned (.agg #[.int .i64 r.n, .bool r.o, .bool r.h, .int .i64 r.d]) ∧ Below w.heap.size w w' := by
  have K := hide k1
  clear k1
  cases o' <;> cases h'
  all_goals
    go_enter Try.func25, Try.ntmps25
    go_wp2
    go_returns
    refine ⟨?_, by go_grown⟩
    rw [← unhide hr]
    unfold joinB withV
    have := unhide K
    cases h <;> cases o <;> simp_all
end Go.Proofs.Ytafccninjjhibaa
