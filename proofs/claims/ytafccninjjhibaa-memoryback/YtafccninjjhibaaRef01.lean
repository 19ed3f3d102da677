/- The contracts of the document's own answers for layer 1 (jetonref01): each returns what the plain mathematics says, the world as it was. Double: within int64. -/
import Derived.Test.YtafccninjjhibaaNum
namespace Go.Proofs.Ytafccninjjhibaa
open Go.ChangeShapes Go.WideShapes Go.ChangeAt Go.RowKit

theorem refClamp_any (n lo hi : Int) (w : World) :
    Calls Try.prog 23 #[.int .i64 n, .int .i64 lo, .int .i64 hi] w fun e w' => e = .returned (.int .i64 (clampZ n lo hi)) ∧ w' = w := by
  by_cases h1 : hi < lo
  · go_enter Try.func23, Try.ntmps23
    go_wp2
    go_ret
    exact ⟨by simp [clampZ, h1], rfl⟩
  · by_cases h2 : n < lo
    · go_enter Try.func23, Try.ntmps23
      go_wp2
      go_ret
      exact ⟨by simp [clampZ, h2], rfl⟩
    · by_cases h3 : hi < n
      all_goals
        go_enter Try.func23, Try.ntmps23
        go_wp2
        go_ret
        exact ⟨by simp [clampZ]; omega, rfl⟩

end Go.Proofs.Ytafccninjjhibaa
