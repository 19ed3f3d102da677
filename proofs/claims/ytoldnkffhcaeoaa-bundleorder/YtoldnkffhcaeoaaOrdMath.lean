/- Tokens of one value, put together in any order. -/
import Derived.Test.YtoldnkffhcaeoaaLaw02
import Derived.Test.YtoldnkffhcaeoaaRef02
import Derived.Test.YtoldnkffhcaeoaaBunMath2
namespace Go.Proofs.Ytoldnkffhcaeoaa
open Go.ChangeShapes Go.WideShapes Go.ChangeAt Go.RowKit
set_option linter.unusedSimpArgs false
set_option linter.unusedVariables false

attribute [local go_sem, local simp] over_const setCell_drewN alloc_drewN Over.cell Over.frozen lt_s1 lt_s2 lt_s3 lt_s4 le_s0 le_s1 le_s2 le_s3 eq_s0 eq_s1 eq_s2 qe_s0

theorem Over.top {V : World} {o : Obj} (y : Over (V.alloc o)) : V.heap.size < y.w.heap.size := y.up _ (by simp)

theorem joinB_n (x y : Bun) : (joinB x y).n = x.n + y.n := by
  unfold joinB withV
  (repeat' split) <;> rfl

theorem order_math (n0 : Int) (o0 h0 : Bool) (d0 : Int) (n1 : Int) (o1 h1 : Bool) (d1 : Int) (n2 : Int) (o2 h2 : Bool) (d2 : Int)
    (k0 : h0 = false → d0 = 0) (k1 : h1 = false → d1 = 0) (k2 : h2 = false → d2 = 0) (e1 : h1 = true → d1 = d0) (e2 : h2 = true → d2 = d0) :
    ∃ p1 p2 p3 s1 s2 s3 t1 t2 t3, joinB ⟨n0, o0, h0, d0⟩ ⟨n1, o1, h1, d1⟩ = ⟨n0 + n1, p1, p2, p3⟩ ∧ joinB ⟨n1, o1, h1, d1⟩ ⟨n0, o0, h0, d0⟩ = ⟨n0 + n1, p1, p2, p3⟩ ∧ joinB ⟨n1, o1, h1, d1⟩ ⟨n2, o2, h2, d2⟩ = ⟨n1 + n2, s1, s2, s3⟩
      ∧ joinB ⟨n0 + n1, p1, p2, p3⟩ ⟨n2, o2, h2, d2⟩ = ⟨n0 + n1 + n2, t1, t2, t3⟩ ∧ joinB ⟨n0, o0, h0, d0⟩ ⟨n1 + n2, s1, s2, s3⟩ = ⟨n0 + n1 + n2, t1, t2, t3⟩ ∧ joinB ⟨n0, o0, h0, d0⟩ ⟨0, false, false, 0⟩ = ⟨n0, o0, h0, d0⟩ := by
  refine ⟨o0 || o1, h0 || h1, if h0 || h1 then d0 else 0, o1 || o2, h1 || h2, if h1 || h2 then d0 else 0, o0 || o1 || o2, h0 || h1 || h2, if h0 || h1 || h2 then d0 else 0, ?_⟩
  cases h0 <;> cases h1 <;> cases h2
  all_goals
    (try have a0 := k0 rfl); (try have a1 := k1 rfl); (try have a2 := k2 rfl); (try have b1 := e1 rfl); (try have b2 := e2 rfl)
    clear k0 k1 k2 e1 e2
    (try subst a0); (try subst a1); (try subst a2); (try subst b1); (try subst b2)
    simp [joinB, withV, Int.add_comm, Int.add_left_comm, Bool.or_comm, Bool.or_left_comm]

end Go.Proofs.Ytoldnkffhcaeoaa
