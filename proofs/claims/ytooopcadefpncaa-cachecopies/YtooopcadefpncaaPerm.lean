/- The contracts of package perm's calls (layer 3), and of the document's own answers for it (jetonref03): what each returns; no old memory turns. -/
import Derived.Test.YtooopcadefpncaaRows
import Derived.Test.YtooopcadefpncaaMath
import Derived.Test.YtooopcadefpncaaOver
namespace Go.Proofs.Ytooopcadefpncaa
open Go.ChangeShapes Go.WideShapes Go.ChangeAt Go.RowKit
set_option linter.unusedSimpArgs false
set_option linter.unusedVariables false

attribute [local go_sem, local simp] over_const setCell_drewN alloc_drewN Over.cell Over.frozen lt_s1 lt_s2 lt_s3 le_s0 le_s1 le_s2 le_s3 eq_s0 eq_s1 eq_s2 qe_s0

/-- May a store (wr), or a load, be done with n tokens, of t? -/
def canB (wr : Bool) (n : Int) (h : Bool) (t : Int) : Bool := decide (1 ≤ n) && h && (!wr || decide (n = t))

theorem can_load (n : Int) (h : Bool) (t u : Int) : canB false n h t = canB false n h u := by simp [canB]

theorem reads_c (n : Int) (o h : Bool) (d t : Int) (w : World) (q : Bool) (hq : Hid (canB false n h t = q)) :
    Calls Try.prog 74 #[.agg #[.int .i64 n, .bool o, .bool h, .int .i64 d]] w fun e w' => e = .returned (.bool q) ∧ Below w.heap.size w w' := by
  have hq' := unhide hq
  unfold canB at hq'
  by_cases c : 1 ≤ n <;> cases h <;> simp [c] at hq' <;> subst hq'
  all_goals
    go_enter Try.func74, Try.ntmps74
    go_wp2
    go_ret
    exact ⟨rfl, by go_grown⟩

theorem writes_c (n : Int) (o h : Bool) (d t : Int) (w : World) (q : Bool) (hq : Hid (canB true n h t = q)) :
    Calls Try.prog 73 #[.agg #[.int .i64 n, .bool o, .bool h, .int .i64 d], .int .i64 t] w fun e w' => e = .returned (.bool q) ∧ Below w.heap.size w w' := by
  have hq' := unhide hq
  obtain ⟨r, hr⟩ : ∃ r, Hid (canB false n h t = r) := ⟨_, rfl⟩
  have hr' := unhide hr
  unfold canB at hq' hr'
  by_cases c : 1 ≤ n <;> cases h <;> simp [c] at hq' hr' <;> subst hq' <;> subst hr'
  all_goals
    go_enter Try.func73, Try.ntmps73
    go_wp2_with (go_at_call 74; refine (reads_c _ _ _ _ t _ _ hr).mono ?_; rintro e w' ⟨rfl, hb⟩; obtain ⟨x, rfl⟩ := over hb; clear hb)
    go_ret
    refine ⟨rfl, ?_⟩
    repeat' first | with_reducible exact Below.refl _ _ | with_reducible refine Below.setCell ?_ ?_ _ | with_reducible refine Below.alloc ?_ ?_ _ | with_reducible refine Below.drew ?_ | with_reducible refine belowN ?_ _ | with_reducible refine Over.go _ ?_ ?_ | with_reducible exact Nat.le_refl _ | with_reducible refine Over.sz _ _ ?_ | with_reducible refine le_alloc ?_ | with_reducible refine le_setCell ?_ | with_reducible refine le_drewN ?_ | with_reducible refine le_drew ?_ | omega | (dsimp only; omega)

theorem refMay_c (wr : Bool) (n : Int) (o h : Bool) (d t : Int) (w : World) (q : Bool) (hq : Hid (canB wr n h t = q)) :
    Calls Try.prog 63 #[.bool wr, .agg #[.int .i64 n, .bool o, .bool h, .int .i64 d], .int .i64 t] w fun e w' => e = .returned (.bool q) ∧ Below w.heap.size w w' := by
  have hq' := unhide hq
  unfold canB at hq'
  by_cases c : 1 ≤ n <;> cases h <;> cases wr <;> simp [c] at hq' <;> subst hq'
  all_goals
    go_enter Try.func63, Try.ntmps63
    go_wp2
    go_ret
    exact ⟨rfl, by go_grown⟩

end Go.Proofs.Ytooopcadefpncaa
