/- The contracts of package letter's way and Check (layer 4): what each returns; no old memory turns. -/
import Derived.Test.YtipklaehhiffdaaDoorLetter
namespace Go.Proofs.YtipklaehhiffdaaDoor
open Go.ChangeShapes Go.WideShapes Go.ChangeAt Go.RowKit
set_option linter.unusedSimpArgs false
set_option linter.unusedVariables false

attribute [local go_sem, local simp] over_const setCell_drewN alloc_drewN Over.cell Over.frozen lt_s1 lt_s2 lt_s3 le_s0 le_s1 le_s2 le_s3 eq_s0 eq_s1 eq_s2 qe_s0

theorem way_c (r : LRow) (lk la lb lq ls lw : Int) (lr : Bool) (xn : Int) (xo xh : Bool) (xd : Int) (n : Int) (w : World) (e1 e2 : Int) (he1 : Hid (endZ r.fn r.fh = e1)) (he2 : Hid (endZ r.tn r.th = e2)) (q : Bool) (hq : Hid (wayB r la lb n = q)) :
    Calls Tryd.prog 21 #[.agg #[.int .i64 e1, .int .i64 e2, .bool r.s, .bool r.h, .bool r.wr, .bool r.tk], .agg #[.int .i64 lk, .int .i64 la, .int .i64 lb, .int .i64 lq, .int .i64 ls, .int .i64 lw, .bool lr, .int .i64 xn, .bool xo, .bool xh, .int .i64 xd], .int .i64 n] w fun e w' => e = .returned (.bool q) ∧ Below w.heap.size w w' := by
  have hq' := unhide hq
  obtain ⟨q1, h1⟩ : ∃ q, Hid (oneB r.fn r.fh la n = q) := ⟨_, rfl⟩
  obtain ⟨q2, h2⟩ : ∃ q, Hid (oneB r.tn r.th lb n = q) := ⟨_, rfl⟩
  unfold wayB at hq'
  rw [unhide h1, unhide h2] at hq'
  clear hq
  cases q1 <;> cases q2 <;> by_cases c : la = lb <;> simp [c] at hq' <;> subst hq' <;> (try subst c)
  all_goals
    go_enter Tryd.func21, Tryd.ntmps21
    go_wp2_with (go_at_call 27; (first | (with_reducible refine (isOneOf_c _ _ _ _ _ _ he1 _ h1).mono ?_) | (with_reducible refine (isOneOf_c _ _ _ _ _ _ he2 _ h2).mono ?_)); rintro e w' ⟨rfl, rfl⟩)

    go_ret
    exact ⟨by first | rfl | simp [c], by go_grown⟩

/-- The table's cells, as the program's text lays them. -/
def tabL : List Value := [.int .i64 0, .int .i64 0, .bool false, .bool false, .bool false, .bool false,
  .int .i64 3, .int .i64 3, .bool false, .bool false, .bool false, .bool true,
  .int .i64 1, .int .i64 3, .bool false, .bool false, .bool true, .bool false,
  .int .i64 1, .int .i64 2, .bool false, .bool false, .bool false, .bool false,
  .int .i64 2, .int .i64 1, .bool true, .bool true, .bool false, .bool false,
  .int .i64 1, .int .i64 2, .bool true, .bool false, .bool false, .bool false,
  .int .i64 2, .int .i64 1, .bool true, .bool false, .bool false, .bool false,
  .int .i64 1, .int .i64 2, .bool true, .bool false, .bool false, .bool false]

/-- The table lies in block 0. -/
def Tab (w : World) : Prop := 0 < w.heap.size ∧ ∀ (i : Nat) v, tabL[i]? = some v → w.cell? ⟨0, i, none⟩ = some v

theorem Tab.below {w w' : World} {B : Nat} (h : Tab w) (hb : Below B w w') (hB : 0 < B) (hs : w.heap.size ≤ w'.heap.size) : Tab w' :=
  ⟨Nat.lt_of_lt_of_le h.1 hs, fun i v hi => (hb.cell (p := ⟨0, i, none⟩) hB).trans (h.2 i v hi)⟩

theorem Tab.over {w : World} (h : Tab w) (x : Over w) : Tab x.w := h.below x.below h.1 x.below.size

theorem Tab.alloc {w : World} (h : Tab w) (o : Obj) : Tab (w.alloc o) :=
  h.below ((Below.refl w.heap.size w).alloc (Nat.le_refl _) o) h.1 (by simp)

theorem none_eq {a d : Int} {b c : Bool} (h : noneB ⟨a, b, c, d⟩ = true) : a = 0 ∧ b = false ∧ c = false ∧ d = 0 := by
  simpa [noneB, and_assoc] using h
theorem none_ne {a d : Int} {b c : Bool} (h : noneB ⟨a, b, c, d⟩ = false) : ¬ (a = 0 ∧ b = false ∧ c = false ∧ d = 0) := by
  intro ⟨h1, h2, h3, h4⟩; subst h1; subst h2; subst h3; subst h4; simp [noneB] at h

end Go.Proofs.YtipklaehhiffdaaDoor
