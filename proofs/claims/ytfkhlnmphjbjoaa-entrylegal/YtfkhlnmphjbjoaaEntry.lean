/- The contracts of package entry's calls (layer 5), and of the document's own answers for it (jetonref05): what each returns; no old memory turns. -/
import Derived.Test.YtfkhlnmphjbjoaaRows
import Derived.Test.YtfkhlnmphjbjoaaMath
import Derived.Test.YtfkhlnmphjbjoaaOver
import Derived.Deep.Light
namespace Go.Proofs.Ytfkhlnmphjbjoaa
open Go.ChangeShapes Go.WideShapes Go.ChangeAt Go.RowKit
set_option linter.unusedSimpArgs false
set_option linter.unusedVariables false

attribute [local go_sem, local simp] over_const setCell_drewN alloc_drewN Over.cell Over.frozen lt_s1 lt_s2 lt_s3 le_s0 le_s1 le_s2 le_s3 eq_s0 eq_s1 eq_s2 qe_s0

/-- Is an entry legal, where there are n nodes and bl blocks? -/
def legalB (k a b c n bl : Int) : Bool := decide ((k = 1 ∧ (0 ≤ a ∧ a < n) ∧ (0 ≤ b ∧ b < bl) ∧ (c = 0 ∨ c = 1)) ∨ ((k = 2 ∨ k = 3) ∧ 0 ≤ a) ∨ k = 4)

def oneOfB (x n : Int) : Bool := decide (0 ≤ x ∧ x < n)

theorem oneOf_c (x n : Int) (w : World) (q : Bool) (hq : Hid (oneOfB x n = q)) :
    Calls Try.prog 15 #[.int .i64 x, .int .i64 n] w fun e w' => e = .returned (.bool q) ∧ w' = w := by
  have hq' := unhide hq
  by_cases c : 0 ≤ x <;> by_cases c2 : x < n <;> simp [oneOfB, c, c2] at hq' <;> subst hq'
  all_goals
    go_enter Try.func15, Try.ntmps15
    go_wp2
    go_ret
    exact ⟨rfl, rfl⟩

theorem legalB_op {ea eb ec n bl : Int} : legalB 1 ea eb ec n bl = (oneOfB ea n && oneOfB eb bl && (decide (ec = 0) || decide (ec = 1))) := by
  simp [legalB, oneOfB, Bool.and_assoc]

set_option maxHeartbeats 1000000 in
theorem legal_c (n bl tt cs cy cc cu ct cp : Int) (ek ea eb ec ed : Int) (w : World) (q : Bool) (hq : Hid (legalB ek ea eb ec n bl = q)) :
    Calls Try.prog 9 #[.agg #[.int .i64 n, .int .i64 bl, .int .i64 tt, .int .i64 cs, .int .i64 cy, .int .i64 cc, .int .i64 cu, .int .i64 ct, .int .i64 cp], .agg #[.int .i64 ek, .int .i64 ea, .int .i64 eb, .int .i64 ec, .int .i64 ed]] w fun e w' => e = .returned (.bool q) ∧ Below w.heap.size w w' := by
  have hq' := unhide hq
  clear hq
  by_cases k1 : ek = 1
  · subst k1
    obtain ⟨q1, h1⟩ : ∃ q, Hid (oneOfB ea n = q) := ⟨_, rfl⟩
    obtain ⟨q2, h2⟩ : ∃ q, Hid (oneOfB eb bl = q) := ⟨_, rfl⟩
    rw [legalB_op, unhide h1, unhide h2] at hq'
    subst hq'
    go_enter Try.func9, Try.ntmps9
    go_wp2_with (go_at_call 15; refine (oneOf_c _ _ _ _ (by first | exact h1 | exact h2)).mono ?_; rintro e w' ⟨rfl, rfl⟩)
    all_goals go_ret
    all_goals exact ⟨by by_cases d0 : ec = 0 <;> by_cases d1 : ec = 1 <;> simp_all, by go_grown⟩
  · unfold legalB at hq'
    by_cases k2 : ek = 2
    · subst k2
      by_cases c : 0 ≤ ea <;> simp [c] at hq' <;> subst hq'
      all_goals
        go_enter Try.func9, Try.ntmps9
        go_wp2
        go_ret
        exact ⟨rfl, by go_grown⟩
    · by_cases k3 : ek = 3
      · subst k3
        by_cases c : 0 ≤ ea <;> simp [c] at hq' <;> subst hq'
        all_goals
          go_enter Try.func9, Try.ntmps9
          go_wp2
          go_ret
          exact ⟨rfl, by go_grown⟩
      · by_cases k4 : ek = 4
        · subst k4
          simp at hq'
          subst hq'
          go_enter Try.func9, Try.ntmps9
          go_wp2
          go_ret
          exact ⟨rfl, by go_grown⟩
        · simp [k1, k2, k3, k4] at hq'
          subst hq'
          go_enter Try.func9, Try.ntmps9
          go_wp2
          go_ret
          exact ⟨rfl, by go_grown⟩

set_option maxHeartbeats 1000000 in
theorem refLegal_c (n bl tt cs cy cc cu ct cp : Int) (ek ea eb ec ed : Int) (w : World) (q : Bool) (hq : Hid (legalB ek ea eb ec n bl = q)) :
    Calls Try.prog 10 #[.agg #[.int .i64 n, .int .i64 bl, .int .i64 tt, .int .i64 cs, .int .i64 cy, .int .i64 cc, .int .i64 cu, .int .i64 ct, .int .i64 cp], .agg #[.int .i64 ek, .int .i64 ea, .int .i64 eb, .int .i64 ec, .int .i64 ed]] w fun e w' => e = .returned (.bool q) ∧ Below w.heap.size w w' := by
  go_enter Try.func10, Try.ntmps10
  go_wp2
  all_goals go_ret
  all_goals refine ⟨?_, by go_grown⟩
  all_goals rw [← unhide hq]
  all_goals clear hq
  all_goals go_light
  all_goals (by_cases d0 : ec = 0 <;> by_cases d1 : ec = 1 <;> by_cases d2 : ek = 2 <;> by_cases d3 : ek = 3 <;> by_cases d4 : ek = 4 <;> first | rfl | (simp_all [legalB]; done) | (simp_all [legalB]; omega))

/-- What an entry has a processor do: its value. -/
def opV (c d : Int) : Int := if c = 1 then d else 0

theorem op_c (ek ea eb ec ed : Int) (w : World) (ow : Bool) (ov : Int) (hw : Hid (decide (ec = 1) = ow)) (hv : Hid (opV ec ed = ov)) :
    Calls Try.prog 11 #[.agg #[.int .i64 ek, .int .i64 ea, .int .i64 eb, .int .i64 ec, .int .i64 ed]] w fun e w' => e = .returned (.agg #[.int .i64 eb, .bool ow, .int .i64 ov]) ∧ Below w.heap.size w w' := by
  have hw' := unhide hw
  have hv' := unhide hv
  clear hw hv
  unfold opV at hv'
  by_cases c : ec = 1
  · subst c
    simp at hw' hv'
    subst hw' hv'
    go_enter Try.func11, Try.ntmps11
    go_wp2
    go_returns
    exact ⟨rfl, by go_grown⟩
  · simp [c] at hw' hv'
    subst hw' hv'
    go_enter Try.func11, Try.ntmps11
    go_wp2
    go_returns
    exact ⟨rfl, by go_grown⟩

theorem refOp_c (ek ea eb ec ed : Int) (w : World) (ow : Bool) (ov : Int) (hw : Hid (decide (ec = 1) = ow)) (hv : Hid (opV ec ed = ov)) :
    Calls Try.prog 12 #[.agg #[.int .i64 ek, .int .i64 ea, .int .i64 eb, .int .i64 ec, .int .i64 ed]] w fun e w' => e = .returned (.agg #[.int .i64 eb, .bool ow, .int .i64 ov]) ∧ Below w.heap.size w w' := by
  have hw' := unhide hw
  have hv' := unhide hv
  clear hw hv
  unfold opV at hv'
  by_cases c : ec = 1
  · subst c
    simp at hw' hv'
    subst hw' hv'
    go_enter Try.func12, Try.ntmps12
    go_wp2
    go_returns
    exact ⟨rfl, by go_grown⟩
  · simp [c] at hw' hv'
    subst hw' hv'
    go_enter Try.func12, Try.ntmps12
    go_wp2
    go_returns
    exact ⟨rfl, by go_grown⟩

/-- The entry's C and D by which an operation is done. -/
def mkC (ow : Bool) : Int := if ow = true then 1 else 0
def mkD (ow : Bool) (ov : Int) : Int := if ow = true then ov else 0

theorem make_c (nd : Int) (ob : Int) (ow : Bool) (ov : Int) (w : World) (c d : Int) (hc : Hid (mkC ow = c)) (hd : Hid (mkD ow ov = d)) :
    Calls Try.prog 13 #[.int .i64 nd, .agg #[.int .i64 ob, .bool ow, .int .i64 ov]] w fun e w' => e = .returned (.agg #[.int .i64 1, .int .i64 nd, .int .i64 ob, .int .i64 c, .int .i64 d]) ∧ Below w.heap.size w w' := by
  have hc' := unhide hc
  have hd' := unhide hd
  clear hc hd
  cases ow <;> simp [mkC, mkD] at hc' hd' <;> subst hc' hd'
  all_goals
    go_enter Try.func13, Try.ntmps13
    go_wp2
    go_returns
    exact ⟨rfl, by go_grown⟩

theorem refMake_c (nd : Int) (ob : Int) (ow : Bool) (ov : Int) (w : World) (c d : Int) (hc : Hid (mkC ow = c)) (hd : Hid (mkD ow ov = d)) :
    Calls Try.prog 14 #[.int .i64 nd, .agg #[.int .i64 ob, .bool ow, .int .i64 ov]] w fun e w' => e = .returned (.agg #[.int .i64 1, .int .i64 nd, .int .i64 ob, .int .i64 c, .int .i64 d]) ∧ Below w.heap.size w w' := by
  have hc' := unhide hc
  have hd' := unhide hd
  clear hc hd
  cases ow <;> simp [mkC, mkD] at hc' hd' <;> subst hc' hd'
  all_goals
    go_enter Try.func14, Try.ntmps14
    go_wp2
    go_returns
    exact ⟨rfl, by go_grown⟩

end Go.Proofs.Ytfkhlnmphjbjoaa
