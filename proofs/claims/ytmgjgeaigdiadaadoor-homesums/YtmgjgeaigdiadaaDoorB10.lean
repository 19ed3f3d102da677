/- layer 16: Adv, put together. -/
import Derived.Test.YtmgjgeaigdiadaaDoorB03
import Derived.Test.YtmgjgeaigdiadaaDoorB04
import Derived.OwnWalk
namespace Go.Proofs.YtmgjgeaigdiadaaDoor
open Go.ChangeShapes Go.WideShapes Go.ChangeAt Go.RowKit
set_option linter.unusedSimpArgs false
set_option linter.unusedVariables false
set_option maxRecDepth 10000
attribute [local go_sem, local simp] over_const setCell_drewN alloc_drewN Over.cell Over.frozen lt_s1 lt_s2 lt_s3 le_s0 le_s1 le_s2 le_s3 eq_s0 eq_s1 eq_s2 qe_s0
structure Rep where
  n : Int
  o : Bool
  v : Bool
def repZ (p n : Int) (o wr : Bool) (d0 d1 : Int) : Rep :=
  if p = 1 then (if wr = true then ⟨n, true, o⟩ else if o = false then ⟨0, false, false⟩ else if 2 ≤ n then ⟨1, false, true⟩ else ⟨1, true, true⟩)
  else if p = 2 then ⟨d0, bitB d1 0, bitB d1 1⟩ else ⟨0, false, false⟩
def askB (p d0 d1 n : Int) : Bool := decide (p = 1) || (decide (p = 2) && (if n < 64 then bitB d0 n else bitB d1 (n - 64)))
def tokZ (n : Int) (o wr : Bool) : Rep := if wr = true then ⟨n, true, o⟩ else if o = false then ⟨0, false, false⟩ else if 2 ≤ n then ⟨1, false, true⟩ else ⟨1, true, true⟩
abbrev repV (r : Rep) : Value := .tuple #[.int .i64 r.n, .bool r.o, .bool r.v]
set_option maxHeartbeats 1000000 in
theorem tokenB_c (n : Int) (o h : Bool) (d : Int) (wr : Bool) (w : World) (r : Rep) (hr : Hid (tokZ n o wr = r)) :
    Calls Tryd.prog 91 #[.agg #[.int .i64 n, .bool o, .bool h, .int .i64 d], .bool wr] w fun e w' => e = .returned (repV r) ∧ Below w.heap.size w w' := by
  have hr' := hr.out
  clear hr
  cases wr
  case true =>
    simp [tokZ] at hr'
    subst hr'
    go_enter Tryd.func91, Tryd.ntmps91
    go_wp2_with fail
    go_quiet (fail)
    go_wp2_with fail
    go_ret3
    exact ⟨rfl, by all_goals exact belEnd⟩
  case false =>
    cases o
    case false =>
      simp [tokZ] at hr'
      subst hr'
      go_enter Tryd.func91, Tryd.ntmps91
      go_wp2_with fail
      go_ret3
      exact ⟨rfl, by all_goals exact belEnd⟩
    case true =>
      by_cases c : 2 ≤ n
      all_goals
        simp [tokZ, c] at hr'
        subst hr'
        go_enter Tryd.func91, Tryd.ntmps91
        go_wp2_with fail
        go_ret3
        exact ⟨rfl, by all_goals exact belEnd⟩
set_option maxHeartbeats 1000000 in
theorem reply_c (p n : Int) (o h : Bool) (d : Int) (wr : Bool) (d0 d1 d2 : Int) (w : World) (r : Rep) (hr : Hid (repZ p n o wr d0 d1 = r)) :
    Calls Tryd.prog 76 #[.int .i64 p, .agg #[.int .i64 n, .bool o, .bool h, .int .i64 d], .bool wr, .agg #[.int .i64 d0, .int .i64 d1, .int .i64 d2]] w fun e w' => e = .returned (repV r) ∧ Below w.heap.size w w' := by
  have hr' := hr.out
  clear hr
  by_cases c1 : p = 1
  · have hr2 : Hid (tokZ n o wr = r) := hide (by rw [← hr']; simp [repZ, tokZ, c1])
    subst c1
    clear hr'
    go_enter Tryd.func76, Tryd.ntmps76
    go_wp2_with (go_at_call 91; refine (tokenB_c n o h d wr _ r hr2).mono ?_; rintro e w' ⟨rfl, hb⟩; obtain ⟨x, rfl⟩ := over hb; clear hb)
    go_ret3
    exact ⟨rfl, by all_goals exact belEnd⟩
  by_cases c2 : p = 2
  · subst c2
    obtain ⟨b0, hb0⟩ : ∃ b, Hid (bitB d1 0 = b) := ⟨_, rfl⟩
    obtain ⟨b1, hb1⟩ : ∃ b, Hid (bitB d1 1 = b) := ⟨_, rfl⟩
    simp [repZ, hb0.out, hb1.out] at hr'
    subst hr'
    clear c1
    have q0 := fun w => by have := numBit_any d1 0 w; rw [hb0.out] at this; exact this
    have q1 := fun w => by have := numBit_any d1 1 w; rw [hb1.out] at this; exact this
    go_enter Tryd.func76, Tryd.ntmps76
    go_wp2_with fail
    go_quiet ((go_at_call 92; first | (with_reducible exact Calls.quiet_of_same (q0 _)) | (with_reducible exact Calls.quiet_of_same (q1 _))))
    go_wp2_with fail
    go_ret3
    exact ⟨rfl, by all_goals exact belEnd⟩
  · simp [repZ, c1, c2] at hr'
    subst hr'
    go_enter Tryd.func76, Tryd.ntmps76
    go_wp2_with fail
    go_ret3
    exact ⟨rfl, by all_goals exact belEnd⟩
set_option maxHeartbeats 1000000 in
theorem refReply_c (p n : Int) (o h : Bool) (d : Int) (wr : Bool) (d0 d1 d2 : Int) (w : World) (r : Rep) (hr : Hid (repZ p n o wr d0 d1 = r)) :
    Calls Tryd.prog 32 #[.int .i64 p, .agg #[.int .i64 n, .bool o, .bool h, .int .i64 d], .bool wr, .agg #[.int .i64 d0, .int .i64 d1, .int .i64 d2]] w fun e w' => e = .returned (repV r) ∧ Below w.heap.size w w' := by
  have hr' := hr.out
  clear hr
  by_cases c2 : p = 2
  · subst c2
    obtain ⟨b0, hb0⟩ : ∃ b, Hid (bitB d1 0 = b) := ⟨_, rfl⟩
    obtain ⟨b1, hb1⟩ : ∃ b, Hid (bitB d1 1 = b) := ⟨_, rfl⟩
    simp [repZ, hb0.out, hb1.out] at hr'
    subst hr'
    have q0 := fun w => by have := refBit_any d1 0 w; rw [hb0.out] at this; exact this
    have q1 := fun w => by have := refBit_any d1 1 w; rw [hb1.out] at this; exact this
    go_enter Tryd.func32, Tryd.ntmps32
    go_wp2_with fail
    go_quiet ((go_at_call 64; first | (with_reducible exact Calls.quiet_of_same (q0 _)) | (with_reducible exact Calls.quiet_of_same (q1 _))))
    go_wp2_with fail
    go_ret3
    exact ⟨rfl, by all_goals exact belEnd⟩
  by_cases c1 : p = 1
  · subst c1
    cases wr
    case true =>
      simp [repZ] at hr'
      subst hr'
      go_enter Tryd.func32, Tryd.ntmps32
      go_wp2_with fail
      go_quiet (fail)
      go_wp2_with fail
      go_ret3
      exact ⟨rfl, by all_goals exact belEnd⟩
    case false =>
      cases o
      case false =>
        simp [repZ] at hr'
        subst hr'
        go_enter Tryd.func32, Tryd.ntmps32
        go_wp2_with fail
        go_ret3
        exact ⟨rfl, by all_goals exact belEnd⟩
      case true =>
        by_cases c : 2 ≤ n
        · simp [repZ, c] at hr'
          subst hr'
          have cd : decide (n ≤ 1) = false := by simp; omega
          go_enter Tryd.func32, Tryd.ntmps32
          go_wp2_with fail
          go_quiet (fail)
          go_wp2_with fail
          go_ret3
          exact ⟨rfl, by all_goals exact belEnd⟩
        · simp [repZ, c] at hr'
          subst hr'
          have cd : decide (n ≤ 1) = true := by simp; omega
          go_enter Tryd.func32, Tryd.ntmps32
          go_wp2_with fail
          go_quiet (fail)
          go_wp2_with fail
          go_ret3
          exact ⟨rfl, by all_goals exact belEnd⟩
  · simp [repZ, c1, c2] at hr'
    subst hr'
    go_enter Tryd.func32, Tryd.ntmps32
    go_wp2_with fail
    go_ret3
    exact ⟨rfl, by all_goals exact belEnd⟩
end Go.Proofs.YtmgjgeaigdiadaaDoor
