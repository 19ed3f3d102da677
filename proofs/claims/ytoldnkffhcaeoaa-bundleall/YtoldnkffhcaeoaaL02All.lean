/- The walk of BundleAll: it returns true; no old memory turns. -/
import Derived.Test.YtoldnkffhcaeoaaLaw02
import Derived.Test.YtoldnkffhcaeoaaRef02
import Derived.Test.YtoldnkffhcaeoaaBunMath2
namespace Go.Proofs.Ytoldnkffhcaeoaa
open Go.ChangeShapes Go.WideShapes Go.ChangeAt Go.RowKit
set_option linter.unusedSimpArgs false
set_option linter.unusedVariables false

attribute [local go_sem, local simp] over_const setCell_drewN alloc_drewN Over.cell Over.frozen lt_s1 lt_s2 lt_s3 le_s0 le_s1 le_s2 le_s3 eq_s0 eq_s1 eq_s2 qe_s0

theorem all_math (n : Int) (o h : Bool) (d c : Int) (ok : okB ⟨n, o, h, d⟩) (hc : n ≤ c) : givenB ⟨n, o, h, d⟩ c true true = ⟨n, o, h, d⟩ ∧ restB ⟨n, o, h, d⟩ c true = ⟨0, false, false, 0⟩ := by
  obtain ⟨k0, k1, k2, k3⟩ := ok
  simp only at k0 k1 k2 k3
  have e : howManyZ ⟨n, o, h, d⟩ c true = n := by unfold howManyZ clampZ; simp; omega
  unfold givenB restB
  rw [e]
  by_cases z : n = 0
  · have := k1 z
    obtain ⟨rfl, rfl⟩ := this
    have := k3 rfl
    subst this z
    simp
  · rw [if_neg z, if_neg z, if_pos rfl]
    cases o <;> cases h <;> simp_all [withV]

theorem none_math (n : Int) (o h : Bool) (d c : Int) (ok : okB ⟨n, o, h, d⟩) (hc : c ≤ 0) : givenB ⟨n, o, h, d⟩ c true true = ⟨0, false, false, 0⟩ ∧ restB ⟨n, o, h, d⟩ c true = ⟨n, o, h, d⟩ := by
  obtain ⟨k0, k1, k2, k3⟩ := ok
  simp only at k0 k1 k2 k3
  have e : howManyZ ⟨n, o, h, d⟩ c true = 0 := by unfold howManyZ clampZ; simp; omega
  unfold givenB restB
  rw [e]
  simp

set_option maxHeartbeats 1000000 in
theorem BundleAll_walk (n : Int) (o h : Bool) (d m : Int) (w : World) (hn2 : n ≤ 9223372036854775807) :
    Calls Try.prog 9 #[.agg #[.int .i64 n, .bool o, .bool h, .int .i64 d], .int .i64 m] w fun e w' => e = .returned (.bool true) ∧ Below w.heap.size w w' := by
  obtain ⟨M, hM⟩ : ∃ M : Int, (if n < 0 then 0 else n) = M := ⟨_, rfl⟩
  obtain ⟨q, hq⟩ : ∃ q : Bool, (checkZ ⟨n, o, h, d⟩ M == 0) = q := ⟨_, rfl⟩
  cases q
  · go_enter Try.func9, Try.ntmps9
    go_wp2_with (first | (go_at_call 11; refine (awake2_any _).mono ?_; rintro e w' ⟨rfl, hb⟩; obtain ⟨x, rfl⟩ := over hb; clear hb) | (go_at_call 14; refine (refRight_any _ _ _ _ _ _).mono ?_; rintro e w' ⟨rfl, hb⟩; obtain ⟨y, rfl⟩ := over2 hb; clear hb))
    go_ret
    refine ⟨rfl, ?_⟩
    repeat' first | exact Below.refl _ _ | refine Over.go _ ?_ ?_ | refine Below.alloc ?_ ?_ _ | refine Below.drew ?_ | refine belowN ?_ _ | refine Below.setCell ?_ ?_ _ | exact Nat.le_refl _ | refine Over.sz _ _ ?_ | refine le_alloc ?_ | refine le_setCell ?_ | refine le_drewN ?_ | refine le_drew ?_ | omega
  · have ok : okB ⟨n, o, h, d⟩ := okB_of _ M (by simpa using hq)
    have hn0 : 0 ≤ n := ok.1
    have hMn : M = n := by rw [← hM]; simp; omega
    subst hMn
    clear hM
    by_cases c1 : 1099511627776 < M
    all_goals
      by_cases m1 : m < 0
      all_goals
        by_cases m2 : m < 1048576
        all_goals first | (exfalso; omega) | skip
        all_goals
          go_enter Try.func9, Try.ntmps9
          go_wp2_with (first | (go_at_call 11; refine (awake2_any _).mono ?_; rintro e w' ⟨rfl, hb⟩; obtain ⟨x, rfl⟩ := over hb; clear hb) | (go_at_call 14; refine (refRight_any _ _ _ _ _ _).mono ?_; rintro e w' ⟨rfl, hb⟩; obtain ⟨y, rfl⟩ := over2 hb; clear hb) | (go_at_call 15; refine (split_c _ _ _ _ _ _ _ _ hn2 ok _ _ (hide (all_math _ _ _ _ _ ok (by omega)).1) (hide (all_math _ _ _ _ _ ok (by omega)).2)).mono ?_; rintro e w' ⟨rfl, hb⟩; obtain ⟨z, rfl⟩ := over2 hb; clear hb; have f0 := z.up (b := w.heap.size) (by first | omega | (simp only [World.size_alloc]; omega))) | (go_at_call 15; refine (split_c _ _ _ _ _ _ _ _ hn2 ok _ _ (hide (none_math _ _ _ _ _ ok (by omega)).1) (hide (none_math _ _ _ _ _ ok (by omega)).2)).mono ?_; rintro e w' ⟨rfl, hb⟩; obtain ⟨u, rfl⟩ := over hb; clear hb; have g0 := u.up (b := w.heap.size) (by first | omega | (simp only [World.size_alloc]; omega)); have g2 := u.up (b := z.w.heap.size) (by first | omega | (simp only [World.size_alloc]; omega)); have g3 := u.up (b := z.w.heap.size + 1) (by first | omega | (simp only [World.size_alloc]; omega))))
          all_goals go_ret
          all_goals refine ⟨?_, ?_⟩
          all_goals first | rfl | (repeat' first | exact Below.refl _ _ | refine Over.go _ ?_ ?_ | refine Below.alloc ?_ ?_ _ | refine Below.drew ?_ | refine belowN ?_ _ | refine Below.setCell ?_ ?_ _ | exact Nat.le_refl _ | refine Over.sz _ _ ?_ | refine le_alloc ?_ | refine le_setCell ?_ | refine le_drewN ?_ | refine le_drew ?_ | omega)
end Go.Proofs.Ytoldnkffhcaeoaa
