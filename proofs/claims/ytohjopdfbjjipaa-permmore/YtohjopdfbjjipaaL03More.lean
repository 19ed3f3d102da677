/- The walk of PermMore: it returns true; no old memory turns. -/
import Derived.Test.YtohjopdfbjjipaaLaw03
import Derived.Test.YtohjopdfbjjipaaRef02
import Derived.Test.YtohjopdfbjjipaaBunC
import Derived.Test.YtohjopdfbjjipaaBunMath2
namespace Go.Proofs.Ytohjopdfbjjipaa
open Go.ChangeShapes Go.WideShapes Go.ChangeAt Go.RowKit
set_option linter.unusedSimpArgs false
set_option linter.unusedVariables false

attribute [local go_sem, local simp] over_const setCell_drewN alloc_drewN Over.cell Over.frozen lt_s1 lt_s2 lt_s3 le_s0 le_s1 le_s2 le_s3 eq_s0 eq_s1 eq_s2 qe_s0

theorem joinB_parts (n : Int) (o h : Bool) (d : Int) (n' : Int) (o' h' : Bool) (d' : Int) (r : Bun) (hr : joinB ⟨n, o, h, d⟩ ⟨n', o', h', d'⟩ = r) : r.n = n + n' ∧ r.h = (h || h') := by
  subst hr
  cases h <;> cases h' <;> simp [joinB, withV]

set_option maxHeartbeats 2000000 in
theorem PermMore_walk (n : Int) (o h : Bool) (d : Int) (n' : Int) (o' h' : Bool) (d' t : Int) (w : World) :
    Calls Try.prog 8 #[.agg #[.int .i64 n, .bool o, .bool h, .int .i64 d], .agg #[.int .i64 n', .bool o', .bool h', .int .i64 d'], .int .i64 t] w fun e w' => e = .returned (.bool true) ∧ Below w.heap.size w w' := by
  obtain ⟨M, hM⟩ : ∃ M : Int, (if n < 0 then 0 else n) = M := ⟨_, rfl⟩
  obtain ⟨M', hM'⟩ : ∃ M : Int, (if n' < 0 then 0 else n') = M := ⟨_, rfl⟩
  obtain ⟨q, hq⟩ : ∃ q : Bool, (checkZ ⟨n, o, h, d⟩ M == 0) = q := ⟨_, rfl⟩
  obtain ⟨q', hq'⟩ : ∃ q : Bool, (checkZ ⟨n', o', h', d'⟩ M' == 0) = q := ⟨_, rfl⟩
  by_cases c1 : 1099511627776 < n
  · go_enter Try.func8, Try.ntmps8
    go_wp2_with (first | (go_at_call 9; refine (awake3_any _).mono ?_; rintro e w' ⟨rfl, hb⟩; obtain ⟨x, rfl⟩ := over hb; clear hb) | (go_at_call 9; refine (awake3_any _).mono ?_; rintro e w' ⟨rfl, hb⟩; obtain ⟨x, rfl⟩ := over2 hb; clear hb) | (go_at_call 15; refine (refRight_any _ _ _ _ _ _).mono ?_; rintro e w' ⟨rfl, hb⟩; obtain ⟨y, rfl⟩ := over2 hb; clear hb))
    go_ret
    refine ⟨rfl, ?_⟩
    repeat' first | with_reducible exact Below.refl _ _ | with_reducible refine Below.setCell ?_ ?_ _ | with_reducible refine Below.alloc ?_ ?_ _ | with_reducible refine Below.drew ?_ | with_reducible refine belowN ?_ _ | with_reducible refine Over.go _ ?_ ?_ | with_reducible exact Nat.le_refl _ | with_reducible refine Over.sz _ _ ?_ | with_reducible refine le_alloc ?_ | with_reducible refine le_setCell ?_ | with_reducible refine le_drewN ?_ | with_reducible refine le_drew ?_ | omega | (dsimp only; omega)
  by_cases c2 : 1099511627776 < n'
  · go_enter Try.func8, Try.ntmps8
    go_wp2_with (first | (go_at_call 9; refine (awake3_any _).mono ?_; rintro e w' ⟨rfl, hb⟩; obtain ⟨x, rfl⟩ := over hb; clear hb) | (go_at_call 9; refine (awake3_any _).mono ?_; rintro e w' ⟨rfl, hb⟩; obtain ⟨x, rfl⟩ := over2 hb; clear hb) | (go_at_call 15; refine (refRight_any _ _ _ _ _ _).mono ?_; rintro e w' ⟨rfl, hb⟩; obtain ⟨y, rfl⟩ := over2 hb; clear hb))
    go_ret
    refine ⟨rfl, ?_⟩
    repeat' first | with_reducible exact Below.refl _ _ | with_reducible refine Below.setCell ?_ ?_ _ | with_reducible refine Below.alloc ?_ ?_ _ | with_reducible refine Below.drew ?_ | with_reducible refine belowN ?_ _ | with_reducible refine Over.go _ ?_ ?_ | with_reducible exact Nat.le_refl _ | with_reducible refine Over.sz _ _ ?_ | with_reducible refine le_alloc ?_ | with_reducible refine le_setCell ?_ | with_reducible refine le_drewN ?_ | with_reducible refine le_drew ?_ | omega | (dsimp only; omega)
  cases q
  · go_enter Try.func8, Try.ntmps8
    go_wp2_with (first | (go_at_call 9; refine (awake3_any _).mono ?_; rintro e w' ⟨rfl, hb⟩; obtain ⟨x, rfl⟩ := over hb; clear hb) | (go_at_call 9; refine (awake3_any _).mono ?_; rintro e w' ⟨rfl, hb⟩; obtain ⟨x, rfl⟩ := over2 hb; clear hb) | (go_at_call 15; refine (refRight_any _ _ _ _ _ _).mono ?_; rintro e w' ⟨rfl, hb⟩; obtain ⟨y, rfl⟩ := over2 hb; clear hb))
    go_ret
    refine ⟨rfl, ?_⟩
    repeat' first | with_reducible exact Below.refl _ _ | with_reducible refine Below.setCell ?_ ?_ _ | with_reducible refine Below.alloc ?_ ?_ _ | with_reducible refine Below.drew ?_ | with_reducible refine belowN ?_ _ | with_reducible refine Over.go _ ?_ ?_ | with_reducible exact Nat.le_refl _ | with_reducible refine Over.sz _ _ ?_ | with_reducible refine le_alloc ?_ | with_reducible refine le_setCell ?_ | with_reducible refine le_drewN ?_ | with_reducible refine le_drew ?_ | omega | (dsimp only; omega)
  cases q'
  · go_enter Try.func8, Try.ntmps8
    go_wp2_with (first | (go_at_call 9; refine (awake3_any _).mono ?_; rintro e w' ⟨rfl, hb⟩; obtain ⟨x, rfl⟩ := over hb; clear hb) | (go_at_call 9; refine (awake3_any _).mono ?_; rintro e w' ⟨rfl, hb⟩; obtain ⟨x, rfl⟩ := over2 hb; clear hb) | (go_at_call 15; refine (refRight_any _ _ _ _ _ _).mono ?_; rintro e w' ⟨rfl, hb⟩; obtain ⟨y, rfl⟩ := over2 hb; clear hb))
    go_ret
    refine ⟨rfl, ?_⟩
    repeat' first | with_reducible exact Below.refl _ _ | with_reducible refine Below.setCell ?_ ?_ _ | with_reducible refine Below.alloc ?_ ?_ _ | with_reducible refine Below.drew ?_ | with_reducible refine belowN ?_ _ | with_reducible refine Over.go _ ?_ ?_ | with_reducible exact Nat.le_refl _ | with_reducible refine Over.sz _ _ ?_ | with_reducible refine le_alloc ?_ | with_reducible refine le_setCell ?_ | with_reducible refine le_drewN ?_ | with_reducible refine le_drew ?_ | omega | (dsimp only; omega)
  · have ok : okB ⟨n, o, h, d⟩ := okB_of _ M (by simpa using hq)
    have ok' : okB ⟨n', o', h', d'⟩ := okB_of _ M' (by simpa using hq')
    have b1 : 0 ≤ n := ok.1
    have b2 : 0 ≤ n' := ok'.1
    have z1 : n = 0 → h = false := fun e => (ok.2.1 e).2
    have z2 : n' = 0 → h' = false := fun e => (ok'.2.1 e).2
    have hrd : canB false n h t = true → canB false (n + n') (h || h') t = true := by
      unfold canB
      simp
      intro a1 a2
      exact ⟨by omega, Or.inl a2⟩
    obtain ⟨⟨rn, ro, rh, rd⟩, hr⟩ : ∃ r, Hid (joinB ⟨n, o, h, d⟩ ⟨n', o', h', d'⟩ = r) := ⟨_, rfl⟩
    obtain ⟨jn, jh⟩ := joinB_parts _ _ _ _ _ _ _ _ _ (unhide hr)
    simp only at jn jh
    subst jn
    rw [← jh] at hrd
    obtain ⟨q1, hq1⟩ : ∃ q, canB false n h t = q := ⟨_, rfl⟩
    obtain ⟨q2, hq2⟩ : ∃ q, canB false (n + n') rh t = q := ⟨_, rfl⟩
    rw [hq1, hq2] at hrd
    have HH : q1 = false ∨ q1 = true ∧ q2 = true := by cases q1 <;> simp_all
    have Hq1 := hide hq1
    have Hq2 := hide hq2
    clear hq1 hq2 hrd
    have J : (rh = false ∧ h = false ∧ h' = false) ∨ rh = true ∧ (h = true ∨ h = false ∧ h' = true) := by cases h <;> cases h' <;> simp_all
    have N : rh = true → 0 < n + n' := by
      intro e
      rw [jh] at e
      have : ¬ (n = 0 ∧ n' = 0) := by rintro ⟨e1, e2⟩; rw [z1 e1, z2 e2] at e; simp at e
      omega
    clear z1 z2 jh
    rcases J with ⟨rfl, rfl, rfl⟩ | ⟨rfl, J⟩
    · have hw : Hid (canB true (n + n') false t = false) := by unfold Hid canB; simp
      rcases HH with rfl | ⟨rfl, rfl⟩
      all_goals
        go_enter Try.func8, Try.ntmps8
        go_wp2_with (first | (go_at_call 9; refine (awake3_any _).mono ?_; rintro e w' ⟨rfl, hb⟩; obtain ⟨x, rfl⟩ := over hb; clear hb) | (go_at_call 15; refine (refRight_any _ _ _ _ _ _).mono ?_; rintro e w' ⟨rfl, hb⟩; obtain ⟨y, rfl⟩ := over2 hb; clear hb) | (go_at_call 17; refine (join_c _ _ _ _ _ _ _ _ _ (by omega) (by omega) _ hr).mono ?_; rintro e w' ⟨rfl, hb⟩; obtain ⟨z, rfl⟩ := over2 hb; clear hb; have f0 := z.up (b := w.heap.size) (by first | omega | (simp only [World.size_alloc]; omega)); have f1 := z.up (b := w.heap.size + 1) (by first | omega | (simp only [World.size_alloc]; omega))))
        refine wp_region_over (by kernel_rfl) (by kernel_rfl) ?_
        repeat (go_big_quiet_step (first | (go_at_call 12; exact Over.quiet (writes_c _ _ _ _ _ _ _ hw)) | (go_at_call 10; exact Over.quiet (reads_c _ _ _ _ _ _ _ Hq1)) | (go_at_call 10; exact Over.quiet (reads_c _ _ _ _ _ _ _ Hq2))))
        refine wpQuiet_nil ?_
        intro _ hw'
        obtain ⟨u, rfl⟩ := hw'
        go_wp2
        go_ret
        refine ⟨by simp, ?_⟩
        have s1 := x.below.size
        have s2 := y.below.size
        have s3 := z.below.size
        simp only [World.size_alloc] at s1 s2 s3
        repeat' first | with_reducible exact Below.refl _ _ | with_reducible refine Below.setCell ?_ ?_ _ | with_reducible refine Below.alloc ?_ ?_ _ | with_reducible refine Below.drew ?_ | with_reducible refine belowN ?_ _ | with_reducible refine Over.go _ ?_ ?_ | with_reducible exact Nat.le_refl _ | with_reducible refine Over.sz _ _ ?_ | with_reducible refine le_alloc ?_ | with_reducible refine le_setCell ?_ | with_reducible refine le_drewN ?_ | with_reducible refine le_drew ?_ | omega | (dsimp only; omega)
    · have N := N rfl
      by_cases c3 : n + n' = t
      · subst c3
        have hw : Hid (canB true (n + n') true (n + n') = true) := by unfold Hid canB; simp; omega
        rcases HH with rfl | ⟨rfl, rfl⟩ <;> rcases J with rfl | ⟨rfl, rfl⟩
        all_goals
          go_enter Try.func8, Try.ntmps8
          go_wp2_with (first | (go_at_call 9; refine (awake3_any _).mono ?_; rintro e w' ⟨rfl, hb⟩; obtain ⟨x, rfl⟩ := over hb; clear hb) | (go_at_call 15; refine (refRight_any _ _ _ _ _ _).mono ?_; rintro e w' ⟨rfl, hb⟩; obtain ⟨y, rfl⟩ := over2 hb; clear hb) | (go_at_call 17; refine (join_c _ _ _ _ _ _ _ _ _ (by omega) (by omega) _ hr).mono ?_; rintro e w' ⟨rfl, hb⟩; obtain ⟨z, rfl⟩ := over2 hb; clear hb; have f0 := z.up (b := w.heap.size) (by first | omega | (simp only [World.size_alloc]; omega)); have f1 := z.up (b := w.heap.size + 1) (by first | omega | (simp only [World.size_alloc]; omega))))
          refine wp_region_over (by kernel_rfl) (by kernel_rfl) ?_
          repeat (go_big_quiet_step (first | (go_at_call 12; exact Over.quiet (writes_c _ _ _ _ _ _ _ hw)) | (go_at_call 10; exact Over.quiet (reads_c _ _ _ _ _ _ _ Hq1)) | (go_at_call 10; exact Over.quiet (reads_c _ _ _ _ _ _ _ Hq2))))
          refine wpQuiet_nil ?_
          intro _ hw'
          obtain ⟨u, rfl⟩ := hw'
          go_wp2
          go_ret
          refine ⟨by simp, ?_⟩
          have s1 := x.below.size
          have s2 := y.below.size
          have s3 := z.below.size
          simp only [World.size_alloc] at s1 s2 s3
          repeat' first | with_reducible exact Below.refl _ _ | with_reducible refine Below.setCell ?_ ?_ _ | with_reducible refine Below.alloc ?_ ?_ _ | with_reducible refine Below.drew ?_ | with_reducible refine belowN ?_ _ | with_reducible refine Over.go _ ?_ ?_ | with_reducible exact Nat.le_refl _ | with_reducible refine Over.sz _ _ ?_ | with_reducible refine le_alloc ?_ | with_reducible refine le_setCell ?_ | with_reducible refine le_drewN ?_ | with_reducible refine le_drew ?_ | omega | (dsimp only; omega)
      · have hw : Hid (canB true (n + n') true t = false) := by unfold Hid canB; simp [c3]
        have c4 : decide (n + n' = t) = false := by simpa using c3
        have c5 : (n + n' == t) = false := by simpa using c3
        rcases HH with rfl | ⟨rfl, rfl⟩ <;> rcases J with rfl | ⟨rfl, rfl⟩
        all_goals
          go_enter Try.func8, Try.ntmps8
          go_wp2_with (first | (go_at_call 9; refine (awake3_any _).mono ?_; rintro e w' ⟨rfl, hb⟩; obtain ⟨x, rfl⟩ := over hb; clear hb) | (go_at_call 15; refine (refRight_any _ _ _ _ _ _).mono ?_; rintro e w' ⟨rfl, hb⟩; obtain ⟨y, rfl⟩ := over2 hb; clear hb) | (go_at_call 17; refine (join_c _ _ _ _ _ _ _ _ _ (by omega) (by omega) _ hr).mono ?_; rintro e w' ⟨rfl, hb⟩; obtain ⟨z, rfl⟩ := over2 hb; clear hb; have f0 := z.up (b := w.heap.size) (by first | omega | (simp only [World.size_alloc]; omega)); have f1 := z.up (b := w.heap.size + 1) (by first | omega | (simp only [World.size_alloc]; omega))))
          refine wp_region_over (by kernel_rfl) (by kernel_rfl) ?_
          repeat (go_big_quiet_step (first | (go_at_call 12; exact Over.quiet (writes_c _ _ _ _ _ _ _ hw)) | (go_at_call 10; exact Over.quiet (reads_c _ _ _ _ _ _ _ Hq1)) | (go_at_call 10; exact Over.quiet (reads_c _ _ _ _ _ _ _ Hq2))))
          refine wpQuiet_nil ?_
          intro _ hw'
          obtain ⟨u, rfl⟩ := hw'
          go_wp2
          go_ret
          refine ⟨by simp, ?_⟩
          have s1 := x.below.size
          have s2 := y.below.size
          have s3 := z.below.size
          simp only [World.size_alloc] at s1 s2 s3
          repeat' first | with_reducible exact Below.refl _ _ | with_reducible refine Below.setCell ?_ ?_ _ | with_reducible refine Below.alloc ?_ ?_ _ | with_reducible refine Below.drew ?_ | with_reducible refine belowN ?_ _ | with_reducible refine Over.go _ ?_ ?_ | with_reducible exact Nat.le_refl _ | with_reducible refine Over.sz _ _ ?_ | with_reducible refine le_alloc ?_ | with_reducible refine le_setCell ?_ | with_reducible refine le_drewN ?_ | with_reducible refine le_drew ?_ | omega | (dsimp only; omega)
end Go.Proofs.Ytohjopdfbjjipaa
