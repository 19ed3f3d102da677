/- The walk of PermSole: it returns true; no old memory turns. -/
import Derived.Test.YtohjopdfbjjipaaLaw03
import Derived.Test.YtohjopdfbjjipaaRef02
import Derived.Test.YtohjopdfbjjipaaBunC
import Derived.Test.YtohjopdfbjjipaaBunMath2
namespace Go.Proofs.Ytohjopdfbjjipaa
open Go.ChangeShapes Go.WideShapes Go.ChangeAt Go.RowKit
set_option linter.unusedSimpArgs false
set_option linter.unusedVariables false

attribute [local go_sem, local simp] over_const setCell_drewN alloc_drewN Over.cell Over.frozen lt_s1 lt_s2 lt_s3 le_s0 le_s1 le_s2 le_s3 eq_s0 eq_s1 eq_s2 qe_s0

theorem sole_math (n : Int) (h : Bool) (r s : Bun) (e : r.n + s.n = n) (okr : okB r) (oks : okB s) (q : canB true r.n r.h n = true) : canB true s.n s.h n = false ∧ canB false s.n s.h n = false := by
  unfold canB at q ⊢
  simp at q
  have z : s.n = 0 := by omega
  have := (oks.2.1 z).2
  rw [this]
  simp

set_option maxHeartbeats 2000000 in
theorem PermSole_walk (n : Int) (o h : Bool) (d c : Int) (a v : Bool) (w : World) (hn2 : n ≤ 9223372036854775807) :
    Calls Try.prog 6 #[.agg #[.int .i64 n, .bool o, .bool h, .int .i64 d], .int .i64 c, .agg #[.bool a, .bool v]] w fun e w' => e = .returned (.bool true) ∧ Below w.heap.size w w' := by
  obtain ⟨M, hM⟩ : ∃ M : Int, (if n < 0 then 0 else n) = M := ⟨_, rfl⟩
  obtain ⟨q, hq⟩ : ∃ q : Bool, (checkZ ⟨n, o, h, d⟩ M == 0) = q := ⟨_, rfl⟩
  cases q
  · go_enter Try.func6, Try.ntmps6
    go_wp2_with (first | (go_at_call 9; refine (awake3_any _).mono ?_; rintro e w' ⟨rfl, hb⟩; obtain ⟨x, rfl⟩ := over hb; clear hb) | (go_at_call 9; refine (awake3_any _).mono ?_; rintro e w' ⟨rfl, hb⟩; obtain ⟨x, rfl⟩ := over2 hb; clear hb) | (go_at_call 15; refine (refRight_any _ _ _ _ _ _).mono ?_; rintro e w' ⟨rfl, hb⟩; obtain ⟨y, rfl⟩ := over2 hb; clear hb))
    go_ret
    refine ⟨rfl, ?_⟩
    repeat' first | with_reducible exact Below.refl _ _ | with_reducible refine Below.setCell ?_ ?_ _ | with_reducible refine Below.alloc ?_ ?_ _ | with_reducible refine Below.drew ?_ | with_reducible refine belowN ?_ _ | with_reducible refine Over.go _ ?_ ?_ | with_reducible exact Nat.le_refl _ | with_reducible refine Over.sz _ _ ?_ | with_reducible refine le_alloc ?_ | with_reducible refine le_setCell ?_ | with_reducible refine le_drewN ?_ | with_reducible refine le_drew ?_ | omega | (dsimp only; omega)
  · have ok : okB ⟨n, o, h, d⟩ := okB_of _ M (by simpa using hq)
    obtain ⟨⟨rn, ro, rh, rd⟩, hr⟩ : ∃ r, Hid (givenB ⟨n, o, h, d⟩ c a v = r) := ⟨_, rfl⟩
    obtain ⟨⟨sn, so, sh, sd⟩, hs⟩ : ∃ r, Hid (restB ⟨n, o, h, d⟩ c a = r) := ⟨_, rfl⟩
    have pm := parts_math n o h d c a v ok _ _ (unhide hr) (unhide hs)
    have e1 : rn + sn = n := pm.2.2.1
    have okr := pm.2.2.2.1
    have oks := pm.2.2.2.2.1
    clear pm
    obtain ⟨q1, hq1⟩ : ∃ q, canB true rn rh n = q := ⟨_, rfl⟩
    obtain ⟨q2, hq2⟩ : ∃ q, canB true sn sh n = q := ⟨_, rfl⟩
    have H : (q1 = true → q2 = false ∧ canB false sn sh n = false) ∧ (q2 = true → q1 = false ∧ canB false rn rh n = false) := by
      refine ⟨fun e => ?_, fun e => ?_⟩
      · subst e; have := sole_math n h ⟨rn, ro, rh, rd⟩ ⟨sn, so, sh, sd⟩ e1 okr oks hq1; exact ⟨hq2 ▸ this.1, this.2⟩
      · subst e; have := sole_math n h ⟨sn, so, sh, sd⟩ ⟨rn, ro, rh, rd⟩ (by simp; omega) oks okr hq2; exact ⟨hq1 ▸ this.1, this.2⟩
    have Hq1 := hide hq1
    have Hq2 := hide hq2
    obtain ⟨q3, hq3⟩ : ∃ q, canB false rn rh n = q := ⟨_, rfl⟩
    obtain ⟨q4, hq4⟩ : ∃ q, canB false sn sh n = q := ⟨_, rfl⟩
    rw [hq3, hq4] at H
    have Hq3 := hide hq3
    have Hq4 := hide hq4
    clear hq1 hq2 hq3 hq4 okr oks e1
    have HH : (q1 = false ∧ q2 = false) ∨ (q1 = true ∧ q2 = false ∧ q4 = false) ∨ (q1 = false ∧ q2 = true ∧ q3 = false) := by
      cases q1 <;> cases q2 <;> simp_all
    clear H
    rcases HH with ⟨rfl, rfl⟩ | ⟨rfl, rfl, rfl⟩ | ⟨rfl, rfl, rfl⟩
    all_goals
      go_enter Try.func6, Try.ntmps6
      go_wp2_with (first | (go_at_call 9; refine (awake3_any _).mono ?_; rintro e w' ⟨rfl, hb⟩; obtain ⟨x, rfl⟩ := over hb; clear hb) | (go_at_call 15; refine (refRight_any _ _ _ _ _ _).mono ?_; rintro e w' ⟨rfl, hb⟩; obtain ⟨y, rfl⟩ := over2 hb; clear hb) | (go_at_call 16; refine (split_c _ _ _ _ _ _ _ _ hn2 ok _ _ hr hs).mono ?_; rintro e w' ⟨rfl, hb⟩; obtain ⟨z, rfl⟩ := over2 hb; clear hb; have f0 := z.up (b := w.heap.size) (by first | omega | (simp only [World.size_alloc]; omega)); have f1 := z.up (b := w.heap.size + 1) (by first | omega | (simp only [World.size_alloc]; omega))))
      refine wp_region_over (by kernel_rfl) (by kernel_rfl) ?_
      repeat (go_big_quiet_step (first | (go_at_call 12; exact Over.quiet (writes_c _ _ _ _ _ _ _ Hq1)) | (go_at_call 12; exact Over.quiet (writes_c _ _ _ _ _ _ _ Hq2))))
      refine wpQuiet_nil ?_
      intro _ hw'
      obtain ⟨u, rfl⟩ := hw'
      have k0 := u.up (b := z.w.heap.size) (by first | omega | (simp only [World.size_alloc]; omega))
      have k1 := u.up (b := z.w.heap.size + 1) (by first | omega | (simp only [World.size_alloc]; omega))
      go_wp2_with (first | (go_at_call 10; with_reducible refine (reads_c _ _ _ _ n _ _ Hq3).mono ?_; rintro e w' ⟨rfl, hb⟩; obtain ⟨u2, rfl⟩ := over2 hb; clear hb) | (go_at_call 10; with_reducible refine (reads_c _ _ _ _ n _ _ Hq4).mono ?_; rintro e w' ⟨rfl, hb⟩; obtain ⟨u2, rfl⟩ := over2 hb; clear hb))
      go_ret
      refine ⟨by simp, ?_⟩
      have s1 := x.below.size
      have s2 := y.below.size
      have s3 := z.below.size
      simp only [World.size_alloc] at s1 s2 s3
      repeat' first | with_reducible exact Below.refl _ _ | with_reducible refine Below.setCell ?_ ?_ _ | with_reducible refine Below.alloc ?_ ?_ _ | with_reducible refine Below.drew ?_ | with_reducible refine belowN ?_ _ | with_reducible refine Over.go _ ?_ ?_ | with_reducible exact Nat.le_refl _ | with_reducible refine Over.sz _ _ ?_ | with_reducible refine le_alloc ?_ | with_reducible refine le_setCell ?_ | with_reducible refine le_drewN ?_ | with_reducible refine le_drew ?_ | omega | (dsimp only; omega)
end Go.Proofs.Ytohjopdfbjjipaa
