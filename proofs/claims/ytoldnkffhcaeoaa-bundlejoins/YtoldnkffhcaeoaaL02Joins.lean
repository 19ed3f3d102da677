/- The walk of BundleJoins: it returns true; no old memory turns. -/
import Derived.Test.YtoldnkffhcaeoaaLaw02
import Derived.Test.YtoldnkffhcaeoaaRef02
import Derived.Test.YtoldnkffhcaeoaaRef02j
import Derived.Test.YtoldnkffhcaeoaaBunMath2
namespace Go.Proofs.Ytoldnkffhcaeoaa
open Go.ChangeShapes Go.WideShapes Go.ChangeAt Go.RowKit
set_option linter.unusedSimpArgs false
set_option linter.unusedVariables false

attribute [local go_sem, local simp] over_const setCell_drewN alloc_drewN Over.cell Over.frozen lt_s1 lt_s2 lt_s3 le_s0 le_s1 le_s2 le_s3 eq_s0 eq_s1 eq_s2 qe_s0

set_option maxHeartbeats 1000000 in
theorem BundleJoins_walk (n : Int) (o h : Bool) (d : Int) (n' : Int) (o' h' : Bool) (d' : Int) (w : World) :
    Calls Try.prog 5 #[.agg #[.int .i64 n, .bool o, .bool h, .int .i64 d], .agg #[.int .i64 n', .bool o', .bool h', .int .i64 d']] w fun e w' => e = .returned (.bool true) ∧ Below w.heap.size w w' := by
  obtain ⟨M, hM⟩ : ∃ M : Int, (if n < 0 then 0 else n) = M := ⟨_, rfl⟩
  obtain ⟨M', hM'⟩ : ∃ M : Int, (if n' < 0 then 0 else n') = M := ⟨_, rfl⟩
  obtain ⟨q, hq⟩ : ∃ q : Bool, (checkZ ⟨n, o, h, d⟩ M == 0) = q := ⟨_, rfl⟩
  obtain ⟨q', hq'⟩ : ∃ q : Bool, (checkZ ⟨n', o', h', d'⟩ M' == 0) = q := ⟨_, rfl⟩
  by_cases c1 : 1099511627776 < n
  · go_enter Try.func5, Try.ntmps5
    go_wp2_with (first | (go_at_call 11; refine (awake2_any _).mono ?_; rintro e w' ⟨rfl, hb⟩; obtain ⟨x, rfl⟩ := over hb; clear hb) | (go_at_call 14; refine (refRight_any _ _ _ _ _ _).mono ?_; rintro e w' ⟨rfl, hb⟩; obtain ⟨y, rfl⟩ := over2 hb; clear hb))
    go_ret
    refine ⟨rfl, ?_⟩
    repeat' first | exact Below.refl _ _ | refine Over.go _ ?_ ?_ | refine Below.alloc ?_ ?_ _ | refine Below.drew ?_ | refine belowN ?_ _ | refine Below.setCell ?_ ?_ _ | exact Nat.le_refl _ | refine Over.sz _ _ ?_ | refine le_alloc ?_ | refine le_setCell ?_ | refine le_drewN ?_ | refine le_drew ?_ | omega
  by_cases c2 : 1099511627776 < n'
  · go_enter Try.func5, Try.ntmps5
    go_wp2_with (first | (go_at_call 11; refine (awake2_any _).mono ?_; rintro e w' ⟨rfl, hb⟩; obtain ⟨x, rfl⟩ := over hb; clear hb) | (go_at_call 14; refine (refRight_any _ _ _ _ _ _).mono ?_; rintro e w' ⟨rfl, hb⟩; obtain ⟨y, rfl⟩ := over2 hb; clear hb))
    go_ret
    refine ⟨rfl, ?_⟩
    repeat' first | exact Below.refl _ _ | refine Over.go _ ?_ ?_ | refine Below.alloc ?_ ?_ _ | refine Below.drew ?_ | refine belowN ?_ _ | refine Below.setCell ?_ ?_ _ | exact Nat.le_refl _ | refine Over.sz _ _ ?_ | refine le_alloc ?_ | refine le_setCell ?_ | refine le_drewN ?_ | refine le_drew ?_ | omega
  cases q
  · go_enter Try.func5, Try.ntmps5
    go_wp2_with (first | (go_at_call 11; refine (awake2_any _).mono ?_; rintro e w' ⟨rfl, hb⟩; obtain ⟨x, rfl⟩ := over hb; clear hb) | (go_at_call 14; refine (refRight_any _ _ _ _ _ _).mono ?_; rintro e w' ⟨rfl, hb⟩; obtain ⟨y, rfl⟩ := over2 hb; clear hb))
    go_ret
    refine ⟨rfl, ?_⟩
    repeat' first | exact Below.refl _ _ | refine Over.go _ ?_ ?_ | refine Below.alloc ?_ ?_ _ | refine Below.drew ?_ | refine belowN ?_ _ | refine Below.setCell ?_ ?_ _ | exact Nat.le_refl _ | refine Over.sz _ _ ?_ | refine le_alloc ?_ | refine le_setCell ?_ | refine le_drewN ?_ | refine le_drew ?_ | omega
  cases q'
  · go_enter Try.func5, Try.ntmps5
    go_wp2_with (first | (go_at_call 11; refine (awake2_any _).mono ?_; rintro e w' ⟨rfl, hb⟩; obtain ⟨x, rfl⟩ := over hb; clear hb) | (go_at_call 14; refine (refRight_any _ _ _ _ _ _).mono ?_; rintro e w' ⟨rfl, hb⟩; obtain ⟨y, rfl⟩ := over2 hb; clear hb))
    go_ret
    refine ⟨rfl, ?_⟩
    repeat' first | exact Below.refl _ _ | refine Over.go _ ?_ ?_ | refine Below.alloc ?_ ?_ _ | refine Below.drew ?_ | refine belowN ?_ _ | refine Below.setCell ?_ ?_ _ | exact Nat.le_refl _ | refine Over.sz _ _ ?_ | refine le_alloc ?_ | refine le_setCell ?_ | refine le_drewN ?_ | refine le_drew ?_ | omega
  · have ok : okB ⟨n, o, h, d⟩ := okB_of _ M (by simpa using hq)
    have ok' : okB ⟨n', o', h', d'⟩ := okB_of _ M' (by simpa using hq')
    have b1 : 0 ≤ n := ok.1
    have b2 : 0 ≤ n' := ok'.1
    obtain ⟨r, hr⟩ : ∃ r, Hid (joinB ⟨n, o, h, d⟩ ⟨n', o', h', d'⟩ = r) := ⟨_, rfl⟩
    have k3 : Hid (h = false → d = 0) := ok.2.2.2
    go_enter Try.func5, Try.ntmps5
    go_wp2_with (first | (go_at_call 11; refine (awake2_any _).mono ?_; rintro e w' ⟨rfl, hb⟩; obtain ⟨x, rfl⟩ := over hb; clear hb) | (go_at_call 14; refine (refRight_any _ _ _ _ _ _).mono ?_; rintro e w' ⟨rfl, hb⟩; obtain ⟨y, rfl⟩ := over2 hb; clear hb))
    have f0 := y.up (b := w.heap.size) (by first | omega | (simp only [World.size_alloc]; omega))
    have f1 := y.up (b := w.heap.size + 1) (by first | omega | (simp only [World.size_alloc]; omega))
    refine wp_region_over (by kernel_rfl) (by kernel_rfl) ?_
    repeat (go_big_quiet_step (first | (go_at_call 17; exact Over.quiet (join_c _ _ _ _ _ _ _ _ _ (by omega) (by omega) _ hr)) | (go_at_call 18; exact Over.quiet (refJoin_any _ _ _ _ _ _ _ _ _ (by omega) (by omega) k3 _ hr))))
    refine wpQuiet_nil ?_
    intro _ hw'
    obtain ⟨u, rfl⟩ := hw'
    go_wp2
    go_ret
    refine ⟨by simp, ?_⟩
    repeat' first | exact Below.refl _ _ | refine Over.go _ ?_ ?_ | refine Below.alloc ?_ ?_ _ | refine Below.drew ?_ | refine belowN ?_ _ | refine Below.setCell ?_ ?_ _ | exact Nat.le_refl _ | refine Over.sz _ _ ?_ | refine le_alloc ?_ | refine le_setCell ?_ | refine le_drewN ?_ | refine le_drew ?_ | omega
end Go.Proofs.Ytoldnkffhcaeoaa
