/- The walk of BundleSplits: it returns true; no old memory turns. -/
import Derived.Test.YtoldnkffhcaeoaaLaw02
import Derived.Test.YtoldnkffhcaeoaaRef02
import Derived.Test.YtoldnkffhcaeoaaRef02b
import Derived.Test.YtoldnkffhcaeoaaBunMath2
namespace Go.Proofs.Ytoldnkffhcaeoaa
open Go.ChangeShapes Go.WideShapes Go.ChangeAt Go.RowKit
set_option linter.unusedSimpArgs false
set_option linter.unusedVariables false

attribute [local go_sem, local simp] over_const setCell_drewN alloc_drewN Over.cell Over.frozen lt_s1 lt_s2 lt_s3 le_s0 le_s1 le_s2 le_s3 eq_s0 eq_s1 eq_s2 qe_s0

set_option maxHeartbeats 1000000 in
theorem BundleSplits_walk (n : Int) (o h : Bool) (d c : Int) (a v : Bool) (w : World) (hn2 : n ≤ 9223372036854775807) :
    Calls Try.prog 4 #[.agg #[.int .i64 n, .bool o, .bool h, .int .i64 d], .int .i64 c, .agg #[.bool a, .bool v]] w fun e w' => e = .returned (.bool true) ∧ Below w.heap.size w w' := by
  obtain ⟨M, hM⟩ : ∃ M : Int, (if n < 0 then 0 else n) = M := ⟨_, rfl⟩
  obtain ⟨q, hq⟩ : ∃ q : Bool, (checkZ ⟨n, o, h, d⟩ M == 0) = q := ⟨_, rfl⟩
  cases q
  · go_enter Try.func4, Try.ntmps4
    go_wp2_with (first | (go_at_call 11; refine (awake2_any _).mono ?_; rintro e w' ⟨rfl, hb⟩; obtain ⟨x, rfl⟩ := over hb; clear hb) | (go_at_call 14; refine (refRight_any _ _ _ _ _ _).mono ?_; rintro e w' ⟨rfl, hb⟩; obtain ⟨y, rfl⟩ := over2 hb; clear hb))
    go_ret
    refine ⟨rfl, ?_⟩
    repeat' first | exact Below.refl _ _ | refine Over.go _ ?_ ?_ | refine Below.alloc ?_ ?_ _ | refine Below.drew ?_ | refine belowN ?_ _ | refine Below.setCell ?_ ?_ _ | exact Nat.le_refl _ | refine Over.sz _ _ ?_ | refine le_alloc ?_ | refine le_setCell ?_ | refine le_drewN ?_ | refine le_drew ?_ | omega
  · have ok : okB ⟨n, o, h, d⟩ := okB_of _ M (by simpa using hq)
    obtain ⟨⟨rn, ro, rh, rd⟩, hr⟩ : ∃ r, Hid (givenB ⟨n, o, h, d⟩ c a v = r) := ⟨_, rfl⟩
    obtain ⟨⟨sn, so, sh, sd⟩, hs⟩ : ∃ r, Hid (restB ⟨n, o, h, d⟩ c a = r) := ⟨_, rfl⟩
    go_enter Try.func4, Try.ntmps4
    go_wp2_with (first | (go_at_call 11; refine (awake2_any _).mono ?_; rintro e w' ⟨rfl, hb⟩; obtain ⟨x, rfl⟩ := over hb; clear hb) | (go_at_call 14; refine (refRight_any _ _ _ _ _ _).mono ?_; rintro e w' ⟨rfl, hb⟩; obtain ⟨y, rfl⟩ := over2 hb; clear hb) | (go_at_call 15; refine (split_c _ _ _ _ _ _ _ _ hn2 ok _ _ hr hs).mono ?_; rintro e w' ⟨rfl, hb⟩; obtain ⟨z, rfl⟩ := over2 hb; clear hb; have f0 := z.up (b := w.heap.size) (by simp only [World.size_alloc]; omega); have f1 := z.up (b := w.heap.size + 1) (by simp only [World.size_alloc]; omega)) | (go_at_call 16; refine (refSplit_any _ _ _ _ _ _ _ _ hn2 ok _ _ hr hs).mono ?_; rintro e w' ⟨rfl, hb⟩; obtain ⟨u, rfl⟩ := over hb; clear hb; have g0 := u.up (b := w.heap.size) (by simp only [World.size_alloc]; omega); have g1 := u.up (b := w.heap.size + 1) (by simp only [World.size_alloc]; omega); have g2 := u.up (b := z.w.heap.size) (by simp only [World.size_alloc]; omega); have g3 := u.up (b := z.w.heap.size + 1) (by simp only [World.size_alloc]; omega)))
    go_ret
    refine ⟨?_, ?_⟩
    · simp
    repeat' first | exact Below.refl _ _ | refine Over.go _ ?_ ?_ | refine Below.alloc ?_ ?_ _ | refine Below.drew ?_ | refine belowN ?_ _ | refine Below.setCell ?_ ?_ _ | exact Nat.le_refl _ | refine Over.sz _ _ ?_ | refine le_alloc ?_ | refine le_setCell ?_ | refine le_drewN ?_ | refine le_drew ?_ | omega
end Go.Proofs.Ytoldnkffhcaeoaa
