/- The walk of NumTwice: it returns true, whatever the numbers (int64); nothing that was there has turned. -/
import Derived.Test.YthmonhlcpeajpaaLaw01
import Derived.Deep.QuietTactic
import Derived.BigQuiet
namespace Go.Proofs.Ythmonhlcpeajpaa
open Go.ChangeShapes Go.WideShapes Go.ChangeAt Go.RowKit

theorem belowN {B : Nat} {a w : World} (h : Below B a w) (n : Nat) : Below B a (w.drewN n) := h.trans ⟨rfl, rfl, rfl, Nat.le_refl _, fun _ _ => rfl⟩

theorem NumTwice_walk (a0 c0 c1 a2 : Int) (w : World) (h0 : a0 ≤ 9223372036854775807) (h2 : a2 ≤ 9223372036854775807) :
    Calls Try.prog 8 #[.int .i64 a0, .agg #[.int .i64 c0, .int .i64 c1], .int .i64 a2] w fun e w' => e = .returned (.bool true) ∧ Below w.heap.size w w' := by
  have b0 := (clampZ_bd c0 0 100).2 (by omega)
  have b1 := (clampZ_bd c1 0 100).2 (by omega)
  have hd := doubleZ_add a0 (clampZ c0 0 100) (clampZ c1 0 100) a2 b0.1 b1.1
  have hb := doubleZ_bd a0 (clampZ c0 0 100) a2
  obtain ⟨b00, b01⟩ := b0
  obtain ⟨b10, b11⟩ := b1
  go_enter Try.func8, Try.ntmps8
  go_wp2
  go_quiet ((go_at_call 11; exact Calls.quiet_of_same (refClamp_any _ _ _ _)))
  go_wp2_with (first | (go_at_call 9; refine (awake_any _).mono ?_; rintro e w' ⟨rfl, rfl⟩) | (go_at_call 17; refine (numDouble_any _ _ _ _ (by omega) (by omega) (by omega)).mono ?_; rintro e w' ⟨rfl, rfl⟩))
  go_ret

  exact ⟨rfl, belowN ((Below.refl _ _).alloc (Nat.le_refl _) _) _⟩
end Go.Proofs.Ythmonhlcpeajpaa
