/- The contracts of the document's own answers for layer 1 (jetonref01): each returns what the plain mathematics says, the world as it was. Double: within int64. -/
import Derived.Test.YtipamgncalcaiaaNum
namespace Go.Proofs.Ytipamgncalcaiaa
open Go.ChangeShapes Go.WideShapes Go.ChangeAt Go.RowKit

theorem refBit_any (n k : Int) (w : World) :
    Calls Try.prog 19 #[.int .i64 n, .int .i64 k] w fun e w' => e = .returned (.bool (bitB n k)) ∧ w' = w := by
  by_cases hk0 : k < 0
  · go_enter Try.func19, Try.ntmps19
    go_wp2
    go_ret
    exact ⟨by simp [bitB]; omega, rfl⟩
  · by_cases hk : 63 < k
    · go_enter Try.func19, Try.ntmps19
      go_wp2
      go_ret
      exact ⟨by simp [bitB]; omega, rfl⟩
    · have hw := wrap_u64 n
      have hu := u64_lt n
      obtain ⟨K, rfl⟩ := Int.eq_ofNat_of_zero_le (show 0 ≤ k by omega)
      have HB : bitB n K = (((u64 n / 2 ^ K % 2 : Nat) : Int) == 1) := by
        unfold bitB
        rw [Int.toNat_natCast]
        generalize u64 n / 2 ^ K % 2 = z
        rw [Bool.eq_iff_iff, decide_eq_true_iff, beq_iff_eq]
        omega
      rw [HB]
      clear HB
      generalize u64 n = u at *
      go_enter Try.func19, Try.ntmps19
      go_wp2
      go_loop [5, 6] (fun x i => ∃ (j : Nat) (y : Nat), j ≤ K ∧ i = .int .i64 j ∧ x = .int .u64 y ∧ y ≤ u ∧ Hid (y = u / 2 ^ j)) (fun _ i => K - (intOf i).toNat)
      case atStart => exact ⟨0, u, Nat.zero_le _, rfl, rfl, Nat.le_refl _, hide (by simp)⟩
      case round =>
        obtain ⟨j, y, hj, rfl, rfl, hy1, hy⟩ := hrel
        by_cases hlt : j < K
        · go_wp2
          go_round
          case rel => exact ⟨j + 1, y / 2, by omega, by go_num, by go_num, by omega, hide (by rw [unhide hy, Nat.div_div_eq_div_mul, Nat.pow_succ])⟩
          case measure => simp [intOf]; omega
        · have he : j = K := by omega
          subst he
          go_wp2
          go_ret
          have hz : (u : Int) / 2 ^ j = (y : Int) := by rw [unhide hy]; simp
          exact ⟨by rw [hz]; rfl, rfl⟩

end Go.Proofs.Ytipamgncalcaiaa
