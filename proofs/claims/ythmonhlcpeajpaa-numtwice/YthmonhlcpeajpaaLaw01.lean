/- The walks of the statements of layer 1: each returns true, whatever the numbers (int64); the world as it was, but for new blocks and draws. -/
import Derived.Test.YthmonhlcpeajpaaRef01
import Derived.Deep.RegionWith
namespace Go.Proofs.Ythmonhlcpeajpaa
open Go.ChangeShapes Go.WideShapes Go.ChangeAt Go.RowKit

theorem awake_any (w : World) :
    Calls Try.prog 9 #[] w fun e w' => e = .returned (.bool true) ∧ w' = w := by
  have c1 : clampZ 7 0 5 = 5 := by decide
  have c2 : clampZ 3 4 2 = 4 := by decide
  have c3 : modZ (-1) 5 = 4 := by decide
  have c4 : modZ 9 0 = 0 := by decide
  have c5 : onesZ (-1) = 64 := by decide
  have c6 : bitB 6 1 = true := by decide
  have c7 : bitB 6 0 = false := by decide
  have c8 : doubleZ 3 2 100 = 12 := by decide
  have c9 : doubleZ 3 9 100 = 100 := by decide
  go_enter Try.func9, Try.ntmps9
  go_wp2_with (first | (go_at_call 10; refine (numClamp_any _ _ _ _).mono ?_; rintro e w' ⟨rfl, rfl⟩) | (go_at_call 12; refine (numMod_any _ _ _ (by omega)).mono ?_; rintro e w' ⟨rfl, rfl⟩) | (go_at_call 16; refine (numOnes_any _ _).mono ?_; rintro e w' ⟨rfl, rfl⟩) | (go_at_call 15; refine (numBit_any _ _ _).mono ?_; rintro e w' ⟨rfl, rfl⟩) | (go_at_call 17; refine (numDouble_any _ _ _ _ (by omega) (by omega) (by omega)).mono ?_; rintro e w' ⟨rfl, rfl⟩))
  go_ret
  exact ⟨rfl, rfl⟩

theorem NumClamps_walk (a0 a1 a2 : Int) (w : World) (h2 : a2 ≤ 9223372036854775807) :
    Calls Try.prog 3 #[.int .i64 a0, .int .i64 a1, .int .i64 a2] w fun e w' => e = .returned (.bool true) ∧ Grown w w' := by
  go_enter Try.func3, Try.ntmps3
  go_wp2_with (first | (go_at_call 9; refine (awake_any _).mono ?_; rintro e w' ⟨rfl, rfl⟩) | (go_at_call 10; refine (numClamp_any _ _ _ _).mono ?_; rintro e w' ⟨rfl, rfl⟩) | (go_at_call 12; refine (numMod_any _ _ _ h2).mono ?_; rintro e w' ⟨rfl, rfl⟩) | (go_at_call 11; refine (refClamp_any _ _ _ _).mono ?_; rintro e w' ⟨rfl, rfl⟩) | (go_at_call 13; refine (refMod_any _ _ _ h2).mono ?_; rintro e w' ⟨rfl, rfl⟩))
  go_ret
  exact ⟨rfl, Grown.refl _⟩

theorem NumSmall_walk (a0 a1 a2 : Int) (w : World) (h2 : a1 ≤ 9223372036854775807) :
    Calls Try.prog 4 #[.int .i64 a0, .int .i64 a1, .int .i64 a2] w fun e w' => e = .returned (.bool true) ∧ Grown w w' := by
  have hb := modZ_bd a0 a1
  have hz := modZ_again a0 a1
  have hc := clampZ_again a0 a2 a1
  by_cases hm : a1 < 1
  · have e0 := hb.2.1 hm
    have b0 := hb.1
    rw [e0] at hz
    clear hb
    go_enter Try.func4, Try.ntmps4
    go_wp2_with (first | (go_at_call 9; refine (awake_any _).mono ?_; rintro e w' ⟨rfl, rfl⟩) | (go_at_call 10; refine (numClamp_any _ _ _ _).mono ?_; rintro e w' ⟨rfl, rfl⟩) | (go_at_call 12; refine (numMod_any _ _ _ h2).mono ?_; rintro e w' ⟨rfl, rfl⟩))
    go_ret
    exact ⟨rfl, Grown.refl _⟩
  · have b1 := hb.2.2 (by omega)
    have b0 := hb.1
    clear hb
    go_enter Try.func4, Try.ntmps4
    go_wp2_with (first | (go_at_call 9; refine (awake_any _).mono ?_; rintro e w' ⟨rfl, rfl⟩) | (go_at_call 10; refine (numClamp_any _ _ _ _).mono ?_; rintro e w' ⟨rfl, rfl⟩) | (go_at_call 12; refine (numMod_any _ _ _ h2).mono ?_; rintro e w' ⟨rfl, rfl⟩))
    go_ret
    exact ⟨rfl, Grown.refl _⟩

theorem NumBits_walk (a0 a1 : Int) (w : World) :
    Calls Try.prog 5 #[.int .i64 a0, .int .i64 a1] w fun e w' => e = .returned (.bool true) ∧ Grown w w' := by
  have hs := fun k => popA_snoc k (u64 a0)
  have hl := fun k => popA_le k (u64 a0)
  have hbit : ∀ k : Nat, k < 64 → bitB a0 k = decide (u64 a0 / 2 ^ k % 2 = 1) := by
    intro k hk
    unfold bitB
    rw [Int.toNat_natCast, Bool.eq_iff_iff, decide_eq_true_iff, decide_eq_true_iff]
    omega
  have HS := hide hs
  have HB := hide hbit
  clear hs hbit
  go_enter Try.func5, Try.ntmps5
  go_wp2
  go_loop [5, 7] (fun n i => ∃ (k : Nat), k ≤ 64 ∧ i = .int .i64 k ∧ n = .int .i64 (popA k (u64 a0))) (fun _ i => 64 - (intOf i).toNat)
  case atStart => exact ⟨0, by omega, rfl, rfl⟩
  case round =>
    obtain ⟨k, hk, rfl, rfl⟩ := hrel
    have hle := hl k
    have hsk := unhide HS k
    have hle' := hl (k + 1)
    clear hl
    by_cases hlt : k < 64
    · have hbk := unhide HB k hlt
      by_cases hb : u64 a0 / 2 ^ k % 2 = 1
      · rw [decide_eq_true hb] at hbk
        have HH := hide hsk
        clear hsk
        go_wp2_with (go_at_call 14; refine (refBit_any _ _ _).mono ?_; rintro e w' ⟨rfl, rfl⟩)
        go_round
        case rel => exact ⟨k + 1, by omega, by go_num, by have h := unhide HH; rw [h]; go_num⟩
        case measure => simp [intOf]; omega
      · rw [decide_eq_false hb] at hbk
        have HH := hide hsk
        clear hsk
        go_wp2_with (go_at_call 14; refine (refBit_any _ _ _).mono ?_; rintro e w' ⟨rfl, rfl⟩)
        go_round
        case rel => exact ⟨k + 1, by omega, by go_num, by have h := unhide HH; rw [h]; go_num⟩
        case measure => simp [intOf]; omega
    · have he : k = 64 := by omega
      subst he
      clear hsk hle'
      have ho := onesZ_eq a0
      go_wp2_with (first | (go_at_call 9; refine (awake_any _).mono ?_; rintro e w' ⟨rfl, rfl⟩) | (go_at_call 15; refine (numBit_any _ _ _).mono ?_; rintro e w' ⟨rfl, rfl⟩) | (go_at_call 14; refine (refBit_any _ _ _).mono ?_; rintro e w' ⟨rfl, rfl⟩) | (go_at_call 16; refine (numOnes_any _ _).mono ?_; rintro e w' ⟨rfl, rfl⟩))
      go_ret
      exact ⟨rfl, Grown.refl _⟩

theorem NumFrom_walk (a0 a1 a2 : Int) (w : World) (h0 : a0 ≤ 9223372036854775807) (h1 : a1 ≤ 9223372036854775807) (h2 : a2 ≤ 9223372036854775807) :
    Calls Try.prog 6 #[.int .i64 a0, .int .i64 a1, .int .i64 a2] w fun e w' => e = .returned (.bool true) ∧ Grown w w' := by
  have hd := doubleZ_bd a0 a1 a2
  have hM : (if a2 < 0 then 0 else a2) = max a2 0 := by split <;> omega
  obtain ⟨d0, d1⟩ := hd
  generalize max a2 0 = M at *
  go_enter Try.func6, Try.ntmps6
  go_wp2_with (first | (go_at_call 9; refine (awake_any _).mono ?_; rintro e w' ⟨rfl, rfl⟩) | (go_at_call 17; refine (numDouble_any _ _ _ _ h0 h1 h2).mono ?_; rintro e w' ⟨rfl, rfl⟩) | (go_at_call 18; refine (refDouble_any _ _ _ _ h0 h1 h2).mono ?_; rintro e w' ⟨rfl, rfl⟩))
  go_ret
  exact ⟨rfl, Grown.refl _⟩

theorem i64_not_any (n : Int) (h0 : -9223372036854775808 ≤ n) (h1 : n ≤ 9223372036854775807) : bits .xor .i64 (-1) n = -1 - n := by
  show IntKind.i64.wrap ((BitVec.ofInt 64 (-1) ^^^ BitVec.ofInt 64 n).toNat : Int) = _
  have e : BitVec.ofInt 64 (-1) = BitVec.allOnes 64 := by decide
  rw [e, BitVec.allOnes_xor, BitVec.toNat_not, BitVec.toNat_ofInt]
  simp [IntKind.wrap, IntKind.bits, IntKind.signed]
  omega

theorem NumOnes_walk (a0 a1 : Int) (w : World) (h0 : -9223372036854775808 ≤ a0) (h1 : a0 ≤ 9223372036854775807) :
    Calls Try.prog 7 #[.int .i64 a0, .int .i64 a1] w fun e w' => e = .returned (.bool true) ∧ Grown w w' := by
  have hx := i64_not_any a0 h0 h1
  have hg : IntKind.i64.signed = true := rfl
  have hu : u64 (-1 - a0) = 2 ^ 64 - 1 - u64 a0 := by unfold u64; omega
  have hl := u64_lt a0
  have hp : onesZ a0 + onesZ (-1 - a0) = 64 := by
    have := popA_compl 64 (u64 a0) hl
    unfold onesZ
    rw [hu]; omega
  have p0 := onesZ_bd a0
  have p1 := onesZ_bd (-1 - a0)
  obtain ⟨p0, p0'⟩ := p0
  obtain ⟨p1, p1'⟩ := p1
  have hb : 0 ≤ a1 → a1 ≤ 63 → bitB (-1 - a0) a1 = !bitB a0 a1 := by
    intro k0 k1
    have := bit_compl 64 a1.toNat (u64 a0) hl (by omega)
    unfold bitB
    rw [hu, this]
    have hz : u64 a0 / 2 ^ a1.toNat % 2 < 2 := Nat.mod_lt _ (by omega)
    generalize u64 a0 / 2 ^ a1.toNat % 2 = z at *
    rw [Bool.eq_iff_iff, decide_eq_true_iff, Bool.not_eq_true', decide_eq_false_iff_not]
    omega
  clear hu hl
  by_cases k0 : a1 < 0
  · clear hb
    go_enter Try.func7, Try.ntmps7
    go_wp2_with (first | (go_at_call 9; refine (awake_any _).mono ?_; rintro e w' ⟨rfl, rfl⟩) | (go_at_call 16; refine (numOnes_any _ _).mono ?_; rintro e w' ⟨rfl, rfl⟩))
    go_ret
    exact ⟨rfl, Grown.refl _⟩
  · by_cases k1 : 63 < a1
    · clear hb
      go_enter Try.func7, Try.ntmps7
      go_wp2_with (first | (go_at_call 9; refine (awake_any _).mono ?_; rintro e w' ⟨rfl, rfl⟩) | (go_at_call 16; refine (numOnes_any _ _).mono ?_; rintro e w' ⟨rfl, rfl⟩))
      go_ret
      exact ⟨rfl, Grown.refl _⟩
    · have hb' := hb (by omega) (by omega)
      clear hb
      go_enter Try.func7, Try.ntmps7
      go_wp2_with (first | (go_at_call 9; refine (awake_any _).mono ?_; rintro e w' ⟨rfl, rfl⟩) | (go_at_call 16; refine (numOnes_any _ _).mono ?_; rintro e w' ⟨rfl, rfl⟩) | (go_at_call 15; refine (numBit_any _ _ _).mono ?_; rintro e w' ⟨rfl, rfl⟩))

      go_ret
      exact ⟨rfl, Grown.refl _⟩
end Go.Proofs.Ythmonhlcpeajpaa
