/- The walk of AdviceAsks (layer 13). -/
import Derived.Test.YtipamgncalcaiaaLaw13
namespace Go.Proofs.Ytipamgncalcaiaa
open Go.ChangeShapes Go.WideShapes Go.ChangeAt Go.RowKit
set_option linter.unusedSimpArgs false
set_option linter.unusedVariables false
set_option maxRecDepth 10000

attribute [local go_sem, local simp] over_const setCell_drewN alloc_drewN Over.cell Over.frozen lt_s1 lt_s2 lt_s3 le_s0 le_s1 le_s2 le_s3 eq_s0 eq_s1 eq_s2 qe_s0

theorem tg_mem {f : Nat → Bool} {k : Nat} {x : Int} (h : x ∈ tg f k) : ∃ m : Nat, m < k ∧ f m = true ∧ x = m := by
  simp only [tg, List.mem_map, List.mem_filter, List.mem_range] at h
  obtain ⟨m, ⟨h1, h2⟩, rfl⟩ := h
  exact ⟨m, h1, h2, rfl⟩
theorem tg_rise (f : Nat → Bool) (k : Nat) : (tg f k).Pairwise (· < ·) := by
  unfold tg
  rw [List.pairwise_map]
  refine (List.Pairwise.filter _ List.pairwise_lt_range).imp ?_
  intro a b h
  omega
theorem tg_none {f : Nat → Bool} (h : ∀ m, f m = false) (k : Nat) : tg f k = [] := by
  induction k with
  | zero => rfl
  | succ k ih => rw [tg_off (h k), ih]
/-- All others. -/
theorem tg_others {f : Nat → Bool} {self : Int} (h : ∀ m : Nat, f m = decide ((m : Int) ≠ self)) (k : Nat) : ((tg f k).length : Int) = if 0 ≤ self ∧ self < k then (k : Int) - 1 else k := by
  induction k with
  | zero => simp [tg]
  | succ k ih =>
    by_cases e : (k : Int) = self
    · rw [tg_off (by rw [h]; simp [e]), ih, if_neg (by omega), if_pos (by omega)]
      omega
    · rw [← tg_on (by rw [h]; simp [e]), List.length_append]
      simp only [List.length_cons, List.length_nil, Nat.zero_add, Int.natCast_add, ih]
      by_cases c : 0 ≤ self ∧ self < k
      · rw [if_pos c, if_pos (by omega)]; first | done | omega
      · rw [if_neg c, if_neg (by omega)]; first | done | omega

set_option maxHeartbeats 2000000 in
theorem AdviceAsks_walk (n bl tt cs cy cc cu ct cp : Int) (self d0 d1 d2 : Int) (w : World) : Calls Try.prog 6 #[.agg #[.int .i64 n, .int .i64 bl, .int .i64 tt, .int .i64 cs, .int .i64 cy, .int .i64 cc, .int .i64 cu, .int .i64 ct, .int .i64 cp], .int .i64 self, .agg #[.int .i64 d0, .int .i64 d1, .int .i64 d2]] w fun e w' => e = .returned (.bool true) ∧ Below w.heap.size w w' := by
  by_cases c : n < 0 ∨ 64 < n
  · have hL : Hid (tgt n self cp d0 d1 = []) := hide (by rw [tgt, if_pos c])
    have c2 : (n < 0 ∧ n < 65) ∨ (64 < n ∧ ¬ n < 0) := by omega
    clear c
    rcases c2 with ⟨c, c'⟩ | ⟨c, c'⟩
    all_goals
      go_enter Try.func6, Try.ntmps6
      go_wp2_with fail
      go_at_call 10
      refine (targets_c n bl tt cs cy cc cu ct cp self d0 d1 d2 _ [] hL 0 (hide rfl)).mono ?_
      rintro e w' ⟨ao, cap, rfl, -, hb⟩
      obtain ⟨x, rfl⟩ := over hb
      clear hb
      go_wp2_with fail
      go_at_call 8
      refine (awake13_any _).mono ?_
      rintro e w' ⟨rfl, hb⟩
      obtain ⟨y, rfl⟩ := over2 hb
      clear hb
      go_wp2_with fail
      go_at_call 8
      refine (awake13_any _).mono ?_
      rintro e w' ⟨rfl, hb⟩
      obtain ⟨z, rfl⟩ := over2 hb
      clear hb
      go_wp2_with fail
      go_ret
      refine ⟨rfl, ?_⟩
      repeat' first | with_reducible exact Below.refl _ _ | with_reducible refine Below.setCell ?_ ?_ _ | with_reducible refine Below.alloc ?_ ?_ _ | with_reducible refine Below.drew ?_ | with_reducible refine belowN ?_ _ | with_reducible refine Over.go _ ?_ ?_ | with_reducible exact Nat.le_refl _ | with_reducible refine Over.sz _ _ ?_ | with_reducible refine le_alloc ?_ | with_reducible refine le_setCell ?_ | with_reducible refine le_drewN ?_ | with_reducible refine le_drew ?_ | omega | (dsimp only; omega)
  obtain ⟨K, rfl⟩ := Int.eq_ofNat_of_zero_le (show 0 ≤ n by omega)
  have c0 : ¬ (K : Int) < 0 := by omega
  have c1 : ¬ 64 < (K : Int) := by omega
  have hK : K ≤ 64 := by omega
  clear c
  obtain ⟨f, hf⟩ : ∃ f, Hid (fT self cp d0 d1 = f) := ⟨_, rfl⟩
  obtain ⟨L, hL2⟩ : ∃ L, Hid (tg f (K + 1) = L) := ⟨_, rfl⟩
  have hL : Hid (tgt K self cp d0 d1 = L) := hide (by rw [← hL2.out, tgt, if_neg (by omega), hf.out]; simp)
  obtain ⟨N, hN⟩ : ∃ N, Hid (L.length = N) := ⟨_, rfl⟩
  have hlen : N ≤ K + 1 := by rw [← hN.out, ← hL2.out]; exact tg_len _ _
  have hin : Hid (∀ y, y ∈ L → 0 ≤ y ∧ y ≤ K ∧ y ≠ self) := hide (fun y hy => by
    rw [← hL2.out] at hy
    obtain ⟨m, h1, h2, rfl⟩ := tg_mem hy
    rw [← hf.out] at h2
    simp only [fT, Bool.and_eq_true, decide_eq_true_iff] at h2
    exact ⟨by omega, by omega, h2.1⟩)
  have hup : Hid (∀ i (hi : i + 1 < L.length), L[i] < L[i + 1]) := hide (fun i hi => by
    have := tg_rise f (K + 1)
    rw [hL2.out] at this
    exact List.pairwise_iff_getElem.1 this i (i + 1) (by omega) hi (by omega))
  have hall : Hid (cp = 1 → (N : Int) = if 0 ≤ self ∧ self ≤ K then (K : Int) else K + 1) := hide (fun e => by
    have := tg_others (f := f) (self := self) (fun m => by rw [← hf.out]; simp [fT, askB, e]) (K + 1)
    rw [hL2.out, hN.out] at this
    rw [this]
    by_cases c : 0 ≤ self ∧ self ≤ K
    · rw [if_pos c, if_pos (by omega)]; omega
    · rw [if_neg c, if_neg (by omega)]; omega)
  have hnul : Hid (cp = 0 → N = 0) := hide (fun e => by
    have := tg_none (f := f) (fun m => by rw [← hf.out]; simp [fT, askB, e]) (K + 1)
    rw [hL2.out] at this
    rw [← hN.out, this]; rfl)
  clear hf hL2
  go_enter Try.func6, Try.ntmps6
  go_wp2_with fail
  go_at_call 10
  refine (targets_c K bl tt cs cy cc cu ct cp self d0 d1 d2 _ L hL N hN).mono ?_
  rintro e w' ⟨ao, cap, rfl, ⟨g, hV⟩, hb⟩
  obtain ⟨x, rfl⟩ := over hb
  replace hV := hide hV
  clear hb
  go_wp2_with fail
  go_at_call 8
  refine (awake13_any _).mono ?_
  rintro e w' ⟨rfl, hb⟩
  have hV2 := hV.out.below hb
  obtain ⟨y, rfl⟩ := over2 hb
  clear hb hV
  replace hV2 := hide hV2
  go_wp2_with fail
  refine name_world ?_
  intro W hW
  have hB : Below w.heap.size w W := by
    rw [← hW]
    repeat' first | with_reducible exact Below.refl _ _ | with_reducible refine Below.setCell ?_ ?_ _ | with_reducible refine Below.alloc ?_ ?_ _ | with_reducible refine Below.drew ?_ | with_reducible refine belowN ?_ _ | with_reducible refine Over.go _ ?_ ?_ | with_reducible exact Nat.le_refl _ | with_reducible refine Over.sz _ _ ?_ | with_reducible refine le_alloc ?_ | with_reducible refine le_setCell ?_ | with_reducible refine le_drewN ?_ | with_reducible refine le_drew ?_ | omega | (dsimp only; omega)
  have q0 : W.cell? ⟨w.heap.size, 0, none⟩ = some (.int .i64 K) := by rw [← hW]; simp [go_sem]
  have q8 : W.cell? ⟨w.heap.size, 8, none⟩ = some (.int .i64 cp) := by rw [← hW]; simp [go_sem]
  rw [hW] at hV2
  clear hW
  replace hB := hide hB
  obtain ⟨s, hs⟩ : ∃ s, Hid (w.heap.size = s) := ⟨_, rfl⟩
  rw [hs.out] at q0 q8 ⊢
  go_loopw [35] (fun i wr => ∃ j : Nat, j ≤ N ∧ i = .int .i64 j ∧ wr = W) (fun i _ => N - (intOf i).toNat)
  case atStart => exact ⟨0, Nat.zero_le _, rfl, rfl⟩
  case round =>
    obtain ⟨j, hj, rfl, rfl⟩ := hrel
    by_cases hlt : j < N
    · obtain ⟨-, -, -, hc⟩ := view_at hV2.out rfl
      have hjL : j < L.length := by rw [hN.out]; exact hlt
      obtain ⟨o, rfl, hb, hcell⟩ := hc j hjL
      obtain ⟨y, hy⟩ : ∃ y, L[j] = y := ⟨_, rfl⟩
      rw [hy] at hcell
      obtain ⟨y0, yK, ys⟩ := hin.out y (by rw [← hy]; exact List.getElem_mem _)
      have ys1 : (y == self) = false := by simp [ys]
      have ys2 : decide (y = self) = false := by simp [ys]
      replace ys := hide ys
      have hlt' : (j : Int) < N := by omega
      cases j with
      | zero =>
        clear hc hy
        simp only [Nat.add_zero] at hcell
        go_wp2_with fail
        go_roundw
        case rel => exact ⟨1, by omega, by simp, by first | rfl | trivial⟩
        case measure => simp [intOf]; omega
      | succ i =>
        obtain ⟨o', e, -, hcell'⟩ := hc i (by omega)
        cases e
        obtain ⟨z, hz⟩ : ∃ z, L[i] = z := ⟨_, rfl⟩
        have hzy : z < y := by rw [← hz, ← hy]; exact hup.out i hjL
        rw [hz] at hcell'
        clear hc hy hz
        have i0 : (0 : Int) < ((i + 1 : Nat) : Int) := by omega
        go_wp2_with fail
        go_roundw
        case rel => exact ⟨i + 1 + 1, by omega, by simp, by first | rfl | trivial⟩
        case measure => simp [intOf]; omega
    · obtain rfl : j = N := by omega
      have ha := hall.out
      have hn := hnul.out
      clear hall hnul
      have hsel : (0 ≤ self ∧ self ≤ K) ∨ (0 ≤ self ∧ ¬ self ≤ K) ∨ (¬ 0 ≤ self ∧ self ≤ 0) := by omega
      have hpol : (cp = 1 ∧ cp ≠ 0) ∨ (cp = 0 ∧ cp ≠ 1) ∨ (cp ≠ 1 ∧ cp ≠ 0) := by omega
      rcases hsel with ⟨s1, s2⟩ | ⟨s1, s2⟩ | ⟨s1, s2⟩ <;> rcases hpol with ⟨p1, p2⟩ | ⟨p1, p2⟩ | ⟨p1, p2⟩
      all_goals
        try (have p3 : (cp != 1) = true := by simp [p1])
        try (have p4 : (cp != 0) = true := by simp [p2])
        try (subst p1)
        try (have e := ha rfl; simp [s1, s2] at e)
        try (have e := hn rfl; subst e)
        replace ha := hide ha
        replace hn := hide hn
        go_wp2_with fail
        go_ret
        refine ⟨by simp [*], ?_⟩
        exact hB.out
end Go.Proofs.Ytipamgncalcaiaa
