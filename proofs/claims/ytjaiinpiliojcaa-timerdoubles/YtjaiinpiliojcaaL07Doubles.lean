/- The walk of TimerDoubles: it returns true; no old memory turns. -/
import Derived.Test.YtjaiinpiliojcaaLaw07
namespace Go.Proofs.Ytjaiinpiliojcaa
open Go.ChangeShapes Go.WideShapes Go.ChangeAt Go.RowKit
set_option linter.unusedSimpArgs false
set_option linter.unusedVariables false

attribute [local go_sem, local simp] over_const setCell_drewN alloc_drewN Over.cell Over.frozen lt_s1 lt_s2 lt_s3 le_s0 le_s1 le_s2 le_s3 eq_s0 eq_s1 eq_s2 qe_s0

/-- How it stands, with the ticks since the last try, and how long that is to be. -/
def SinceAt (c : Int) (T : Nat) (i l t : Int) (o : Bool) (since want : Int) : Prop :=
  (o = false ∧ ∃ j : Nat, j ≤ T ∧ t = j ∧ 1 ≤ l ∧ l ≤ longZ c j ∧ i + l = 2 * longZ c j - c ∧ want = longZ c j ∧ since + l = want) ∨ (o = true ∧ l = 0 ∧ t = T ∧ i = 2 * longZ c T - c)

theorem since_tick {c : Int} {T : Nat} {i l t since want : Int} {o : Bool} (c1 : 1 ≤ c) (c2 : c ≤ 64) (hT : T ≤ 8) (h : SinceAt c T i l t o since want) (hi : i < 2 * longZ c T - c) :
    o = false ∧ l ≤ 16384 ∧ 0 ≤ t ∧ 0 ≤ since ∧ since < want ∧ want ≤ 16384 ∧ i + 1 ≤ 2 * longZ c T - c ∧ ∃ r : Tk, tickT l t o c T = r ∧
      ((r.n = 0 ∧ SinceAt c T (i + 1) r.l r.t r.o (since + 1) want) ∨ (r.n = 1 ∧ since + 1 = want ∧ SinceAt c T (i + 1) r.l r.t r.o 0 (2 * want)) ∨ (r.n = 2 ∧ since + 1 = want ∧ SinceAt c T (i + 1) r.l r.t r.o 0 (2 * want))) := by
  rcases h with ⟨rfl, j, hj, rfl, l1, l2, e, e2, e3⟩ | ⟨_, _, _, e⟩
  · have b := longZ_bd c j c1 c2 (by omega)
    have m := longZ_mono c (by omega) hj
    refine ⟨rfl, by omega, by omega, by omega, by omega, by omega, by omega, _, rfl, ?_⟩
    unfold tickT
    rw [if_neg (by simp)]
    by_cases k1 : 1 < l
    · rw [if_pos k1]
      exact .inl ⟨rfl, .inl ⟨rfl, j, hj, rfl, by dsimp only; omega, by dsimp only; omega, by dsimp only; omega, e2, by dsimp only; omega⟩⟩
    · rw [if_neg k1]
      by_cases k2 : j < T
      · rw [if_pos (by omega), show ((j : Int) + 1) = ((j + 1 : Nat) : Int) by omega, longZ_double c (j + 1) c1 c2 (by omega)]
        have b' := longZ_bd c (j + 1) c1 c2 (by omega)
        have s := longZ_succ c j
        rw [show max (longZ c (j + 1)) 1 = longZ c (j + 1) by omega]
        exact .inr (.inl ⟨rfl, by omega, .inl ⟨rfl, j + 1, by omega, rfl, by dsimp only; omega, by dsimp only; omega, by dsimp only; omega, by omega, by dsimp only; omega⟩⟩)
      · rw [if_neg (by omega)]
        obtain rfl : j = T := by omega
        exact .inr (.inr ⟨rfl, by omega, .inr ⟨rfl, rfl, rfl, by omega⟩⟩)
  · omega

theorem since_start {c : Int} {T : Nat} (c1 : 1 ≤ c) : SinceAt c T 0 c 0 false 0 c :=
  .inl ⟨rfl, 0, by omega, rfl, c1, by rw [longZ_zero]; exact Int.le_refl _, by rw [longZ_zero]; omega, (longZ_zero c).symm, by omega⟩

set_option maxHeartbeats 2000000 in
theorem TimerDoubles_walk (wa tr : Int) (w : World) :
    Calls Try.prog 7 #[.int .i64 wa, .int .i64 tr] w fun e w' => e = .returned (.bool true) ∧ Below w.heap.size w w' := by
  obtain ⟨n, hn⟩ : ∃ n, Hid (totZ wa tr = n) := ⟨_, rfl⟩
  by_cases hin : (1 ≤ wa ∧ wa ≤ 64) ∧ 1 ≤ tr ∧ tr ≤ 8
  · obtain ⟨⟨i1, i2⟩, i3, i4⟩ := hin
    obtain ⟨T, rfl⟩ : ∃ T : Nat, tr = T := ⟨tr.toNat, by omega⟩
    have hT : T ≤ 8 := by omega
    have hN : Hid (n = 2 * longZ wa T - wa) := by rw [← unhide hn]; exact totZ_long _ _ i1 i2 hT
    have hm : max wa 1 = wa := by omega
    have hb := longZ_bd wa T i1 i2 hT
    have hm' := longZ_mono wa (by omega) (Nat.zero_le T)
    rw [longZ_zero] at hm'
    have n1 : 1 ≤ n := by have := unhide hN; omega
    have n2 : n ≤ 32768 := by have := unhide hN; omega
    clear hb hm'
    replace hm := hide hm
    go_enter Try.func7, Try.ntmps7
    go_wp2_with (first | (go_at_call 13; refine (totT_c _ _ _ _ hn).mono ?_; rintro e w' ⟨rfl, hw'⟩; rw [hw']; clear hw' w') | (go_at_call 10; refine (awake7_any _).mono ?_; rintro e w1 ⟨rfl, hb1⟩; have s1 := hb1.size; replace hb1 := hide hb1) | (go_at_call 11; refine (startT_c _ _ _ hm).mono ?_; rintro e w2 ⟨rfl, hb2⟩; have s2 := hb2.size; replace hb2 := hide hb2))
    go_loopw [6, 7, 34] (fun si wt i wr => ∃ (k : Nat) (l t since want : Int) (o : Bool), (k : Int) ≤ n ∧ i = .int .i64 k ∧ si = .int .i64 since ∧ wt = .int .i64 want ∧ TimAt wr w2.heap.size l t o ∧ Hid (SinceAt wa T k l t o since want) ∧ Below w.heap.size w wr) (fun _ _ i _ => n.toNat - (intOf i).toNat)
    case atStart =>
      refine ⟨0, wa, 0, 0, wa, false, by omega, rfl, rfl, rfl, ?_, since_start i1, ?_⟩
      · exact TimAt.new w2 wa 0 false _
      · exact ((unhide hb1).trans ((unhide hb2).mono s1)).alloc (by omega) _
    case round =>
      obtain ⟨k, l, t, since, want, o, hk, rfl, rfl, rfl, hT', hst, hb⟩ := hrel
      have HT := hide hT'
      obtain ⟨h0, q0, q1, q2, z0, z1, z2⟩ := hT'
      have sz := hb.size
      replace hb := hide hb
      by_cases hlt : (k : Int) < n
      · obtain ⟨rfl, g1, g2, g3, g4, g5, g6, ⟨rl, rt, ro, rn⟩, hr, hc⟩ := since_tick i1 i2 hT (unhide hst) (by rw [← unhide hN]; exact hlt)
        rw [← unhide hN] at g6
        dsimp only at hc
        replace hr := hide hr
        clear hst
        rcases hc with ⟨rfl, hs⟩ | ⟨rfl, e, hs⟩ | ⟨rfl, e, hs⟩
        all_goals
          replace hs := hide hs
          go_wp2_with (go_at_call 8; refine (tick_c _ _ _ _ _ _ (by omega) (by omega) (by omega) (by omega) _ hr).mono ?_; dsimp only; rintro e3 w3 ⟨rfl, hb3⟩; have s3 := hb3.size; have HT3 := hide ((unhide HT).below hb3); have hT3 := (unhide HT).below hb3; obtain ⟨h0', q0', q1', q2', z0', z1', z2'⟩ := hT3; replace hb3 := hide hb3; clear q0 q1 q2 z0 z1 z2)
          go_roundw
          case rel => exact ⟨k + 1, rl, rt, _, _, ro, by omega, by go_num, by first | rfl | go_num, by first | rfl | go_num, (unhide HT3).set _ _ _, by unfold Hid; rw [show ((k + 1 : Nat) : Int) = (k : Int) + 1 by omega]; exact unhide hs, ((unhide hb).trans ((unhide hb3).mono sz)).setCell (by dsimp only; omega) _ |>.setCell (by dsimp only; omega) _ |>.setCell (by dsimp only; omega) _⟩
          case measure => simp [intOf]; omega
      · have hag : o = true := by
          rcases unhide hst with ⟨rfl, j, hj, rfl, l1, l2, e, _⟩ | ⟨e, _⟩
          · have := unhide hN; have := longZ_mono wa (by omega) hj; omega
          · exact e
        subst hag
        go_wp2
        go_ret
        exact ⟨rfl, unhide hb⟩
  · by_cases c1 : wa < 1 <;> by_cases c2 : 64 < wa <;> by_cases c3 : tr < 1 <;> by_cases c4 : 8 < tr
    all_goals first | omega | skip
    all_goals
      clear hin
      go_enter Try.func7, Try.ntmps7
      go_wp2_with (go_at_call 10; refine (awake7_any _).mono ?_; rintro e w' ⟨rfl, hb⟩; obtain ⟨x, rfl⟩ := over hb; clear hb)
      go_ret
      refine ⟨rfl, ?_⟩
      repeat' first | with_reducible exact Below.refl _ _ | with_reducible refine Below.setCell ?_ ?_ _ | with_reducible refine Below.alloc ?_ ?_ _ | with_reducible refine Below.drew ?_ | with_reducible refine belowN ?_ _ | with_reducible refine Over.go _ ?_ ?_ | with_reducible exact Nat.le_refl _ | with_reducible refine Over.sz _ _ ?_ | with_reducible refine le_alloc ?_ | with_reducible refine le_setCell ?_ | with_reducible refine le_drewN ?_ | with_reducible refine le_drew ?_ | omega | (dsimp only; omega)
end Go.Proofs.Ytjaiinpiliojcaa
