/- The walk of TimerOnce: it returns true; no old memory turns. -/
import Derived.Test.YtjaiinpiliojcaaLaw07
import Derived.Test.YtjaiinpiliojcaaRowsOf
namespace Go.Proofs.Ytjaiinpiliojcaa
open Go.ChangeShapes Go.WideShapes Go.ChangeAt Go.RowKit
set_option linter.unusedSimpArgs false
set_option linter.unusedVariables false

attribute [local go_sem, local simp] over_const setCell_drewN alloc_drewN Over.cell Over.frozen lt_s1 lt_s2 lt_s3 le_s0 le_s1 le_s2 le_s3 eq_s0 eq_s1 eq_s2 qe_s0

theorem row_int {W : World} {ao : Option Addr} {len : Nat}
    (r : len = 0 ∨ ∃ (b off : Nat) (R : Nat → List Value), ao = some ⟨b, off, none⟩ ∧ ∀ i, i < len → allLeaf [some .i64] (R i) ∧ ∀ j, j < 1 → W.cell? ⟨b, off + i * 1 + j, none⟩ = (R i)[j]?) (k : Nat) (hk : k < len) :
    ∃ (b off : Nat) (x : Int), ao = some ⟨b, off, none⟩ ∧ b < W.heap.size ∧ W.cell? ⟨b, off + k, none⟩ = some (.int .i64 x) ∧ -9223372036854775808 ≤ x ∧ x ≤ 9223372036854775807 := by
  rcases r with r | ⟨b, off, R, rfl, h⟩
  · omega
  · obtain ⟨h1, h2⟩ := h k hk
    obtain ⟨x, v1, e1, hw, h1⟩ := allLeaf_int h1
    obtain rfl := allLeaf_nil h1
    have c0 := h2 0 (by omega)
    rw [e1] at c0
    have c0' : W.cell? ⟨b, off + k, none⟩ = some (.int .i64 x) := by simpa using c0
    exact ⟨b, off, x, rfl, World.block_lt_of_cell? _ _ c0', c0', bd64 hw⟩

theorem once_tick (l t : Int) (o : Bool) (wa tr : Int) (b1 : l ≤ 9223372036854775807) (b2 : -9223372036854775808 ≤ t) : ∃ r : Tk, tickT l t o wa tr = r ∧ r.l ≤ 9223372036854775807 ∧ -9223372036854775808 ≤ r.t ∧ t ≤ r.t ∧ (o = true ∧ r.o = true ∧ r.n = 0 ∧ r.l = l ∧ r.t = t ∨ o = false ∧ r.o = true ∧ r.n = 2 ∨ o = false ∧ r.o = false ∧ (r.n = 0 ∨ r.n = 1)) := by
  refine ⟨_, rfl, ?_⟩
  unfold tickT
  cases o
  · rw [if_neg (by simp)]
    split
    · simp; omega
    · split
      · have := doubleZ_bd wa (t + 1) 1048576
        simp; omega
      · simp; omega
  · simp; omega

set_option maxHeartbeats 2000000 in
theorem TimerOnce_walk (l t : Int) (o : Bool) (ao : Option Addr) (len cap : Nat) (w : World) (b1 : l ≤ 9223372036854775807) (b2 : -9223372036854775808 ≤ t) (hlc : len ≤ cap) (hcap : cap ≤ maxLen)
    (r : len = 0 ∨ ∃ (b off : Nat) (R : Nat → List Value), ao = some ⟨b, off, none⟩ ∧ ∀ i, i < len → allLeaf [some .i64] (R i) ∧ ∀ j, j < 1 → w.cell? ⟨b, off + i * 1 + j, none⟩ = (R i)[j]?) :
    Calls Try.prog 5 #[.agg #[.int .i64 l, .int .i64 t, .bool o], .slice ao len cap] w fun e w' => e = .returned (.bool true) ∧ Below w.heap.size w w' := by
  unfold maxLen at hcap
  have hr := hide (row_int r)
  clear r
  by_cases c : (300 : Int) < len
  · go_enter Try.func5, Try.ntmps5
    go_wp2_with (first | (go_at_call 10; refine (awake7_any _).mono ?_; rintro e w' ⟨rfl, hb⟩; obtain ⟨x, rfl⟩ := over hb; clear hb) | (go_at_call 10; refine (awake7_any _).mono ?_; rintro e w' ⟨rfl, hb⟩; obtain ⟨x, rfl⟩ := over2 hb; clear hb))
    go_ret
    refine ⟨rfl, ?_⟩
    repeat' first | with_reducible exact Below.refl _ _ | with_reducible refine Below.setCell ?_ ?_ _ | with_reducible refine Below.alloc ?_ ?_ _ | with_reducible refine Below.drew ?_ | with_reducible refine belowN ?_ _ | with_reducible refine Over.go _ ?_ ?_ | with_reducible exact Nat.le_refl _ | with_reducible refine Over.sz _ _ ?_ | with_reducible refine le_alloc ?_ | with_reducible refine le_setCell ?_ | with_reducible refine le_drewN ?_ | with_reducible refine le_drew ?_ | omega | (dsimp only; omega)
  · go_enter Try.func5, Try.ntmps5
    go_wp2_with (go_at_call 10; refine (awake7_any _).mono ?_; rintro e w1 ⟨rfl, hb1⟩; have s1 := hb1.size; simp only [World.size_alloc] at s1; have hT1 := hide ((TimAt.new w l t o _).below hb1); replace hb1 := hide (((Below.refl _ _).alloc (Nat.le_refl _) _).trans (hb1.mono (by simp))))
    go_loopw [19] (fun i wr => ∃ (k : Nat) (l t : Int) (o : Bool), k ≤ len ∧ i = .int .i64 k ∧ l ≤ 9223372036854775807 ∧ -9223372036854775808 ≤ t ∧ TimAt wr w.heap.size l t o ∧ Below w.heap.size w wr) (fun i _ => len - (intOf i).toNat)
    case atStart => exact ⟨0, l, t, o, Nat.zero_le _, rfl, b1, b2, unhide hT1, unhide hb1⟩
    case round =>
      clear b1 b2 hT1
      obtain ⟨k, l, t, o, hk, rfl, b1, b2, hT, hb⟩ := hrel
      have sz := hb.size
      have HT := hide hT
      obtain ⟨h0, q0, q1, q2, z0, z1, z2⟩ := hT
      by_cases hlt : k < len
      · obtain ⟨b, off, x, rfl, hbl, c0, x1, x2⟩ := unhide hr k hlt
        replace c0 := (hb.cell (p := ⟨b, _, none⟩) hbl).trans c0
        replace hb := hide hb
        have hlt' : (k : Int) < len := by omega
        have x4 : x.tmod 5 ≤ 4 := by have := Int.tmod_lt_of_pos x (show 0 < 5 by omega); omega
        obtain ⟨y, hy⟩ : ∃ y, x.tmod 5 = y := ⟨_, rfl⟩
        rw [hy] at x4
        obtain ⟨⟨rl, rt, ro, rn⟩, hq, r1, r2, r3, hc⟩ := once_tick l t o x y b1 b2
        dsimp only at r1 r2 r3 hc
        replace hq := hide hq
        rcases hc with ⟨rfl, rfl, rfl, rfl, rfl⟩ | ⟨rfl, rfl, rfl⟩ | ⟨rfl, rfl, rfl | rfl⟩
        all_goals
          go_wp2_with (go_at_call 8; refine (tick_c _ _ _ _ _ _ b1 b2 x2 (by omega) _ hq).mono ?_; dsimp only; rintro e w3 ⟨rfl, hb3⟩; have s3 := hb3.size; simp only [World.size_alloc] at s3; have HT3 := hide (((unhide HT).alloc _).below hb3); have hT3 := ((unhide HT).alloc _).below hb3; obtain ⟨h0', q0', q1', q2', z0', z1', z2'⟩ := hT3; have hT4 := (TimAt.new wr _ _ _ _).below hb3; obtain ⟨h0'', q0'', q1'', q2'', z0'', z1'', z2''⟩ := hT4; replace hb3 := hide hb3; clear q0 q1 q2 z0 z1 z2 c0)
          go_roundw
          case rel => exact ⟨k + 1, _, _, _, by omega, by go_num, r1, r2, (unhide HT3).set _ _ _, (((unhide hb).alloc sz _).trans ((unhide hb3).mono (by simp; omega))).setCell (by dsimp only; omega) _ |>.setCell (by dsimp only; omega) _ |>.setCell (by dsimp only; omega) _⟩
          case measure => simp [intOf]; omega
      · go_wp2
        go_ret
        exact ⟨rfl, hb⟩
end Go.Proofs.Ytjaiinpiliojcaa
