/- The walk of PermLoads: it returns true; no old memory turns. -/
import Derived.Test.YtohjopdfbjjipaaLaw03
import Derived.Test.YtohjopdfbjjipaaRowsOf
namespace Go.Proofs.Ytohjopdfbjjipaa
open Go.ChangeShapes Go.WideShapes Go.ChangeAt Go.RowKit
set_option linter.unusedSimpArgs false
set_option linter.unusedVariables false

attribute [local go_sem, local simp] over_const setCell_drewN alloc_drewN Over.cell Over.frozen lt_s1 lt_s2 lt_s3 le_s0 le_s1 le_s2 le_s3 eq_s0 eq_s1 eq_s2 qe_s0

theorem row_op {W : World} {ao : Option Addr} {len : Nat}
    (r : len = 0 ∨ ∃ (b off : Nat) (R : Nat → List Value), ao = some ⟨b, off, none⟩ ∧ ∀ i, i < len → allLeaf [some .i64, none, some .i64] (R i) ∧ ∀ j, j < 3 → W.cell? ⟨b, off + i * 3 + j, none⟩ = (R i)[j]?) (k : Nat) (hk : k < len) :
    ∃ (b off : Nat) (x : Int) (y : Bool) (z : Int), ao = some ⟨b, off, none⟩ ∧ b < W.heap.size ∧ W.cell? ⟨b, off + k * 3, none⟩ = some (.int .i64 x) ∧ W.cell? ⟨b, off + k * 3 + 1, none⟩ = some (.bool y) ∧ W.cell? ⟨b, off + k * 3 + 2, none⟩ = some (.int .i64 z) := by
  rcases r with r | ⟨b, off, R, rfl, h⟩
  · omega
  · obtain ⟨h1, h2⟩ := h k hk
    obtain ⟨x, v1, e1, _, h1⟩ := allLeaf_int h1
    obtain ⟨y, v2, e2, h1⟩ := allLeaf_bool h1
    obtain ⟨z, v3, e3, _, h1⟩ := allLeaf_int h1
    obtain rfl := allLeaf_nil h1
    rw [e3] at e2
    rw [e2] at e1
    have c0 := h2 0 (by omega)
    have c1 := h2 1 (by omega)
    have c2 := h2 2 (by omega)
    rw [e1] at c0 c1 c2
    refine ⟨b, off, x, y, z, rfl, ?_, c0, c1, c2⟩
    exact World.block_lt_of_cell? _ _ c0

set_option maxHeartbeats 2000000 in
theorem PermLoads_walk (n : Int) (o h : Bool) (d t : Int) (ao : Option Addr) (len cap : Nat) (w : World) (hlc : len ≤ cap) (hcap : cap ≤ maxLen)
    (r : len = 0 ∨ ∃ (b off : Nat) (R : Nat → List Value), ao = some ⟨b, off, none⟩ ∧ ∀ i, i < len → allLeaf [some .i64, none, some .i64] (R i) ∧ ∀ j, j < 3 → w.cell? ⟨b, off + i * 3 + j, none⟩ = (R i)[j]?) :
    Calls Try.prog 5 #[.agg #[.int .i64 n, .bool o, .bool h, .int .i64 d], .int .i64 t, .slice ao len cap] w fun e w' => e = .returned (.bool true) ∧ Below w.heap.size w w' := by
  unfold maxLen at hcap
  have hr := hide (row_op r)
  clear r
  by_cases c : (200 : Int) < len
  · go_enter Try.func5, Try.ntmps5
    go_wp2_with (first | (go_at_call 9; refine (awake3_any _).mono ?_; rintro e w' ⟨rfl, hb⟩; obtain ⟨x, rfl⟩ := over hb; clear hb) | (go_at_call 9; refine (awake3_any _).mono ?_; rintro e w' ⟨rfl, hb⟩; obtain ⟨x, rfl⟩ := over2 hb; clear hb))
    go_ret
    refine ⟨rfl, ?_⟩
    repeat' first | with_reducible exact Below.refl _ _ | with_reducible refine Below.setCell ?_ ?_ _ | with_reducible refine Below.alloc ?_ ?_ _ | with_reducible refine Below.drew ?_ | with_reducible refine belowN ?_ _ | with_reducible refine Over.go _ ?_ ?_ | with_reducible exact Nat.le_refl _ | with_reducible refine Over.sz _ _ ?_ | with_reducible refine le_alloc ?_ | with_reducible refine le_setCell ?_ | with_reducible refine le_drewN ?_ | with_reducible refine le_drew ?_ | omega | (dsimp only; omega)
  · go_enter Try.func5, Try.ntmps5
    go_wp2_with (first | (go_at_call 9; refine (awake3_any _).mono ?_; rintro e w' ⟨rfl, hb⟩; obtain ⟨x, rfl⟩ := over hb; clear hb) | (go_at_call 9; refine (awake3_any _).mono ?_; rintro e w' ⟨rfl, hb⟩; obtain ⟨x, rfl⟩ := over2 hb; clear hb))
    go_loopw [23] (fun i wr => ∃ (k : Nat) (d' : Int), k ≤ len ∧ i = .int .i64 k ∧ wr.cell? ⟨w.heap.size, 0, none⟩ = some (.int .i64 n) ∧ wr.cell? ⟨w.heap.size, 1, none⟩ = some (.bool o) ∧ wr.cell? ⟨w.heap.size, 2, none⟩ = some (.bool h) ∧ wr.cell? ⟨w.heap.size, 3, none⟩ = some (.int .i64 d') ∧
        wr.frozen? ⟨w.heap.size, 0, none⟩ = false ∧ wr.frozen? ⟨w.heap.size, 1, none⟩ = false ∧ wr.frozen? ⟨w.heap.size, 2, none⟩ = false ∧ wr.frozen? ⟨w.heap.size, 3, none⟩ = false ∧ Below w.heap.size w wr ∧ w.heap.size < wr.heap.size)
      (fun i _ => len - (intOf i).toNat)
    case atStart =>
      refine ⟨0, d, Nat.zero_le _, rfl, ?_, ?_, ?_, ?_, ?_, ?_, ?_, ?_, ?_, ?_⟩
      case refine_9 => exact x.go ((Below.refl _ _).alloc (Nat.le_refl _) _) (by simp)
      case refine_10 => exact x.up (b := w.heap.size) (by simp)
      all_goals simp [go_sem, *]
    case round =>
      obtain ⟨k, d', hk, rfl, h0, h1, h2, h3, g0, g1, g2, g3, hb, hs⟩ := hrel
      by_cases hlt : k < len
      · obtain ⟨b, off, bk, wk, vk, rfl, hbl, c0, c1, c2⟩ := unhide hr k hlt
        replace c0 := (hb.cell (p := ⟨b, _, none⟩) hbl).trans c0
        replace c1 := (hb.cell (p := ⟨b, _, none⟩) hbl).trans c1
        replace c2 := (hb.cell (p := ⟨b, _, none⟩) hbl).trans c2
        obtain ⟨q, hq⟩ : ∃ q, Hid (canB wk n h t = q) := ⟨_, rfl⟩
        obtain ⟨d'', hd⟩ : ∃ e, Hid ((if (q && wk) = true then vk else d') = e) := ⟨_, rfl⟩
        obtain ⟨x', hx⟩ : ∃ e, Hid ((if q = true then d'' else 0) = e) := ⟨_, rfl⟩
        have hf : (q = false ∧ d'' = d') ∨ (q = true ∧ x' = d'' ∧ (wk = true ∨ wk = false ∧ d'' = d')) := by
          have a1 := unhide hd
          have a2 := unhide hx
          cases q <;> cases wk <;> simp_all
        rcases hf with ⟨rfl, rfl⟩ | ⟨rfl, rfl, rfl | ⟨rfl, rfl⟩⟩
        all_goals
          go_wp2_with fail
          go_at_call 13
          refine (do_c _ _ _ _ _ _ _ _ _ _ hq _ _ hd hx).mono ?_
          rintro e w' ⟨rfl, hbo⟩
          obtain ⟨y, rfl⟩ := over hbo
          clear hbo
          have f0 := y.up (b := w.heap.size) (by first | omega | (simp only [World.size_alloc]; omega))
          have f1 := y.up (b := wr.heap.size) (by first | omega | (simp only [World.size_alloc]; omega))
          have f2 := y.up (b := wr.heap.size + 1) (by first | omega | (simp only [World.size_alloc]; omega))
          have k0 : y.w.cell? ⟨w.heap.size, 0, none⟩ = some (.int .i64 n) := (y.cell _ _ (by simp only [World.size_alloc]; omega)).trans (by simp [go_sem, *])
          have k1 : y.w.cell? ⟨w.heap.size, 1, none⟩ = some (.bool o) := (y.cell _ _ (by simp only [World.size_alloc]; omega)).trans (by simp [go_sem, *])
          have k2 : y.w.cell? ⟨w.heap.size, 2, none⟩ = some (.bool h) := (y.cell _ _ (by simp only [World.size_alloc]; omega)).trans (by simp [go_sem, *])
          have k3 : ∃ e, y.w.cell? ⟨w.heap.size, 3, none⟩ = some (.int .i64 e) := ⟨_, (y.cell _ _ (by simp only [World.size_alloc]; omega)).trans (by simp [go_sem, *]; rfl)⟩
          obtain ⟨e3, k3⟩ := k3
          have z0 : y.w.frozen? ⟨w.heap.size, 0, none⟩ = false := (y.frozen _ _ (by simp only [World.size_alloc]; omega)).trans (by simp [go_sem, *])
          have z1 : y.w.frozen? ⟨w.heap.size, 1, none⟩ = false := (y.frozen _ _ (by simp only [World.size_alloc]; omega)).trans (by simp [go_sem, *])
          have z2 : y.w.frozen? ⟨w.heap.size, 2, none⟩ = false := (y.frozen _ _ (by simp only [World.size_alloc]; omega)).trans (by simp [go_sem, *])
          have z3 : y.w.frozen? ⟨w.heap.size, 3, none⟩ = false := (y.frozen _ _ (by simp only [World.size_alloc]; omega)).trans (by simp [go_sem, *])
          have BB := hide (y.go (hb.alloc (Nat.le_of_lt hs) _ |>.alloc (by simp; omega) _) (by simp; omega))
          go_wp2_with fail
          all_goals
            go_roundw
            case rel =>
              refine ⟨k + 1, (by first | exact d'' | exact x' | exact d'), by omega, by go_num, ?_, ?_, ?_, ?_, ?_, ?_, ?_, ?_, ?_, ?_⟩
              case refine_9 =>
                repeat' first | exact unhide BB | with_reducible refine Below.setCell ?_ ?_ _ | with_reducible refine Below.alloc ?_ ?_ _ | (dsimp only; omega) | (simp only [World.size_alloc, World.size_setCell]; omega)
              case refine_10 => simp only [World.size_alloc, World.size_setCell]; omega
              all_goals simp [go_sem, k0, k1, k2, k3, z0, z1, z2, z3, f0]
            case measure => simp [intOf]; omega
      · go_wp2
        go_ret
        exact ⟨rfl, hb⟩
end Go.Proofs.Ytohjopdfbjjipaa
