/- Calls as the laws of layer 6 are handed them, in memory; great. -/
import Derived.Test.YtajcebnbmejamaaL06Drops
namespace Go.Proofs.Ytajcebnbmejamaa
open Go.ChangeShapes Go.WideShapes Go.ChangeAt Go.RowKit
set_option linter.unusedSimpArgs false
set_option linter.unusedVariables false

attribute [local go_sem, local simp] over_const setCell_drewN alloc_drewN Over.cell Over.frozen lt_s1 lt_s2 lt_s3 le_s0 le_s1 le_s2 le_s3 eq_s0 eq_s1 eq_s2 qe_s0

/-- A call: its kind, its place, its letters (the slice, their block, they themselves). -/
structure ActD where
  k : Int
  i : Int
  v : Value
  b : Nat
  M : List Lt

/-- A slice of calls, all of it below block B. -/
def ActsAt (B : Nat) (w : World) (v : Value) (A : List ActD) : Prop :=
  ∃ ao cap, v = .slice ao A.length cap ∧ A.length ≤ cap ∧ cap ≤ maxLen ∧
    (A = [] ∨ ∃ ba o, ao = some ⟨ba, o, none⟩ ∧ ba < B ∧ ∀ j (h : j < A.length), w.cell? ⟨ba, o + j * 3, none⟩ = some (.int .i64 A[j].k) ∧ w.cell? ⟨ba, o + j * 3 + 1, none⟩ = some (.int .i64 A[j].i) ∧ w.cell? ⟨ba, o + j * 3 + 2, none⟩ = some A[j].v ∧ View w A[j].v A[j].b A[j].M ∧ (A[j].M ≠ [] → A[j].b < B))

theorem acts_row {B n cap : Nat} {w wr : World} {ao : Option Addr} {A : List ActD} (h : ActsAt B w (.slice ao n cap) A) (hb : Below B w wr) {j : Nat} (hj : j < A.length) : ∃ ba o aoj capj, ao = some ⟨ba, o, none⟩ ∧ ba < B ∧ wr.cell? ⟨ba, o + j * 3, none⟩ = some (.int .i64 A[j].k) ∧ wr.cell? ⟨ba, o + j * 3 + 1, none⟩ = some (.int .i64 A[j].i) ∧
    wr.cell? ⟨ba, o + j * 3 + 2, none⟩ = some (.slice aoj A[j].M.length capj) ∧ View wr (.slice aoj A[j].M.length capj) A[j].b A[j].M ∧ A[j].M.length ≤ capj ∧ capj ≤ 9223372036854775807 ∧ (A[j].M ≠ [] → A[j].b < B) := by
  obtain ⟨ao', cap', e, _, _, h3⟩ := h
  obtain ⟨rfl, _, rfl⟩ : ao' = ao ∧ A.length = n ∧ cap' = cap := by simpa [eq_comm] using e
  rcases h3 with rfl | ⟨ba, o, rfl, hl, h⟩
  · simp at hj
  obtain ⟨h1, h2, h3, h4, h5⟩ := h j hj
  have h6 := h4.carry (w' := wr) (fun hn _ => hb.block _ (h5 hn))
  obtain ⟨aoj, capj, e, h7, h8, _⟩ := id h4
  rw [e] at h3 h6
  unfold maxLen at h8
  exact ⟨ba, o, aoj, capj, rfl, hl, (hb.cell (p := ⟨ba, _, none⟩) hl).trans h1, (hb.cell (p := ⟨ba, _, none⟩) hl).trans h2, (hb.cell (p := ⟨ba, _, none⟩) hl).trans h3, h6, h7, by omega, h5⟩

theorem ActsAt.below {B : Nat} {w w' : World} {v : Value} {A : List ActD} (h : ActsAt B w v A) (hb : Below B w w') : ActsAt B w' v A := by
  obtain ⟨ao, cap, rfl, h1, h2, h3⟩ := h
  refine ⟨ao, cap, rfl, h1, h2, h3.imp id ?_⟩
  rintro ⟨ba, o, rfl, hl, h⟩
  refine ⟨ba, o, rfl, hl, fun j hj => ?_⟩
  obtain ⟨a1, a2, a3, a4, a5⟩ := h j hj
  exact ⟨(hb.cell (p := ⟨ba, _, none⟩) hl).trans a1, (hb.cell (p := ⟨ba, _, none⟩) hl).trans a2, (hb.cell (p := ⟨ba, _, none⟩) hl).trans a3, a4.carry (fun hn _ => hb.block _ (a5 hn)), a5⟩

set_option maxHeartbeats 1000000 in
theorem great_c (B : Nat) (v : Value) (A : List ActD) (w : World) (h : ActsAt B w v A) (hB : B ≤ w.heap.size) : Calls Try.prog 10 #[v] w fun e w' => ∃ q, e = .returned (.bool q) ∧ Below w.heap.size w w' ∧ (q = false → A.length ≤ 200 ∧ ∀ j (h : j < A.length), A[j].M.length ≤ 50) := by
  have hA := hide h
  obtain ⟨ao, cap, rfl, hlc, hmx, _⟩ := h
  have hmx' : cap ≤ 9223372036854775807 := by unfold maxLen at hmx; omega
  by_cases c : (200 : Int) < A.length
  · go_enter Try.func10, Try.ntmps10
    go_wp2_with fail
    go_ret
    exact ⟨true, rfl, Below.refl _ _, fun h => by simp at h⟩
  · go_enter Try.func10, Try.ntmps10
    go_wp2_with fail
    go_loopw [10] (fun i wr => ∃ j : Nat, j ≤ A.length ∧ i = .int .i64 j ∧ Below w.heap.size w wr ∧ ∀ j' (h : j' < A.length), j' < j → A[j'].M.length ≤ 50) (fun i _ => A.length - (intOf i).toNat)
    case atStart => exact ⟨0, Nat.zero_le _, rfl, Below.refl _ _, fun j' _ h => by omega⟩
    case round =>
      obtain ⟨j, hj, rfl, hb, hs⟩ := hrel
      have sz := hb.size
      by_cases hlt : j < A.length
      · obtain ⟨ba, o, aoj, capj, rfl, hl, c0, c1, c2, hv, h7, h8, _⟩ := acts_row (unhide hA) (hb.mono hB) hlt
        obtain ⟨m, hm⟩ : ∃ m, A[j].M.length = m := ⟨_, rfl⟩
        rw [hm] at c2 h7
        have hlt' : (j : Int) < A.length := by omega
        have hs' := hide hs
        have hm' := hide hm
        replace hb := hide hb
        clear hs hv hm
        by_cases c5 : (50 : Int) < m
        · go_wp2_with fail
          go_ret
          exact ⟨true, rfl, (unhide hb).alloc sz _, fun h => by simp at h⟩
        · go_wp2_with fail
          go_roundw
          case rel =>
            refine ⟨j + 1, by omega, by simp, (unhide hb).alloc sz _, fun j' h1 h2 => ?_⟩
            rcases Nat.lt_or_eq_of_le (Nat.le_of_lt_succ h2) with h3 | rfl
            · exact unhide hs' j' h1 h3
            · rw [unhide hm']; omega
          case measure => simp [intOf]; omega
      · have hs' := hide hs
        replace hb := hide hb
        clear hs
        go_wp2_with fail
        go_ret
        exact ⟨false, rfl, unhide hb, fun _ => ⟨by omega, fun j' h => unhide hs' j' h (by omega)⟩⟩
end Go.Proofs.Ytajcebnbmejamaa
