/- The document's table in memory; over, Active (layer 11). -/
import Derived.Test.YtgaabbnfjapcjaaRtMath
import Derived.Test.YtgaabbnfjapcjaaHand2
import Derived.BigQuiet
namespace Go.Proofs.Ytgaabbnfjapcjaa
open Go.ChangeShapes Go.WideShapes Go.ChangeAt Go.RowKit
set_option linter.unusedSimpArgs false
set_option linter.unusedVariables false
set_option maxRecDepth 10000

attribute [local go_sem, local simp] over_const setCell_drewN alloc_drewN Over.cell Over.frozen lt_s1 lt_s2 lt_s3 le_s0 le_s1 le_s2 le_s3 eq_s0 eq_s1 eq_s2 qe_s0

/-- A request in a block of its own, that may be written. -/
structure AtW (w : World) (b : Nat) (x : At) : Prop where
  lt : b < w.heap.size
  c0 : w.cell? ⟨b, 0, none⟩ = some (.int .i64 x.b)
  c1 : w.cell? ⟨b, 1, none⟩ = some (.int .i64 x.n)
  c2 : w.cell? ⟨b, 2, none⟩ = some (.int .i64 x.s)
  f0 : w.frozen? ⟨b, 0, none⟩ = false
  f1 : w.frozen? ⟨b, 1, none⟩ = false
  f2 : w.frozen? ⟨b, 2, none⟩ = false

theorem AtW.carry {w w' : World} {b : Nat} {x : At} (h : AtW w b x) (e : w'.heap[b]? = w.heap[b]?) : AtW w' b x :=
  ⟨block_lt h.lt e, keep_cell e h.c0, keep_cell e h.c1, keep_cell e h.c2, keep_frozen e h.f0, keep_frozen e h.f1, keep_frozen e h.f2⟩
theorem AtW.below {w w' : World} {b : Nat} {x : At} (h : AtW w b x) (hb : Below w.heap.size w w') : AtW w' b x := h.carry (hb.block b h.lt)
theorem AtW.fr {w w' : World} {b : Nat} {x : At} {F : Nat → Prop} (h : AtW w b x) (hf : FrS F w w') (hn : ¬ F b) : AtW w' b x := h.carry (hf.block b h.lt hn)
abbrev atwO (x : At) : Obj := .cells #[.int .i64 x.b, .int .i64 x.n, .int .i64 x.s] 31
theorem atw_new (w : World) (x : At) : AtW (w.alloc (atwO x)) w.heap.size x :=
  ⟨by simp, by simp [go_sem], by simp [go_sem], by simp [go_sem], by simp [go_sem], by simp [go_sem], by simp [go_sem]⟩
theorem FrS.wrA {B : Nat} {a b : World} (h : FrS (· = B) a b) {o : Nat} (u : Value) : FrS (· = B) a (b.setCell ⟨B, o, none⟩ u) := h.setCell (q := ⟨B, o, none⟩) (.inl rfl) u
abbrev setW (w : World) (B : Nat) (x : At) : World := (((w.setCell ⟨B, 0, none⟩ (.int .i64 x.b)).setCell ⟨B, 1, none⟩ (.int .i64 x.n)).setCell ⟨B, 2, none⟩ (.int .i64 x.s))
theorem set_w {w : World} {B : Nat} {y : At} (h : AtW w B y) (x : At) : AtW (setW w B x) B x ∧ FrS (· = B) w (setW w B x) := by
  obtain ⟨y5, y0, y1, y2, z0, z1, z2⟩ := h
  refine ⟨⟨by simp; exact y5, by simp [go_sem, *], by simp [go_sem, *], by simp [go_sem, *], by simp [go_sem, *], by simp [go_sem, *], by simp [go_sem, *]⟩, ?_⟩
  exact (((FrS.refl _ _).wrA _).wrA _).wrA _

/-- The document's table in block p: all requests, all ends. -/
structure RtIs (w : World) (p g1 g2 : Nat) (On Off : List At) : Prop where
  lt : p < w.heap.size
  c0 : ∃ ao cap, w.cell? ⟨p, 0, none⟩ = some (.slice ao On.length cap) ∧ ViewA w (.slice ao On.length cap) g1 On
  c1 : ∃ ao cap, w.cell? ⟨p, 1, none⟩ = some (.slice ao Off.length cap) ∧ ViewA w (.slice ao Off.length cap) g2 Off
  f0 : w.frozen? ⟨p, 0, none⟩ = false
  f1 : w.frozen? ⟨p, 1, none⟩ = false
  n1 : On ≠ [] → g1 ≠ p
  n2 : Off ≠ [] → g2 ≠ p

theorem RtIs.carry {w w' : World} {p g1 g2 : Nat} {On Off : List At} (h : RtIs w p g1 g2 On Off) (ep : w'.heap[p]? = w.heap[p]?) (e1 : On ≠ [] → w'.heap[g1]? = w.heap[g1]?) (e2 : Off ≠ [] → w'.heap[g2]? = w.heap[g2]?) : RtIs w' p g1 g2 On Off := by
  obtain ⟨a1, c1, h1, h2⟩ := h.c0
  obtain ⟨a2, c2, h3, h4⟩ := h.c1
  exact ⟨block_lt h.lt ep, ⟨a1, c1, keep_cell ep h1, h2.carry (fun hn _ => e1 hn)⟩, ⟨a2, c2, keep_cell ep h3, h4.carry (fun hn _ => e2 hn)⟩, keep_frozen ep h.f0, keep_frozen ep h.f1, h.n1, h.n2⟩
theorem RtIs.l1 {w : World} {p g1 g2 : Nat} {On Off : List At} (h : RtIs w p g1 g2 On Off) (hn : On ≠ []) : g1 < w.heap.size := by obtain ⟨_, _, _, h⟩ := h.c0; exact h.lt_of hn
theorem RtIs.l2 {w : World} {p g1 g2 : Nat} {On Off : List At} (h : RtIs w p g1 g2 On Off) (hn : Off ≠ []) : g2 < w.heap.size := by obtain ⟨_, _, _, h⟩ := h.c1; exact h.lt_of hn
theorem RtIs.below {w w' : World} {p g1 g2 : Nat} {On Off : List At} (h : RtIs w p g1 g2 On Off) (hb : Below w.heap.size w w') : RtIs w' p g1 g2 On Off :=
  h.carry (hb.block p h.lt) (fun hn => hb.block g1 (h.l1 hn)) (fun hn => hb.block g2 (h.l2 hn))
theorem RtIs.fr {w w' : World} {p g1 g2 : Nat} {On Off : List At} {F : Nat → Prop} (h : RtIs w p g1 g2 On Off) (hf : FrS F w w') (hp : ¬ F p) (h1 : On ≠ [] → ¬ F g1) (h2 : Off ≠ [] → ¬ F g2) : RtIs w' p g1 g2 On Off :=
  h.carry (hf.block p h.lt hp) (fun hn => hf.block g1 (h.l1 hn) (h1 hn)) (fun hn => hf.block g2 (h.l2 hn) (h2 hn))

set_option maxHeartbeats 1000000 in
theorem rOver_c (p g1 g2 : Nat) (On Off : List At) (b : Int) (w : World) (h : RtIs w p g1 g2 On Off) (n : Int) (hn : Hid (dO Off b = n)) : Calls Try.prog 21 #[ptr p, .int .i64 b] w fun e w' => e = .returned (.int .i64 n) ∧ w' = w := by
  obtain ⟨ao, cap, q0, hV⟩ := h.c1
  have hmx : Off.length ≤ 9223372036854775807 := by obtain ⟨_, _, _, h1, h2, _⟩ := hV; unfold maxLen at h2; omega
  replace hV := hide hV
  clear h
  go_enter Try.func21, Try.ntmps21
  go_wp2_with fail
  go_loopw [5, 6] (fun v i wr => ∃ j : Nat, j ≤ Off.length ∧ i = .int .i64 j ∧ v = .int .i64 (dO (Off.take j) b) ∧ wr = w) (fun _ i _ => Off.length - (intOf i).toNat)
  case atStart => exact ⟨0, Nat.zero_le _, rfl, rfl, rfl⟩
  case round =>
    obtain ⟨j, hj, rfl, rfl, hw⟩ := hrel
    rw [hw]
    clear hw
    by_cases hlt : j < Off.length
    · have hst := hide (dO_take hlt b)
      obtain ⟨-, -, -, k⟩ := view_atA hV.out rfl
      obtain ⟨o, rfl, gl, d0, d1, d2⟩ := k j hlt
      have hlt' : (j : Int) < Off.length := by omega
      obtain ⟨a, ha⟩ : ∃ a, Off[j] = a := ⟨_, rfl⟩
      rw [ha] at d0 d1 d2 hst
      obtain ⟨m, hm⟩ : ∃ m, Hid (dO (Off.take j) b = m) := ⟨_, rfl⟩
      rw [hm.out] at hst ⊢
      clear k ha hV
      by_cases c1 : a.b = b
      · have c1' : decide (a.b = b) = true ∧ (a.b == b) = true := ⟨by simpa using c1, by simpa using c1⟩
        by_cases c2 : m < a.s
        · have e : Hid (dO (Off.take (j + 1)) b = a.s) := hide (by rw [hst.out]; exact if_pos ⟨c1, c2⟩)
          replace c1 := hide c1
          go_wp2_with fail
          go_roundw
          case rel => exact ⟨j + 1, by omega, by simp, by rw [e.out], trivial⟩
          case measure => simp [intOf]; omega
        · have e : Hid (dO (Off.take (j + 1)) b = m) := hide (by rw [hst.out]; exact if_neg (fun h => c2 h.2))
          replace c1 := hide c1
          go_wp2_with fail
          go_roundw
          case rel => exact ⟨j + 1, by omega, by simp, by rw [e.out], trivial⟩
          case measure => simp [intOf]; omega
      · have c1' : decide (a.b = b) = false ∧ (a.b == b) = false := ⟨by simpa using c1, by simpa using c1⟩
        have e : Hid (dO (Off.take (j + 1)) b = m) := hide (by rw [hst.out]; exact if_neg (fun h => c1 h.1))
        replace c1 := hide c1
        go_wp2_with fail
        go_roundw
        case rel => exact ⟨j + 1, by omega, by simp, by rw [e.out], trivial⟩
        case measure => simp [intOf]; omega
    · obtain rfl : j = Off.length := by omega
      rw [List.take_length, hn.out]
      clear hV
      go_wp2_with fail
      go_ret
      exact ⟨rfl, rfl⟩
end Go.Proofs.Ytgaabbnfjapcjaa
