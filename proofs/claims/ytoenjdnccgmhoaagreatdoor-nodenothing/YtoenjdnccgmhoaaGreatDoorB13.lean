/- layer 15: AdvT NdMath, put together. -/
import Derived.Test.YtoenjdnccgmhoaaGreatDoorB11
import Derived.Test.YtoenjdnccgmhoaaGreatDoorB10
import Derived.Test.YtoenjdnccgmhoaaGreatDoorB08
import Derived.Test.YtoenjdnccgmhoaaGreatDoorB04
import Derived.Test.YtoenjdnccgmhoaaGreatDoorB02
import Derived.Test.YtoenjdnccgmhoaaGreatDoorB12
namespace Go.Proofs.YtoenjdnccgmhoaaGreatDoor
open Go.ChangeShapes Go.WideShapes Go.ChangeAt Go.RowKit
set_option linter.unusedSimpArgs false
set_option linter.unusedVariables false
set_option maxRecDepth 10000
attribute [local go_sem, local simp] over_const setCell_drewN alloc_drewN Over.cell Over.frozen lt_s1 lt_s2 lt_s3 le_s0 le_s1 le_s2 le_s3 eq_s0 eq_s1 eq_s2 qe_s0
def tg (f : Nat → Bool) (k : Nat) : List Int := ((List.range k).filter f).map fun i : Nat => (i : Int)
theorem tg_on {f : Nat → Bool} {k : Nat} (h : f k = true) : tg f k ++ [(k : Int)] = tg f (k + 1) := by simp [tg, List.range_succ, h]
theorem tg_off {f : Nat → Bool} {k : Nat} (h : f k = false) : tg f (k + 1) = tg f k := by simp [tg, List.range_succ, h]
theorem tg_len (f : Nat → Bool) (k : Nat) : (tg f k).length ≤ k := by
  simp only [tg, List.length_map]
  exact Nat.le_trans (List.length_filter_le _ _) (by simp)
def fT (self p d0 d1 : Int) (n : Nat) : Bool := decide ((n : Int) ≠ self) && askB p d0 d1 n
def tgt (n self p d0 d1 : Int) : List Int := if n < 0 ∨ 64 < n then [] else tg (fT self p d0 d1) (n.toNat + 1)
theorem view_oneTg (w : World) (x : Int) : View (w.alloc (.cells #[.int .i64 x] 3)) (.slice (some ⟨w.heap.size, 0, none⟩) 1 1) w.heap.size [x] :=
  ⟨_, 1, rfl, Nat.le_refl _, by decide, .inr ⟨0, rfl, by simp, fun j hj => by
    obtain rfl : j = 0 := by simpa using hj
    exact cell_of_row _ _ _ _ _ _ (heap_alloc_new w _)⟩⟩
theorem round_app {W : World} {x : Over W} {r g g' : Nat} {v v' : Value} {o : Obj} {w2 : World} (hs : r < W.heap.size) (hr : W.heap.size = r + 1) (hg : r ≤ g) (hn : g = r → v = .slice none 0 0) (hap : AppP (x.w.alloc o) w2 v v' g g') :
    ∃ y : Over W, w2 = y.w ∧ r ≤ g' ∧ (g' = r → v' = .slice none 0 0) := by
  have hx := x.below.size
  have ha : Below W.heap.size W (x.w.alloc o) := x.below.alloc x.below.size o
  have hb : Below W.heap.size W w2 := by
    by_cases e : g = r
    · exact ha.trans ((hap.nil (hn e)).mono (by simp; omega))
    · exact ha.trans (hap.fr.below (fun i hi => by omega) (by simp; omega))
  refine ⟨⟨w2, hb⟩, rfl, ?_, fun e => ?_⟩
  · rcases hap.lies with e | e
    · omega
    · simp at e; omega
  · have e2 : g' = g := by
      rcases hap.lies with e' | e'
      · exact e'
      · simp at e'; omega
    exact hap.keep e2 (hn (by omega))
set_option maxHeartbeats 2000000 in
theorem targets_c (n bl tt cs cy cc cu ct cp : Int) (self d0 d1 d2 : Int) (w : World) (L : List Int) (hL : Hid (tgt n self cp d0 d1 = L)) (N : Nat) (hN : Hid (L.length = N)) :
    Calls Tryz.prog 77 #[.agg #[.int .i64 n, .int .i64 bl, .int .i64 tt, .int .i64 cs, .int .i64 cy, .int .i64 cc, .int .i64 cu, .int .i64 ct, .int .i64 cp], .int .i64 self, .agg #[.int .i64 d0, .int .i64 d1, .int .i64 d2]] w fun e w' => ∃ ao cap, e = .returned (.slice ao N cap) ∧ (∃ g, View w' (.slice ao N cap) g L) ∧ Below w.heap.size w w' := by
  obtain rfl := hN.out
  clear hN
  by_cases c0 : n < 0
  · obtain rfl : L = [] := by rw [← hL.out, tgt, if_pos (.inl c0)]
    clear hL
    go_enter Tryz.func77, Tryz.ntmps77
    go_wp2
    go_ret
    exact ⟨_, _, rfl, ⟨0, view_nil _ _⟩, by all_goals exact belEnd⟩
  by_cases c1 : 64 < n
  · obtain rfl : L = [] := by rw [← hL.out, tgt, if_pos (.inr c1)]
    clear hL
    go_enter Tryz.func77, Tryz.ntmps77
    go_wp2
    go_ret
    exact ⟨_, _, rfl, ⟨0, view_nil _ _⟩, by all_goals exact belEnd⟩
  obtain ⟨K, rfl⟩ := Int.eq_ofNat_of_zero_le (show 0 ≤ n by omega)
  have hK : K ≤ 64 := by omega
  obtain ⟨f, hf⟩ : ∃ f, Hid (fT self cp d0 d1 = f) := ⟨_, rfl⟩
  obtain rfl : tg f (K + 1) = L := by rw [← hL.out, tgt, if_neg (by omega), hf.out]; simp
  clear hL
  go_enter Tryz.func77, Tryz.ntmps77
  go_wp2_with fail
  refine name_world ?_
  intro W hW
  obtain ⟨s, hs⟩ : ∃ s, w.heap.size = s := ⟨_, rfl⟩
  have hB : Below s w W := by
    rw [← hW, ← hs]
    all_goals exact belEnd
  replace hB := hide hB
  have hz : W.heap.size = s + 1 + 1 := by rw [← hW, ← hs]; simp
  have q8 : W.cell? ⟨s, 8, none⟩ = some (.int .i64 cp) := by rw [← hW, ← hs]; simp [go_sem]
  have r0 : W.cell? ⟨s + 1, 0, none⟩ = some (.int .i64 d0) := by rw [← hW, ← hs]; simp [go_sem]
  have r1 : W.cell? ⟨s + 1, 1, none⟩ = some (.int .i64 d1) := by rw [← hW, ← hs]; simp [go_sem]
  have r2 : W.cell? ⟨s + 1, 2, none⟩ = some (.int .i64 d2) := by rw [← hW, ← hs]; simp [go_sem]
  rw [hs]
  clear hW c0 c1
  have z0 : s < W.heap.size := by omega
  have z1 : s + 1 < W.heap.size := by omega
  replace hs := hide hs
  replace hz := hide hz
  go_loopw [7, 20] (fun v i wr => ∃ (j g : Nat) (x : Over W), wr = x.w ∧ j ≤ K + 1 ∧ i = .int .i64 j ∧ Own x.w v g (tg f j) ∧ s + 1 ≤ g ∧ (g = s + 1 → v = .slice none 0 0)) (fun _ i _ => K + 1 - (intOf i).toNat)
  case atStart => exact ⟨0, s + 1, ⟨W, Below.refl _ _⟩, rfl, Nat.zero_le _, rfl, own_nil z1, Nat.le_refl _, fun _ => rfl⟩
  case round =>
    obtain ⟨j, g, x, rfl, hj, rfl, hO, hg, hnil⟩ := hrel
    replace hnil := hide hnil
    have hO' := hide hO
    have hlen := tg_len f j
    obtain ⟨ao, cap, rfl, -⟩ := hO
    by_cases hlt : j < K + 1
    · have hlt' : (j : Int) < K + 1 := by omega
      have hfj : f j = (decide ((j : Int) ≠ self) && askB cp d0 d1 j) := by rw [← hf.out]; rfl
      by_cases e : (j : Int) = self
      · have hfj' : Hid (f j = false) := hide (by rw [hfj]; simp [e])
        clear hfj
        have e1 : ((j : Int) != self) = false := by simp [e]
        have e2 : decide ((j : Int) = self) = true := by simp [e]
        replace e := hide e
        go_wp2_with fail
        go_roundw
        case rel => exact ⟨j + 1, g, x, rfl, by omega, by simp, by rw [tg_off hfj'.out]; exact hO'.out, hg, hnil.out⟩
        case measure => simp [intOf]; omega
      · have e1 : ((j : Int) != self) = true := by simp [e]
        have e2 : decide ((j : Int) = self) = false := by simp [e]
        obtain ⟨q, hq⟩ : ∃ q, Hid (askB cp d0 d1 j = q) := ⟨_, rfl⟩
        have hfj' : Hid (f j = q) := hide (by rw [hfj, hq.out]; simp [e])
        clear hfj
        replace e := hide e
        cases q with
        | false =>
          go_wp2_with (go_at_call 119; refine (asked_c cp j d0 d1 d2 _ (by omega) (by omega) _ hq).mono ?_; rintro e w' ⟨rfl, hb⟩; obtain ⟨y, rfl⟩ := over2 hb; have hO2 := hide (hO'.out.below hb); clear hb)
          go_roundw
          case rel => exact ⟨j + 1, g, y, rfl, by omega, by simp, by rw [tg_off hfj'.out]; exact hO2.out, hg, hnil.out⟩
          case measure => simp [intOf]; omega
        | true =>
          have hl : Hid ((tg f j).length + [(j : Int)].length ≤ 1000000) := hide (by simp; omega)
          have hl2 : Hid ((tg f j).length + [(j : Int)].length = (tg f (j + 1)).length) := hide (by rw [← tg_on hfj'.out]; simp)
          go_wp2_with (first | (go_at_call 119; refine (asked_c cp j d0 d1 d2 _ (by omega) (by omega) _ hq).mono ?_; rintro e w' ⟨rfl, hb⟩; obtain ⟨y, rfl⟩ := over2 hb; have hO2 := hide (hO'.out.below hb); clear hb) | (at_builtin; refine wpList_app rfl _ _ rfl rfl rfl (hO2.out.alloc _) (view_oneTg _ _) hl.out _ hl2.out ?_; intro ao' cap' w2 g' hown hap; rw [tg_on hfj'.out] at hown; have hown' := hide hown; obtain ⟨y2, rfl, R⟩ := round_app z1 hz.out hg hnil.out hap; replace R := hide R; clear hown hap))
          go_roundw
          case rel => exact ⟨j + 1, g', y2, rfl, by omega, by simp, hown'.out, R.out.1, R.out.2⟩
          case measure => simp [intOf]; omega
    · obtain rfl : j = K + 1 := by omega
      go_wp2_with fail
      go_ret
      refine ⟨_, _, rfl, ⟨g, hO'.out.view⟩, ?_⟩
      rw [hs.out]
      exact hB.out.trans (x.below.mono (by rw [hz.out]; omega))
theorem round_app2 {W : World} {x : Over W} {g g' : Nat} {v v' : Value} {o : Obj} {w2 : World} (hg : W.heap.size ≤ g) (hap : AppP (x.w.alloc o) w2 v v' g g') : ∃ y : Over W, w2 = y.w ∧ W.heap.size ≤ g' := by
  have hx := x.below.size
  have ha : Below W.heap.size W (x.w.alloc o) := x.below.alloc x.below.size o
  refine ⟨⟨w2, ha.trans (hap.fr.below (fun i hi => by omega) (by simp; omega))⟩, rfl, ?_⟩
  rcases hap.lies with e | e
  · omega
  · simp at e; omega
theorem view_e (w : World) (ao : Option Addr) (b : Nat) : View w (.slice ao 0 0) b [] := ⟨ao, 0, rfl, Nat.le_refl _, Nat.zero_le _, .inl rfl⟩
set_option maxHeartbeats 2000000 in
theorem refTargets_c (n bl tt cs cy cc cu ct cp : Int) (self d0 d1 d2 : Int) (w : World) (L : List Int) (hL : Hid (tgt n self cp d0 d1 = L)) (N : Nat) (hN : Hid (L.length = N)) :
    Calls Tryz.prog 81 #[.agg #[.int .i64 n, .int .i64 bl, .int .i64 tt, .int .i64 cs, .int .i64 cy, .int .i64 cc, .int .i64 cu, .int .i64 ct, .int .i64 cp], .int .i64 self, .agg #[.int .i64 d0, .int .i64 d1, .int .i64 d2]] w fun e w' => ∃ ao cap, e = .returned (.slice ao N cap) ∧ (∃ g, View w' (.slice ao N cap) g L) ∧ Below w.heap.size w w' := by
  obtain rfl := hN.out
  clear hN
  by_cases c0 : n < 0
  · obtain rfl : L = [] := by rw [← hL.out, tgt, if_pos (.inl c0)]
    clear hL
    go_enter Tryz.func81, Tryz.ntmps81
    go_wp2
    go_ret
    exact ⟨_, _, rfl, ⟨0, view_e _ _ _⟩, by all_goals exact belEnd⟩
  by_cases c1 : 64 < n
  · obtain rfl : L = [] := by rw [← hL.out, tgt, if_pos (.inr c1)]
    clear hL
    go_enter Tryz.func81, Tryz.ntmps81
    go_wp2
    go_ret
    exact ⟨_, _, rfl, ⟨0, view_e _ _ _⟩, by all_goals exact belEnd⟩
  obtain ⟨K, rfl⟩ := Int.eq_ofNat_of_zero_le (show 0 ≤ n by omega)
  have hK : K ≤ 64 := by omega
  obtain ⟨f, hf⟩ : ∃ f, Hid (fT self cp d0 d1 = f) := ⟨_, rfl⟩
  obtain rfl : tg f (K + 1) = L := by rw [← hL.out, tgt, if_neg (by omega), hf.out]; simp
  clear hL
  go_enter Tryz.func81, Tryz.ntmps81
  go_wp2_with fail
  refine name_world ?_
  intro W3 hW3
  obtain ⟨W, hW, hW3⟩ : ∃ W, (w.alloc (Obj.cells #[.int .i64 K, .int .i64 bl, .int .i64 tt, .int .i64 cs, .int .i64 cy, .int .i64 cc, .int .i64 cu, .int .i64 ct, .int .i64 cp] 23)).alloc (Obj.cells #[.int .i64 d0, .int .i64 d1, .int .i64 d2] 38) = W ∧ W3 = W.alloc (Obj.cells #[] 3) := ⟨_, rfl, hW3.symm⟩
  obtain ⟨s, hs⟩ : ∃ s, w.heap.size = s := ⟨_, rfl⟩
  have hB : Below s w W := by
    rw [← hW, ← hs]
    all_goals exact belEnd
  replace hB := hide hB
  have hz : W.heap.size = s + 1 + 1 := by rw [← hW, ← hs]; simp
  have q0 : W.cell? ⟨s, 0, none⟩ = some (.int .i64 K) := by rw [← hW, ← hs]; simp [go_sem]
  have q8 : W.cell? ⟨s, 8, none⟩ = some (.int .i64 cp) := by rw [← hW, ← hs]; simp [go_sem]
  have r0 : W.cell? ⟨s + 1, 0, none⟩ = some (.int .i64 d0) := by rw [← hW, ← hs]; simp [go_sem]
  have r1 : W.cell? ⟨s + 1, 1, none⟩ = some (.int .i64 d1) := by rw [← hW, ← hs]; simp [go_sem]
  have hO0 : Own W3 (.slice (some ⟨s + 1 + 1, 0, none⟩) 0 0) (s + 1 + 1) [] := by rw [hW3, ← hz]; exact own_empty _ _
  rw [hs]
  have hb3 : Below W.heap.size W W3 := by rw [hW3]; exact (Below.refl _ _).alloc (Nat.le_refl _) _
  clear hW hW3 c0 c1
  have z0 : s < W.heap.size := by omega
  have z1 : s + 1 < W.heap.size := by omega
  replace hs := hide hs
  replace hz := hide hz
  go_loopw [7, 8] (fun v i wr => ∃ (j g : Nat) (x : Over W), wr = x.w ∧ j ≤ K + 1 ∧ i = .int .i64 j ∧ Own x.w v g (tg f j) ∧ W.heap.size ≤ g) (fun _ i _ => K + 1 - (intOf i).toNat)
  case atStart => exact ⟨0, s + 1 + 1, ⟨W3, hb3⟩, rfl, Nat.zero_le _, rfl, hO0, by rw [hz.out]; omega⟩
  case round =>
    obtain ⟨j, g, x, rfl, hj, rfl, hO, hg⟩ := hrel
    have hO' := hide hO
    have hlen := tg_len f j
    obtain ⟨ao, cap, rfl, -⟩ := hO
    clear hb3
    by_cases hlt : j < K + 1
    · have hlt' : (j : Int) ≤ K := by omega
      have hfj : f j = (decide ((j : Int) ≠ self) && askB cp d0 d1 j) := by rw [← hf.out]; rfl
      by_cases e : (j : Int) = self
      · have hfj' : Hid (f j = false) := hide (by rw [hfj]; simp [e])
        clear hfj
        have e1 : ((j : Int) == self) = true := by simp [e]
        have e2 : decide ((j : Int) = self) = true := by simp [e]
        replace e := hide e
        go_wp2_with fail
        go_roundw
        case rel => exact ⟨j + 1, g, x, rfl, by omega, by simp, by rw [tg_off hfj'.out]; exact hO'.out, hg⟩
        case measure => simp [intOf]; omega
      have e1 : ((j : Int) == self) = false := by simp [e]
      have e2 : decide ((j : Int) = self) = false := by simp [e]
      have hfq : f j = askB cp d0 d1 j := by rw [hfj]; simp [e]
      clear hfj
      replace e := hide e
      by_cases c1 : cp = 1
      · have hfj' : Hid (f j = true) := hide (by rw [hfq, c1]; simp [askB])
        clear hfq
        subst c1
        have hq : Hid (bitB d0 j = bitB d0 j) := hide rfl
        have hl : Hid ((tg f j).length + [(j : Int)].length ≤ 1000000) := hide (by simp; omega)
        have hl2 : Hid ((tg f j).length + [(j : Int)].length = (tg f (j + 1)).length) := hide (by rw [← tg_on hfj'.out]; simp)
        go_wp2_with (first | (go_at_call 97; refine (refBit_any d0 j _).mono ?_; rw [hq.out]; rintro e w' ⟨rfl, rfl⟩) | (at_builtin; refine wpList_app rfl _ _ rfl rfl rfl (hO'.out.alloc _) (view_oneTg _ _) hl.out _ hl2.out ?_; intro ao' cap' w2 g' hown hap; rw [tg_on hfj'.out] at hown; have hown' := hide hown; obtain ⟨y2, rfl, R⟩ := round_app2 hg hap; replace R := hide R; clear hown hap))
        go_roundw
        case rel => exact ⟨j + 1, g', y2, rfl, by omega, by simp, hown'.out, R.out⟩
        case measure => simp [intOf]; omega
      by_cases c2 : cp = 2
      · subst c2
        clear c1
        by_cases c3 : (j : Int) < 64
        · have c4 : ((j : Int) == 64) = false := by simp; omega
          have c5 : decide ((j : Int) = 64) = false := by simp; omega
          obtain ⟨q, hq⟩ : ∃ q, Hid (bitB d0 j = q) := ⟨_, rfl⟩
          have hfj' : Hid (f j = q) := hide (by rw [hfq, ← hq.out]; simp [askB, c3])
          clear hfq
          cases q with
          | true =>
            have hl : Hid ((tg f j).length + [(j : Int)].length ≤ 1000000) := hide (by simp; omega)
            have hl2 : Hid ((tg f j).length + [(j : Int)].length = (tg f (j + 1)).length) := hide (by rw [← tg_on hfj'.out]; simp)
            go_wp2_with (first | (go_at_call 97; refine (refBit_any d0 j _).mono ?_; rw [hq.out]; rintro e w' ⟨rfl, rfl⟩) | (at_builtin; refine wpList_app rfl _ _ rfl rfl rfl (hO'.out.alloc _) (view_oneTg _ _) hl.out _ hl2.out ?_; intro ao' cap' w2 g' hown hap; rw [tg_on hfj'.out] at hown; have hown' := hide hown; obtain ⟨y2, rfl, R⟩ := round_app2 hg hap; replace R := hide R; clear hown hap))
            go_roundw
            case rel => exact ⟨j + 1, g', y2, rfl, by omega, by simp, hown'.out, R.out⟩
            case measure => simp [intOf]; omega
          | false =>
            go_wp2_with (go_at_call 97; refine (refBit_any d0 j _).mono ?_; rw [hq.out]; rintro e w' ⟨rfl, rfl⟩)
            go_roundw
            case rel => exact ⟨j + 1, g, x, rfl, by omega, by simp, by rw [tg_off hfj'.out]; exact hO'.out, hg⟩
            case measure => simp [intOf]; omega
        · obtain rfl : j = 64 := by omega
          obtain ⟨q, hq⟩ : ∃ q, Hid (bitB d1 0 = q) := ⟨_, rfl⟩
          have hfj' : Hid (f 64 = q) := hide (by rw [hfq, ← hq.out]; simp [askB])
          clear hfq
          cases q with
          | true =>
            have t64 : tg f 64 ++ [(64 : Int)] = tg f 65 := by have := tg_on hfj'.out; simpa using this
            replace t64 := hide t64
            have hl : Hid ((tg f 64).length + [(64 : Int)].length ≤ 1000000) := hide (by simp; omega)
            have hl2 : Hid ((tg f 64).length + [(64 : Int)].length = (tg f 65).length) := hide (by rw [← t64.out]; simp)
            go_wp2_with (first | (go_at_call 97; refine (refBit_any d1 0 _).mono ?_; rw [hq.out]; rintro e w' ⟨rfl, rfl⟩) | (at_builtin; refine wpList_app rfl _ _ rfl rfl rfl (hO'.out.alloc _) (view_oneTg _ _) hl.out _ hl2.out ?_; intro ao' cap' w2 g' hown hap; rw [t64.out] at hown; have hown' := hide hown; obtain ⟨y2, rfl, R⟩ := round_app2 hg hap; replace R := hide R; clear hown hap))
            go_roundw
            case rel => exact ⟨65, g', y2, rfl, by omega, by simp, hown'.out, R.out⟩
            case measure => simp [intOf]; omega
          | false =>
            go_wp2_with (go_at_call 97; refine (refBit_any d1 0 _).mono ?_; rw [hq.out]; rintro e w' ⟨rfl, rfl⟩)
            go_roundw
            case rel => exact ⟨65, g, x, rfl, by omega, by simp, by rw [tg_off hfj'.out]; exact hO'.out, hg⟩
            case measure => simp [intOf]; omega
      · have hfj' : Hid (f j = false) := hide (by rw [hfq]; simp [askB, c1, c2])
        clear hfq
        have p1 : (cp == 1) = false := by simp [c1]
        have p2 : (cp == 2) = false := by simp [c2]
        go_wp2_with fail
        go_roundw
        case rel => exact ⟨j + 1, g, x, rfl, by omega, by simp, by rw [tg_off hfj'.out]; exact hO'.out, hg⟩
        case measure => simp [intOf]; omega
    · obtain rfl : j = K + 1 := by omega
      go_wp2_with fail
      go_ret
      refine ⟨_, _, rfl, ⟨g, hO'.out.view⟩, ?_⟩
      rw [hs.out]
      exact hB.out.trans (x.below.mono (by rw [hz.out]; omega))
structure Cf where
  n : Int
  bl : Int
  tt : Int
  cs : Int
  cy : Int
  cc : Int
  cu : Int
  ct : Int
  cp : Int
structure CfOk (c : Cf) (id : Int) : Prop where
  n0 : 1 ≤ c.n
  n1 : c.n ≤ 64
  b0 : 1 ≤ c.bl
  b1 : c.bl ≤ 64
  t0 : c.n ≤ c.tt
  t1 : c.tt ≤ 65536
  s0 : 1 ≤ c.cs
  s1 : c.cs ≤ 64
  y0 : 1 ≤ c.cy
  y1 : c.cy ≤ 16
  u0 : 1 ≤ c.cu
  u1 : c.cu ≤ 64
  r0 : 0 ≤ c.ct
  r1 : c.ct ≤ 8
  p0 : 0 ≤ c.cp
  p1 : c.cp ≤ 2
  i0 : 0 ≤ id
  i1 : id < c.n
theorem cfOk_of {c : Cf} {id : Int} (h : cfgZ c.n c.bl c.tt c.cs c.cy c.cc c.cu c.ct c.cp = 0) (h1 : nodeB id c.n = true) : CfOk c id := by
  have h2 := nodeB_true.1 h1
  unfold cfgZ at h
  split at h <;> (try omega)
  rename_i hs
  split at h <;> (try omega)
  rename_i hn
  split at h <;> (try omega)
  rename_i hb
  split at h <;> (try omega)
  rename_i ht
  simp only [Bool.not_eq_false] at hs hn hb ht
  unfold stgB at hs
  simp only [Bool.and_eq_true] at hs
  obtain ⟨⟨⟨⟨⟨e1, e2⟩, e3⟩, e4⟩, e5⟩, e6⟩ := hs
  have e1 := inB_true.1 e1
  have e2 := inB_true.1 e2
  have e4 := inB_true.1 e4
  have e5 := inB_true.1 e5
  have e6 := inB_true.1 e6
  have hn := inB_true.1 hn
  have hb := inB_true.1 hb
  have ht := inB_true.1 ht
  exact ⟨hn.1, hn.2, hb.1, hb.2, ht.1, ht.2, e1.1, e1.2, e2.1, e2.2, e4.1, e4.2, e5.1, e5.2, e6.1, e6.2, h2.1, h2.2⟩
abbrev cfA (c : Cf) : Array Value := #[.int .i64 c.n, .int .i64 c.bl, .int .i64 c.tt, .int .i64 c.cs, .int .i64 c.cy, .int .i64 c.cc, .int .i64 c.cu, .int .i64 c.ct, .int .i64 c.cp]
structure Nd where
  C : Ca
  T : Tb
  P : Pm
  A : Int → Bool
  O : Int → Int
def nd0 : Nd := ⟨⟨[], fun _ => bun0⟩, tb0, pm0, fun _ => false, fun _ => 0⟩
def toLet (l : Lt) : Let := ⟨l.k, l.a, l.b, l.q, l.s, l.w, l.r, ⟨l.n, l.o, l.h, l.d⟩⟩
def tokOf (l : Lt) : Bun := ⟨l.n, l.o, l.h, l.d⟩
def lerr (c : Cf) (l : Lt) : Int := letterZ c.n c.bl c.tt (toLet l)
def updB (f : Int → Bool) (x : Int) (v : Bool) : Int → Bool := fun k => if k = x then v else f k
def updI (f : Int → Int) (x : Int) (v : Int) : Int → Int := fun k => if k = x then v else f k
def sendL (id to b : Int) (x : Bun) : List Lt := if x.n < 1 then [] else [⟨1, id, to, b, 0, 0, false, x.n, x.o, x.h, x.d⟩]
def homeL (c : Cf) (id k b s : Int) : List Lt := [⟨k, id, c.n, b, s, 0, false, 0, false, false, 0⟩]
def askOne (id : Int) (op : Op3) (t : Int) : Lt := ⟨2, id, t, op.b, 0, 0, op.w, 0, false, false, 0⟩
def askL (c : Cf) (id : Int) (op : Op3) (d0 d1 : Int) : List Lt := (tgt c.n id c.cp d0 d1).map (askOne id op)
def ownB (id : Int) (D : Nd) (b : Int) : Bool := hasA D.T.A b && decide ((getA D.T.A b).n = id)
def ownA (id : Int) (D : Nd) (b : Int) : At := if ownB id D b = true then getA D.T.A b else at0
def waitB (D : Nd) (b : Int) : Bool := D.P.busy && decide (D.P.op.b = b)
def endOk (id : Int) (D : Nd) (b : Int) : Bool := ownB id D b && decide (D.O b < (getA D.T.A b).s)
def endL (c : Cf) (id : Int) (D : Nd) (b : Int) : List Lt := if endOk id D b = true then homeL c id 5 b (getA D.T.A b).s else []
def nxE (id : Int) (D : Nd) (b : Int) : Nd := if endOk id D b = true then ⟨D.C, D.T, D.P, updB D.A b false, updI D.O b (getA D.T.A b).s⟩ else D
def sttOk (c : Cf) (D : Nd) : Bool := D.P.busy && okDo D.C D.P.op.b D.P.op.w c.tt
def sttD (c : Cf) (D : Nd) : Nd := ⟨nxDo D.C D.P.op.b D.P.op.w D.P.op.v c.tt, D.T, nxF D.P, D.A, D.O⟩
def sttL (c : Cf) (id : Int) (D : Nd) : List Lt := if sttOk c D = true then endL c id (sttD c D) D.P.op.b else []
def sttN (c : Cf) (id : Int) (D : Nd) : List Dn := if sttOk c D = true then [⟨id, numF D.P, D.P.op.b, D.P.op.w, D.P.op.v, valDo D.C D.P.op.b D.P.op.w D.P.op.v c.tt, 0⟩] else []
def nxS (c : Cf) (id : Int) (D : Nd) : Nd := if sttOk c D = true then nxE id (sttD c D) D.P.op.b else D
def isOk (c : Cf) (D : Nd) (op : Op3) : Bool := decide (0 ≤ op.b) && decide (op.b < c.bl) && !D.P.busy
def isD (c : Cf) (D : Nd) (op : Op3) : Nd := ⟨D.C, D.T, nxI c.cu D.P op, D.A, D.O⟩
def isL (c : Cf) (id : Int) (D : Nd) (op : Op3) (d0 d1 : Int) : List Lt :=
  if isOk c D op = true then sttL c id (isD c D op) ++ (if (nxS c id (isD c D op)).P.busy = true then askL c id op d0 d1 else []) else []
def isN (c : Cf) (id : Int) (D : Nd) (op : Op3) : List Dn := if isOk c D op = true then sttN c id (isD c D op) else []
def nxIs (c : Cf) (id : Int) (D : Nd) (op : Op3) : Nd := if isOk c D op = true then nxS c id (isD c D op) else D
def fwdB (id : Int) (D : Nd) (b : Int) : Bool := hasA D.T.A b && !decide ((getA D.T.A b).n = id)
def abD (c : Cf) (D : Nd) (l : Lt) : Nd := ⟨nxAb c.cs c.cy D.C l.q (tokOf l) (pinP D.P), D.T, D.P, D.A, D.O⟩
def abG (c : Cf) (D : Nd) (l : Lt) : Ln × Bool := goAb c.cs c.cy D.C l.q (tokOf l) (pinP D.P)
def abL (c : Cf) (id : Int) (D : Nd) (l : Lt) : List Lt := if (abG c D l).2 = true then sendL id c.n (abG c D l).1.b (abG c D l).1.t else []
def tokL (c : Cf) (id : Int) (D : Nd) (l : Lt) : List Lt := if fwdB id D l.q = true then sendL id (getA D.T.A l.q).n l.q (tokOf l) else abL c id D l ++ sttL c id (abD c D l)
def tokN (c : Cf) (id : Int) (D : Nd) (l : Lt) : List Dn := if fwdB id D l.q = true then [] else sttN c id (abD c D l)
def nxTok (c : Cf) (id : Int) (D : Nd) (l : Lt) : Nd := if fwdB id D l.q = true then D else nxS c id (abD c D l)
def gvD (D : Nd) (b n : Int) (o : Bool) : Nd := ⟨nxTk D.C b n o, D.T, D.P, D.A, D.O⟩
def heldB (id : Int) (D : Nd) (b : Int) : Bool := ownB id D b && waitB D b
def ansR (c : Cf) (D : Nd) (l : Lt) (d0 d1 : Int) : Rep := repZ c.cp (D.C.T l.q).n (D.C.T l.q).o l.r d0 d1
def ansL (c : Cf) (id : Int) (D : Nd) (l : Lt) (d0 d1 : Int) : List Lt :=
  if heldB id D l.q = true then [] else sendL id l.a l.q (givenB (D.C.T l.q) (ansR c D l d0 d1).n (ansR c D l d0 d1).o (ansR c D l d0 d1).v)
def nxAns (c : Cf) (id : Int) (D : Nd) (l : Lt) (d0 d1 : Int) : Nd := if heldB id D l.q = true then D else gvD D l.q (ansR c D l d0 d1).n (ansR c D l d0 d1).o
def actA (l : Lt) : At := ⟨l.q, l.w, l.s⟩
def acD (D : Nd) (l : Lt) : Nd := ⟨D.C, nxA D.T (actA l), D.P, D.A, D.O⟩
def acL (c : Cf) (id : Int) (D : Nd) (l : Lt) : List Lt :=
  if okA D.T (actA l) = true then
    (if l.w = id then (if waitB D l.q = true then [] else endL c id (acD D l) l.q) else sendL id l.w l.q (givenB (D.C.T l.q) (D.C.T l.q).n true true))
  else []
def nxAc (id : Int) (D : Nd) (l : Lt) : Nd :=
  if okA D.T (actA l) = true then
    (if l.w = id then (if waitB D l.q = true then acD D l else nxE id (acD D l) l.q) else gvD (acD D l) l.q (D.C.T l.q).n true)
  else D
def deD (D : Nd) (l : Lt) : Nd := ⟨D.C, nxD D.T l.q l.s, D.P, D.A, D.O⟩
def tkOk (c : Cf) (id : Int) (l : Lt) : Bool := decide (lerr c l = 0) && decide (l.b = id)
def tkL (c : Cf) (id : Int) (D : Nd) (l : Lt) (d0 d1 : Int) : List Lt :=
  if tkOk c id l = true then
    (if l.k = 1 then tokL c id D l else if l.k = 2 then ansL c id D l d0 d1 else if l.k = 4 then acL c id D l else if l.k = 6 then homeL c id 7 l.q l.s else [])
  else []
def tkN (c : Cf) (id : Int) (D : Nd) (l : Lt) : List Dn := if tkOk c id l = true then (if l.k = 1 then tokN c id D l else []) else []
def nxTake (c : Cf) (id : Int) (D : Nd) (l : Lt) (d0 d1 : Int) : Nd :=
  if tkOk c id l = true then
    (if l.k = 1 then nxTok c id D l else if l.k = 2 then nxAns c id D l d0 d1 else if l.k = 4 then nxAc id D l else if l.k = 6 then deD D l else D)
  else D
def tiD (c : Cf) (D : Nd) : Nd := ⟨D.C, D.T, nxT c.cu c.ct D.P, D.A, D.O⟩
def tiL (c : Cf) (id : Int) (D : Nd) (d0 d1 : Int) : List Lt :=
  if doT c.cu c.ct D.P = 1 then askL c id D.P.op d0 d1
  else if doT c.cu c.ct D.P = 2 then (if D.A D.P.op.b = true then [] else homeL c id 3 D.P.op.b 0) else []
def nxTi (c : Cf) (D : Nd) : Nd :=
  if doT c.cu c.ct D.P = 2 ∧ D.A D.P.op.b = false then ⟨D.C, D.T, nxT c.cu c.ct D.P, updB D.A D.P.op.b true, D.O⟩ else tiD c D
end Go.Proofs.YtoenjdnccgmhoaaGreatDoor
