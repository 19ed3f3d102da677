/- The contracts of package advice's Targets and of the document's (layer 13). -/
import Derived.Test.YtipamgncalcaiaaAdv
import Derived.Test.YtipamgncalcaiaaLinA
namespace Go.Proofs.Ytipamgncalcaiaa
open Go.ChangeShapes Go.WideShapes Go.ChangeAt Go.RowKit
set_option linter.unusedSimpArgs false
set_option linter.unusedVariables false
set_option maxRecDepth 10000

attribute [local go_sem, local simp] over_const setCell_drewN alloc_drewN Over.cell Over.frozen lt_s1 lt_s2 lt_s3 le_s0 le_s1 le_s2 le_s3 eq_s0 eq_s1 eq_s2 qe_s0

/-- Those below k that f names, rising. -/
def tg (f : Nat → Bool) (k : Nat) : List Int := ((List.range k).filter f).map fun i : Nat => (i : Int)
theorem tg_on {f : Nat → Bool} {k : Nat} (h : f k = true) : tg f k ++ [(k : Int)] = tg f (k + 1) := by simp [tg, List.range_succ, h]
theorem tg_off {f : Nat → Bool} {k : Nat} (h : f k = false) : tg f (k + 1) = tg f k := by simp [tg, List.range_succ, h]
theorem tg_len (f : Nat → Bool) (k : Nat) : (tg f k).length ≤ k := by
  simp only [tg, List.length_map]
  exact Nat.le_trans (List.length_filter_le _ _) (by simp)

def fT (self p d0 d1 : Int) (n : Nat) : Bool := decide ((n : Int) ≠ self) && askB p d0 d1 n
/-- Whom a node asks. -/
def tgt (n self p d0 d1 : Int) : List Int := if n < 0 ∨ 64 < n then [] else tg (fT self p d0 d1) (n.toNat + 1)

theorem view_oneT (w : World) (x : Int) : View (w.alloc (.cells #[.int .i64 x] 3)) (.slice (some ⟨w.heap.size, 0, none⟩) 1 1) w.heap.size [x] :=
  ⟨_, 1, rfl, Nat.le_refl _, by decide, .inr ⟨0, rfl, by simp, fun j hj => by
    obtain rfl : j = 0 := by simpa using hj
    exact cell_of_row _ _ _ _ _ _ (heap_alloc_new w _)⟩⟩

/-- What a round that appends leaves. -/
theorem round_app {W : World} {x : Over W} {r g g' : Nat} {v v' : Value} {o : Obj} {w2 : World} (hs : r < W.heap.size) (hr : W.heap.size = r + 1) (hg : r ≤ g) (hn : g = r → v = .slice none 0 0) (hap : AppP (x.w.alloc o) w2 v v' g g') :
    ∃ y : Over W, w2 = y.w ∧ r ≤ g' ∧ (g' = r → v' = .slice none 0 0) := by
  have hx := x.below.size
  have ha : Below W.heap.size W (x.w.alloc o) := x.below.alloc x.below.size o
  have hb : Below W.heap.size W w2 := by
    by_cases e : g = r
    · exact ha.trans ((hap.nil (hn e)).mono (by simp; omega))
    · exact ha.trans (hap.fr.below (fun i hi => by omega) (by simp; omega))
  refine ⟨⟨w2, hb⟩, rfl, ?_, fun e => ?_⟩
  · rcases hap.lies with e | e
    · omega
    · simp at e; omega
  · have e2 : g' = g := by
      rcases hap.lies with e' | e'
      · exact e'
      · simp at e'; omega
    exact hap.keep e2 (hn (by omega))

set_option maxHeartbeats 2000000 in
theorem targets_c (n bl tt cs cy cc cu ct cp : Int) (self d0 d1 d2 : Int) (w : World) (L : List Int) (hL : Hid (tgt n self cp d0 d1 = L)) (N : Nat) (hN : Hid (L.length = N)) :
    Calls Try.prog 10 #[.agg #[.int .i64 n, .int .i64 bl, .int .i64 tt, .int .i64 cs, .int .i64 cy, .int .i64 cc, .int .i64 cu, .int .i64 ct, .int .i64 cp], .int .i64 self, .agg #[.int .i64 d0, .int .i64 d1, .int .i64 d2]] w fun e w' => ∃ ao cap, e = .returned (.slice ao N cap) ∧ (∃ g, View w' (.slice ao N cap) g L) ∧ Below w.heap.size w w' := by
  obtain rfl := hN.out
  clear hN
  by_cases c0 : n < 0
  · obtain rfl : L = [] := by rw [← hL.out, tgt, if_pos (.inl c0)]
    clear hL
    go_enter Try.func10, Try.ntmps10
    go_wp2
    go_ret
    exact ⟨_, _, rfl, ⟨0, view_nil _ _⟩, by repeat' first | with_reducible exact Below.refl _ _ | with_reducible refine Below.setCell ?_ ?_ _ | with_reducible refine Below.alloc ?_ ?_ _ | with_reducible refine Below.drew ?_ | with_reducible refine belowN ?_ _ | with_reducible refine Over.go _ ?_ ?_ | with_reducible exact Nat.le_refl _ | with_reducible refine Over.sz _ _ ?_ | with_reducible refine le_alloc ?_ | with_reducible refine le_setCell ?_ | with_reducible refine le_drewN ?_ | with_reducible refine le_drew ?_ | omega | (dsimp only; omega)⟩
  by_cases c1 : 64 < n
  · obtain rfl : L = [] := by rw [← hL.out, tgt, if_pos (.inr c1)]
    clear hL
    go_enter Try.func10, Try.ntmps10
    go_wp2
    go_ret
    exact ⟨_, _, rfl, ⟨0, view_nil _ _⟩, by repeat' first | with_reducible exact Below.refl _ _ | with_reducible refine Below.setCell ?_ ?_ _ | with_reducible refine Below.alloc ?_ ?_ _ | with_reducible refine Below.drew ?_ | with_reducible refine belowN ?_ _ | with_reducible refine Over.go _ ?_ ?_ | with_reducible exact Nat.le_refl _ | with_reducible refine Over.sz _ _ ?_ | with_reducible refine le_alloc ?_ | with_reducible refine le_setCell ?_ | with_reducible refine le_drewN ?_ | with_reducible refine le_drew ?_ | omega | (dsimp only; omega)⟩
  obtain ⟨K, rfl⟩ := Int.eq_ofNat_of_zero_le (show 0 ≤ n by omega)
  have hK : K ≤ 64 := by omega
  obtain ⟨f, hf⟩ : ∃ f, Hid (fT self cp d0 d1 = f) := ⟨_, rfl⟩
  obtain rfl : tg f (K + 1) = L := by rw [← hL.out, tgt, if_neg (by omega), hf.out]; simp
  clear hL
  go_enter Try.func10, Try.ntmps10
  go_wp2_with fail
  refine name_world ?_
  intro W hW
  obtain ⟨s, hs⟩ : ∃ s, w.heap.size = s := ⟨_, rfl⟩
  have hB : Below s w W := by
    rw [← hW, ← hs]
    repeat' first | with_reducible exact Below.refl _ _ | with_reducible refine Below.setCell ?_ ?_ _ | with_reducible refine Below.alloc ?_ ?_ _ | with_reducible refine Below.drew ?_ | with_reducible refine belowN ?_ _ | with_reducible refine Over.go _ ?_ ?_ | with_reducible exact Nat.le_refl _ | with_reducible refine Over.sz _ _ ?_ | with_reducible refine le_alloc ?_ | with_reducible refine le_setCell ?_ | with_reducible refine le_drewN ?_ | with_reducible refine le_drew ?_ | omega | (dsimp only; omega)
  replace hB := hide hB
  have hz : W.heap.size = s + 1 + 1 := by rw [← hW, ← hs]; simp
  have q8 : W.cell? ⟨s, 8, none⟩ = some (.int .i64 cp) := by rw [← hW, ← hs]; simp [go_sem]
  have r0 : W.cell? ⟨s + 1, 0, none⟩ = some (.int .i64 d0) := by rw [← hW, ← hs]; simp [go_sem]
  have r1 : W.cell? ⟨s + 1, 1, none⟩ = some (.int .i64 d1) := by rw [← hW, ← hs]; simp [go_sem]
  have r2 : W.cell? ⟨s + 1, 2, none⟩ = some (.int .i64 d2) := by rw [← hW, ← hs]; simp [go_sem]
  rw [hs]
  clear hW c0 c1
  have z0 : s < W.heap.size := by omega
  have z1 : s + 1 < W.heap.size := by omega
  replace hs := hide hs
  replace hz := hide hz
  go_loopw [7, 20] (fun v i wr => ∃ (j g : Nat) (x : Over W), wr = x.w ∧ j ≤ K + 1 ∧ i = .int .i64 j ∧ Own x.w v g (tg f j) ∧ s + 1 ≤ g ∧ (g = s + 1 → v = .slice none 0 0)) (fun _ i _ => K + 1 - (intOf i).toNat)
  case atStart => exact ⟨0, s + 1, ⟨W, Below.refl _ _⟩, rfl, Nat.zero_le _, rfl, own_nil z1, Nat.le_refl _, fun _ => rfl⟩
  case round =>
    obtain ⟨j, g, x, rfl, hj, rfl, hO, hg, hnil⟩ := hrel
    replace hnil := hide hnil
    have hO' := hide hO
    have hlen := tg_len f j
    obtain ⟨ao, cap, rfl, -⟩ := hO
    by_cases hlt : j < K + 1
    · have hlt' : (j : Int) < K + 1 := by omega
      have hfj : f j = (decide ((j : Int) ≠ self) && askB cp d0 d1 j) := by rw [← hf.out]; rfl
      by_cases e : (j : Int) = self
      · have hfj' : Hid (f j = false) := hide (by rw [hfj]; simp [e])
        clear hfj
        have e1 : ((j : Int) != self) = false := by simp [e]
        have e2 : decide ((j : Int) = self) = true := by simp [e]
        replace e := hide e
        go_wp2_with fail
        go_roundw
        case rel => exact ⟨j + 1, g, x, rfl, by omega, by simp, by rw [tg_off hfj'.out]; exact hO'.out, hg, hnil.out⟩
        case measure => simp [intOf]; omega
      · have e1 : ((j : Int) != self) = true := by simp [e]
        have e2 : decide ((j : Int) = self) = false := by simp [e]
        obtain ⟨q, hq⟩ : ∃ q, Hid (askB cp d0 d1 j = q) := ⟨_, rfl⟩
        have hfj' : Hid (f j = q) := hide (by rw [hfj, hq.out]; simp [e])
        clear hfj
        replace e := hide e
        cases q with
        | false =>
          go_wp2_with (go_at_call 18; refine (asked_c cp j d0 d1 d2 _ (by omega) (by omega) _ hq).mono ?_; rintro e w' ⟨rfl, hb⟩; obtain ⟨y, rfl⟩ := over2 hb; have hO2 := hide (hO'.out.below hb); clear hb)
          go_roundw
          case rel => exact ⟨j + 1, g, y, rfl, by omega, by simp, by rw [tg_off hfj'.out]; exact hO2.out, hg, hnil.out⟩
          case measure => simp [intOf]; omega
        | true =>
          have hl : Hid ((tg f j).length + [(j : Int)].length ≤ 1000000) := hide (by simp; omega)
          have hl2 : Hid ((tg f j).length + [(j : Int)].length = (tg f (j + 1)).length) := hide (by rw [← tg_on hfj'.out]; simp)
          go_wp2_with (first | (go_at_call 18; refine (asked_c cp j d0 d1 d2 _ (by omega) (by omega) _ hq).mono ?_; rintro e w' ⟨rfl, hb⟩; obtain ⟨y, rfl⟩ := over2 hb; have hO2 := hide (hO'.out.below hb); clear hb) | (at_builtin; refine wpList_app rfl _ _ rfl rfl rfl (hO2.out.alloc _) (view_oneT _ _) hl.out _ hl2.out ?_; intro ao' cap' w2 g' hown hap; rw [tg_on hfj'.out] at hown; have hown' := hide hown; obtain ⟨y2, rfl, R⟩ := round_app z1 hz.out hg hnil.out hap; replace R := hide R; clear hown hap))
          go_roundw
          case rel => exact ⟨j + 1, g', y2, rfl, by omega, by simp, hown'.out, R.out.1, R.out.2⟩
          case measure => simp [intOf]; omega
    · obtain rfl : j = K + 1 := by omega
      go_wp2_with fail
      go_ret
      refine ⟨_, _, rfl, ⟨g, hO'.out.view⟩, ?_⟩
      rw [hs.out]
      exact hB.out.trans (x.below.mono (by rw [hz.out]; omega))
/-- The same, where there is an array from the first on. -/
theorem round_app2 {W : World} {x : Over W} {g g' : Nat} {v v' : Value} {o : Obj} {w2 : World} (hg : W.heap.size ≤ g) (hap : AppP (x.w.alloc o) w2 v v' g g') : ∃ y : Over W, w2 = y.w ∧ W.heap.size ≤ g' := by
  have hx := x.below.size
  have ha : Below W.heap.size W (x.w.alloc o) := x.below.alloc x.below.size o
  refine ⟨⟨w2, ha.trans (hap.fr.below (fun i hi => by omega) (by simp; omega))⟩, rfl, ?_⟩
  rcases hap.lies with e | e
  · omega
  · simp at e; omega

theorem view_e (w : World) (ao : Option Addr) (b : Nat) : View w (.slice ao 0 0) b [] := ⟨ao, 0, rfl, Nat.le_refl _, Nat.zero_le _, .inl rfl⟩



set_option maxHeartbeats 2000000 in
theorem refTargets_c (n bl tt cs cy cc cu ct cp : Int) (self d0 d1 d2 : Int) (w : World) (L : List Int) (hL : Hid (tgt n self cp d0 d1 = L)) (N : Nat) (hN : Hid (L.length = N)) :
    Calls Try.prog 11 #[.agg #[.int .i64 n, .int .i64 bl, .int .i64 tt, .int .i64 cs, .int .i64 cy, .int .i64 cc, .int .i64 cu, .int .i64 ct, .int .i64 cp], .int .i64 self, .agg #[.int .i64 d0, .int .i64 d1, .int .i64 d2]] w fun e w' => ∃ ao cap, e = .returned (.slice ao N cap) ∧ (∃ g, View w' (.slice ao N cap) g L) ∧ Below w.heap.size w w' := by
  obtain rfl := hN.out
  clear hN
  by_cases c0 : n < 0
  · obtain rfl : L = [] := by rw [← hL.out, tgt, if_pos (.inl c0)]
    clear hL
    go_enter Try.func11, Try.ntmps11
    go_wp2
    go_ret
    exact ⟨_, _, rfl, ⟨0, view_e _ _ _⟩, by repeat' first | with_reducible exact Below.refl _ _ | with_reducible refine Below.setCell ?_ ?_ _ | with_reducible refine Below.alloc ?_ ?_ _ | with_reducible refine Below.drew ?_ | with_reducible refine belowN ?_ _ | with_reducible refine Over.go _ ?_ ?_ | with_reducible exact Nat.le_refl _ | with_reducible refine Over.sz _ _ ?_ | with_reducible refine le_alloc ?_ | with_reducible refine le_setCell ?_ | with_reducible refine le_drewN ?_ | with_reducible refine le_drew ?_ | omega | (dsimp only; omega)⟩
  by_cases c1 : 64 < n
  · obtain rfl : L = [] := by rw [← hL.out, tgt, if_pos (.inr c1)]
    clear hL
    go_enter Try.func11, Try.ntmps11
    go_wp2
    go_ret
    exact ⟨_, _, rfl, ⟨0, view_e _ _ _⟩, by repeat' first | with_reducible exact Below.refl _ _ | with_reducible refine Below.setCell ?_ ?_ _ | with_reducible refine Below.alloc ?_ ?_ _ | with_reducible refine Below.drew ?_ | with_reducible refine belowN ?_ _ | with_reducible refine Over.go _ ?_ ?_ | with_reducible exact Nat.le_refl _ | with_reducible refine Over.sz _ _ ?_ | with_reducible refine le_alloc ?_ | with_reducible refine le_setCell ?_ | with_reducible refine le_drewN ?_ | with_reducible refine le_drew ?_ | omega | (dsimp only; omega)⟩
  obtain ⟨K, rfl⟩ := Int.eq_ofNat_of_zero_le (show 0 ≤ n by omega)
  have hK : K ≤ 64 := by omega
  obtain ⟨f, hf⟩ : ∃ f, Hid (fT self cp d0 d1 = f) := ⟨_, rfl⟩
  obtain rfl : tg f (K + 1) = L := by rw [← hL.out, tgt, if_neg (by omega), hf.out]; simp
  clear hL
  go_enter Try.func11, Try.ntmps11
  go_wp2_with fail
  refine name_world ?_
  intro W3 hW3
  obtain ⟨W, hW, hW3⟩ : ∃ W, (w.alloc (Obj.cells #[.int .i64 K, .int .i64 bl, .int .i64 tt, .int .i64 cs, .int .i64 cy, .int .i64 cc, .int .i64 cu, .int .i64 ct, .int .i64 cp] 23)).alloc (Obj.cells #[.int .i64 d0, .int .i64 d1, .int .i64 d2] 24) = W ∧ W3 = W.alloc (Obj.cells #[] 3) := ⟨_, rfl, hW3.symm⟩
  obtain ⟨s, hs⟩ : ∃ s, w.heap.size = s := ⟨_, rfl⟩
  have hB : Below s w W := by
    rw [← hW, ← hs]
    repeat' first | with_reducible exact Below.refl _ _ | with_reducible refine Below.setCell ?_ ?_ _ | with_reducible refine Below.alloc ?_ ?_ _ | with_reducible refine Below.drew ?_ | with_reducible refine belowN ?_ _ | with_reducible refine Over.go _ ?_ ?_ | with_reducible exact Nat.le_refl _ | with_reducible refine Over.sz _ _ ?_ | with_reducible refine le_alloc ?_ | with_reducible refine le_setCell ?_ | with_reducible refine le_drewN ?_ | with_reducible refine le_drew ?_ | omega | (dsimp only; omega)
  replace hB := hide hB
  have hz : W.heap.size = s + 1 + 1 := by rw [← hW, ← hs]; simp
  have q0 : W.cell? ⟨s, 0, none⟩ = some (.int .i64 K) := by rw [← hW, ← hs]; simp [go_sem]
  have q8 : W.cell? ⟨s, 8, none⟩ = some (.int .i64 cp) := by rw [← hW, ← hs]; simp [go_sem]
  have r0 : W.cell? ⟨s + 1, 0, none⟩ = some (.int .i64 d0) := by rw [← hW, ← hs]; simp [go_sem]
  have r1 : W.cell? ⟨s + 1, 1, none⟩ = some (.int .i64 d1) := by rw [← hW, ← hs]; simp [go_sem]
  have hO0 : Own W3 (.slice (some ⟨s + 1 + 1, 0, none⟩) 0 0) (s + 1 + 1) [] := by rw [hW3, ← hz]; exact own_empty _ _
  rw [hs]
  have hb3 : Below W.heap.size W W3 := by rw [hW3]; exact (Below.refl _ _).alloc (Nat.le_refl _) _
  clear hW hW3 c0 c1
  have z0 : s < W.heap.size := by omega
  have z1 : s + 1 < W.heap.size := by omega
  replace hs := hide hs
  replace hz := hide hz
  go_loopw [7, 8] (fun v i wr => ∃ (j g : Nat) (x : Over W), wr = x.w ∧ j ≤ K + 1 ∧ i = .int .i64 j ∧ Own x.w v g (tg f j) ∧ W.heap.size ≤ g) (fun _ i _ => K + 1 - (intOf i).toNat)
  case atStart => exact ⟨0, s + 1 + 1, ⟨W3, hb3⟩, rfl, Nat.zero_le _, rfl, hO0, by rw [hz.out]; omega⟩
  case round =>
    obtain ⟨j, g, x, rfl, hj, rfl, hO, hg⟩ := hrel
    have hO' := hide hO
    have hlen := tg_len f j
    obtain ⟨ao, cap, rfl, -⟩ := hO
    clear hb3
    by_cases hlt : j < K + 1
    · have hlt' : (j : Int) ≤ K := by omega
      have hfj : f j = (decide ((j : Int) ≠ self) && askB cp d0 d1 j) := by rw [← hf.out]; rfl
      by_cases e : (j : Int) = self
      · have hfj' : Hid (f j = false) := hide (by rw [hfj]; simp [e])
        clear hfj
        have e1 : ((j : Int) == self) = true := by simp [e]
        have e2 : decide ((j : Int) = self) = true := by simp [e]
        replace e := hide e
        go_wp2_with fail
        go_roundw
        case rel => exact ⟨j + 1, g, x, rfl, by omega, by simp, by rw [tg_off hfj'.out]; exact hO'.out, hg⟩
        case measure => simp [intOf]; omega
      have e1 : ((j : Int) == self) = false := by simp [e]
      have e2 : decide ((j : Int) = self) = false := by simp [e]
      have hfq : f j = askB cp d0 d1 j := by rw [hfj]; simp [e]
      clear hfj
      replace e := hide e
      by_cases c1 : cp = 1
      · have hfj' : Hid (f j = true) := hide (by rw [hfq, c1]; simp [askB])
        clear hfq
        subst c1
        have hq : Hid (bitB d0 j = bitB d0 j) := hide rfl
        have hl : Hid ((tg f j).length + [(j : Int)].length ≤ 1000000) := hide (by simp; omega)
        have hl2 : Hid ((tg f j).length + [(j : Int)].length = (tg f (j + 1)).length) := hide (by rw [← tg_on hfj'.out]; simp)
        go_wp2_with (first | (go_at_call 19; refine (refBit_any d0 j _).mono ?_; rw [hq.out]; rintro e w' ⟨rfl, rfl⟩) | (at_builtin; refine wpList_app rfl _ _ rfl rfl rfl (hO'.out.alloc _) (view_oneT _ _) hl.out _ hl2.out ?_; intro ao' cap' w2 g' hown hap; rw [tg_on hfj'.out] at hown; have hown' := hide hown; obtain ⟨y2, rfl, R⟩ := round_app2 hg hap; replace R := hide R; clear hown hap))
        go_roundw
        case rel => exact ⟨j + 1, g', y2, rfl, by omega, by simp, hown'.out, R.out⟩
        case measure => simp [intOf]; omega
      by_cases c2 : cp = 2
      · subst c2
        clear c1
        by_cases c3 : (j : Int) < 64
        · have c4 : ((j : Int) == 64) = false := by simp; omega
          have c5 : decide ((j : Int) = 64) = false := by simp; omega
          obtain ⟨q, hq⟩ : ∃ q, Hid (bitB d0 j = q) := ⟨_, rfl⟩
          have hfj' : Hid (f j = q) := hide (by rw [hfq, ← hq.out]; simp [askB, c3])
          clear hfq
          cases q with
          | true =>
            have hl : Hid ((tg f j).length + [(j : Int)].length ≤ 1000000) := hide (by simp; omega)
            have hl2 : Hid ((tg f j).length + [(j : Int)].length = (tg f (j + 1)).length) := hide (by rw [← tg_on hfj'.out]; simp)
            go_wp2_with (first | (go_at_call 19; refine (refBit_any d0 j _).mono ?_; rw [hq.out]; rintro e w' ⟨rfl, rfl⟩) | (at_builtin; refine wpList_app rfl _ _ rfl rfl rfl (hO'.out.alloc _) (view_oneT _ _) hl.out _ hl2.out ?_; intro ao' cap' w2 g' hown hap; rw [tg_on hfj'.out] at hown; have hown' := hide hown; obtain ⟨y2, rfl, R⟩ := round_app2 hg hap; replace R := hide R; clear hown hap))
            go_roundw
            case rel => exact ⟨j + 1, g', y2, rfl, by omega, by simp, hown'.out, R.out⟩
            case measure => simp [intOf]; omega
          | false =>
            go_wp2_with (go_at_call 19; refine (refBit_any d0 j _).mono ?_; rw [hq.out]; rintro e w' ⟨rfl, rfl⟩)
            go_roundw
            case rel => exact ⟨j + 1, g, x, rfl, by omega, by simp, by rw [tg_off hfj'.out]; exact hO'.out, hg⟩
            case measure => simp [intOf]; omega
        · obtain rfl : j = 64 := by omega
          obtain ⟨q, hq⟩ : ∃ q, Hid (bitB d1 0 = q) := ⟨_, rfl⟩
          have hfj' : Hid (f 64 = q) := hide (by rw [hfq, ← hq.out]; simp [askB])
          clear hfq
          cases q with
          | true =>
            have t64 : tg f 64 ++ [(64 : Int)] = tg f 65 := by have := tg_on hfj'.out; simpa using this
            replace t64 := hide t64
            have hl : Hid ((tg f 64).length + [(64 : Int)].length ≤ 1000000) := hide (by simp; omega)
            have hl2 : Hid ((tg f 64).length + [(64 : Int)].length = (tg f 65).length) := hide (by rw [← t64.out]; simp)
            go_wp2_with (first | (go_at_call 19; refine (refBit_any d1 0 _).mono ?_; rw [hq.out]; rintro e w' ⟨rfl, rfl⟩) | (at_builtin; refine wpList_app rfl _ _ rfl rfl rfl (hO'.out.alloc _) (view_oneT _ _) hl.out _ hl2.out ?_; intro ao' cap' w2 g' hown hap; rw [t64.out] at hown; have hown' := hide hown; obtain ⟨y2, rfl, R⟩ := round_app2 hg hap; replace R := hide R; clear hown hap))
            go_roundw
            case rel => exact ⟨65, g', y2, rfl, by omega, by simp, hown'.out, R.out⟩
            case measure => simp [intOf]; omega
          | false =>
            go_wp2_with (go_at_call 19; refine (refBit_any d1 0 _).mono ?_; rw [hq.out]; rintro e w' ⟨rfl, rfl⟩)
            go_roundw
            case rel => exact ⟨65, g, x, rfl, by omega, by simp, by rw [tg_off hfj'.out]; exact hO'.out, hg⟩
            case measure => simp [intOf]; omega
      · have hfj' : Hid (f j = false) := hide (by rw [hfq]; simp [askB, c1, c2])
        clear hfq
        have p1 : (cp == 1) = false := by simp [c1]
        have p2 : (cp == 2) = false := by simp [c2]
        go_wp2_with fail
        go_roundw
        case rel => exact ⟨j + 1, g, x, rfl, by omega, by simp, by rw [tg_off hfj'.out]; exact hO'.out, hg⟩
        case measure => simp [intOf]; omega
    · obtain rfl : j = K + 1 := by omega
      go_wp2_with fail
      go_ret
      refine ⟨_, _, rfl, ⟨g, hO'.out.view⟩, ?_⟩
      rw [hs.out]
      exact hB.out.trans (x.below.mono (by rw [hz.out]; omega))
end Go.Proofs.Ytipamgncalcaiaa
