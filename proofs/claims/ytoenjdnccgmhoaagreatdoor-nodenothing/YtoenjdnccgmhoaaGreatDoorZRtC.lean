/- layer 15: RtMath RtA RtB RtC, put together. -/
import Derived.Test.YtoenjdnccgmhoaaGreatDoorB10
import Derived.Test.YtoenjdnccgmhoaaGreatDoorB18
import Derived.BigQuiet
namespace Go.Proofs.YtoenjdnccgmhoaaGreatDoor
open Go.ChangeShapes Go.WideShapes Go.ChangeAt Go.RowKit
set_option linter.unusedSimpArgs false
set_option linter.unusedVariables false
set_option maxRecDepth 10000
attribute [local go_sem, local simp] over_const setCell_drewN alloc_drewN Over.cell Over.frozen lt_s1 lt_s2 lt_s3 le_s0 le_s1 le_s2 le_s3 eq_s0 eq_s1 eq_s2 qe_s0
def stO (b : Int) (n : Int) (x : At) : Int := if x.b = b ∧ n < x.s then x.s else n
def dO (Off : List At) (b : Int) : Int := Off.foldl (stO b) 0
def stB (b th : Int) (y x : At) : At := if x.b = b ∧ y.s < x.s ∧ th < x.s then x else y
def bst (On : List At) (b th : Int) : At := On.foldl (stB b th) at0
def dA (On Off : List At) (b : Int) : At := bst On b (dO Off b)
theorem take_next {L : List At} {j : Nat} (hj : j < L.length) : L.take (j + 1) = L.take j ++ [L[j]] := by
  rw [List.take_add_one, List.getElem?_eq_getElem hj]
  rfl
theorem dO_snoc (L : List At) (x : At) (b : Int) : dO (L ++ [x]) b = stO b (dO L b) x := by simp only [dO, List.foldl_append, List.foldl_cons, List.foldl_nil]
theorem bst_snoc (L : List At) (x : At) (b th : Int) : bst (L ++ [x]) b th = stB b th (bst L b th) x := by simp only [bst, List.foldl_append, List.foldl_cons, List.foldl_nil]
theorem dO_take {L : List At} {j : Nat} (hj : j < L.length) (b : Int) : dO (L.take (j + 1)) b = stO b (dO (L.take j) b) L[j] := by rw [take_next hj, dO_snoc]
theorem bst_take {L : List At} {j : Nat} (hj : j < L.length) (b th : Int) : bst (L.take (j + 1)) b th = stB b th (bst (L.take j) b th) L[j] := by rw [take_next hj, bst_snoc]
theorem list_snoc {P : List At → Prop} (h0 : P []) (h1 : ∀ L x, P L → P (L ++ [x])) : ∀ L, P L := by
  intro L
  have : ∀ n (M : List At), M.length = n → P M := by
    intro n
    induction n with
    | zero => intro M hM; rw [List.eq_nil_of_length_eq_zero hM]; exact h0
    | succ n ih =>
      intro M hM
      have hne : M ≠ [] := fun e => by rw [e] at hM; cases hM
      rw [← List.dropLast_concat_getLast hne]
      exact h1 _ _ (ih _ (by simp [hM]))
  exact this _ L rfl
structure Link (N : Nat) (On Off : List At) (T : Tb) : Prop where
  inv : TInv N T
  o : ∀ b, dO Off b = T.O b
  a : ∀ b, bst On b (T.O b) = getA T.A b
  pw : On.Pairwise fun x y => x.b = y.b → x.s < y.s
theorem Link.dA {N : Nat} {On Off : List At} {T : Tb} (h : Link N On Off T) (b : Int) : Go.Proofs.YtoenjdnccgmhoaaGreatDoor.dA On Off b = getA T.A b := by unfold Go.Proofs.YtoenjdnccgmhoaaGreatDoor.dA; rw [h.o, h.a]
def okD (On Off : List At) (a : At) : Bool := decide (¬ (a.s < 1) ∧ ¬ (a.s ≤ dO Off a.b) ∧ ¬ (a.s ≤ (dA On Off a.b).s))
theorem Link.ok {N : Nat} {On Off : List At} {T : Tb} (h : Link N On Off T) (a : At) : okD On Off a = okA T a := by
  unfold okD okA
  rw [h.o, h.dA]
  have := h.inv.pos a.b
  rw [decide_eq_decide]
  omega
theorem Link.skip {N : Nat} {On Off : List At} {T : Tb} (h : Link N On Off T) (a : At) (hok : okA T a = false) : Link (N + 1) On Off (nxA T a) := by
  have hn : nxA T a = T := by unfold nxA; rw [if_neg (by rw [hok]; decide)]
  rw [hn]
  exact ⟨h.inv.mono (by omega), h.o, h.a, h.pw⟩
def posA : List At → Int → Nat
  | [], _ => 0
  | x :: r, b => if x.b < b then posA r b + 1 else 0
theorem posA_le (L : List At) (b : Int) : posA L b ≤ L.length := by
  induction L with
  | nil => exact Nat.le_refl _
  | cons x r ih =>
    simp only [posA]
    split
    · simp; omega
    · simp
theorem posA_lt (L : List At) (b : Int) : ∀ j (h : j < L.length), j < posA L b → L[j].b < b := by
  induction L with
  | nil => intro j h; simp at h
  | cons x r ih =>
    intro j h hj
    simp only [posA] at hj
    split at hj
    · cases j with
      | zero => assumption
      | succ j => exact ih j (by simpa using h) (by omega)
    · omega
theorem posA_at (L : List At) (b : Int) : ∀ (h : posA L b < L.length), ¬ L[posA L b].b < b := by
  induction L with
  | nil => intro h; simp at h
  | cons x r ih =>
    intro h
    by_cases c : x.b < b
    · have e : posA (x :: r) b = posA r b + 1 := by simp only [posA]; rw [if_pos c]
      simp only [e, List.getElem_cons_succ]
      exact ih (by rw [e] at h; simpa using h)
    · have e : posA (x :: r) b = 0 := by simp only [posA]; rw [if_neg c]
      simp only [e, List.getElem_cons_zero]
      exact c
def eqA (a x : At) : Bool := decide (a.b = x.b ∧ a.n = x.n ∧ a.s = x.s)
theorem eqA_iff {a x : At} : eqA a x = true ↔ a = x := by
  unfold eqA
  rw [decide_eq_true_eq]
  constructor
  · rintro ⟨h1, h2, h3⟩
    cases a; cases x
    simp_all
  · rintro rfl; exact ⟨rfl, rfl, rfl⟩
def keepD (On Off : List At) (x : At) : Bool := decide (0 < (dA On Off x.b).s) && eqA (dA On Off x.b) x
def stL (On Off : List At) (out : List At) (x : At) : List At := if keepD On Off x = true then out.take (posA out x.b) ++ [x] ++ out.drop (posA out x.b) else out
def dL (On Off P : List At) : List At := P.foldl (stL On Off) []
theorem dL_take {On Off L : List At} {j : Nat} (hj : j < L.length) : dL On Off (L.take (j + 1)) = stL On Off (dL On Off (L.take j)) L[j] := by
  rw [take_next hj]
  simp only [dL, List.foldl_append, List.foldl_cons, List.foldl_nil]
theorem dL_len {On Off : List At} (P : List At) : (dL On Off P).length ≤ P.length := by
  induction P using list_snoc with
  | h0 => exact Nat.le_refl _
  | h1 P x ih =>
    have e : dL On Off (P ++ [x]) = stL On Off (dL On Off P) x := by simp only [dL, List.foldl_append, List.foldl_cons, List.foldl_nil]
    rw [e]
    unfold stL
    have := posA_le (dL On Off P) x.b
    split
    · simp; omega
    · simp; omega
structure AtW (w : World) (b : Nat) (x : At) : Prop where
  lt : b < w.heap.size
  c0 : w.cell? ⟨b, 0, none⟩ = some (.int .i64 x.b)
  c1 : w.cell? ⟨b, 1, none⟩ = some (.int .i64 x.n)
  c2 : w.cell? ⟨b, 2, none⟩ = some (.int .i64 x.s)
  f0 : w.frozen? ⟨b, 0, none⟩ = false
  f1 : w.frozen? ⟨b, 1, none⟩ = false
  f2 : w.frozen? ⟨b, 2, none⟩ = false
theorem AtW.carry {w w' : World} {b : Nat} {x : At} (h : AtW w b x) (e : w'.heap[b]? = w.heap[b]?) : AtW w' b x :=
  ⟨block_lt h.lt e, keep_cell e h.c0, keep_cell e h.c1, keep_cell e h.c2, keep_frozen e h.f0, keep_frozen e h.f1, keep_frozen e h.f2⟩
theorem AtW.below {w w' : World} {b : Nat} {x : At} (h : AtW w b x) (hb : Below w.heap.size w w') : AtW w' b x := h.carry (hb.block b h.lt)
theorem AtW.fr {w w' : World} {b : Nat} {x : At} {F : Nat → Prop} (h : AtW w b x) (hf : FrS F w w') (hn : ¬ F b) : AtW w' b x := h.carry (hf.block b h.lt hn)
abbrev atwO (x : At) : Obj := .cells #[.int .i64 x.b, .int .i64 x.n, .int .i64 x.s] 113
theorem atw_new (w : World) (x : At) : AtW (w.alloc (atwO x)) w.heap.size x :=
  ⟨by simp, by simp [go_sem], by simp [go_sem], by simp [go_sem], by simp [go_sem], by simp [go_sem], by simp [go_sem]⟩
theorem FrS.wrA {B : Nat} {a b : World} (h : FrS (· = B) a b) {o : Nat} (u : Value) : FrS (· = B) a (b.setCell ⟨B, o, none⟩ u) := h.setCell (q := ⟨B, o, none⟩) (.inl rfl) u
abbrev setW (w : World) (B : Nat) (x : At) : World := (((w.setCell ⟨B, 0, none⟩ (.int .i64 x.b)).setCell ⟨B, 1, none⟩ (.int .i64 x.n)).setCell ⟨B, 2, none⟩ (.int .i64 x.s))
theorem set_w {w : World} {B : Nat} {y : At} (h : AtW w B y) (x : At) : AtW (setW w B x) B x ∧ FrS (· = B) w (setW w B x) := by
  obtain ⟨y5, y0, y1, y2, z0, z1, z2⟩ := h
  refine ⟨⟨by simp; exact y5, by simp [go_sem, *], by simp [go_sem, *], by simp [go_sem, *], by simp [go_sem, *], by simp [go_sem, *], by simp [go_sem, *]⟩, ?_⟩
  exact (((FrS.refl _ _).wrA _).wrA _).wrA _
structure RtIs (w : World) (p g1 g2 : Nat) (On Off : List At) : Prop where
  lt : p < w.heap.size
  c0 : ∃ ao cap, w.cell? ⟨p, 0, none⟩ = some (.slice ao On.length cap) ∧ ViewA w (.slice ao On.length cap) g1 On
  c1 : ∃ ao cap, w.cell? ⟨p, 1, none⟩ = some (.slice ao Off.length cap) ∧ ViewA w (.slice ao Off.length cap) g2 Off
  f0 : w.frozen? ⟨p, 0, none⟩ = false
  f1 : w.frozen? ⟨p, 1, none⟩ = false
  n1 : On ≠ [] → g1 ≠ p
  n2 : Off ≠ [] → g2 ≠ p
theorem RtIs.carry {w w' : World} {p g1 g2 : Nat} {On Off : List At} (h : RtIs w p g1 g2 On Off) (ep : w'.heap[p]? = w.heap[p]?) (e1 : On ≠ [] → w'.heap[g1]? = w.heap[g1]?) (e2 : Off ≠ [] → w'.heap[g2]? = w.heap[g2]?) : RtIs w' p g1 g2 On Off := by
  obtain ⟨a1, c1, h1, h2⟩ := h.c0
  obtain ⟨a2, c2, h3, h4⟩ := h.c1
  exact ⟨block_lt h.lt ep, ⟨a1, c1, keep_cell ep h1, h2.carry (fun hn _ => e1 hn)⟩, ⟨a2, c2, keep_cell ep h3, h4.carry (fun hn _ => e2 hn)⟩, keep_frozen ep h.f0, keep_frozen ep h.f1, h.n1, h.n2⟩
theorem RtIs.l1 {w : World} {p g1 g2 : Nat} {On Off : List At} (h : RtIs w p g1 g2 On Off) (hn : On ≠ []) : g1 < w.heap.size := by obtain ⟨_, _, _, h⟩ := h.c0; exact h.lt_of hn
theorem RtIs.l2 {w : World} {p g1 g2 : Nat} {On Off : List At} (h : RtIs w p g1 g2 On Off) (hn : Off ≠ []) : g2 < w.heap.size := by obtain ⟨_, _, _, h⟩ := h.c1; exact h.lt_of hn
theorem RtIs.below {w w' : World} {p g1 g2 : Nat} {On Off : List At} (h : RtIs w p g1 g2 On Off) (hb : Below w.heap.size w w') : RtIs w' p g1 g2 On Off :=
  h.carry (hb.block p h.lt) (fun hn => hb.block g1 (h.l1 hn)) (fun hn => hb.block g2 (h.l2 hn))
theorem RtIs.fr {w w' : World} {p g1 g2 : Nat} {On Off : List At} {F : Nat → Prop} (h : RtIs w p g1 g2 On Off) (hf : FrS F w w') (hp : ¬ F p) (h1 : On ≠ [] → ¬ F g1) (h2 : Off ≠ [] → ¬ F g2) : RtIs w' p g1 g2 On Off :=
  h.carry (hf.block p h.lt hp) (fun hn => hf.block g1 (h.l1 hn) (h1 hn)) (fun hn => hf.block g2 (h.l2 hn) (h2 hn))
set_option maxHeartbeats 1000000 in
theorem rOver_c (p g1 g2 : Nat) (On Off : List At) (b : Int) (w : World) (h : RtIs w p g1 g2 On Off) (n : Int) (hn : Hid (dO Off b = n)) : Calls Tryz.prog 90 #[ptr p, .int .i64 b] w fun e w' => e = .returned (.int .i64 n) ∧ w' = w := by
  obtain ⟨ao, cap, q0, hV⟩ := h.c1
  have hmx : Off.length ≤ 9223372036854775807 := by obtain ⟨_, _, _, h1, h2, _⟩ := hV; unfold maxLen at h2; omega
  replace hV := hide hV
  clear h
  go_enter Tryz.func90, Tryz.ntmps90
  go_wp2_with fail
  go_loopw [5, 6] (fun v i wr => ∃ j : Nat, j ≤ Off.length ∧ i = .int .i64 j ∧ v = .int .i64 (dO (Off.take j) b) ∧ wr = w) (fun _ i _ => Off.length - (intOf i).toNat)
  case atStart => exact ⟨0, Nat.zero_le _, rfl, rfl, rfl⟩
  case round =>
    obtain ⟨j, hj, rfl, rfl, hw⟩ := hrel
    rw [hw]
    clear hw
    by_cases hlt : j < Off.length
    · have hst := hide (dO_take hlt b)
      obtain ⟨-, -, -, k⟩ := view_atA hV.out rfl
      obtain ⟨o, rfl, gl, d0, d1, d2⟩ := k j hlt
      have hlt' : (j : Int) < Off.length := by omega
      obtain ⟨a, ha⟩ : ∃ a, Off[j] = a := ⟨_, rfl⟩
      rw [ha] at d0 d1 d2 hst
      obtain ⟨m, hm⟩ : ∃ m, Hid (dO (Off.take j) b = m) := ⟨_, rfl⟩
      rw [hm.out] at hst ⊢
      clear k ha hV
      by_cases c1 : a.b = b
      · have c1' : decide (a.b = b) = true ∧ (a.b == b) = true := ⟨by simpa using c1, by simpa using c1⟩
        by_cases c2 : m < a.s
        · have e : Hid (dO (Off.take (j + 1)) b = a.s) := hide (by rw [hst.out]; exact if_pos ⟨c1, c2⟩)
          replace c1 := hide c1
          go_wp2_with fail
          go_roundw
          case rel => exact ⟨j + 1, by omega, by simp, by rw [e.out], trivial⟩
          case measure => simp [intOf]; omega
        · have e : Hid (dO (Off.take (j + 1)) b = m) := hide (by rw [hst.out]; exact if_neg (fun h => c2 h.2))
          replace c1 := hide c1
          go_wp2_with fail
          go_roundw
          case rel => exact ⟨j + 1, by omega, by simp, by rw [e.out], trivial⟩
          case measure => simp [intOf]; omega
      · have c1' : decide (a.b = b) = false ∧ (a.b == b) = false := ⟨by simpa using c1, by simpa using c1⟩
        have e : Hid (dO (Off.take (j + 1)) b = m) := hide (by rw [hst.out]; exact if_neg (fun h => c1 h.1))
        replace c1 := hide c1
        go_wp2_with fail
        go_roundw
        case rel => exact ⟨j + 1, by omega, by simp, by rw [e.out], trivial⟩
        case measure => simp [intOf]; omega
    · obtain rfl : j = Off.length := by omega
      rw [List.take_length, hn.out]
      clear hV
      go_wp2_with fail
      go_ret
      exact ⟨rfl, rfl⟩
structure AcMid (w wr : World) (y : At) : Prop where
  r : AtW wr w.heap.size at0
  m : AtW wr (w.heap.size + 1) y
  b : Below w.heap.size w wr
theorem AcMid.next {w wr w2 : World} {y : At} (h : AcMid w wr y) (hb : Below wr.heap.size wr w2) : AcMid w w2 y := ⟨h.r.below hb, h.m.below hb, h.b.trans (hb.mono h.b.size)⟩
theorem AcMid.set {w wr : World} {y : At} (h : AcMid w wr y) (x : At) : AcMid w (setW wr (w.heap.size + 1) x) x := by
  obtain ⟨h1, h2⟩ := set_w h.m x
  exact ⟨h.r.fr h2 (by omega), h1, h.b.trans (h2.below (fun i hi => by omega) h.b.size)⟩
set_option maxHeartbeats 2000000 in
theorem rActive_c (p g1 g2 : Nat) (On Off : List At) (b : Int) (w : World) (h : RtIs w p g1 g2 On Off) (a : At) (ha : Hid (dA On Off b = a)) (is : Bool) (his : Hid (decide (0 < a.s) = is)) : Calls Tryz.prog 41 #[ptr p, .int .i64 b] w fun e w' => e = .returned (.tuple #[.agg #[.int .i64 a.b, .int .i64 a.n, .int .i64 a.s], .bool is]) ∧ Below w.heap.size w w' := by
  have hpl := h.lt
  have hH := hide h
  obtain ⟨ao, cap, q0, hV⟩ := h.c0
  have hmx : On.length ≤ 9223372036854775807 := by obtain ⟨_, _, _, h1, h2, _⟩ := hV; unfold maxLen at h2; omega
  obtain ⟨th, hth⟩ : ∃ th, Hid (dO Off b = th) := ⟨_, rfl⟩
  have ha' : Hid (bst On b th = a) := hide (by rw [← hth.out]; exact ha.out)
  replace hV := hide hV
  clear h ha
  go_enter Tryz.func41, Tryz.ntmps41
  go_wp2_with fail
  have M0 : Hid (AcMid w ((w.alloc (atwO at0)).alloc (atwO at0)) at0) := hide ⟨(atw_new w at0).below ((Below.refl _ _).alloc (Nat.le_refl _) _), by have := atw_new (w.alloc (atwO at0)) at0; rw [World.size_alloc] at this; exact this, ((Below.refl _ _).alloc (Nat.le_refl _) _).alloc (by simp) _⟩
  go_loopw [7] (fun i wr => ∃ j : Nat, j ≤ On.length ∧ i = .int .i64 j ∧ AcMid w wr (bst (On.take j) b th)) (fun i _ => On.length - (intOf i).toNat)
  case atStart => exact ⟨0, Nat.zero_le _, rfl, M0.out⟩
  case round =>
    obtain ⟨j, hj, rfl, hM⟩ := hrel
    clear M0
    have q1 : wr.cell? ⟨p, 0, none⟩ = some (.slice ao On.length cap) := keep_cell (hM.b.block p hpl) q0
    have hR := hide (hH.out.below hM.b)
    have hV1 := hide (hV.out.below hM.b)
    by_cases hlt : j < On.length
    · have hst := hide (bst_take hlt b th)
      obtain ⟨-, -, -, k⟩ := view_atA hV1.out rfl
      obtain ⟨o, rfl, gl, d0, d1, d2⟩ := k j hlt
      have hlt' : (j : Int) < On.length := by omega
      obtain ⟨x, hx⟩ : ∃ x, On[j] = x := ⟨_, rfl⟩
      rw [hx] at d0 d1 d2 hst
      obtain ⟨y, hy⟩ : ∃ y, bst (On.take j) b th = y := ⟨_, rfl⟩
      rw [hy] at hst hM
      have m9 := hM.m.lt
      have m2 := hM.m.c2
      have e1 := hM.m.f0
      have e2 := hM.m.f1
      have e3 := hM.m.f2
      have m0 := hM.m.c0
      have m1 := hM.m.c1
      replace hM := hide hM
      clear k hx hV1 hy
      by_cases c1 : x.b = b
      · by_cases c2 : y.s < x.s
        · by_cases c3 : th < x.s
          · have e : Hid (stB b th y x = x) := hide (if_pos ⟨c1, c2, c3⟩)
            replace c1 := hide c1
            go_wp2_with fail
            refine wp_region_noPanic ?_
            refine wp_region_held_drew (S := (fun w' => Hid (RtIs w' p g1 g2 On Off) ∧ w'.cell? ⟨wr.heap.size, 0, none⟩ = some (.int .i64 x.b) ∧ w'.cell? ⟨wr.heap.size, 2, none⟩ = some (.int .i64 x.s) ∧ w'.cell? ⟨w.heap.size + 1, 2, none⟩ = some (.int .i64 y.s))) (by kernel_rfl) ?_ (fun hHeld => ?_)
            · exact ⟨hide (hR.out.below (by all_goals exact belEnd)), by simp [go_sem], by simp [go_sem], by simp [go_sem, *]⟩
            refine hTk 0 26 hHeld ?_
            refine hTk 1 27 hHeld ?_
            refine hTk 2 28 hHeld ?_
            refine hVl 3 29 (.bool true) hHeld (fun wz hSw => ?_) ?_
            · try dsimp only at hSw
              go_simp; try simp [c1.out]
            refine hTk 4 30 hHeld ?_
            refine hTk 5 31 hHeld ?_
            refine hTk 6 32 hHeld ?_
            refine hTk 7 33 hHeld ?_
            refine hTk 8 34 hHeld ?_
            refine hVl 9 35 (.bool true) hHeld (fun wz hSw => ?_) ?_
            · try dsimp only at hSw
              go_simp; try simp [c2]
            refine hTk 10 36 hHeld ?_
            refine hTk 11 37 hHeld ?_
            refine hTk 12 38 hHeld ?_
            refine hTk 13 39 hHeld ?_
            refine hTk 14 40 hHeld ?_
            refine hTk 15 41 hHeld ?_
            refine hNo 16 fun K hK => ?_
            go_simp; go_at_call 90; refine (rOver_c p g1 g2 On Off b _ hHeld.1.out th hth).mono ?_; rintro e w' ⟨rfl, hw'⟩; rw [hw']; clear hw' w'
            refine hK.out _ _ ?_ fun hHeld => ?_
            · exact hHeld
            clear hK K
            try simp only [Act.put, za, zb, zc]
            refine hVl 17 43 (.bool true) hHeld (fun wz hSw => ?_) ?_
            · try dsimp only at hSw
              go_simp; try simp [c3]
            refine hTk 18 44 hHeld ?_
            refine wpAnyH_done (by kernel_rfl) (NoPanic.normal ?_) _
            clear hHeld
            have M2 : Hid (AcMid w ((setW wr (w.heap.size + 1) x).alloc (atwO x)).drew x) := hide ((hM.out.set x).next (((Below.refl _ _).alloc (Nat.le_refl _) _).drew))
            go_wp2_with fail
            clear hM hR
            go_roundw
            case rel => exact ⟨j + 1, by omega, by simp, by rw [hst.out, e.out]; exact M2.out⟩
            case measure => simp [intOf]; omega
          · have e : Hid (stB b th y x = y) := hide (if_neg (fun h => c3 h.2.2))
            replace c1 := hide c1
            go_wp2_with fail
            refine wp_region_noPanic ?_
            refine wp_region_held_drew (S := (fun w' => Hid (RtIs w' p g1 g2 On Off) ∧ w'.cell? ⟨wr.heap.size, 0, none⟩ = some (.int .i64 x.b) ∧ w'.cell? ⟨wr.heap.size, 2, none⟩ = some (.int .i64 x.s) ∧ w'.cell? ⟨w.heap.size + 1, 2, none⟩ = some (.int .i64 y.s))) (by kernel_rfl) ?_ (fun hHeld => ?_)
            · exact ⟨hide (hR.out.below (by all_goals exact belEnd)), by simp [go_sem], by simp [go_sem], by simp [go_sem, *]⟩
            refine hTk 0 26 hHeld ?_
            refine hTk 1 27 hHeld ?_
            refine hTk 2 28 hHeld ?_
            refine hVl 3 29 (.bool true) hHeld (fun wz hSw => ?_) ?_
            · try dsimp only at hSw
              go_simp; try simp [c1.out]
            refine hTk 4 30 hHeld ?_
            refine hTk 5 31 hHeld ?_
            refine hTk 6 32 hHeld ?_
            refine hTk 7 33 hHeld ?_
            refine hTk 8 34 hHeld ?_
            refine hVl 9 35 (.bool true) hHeld (fun wz hSw => ?_) ?_
            · try dsimp only at hSw
              go_simp; try simp [c2]
            refine hTk 10 36 hHeld ?_
            refine hTk 11 37 hHeld ?_
            refine hTk 12 38 hHeld ?_
            refine hTk 13 39 hHeld ?_
            refine hTk 14 40 hHeld ?_
            refine hTk 15 41 hHeld ?_
            refine hNo 16 fun K hK => ?_
            go_simp; go_at_call 90; refine (rOver_c p g1 g2 On Off b _ hHeld.1.out th hth).mono ?_; rintro e w' ⟨rfl, hw'⟩; rw [hw']; clear hw' w'
            refine hK.out _ _ ?_ fun hHeld => ?_
            · exact hHeld
            clear hK K
            try simp only [Act.put, za, zb, zc]
            refine hVl 17 43 (.bool false) hHeld (fun wz hSw => ?_) ?_
            · try dsimp only at hSw
              go_simp; try simp [c3]
            refine hTk 18 44 hHeld ?_
            refine wpAnyH_done (by kernel_rfl) (NoPanic.normal ?_) _
            clear hHeld
            go_wp2_with fail
            have M2 : Hid (AcMid w (wr.alloc (atwO x)).drew y) := hide (hM.out.next (by all_goals exact belEnd))
            clear hM hR
            go_roundw
            case rel => exact ⟨j + 1, by omega, by simp, by rw [hst.out, e.out]; exact M2.out⟩
            case measure => simp [intOf]; omega
        · have e : Hid (stB b th y x = y) := hide (if_neg (fun h => c2 h.2.1))
          replace c1 := hide c1
          go_wp2_with fail
          refine wp_region_noPanic ?_
          refine wp_region_held_drew (S := (fun w' => Hid (RtIs w' p g1 g2 On Off) ∧ w'.cell? ⟨wr.heap.size, 0, none⟩ = some (.int .i64 x.b) ∧ w'.cell? ⟨wr.heap.size, 2, none⟩ = some (.int .i64 x.s) ∧ w'.cell? ⟨w.heap.size + 1, 2, none⟩ = some (.int .i64 y.s))) (by kernel_rfl) ?_ (fun hHeld => ?_)
          · exact ⟨hide (hR.out.below (by all_goals exact belEnd)), by simp [go_sem], by simp [go_sem], by simp [go_sem, *]⟩
          refine hTk 0 26 hHeld ?_
          refine hTk 1 27 hHeld ?_
          refine hTk 2 28 hHeld ?_
          refine hVl 3 29 (.bool true) hHeld (fun wz hSw => ?_) ?_
          · try dsimp only at hSw
            go_simp; try simp [c1.out]
          refine hTk 4 30 hHeld ?_
          refine hTk 5 31 hHeld ?_
          refine hTk 6 32 hHeld ?_
          refine hTk 7 33 hHeld ?_
          refine hTk 8 34 hHeld ?_
          refine hVl 9 35 (.bool false) hHeld (fun wz hSw => ?_) ?_
          · try dsimp only at hSw
            go_simp; try simp [c2]
          refine hTk 10 36 hHeld ?_
          refine hTk 11 37 hHeld ?_
          refine hSk 12 38 hHeld ?_
          refine hSk 13 39 hHeld ?_
          refine hSk 14 40 hHeld ?_
          refine hSk 15 41 hHeld ?_
          refine hSk 16 42 hHeld ?_
          refine hSk 17 43 hHeld ?_
          refine hTk 18 44 hHeld ?_
          refine wpAnyH_done (by kernel_rfl) (NoPanic.normal ?_) _
          clear hHeld
          go_wp2_with fail
          have M2 : Hid (AcMid w (wr.alloc (atwO x)).drew y) := hide (hM.out.next (by all_goals exact belEnd))
          clear hM hR
          go_roundw
          case rel => exact ⟨j + 1, by omega, by simp, by rw [hst.out, e.out]; exact M2.out⟩
          case measure => simp [intOf]; omega
      · have e : Hid (stB b th y x = y) := hide (if_neg (fun h => c1 h.1))
        go_wp2_with fail
        refine wp_region_noPanic ?_
        refine wp_region_held_drew (S := (fun w' => Hid (RtIs w' p g1 g2 On Off) ∧ w'.cell? ⟨wr.heap.size, 0, none⟩ = some (.int .i64 x.b) ∧ w'.cell? ⟨wr.heap.size, 2, none⟩ = some (.int .i64 x.s) ∧ w'.cell? ⟨w.heap.size + 1, 2, none⟩ = some (.int .i64 y.s))) (by kernel_rfl) ?_ (fun hHeld => ?_)
        · exact ⟨hide (hR.out.below (by all_goals exact belEnd)), by simp [go_sem], by simp [go_sem], by simp [go_sem, *]⟩
        refine hTk 0 26 hHeld ?_
        refine hTk 1 27 hHeld ?_
        refine hTk 2 28 hHeld ?_
        refine hVl 3 29 (.bool false) hHeld (fun wz hSw => ?_) ?_
        · try dsimp only at hSw
          go_simp; try simp [c1]
        refine hTk 4 30 hHeld ?_
        refine hSk 5 31 hHeld ?_
        refine hSk 6 32 hHeld ?_
        refine hSk 7 33 hHeld ?_
        refine hSk 8 34 hHeld ?_
        refine hSk 9 35 hHeld ?_
        refine hTk 10 36 hHeld ?_
        refine hTk 11 37 hHeld ?_
        refine hSk 12 38 hHeld ?_
        refine hSk 13 39 hHeld ?_
        refine hSk 14 40 hHeld ?_
        refine hSk 15 41 hHeld ?_
        refine hSk 16 42 hHeld ?_
        refine hSk 17 43 hHeld ?_
        refine hTk 18 44 hHeld ?_
        refine wpAnyH_done (by kernel_rfl) (NoPanic.normal ?_) _
        clear hHeld
        go_wp2_with fail
        have M2 : Hid (AcMid w (wr.alloc (atwO x)).drew y) := hide (hM.out.next (by all_goals exact belEnd))
        clear hM hR
        go_roundw
        case rel => exact ⟨j + 1, by omega, by simp, by rw [hst.out, e.out]; exact M2.out⟩
        case measure => simp [intOf]; omega
    · obtain rfl : j = On.length := by omega
      rw [List.take_length, ha'.out] at hM
      obtain ⟨z9, z0, z1, z2, f0, f1, f2⟩ := hM.m
      obtain ⟨y9, y0, y1, y2, u0, u1, u2⟩ := hM.r
      have hB := hide hM.b
      clear hM hR hV1
      go_wp2_with fail
      refine wp_region_noPanic ?_
      refine wp_region_held_drew (S := (fun w' => w'.cell? ⟨w.heap.size + 1, 0, none⟩ = some (.int .i64 a.b) ∧ w'.cell? ⟨w.heap.size + 1, 1, none⟩ = some (.int .i64 a.n) ∧ w'.cell? ⟨w.heap.size + 1, 2, none⟩ = some (.int .i64 a.s))) (by kernel_rfl) ?_ (fun hHeld => ?_)
      · exact ⟨z0, z1, z2⟩
      refine hTk 0 46 hHeld ?_
      refine hTk 1 47 hHeld ?_
      refine hTk 2 48 hHeld ?_
      refine hVl 3 49 (.bool is) hHeld (fun wz hSw => ?_) ?_
      · try dsimp only at hSw
        go_simp; try rw [his.out]
      refine hNo 4 fun K hK => ?_
      go_simp
      refine hK.out _ _ ?_ fun hHeld => ?_
      · exact ⟨by simp [go_sem, *], by simp [go_sem, *], by simp [go_sem, *]⟩
      clear hK K
      try simp only [Act.put, za, zb, zc]
      refine hTk 5 5 hHeld ?_
      refine wpAnyH_done (by kernel_rfl) (NoPanic.normal ?_) _
      clear hHeld
      go_wp2_with fail
      refine bodyPost_ret (by simp [results, Tryz.results41, go_sem, *]; done) rfl ⟨rfl, ?_⟩
      exact (((hB.out.drew.setCell (p := ⟨w.heap.size, 0, none⟩) (Nat.le_refl _) _).setCell (p := ⟨w.heap.size, 1, none⟩) (Nat.le_refl _) _).setCell (p := ⟨w.heap.size, 2, none⟩) (Nat.le_refl _) _)
theorem belA1 (w : World) (o : Obj) : Below w.heap.size w (w.alloc o) := (Below.refl _ _).alloc (Nat.le_refl _) _
end Go.Proofs.YtoenjdnccgmhoaaGreatDoor
