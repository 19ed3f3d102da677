/- layer 15: Perm CacMath PermDo CacMath2 RcMath, put together. -/
import Derived.Test.YtoenjdnccgmhoaaGreatDoorRows
import Derived.Test.YtoenjdnccgmhoaaGreatDoorB02
import Derived.Test.YtoenjdnccgmhoaaGreatDoorB04
namespace Go.Proofs.YtoenjdnccgmhoaaGreatDoor
open Go.ChangeShapes Go.WideShapes Go.ChangeAt Go.RowKit
set_option linter.unusedSimpArgs false
set_option linter.unusedVariables false
attribute [local go_sem, local simp] over_const setCell_drewN alloc_drewN Over.cell Over.frozen lt_s1 lt_s2 lt_s3 le_s0 le_s1 le_s2 le_s3 eq_s0 eq_s1 eq_s2 qe_s0
def canB (wr : Bool) (n : Int) (h : Bool) (t : Int) : Bool := decide (1 ≤ n) && h && (!wr || decide (n = t))
theorem can_load (n : Int) (h : Bool) (t u : Int) : canB false n h t = canB false n h u := by simp [canB]
theorem reads_c (n : Int) (o h : Bool) (d t : Int) (w : World) (q : Bool) (hq : Hid (canB false n h t = q)) :
    Calls Tryz.prog 162 #[.agg #[.int .i64 n, .bool o, .bool h, .int .i64 d]] w fun e w' => e = .returned (.bool q) ∧ Below w.heap.size w w' := by
  have hq' := unhide hq
  unfold canB at hq'
  by_cases c : 1 ≤ n <;> cases h <;> simp [c] at hq' <;> subst hq'
  all_goals
    go_enter Tryz.func162, Tryz.ntmps162
    go_wp2
    go_ret
    exact ⟨rfl, by go_grown⟩
theorem writes_c (n : Int) (o h : Bool) (d t : Int) (w : World) (q : Bool) (hq : Hid (canB true n h t = q)) :
    Calls Tryz.prog 161 #[.agg #[.int .i64 n, .bool o, .bool h, .int .i64 d], .int .i64 t] w fun e w' => e = .returned (.bool q) ∧ Below w.heap.size w w' := by
  have hq' := unhide hq
  obtain ⟨r, hr⟩ : ∃ r, Hid (canB false n h t = r) := ⟨_, rfl⟩
  have hr' := unhide hr
  unfold canB at hq' hr'
  by_cases c : 1 ≤ n <;> cases h <;> simp [c] at hq' hr' <;> subst hq' <;> subst hr'
  all_goals
    go_enter Tryz.func161, Tryz.ntmps161
    go_wp2_with (go_at_call 162; refine (reads_c _ _ _ _ t _ _ hr).mono ?_; rintro e w' ⟨rfl, hb⟩; obtain ⟨x, rfl⟩ := over hb; clear hb)
    go_ret
    refine ⟨rfl, ?_⟩
    repeat' first | with_reducible exact Below.refl _ _ | with_reducible refine Below.setCell ?_ ?_ _ | with_reducible refine Below.alloc ?_ ?_ _ | with_reducible refine Below.drew ?_ | with_reducible refine belowN ?_ _ | with_reducible refine Over.go _ ?_ ?_ | with_reducible exact Nat.le_refl _ | with_reducible refine Over.sz _ _ ?_ | with_reducible refine le_alloc ?_ | with_reducible refine le_setCell ?_ | with_reducible refine le_drewN ?_ | with_reducible refine le_drew ?_ | omega | (dsimp only; omega)
theorem refMay_c (wr : Bool) (n : Int) (o h : Bool) (d t : Int) (w : World) (q : Bool) (hq : Hid (canB wr n h t = q)) :
    Calls Tryz.prog 150 #[.bool wr, .agg #[.int .i64 n, .bool o, .bool h, .int .i64 d], .int .i64 t] w fun e w' => e = .returned (.bool q) ∧ Below w.heap.size w w' := by
  have hq' := unhide hq
  unfold canB at hq'
  by_cases c : 1 ≤ n <;> cases h <;> cases wr <;> simp [c] at hq' <;> subst hq'
  all_goals
    go_enter Tryz.func150, Tryz.ntmps150
    go_wp2
    go_ret
    exact ⟨rfl, by go_grown⟩
end Go.Proofs.YtoenjdnccgmhoaaGreatDoor
namespace Go.Proofs.YtoenjdnccgmhoaaGreatDoor
open Go.RowKit
structure Ln where
  b : Int
  t : Bun
structure Ca where
  A : List Int
  T : Int → Bun
abbrev ln0 : Ln := ⟨0, ⟨0, false, false, 0⟩⟩
def updT (T : Int → Bun) (x : Int) (b : Bun) : Int → Bun := fun y => if y = x then b else T y
theorem updT_same (T : Int → Bun) (x : Int) (b : Bun) : updT T x b x = b := by simp [updT]
theorem updT_other {T : Int → Bun} {x y : Int} (b : Bun) (h : y ≠ x) : updT T x b y = T y := by simp [updT, h]
def nxAb (S W : Int) (C : Ca) (x : Int) (b : Bun) (q : Int) : Ca :=
  if b.n < 1 then C
  else if x ∈ C.A then ⟨nxUse C.A x, updT C.T x (joinB (C.T x) b)⟩
  else if (vicA S W C.A x q).2 = false then C
  else if (vicA S W C.A x q).1 < 0 then ⟨C.A ++ [x], updT C.T x b⟩
  else ⟨C.A.erase (vicA S W C.A x q).1 ++ [x], updT (updT C.T (vicA S W C.A x q).1 bun0) x b⟩
def goAb (S W : Int) (C : Ca) (x : Int) (b : Bun) (q : Int) : Ln × Bool :=
  if b.n < 1 then (ln0, false)
  else if x ∈ C.A then (ln0, false)
  else if (vicA S W C.A x q).2 = false then (⟨x, b⟩, true)
  else if (vicA S W C.A x q).1 < 0 then (ln0, false)
  else (⟨(vicA S W C.A x q).1, C.T (vicA S W C.A x q).1⟩, true)
def nxTk (C : Ca) (x c : Int) (o : Bool) : Ca := ⟨if (restB (C.T x) c o).n = 0 then C.A.erase x else C.A, updT C.T x (restB (C.T x) c o)⟩
def okDo (C : Ca) (x : Int) (wr : Bool) (t : Int) : Bool := canB wr (C.T x).n (C.T x).h t
def datDo (C : Ca) (x : Int) (wr : Bool) (v t : Int) : Int := if (okDo C x wr t && wr) = true then v else (C.T x).d
def valDo (C : Ca) (x : Int) (wr : Bool) (v t : Int) : Int := if okDo C x wr t = true then datDo C x wr v t else 0
def nxDo (C : Ca) (x : Int) (wr : Bool) (v t : Int) : Ca := if okDo C x wr t = true then ⟨nxUse C.A x, updT C.T x ⟨(C.T x).n, (C.T x).o, (C.T x).h, datDo C x wr v t⟩⟩ else C
def allC (C : Ca) : List Ln := (listA C.A).map fun x => ⟨x, C.T x⟩
structure CInv (S W N : Int) (C : Ca) : Prop where
  inv : Inv S W C.A
  out : ∀ x, x ∉ C.A → C.T x = bun0
  one : ∀ x, x ∈ C.A → 1 ≤ (C.T x).n
  ok : ∀ x, okB (C.T x)
  le : ∀ x, (C.T x).n ≤ N
theorem CInv.new {S W : Int} (h : Inv S W []) : CInv S W 0 ⟨[], fun _ => bun0⟩ := ⟨h, fun _ _ => rfl, fun x hx => (by cases hx), fun _ => okB_zero, fun _ => Int.le_refl _⟩
theorem CInv.mono {S W N M : Int} {C : Ca} (h : CInv S W N C) (hN : N ≤ M) : CInv S W M C := ⟨h.inv, h.out, h.one, h.ok, fun x => Int.le_trans (h.le x) hN⟩
theorem CInv.n0 {S W N : Int} {C : Ca} (h : CInv S W N C) : 0 ≤ N := Int.le_trans (h.ok 0).1 (h.le 0)
theorem CInv.mem {S W N : Int} {C : Ca} (h : CInv S W N C) {x : Int} : x ∈ C.A ↔ 1 ≤ (C.T x).n := by
  refine ⟨h.one x, fun h1 => Classical.byContradiction fun hn => ?_⟩
  rw [h.out x hn] at h1
  simp at h1
theorem firstNot_spec (L : List Int) (q : Int) : ((firstNot L q).2 = true → (firstNot L q).1 ∈ L ∧ (firstNot L q).1 ≠ q) ∧ ((firstNot L q).2 = false → (firstNot L q).1 = -1 ∧ ∀ y ∈ L, y = q) := by
  induction L with
  | nil => simp [firstNot]
  | cons y r ih =>
    simp only [firstNot]
    split
    · rename_i c
      refine ⟨fun h => ⟨List.mem_cons_of_mem _ (ih.1 h).1, (ih.1 h).2⟩, fun h => ⟨(ih.2 h).1, fun z hz => ?_⟩⟩
      rcases List.mem_cons.1 hz with rfl | hz
      · exact c
      · exact (ih.2 h).2 z hz
    · rename_i c
      exact ⟨fun _ => ⟨by simp, c⟩, fun h => by simp at h⟩
theorem vic_cases {S W : Int} {L : List Int} (hI : Inv S W L) {x q v : Int} {ok : Bool} (hx : x ∉ L) (hr : vicA S W L x q = (v, ok)) :
    (ok = false ∧ v = -1 ∧ (x < 0 ∨ q ∈ L)) ∨ (ok = true ∧ v = -1 ∧ okAdd S W L x = true) ∨ (ok = true ∧ 0 ≤ v ∧ v ∈ L ∧ v ≠ q ∧ okAdd S W (L.erase v) x = true) := by
  unfold vicA at hr
  by_cases c0 : x < 0
  · simp only [if_pos c0, Prod.mk.injEq] at hr
    exact .inl ⟨hr.2.symm, hr.1.symm, .inl c0⟩
  simp only [if_neg c0] at hr
  cases hfull : fullA S W L x
  case false =>
    simp only [if_pos (show x ∈ L ∨ fullA S W L x = false from .inr hfull), Prod.mk.injEq] at hr
    exact .inr (.inl ⟨hr.2.symm, hr.1.symm, by simp [okAdd, hx, hfull]; omega⟩)
  case true =>
    simp only [if_neg (show ¬ (x ∈ L ∨ fullA S W L x = false) by simp [hx, hfull])] at hr
    have hsp := firstNot_spec (part S L (modZ x S)) q
    rw [hr] at hsp
    dsimp only at hsp
    cases ok
    case false =>
      obtain ⟨h1, h2⟩ := hsp.2 rfl
      refine .inl ⟨rfl, h1, .inr ?_⟩
      obtain ⟨P, hP⟩ : ∃ P, part S L (modZ x S) = P := ⟨_, rfl⟩
      cases P with
      | nil =>
        simp [fullA, hP] at hfull
        have := hI.w0
        omega
      | cons y r =>
        have hy : y ∈ part S L (modZ x S) := by rw [hP]; simp
        have := h2 y hy
        subst this
        exact (mem_part'.1 hy).1
    case true =>
      obtain ⟨h1, h2⟩ := hsp.1 rfl
      have hv := mem_part'.1 h1
      refine .inr (.inr ⟨rfl, (hI.pos v hv.1).1, hv.1, h2, ?_⟩)
      have hx' : x ∉ L.erase v := fun e => hx (List.mem_of_mem_erase e)
      have hl : (part S (L.erase v) (modZ x S)).length = (part S L (modZ x S)).length - 1 := by
        rw [← hv.2, part_erase_same, List.length_erase_of_mem (mem_part.2 hv.1)]
      have hp := List.length_pos_of_mem h1
      have hrm := hI.room (modZ x S)
      simp [okAdd, fullA, hx', hl]
      omega
theorem mem_nxUse {A : List Int} {x y : Int} : y ∈ nxUse A x ↔ y ∈ A := by
  unfold nxUse
  split
  · rename_i h
    simp only [List.mem_append, List.mem_singleton]
    refine ⟨fun h1 => h1.elim List.mem_of_mem_erase (fun e => e ▸ h), fun h1 => ?_⟩
    by_cases e : y = x
    · exact .inr e
    · exact .inl ((List.mem_erase_of_ne e).2 h1)
  · exact Iff.rfl
theorem CInv.put {S W N M : Int} {C : Ca} {A' : List Int} {x : Int} {b : Bun} (h : CInv S W N C) (hI : Inv S W A') (hm : ∀ y, y ≠ x → (y ∈ A' ↔ y ∈ C.A)) (hx : x ∈ A') (hb : okB b) (h1 : 1 ≤ b.n) (hM : b.n ≤ M) (hN : N ≤ M) : CInv S W M ⟨A', updT C.T x b⟩ := by
  refine ⟨hI, fun y hy => ?_, fun y hy => ?_, fun y => ?_, fun y => ?_⟩
  · have e : y ≠ x := fun e => hy (e ▸ hx)
    simp only [updT_other b e]
    exact h.out y (fun e2 => hy ((hm y e).2 e2))
  · by_cases e : y = x
    · subst e; simpa only [updT_same] using h1
    · simp only [updT_other b e]; exact h.one y ((hm y e).1 hy)
  · by_cases e : y = x
    · subst e; simpa only [updT_same] using hb
    · simp only [updT_other b e]; exact h.ok y
  · by_cases e : y = x
    · subst e; simpa only [updT_same] using hM
    · simp only [updT_other b e]; exact Int.le_trans (h.le y) hN
theorem CInv.gone {S W N : Int} {C : Ca} (h : CInv S W N C) (x : Int) : CInv S W N ⟨C.A.erase x, updT C.T x bun0⟩ := by
  have hx : x ∉ C.A.erase x := by rw [h.inv.nodup.mem_erase_iff]; simp
  refine ⟨h.inv.rem x, fun y hy => ?_, fun y hy => ?_, fun y => ?_, fun y => ?_⟩
  · by_cases e : y = x
    · subst e; simp only [updT_same]
    · simp only [updT_other bun0 e]; exact h.out y (fun e2 => hy ((List.mem_erase_of_ne e).2 e2))
  · have e : y ≠ x := fun e => hx (e ▸ hy)
    simp only [updT_other bun0 e]; exact h.one y (List.mem_of_mem_erase hy)
  · by_cases e : y = x
    · subst e; simp only [updT_same]; exact okB_zero
    · simp only [updT_other bun0 e]; exact h.ok y
  · by_cases e : y = x
    · subst e; simp only [updT_same]; exact h.n0
    · simp only [updT_other bun0 e]; exact h.le y
theorem CInv.ab {S W N K : Int} {C : Ca} (h : CInv S W N C) {x : Int} {b : Bun} {q : Int} (hb : okB b) (hK : b.n ≤ K) (hx : x ≤ 9223372036854775807) : CInv S W (N + K) (nxAb S W C x b q) := by
  have h0 := h.n0
  have hb0 := hb.1
  unfold nxAb
  split
  · exact h.mono (by omega)
  rename_i c1
  split
  · rename_i c2
    exact h.put (h.inv.nxUse x) (fun y _ => mem_nxUse) (mem_nxUse.2 c2) (joinB_ok (h.ok x) hb) (by rw [joinB_n]; have := (h.ok x).1; omega) (by rw [joinB_n]; have := h.le x; omega) (by omega)
  rename_i c2
  obtain ⟨⟨v, ok⟩, hv⟩ : ∃ r, vicA S W C.A x q = r := ⟨_, rfl⟩
  rw [hv]
  rcases vic_cases h.inv c2 hv with ⟨rfl, rfl, _⟩ | ⟨rfl, rfl, h2⟩ | ⟨rfl, h2, h3, h4, h5⟩
  · simp; exact h.mono (by omega)
  · simp
    exact h.put (h.inv.add hx h2) (fun y e => by simp [e]) (by simp) hb (by omega) (by omega) (by omega)
  · have e : ¬ v < 0 := by omega
    simp [e]
    exact (h.gone v).put ((h.inv.rem v).add hx h5) (fun y e => by simp [e]) (by simp) hb (by omega) (by omega) (by omega)
theorem CInv.tk {S W N : Int} {C : Ca} (h : CInv S W N C) (x c : Int) (o : Bool) : CInv S W N (nxTk C x c o) := by
  have hr := restB_ok (h.ok x) c o
  unfold nxTk
  split
  · rename_i e
    rw [ok_zero hr.1 e]
    exact h.gone x
  · rename_i e
    have e0 := hr.1.1
    have hx : x ∈ C.A := h.mem.2 (by omega)
    exact h.put h.inv (fun _ _ => Iff.rfl) hx hr.1 (by omega) (by have := h.le x; omega) (Int.le_refl _)
theorem okDo_mem {S W N : Int} {C : Ca} (h : CInv S W N C) {x : Int} {wr : Bool} {t : Int} (hq : okDo C x wr t = true) : x ∈ C.A ∧ 1 ≤ (C.T x).n ∧ (C.T x).h = true := by
  simp [okDo, canB] at hq
  exact ⟨h.mem.2 hq.1.1, hq.1.1, hq.1.2⟩
theorem CInv.dx {S W N : Int} {C : Ca} (h : CInv S W N C) (x : Int) (wr : Bool) (v t : Int) : CInv S W N (nxDo C x wr v t) := by
  unfold nxDo
  split
  · rename_i e
    obtain ⟨h1, h2, h3⟩ := okDo_mem h e
    obtain ⟨k0, k1, k2, k3⟩ := h.ok x
    refine h.put (h.inv.nxUse x) (fun y _ => mem_nxUse) (mem_nxUse.2 h1) ⟨k0, k1, k2, fun e => ?_⟩ h2 (h.le x) (Int.le_refl _)
    simp only at e
    rw [h3] at e
    cases e
  · exact h
theorem allC_len (C : Ca) : (allC C).length = C.A.length := by simp [allC, listA_len]
end Go.Proofs.YtoenjdnccgmhoaaGreatDoor
namespace Go.Proofs.YtoenjdnccgmhoaaGreatDoor
open Go.ChangeShapes Go.WideShapes Go.ChangeAt Go.RowKit
set_option linter.unusedSimpArgs false
set_option linter.unusedVariables false
attribute [local go_sem, local simp] over_const setCell_drewN alloc_drewN Over.cell Over.frozen lt_s1 lt_s2 lt_s3 le_s0 le_s1 le_s2 le_s3 eq_s0 eq_s1 eq_s2 qe_s0
set_option maxHeartbeats 1000000 in
theorem load_c (n : Int) (o h : Bool) (d t : Int) (w : World) (q : Bool) (hq : Hid (canB false n h t = q)) (x : Int) (hx : Hid ((if q = true then d else 0) = x)) :
    Calls Tryz.prog 146 #[.agg #[.int .i64 n, .bool o, .bool h, .int .i64 d]] w fun e w' =>
      e = .returned (.tuple #[.agg #[.int .i64 n, .bool o, .bool h, .int .i64 d], .int .i64 x, .bool q]) ∧ Below w.heap.size w w' := by
  cases q
  all_goals
    obtain rfl := unhide hx
    go_enter Tryz.func146, Tryz.ntmps146
    go_wp2_with (go_at_call 162; refine (reads_c _ _ _ _ t _ _ hq).mono ?_; rintro e w' ⟨rfl, hb⟩; obtain ⟨x, rfl⟩ := over hb; clear hb; have f0 := x.up (b := w.heap.size) (by simp only [World.size_alloc]; omega); have f1 := x.up (b := w.heap.size + 1) (by simp only [World.size_alloc]; omega); have c10 : x.w.cell? ⟨w.heap.size + 1, 0, none⟩ = some (.int .i64 0) := (x.cell _ _ (by simp only [World.size_alloc]; omega)).trans (by simp [go_sem]); have c11 : x.w.cell? ⟨w.heap.size + 1, 1, none⟩ = some (.bool false) := (x.cell _ _ (by simp only [World.size_alloc]; omega)).trans (by simp [go_sem]); have c12 : x.w.cell? ⟨w.heap.size + 1, 2, none⟩ = some (.bool false) := (x.cell _ _ (by simp only [World.size_alloc]; omega)).trans (by simp [go_sem]); have c13 : x.w.cell? ⟨w.heap.size + 1, 3, none⟩ = some (.int .i64 0) := (x.cell _ _ (by simp only [World.size_alloc]; omega)).trans (by simp [go_sem]))
    try go_region
    all_goals go_wp2
    all_goals go_returns
    all_goals refine ⟨rfl, ?_⟩
    all_goals repeat' first | with_reducible exact Below.refl _ _ | with_reducible refine Below.setCell ?_ ?_ _ | with_reducible refine Below.alloc ?_ ?_ _ | with_reducible refine Below.drew ?_ | with_reducible refine belowN ?_ _ | with_reducible refine Over.go _ ?_ ?_ | with_reducible exact Nat.le_refl _ | with_reducible refine Over.sz _ _ ?_ | with_reducible refine le_alloc ?_ | with_reducible refine le_setCell ?_ | with_reducible refine le_drewN ?_ | with_reducible refine le_drew ?_ | omega | (dsimp only; omega)
set_option maxHeartbeats 1000000 in
theorem store_c (v n : Int) (o h : Bool) (d t : Int) (w : World) (q : Bool) (hq : Hid (canB true n h t = q)) (d' x : Int) (hd : Hid ((if q = true then v else d) = d')) (hx : Hid ((if q = true then v else 0) = x)) :
    Calls Tryz.prog 145 #[.int .i64 v, .agg #[.int .i64 n, .bool o, .bool h, .int .i64 d], .int .i64 t] w fun e w' =>
      e = .returned (.tuple #[.agg #[.int .i64 n, .bool o, .bool h, .int .i64 d'], .int .i64 x, .bool q]) ∧ Below w.heap.size w w' := by
  cases q
  all_goals
    obtain rfl := unhide hx
    obtain rfl := unhide hd
    go_enter Tryz.func145, Tryz.ntmps145
    go_wp2_with (go_at_call 161; refine (writes_c _ _ _ _ _ _ _ hq).mono ?_; rintro e w' ⟨rfl, hb⟩; obtain ⟨x, rfl⟩ := over hb; clear hb; have f0 := x.up (b := w.heap.size) (by simp only [World.size_alloc]; omega); have f1 := x.up (b := w.heap.size + 1) (by simp only [World.size_alloc]; omega); have c10 : x.w.cell? ⟨w.heap.size + 1, 0, none⟩ = some (.int .i64 0) := (x.cell _ _ (by simp only [World.size_alloc]; omega)).trans (by simp [go_sem]); have c11 : x.w.cell? ⟨w.heap.size + 1, 1, none⟩ = some (.bool false) := (x.cell _ _ (by simp only [World.size_alloc]; omega)).trans (by simp [go_sem]); have c12 : x.w.cell? ⟨w.heap.size + 1, 2, none⟩ = some (.bool false) := (x.cell _ _ (by simp only [World.size_alloc]; omega)).trans (by simp [go_sem]); have c13 : x.w.cell? ⟨w.heap.size + 1, 3, none⟩ = some (.int .i64 0) := (x.cell _ _ (by simp only [World.size_alloc]; omega)).trans (by simp [go_sem]); have c03 : x.w.cell? ⟨w.heap.size, 3, none⟩ = some (.int .i64 d) := (x.cell _ _ (by simp only [World.size_alloc]; omega)).trans (by simp [go_sem]))
    refine bodyPost_ret (by simp [results, Tryz.results145, go_sem, *]; done) rfl ⟨rfl, ?_⟩
    repeat' first | with_reducible exact Below.refl _ _ | with_reducible refine Below.setCell ?_ ?_ _ | with_reducible refine Below.alloc ?_ ?_ _ | with_reducible refine Below.drew ?_ | with_reducible refine belowN ?_ _ | with_reducible refine Over.go _ ?_ ?_ | with_reducible exact Nat.le_refl _ | with_reducible refine Over.sz _ _ ?_ | with_reducible refine le_alloc ?_ | with_reducible refine le_setCell ?_ | with_reducible refine le_drewN ?_ | with_reducible refine le_drew ?_ | omega | (dsimp only; omega)
set_option maxHeartbeats 1000000 in
theorem do_c (b : Int) (wr : Bool) (v n : Int) (o h : Bool) (d t : Int) (w : World) (q : Bool) (hq : Hid (canB wr n h t = q)) (d' x : Int) (hd : Hid ((if (q && wr) = true then v else d) = d')) (hx : Hid ((if q = true then d' else 0) = x)) :
    Calls Tryz.prog 116 #[.agg #[.int .i64 b, .bool wr, .int .i64 v], .agg #[.int .i64 n, .bool o, .bool h, .int .i64 d], .int .i64 t] w fun e w' =>
      e = .returned (.tuple #[.agg #[.int .i64 n, .bool o, .bool h, .int .i64 d'], .int .i64 x, .bool q]) ∧ Below w.heap.size w w' := by
  cases wr
  · have hd' : d = d' := by have := unhide hd; simpa using this
    subst hd'
    go_enter Tryz.func116, Tryz.ntmps116
    go_wp2_with (go_at_call 146; refine (load_c _ _ _ _ t _ _ hq _ hx).mono ?_; rintro e w' ⟨rfl, hb⟩; obtain ⟨x, rfl⟩ := over hb; clear hb; have f1 := x.up (b := w.heap.size + 1 + 1) (by simp only [World.size_alloc]; omega); have c20 : x.w.cell? ⟨w.heap.size + 1 + 1, 0, none⟩ = some (.int .i64 0) := (x.cell _ _ (by simp only [World.size_alloc]; omega)).trans (by simp [go_sem]); have c21 : x.w.cell? ⟨w.heap.size + 1 + 1, 1, none⟩ = some (.bool false) := (x.cell _ _ (by simp only [World.size_alloc]; omega)).trans (by simp [go_sem]); have c22 : x.w.cell? ⟨w.heap.size + 1 + 1, 2, none⟩ = some (.bool false) := (x.cell _ _ (by simp only [World.size_alloc]; omega)).trans (by simp [go_sem]); have c23 : x.w.cell? ⟨w.heap.size + 1 + 1, 3, none⟩ = some (.int .i64 0) := (x.cell _ _ (by simp only [World.size_alloc]; omega)).trans (by simp [go_sem]))
    go_returns
    refine ⟨rfl, ?_⟩
    repeat' first | with_reducible exact Below.refl _ _ | with_reducible refine Below.setCell ?_ ?_ _ | with_reducible refine Below.alloc ?_ ?_ _ | with_reducible refine Below.drew ?_ | with_reducible refine belowN ?_ _ | with_reducible refine Over.go _ ?_ ?_ | with_reducible exact Nat.le_refl _ | with_reducible refine Over.sz _ _ ?_ | with_reducible refine le_alloc ?_ | with_reducible refine le_setCell ?_ | with_reducible refine le_drewN ?_ | with_reducible refine le_drew ?_ | omega | (dsimp only; omega)
  · have hd' : Hid ((if q = true then v else d) = d') := by have := unhide hd; unfold Hid; simpa using this
    have hx' : Hid ((if q = true then v else 0) = x) := by have h1 := unhide hx; have h2 := unhide hd'; unfold Hid; cases q <;> simp_all
    clear hd hx
    go_enter Tryz.func116, Tryz.ntmps116
    go_wp2_with (go_at_call 145; refine (store_c _ _ _ _ _ _ _ _ hq _ _ hd' hx').mono ?_; rintro e w' ⟨rfl, hb⟩; obtain ⟨x, rfl⟩ := over hb; clear hb; have f1 := x.up (b := w.heap.size + 1 + 1) (by simp only [World.size_alloc]; omega); have c20 : x.w.cell? ⟨w.heap.size + 1 + 1, 0, none⟩ = some (.int .i64 0) := (x.cell _ _ (by simp only [World.size_alloc]; omega)).trans (by simp [go_sem]); have c21 : x.w.cell? ⟨w.heap.size + 1 + 1, 1, none⟩ = some (.bool false) := (x.cell _ _ (by simp only [World.size_alloc]; omega)).trans (by simp [go_sem]); have c22 : x.w.cell? ⟨w.heap.size + 1 + 1, 2, none⟩ = some (.bool false) := (x.cell _ _ (by simp only [World.size_alloc]; omega)).trans (by simp [go_sem]); have c23 : x.w.cell? ⟨w.heap.size + 1 + 1, 3, none⟩ = some (.int .i64 0) := (x.cell _ _ (by simp only [World.size_alloc]; omega)).trans (by simp [go_sem]))
    go_returns
    refine ⟨rfl, ?_⟩
    repeat' first | with_reducible exact Below.refl _ _ | with_reducible refine Below.setCell ?_ ?_ _ | with_reducible refine Below.alloc ?_ ?_ _ | with_reducible refine Below.drew ?_ | with_reducible refine belowN ?_ _ | with_reducible refine Over.go _ ?_ ?_ | with_reducible exact Nat.le_refl _ | with_reducible refine Over.sz _ _ ?_ | with_reducible refine le_alloc ?_ | with_reducible refine le_setCell ?_ | with_reducible refine le_drewN ?_ | with_reducible refine le_drew ?_ | omega | (dsimp only; omega)
set_option maxHeartbeats 1000000 in
theorem refDo_c (b : Int) (wr : Bool) (v n : Int) (o h : Bool) (d t : Int) (w : World) (q : Bool) (hq : Hid (canB wr n h t = q)) (d' x : Int) (hd : Hid ((if (q && wr) = true then v else d) = d')) (hx : Hid ((if q = true then d' else 0) = x)) :
    Calls Tryz.prog 120 #[.agg #[.int .i64 b, .bool wr, .int .i64 v], .agg #[.int .i64 n, .bool o, .bool h, .int .i64 d], .int .i64 t] w fun e w' =>
      e = .returned (.tuple #[.agg #[.int .i64 n, .bool o, .bool h, .int .i64 d'], .int .i64 x, .bool q]) ∧ Below w.heap.size w w' := by
  cases q <;> cases wr
  all_goals
    obtain rfl := unhide hx
    obtain rfl := unhide hd
    go_enter Tryz.func120, Tryz.ntmps120
    go_wp2_with (go_at_call 150; refine (refMay_c _ _ _ _ _ _ _ _ hq).mono ?_; rintro e w' ⟨rfl, hb⟩; obtain ⟨x, rfl⟩ := over hb; clear hb; have f0 := x.up (b := w.heap.size) (by simp only [World.size_alloc]; omega); have f1 := x.up (b := w.heap.size + 1) (by simp only [World.size_alloc]; omega); have f2 := x.up (b := w.heap.size + 1 + 1) (by simp only [World.size_alloc]; omega); have c20 : x.w.cell? ⟨w.heap.size + 1 + 1, 0, none⟩ = some (.int .i64 0) := (x.cell _ _ (by simp only [World.size_alloc]; omega)).trans (by simp [go_sem]); have c21 : x.w.cell? ⟨w.heap.size + 1 + 1, 1, none⟩ = some (.bool false) := (x.cell _ _ (by simp only [World.size_alloc]; omega)).trans (by simp [go_sem]); have c22 : x.w.cell? ⟨w.heap.size + 1 + 1, 2, none⟩ = some (.bool false) := (x.cell _ _ (by simp only [World.size_alloc]; omega)).trans (by simp [go_sem]); have c23 : x.w.cell? ⟨w.heap.size + 1 + 1, 3, none⟩ = some (.int .i64 0) := (x.cell _ _ (by simp only [World.size_alloc]; omega)).trans (by simp [go_sem]); have c13 : x.w.cell? ⟨w.heap.size + 1, 3, none⟩ = some (.int .i64 d) := (x.cell _ _ (by simp only [World.size_alloc]; omega)).trans (by simp [go_sem]))
    try go_region
    all_goals go_wp2
    all_goals refine bodyPost_ret (by simp [results, Tryz.results120, go_sem, *]; done) rfl ⟨rfl, ?_⟩
    all_goals repeat' first | with_reducible exact Below.refl _ _ | with_reducible refine Below.setCell ?_ ?_ _ | with_reducible refine Below.alloc ?_ ?_ _ | with_reducible refine Below.drew ?_ | with_reducible refine belowN ?_ _ | with_reducible refine Over.go _ ?_ ?_ | with_reducible exact Nat.le_refl _ | with_reducible refine Over.sz _ _ ?_ | with_reducible refine le_alloc ?_ | with_reducible refine le_setCell ?_ | with_reducible refine le_drewN ?_ | with_reducible refine le_drew ?_ | omega | (dsimp only; omega)
end Go.Proofs.YtoenjdnccgmhoaaGreatDoor
namespace Go.Proofs.YtoenjdnccgmhoaaGreatDoor
open Go.RowKit
def ownI (b : Bool) : Int := if b = true then 1 else 0
theorem ownI_bd (b : Bool) : 0 ≤ ownI b ∧ ownI b ≤ 1 := by cases b <;> simp [ownI]
theorem ab_sum {S W N : Int} {C : Ca} (h : CInv S W N C) {x : Int} {b : Bun} {q : Int} (hb : okB b) (y : Int) {r : Ln} {ok : Bool} (hg : goAb S W C x b q = (r, ok)) :
    ((nxAb S W C x b q).T y).n = (C.T y).n + (if x = y then b.n else 0) - (if ok = true ∧ r.b = y then r.t.n else 0) ∧
    (¬ (x = y ∧ b.o = true ∧ (C.T y).o = true) → ownI ((nxAb S W C x b q).T y).o = ownI (C.T y).o + (if x = y then ownI b.o else 0) - (if ok = true ∧ r.b = y then ownI r.t.o else 0)) := by
  by_cases c1 : b.n < 1
  · simp only [goAb, nxAb, if_pos c1, Prod.mk.injEq] at hg ⊢
    obtain ⟨rfl, rfl⟩ := hg
    have e0 : b.n = 0 := by have := hb.1; omega
    have e1 := (hb.2.1 e0).1
    simp [e0, e1, ownI]
  by_cases c2 : x ∈ C.A
  · simp only [goAb, nxAb, if_neg c1, if_pos c2, Prod.mk.injEq] at hg ⊢
    obtain ⟨rfl, rfl⟩ := hg
    by_cases e : x = y
    · subst e
      rw [updT_same, joinB_n, joinB_o]
      refine ⟨by simp, fun hn => ?_⟩
      revert hn
      cases (C.T x).o <;> cases b.o <;> simp [ownI]
    · rw [updT_other _ (fun e' => e e'.symm)]
      simp [e]
  obtain ⟨⟨v, k⟩, hv⟩ : ∃ z, vicA S W C.A x q = z := ⟨_, rfl⟩
  have hx0 := h.out x c2
  simp only [goAb, nxAb, if_neg c1, if_neg c2, hv] at hg ⊢
  rcases vic_cases h.inv c2 hv with ⟨rfl, rfl, _⟩ | ⟨rfl, rfl, _⟩ | ⟨rfl, h2, h3, h4, h5⟩
  · simp only [if_pos, Prod.mk.injEq] at hg ⊢
    obtain ⟨rfl, rfl⟩ := hg
    simp only [true_and]
    constructor
    · omega
    · intro _; omega
  · simp at hg ⊢
    obtain ⟨rfl, rfl⟩ := hg
    by_cases e : x = y
    · subst e
      rw [updT_same, hx0]
      simp [ownI]
    · rw [updT_other _ (fun e' => e e'.symm)]
      simp [e]
  · have hv0 : ¬ v < 0 := by omega
    have hvx : v ≠ x := fun e => c2 (e ▸ h3)
    simp [hv0] at hg ⊢
    obtain ⟨rfl, rfl⟩ := hg
    by_cases e : x = y
    · subst e
      rw [updT_same, hx0]
      simp [ownI, hvx]
    · rw [updT_other _ (fun e' => e e'.symm)]
      by_cases e2 : v = y
      · subst e2
        rw [updT_same]
        simp [e]
        simp [ownI]
      · rw [updT_other _ (fun e' => e2 e'.symm)]
        simp [e, e2]
theorem ab_pin {S W N : Int} {C : Ca} (h : CInv S W N C) {x : Int} {b : Bun} {q : Int} (hq : 0 ≤ q) {r : Ln} (hg : goAb S W C x b q = (r, true)) : r.b ≠ q := by
  unfold goAb at hg
  split at hg
  · simp at hg
  split at hg
  · simp at hg
  rename_i c1 c2
  obtain ⟨⟨v, k⟩, hv⟩ : ∃ z, vicA S W C.A x q = z := ⟨_, rfl⟩
  rw [hv] at hg
  rcases vic_cases h.inv c2 hv with ⟨rfl, rfl, h1⟩ | ⟨rfl, rfl, _⟩ | ⟨rfl, h2, h3, h4, h5⟩
  · simp at hg
    subst hg
    intro e
    dsimp only at e
    subst e
    rcases h1 with h1 | h1
    · omega
    · exact c2 h1
  · simp at hg
  · have hv0 : ¬ v < 0 := by omega
    simp [hv0] at hg
    subst hg
    exact h4
theorem tk_sum {S W N : Int} {C : Ca} (h : CInv S W N C) (x c : Int) (o d : Bool) (y : Int) {g : Bun} (hg : givenB (C.T x) c o d = g) :
    ((nxTk C x c o).T y).n = (C.T y).n - (if x = y then g.n else 0) ∧ ownI ((nxTk C x c o).T y).o = ownI (C.T y).o - (if x = y then ownI g.o else 0) := by
  unfold nxTk
  by_cases e : x = y
  · subst e
    simp only [updT_same, if_pos]
    have hk := h.ok x
    generalize C.T x = t at hg hk
    obtain ⟨n, w, e, dd⟩ := t
    obtain ⟨p1, p2, p3, p4, p5, p6, p7, p8, _⟩ := parts_math n w e dd c o d hk _ _ hg rfl
    generalize restB ⟨n, w, e, dd⟩ c o = s at p1 p2 p3 p5 p6 p7 p8
    refine ⟨by simp only; omega, ?_⟩
    simp only
    cases h1 : g.o
    · cases h2 : s.o
      · rw [p8 h1 h2]; rfl
      · rw [(p7 h2).2.1]; rfl
    · rw [(p6 h1).1, (p6 h1).2.1]; rfl
  · simp only [updT_other _ (fun e' : y = x => e e'.symm), if_neg e]
    exact ⟨by omega, by omega⟩
theorem dx_same (C : Ca) (x : Int) (wr : Bool) (v t y : Int) : ((nxDo C x wr v t).T y).n = (C.T y).n ∧ ((nxDo C x wr v t).T y).o = (C.T y).o ∧ ((nxDo C x wr v t).T y).h = (C.T y).h := by
  unfold nxDo
  split
  · by_cases e : y = x
    · subst e; simp only [updT_same]; exact ⟨trivial, trivial, trivial⟩
    · simp only [updT_other _ e]; exact ⟨trivial, trivial, trivial⟩
  · exact ⟨rfl, rfl, rfl⟩
theorem rest_all {b : Bun} (h : okB b) : restB b b.n true = bun0 := by
  have e : howManyZ b b.n true = b.n := by
    have := h.1
    unfold howManyZ clampZ
    simp
    omega
  unfold restB
  rw [e]
  split
  · rename_i e0; exact ok_zero h e0
  · simp
theorem rest_none (c : Int) : restB bun0 c true = bun0 := restB_zero c true
theorem strip_step {C D : Ca} (hC : ∀ x, okB (C.T x)) (h : ∀ y, D.T y = C.T y ∨ D.T y = bun0) (x : Int) :
    (∀ y, (nxTk D x (C.T x).n true).T y = C.T y ∨ (nxTk D x (C.T x).n true).T y = bun0) ∧ (nxTk D x (C.T x).n true).T x = bun0 ∧ ∀ y, D.T y = bun0 → (nxTk D x (C.T x).n true).T y = bun0 := by
  have e : restB (D.T x) (C.T x).n true = bun0 := by
    rcases h x with e | e
    · rw [e]; exact rest_all (hC x)
    · rw [e]; exact rest_none _
  unfold nxTk
  simp only [e, updT_same]
  refine ⟨fun y => ?_, trivial, fun y hy => ?_⟩
  · by_cases c : y = x
    · subst c; rw [updT_same]; exact .inr rfl
    · rw [updT_other _ c]; exact h y
  · by_cases c : y = x
    · subst c; rw [updT_same]
    · rw [updT_other _ c]; exact hy
theorem CInv.empty {S W N : Int} {C : Ca} (h : CInv S W N C) (h0 : ∀ y, C.T y = bun0) : C.A = [] := by
  rw [List.eq_nil_iff_forall_not_mem]
  intro x hx
  have := h.one x hx
  rw [h0 x] at this
  simp at this
theorem ab_len {S W : Int} {C : Ca} (h0 : C.A = []) (x : Int) (b : Bun) (q : Int) : (nxAb S W C x b q).A.length ≤ 1 := by
  unfold nxAb
  split
  · simp [h0]
  split
  · rename_i c; rw [h0] at c; cases c
  split
  · simp [h0]
  split
  · simp [h0]
  · simp [h0]
theorem sums_ab {S W N : Int} {C C' : Ca} (h : CInv S W N C) {x : Int} {b : Bun} {q : Int} (hb : okB b) (y : Int) {r : Ln} {ok : Bool} (hg : goAb S W C x b q = (r, ok)) (hC : nxAb S W C x b q = C') {m : Int} {u : Bool} (hu : u = false → m = ownI (C.T y).o) :
    (C'.T y).n = (C.T y).n + (if x = y then b.n else 0) - (if ok = true ∧ r.b = y then r.t.n else 0) ∧
    ((u || (decide (x = y) && (b.o && decide (0 < m)))) = false → m + (if x = y then ownI b.o else 0) - (if ok = true ∧ r.b = y then ownI r.t.o else 0) = ownI (C'.T y).o) := by
  have h1 := ab_sum h hb y hg
  rw [hC] at h1
  refine ⟨h1.1, fun h2 => ?_⟩
  have h3 : u = false := by cases u; rfl; simp at h2
  rw [h1.2 ?_, hu h3]
  rintro ⟨e1, e2, e3⟩
  rw [h3, e2, hu h3, e3] at h2
  simp [e1, ownI] at h2
def findL : List Ln → Int → Bun
  | [], _ => bun0
  | l :: r, x => if l.b = x then l.t else findL r x
def othersL (M : List Ln) (x : Int) : List Ln := M.filter fun l => decide (l.b ≠ x)
def setL (M : List Ln) (x : Int) (b : Bun) : List Ln := othersL M x ++ if 0 < b.n then [⟨x, b⟩] else []
def lineA (A : List Int) (x : Int) (b : Bun) : List Int := if 0 < b.n then A else A.erase x
theorem findL_append (M : List Ln) (l : Ln) (x : Int) (h : ∀ m ∈ M, m.b ≠ l.b) : findL (M ++ [l]) x = if x = l.b then l.t else findL M x := by
  induction M with
  | nil =>
    simp only [List.nil_append, findL]
    by_cases e : l.b = x
    · simp [e]
    · simp [e, Ne.symm e]
  | cons m r ih =>
    have h1 := h m (by simp)
    simp only [List.cons_append, findL]
    rw [ih (fun m' hm => h m' (by simp [hm]))]
    by_cases e : m.b = x
    · subst e; simp [h1]
    · simp [e]
theorem findL_others (M : List Ln) (x y : Int) : findL (othersL M x) y = if y = x then bun0 else findL M y := by
  induction M with
  | nil => simp [othersL, findL]
  | cons m r ih =>
    simp only [othersL, List.filter_cons] at ih ⊢
    by_cases e : m.b = x
    · simp only [e, ne_eq, not_true_eq_false, decide_false, Bool.false_eq_true, if_false]
      rw [ih]
      by_cases c : y = x
      · simp [c]
      · simp [c, findL, e, Ne.symm c]
    · simp only [e, ne_eq, not_false_eq_true, decide_true, if_true, findL]
      rw [ih]
      by_cases c : m.b = y
      · subst c; simp [e]
      · simp [c]
theorem mem_others {M : List Ln} {x : Int} : ∀ m ∈ othersL M x, m.b ≠ x := fun m hm => by simpa using (List.mem_filter.1 hm).2
theorem findL_set (M : List Ln) (x : Int) (b : Bun) (hb : ¬ 0 < b.n → b = bun0) (y : Int) : findL (setL M x b) y = updT (findL M) x b y := by
  unfold setL
  by_cases c : 0 < b.n
  · rw [if_pos c, findL_append (othersL M x) ⟨x, b⟩ y (fun m hm => mem_others m hm), findL_others]
    simp only [updT]
    split <;> rfl
  · rw [if_neg c, List.append_nil, findL_others, hb c]
    simp only [updT]
theorem others_len (M : List Ln) (x : Int) : (othersL M x).length ≤ M.length := List.length_filter_le _ _
theorem setL_len (M : List Ln) (x : Int) (b : Bun) : (setL M x b).length ≤ M.length + 1 := by
  have := others_len M x
  unfold setL
  split <;> simp <;> omega
theorem setL_none_len (M : List Ln) (x : Int) : (setL M x bun0).length ≤ M.length := by
  have := others_len M x
  simpa [setL] using this
theorem findL_at (M : List Ln) (x : Int) (j : Nat) (hj : j < M.length) (h : ∀ i (hi : i < M.length), i < j → M[i].b ≠ x) (e : M[j].b = x) : findL M x = M[j].t := by
  induction M generalizing j with
  | nil => simp at hj
  | cons m r ih =>
    cases j with
    | zero => simp at e; simp [findL, e]
    | succ j =>
      have h0 := h 0 (by simp) (by omega)
      simp at h0
      simp only [findL, if_neg h0, List.getElem_cons_succ]
      exact ih j (by simpa using hj) (fun i hi hij => h (i + 1) (by simpa using hi) (by omega)) (by simpa using e)
theorem findL_none (M : List Ln) (x : Int) (h : ∀ i (hi : i < M.length), M[i].b ≠ x) : findL M x = bun0 := by
  induction M with
  | nil => rfl
  | cons m r ih =>
    have h0 := h 0 (by simp)
    simp at h0
    simp only [findL, if_neg h0]
    exact ih (fun i hi => h (i + 1) (by simpa using hi))
theorem others_take {M : List Ln} {x : Int} {j : Nat} (h : j < M.length) : othersL (M.take (j + 1)) x = if M[j].b = x then othersL (M.take j) x else othersL (M.take j) x ++ [M[j]] := by
  rw [List.take_succ_eq_append_getElem h]
  unfold othersL
  rw [List.filter_append]
  by_cases e : M[j].b = x
  · simp [e]
  · simp [e]
structure RelM (M : List Ln) (C : Ca) (K : Nat) : Prop where
  t : ∀ x, findL M x = C.T x
  len : M.length ≤ K
theorem RelM.set {M : List Ln} {C : Ca} {K : Nat} (h : RelM M C K) {x : Int} {b : Bun} (hb : okB b) (A' : List Int) : RelM (setL M x b) ⟨A', updT C.T x b⟩ (K + 1) :=
  ⟨fun y => by rw [findL_set M x b (fun c => ok_zero hb (by have := hb.1; omega))]; simp only [updT, h.t], Nat.le_trans (setL_len M x b) (by have := h.len; omega)⟩
theorem RelM.none {M : List Ln} {C : Ca} {K : Nat} (h : RelM M C K) (x : Int) (A' : List Int) : RelM (setL M x bun0) ⟨A', updT C.T x bun0⟩ K :=
  ⟨fun y => by rw [findL_set M x bun0 (fun _ => rfl)]; simp only [updT, h.t], Nat.le_trans (setL_none_len M x) h.len⟩
theorem RelM.lines {M : List Ln} {C : Ca} {K : Nat} (h : RelM M C K) (A' : List Int) : RelM M ⟨A', C.T⟩ K := ⟨h.t, h.len⟩
theorem RelM.mono {M : List Ln} {C : Ca} {K K' : Nat} (h : RelM M C K) (hk : K ≤ K') : RelM M C K' := ⟨h.t, Nat.le_trans h.len hk⟩
end Go.Proofs.YtoenjdnccgmhoaaGreatDoor
