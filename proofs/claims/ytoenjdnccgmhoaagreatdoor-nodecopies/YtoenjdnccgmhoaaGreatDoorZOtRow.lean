/- layer 15: OtRow, put together. -/
import Derived.Test.YtoenjdnccgmhoaaGreatDoorRows
import Derived.Test.YtoenjdnccgmhoaaGreatDoorB04
import Derived.Deep.AppendSrc
import Derived.Deep.Upon
import Derived.Deep.RegionLaw
import Derived.Deep.MidRow
import Derived.Deep.RegionHeld3
import Derived.Lib.SliceRun
namespace Go.Proofs.YtoenjdnccgmhoaaGreatDoor
open Go.ChangeShapes Go.WideShapes Go.ChangeAt Go.RowKit
set_option linter.unusedSimpArgs false
set_option linter.unusedVariables false
set_option maxRecDepth 10000
attribute [local go_sem, local simp] over_const setCell_drewN alloc_drewN Over.cell Over.frozen lt_s1 lt_s2 lt_s3 le_s0 le_s1 le_s2 le_s3 eq_s0 eq_s1 eq_s2 qe_s0
structure Ot where
  xa : Option Addr
  xn : Nat
  xc : Nat
  ya : Option Addr
  yn : Nat
  yc : Nat
abbrev otV (l : Ot) : Value := .agg #[.slice l.xa l.xn l.xc, .slice l.ya l.yn l.yc]
abbrev ot0 : Ot := ⟨none, 0, 0, none, 0, 0⟩
def otC (l : Ot) : List Value := [.slice l.xa l.xn l.xc, .slice l.ya l.yn l.yc]
theorem otC_len (l : Ot) : (otC l).length = 2 := rfl
def flatOt (L : List Ot) : List Value := L.flatMap otC
theorem flatOt_nil : flatOt [] = [] := rfl
theorem flatOt_cons (l : Ot) (L : List Ot) : flatOt (l :: L) = otC l ++ flatOt L := by simp [flatOt]
theorem flatOt_append (L M : List Ot) : flatOt (L ++ M) = flatOt L ++ flatOt M := by simp [flatOt]
theorem flatOt_length (L : List Ot) : (flatOt L).length = L.length * 2 := by
  induction L with
  | nil => rfl
  | cons l L ih => rw [flatOt_cons, List.length_append, ih, otC_len]; simp; omega
theorem flatOt_at (L : List Ot) (i c : Nat) (hi : i < L.length) (hc : c < 2) : (flatOt L)[i * 2 + c]? = (otC L[i])[c]? := by
  induction L generalizing i with
  | nil => simp at hi
  | cons l L ih =>
    rw [flatOt_cons]
    cases i with
    | zero => rw [List.getElem?_append_left (by rw [otC_len]; omega)]; simp
    | succ i =>
      rw [List.getElem?_append_right (by rw [otC_len]; omega), otC_len, show (i + 1) * 2 + c - 2 = i * 2 + c by omega]
      exact ih i (by simpa using hi)
theorem flatOt_one (L : List Ot) : ∀ u ∈ flatOt L, u.oneCell' = true := by
  intro u hu
  obtain ⟨l, _, hl⟩ := List.mem_flatMap.1 hu
  simp [otC] at hl
  rcases hl with rfl | rfl <;> rfl
theorem flatOt_take (L : List Ot) (i : Nat) (hi : i ≤ L.length) : flatOt (L.take i) = (flatOt L).take (i * 2) := by
  have h := congrArg flatOt (List.take_append_drop i L)
  rw [flatOt_append] at h
  rw [← h, List.take_left' (by rw [flatOt_length, List.length_take]; omega)]
theorem flatOt_drop (L : List Ot) (i : Nat) (hi : i ≤ L.length) : flatOt (L.drop i) = (flatOt L).drop (i * 2) := by
  have h := congrArg flatOt (List.take_append_drop i L)
  rw [flatOt_append] at h
  rw [← h, List.drop_left' (by rw [flatOt_length, List.length_take]; omega)]
theorem infoO : (Tryz.prog.info? 44).map (fun i => (i.zero, i.size, i.bytes)) = some (some (otV ot0), 2, 48) := by kernel_rfl
def ViewO (w : World) (v : Value) (b : Nat) (L : List Ot) : Prop :=
  ∃ ao cap, v = .slice ao L.length cap ∧ L.length ≤ cap ∧ cap ≤ maxLen ∧
    (L = [] ∨ ∃ o, ao = some ⟨b, o, none⟩ ∧ b < w.heap.size ∧ ∀ j, j < L.length * 2 → w.cell? ⟨b, o + j, none⟩ = (flatOt L)[j]?)
def OwnO (w : World) (v : Value) (g : Nat) (L : List Ot) : Prop :=
  ∃ ao cap, v = .slice ao L.length cap ∧ L.length ≤ cap ∧ cap ≤ maxLen ∧ g < w.heap.size ∧
    ((ao = none ∧ cap = 0) ∨ ∃ o, ao = some ⟨g, o, none⟩ ∧ (∀ j, j < L.length * 2 → w.cell? ⟨g, o + j, none⟩ = (flatOt L)[j]?) ∧
      ∀ j, j < cap * 2 → (w.cell? ⟨g, o + j, none⟩).isSome = true ∧ w.frozen? ⟨g, o + j, none⟩ = false)
theorem OwnO.view {w : World} {v : Value} {g : Nat} {L : List Ot} (h : OwnO w v g L) : ViewO w v g L := by
  obtain ⟨ao, cap, rfl, h1, h2, h3, h4⟩ := h
  refine ⟨ao, cap, rfl, h1, h2, ?_⟩
  rcases h4 with ⟨_, rfl⟩ | ⟨o, rfl, h5, _⟩
  · left; exact List.eq_nil_of_length_eq_zero (by omega)
  · exact .inr ⟨o, rfl, h3, h5⟩
theorem ViewO.carry {w w' : World} {v : Value} {b : Nat} {L : List Ot} (h : ViewO w v b L) (hb : L ≠ [] → b < w.heap.size → w'.heap[b]? = w.heap[b]?) : ViewO w' v b L := by
  obtain ⟨ao, cap, rfl, h1, h2, h3⟩ := h
  refine ⟨ao, cap, rfl, h1, h2, ?_⟩
  by_cases hn : L = []
  · exact .inl hn
  rcases h3 with h3 | ⟨o, rfl, h4, h5⟩
  · exact .inl h3
  · have e := hb hn h4
    refine .inr ⟨o, rfl, ?_, fun j hj => (World.cell?_of_block (w := w) e).trans (h5 j hj)⟩
    rw [Array.getElem?_eq_getElem h4] at e
    exact (Array.getElem?_eq_some_iff.1 e).1
theorem OwnO.carry {w w' : World} {v : Value} {g : Nat} {L : List Ot} (h : OwnO w v g L) (e : w'.heap[g]? = w.heap[g]?) : OwnO w' v g L := by
  obtain ⟨ao, cap, rfl, h1, h2, h3, h4⟩ := h
  refine ⟨ao, cap, rfl, h1, h2, ?_, ?_⟩
  · rw [Array.getElem?_eq_getElem h3] at e
    exact (Array.getElem?_eq_some_iff.1 e).1
  · rcases h4 with h4 | ⟨o, rfl, h5, h6⟩
    · exact .inl h4
    · exact .inr ⟨o, rfl, fun j hj => (World.cell?_of_block (w := w) e).trans (h5 j hj), fun j hj => ⟨by rw [World.cell?_of_block (w := w) (a := ⟨g, o + j, none⟩) e]; exact (h6 j hj).1, (World.frozen?_of_block (w := w) e).trans (h6 j hj).2⟩⟩
theorem ViewO.src {w : World} {v : Value} {b : Nat} {L : List Ot} (h : ViewO w v b L) : Src Tryz.prog 2 79 v L.length (flatOt L) w := by
  obtain ⟨ao, cap, rfl, h1, h2, h3⟩ := h
  rcases h3 with rfl | ⟨o, rfl, h4, h5⟩
  · cases ao with
    | none => exact Src.ofNil _ Tryz.underlying79 cap
    | some a => exact Src.ofSlice _ Tryz.underlying79 a 0 cap [] rfl (by simp) (by simp)
  · refine Src.ofSlice _ Tryz.underlying79 _ _ cap _ (flatOt_length L) (fun j u hu => ?_) (flatOt_one L)
    rw [Addr.add_lit, h5 j (by rw [← flatOt_length]; exact (List.getElem?_eq_some_iff.1 hu).1)]
    exact hu
theorem run_appO {ty : TypeId} {w : World} {v x : Value} {g b : Nat} {L M : List Ot} (hv : OwnO w v g L) (hx : ViewO w x b M) (hs : L.length + M.length ≤ 1000000) :
    ∃ v' w' g', (Builtin.append_ #[79, 79] ty #[v, x]).run Tryz.prog w = .ok v' w' ∧ OwnO w' v' g' (L ++ M) ∧ AppP w w' v v' g g' := by
  obtain ⟨i0, hi, hz0, hz1, hz2⟩ := info_parts infoO
  have hsrc := hx.src
  obtain ⟨ao, cap, rfl, hle, hmx, hg, hown⟩ := hv
  rw [← hz1] at hsrc
  by_cases room : L.length + M.length ≤ cap
  · rcases hown with ⟨rfl, rfl⟩ | ⟨o, rfl, hc, hsp⟩
    · have e1 : L = [] := List.eq_nil_of_length_eq_zero (by omega)
      have e2 : M = [] := List.eq_nil_of_length_eq_zero (by omega)
      subst e1 e2
      exact ⟨_, _, g, run_append_nothing w _ _ ty _ i0 Tryz.underlying79 hi none 0 0 (Nat.le_refl _) x hsrc, ⟨none, 0, rfl, Nat.le_refl _, Nat.zero_le _, hg, .inl ⟨rfl, rfl⟩⟩, ⟨FrS.refl _ _, fun _ => Below.refl _ _, .inl rfl, fun _ _ => rfl⟩⟩
    · have hr := run_append_room_src (P := Tryz.prog) w 79 79 ty _ i0 Tryz.underlying79 hi g o L.length cap x M.length (flatOt M) hsrc room
        (fun j hj => by rw [hz1, Nat.add_assoc]; rw [flatOt_length] at hj; exact (hsp _ (by omega)).1) (fun j hj => by rw [hz1, Nat.add_assoc]; rw [flatOt_length] at hj; exact (hsp _ (by omega)).2)
      rw [hz1] at hr
      refine ⟨_, _, g, hr, ⟨some ⟨g, o, none⟩, cap, by simp, by simpa using room, hmx, ?_, .inr ⟨o, rfl, fun j hj => ?_, fun j hj => ?_⟩⟩, ⟨setCells_frS g _ _ w, fun h => (by cases h), .inl rfl, fun _ h => (by cases h)⟩⟩
      · exact Nat.lt_of_lt_of_le hg (setCells_frS g _ _ w).size
      · rw [flatOt_append]
        by_cases hj' : j < L.length * 2
        · rw [World.cell?_setCells_out _ _ _ _ _ (fun _ _ => .inl (by simp; omega)), hc j hj', List.getElem?_append_left (by rw [flatOt_length]; exact hj')]
        · rw [List.getElem?_append_right (by rw [flatOt_length]; omega), flatOt_length]
          simp at hj
          have := World.cell?_setCells_in g (flatOt M) (o + L.length * 2) w (fun i hi => by rw [Nat.add_assoc]; rw [flatOt_length] at hi; exact (hsp _ (by omega)).1) (j - L.length * 2) (by rw [flatOt_length]; omega)
          rw [show o + L.length * 2 + (j - L.length * 2) = o + j by omega] at this
          rw [this, List.getElem?_eq_getElem]
      · exact ⟨World.isSome_setCells _ _ _ _ _ (hsp j hj).1, by rw [World.frozen?_setCells]; exact (hsp j hj).2⟩
  · have hold : (Builtin.firstCells i0.size L.length (.slice ao L.length cap)).run Tryz.prog w.drew = .ok (flatOt L).toArray w.drew := by
      rcases hown with ⟨rfl, rfl⟩ | ⟨o, rfl, hc, hsp⟩
      · have e1 : L = [] := List.eq_nil_of_length_eq_zero (by omega)
        subst e1
        exact run_firstCells_none w.drew i0.size 0 0 0
      · refine run_firstCells_some w.drew i0.size L.length ⟨g, o, none⟩ L.length cap (flatOt L) (by rw [hz1, flatOt_length]) (fun j u hu => ?_)
        rw [Addr.add_lit]
        exact (hc j (by rw [← flatOt_length]; exact (List.getElem?_eq_some_iff.1 hu).1)).trans hu
    have hr := run_append_grow_src (P := Tryz.prog) w 79 79 ty _ i0 _ Tryz.underlying79 hi hz0 ao L.length cap (flatOt L) hold x M.length (flatOt M) hsrc (by omega) (by omega) (growslice_fits (by omega) (by rw [hz2]; omega))
    have hge := grownCap_ge w (L.length + M.length) cap 44
    have hcm : grownCap w (L.length + M.length) cap 44 ≤ maxLen := grownCap_le_maxLen w _ cap 44 (by simp only [maxLen]; omega)
    have hnew := heap_alloc_new w.drew (Obj.cells ((flatOt L ++ flatOt M).toArray ++ Builtin.zeroCells (otV ot0).cells (grownCap w (L.length + M.length) cap 44 - (L.length + M.length))) 44)
    have hcell := fun j => cell_of_row _ w.drew.heap.size j _ _ _ hnew
    have hsz : ((flatOt L ++ flatOt M).toArray ++ Builtin.zeroCells (otV ot0).cells (grownCap w (L.length + M.length) cap 44 - (L.length + M.length))).size = grownCap w (L.length + M.length) cap 44 * 2 := by
      rw [Array.size_append, size_zeroCells]
      simp [flatOt_length, otV, Value.cells]
      omega
    refine ⟨_, _, w.heap.size, hr, ⟨some ⟨w.heap.size, 0, none⟩, _, by simp, by simpa using hge, hcm, by simp, .inr ⟨0, rfl, fun j hj => ?_, fun j hj => ?_⟩⟩, ⟨⟨rfl, rfl, rfl, by simp, fun k hk _ => Below.heap_alloc w.drew _ k hk⟩, fun _ => ⟨rfl, rfl, rfl, by simp, fun k hk => Below.heap_alloc w.drew _ k hk⟩, .inr (Nat.le_refl _), fun e => by omega⟩⟩
    · rw [Nat.zero_add]
      refine (hcell j).trans ?_
      rw [Array.getElem?_append_left (by simp [flatOt_length] at hj ⊢; omega), flatOt_append]
      simp
    · rw [Nat.zero_add]
      refine ⟨?_, ?_⟩
      · have := hcell j
        rw [Array.getElem?_eq_getElem (by rw [hsz]; exact hj)] at this
        exact Option.isSome_iff_exists.2 ⟨_, this⟩
      · have h2 := hnew
        simp only [World.frozen?]
        rw [show w.heap.size = w.drew.heap.size from rfl, h2]
        simp
section
variable {w : World} {ops : Array Oper} {o : Oper} {a : Act} {Q : Exit → Act → World → Prop}
theorem wp_appO {K : Act → World → Prop} (s x : Operand) (ho : o.op = .call { callee := .builtin .append, args := #[s, x], argTypes := #[79, 79] })
    {v xv : Value} {g b : Nat} {L M : List Ot} (hs : a.eval s = v) (hx : a.eval x = xv) (hv : OwnO w v g L) (hxv : ViewO w xv b M) (hle : L.length + M.length ≤ 1000000) (n : Nat) (hn : L.length + M.length = n)
    (h : ∀ ao cap w' g', OwnO w' (.slice ao n cap) g' (L ++ M) → AppP w w' v (.slice ao n cap) g g' → K (a.put o.dst (.slice ao n cap)) w') : o.wp Tryz.prog a w K Q := by
  obtain ⟨v', w', g', hr, h2, h3⟩ := run_appO (ty := o.type) hv hxv hle
  obtain ⟨ao, cap, rfl, _⟩ := id h2
  unfold Oper.wp execOp
  simp only [ho, resolve, invoke, builtin, Sem.run_bind, Sem.run_pure, Result.andThen_ok, List.map_toArray, List.map_cons, List.map_nil, hs, hx, hr]
  rw [List.length_append, hn] at h2 h3 ⊢
  exact h ao cap w' g' h2 h3
theorem wpList_appO {rest : List Oper} (hgd : o.guard = none) (s x : Operand) (ho : o.op = .call { callee := .builtin .append, args := #[s, x], argTypes := #[79, 79] })
    {v xv : Value} {g b : Nat} {L M : List Ot} (hs : a.eval s = v) (hx : a.eval x = xv) (hv : OwnO w v g L) (hxv : ViewO w xv b M) (hle : L.length + M.length ≤ 1000000) (n : Nat) (hn : L.length + M.length = n)
    (h : ∀ ao cap w' g', OwnO w' (.slice ao n cap) g' (L ++ M) → AppP w w' v (.slice ao n cap) g g' → wpList Tryz.prog ops Q rest (a.put o.dst (.slice ao n cap)) w') : wpList Tryz.prog ops Q (o :: rest) a w :=
  wpList_plain hgd fun _ hK => wp_appO s x ho hs hx hv hxv hle n hn fun ao cap w' g' h2 h3 => hK _ _ (h ao cap w' g' h2 h3)
theorem step_appO {K : Act → World → Prop} {E : Prop} (hgd : o.guard = none) (s x : Operand) (ho : o.op = .call { callee := .builtin .append, args := #[s, x], argTypes := #[79, 79] })
    {v xv : Value} {g b : Nat} {L M : List Ot} (hs : a.eval s = v) (hx : a.eval x = xv) (hv : OwnO w v g L) (hxv : ViewO w xv b M) (hle : L.length + M.length ≤ 1000000) (n : Nat) (hn : L.length + M.length = n)
    (h : ∀ ao cap w' g', OwnO w' (.slice ao n cap) g' (L ++ M) → AppP w w' v (.slice ao n cap) g g' → K (a.put o.dst (.slice ao n cap)) w') : if Region.wanted o (yielded ops a.tmps) = true then Oper.wp Tryz.prog o a w K Q else E := by
  have hw : Region.wanted o (yielded ops a.tmps) = true := by simp [Region.wanted, hgd]
  rw [if_pos hw]
  exact wp_appO s x ho hs hx hv hxv hle n hn h
end
theorem own_emptyO (w : World) (o : Obj) : OwnO (w.alloc o) (.slice (some ⟨w.heap.size, 0, none⟩) 0 0) w.heap.size [] :=
  ⟨_, 0, rfl, Nat.le_refl _, Nat.zero_le _, by simp, .inr ⟨0, rfl, fun j hj => by simp at hj, fun j hj => by simp at hj⟩⟩
theorem ViewO.alloc {w : World} {v : Value} {b : Nat} {L : List Ot} (h : ViewO w v b L) (o : Obj) : ViewO (w.alloc o) v b L := h.carry fun _ hb => Below.heap_alloc _ _ _ hb
theorem OwnO.alloc {w : World} {v : Value} {g : Nat} {L : List Ot} (h : OwnO w v g L) (o : Obj) : OwnO (w.alloc o) v g L := h.carry (Below.heap_alloc _ _ _ (by obtain ⟨_, _, _, _, _, h, _⟩ := h; exact h))
theorem ViewO.below {w w' : World} {v : Value} {b : Nat} {L : List Ot} (h : ViewO w v b L) (hb : Below w.heap.size w w') : ViewO w' v b L := h.carry fun _ h1 => hb.block _ h1
theorem own_nilO {w : World} {g : Nat} (h : g < w.heap.size) : OwnO w (.slice none 0 0) g [] := ⟨none, 0, rfl, Nat.le_refl _, Nat.zero_le _, h, .inl ⟨rfl, rfl⟩⟩
theorem own_emptyKO {w : World} {k : Nat} (hk : w.heap.size = k) (o : Obj) : OwnO (w.alloc o) (.slice (some ⟨k, 0, none⟩) 0 0) k [] := hk ▸ own_emptyO w o
theorem OwnO.lt {w : World} {v : Value} {g : Nat} {L : List Ot} (h : OwnO w v g L) : g < w.heap.size := by obtain ⟨_, _, _, _, _, h, _⟩ := h; exact h
theorem ViewO.fr {w w' : World} {v : Value} {b : Nat} {F : Nat → Prop} {L : List Ot} (h : ViewO w v b L) (hf : FrS F w w') (hn : L ≠ [] → ¬ F b) : ViewO w' v b L := h.carry fun h1 h2 => hf.block _ h2 (hn h1)
theorem ViewO.lt_of {w : World} {v : Value} {b : Nat} {L : List Ot} (h : ViewO w v b L) (hn : L ≠ []) : b < w.heap.size := by
  obtain ⟨_, _, _, _, _, h⟩ := h
  rcases h with h | ⟨_, _, h, _⟩
  · exact absurd h hn
  · exact h
theorem OwnO.below {w w' : World} {v : Value} {g : Nat} {L : List Ot} (h : OwnO w v g L) (hb : Below w.heap.size w w') : OwnO w' v g L := h.carry (hb.block _ h.lt)
theorem OwnO.fr {w w' : World} {v : Value} {g : Nat} {F : Nat → Prop} {L : List Ot} (h : OwnO w v g L) (hf : FrS F w w') (hn : ¬ F g) : OwnO w' v g L := h.carry (hf.block _ h.lt hn)
theorem view_nilO (w : World) (b : Nat) : ViewO w (.slice none 0 0) b [] := ⟨none, 0, rfl, Nat.le_refl _, Nat.zero_le _, .inl rfl⟩
theorem view_atO {w : World} {v : Value} {b : Nat} {L : List Ot} (h : ViewO w v b L) {ao : Option Addr} {n cap : Nat} (hv : v = .slice ao n cap) : n = L.length ∧ L.length ≤ cap ∧ cap ≤ maxLen ∧ ∀ j (hj : j < L.length), ∃ o, ao = some ⟨b, o, none⟩ ∧ b < w.heap.size ∧ w.cell? ⟨b, o + j * 2, none⟩ = some (.slice L[j].xa L[j].xn L[j].xc) ∧ w.cell? ⟨b, o + j * 2 + 1, none⟩ = some (.slice L[j].ya L[j].yn L[j].yc) := by
  obtain ⟨ao', cap', rfl, h1, h2, h3⟩ := h
  simp only [Value.slice.injEq] at hv
  obtain ⟨rfl, rfl, rfl⟩ := hv
  refine ⟨rfl, h1, h2, fun j hj => ?_⟩
  rcases h3 with rfl | ⟨o, rfl, h4, h5⟩
  · simp at hj
  · have q : ∀ c, c < 2 → w.cell? ⟨b, o + j * 2 + c, none⟩ = (otC L[j])[c]? := fun c hc => by rw [Nat.add_assoc, h5 _ (by omega), flatOt_at L j c hj hc]
    exact ⟨o, rfl, h4, q 0 (by omega), q 1 (by omega)⟩
theorem own_atO {w : World} {v : Value} {b : Nat} {L : List Ot} (h : OwnO w v b L) {ao : Option Addr} {n cap : Nat} (hv : v = .slice ao n cap) (j : Nat) (hj : j < L.length) : ∃ o, ao = some ⟨b, o, none⟩ ∧ w.frozen? ⟨b, o + j * 2, none⟩ = false ∧ w.frozen? ⟨b, o + j * 2 + 1, none⟩ = false := by
  obtain ⟨ao', cap', rfl, h1, h2, h3, h4⟩ := h
  simp only [Value.slice.injEq] at hv
  obtain ⟨rfl, rfl, rfl⟩ := hv
  rcases h4 with ⟨rfl, rfl⟩ | ⟨o, rfl, h5, h6⟩
  · omega
  · have q : ∀ c, c < 2 → w.frozen? ⟨b, o + j * 2 + c, none⟩ = false := fun c hc => by rw [Nat.add_assoc]; exact (h6 _ (by omega)).2
    exact ⟨o, rfl, q 0 (by omega), q 1 (by omega)⟩
abbrev setRO (w : World) (g k : Nat) (b : Ot) : World := ((w.setCell ⟨g, k, none⟩ (.slice b.xa b.xn b.xc)).setCell ⟨g, k + 1, none⟩ (.slice b.ya b.yn b.yc))
theorem setRO_cells (w : World) (g k : Nat) (b : Ot) : setRO w g k b = w.setCells g k (otC b) := rfl
theorem flatOt_set (L : List Ot) (i : Nat) (b : Ot) (hi : i < L.length) (j : Nat) : (flatOt (L.set i b))[j]? = if i * 2 ≤ j ∧ j < i * 2 + 2 then (otC b)[j - i * 2]? else (flatOt L)[j]? := by
  have hl : (flatOt (L.set i b)).length = L.length * 2 := by rw [flatOt_length, List.length_set]
  have hl' := flatOt_length L
  by_cases hj : j < L.length * 2
  · have e : j = (j / 2) * 2 + j % 2 := by omega
    have h1 : j / 2 < L.length := by omega
    have h2 : j % 2 < 2 := by omega
    rw [e, flatOt_at _ _ _ (by rw [List.length_set]; exact h1) h2, flatOt_at _ _ _ h1 h2, List.getElem_set]
    by_cases c : i = j / 2
    · rw [if_pos c, if_pos (by omega), show (j / 2) * 2 + j % 2 - i * 2 = j % 2 by omega]
    · rw [if_neg c, if_neg (by omega)]
  · rw [if_neg (by omega), List.getElem?_eq_none (by omega), List.getElem?_eq_none (by omega)]
theorem own_setO {w : World} {v : Value} {g : Nat} {L : List Ot} (h : OwnO w v g L) {o n cap : Nat} (hv : v = .slice (some ⟨g, o, none⟩) n cap) (j : Nat) (hj : j < L.length) (b : Ot) : OwnO (setRO w g (o + j * 2) b) v g (L.set j b) ∧ FrS (· = g) w (setRO w g (o + j * 2) b) := by
  refine ⟨?_, by rw [setRO_cells]; exact setCells_frS g _ _ w⟩
  obtain ⟨ao', cap', rfl, h1, h2, h3, h4⟩ := h
  simp only [Value.slice.injEq] at hv
  obtain ⟨rfl, rfl, rfl⟩ := hv
  rcases h4 with ⟨h4, rfl⟩ | ⟨o', e, h5, h6⟩
  · cases h4
  · obtain rfl : o = o' := by simpa using e
    rw [setRO_cells]
    refine ⟨_, cap', by rw [List.length_set], by rw [List.length_set]; exact h1, h2, Nat.lt_of_lt_of_le h3 (setCells_frS g _ _ w).size, .inr ⟨o, rfl, fun i hi => ?_, fun i hi => ?_⟩⟩
    · rw [List.length_set] at hi
      rw [flatOt_set L j b hj]
      by_cases c : j * 2 ≤ i ∧ i < j * 2 + 2
      · have := World.cell?_setCells_in g (otC b) (o + j * 2) w (fun i hi => by rw [Nat.add_assoc]; rw [otC_len] at hi; exact (h6 _ (by omega)).1) (i - j * 2) (by rw [otC_len]; omega)
        rw [show o + j * 2 + (i - j * 2) = o + i by omega] at this
        rw [if_pos c, this, List.getElem?_eq_getElem]
      · rw [if_neg c, World.cell?_setCells_out _ _ _ _ _ (fun _ _ => by simp only [otC_len]; omega)]
        exact h5 i hi
    · exact ⟨World.isSome_setCells _ _ _ _ _ (h6 i hi).1, by rw [World.frozen?_setCells]; exact (h6 i hi).2⟩
theorem view_oneO (w : World) (l : Ot) : ViewO (w.alloc (.cells #[.slice l.xa l.xn l.xc, .slice l.ya l.yn l.yc] 44)) (.slice (some ⟨w.heap.size, 0, none⟩) 1 1) w.heap.size [l] :=
  ⟨_, 1, rfl, Nat.le_refl _, by decide, .inr ⟨0, rfl, by simp, fun j hj => by
    rw [Nat.zero_add]
    refine (cell_of_row _ _ _ _ _ _ (heap_alloc_new w _)).trans ?_
    have : j = 0 ∨ j = 1 := by simp at hj; omega
    rcases this with rfl | rfl <;> rfl⟩⟩
end Go.Proofs.YtoenjdnccgmhoaaGreatDoor
