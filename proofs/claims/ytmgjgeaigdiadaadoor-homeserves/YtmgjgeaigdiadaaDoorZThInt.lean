/- layer 16: SlRow ThInt, put together. -/
import Derived.Test.YtmgjgeaigdiadaaDoorRows
import Derived.Test.YtmgjgeaigdiadaaDoorB04
import Derived.Deep.AppendSrc
import Derived.Deep.Upon
import Derived.Deep.RegionLaw
import Derived.Deep.MidRow
import Derived.Deep.RegionHeld3
import Derived.Lib.SliceRun
import Derived.Test.YtmgjgeaigdiadaaDoorB09
namespace Go.Proofs.YtmgjgeaigdiadaaDoor
open Go.ChangeShapes Go.WideShapes Go.ChangeAt Go.RowKit
set_option linter.unusedSimpArgs false
set_option linter.unusedVariables false
set_option maxRecDepth 10000
attribute [local go_sem, local simp] over_const setCell_drewN alloc_drewN Over.cell Over.frozen lt_s1 lt_s2 lt_s3 le_s0 le_s1 le_s2 le_s3 eq_s0 eq_s1 eq_s2 qe_s0
structure Sl where
  a : Option Addr
  n : Nat
  c : Nat
abbrev slV (x : Sl) : Value := .slice x.a x.n x.c
def slsC (L : List Sl) : List Value := L.map slV
theorem slsC_append (L M : List Sl) : slsC (L ++ M) = slsC L ++ slsC M := by simp [slsC]
theorem slsC_length (L : List Sl) : (slsC L).length = L.length := by simp [slsC]
theorem slsC_at (L : List Sl) (i : Nat) (hi : i < L.length) : (slsC L)[i]? = some (slV L[i]) := by simp [slsC, hi]
theorem slsC_one (L : List Sl) : ∀ u ∈ slsC L, u.oneCell' = true := by
  intro u hu
  obtain ⟨x, _, rfl⟩ := List.mem_map.1 hu
  rfl
theorem infoSl : (Tryd.prog.info? 39).map (fun i => (i.zero, i.size, i.bytes)) = some (some (.slice none 0 0), 1, 24) := by kernel_rfl
def ViewSl (w : World) (v : Value) (b : Nat) (L : List Sl) : Prop :=
  ∃ ao cap, v = .slice ao L.length cap ∧ L.length ≤ cap ∧ cap ≤ maxLen ∧
    (L = [] ∨ ∃ o, ao = some ⟨b, o, none⟩ ∧ b < w.heap.size ∧ ∀ j, j < L.length → w.cell? ⟨b, o + j, none⟩ = (slsC L)[j]?)
def OwnSl (w : World) (v : Value) (g : Nat) (L : List Sl) : Prop :=
  ∃ ao cap, v = .slice ao L.length cap ∧ L.length ≤ cap ∧ cap ≤ maxLen ∧ g < w.heap.size ∧
    ((ao = none ∧ cap = 0) ∨ ∃ o, ao = some ⟨g, o, none⟩ ∧ (∀ j, j < L.length → w.cell? ⟨g, o + j, none⟩ = (slsC L)[j]?) ∧
      ∀ j, j < cap → (w.cell? ⟨g, o + j, none⟩).isSome = true ∧ w.frozen? ⟨g, o + j, none⟩ = false)
theorem OwnSl.view {w : World} {v : Value} {g : Nat} {L : List Sl} (h : OwnSl w v g L) : ViewSl w v g L := by
  obtain ⟨ao, cap, rfl, h1, h2, h3, h4⟩ := h
  refine ⟨ao, cap, rfl, h1, h2, ?_⟩
  rcases h4 with ⟨_, rfl⟩ | ⟨o, rfl, h5, _⟩
  · left; exact List.eq_nil_of_length_eq_zero (by omega)
  · exact .inr ⟨o, rfl, h3, h5⟩
theorem OwnSl.lt {w : World} {v : Value} {g : Nat} {L : List Sl} (h : OwnSl w v g L) : g < w.heap.size := by obtain ⟨_, _, _, _, _, h, _⟩ := h; exact h
theorem ViewSl.carry {w w' : World} {v : Value} {b : Nat} {L : List Sl} (h : ViewSl w v b L) (hb : L ≠ [] → b < w.heap.size → w'.heap[b]? = w.heap[b]?) : ViewSl w' v b L := by
  obtain ⟨ao, cap, rfl, h1, h2, h3⟩ := h
  refine ⟨ao, cap, rfl, h1, h2, ?_⟩
  by_cases hn : L = []
  · exact .inl hn
  rcases h3 with h3 | ⟨o, rfl, h4, h5⟩
  · exact .inl h3
  · have e := hb hn h4
    refine .inr ⟨o, rfl, ?_, fun j hj => (World.cell?_of_block (w := w) e).trans (h5 j hj)⟩
    rw [Array.getElem?_eq_getElem h4] at e
    exact (Array.getElem?_eq_some_iff.1 e).1
theorem OwnSl.carry {w w' : World} {v : Value} {g : Nat} {L : List Sl} (h : OwnSl w v g L) (e : w'.heap[g]? = w.heap[g]?) : OwnSl w' v g L := by
  obtain ⟨ao, cap, rfl, h1, h2, h3, h4⟩ := h
  refine ⟨ao, cap, rfl, h1, h2, ?_, ?_⟩
  · rw [Array.getElem?_eq_getElem h3] at e
    exact (Array.getElem?_eq_some_iff.1 e).1
  · rcases h4 with h4 | ⟨o, rfl, h5, h6⟩
    · exact .inl h4
    · exact .inr ⟨o, rfl, fun j hj => (World.cell?_of_block (w := w) e).trans (h5 j hj), fun j hj => ⟨by rw [World.cell?_of_block (w := w) (a := ⟨g, o + j, none⟩) e]; exact (h6 j hj).1, (World.frozen?_of_block (w := w) e).trans (h6 j hj).2⟩⟩
theorem ViewSl.src {w : World} {v : Value} {b : Nat} {L : List Sl} (h : ViewSl w v b L) : Src Tryd.prog 1 64 v L.length (slsC L) w := by
  obtain ⟨ao, cap, rfl, h1, h2, h3⟩ := h
  rcases h3 with rfl | ⟨o, rfl, h4, h5⟩
  · cases ao with
    | none => exact Src.ofNil _ Tryd.underlying64 cap
    | some a => exact Src.ofSlice _ Tryd.underlying64 a 0 cap [] rfl (by simp) (by simp)
  · refine Src.ofSlice _ Tryd.underlying64 _ _ cap _ (by rw [slsC_length, Nat.mul_one]) (fun j u hu => ?_) (slsC_one L)
    rw [Addr.add_lit, h5 j (by rw [← slsC_length]; exact (List.getElem?_eq_some_iff.1 hu).1)]
    exact hu
theorem run_appSl {ty : TypeId} {w : World} {v x : Value} {g b : Nat} {L M : List Sl} (hv : OwnSl w v g L) (hx : ViewSl w x b M) (hs : L.length + M.length ≤ 1000000) :
    ∃ v' w' g', (Builtin.append_ #[64, 64] ty #[v, x]).run Tryd.prog w = .ok v' w' ∧ OwnSl w' v' g' (L ++ M) ∧ AppP w w' v v' g g' := by
  obtain ⟨i0, hi, hz0, hz1, hz2⟩ := info_parts infoSl
  have hsrc := hx.src
  obtain ⟨ao, cap, rfl, hle, hmx, hg, hown⟩ := hv
  rw [← hz1] at hsrc
  by_cases room : L.length + M.length ≤ cap
  · rcases hown with ⟨rfl, rfl⟩ | ⟨o, rfl, hc, hsp⟩
    · have e1 : L = [] := List.eq_nil_of_length_eq_zero (by omega)
      have e2 : M = [] := List.eq_nil_of_length_eq_zero (by omega)
      subst e1 e2
      exact ⟨_, _, g, run_append_nothing w _ _ ty _ i0 Tryd.underlying64 hi none 0 0 (Nat.le_refl _) x hsrc, ⟨none, 0, rfl, Nat.le_refl _, Nat.zero_le _, hg, .inl ⟨rfl, rfl⟩⟩, ⟨FrS.refl _ _, fun _ => Below.refl _ _, .inl rfl, fun _ _ => rfl⟩⟩
    · have hr := run_append_room_src (P := Tryd.prog) w 64 64 ty _ i0 Tryd.underlying64 hi g o L.length cap x M.length (slsC M) hsrc room
        (fun j hj => by rw [hz1, Nat.mul_one, Nat.add_assoc]; rw [slsC_length] at hj; exact (hsp _ (by omega)).1) (fun j hj => by rw [hz1, Nat.mul_one, Nat.add_assoc]; rw [slsC_length] at hj; exact (hsp _ (by omega)).2)
      rw [hz1, Nat.mul_one] at hr
      refine ⟨_, _, g, hr, ⟨some ⟨g, o, none⟩, cap, by simp, by simpa using room, hmx, ?_, .inr ⟨o, rfl, fun j hj => ?_, fun j hj => ?_⟩⟩, ⟨setCells_frS g _ _ w, fun h => (by cases h), .inl rfl, fun _ h => (by cases h)⟩⟩
      · exact Nat.lt_of_lt_of_le hg (setCells_frS g _ _ w).size
      · rw [slsC_append]
        by_cases hj' : j < L.length
        · rw [World.cell?_setCells_out _ _ _ _ _ (fun _ _ => .inl (by simp; omega)), hc j hj', List.getElem?_append_left (by rw [slsC_length]; exact hj')]
        · rw [List.getElem?_append_right (by rw [slsC_length]; omega), slsC_length]
          simp at hj
          have := World.cell?_setCells_in g (slsC M) (o + L.length) w (fun i hi => by rw [Nat.add_assoc]; rw [slsC_length] at hi; exact (hsp _ (by omega)).1) (j - L.length) (by rw [slsC_length]; omega)
          rw [show o + L.length + (j - L.length) = o + j by omega] at this
          rw [this, List.getElem?_eq_getElem]
      · exact ⟨World.isSome_setCells _ _ _ _ _ (hsp j hj).1, by rw [World.frozen?_setCells]; exact (hsp j hj).2⟩
  · have hold : (Builtin.firstCells i0.size L.length (.slice ao L.length cap)).run Tryd.prog w.drew = .ok (slsC L).toArray w.drew := by
      rcases hown with ⟨rfl, rfl⟩ | ⟨o, rfl, hc, hsp⟩
      · have e1 : L = [] := List.eq_nil_of_length_eq_zero (by omega)
        subst e1
        exact run_firstCells_none w.drew i0.size 0 0 0
      · refine run_firstCells_some w.drew i0.size L.length ⟨g, o, none⟩ L.length cap (slsC L) (by rw [hz1, slsC_length, Nat.mul_one]) (fun j u hu => ?_)
        rw [Addr.add_lit]
        exact (hc j (by rw [← slsC_length]; exact (List.getElem?_eq_some_iff.1 hu).1)).trans hu
    have hr := run_append_grow_src (P := Tryd.prog) w 64 64 ty _ i0 _ Tryd.underlying64 hi hz0 ao L.length cap (slsC L) hold x M.length (slsC M) hsrc (by omega) (by omega) (growslice_fits (by omega) (by rw [hz2]; omega))
    have hge := grownCap_ge w (L.length + M.length) cap 39
    have hcm : grownCap w (L.length + M.length) cap 39 ≤ maxLen := grownCap_le_maxLen w _ cap 39 (by simp only [maxLen]; omega)
    have hnew := heap_alloc_new w.drew (Obj.cells ((slsC L ++ slsC M).toArray ++ Builtin.zeroCells (Value.slice none 0 0).cells (grownCap w (L.length + M.length) cap 39 - (L.length + M.length))) 39)
    have hcell := fun j => cell_of_row _ w.drew.heap.size j _ _ _ hnew
    have hsz : ((slsC L ++ slsC M).toArray ++ Builtin.zeroCells (Value.slice none 0 0).cells (grownCap w (L.length + M.length) cap 39 - (L.length + M.length))).size = grownCap w (L.length + M.length) cap 39 := by
      rw [Array.size_append, size_zeroCells]
      simp [slsC_length, Value.cells]
      omega
    refine ⟨_, _, w.heap.size, hr, ⟨some ⟨w.heap.size, 0, none⟩, _, by simp, by simpa using hge, hcm, by simp, .inr ⟨0, rfl, fun j hj => ?_, fun j hj => ?_⟩⟩, ⟨⟨rfl, rfl, rfl, by simp, fun k hk _ => Below.heap_alloc w.drew _ k hk⟩, fun _ => ⟨rfl, rfl, rfl, by simp, fun k hk => Below.heap_alloc w.drew _ k hk⟩, .inr (Nat.le_refl _), fun e => by omega⟩⟩
    · rw [Nat.zero_add]
      refine (hcell j).trans ?_
      rw [Array.getElem?_append_left (by simp [slsC_length] at hj ⊢; omega), slsC_append]
      simp
    · rw [Nat.zero_add]
      refine ⟨?_, ?_⟩
      · have := hcell j
        rw [Array.getElem?_eq_getElem (by rw [hsz]; exact hj)] at this
        exact Option.isSome_iff_exists.2 ⟨_, this⟩
      · have h2 := hnew
        simp only [World.frozen?]
        rw [show w.heap.size = w.drew.heap.size from rfl, h2]
        simp
section
variable {w : World} {ops : Array Oper} {o : Oper} {a : Act} {Q : Exit → Act → World → Prop}
theorem wp_appSl {K : Act → World → Prop} (s x : Operand) (ho : o.op = .call { callee := .builtin .append, args := #[s, x], argTypes := #[64, 64] })
    {v xv : Value} {g b : Nat} {L M : List Sl} (hs : a.eval s = v) (hx : a.eval x = xv) (hv : OwnSl w v g L) (hxv : ViewSl w xv b M) (hle : L.length + M.length ≤ 1000000) (n : Nat) (hn : L.length + M.length = n)
    (h : ∀ ao cap w' g', OwnSl w' (.slice ao n cap) g' (L ++ M) → AppP w w' v (.slice ao n cap) g g' → K (a.put o.dst (.slice ao n cap)) w') : o.wp Tryd.prog a w K Q := by
  obtain ⟨v', w', g', hr, h2, h3⟩ := run_appSl (ty := o.type) hv hxv hle
  obtain ⟨ao, cap, rfl, _⟩ := id h2
  unfold Oper.wp execOp
  simp only [ho, resolve, invoke, builtin, Sem.run_bind, Sem.run_pure, Result.andThen_ok, List.map_toArray, List.map_cons, List.map_nil, hs, hx, hr]
  rw [List.length_append, hn] at h2 h3 ⊢
  exact h ao cap w' g' h2 h3
theorem wpList_appSl {rest : List Oper} (hgd : o.guard = none) (s x : Operand) (ho : o.op = .call { callee := .builtin .append, args := #[s, x], argTypes := #[64, 64] })
    {v xv : Value} {g b : Nat} {L M : List Sl} (hs : a.eval s = v) (hx : a.eval x = xv) (hv : OwnSl w v g L) (hxv : ViewSl w xv b M) (hle : L.length + M.length ≤ 1000000) (n : Nat) (hn : L.length + M.length = n)
    (h : ∀ ao cap w' g', OwnSl w' (.slice ao n cap) g' (L ++ M) → AppP w w' v (.slice ao n cap) g g' → wpList Tryd.prog ops Q rest (a.put o.dst (.slice ao n cap)) w') : wpList Tryd.prog ops Q (o :: rest) a w :=
  wpList_plain hgd fun _ hK => wp_appSl s x ho hs hx hv hxv hle n hn fun ao cap w' g' h2 h3 => hK _ _ (h ao cap w' g' h2 h3)
theorem step_appSl {K : Act → World → Prop} {E : Prop} (hgd : o.guard = none) (s x : Operand) (ho : o.op = .call { callee := .builtin .append, args := #[s, x], argTypes := #[64, 64] })
    {v xv : Value} {g b : Nat} {L M : List Sl} (hs : a.eval s = v) (hx : a.eval x = xv) (hv : OwnSl w v g L) (hxv : ViewSl w xv b M) (hle : L.length + M.length ≤ 1000000) (n : Nat) (hn : L.length + M.length = n)
    (h : ∀ ao cap w' g', OwnSl w' (.slice ao n cap) g' (L ++ M) → AppP w w' v (.slice ao n cap) g g' → K (a.put o.dst (.slice ao n cap)) w') : if Region.wanted o (yielded ops a.tmps) = true then Oper.wp Tryd.prog o a w K Q else E := by
  have hw : Region.wanted o (yielded ops a.tmps) = true := by simp [Region.wanted, hgd]
  rw [if_pos hw]
  exact wp_appSl s x ho hs hx hv hxv hle n hn h
end
theorem own_emptySl (w : World) (o : Obj) : OwnSl (w.alloc o) (.slice (some ⟨w.heap.size, 0, none⟩) 0 0) w.heap.size [] :=
  ⟨_, 0, rfl, Nat.le_refl _, Nat.zero_le _, by simp, .inr ⟨0, rfl, fun j hj => by simp at hj, fun j hj => by simp at hj⟩⟩
theorem own_nilSl {w : World} {g : Nat} (h : g < w.heap.size) : OwnSl w (.slice none 0 0) g [] := ⟨none, 0, rfl, Nat.le_refl _, Nat.zero_le _, h, .inl ⟨rfl, rfl⟩⟩
theorem ViewSl.alloc {w : World} {v : Value} {b : Nat} {L : List Sl} (h : ViewSl w v b L) (o : Obj) : ViewSl (w.alloc o) v b L := h.carry fun _ hb => Below.heap_alloc _ _ _ hb
theorem OwnSl.alloc {w : World} {v : Value} {g : Nat} {L : List Sl} (h : OwnSl w v g L) (o : Obj) : OwnSl (w.alloc o) v g L := h.carry (Below.heap_alloc _ _ _ h.lt)
theorem ViewSl.below {w w' : World} {v : Value} {b : Nat} {L : List Sl} (h : ViewSl w v b L) (hb : Below w.heap.size w w') : ViewSl w' v b L := h.carry fun _ h1 => hb.block _ h1
theorem ViewSl.fr {w w' : World} {v : Value} {b : Nat} {F : Nat → Prop} {L : List Sl} (h : ViewSl w v b L) (hf : FrS F w w') (hn : L ≠ [] → ¬ F b) : ViewSl w' v b L := h.carry fun h1 h2 => hf.block _ h2 (hn h1)
theorem OwnSl.below {w w' : World} {v : Value} {g : Nat} {L : List Sl} (h : OwnSl w v g L) (hb : Below w.heap.size w w') : OwnSl w' v g L := h.carry (hb.block _ h.lt)
theorem OwnSl.fr {w w' : World} {v : Value} {g : Nat} {F : Nat → Prop} {L : List Sl} (h : OwnSl w v g L) (hf : FrS F w w') (hn : ¬ F g) : OwnSl w' v g L := h.carry (hf.block _ h.lt hn)
theorem view_nilSl (w : World) (b : Nat) : ViewSl w (.slice none 0 0) b [] := ⟨none, 0, rfl, Nat.le_refl _, Nat.zero_le _, .inl rfl⟩
theorem view_atSl {w : World} {v : Value} {b : Nat} {L : List Sl} (h : ViewSl w v b L) {ao : Option Addr} {n cap : Nat} (hv : v = .slice ao n cap) : n = L.length ∧ L.length ≤ cap ∧ cap ≤ maxLen ∧ ∀ j (hj : j < L.length), ∃ o, ao = some ⟨b, o, none⟩ ∧ b < w.heap.size ∧ w.cell? ⟨b, o + j, none⟩ = some (slV L[j]) := by
  obtain ⟨ao', cap', e, h1, h2, h3⟩ := h
  rw [hv] at e
  simp only [Value.slice.injEq] at e
  obtain ⟨rfl, rfl, rfl⟩ := e
  refine ⟨rfl, h1, h2, fun j hj => ?_⟩
  rcases h3 with rfl | ⟨o, rfl, h4, h5⟩
  · simp at hj
  · exact ⟨o, rfl, h4, (h5 j hj).trans (slsC_at L j hj)⟩
theorem view_oneSl (w : World) (x : Sl) : ViewSl (w.alloc (.cells #[.slice x.a x.n x.c] 39)) (.slice (some ⟨w.heap.size, 0, none⟩) 1 1) w.heap.size [x] :=
  ⟨_, 1, rfl, Nat.le_refl _, by decide, .inr ⟨0, rfl, by simp, fun j hj => by
    rw [Nat.zero_add]
    refine (cell_of_row _ _ _ _ _ _ (heap_alloc_new w _)).trans ?_
    have : j = 0 := by simp at hj; omega
    subst this
    rfl⟩⟩
def ThIs (w : World) (v : Value) (g n : Nat) (f : Int → Int) : Prop := ∃ T : List Int, T.length = n ∧ Own w v g T ∧ ∀ i (h : i < T.length), T[i] = f i
section
variable {w w' : World} {v : Value} {g n : Nat} {f f' : Int → Int}
theorem ThIs.lt (h : ThIs w v g n f) : g < w.heap.size := by obtain ⟨T, _, h2, _⟩ := h; exact h2.lt
theorem ThIs.below (h : ThIs w v g n f) (hb : Below w.heap.size w w') : ThIs w' v g n f := by obtain ⟨T, h1, h2, h3⟩ := h; exact ⟨T, h1, h2.below hb, h3⟩
theorem ThIs.fr {F : Nat → Prop} (h : ThIs w v g n f) (hf : FrS F w w') (hn : ¬ F g) : ThIs w' v g n f := by obtain ⟨T, h1, h2, h3⟩ := h; exact ⟨T, h1, h2.fr hf hn, h3⟩
theorem ThIs.alike (h : ThIs w v g n f) (he : ∀ i : Nat, i < n → f i = f' i) : ThIs w v g n f' := by
  obtain ⟨T, h1, h2, h3⟩ := h
  exact ⟨T, h1, h2, fun i hi => (h3 i hi).trans (he i (by omega))⟩
theorem ThIs.val (h : ThIs w v g n f) : ∃ ao cap, v = .slice ao n cap ∧ n ≤ cap ∧ cap ≤ maxLen := by
  obtain ⟨T, h1, ⟨ao, cap, e, h4, h5, -⟩, -⟩ := h
  exact ⟨ao, cap, by rw [e, h1], by omega, h5⟩
theorem ThIs.at1 (h : ThIs w v g n f) {j : Nat} (hj : j < n) : ∃ o cap, v = .slice (some ⟨g, o, none⟩) n cap ∧ n ≤ cap ∧ g < w.heap.size ∧ w.cell? ⟨g, o + j, none⟩ = some (.int .i64 (f j)) ∧ w.frozen? ⟨g, o + j, none⟩ = false := by
  obtain ⟨T, h1, ⟨ao, cap, e, h4, h5, h6, h7⟩, h3⟩ := h
  rcases h7 with ⟨rfl, rfl⟩ | ⟨o, rfl, h8, h9⟩
  · omega
  · refine ⟨o, cap, by rw [e, h1], by omega, h6, ?_, (h9 j (by omega)).2⟩
    rw [h8 j (by omega), ints_at T j (by omega), h3 j (by omega)]
theorem ThIs.put {o cap : Nat} (h : ThIs w (.slice (some ⟨g, o, none⟩) n cap) g n f) {j : Nat} (hj : j < n) (x : Int) : ThIs (w.setCell ⟨g, o + j, none⟩ (.int .i64 x)) (.slice (some ⟨g, o, none⟩) n cap) g n (fun y => if y = j then x else f y) := by
  obtain ⟨T, h1, ⟨ao, cap', e, h4, h5, h6, h7⟩, h3⟩ := h
  simp only [Value.slice.injEq] at e
  obtain ⟨rfl, e1, rfl⟩ := e
  rcases h7 with ⟨e2, -⟩ | ⟨o', e2, h8, h9⟩
  · cases e2
  · obtain rfl : o = o' := by simpa using e2
    refine ⟨T.set j x, by simp [h1], ⟨_, cap, by simp [h1], by simpa using h4, h5, by simpa using h6, .inr ⟨o, rfl, fun i hi => ?_, fun i hi => ?_⟩⟩, fun i hi => ?_⟩
    · rw [List.length_set] at hi
      by_cases ei : i = j
      · subst ei
        rw [ints_at _ _ (by simpa using hi)]
        simp only [List.getElem_set_self]
        have h10 := h8 i hi
        have h11 := h9 i (by omega)
        obtain ⟨u, hu⟩ := Option.isSome_iff_exists.1 h11.1
        rw [World.cell?_setCell_same _ _ _ hu]
      · rw [World.cell?_setCell_other _ _ _ _ (fun e => by have := congrArg Addr.off e; dsimp only at this; omega), h8 i hi, ints_at _ _ hi, ints_at _ _ (by simpa using hi), List.getElem_set_ne (by omega)]
    · refine ⟨?_, by rw [World.frozen?_setCell]; exact (h9 i hi).2⟩
      by_cases ei : i = j
      · subst ei
        obtain ⟨u, hu⟩ := Option.isSome_iff_exists.1 (h9 i hi).1
        rw [World.cell?_setCell_same _ _ _ hu]
        rfl
      · rw [World.cell?_setCell_other _ _ _ _ (fun e => by have := congrArg Addr.off e; dsimp only at this; omega)]
        exact (h9 i hi).1
    · dsimp only
      by_cases ei : i = j
      · subst ei
        simp
      · rw [List.getElem_set_ne (by omega), if_neg (by omega)]
        exact h3 i (by simpa using hi)
end
theorem own_of_rowI {w : World} {base n : Nat} {v : Value} {L : List Int} (h : w.ownsRow base 3 1 v n (ints L)) (hn : 1 ≤ n) : ∃ g, Own w v g L ∧ base ≤ g := by
  obtain ⟨h1, h2⟩ := h
  rw [ints_length] at h1
  rcases h2 with ⟨rfl, rfl⟩ | ⟨g, cap, cur, rfl, h3, h4, h5, h6, h7, h8⟩
  · omega
  · have hL : L.length = n := by omega
    have hg := (Array.getElem?_eq_some_iff.1 h4).1
    have hc : ∀ j, j < L.length → w.cell? ⟨g, 0 + j, none⟩ = (ints L)[j]? := fun j hj => by
      rw [Nat.zero_add, cell_of_row _ _ _ _ _ _ h4]
      have h9 := congrArg (fun l => l[j]?) h8
      try dsimp only at h9
      rw [List.getElem?_take_of_lt (by omega)] at h9
      rw [← Array.getElem?_toList, h9]
    refine ⟨g, ⟨some ⟨g, 0, none⟩, cap, by rw [hL], by omega, h6, hg, .inr ⟨0, rfl, hc, fun j hj => ?_⟩⟩, h3⟩
    rw [Nat.zero_add, cell_of_row _ _ _ _ _ _ h4]
    exact ⟨by rw [Array.getElem?_eq_getElem (by omega)]; rfl, frozen_of_row _ _ _ _ _ h4⟩
end Go.Proofs.YtmgjgeaigdiadaaDoor
