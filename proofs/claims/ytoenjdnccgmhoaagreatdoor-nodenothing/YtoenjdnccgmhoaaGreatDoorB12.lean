/- layer 15: LtRow DnRow LinD, put together. -/
import Derived.Test.YtoenjdnccgmhoaaGreatDoorRows
import Derived.Test.YtoenjdnccgmhoaaGreatDoorB04
import Derived.Deep.AppendSrc
import Derived.Deep.Upon
import Derived.Deep.RegionLaw
import Derived.Deep.MidRow
import Derived.Deep.RegionHeld3
import Derived.Lib.SliceRun
import Derived.Test.YtoenjdnccgmhoaaGreatDoorB10
namespace Go.Proofs.YtoenjdnccgmhoaaGreatDoor
open Go.ChangeShapes Go.WideShapes Go.ChangeAt Go.RowKit
set_option linter.unusedSimpArgs false
set_option linter.unusedVariables false
set_option maxRecDepth 10000
attribute [local go_sem, local simp] over_const setCell_drewN alloc_drewN Over.cell Over.frozen lt_s1 lt_s2 lt_s3 le_s0 le_s1 le_s2 le_s3 eq_s0 eq_s1 eq_s2 qe_s0
structure Lt where
  k : Int
  a : Int
  b : Int
  q : Int
  s : Int
  w : Int
  r : Bool
  n : Int
  o : Bool
  h : Bool
  d : Int
abbrev ltV (l : Lt) : Value := .agg #[.int .i64 l.k, .int .i64 l.a, .int .i64 l.b, .int .i64 l.q, .int .i64 l.s, .int .i64 l.w, .bool l.r, .int .i64 l.n, .bool l.o, .bool l.h, .int .i64 l.d]
abbrev lt0 : Lt := ⟨0, 0, 0, 0, 0, 0, false, 0, false, false, 0⟩
def ltC (l : Lt) : List Value := [.int .i64 l.k, .int .i64 l.a, .int .i64 l.b, .int .i64 l.q, .int .i64 l.s, .int .i64 l.w, .bool l.r, .int .i64 l.n, .bool l.o, .bool l.h, .int .i64 l.d]
theorem ltC_len (l : Lt) : (ltC l).length = 11 := rfl
def flatLt (L : List Lt) : List Value := L.flatMap ltC
theorem flatLt_nil : flatLt [] = [] := rfl
theorem flatLt_cons (l : Lt) (L : List Lt) : flatLt (l :: L) = ltC l ++ flatLt L := by simp [flatLt]
theorem flatLt_append (L M : List Lt) : flatLt (L ++ M) = flatLt L ++ flatLt M := by simp [flatLt]
theorem flatLt_length (L : List Lt) : (flatLt L).length = L.length * 11 := by
  induction L with
  | nil => rfl
  | cons l L ih => rw [flatLt_cons, List.length_append, ih, ltC_len]; simp; omega
theorem flatLt_at (L : List Lt) (i c : Nat) (hi : i < L.length) (hc : c < 11) : (flatLt L)[i * 11 + c]? = (ltC L[i])[c]? := by
  induction L generalizing i with
  | nil => simp at hi
  | cons l L ih =>
    rw [flatLt_cons]
    cases i with
    | zero => rw [List.getElem?_append_left (by rw [ltC_len]; omega)]; simp
    | succ i =>
      rw [List.getElem?_append_right (by rw [ltC_len]; omega), ltC_len, show (i + 1) * 11 + c - 11 = i * 11 + c by omega]
      exact ih i (by simpa using hi)
theorem flatLt_one (L : List Lt) : ∀ u ∈ flatLt L, u.oneCell' = true := by
  intro u hu
  obtain ⟨l, _, hl⟩ := List.mem_flatMap.1 hu
  simp [ltC] at hl
  rcases hl with rfl | rfl | rfl | rfl | rfl | rfl | rfl | rfl | rfl | rfl | rfl <;> rfl
theorem flatLt_take (L : List Lt) (i : Nat) (hi : i ≤ L.length) : flatLt (L.take i) = (flatLt L).take (i * 11) := by
  have h := congrArg flatLt (List.take_append_drop i L)
  rw [flatLt_append] at h
  rw [← h, List.take_left' (by rw [flatLt_length, List.length_take]; omega)]
theorem flatLt_drop (L : List Lt) (i : Nat) (hi : i ≤ L.length) : flatLt (L.drop i) = (flatLt L).drop (i * 11) := by
  have h := congrArg flatLt (List.take_append_drop i L)
  rw [flatLt_append] at h
  rw [← h, List.drop_left' (by rw [flatLt_length, List.length_take]; omega)]
theorem infoT : (Tryz.prog.info? 37).map (fun i => (i.zero, i.size, i.bytes)) = some (some (ltV lt0), 11, 80) := by kernel_rfl
def ViewT (w : World) (v : Value) (b : Nat) (L : List Lt) : Prop :=
  ∃ ao cap, v = .slice ao L.length cap ∧ L.length ≤ cap ∧ cap ≤ maxLen ∧
    (L = [] ∨ ∃ o, ao = some ⟨b, o, none⟩ ∧ b < w.heap.size ∧ ∀ j, j < L.length * 11 → w.cell? ⟨b, o + j, none⟩ = (flatLt L)[j]?)
def OwnT (w : World) (v : Value) (g : Nat) (L : List Lt) : Prop :=
  ∃ ao cap, v = .slice ao L.length cap ∧ L.length ≤ cap ∧ cap ≤ maxLen ∧ g < w.heap.size ∧
    ((ao = none ∧ cap = 0) ∨ ∃ o, ao = some ⟨g, o, none⟩ ∧ (∀ j, j < L.length * 11 → w.cell? ⟨g, o + j, none⟩ = (flatLt L)[j]?) ∧
      ∀ j, j < cap * 11 → (w.cell? ⟨g, o + j, none⟩).isSome = true ∧ w.frozen? ⟨g, o + j, none⟩ = false)
theorem OwnT.view {w : World} {v : Value} {g : Nat} {L : List Lt} (h : OwnT w v g L) : ViewT w v g L := by
  obtain ⟨ao, cap, rfl, h1, h2, h3, h4⟩ := h
  refine ⟨ao, cap, rfl, h1, h2, ?_⟩
  rcases h4 with ⟨_, rfl⟩ | ⟨o, rfl, h5, _⟩
  · left; exact List.eq_nil_of_length_eq_zero (by omega)
  · exact .inr ⟨o, rfl, h3, h5⟩
theorem ViewT.carry {w w' : World} {v : Value} {b : Nat} {L : List Lt} (h : ViewT w v b L) (hb : L ≠ [] → b < w.heap.size → w'.heap[b]? = w.heap[b]?) : ViewT w' v b L := by
  obtain ⟨ao, cap, rfl, h1, h2, h3⟩ := h
  refine ⟨ao, cap, rfl, h1, h2, ?_⟩
  by_cases hn : L = []
  · exact .inl hn
  rcases h3 with h3 | ⟨o, rfl, h4, h5⟩
  · exact .inl h3
  · have e := hb hn h4
    refine .inr ⟨o, rfl, ?_, fun j hj => (World.cell?_of_block (w := w) e).trans (h5 j hj)⟩
    rw [Array.getElem?_eq_getElem h4] at e
    exact (Array.getElem?_eq_some_iff.1 e).1
theorem OwnT.carry {w w' : World} {v : Value} {g : Nat} {L : List Lt} (h : OwnT w v g L) (e : w'.heap[g]? = w.heap[g]?) : OwnT w' v g L := by
  obtain ⟨ao, cap, rfl, h1, h2, h3, h4⟩ := h
  refine ⟨ao, cap, rfl, h1, h2, ?_, ?_⟩
  · rw [Array.getElem?_eq_getElem h3] at e
    exact (Array.getElem?_eq_some_iff.1 e).1
  · rcases h4 with h4 | ⟨o, rfl, h5, h6⟩
    · exact .inl h4
    · exact .inr ⟨o, rfl, fun j hj => (World.cell?_of_block (w := w) e).trans (h5 j hj), fun j hj => ⟨by rw [World.cell?_of_block (w := w) (a := ⟨g, o + j, none⟩) e]; exact (h6 j hj).1, (World.frozen?_of_block (w := w) e).trans (h6 j hj).2⟩⟩
theorem ViewT.src {w : World} {v : Value} {b : Nat} {L : List Lt} (h : ViewT w v b L) : Src Tryz.prog 11 41 v L.length (flatLt L) w := by
  obtain ⟨ao, cap, rfl, h1, h2, h3⟩ := h
  rcases h3 with rfl | ⟨o, rfl, h4, h5⟩
  · cases ao with
    | none => exact Src.ofNil _ Tryz.underlying41 cap
    | some a => exact Src.ofSlice _ Tryz.underlying41 a 0 cap [] rfl (by simp) (by simp)
  · refine Src.ofSlice _ Tryz.underlying41 _ _ cap _ (flatLt_length L) (fun j u hu => ?_) (flatLt_one L)
    rw [Addr.add_lit, h5 j (by rw [← flatLt_length]; exact (List.getElem?_eq_some_iff.1 hu).1)]
    exact hu
theorem run_appT {ty : TypeId} {w : World} {v x : Value} {g b : Nat} {L M : List Lt} (hv : OwnT w v g L) (hx : ViewT w x b M) (hs : L.length + M.length ≤ 1000000) :
    ∃ v' w' g', (Builtin.append_ #[41, 41] ty #[v, x]).run Tryz.prog w = .ok v' w' ∧ OwnT w' v' g' (L ++ M) ∧ AppP w w' v v' g g' := by
  obtain ⟨i0, hi, hz0, hz1, hz2⟩ := info_parts infoT
  have hsrc := hx.src
  obtain ⟨ao, cap, rfl, hle, hmx, hg, hown⟩ := hv
  rw [← hz1] at hsrc
  by_cases room : L.length + M.length ≤ cap
  · rcases hown with ⟨rfl, rfl⟩ | ⟨o, rfl, hc, hsp⟩
    · have e1 : L = [] := List.eq_nil_of_length_eq_zero (by omega)
      have e2 : M = [] := List.eq_nil_of_length_eq_zero (by omega)
      subst e1 e2
      exact ⟨_, _, g, run_append_nothing w _ _ ty _ i0 Tryz.underlying41 hi none 0 0 (Nat.le_refl _) x hsrc, ⟨none, 0, rfl, Nat.le_refl _, Nat.zero_le _, hg, .inl ⟨rfl, rfl⟩⟩, ⟨FrS.refl _ _, fun _ => Below.refl _ _, .inl rfl, fun _ _ => rfl⟩⟩
    · have hr := run_append_room_src (P := Tryz.prog) w 41 41 ty _ i0 Tryz.underlying41 hi g o L.length cap x M.length (flatLt M) hsrc room
        (fun j hj => by rw [hz1, Nat.add_assoc]; rw [flatLt_length] at hj; exact (hsp _ (by omega)).1) (fun j hj => by rw [hz1, Nat.add_assoc]; rw [flatLt_length] at hj; exact (hsp _ (by omega)).2)
      rw [hz1] at hr
      refine ⟨_, _, g, hr, ⟨some ⟨g, o, none⟩, cap, by simp, by simpa using room, hmx, ?_, .inr ⟨o, rfl, fun j hj => ?_, fun j hj => ?_⟩⟩, ⟨setCells_frS g _ _ w, fun h => (by cases h), .inl rfl, fun _ h => (by cases h)⟩⟩
      · exact Nat.lt_of_lt_of_le hg (setCells_frS g _ _ w).size
      · rw [flatLt_append]
        by_cases hj' : j < L.length * 11
        · rw [World.cell?_setCells_out _ _ _ _ _ (fun _ _ => .inl (by simp; omega)), hc j hj', List.getElem?_append_left (by rw [flatLt_length]; exact hj')]
        · rw [List.getElem?_append_right (by rw [flatLt_length]; omega), flatLt_length]
          simp at hj
          have := World.cell?_setCells_in g (flatLt M) (o + L.length * 11) w (fun i hi => by rw [Nat.add_assoc]; rw [flatLt_length] at hi; exact (hsp _ (by omega)).1) (j - L.length * 11) (by rw [flatLt_length]; omega)
          rw [show o + L.length * 11 + (j - L.length * 11) = o + j by omega] at this
          rw [this, List.getElem?_eq_getElem]
      · exact ⟨World.isSome_setCells _ _ _ _ _ (hsp j hj).1, by rw [World.frozen?_setCells]; exact (hsp j hj).2⟩
  · have hold : (Builtin.firstCells i0.size L.length (.slice ao L.length cap)).run Tryz.prog w.drew = .ok (flatLt L).toArray w.drew := by
      rcases hown with ⟨rfl, rfl⟩ | ⟨o, rfl, hc, hsp⟩
      · have e1 : L = [] := List.eq_nil_of_length_eq_zero (by omega)
        subst e1
        exact run_firstCells_none w.drew i0.size 0 0 0
      · refine run_firstCells_some w.drew i0.size L.length ⟨g, o, none⟩ L.length cap (flatLt L) (by rw [hz1, flatLt_length]) (fun j u hu => ?_)
        rw [Addr.add_lit]
        exact (hc j (by rw [← flatLt_length]; exact (List.getElem?_eq_some_iff.1 hu).1)).trans hu
    have hr := run_append_grow_src (P := Tryz.prog) w 41 41 ty _ i0 _ Tryz.underlying41 hi hz0 ao L.length cap (flatLt L) hold x M.length (flatLt M) hsrc (by omega) (by omega) (growslice_fits (by omega) (by rw [hz2]; omega))
    have hge := grownCap_ge w (L.length + M.length) cap 37
    have hcm : grownCap w (L.length + M.length) cap 37 ≤ maxLen := grownCap_le_maxLen w _ cap 37 (by simp only [maxLen]; omega)
    have hnew := heap_alloc_new w.drew (Obj.cells ((flatLt L ++ flatLt M).toArray ++ Builtin.zeroCells (ltV lt0).cells (grownCap w (L.length + M.length) cap 37 - (L.length + M.length))) 37)
    have hcell := fun j => cell_of_row _ w.drew.heap.size j _ _ _ hnew
    have hsz : ((flatLt L ++ flatLt M).toArray ++ Builtin.zeroCells (ltV lt0).cells (grownCap w (L.length + M.length) cap 37 - (L.length + M.length))).size = grownCap w (L.length + M.length) cap 37 * 11 := by
      rw [Array.size_append, size_zeroCells]
      simp [flatLt_length, ltV, Value.cells]
      omega
    refine ⟨_, _, w.heap.size, hr, ⟨some ⟨w.heap.size, 0, none⟩, _, by simp, by simpa using hge, hcm, by simp, .inr ⟨0, rfl, fun j hj => ?_, fun j hj => ?_⟩⟩, ⟨⟨rfl, rfl, rfl, by simp, fun k hk _ => Below.heap_alloc w.drew _ k hk⟩, fun _ => ⟨rfl, rfl, rfl, by simp, fun k hk => Below.heap_alloc w.drew _ k hk⟩, .inr (Nat.le_refl _), fun e => by omega⟩⟩
    · rw [Nat.zero_add]
      refine (hcell j).trans ?_
      rw [Array.getElem?_append_left (by simp [flatLt_length] at hj ⊢; omega), flatLt_append]
      simp
    · rw [Nat.zero_add]
      refine ⟨?_, ?_⟩
      · have := hcell j
        rw [Array.getElem?_eq_getElem (by rw [hsz]; exact hj)] at this
        exact Option.isSome_iff_exists.2 ⟨_, this⟩
      · have h2 := hnew
        simp only [World.frozen?]
        rw [show w.heap.size = w.drew.heap.size from rfl, h2]
        simp
section
variable {w : World} {ops : Array Oper} {o : Oper} {a : Act} {Q : Exit → Act → World → Prop}
theorem wp_appT {K : Act → World → Prop} (s x : Operand) (ho : o.op = .call { callee := .builtin .append, args := #[s, x], argTypes := #[41, 41] })
    {v xv : Value} {g b : Nat} {L M : List Lt} (hs : a.eval s = v) (hx : a.eval x = xv) (hv : OwnT w v g L) (hxv : ViewT w xv b M) (hle : L.length + M.length ≤ 1000000) (n : Nat) (hn : L.length + M.length = n)
    (h : ∀ ao cap w' g', OwnT w' (.slice ao n cap) g' (L ++ M) → AppP w w' v (.slice ao n cap) g g' → K (a.put o.dst (.slice ao n cap)) w') : o.wp Tryz.prog a w K Q := by
  obtain ⟨v', w', g', hr, h2, h3⟩ := run_appT (ty := o.type) hv hxv hle
  obtain ⟨ao, cap, rfl, _⟩ := id h2
  unfold Oper.wp execOp
  simp only [ho, resolve, invoke, builtin, Sem.run_bind, Sem.run_pure, Result.andThen_ok, List.map_toArray, List.map_cons, List.map_nil, hs, hx, hr]
  rw [List.length_append, hn] at h2 h3 ⊢
  exact h ao cap w' g' h2 h3
theorem wpList_appT {rest : List Oper} (hgd : o.guard = none) (s x : Operand) (ho : o.op = .call { callee := .builtin .append, args := #[s, x], argTypes := #[41, 41] })
    {v xv : Value} {g b : Nat} {L M : List Lt} (hs : a.eval s = v) (hx : a.eval x = xv) (hv : OwnT w v g L) (hxv : ViewT w xv b M) (hle : L.length + M.length ≤ 1000000) (n : Nat) (hn : L.length + M.length = n)
    (h : ∀ ao cap w' g', OwnT w' (.slice ao n cap) g' (L ++ M) → AppP w w' v (.slice ao n cap) g g' → wpList Tryz.prog ops Q rest (a.put o.dst (.slice ao n cap)) w') : wpList Tryz.prog ops Q (o :: rest) a w :=
  wpList_plain hgd fun _ hK => wp_appT s x ho hs hx hv hxv hle n hn fun ao cap w' g' h2 h3 => hK _ _ (h ao cap w' g' h2 h3)
theorem step_appT {K : Act → World → Prop} {E : Prop} (hgd : o.guard = none) (s x : Operand) (ho : o.op = .call { callee := .builtin .append, args := #[s, x], argTypes := #[41, 41] })
    {v xv : Value} {g b : Nat} {L M : List Lt} (hs : a.eval s = v) (hx : a.eval x = xv) (hv : OwnT w v g L) (hxv : ViewT w xv b M) (hle : L.length + M.length ≤ 1000000) (n : Nat) (hn : L.length + M.length = n)
    (h : ∀ ao cap w' g', OwnT w' (.slice ao n cap) g' (L ++ M) → AppP w w' v (.slice ao n cap) g g' → K (a.put o.dst (.slice ao n cap)) w') : if Region.wanted o (yielded ops a.tmps) = true then Oper.wp Tryz.prog o a w K Q else E := by
  have hw : Region.wanted o (yielded ops a.tmps) = true := by simp [Region.wanted, hgd]
  rw [if_pos hw]
  exact wp_appT s x ho hs hx hv hxv hle n hn h
end
theorem own_emptyT (w : World) (o : Obj) : OwnT (w.alloc o) (.slice (some ⟨w.heap.size, 0, none⟩) 0 0) w.heap.size [] :=
  ⟨_, 0, rfl, Nat.le_refl _, Nat.zero_le _, by simp, .inr ⟨0, rfl, fun j hj => by simp at hj, fun j hj => by simp at hj⟩⟩
theorem ViewT.alloc {w : World} {v : Value} {b : Nat} {L : List Lt} (h : ViewT w v b L) (o : Obj) : ViewT (w.alloc o) v b L := h.carry fun _ hb => Below.heap_alloc _ _ _ hb
theorem OwnT.alloc {w : World} {v : Value} {g : Nat} {L : List Lt} (h : OwnT w v g L) (o : Obj) : OwnT (w.alloc o) v g L := h.carry (Below.heap_alloc _ _ _ (by obtain ⟨_, _, _, _, _, h, _⟩ := h; exact h))
theorem ViewT.below {w w' : World} {v : Value} {b : Nat} {L : List Lt} (h : ViewT w v b L) (hb : Below w.heap.size w w') : ViewT w' v b L := h.carry fun _ h1 => hb.block _ h1
theorem own_nilT {w : World} {g : Nat} (h : g < w.heap.size) : OwnT w (.slice none 0 0) g [] := ⟨none, 0, rfl, Nat.le_refl _, Nat.zero_le _, h, .inl ⟨rfl, rfl⟩⟩
theorem own_emptyKT {w : World} {k : Nat} (hk : w.heap.size = k) (o : Obj) : OwnT (w.alloc o) (.slice (some ⟨k, 0, none⟩) 0 0) k [] := hk ▸ own_emptyT w o
theorem OwnT.lt {w : World} {v : Value} {g : Nat} {L : List Lt} (h : OwnT w v g L) : g < w.heap.size := by obtain ⟨_, _, _, _, _, h, _⟩ := h; exact h
theorem ViewT.fr {w w' : World} {v : Value} {b : Nat} {F : Nat → Prop} {L : List Lt} (h : ViewT w v b L) (hf : FrS F w w') (hn : L ≠ [] → ¬ F b) : ViewT w' v b L := h.carry fun h1 h2 => hf.block _ h2 (hn h1)
theorem ViewT.lt_of {w : World} {v : Value} {b : Nat} {L : List Lt} (h : ViewT w v b L) (hn : L ≠ []) : b < w.heap.size := by
  obtain ⟨_, _, _, _, _, h⟩ := h
  rcases h with h | ⟨_, _, h, _⟩
  · exact absurd h hn
  · exact h
theorem OwnT.below {w w' : World} {v : Value} {g : Nat} {L : List Lt} (h : OwnT w v g L) (hb : Below w.heap.size w w') : OwnT w' v g L := h.carry (hb.block _ h.lt)
theorem OwnT.fr {w w' : World} {v : Value} {g : Nat} {F : Nat → Prop} {L : List Lt} (h : OwnT w v g L) (hf : FrS F w w') (hn : ¬ F g) : OwnT w' v g L := h.carry (hf.block _ h.lt hn)
theorem view_nilT (w : World) (b : Nat) : ViewT w (.slice none 0 0) b [] := ⟨none, 0, rfl, Nat.le_refl _, Nat.zero_le _, .inl rfl⟩
theorem view_atT {w : World} {v : Value} {b : Nat} {L : List Lt} (h : ViewT w v b L) {ao : Option Addr} {n cap : Nat} (hv : v = .slice ao n cap) : n = L.length ∧ L.length ≤ cap ∧ cap ≤ maxLen ∧ ∀ j (hj : j < L.length), ∃ o, ao = some ⟨b, o, none⟩ ∧ b < w.heap.size ∧ w.cell? ⟨b, o + j * 11, none⟩ = some (.int .i64 L[j].k) ∧ w.cell? ⟨b, o + j * 11 + 1, none⟩ = some (.int .i64 L[j].a) ∧ w.cell? ⟨b, o + j * 11 + 2, none⟩ = some (.int .i64 L[j].b) ∧ w.cell? ⟨b, o + j * 11 + 3, none⟩ = some (.int .i64 L[j].q) ∧ w.cell? ⟨b, o + j * 11 + 4, none⟩ = some (.int .i64 L[j].s) ∧ w.cell? ⟨b, o + j * 11 + 5, none⟩ = some (.int .i64 L[j].w) ∧ w.cell? ⟨b, o + j * 11 + 6, none⟩ = some (.bool L[j].r) ∧ w.cell? ⟨b, o + j * 11 + 7, none⟩ = some (.int .i64 L[j].n) ∧ w.cell? ⟨b, o + j * 11 + 8, none⟩ = some (.bool L[j].o) ∧ w.cell? ⟨b, o + j * 11 + 9, none⟩ = some (.bool L[j].h) ∧ w.cell? ⟨b, o + j * 11 + 10, none⟩ = some (.int .i64 L[j].d) := by
  obtain ⟨ao', cap', rfl, h1, h2, h3⟩ := h
  simp only [Value.slice.injEq] at hv
  obtain ⟨rfl, rfl, rfl⟩ := hv
  refine ⟨rfl, h1, h2, fun j hj => ?_⟩
  rcases h3 with rfl | ⟨o, rfl, h4, h5⟩
  · simp at hj
  · have q : ∀ c, c < 11 → w.cell? ⟨b, o + j * 11 + c, none⟩ = (ltC L[j])[c]? := fun c hc => by rw [Nat.add_assoc, h5 _ (by omega), flatLt_at L j c hj hc]
    exact ⟨o, rfl, h4, q 0 (by omega), q 1 (by omega), q 2 (by omega), q 3 (by omega), q 4 (by omega), q 5 (by omega), q 6 (by omega), q 7 (by omega), q 8 (by omega), q 9 (by omega), q 10 (by omega)⟩
theorem own_atT {w : World} {v : Value} {b : Nat} {L : List Lt} (h : OwnT w v b L) {ao : Option Addr} {n cap : Nat} (hv : v = .slice ao n cap) (j : Nat) (hj : j < L.length) : ∃ o, ao = some ⟨b, o, none⟩ ∧ w.frozen? ⟨b, o + j * 11, none⟩ = false ∧ w.frozen? ⟨b, o + j * 11 + 1, none⟩ = false ∧ w.frozen? ⟨b, o + j * 11 + 2, none⟩ = false ∧ w.frozen? ⟨b, o + j * 11 + 3, none⟩ = false ∧ w.frozen? ⟨b, o + j * 11 + 4, none⟩ = false ∧ w.frozen? ⟨b, o + j * 11 + 5, none⟩ = false ∧ w.frozen? ⟨b, o + j * 11 + 6, none⟩ = false ∧ w.frozen? ⟨b, o + j * 11 + 7, none⟩ = false ∧ w.frozen? ⟨b, o + j * 11 + 8, none⟩ = false ∧ w.frozen? ⟨b, o + j * 11 + 9, none⟩ = false ∧ w.frozen? ⟨b, o + j * 11 + 10, none⟩ = false := by
  obtain ⟨ao', cap', rfl, h1, h2, h3, h4⟩ := h
  simp only [Value.slice.injEq] at hv
  obtain ⟨rfl, rfl, rfl⟩ := hv
  rcases h4 with ⟨rfl, rfl⟩ | ⟨o, rfl, h5, h6⟩
  · omega
  · have q : ∀ c, c < 11 → w.frozen? ⟨b, o + j * 11 + c, none⟩ = false := fun c hc => by rw [Nat.add_assoc]; exact (h6 _ (by omega)).2
    exact ⟨o, rfl, q 0 (by omega), q 1 (by omega), q 2 (by omega), q 3 (by omega), q 4 (by omega), q 5 (by omega), q 6 (by omega), q 7 (by omega), q 8 (by omega), q 9 (by omega), q 10 (by omega)⟩
abbrev setRT (w : World) (g k : Nat) (b : Lt) : World := (((((((((((w.setCell ⟨g, k, none⟩ (.int .i64 b.k)).setCell ⟨g, k + 1, none⟩ (.int .i64 b.a)).setCell ⟨g, k + 2, none⟩ (.int .i64 b.b)).setCell ⟨g, k + 3, none⟩ (.int .i64 b.q)).setCell ⟨g, k + 4, none⟩ (.int .i64 b.s)).setCell ⟨g, k + 5, none⟩ (.int .i64 b.w)).setCell ⟨g, k + 6, none⟩ (.bool b.r)).setCell ⟨g, k + 7, none⟩ (.int .i64 b.n)).setCell ⟨g, k + 8, none⟩ (.bool b.o)).setCell ⟨g, k + 9, none⟩ (.bool b.h)).setCell ⟨g, k + 10, none⟩ (.int .i64 b.d))
theorem setRT_cells (w : World) (g k : Nat) (b : Lt) : setRT w g k b = w.setCells g k (ltC b) := rfl
theorem flatLt_set (L : List Lt) (i : Nat) (b : Lt) (hi : i < L.length) (j : Nat) : (flatLt (L.set i b))[j]? = if i * 11 ≤ j ∧ j < i * 11 + 11 then (ltC b)[j - i * 11]? else (flatLt L)[j]? := by
  have hl : (flatLt (L.set i b)).length = L.length * 11 := by rw [flatLt_length, List.length_set]
  have hl' := flatLt_length L
  by_cases hj : j < L.length * 11
  · have e : j = (j / 11) * 11 + j % 11 := by omega
    have h1 : j / 11 < L.length := by omega
    have h2 : j % 11 < 11 := by omega
    rw [e, flatLt_at _ _ _ (by rw [List.length_set]; exact h1) h2, flatLt_at _ _ _ h1 h2, List.getElem_set]
    by_cases c : i = j / 11
    · rw [if_pos c, if_pos (by omega), show (j / 11) * 11 + j % 11 - i * 11 = j % 11 by omega]
    · rw [if_neg c, if_neg (by omega)]
  · rw [if_neg (by omega), List.getElem?_eq_none (by omega), List.getElem?_eq_none (by omega)]
theorem own_setT {w : World} {v : Value} {g : Nat} {L : List Lt} (h : OwnT w v g L) {o n cap : Nat} (hv : v = .slice (some ⟨g, o, none⟩) n cap) (j : Nat) (hj : j < L.length) (b : Lt) : OwnT (setRT w g (o + j * 11) b) v g (L.set j b) ∧ FrS (· = g) w (setRT w g (o + j * 11) b) := by
  refine ⟨?_, by rw [setRT_cells]; exact setCells_frS g _ _ w⟩
  obtain ⟨ao', cap', rfl, h1, h2, h3, h4⟩ := h
  simp only [Value.slice.injEq] at hv
  obtain ⟨rfl, rfl, rfl⟩ := hv
  rcases h4 with ⟨h4, rfl⟩ | ⟨o', e, h5, h6⟩
  · cases h4
  · obtain rfl : o = o' := by simpa using e
    rw [setRT_cells]
    refine ⟨_, cap', by rw [List.length_set], by rw [List.length_set]; exact h1, h2, Nat.lt_of_lt_of_le h3 (setCells_frS g _ _ w).size, .inr ⟨o, rfl, fun i hi => ?_, fun i hi => ?_⟩⟩
    · rw [List.length_set] at hi
      rw [flatLt_set L j b hj]
      by_cases c : j * 11 ≤ i ∧ i < j * 11 + 11
      · have := World.cell?_setCells_in g (ltC b) (o + j * 11) w (fun i hi => by rw [Nat.add_assoc]; rw [ltC_len] at hi; exact (h6 _ (by omega)).1) (i - j * 11) (by rw [ltC_len]; omega)
        rw [show o + j * 11 + (i - j * 11) = o + i by omega] at this
        rw [if_pos c, this, List.getElem?_eq_getElem]
      · rw [if_neg c, World.cell?_setCells_out _ _ _ _ _ (fun _ _ => by simp only [ltC_len]; omega)]
        exact h5 i hi
    · exact ⟨World.isSome_setCells _ _ _ _ _ (h6 i hi).1, by rw [World.frozen?_setCells]; exact (h6 i hi).2⟩
theorem view_oneT (w : World) (l : Lt) : ViewT (w.alloc (.cells #[.int .i64 l.k, .int .i64 l.a, .int .i64 l.b, .int .i64 l.q, .int .i64 l.s, .int .i64 l.w, .bool l.r, .int .i64 l.n, .bool l.o, .bool l.h, .int .i64 l.d] 37)) (.slice (some ⟨w.heap.size, 0, none⟩) 1 1) w.heap.size [l] :=
  ⟨_, 1, rfl, Nat.le_refl _, by decide, .inr ⟨0, rfl, by simp, fun j hj => by
    rw [Nat.zero_add]
    refine (cell_of_row _ _ _ _ _ _ (heap_alloc_new w _)).trans ?_
    have : j = 0 ∨ j = 1 ∨ j = 2 ∨ j = 3 ∨ j = 4 ∨ j = 5 ∨ j = 6 ∨ j = 7 ∨ j = 8 ∨ j = 9 ∨ j = 10 := by simp at hj; omega
    rcases this with rfl | rfl | rfl | rfl | rfl | rfl | rfl | rfl | rfl | rfl | rfl <;> rfl⟩⟩
structure Dn where
  n : Int
  k : Int
  b : Int
  w : Bool
  v : Int
  u : Int
  s : Int
abbrev dnV (l : Dn) : Value := .agg #[.int .i64 l.n, .int .i64 l.k, .int .i64 l.b, .bool l.w, .int .i64 l.v, .int .i64 l.u, .int .i64 l.s]
abbrev dn0 : Dn := ⟨0, 0, 0, false, 0, 0, 0⟩
def dnC (l : Dn) : List Value := [.int .i64 l.n, .int .i64 l.k, .int .i64 l.b, .bool l.w, .int .i64 l.v, .int .i64 l.u, .int .i64 l.s]
theorem dnC_len (l : Dn) : (dnC l).length = 7 := rfl
def flatDn (L : List Dn) : List Value := L.flatMap dnC
theorem flatDn_nil : flatDn [] = [] := rfl
theorem flatDn_cons (l : Dn) (L : List Dn) : flatDn (l :: L) = dnC l ++ flatDn L := by simp [flatDn]
theorem flatDn_append (L M : List Dn) : flatDn (L ++ M) = flatDn L ++ flatDn M := by simp [flatDn]
theorem flatDn_length (L : List Dn) : (flatDn L).length = L.length * 7 := by
  induction L with
  | nil => rfl
  | cons l L ih => rw [flatDn_cons, List.length_append, ih, dnC_len]; simp; omega
theorem flatDn_at (L : List Dn) (i c : Nat) (hi : i < L.length) (hc : c < 7) : (flatDn L)[i * 7 + c]? = (dnC L[i])[c]? := by
  induction L generalizing i with
  | nil => simp at hi
  | cons l L ih =>
    rw [flatDn_cons]
    cases i with
    | zero => rw [List.getElem?_append_left (by rw [dnC_len]; omega)]; simp
    | succ i =>
      rw [List.getElem?_append_right (by rw [dnC_len]; omega), dnC_len, show (i + 1) * 7 + c - 7 = i * 7 + c by omega]
      exact ih i (by simpa using hi)
theorem flatDn_one (L : List Dn) : ∀ u ∈ flatDn L, u.oneCell' = true := by
  intro u hu
  obtain ⟨l, _, hl⟩ := List.mem_flatMap.1 hu
  simp [dnC] at hl
  rcases hl with rfl | rfl | rfl | rfl | rfl | rfl | rfl <;> rfl
theorem flatDn_take (L : List Dn) (i : Nat) (hi : i ≤ L.length) : flatDn (L.take i) = (flatDn L).take (i * 7) := by
  have h := congrArg flatDn (List.take_append_drop i L)
  rw [flatDn_append] at h
  rw [← h, List.take_left' (by rw [flatDn_length, List.length_take]; omega)]
theorem flatDn_drop (L : List Dn) (i : Nat) (hi : i ≤ L.length) : flatDn (L.drop i) = (flatDn L).drop (i * 7) := by
  have h := congrArg flatDn (List.take_append_drop i L)
  rw [flatDn_append] at h
  rw [← h, List.drop_left' (by rw [flatDn_length, List.length_take]; omega)]
theorem infoD : (Tryz.prog.info? 76).map (fun i => (i.zero, i.size, i.bytes)) = some (some (dnV dn0), 7, 56) := by kernel_rfl
def ViewD (w : World) (v : Value) (b : Nat) (L : List Dn) : Prop :=
  ∃ ao cap, v = .slice ao L.length cap ∧ L.length ≤ cap ∧ cap ≤ maxLen ∧
    (L = [] ∨ ∃ o, ao = some ⟨b, o, none⟩ ∧ b < w.heap.size ∧ ∀ j, j < L.length * 7 → w.cell? ⟨b, o + j, none⟩ = (flatDn L)[j]?)
def OwnD (w : World) (v : Value) (g : Nat) (L : List Dn) : Prop :=
  ∃ ao cap, v = .slice ao L.length cap ∧ L.length ≤ cap ∧ cap ≤ maxLen ∧ g < w.heap.size ∧
    ((ao = none ∧ cap = 0) ∨ ∃ o, ao = some ⟨g, o, none⟩ ∧ (∀ j, j < L.length * 7 → w.cell? ⟨g, o + j, none⟩ = (flatDn L)[j]?) ∧
      ∀ j, j < cap * 7 → (w.cell? ⟨g, o + j, none⟩).isSome = true ∧ w.frozen? ⟨g, o + j, none⟩ = false)
theorem OwnD.view {w : World} {v : Value} {g : Nat} {L : List Dn} (h : OwnD w v g L) : ViewD w v g L := by
  obtain ⟨ao, cap, rfl, h1, h2, h3, h4⟩ := h
  refine ⟨ao, cap, rfl, h1, h2, ?_⟩
  rcases h4 with ⟨_, rfl⟩ | ⟨o, rfl, h5, _⟩
  · left; exact List.eq_nil_of_length_eq_zero (by omega)
  · exact .inr ⟨o, rfl, h3, h5⟩
theorem ViewD.carry {w w' : World} {v : Value} {b : Nat} {L : List Dn} (h : ViewD w v b L) (hb : L ≠ [] → b < w.heap.size → w'.heap[b]? = w.heap[b]?) : ViewD w' v b L := by
  obtain ⟨ao, cap, rfl, h1, h2, h3⟩ := h
  refine ⟨ao, cap, rfl, h1, h2, ?_⟩
  by_cases hn : L = []
  · exact .inl hn
  rcases h3 with h3 | ⟨o, rfl, h4, h5⟩
  · exact .inl h3
  · have e := hb hn h4
    refine .inr ⟨o, rfl, ?_, fun j hj => (World.cell?_of_block (w := w) e).trans (h5 j hj)⟩
    rw [Array.getElem?_eq_getElem h4] at e
    exact (Array.getElem?_eq_some_iff.1 e).1
theorem OwnD.carry {w w' : World} {v : Value} {g : Nat} {L : List Dn} (h : OwnD w v g L) (e : w'.heap[g]? = w.heap[g]?) : OwnD w' v g L := by
  obtain ⟨ao, cap, rfl, h1, h2, h3, h4⟩ := h
  refine ⟨ao, cap, rfl, h1, h2, ?_, ?_⟩
  · rw [Array.getElem?_eq_getElem h3] at e
    exact (Array.getElem?_eq_some_iff.1 e).1
  · rcases h4 with h4 | ⟨o, rfl, h5, h6⟩
    · exact .inl h4
    · exact .inr ⟨o, rfl, fun j hj => (World.cell?_of_block (w := w) e).trans (h5 j hj), fun j hj => ⟨by rw [World.cell?_of_block (w := w) (a := ⟨g, o + j, none⟩) e]; exact (h6 j hj).1, (World.frozen?_of_block (w := w) e).trans (h6 j hj).2⟩⟩
theorem ViewD.src {w : World} {v : Value} {b : Nat} {L : List Dn} (h : ViewD w v b L) : Src Tryz.prog 7 42 v L.length (flatDn L) w := by
  obtain ⟨ao, cap, rfl, h1, h2, h3⟩ := h
  rcases h3 with rfl | ⟨o, rfl, h4, h5⟩
  · cases ao with
    | none => exact Src.ofNil _ Tryz.underlying42 cap
    | some a => exact Src.ofSlice _ Tryz.underlying42 a 0 cap [] rfl (by simp) (by simp)
  · refine Src.ofSlice _ Tryz.underlying42 _ _ cap _ (flatDn_length L) (fun j u hu => ?_) (flatDn_one L)
    rw [Addr.add_lit, h5 j (by rw [← flatDn_length]; exact (List.getElem?_eq_some_iff.1 hu).1)]
    exact hu
theorem run_appD {ty : TypeId} {w : World} {v x : Value} {g b : Nat} {L M : List Dn} (hv : OwnD w v g L) (hx : ViewD w x b M) (hs : L.length + M.length ≤ 1000000) :
    ∃ v' w' g', (Builtin.append_ #[42, 42] ty #[v, x]).run Tryz.prog w = .ok v' w' ∧ OwnD w' v' g' (L ++ M) ∧ AppP w w' v v' g g' := by
  obtain ⟨i0, hi, hz0, hz1, hz2⟩ := info_parts infoD
  have hsrc := hx.src
  obtain ⟨ao, cap, rfl, hle, hmx, hg, hown⟩ := hv
  rw [← hz1] at hsrc
  by_cases room : L.length + M.length ≤ cap
  · rcases hown with ⟨rfl, rfl⟩ | ⟨o, rfl, hc, hsp⟩
    · have e1 : L = [] := List.eq_nil_of_length_eq_zero (by omega)
      have e2 : M = [] := List.eq_nil_of_length_eq_zero (by omega)
      subst e1 e2
      exact ⟨_, _, g, run_append_nothing w _ _ ty _ i0 Tryz.underlying42 hi none 0 0 (Nat.le_refl _) x hsrc, ⟨none, 0, rfl, Nat.le_refl _, Nat.zero_le _, hg, .inl ⟨rfl, rfl⟩⟩, ⟨FrS.refl _ _, fun _ => Below.refl _ _, .inl rfl, fun _ _ => rfl⟩⟩
    · have hr := run_append_room_src (P := Tryz.prog) w 42 42 ty _ i0 Tryz.underlying42 hi g o L.length cap x M.length (flatDn M) hsrc room
        (fun j hj => by rw [hz1, Nat.add_assoc]; rw [flatDn_length] at hj; exact (hsp _ (by omega)).1) (fun j hj => by rw [hz1, Nat.add_assoc]; rw [flatDn_length] at hj; exact (hsp _ (by omega)).2)
      rw [hz1] at hr
      refine ⟨_, _, g, hr, ⟨some ⟨g, o, none⟩, cap, by simp, by simpa using room, hmx, ?_, .inr ⟨o, rfl, fun j hj => ?_, fun j hj => ?_⟩⟩, ⟨setCells_frS g _ _ w, fun h => (by cases h), .inl rfl, fun _ h => (by cases h)⟩⟩
      · exact Nat.lt_of_lt_of_le hg (setCells_frS g _ _ w).size
      · rw [flatDn_append]
        by_cases hj' : j < L.length * 7
        · rw [World.cell?_setCells_out _ _ _ _ _ (fun _ _ => .inl (by simp; omega)), hc j hj', List.getElem?_append_left (by rw [flatDn_length]; exact hj')]
        · rw [List.getElem?_append_right (by rw [flatDn_length]; omega), flatDn_length]
          simp at hj
          have := World.cell?_setCells_in g (flatDn M) (o + L.length * 7) w (fun i hi => by rw [Nat.add_assoc]; rw [flatDn_length] at hi; exact (hsp _ (by omega)).1) (j - L.length * 7) (by rw [flatDn_length]; omega)
          rw [show o + L.length * 7 + (j - L.length * 7) = o + j by omega] at this
          rw [this, List.getElem?_eq_getElem]
      · exact ⟨World.isSome_setCells _ _ _ _ _ (hsp j hj).1, by rw [World.frozen?_setCells]; exact (hsp j hj).2⟩
  · have hold : (Builtin.firstCells i0.size L.length (.slice ao L.length cap)).run Tryz.prog w.drew = .ok (flatDn L).toArray w.drew := by
      rcases hown with ⟨rfl, rfl⟩ | ⟨o, rfl, hc, hsp⟩
      · have e1 : L = [] := List.eq_nil_of_length_eq_zero (by omega)
        subst e1
        exact run_firstCells_none w.drew i0.size 0 0 0
      · refine run_firstCells_some w.drew i0.size L.length ⟨g, o, none⟩ L.length cap (flatDn L) (by rw [hz1, flatDn_length]) (fun j u hu => ?_)
        rw [Addr.add_lit]
        exact (hc j (by rw [← flatDn_length]; exact (List.getElem?_eq_some_iff.1 hu).1)).trans hu
    have hr := run_append_grow_src (P := Tryz.prog) w 42 42 ty _ i0 _ Tryz.underlying42 hi hz0 ao L.length cap (flatDn L) hold x M.length (flatDn M) hsrc (by omega) (by omega) (growslice_fits (by omega) (by rw [hz2]; omega))
    have hge := grownCap_ge w (L.length + M.length) cap 76
    have hcm : grownCap w (L.length + M.length) cap 76 ≤ maxLen := grownCap_le_maxLen w _ cap 76 (by simp only [maxLen]; omega)
    have hnew := heap_alloc_new w.drew (Obj.cells ((flatDn L ++ flatDn M).toArray ++ Builtin.zeroCells (dnV dn0).cells (grownCap w (L.length + M.length) cap 76 - (L.length + M.length))) 76)
    have hcell := fun j => cell_of_row _ w.drew.heap.size j _ _ _ hnew
    have hsz : ((flatDn L ++ flatDn M).toArray ++ Builtin.zeroCells (dnV dn0).cells (grownCap w (L.length + M.length) cap 76 - (L.length + M.length))).size = grownCap w (L.length + M.length) cap 76 * 7 := by
      rw [Array.size_append, size_zeroCells]
      simp [flatDn_length, dnV, Value.cells]
      omega
    refine ⟨_, _, w.heap.size, hr, ⟨some ⟨w.heap.size, 0, none⟩, _, by simp, by simpa using hge, hcm, by simp, .inr ⟨0, rfl, fun j hj => ?_, fun j hj => ?_⟩⟩, ⟨⟨rfl, rfl, rfl, by simp, fun k hk _ => Below.heap_alloc w.drew _ k hk⟩, fun _ => ⟨rfl, rfl, rfl, by simp, fun k hk => Below.heap_alloc w.drew _ k hk⟩, .inr (Nat.le_refl _), fun e => by omega⟩⟩
    · rw [Nat.zero_add]
      refine (hcell j).trans ?_
      rw [Array.getElem?_append_left (by simp [flatDn_length] at hj ⊢; omega), flatDn_append]
      simp
    · rw [Nat.zero_add]
      refine ⟨?_, ?_⟩
      · have := hcell j
        rw [Array.getElem?_eq_getElem (by rw [hsz]; exact hj)] at this
        exact Option.isSome_iff_exists.2 ⟨_, this⟩
      · have h2 := hnew
        simp only [World.frozen?]
        rw [show w.heap.size = w.drew.heap.size from rfl, h2]
        simp
section
variable {w : World} {ops : Array Oper} {o : Oper} {a : Act} {Q : Exit → Act → World → Prop}
theorem wp_appD {K : Act → World → Prop} (s x : Operand) (ho : o.op = .call { callee := .builtin .append, args := #[s, x], argTypes := #[42, 42] })
    {v xv : Value} {g b : Nat} {L M : List Dn} (hs : a.eval s = v) (hx : a.eval x = xv) (hv : OwnD w v g L) (hxv : ViewD w xv b M) (hle : L.length + M.length ≤ 1000000) (n : Nat) (hn : L.length + M.length = n)
    (h : ∀ ao cap w' g', OwnD w' (.slice ao n cap) g' (L ++ M) → AppP w w' v (.slice ao n cap) g g' → K (a.put o.dst (.slice ao n cap)) w') : o.wp Tryz.prog a w K Q := by
  obtain ⟨v', w', g', hr, h2, h3⟩ := run_appD (ty := o.type) hv hxv hle
  obtain ⟨ao, cap, rfl, _⟩ := id h2
  unfold Oper.wp execOp
  simp only [ho, resolve, invoke, builtin, Sem.run_bind, Sem.run_pure, Result.andThen_ok, List.map_toArray, List.map_cons, List.map_nil, hs, hx, hr]
  rw [List.length_append, hn] at h2 h3 ⊢
  exact h ao cap w' g' h2 h3
theorem wpList_appD {rest : List Oper} (hgd : o.guard = none) (s x : Operand) (ho : o.op = .call { callee := .builtin .append, args := #[s, x], argTypes := #[42, 42] })
    {v xv : Value} {g b : Nat} {L M : List Dn} (hs : a.eval s = v) (hx : a.eval x = xv) (hv : OwnD w v g L) (hxv : ViewD w xv b M) (hle : L.length + M.length ≤ 1000000) (n : Nat) (hn : L.length + M.length = n)
    (h : ∀ ao cap w' g', OwnD w' (.slice ao n cap) g' (L ++ M) → AppP w w' v (.slice ao n cap) g g' → wpList Tryz.prog ops Q rest (a.put o.dst (.slice ao n cap)) w') : wpList Tryz.prog ops Q (o :: rest) a w :=
  wpList_plain hgd fun _ hK => wp_appD s x ho hs hx hv hxv hle n hn fun ao cap w' g' h2 h3 => hK _ _ (h ao cap w' g' h2 h3)
theorem step_appD {K : Act → World → Prop} {E : Prop} (hgd : o.guard = none) (s x : Operand) (ho : o.op = .call { callee := .builtin .append, args := #[s, x], argTypes := #[42, 42] })
    {v xv : Value} {g b : Nat} {L M : List Dn} (hs : a.eval s = v) (hx : a.eval x = xv) (hv : OwnD w v g L) (hxv : ViewD w xv b M) (hle : L.length + M.length ≤ 1000000) (n : Nat) (hn : L.length + M.length = n)
    (h : ∀ ao cap w' g', OwnD w' (.slice ao n cap) g' (L ++ M) → AppP w w' v (.slice ao n cap) g g' → K (a.put o.dst (.slice ao n cap)) w') : if Region.wanted o (yielded ops a.tmps) = true then Oper.wp Tryz.prog o a w K Q else E := by
  have hw : Region.wanted o (yielded ops a.tmps) = true := by simp [Region.wanted, hgd]
  rw [if_pos hw]
  exact wp_appD s x ho hs hx hv hxv hle n hn h
end
theorem own_emptyD (w : World) (o : Obj) : OwnD (w.alloc o) (.slice (some ⟨w.heap.size, 0, none⟩) 0 0) w.heap.size [] :=
  ⟨_, 0, rfl, Nat.le_refl _, Nat.zero_le _, by simp, .inr ⟨0, rfl, fun j hj => by simp at hj, fun j hj => by simp at hj⟩⟩
theorem ViewD.alloc {w : World} {v : Value} {b : Nat} {L : List Dn} (h : ViewD w v b L) (o : Obj) : ViewD (w.alloc o) v b L := h.carry fun _ hb => Below.heap_alloc _ _ _ hb
theorem OwnD.alloc {w : World} {v : Value} {g : Nat} {L : List Dn} (h : OwnD w v g L) (o : Obj) : OwnD (w.alloc o) v g L := h.carry (Below.heap_alloc _ _ _ (by obtain ⟨_, _, _, _, _, h, _⟩ := h; exact h))
theorem ViewD.below {w w' : World} {v : Value} {b : Nat} {L : List Dn} (h : ViewD w v b L) (hb : Below w.heap.size w w') : ViewD w' v b L := h.carry fun _ h1 => hb.block _ h1
theorem own_nilD {w : World} {g : Nat} (h : g < w.heap.size) : OwnD w (.slice none 0 0) g [] := ⟨none, 0, rfl, Nat.le_refl _, Nat.zero_le _, h, .inl ⟨rfl, rfl⟩⟩
theorem own_emptyKD {w : World} {k : Nat} (hk : w.heap.size = k) (o : Obj) : OwnD (w.alloc o) (.slice (some ⟨k, 0, none⟩) 0 0) k [] := hk ▸ own_emptyD w o
theorem OwnD.lt {w : World} {v : Value} {g : Nat} {L : List Dn} (h : OwnD w v g L) : g < w.heap.size := by obtain ⟨_, _, _, _, _, h, _⟩ := h; exact h
theorem ViewD.fr {w w' : World} {v : Value} {b : Nat} {F : Nat → Prop} {L : List Dn} (h : ViewD w v b L) (hf : FrS F w w') (hn : L ≠ [] → ¬ F b) : ViewD w' v b L := h.carry fun h1 h2 => hf.block _ h2 (hn h1)
theorem ViewD.lt_of {w : World} {v : Value} {b : Nat} {L : List Dn} (h : ViewD w v b L) (hn : L ≠ []) : b < w.heap.size := by
  obtain ⟨_, _, _, _, _, h⟩ := h
  rcases h with h | ⟨_, _, h, _⟩
  · exact absurd h hn
  · exact h
theorem OwnD.below {w w' : World} {v : Value} {g : Nat} {L : List Dn} (h : OwnD w v g L) (hb : Below w.heap.size w w') : OwnD w' v g L := h.carry (hb.block _ h.lt)
theorem OwnD.fr {w w' : World} {v : Value} {g : Nat} {F : Nat → Prop} {L : List Dn} (h : OwnD w v g L) (hf : FrS F w w') (hn : ¬ F g) : OwnD w' v g L := h.carry (hf.block _ h.lt hn)
theorem view_nilD (w : World) (b : Nat) : ViewD w (.slice none 0 0) b [] := ⟨none, 0, rfl, Nat.le_refl _, Nat.zero_le _, .inl rfl⟩
theorem view_atD {w : World} {v : Value} {b : Nat} {L : List Dn} (h : ViewD w v b L) {ao : Option Addr} {n cap : Nat} (hv : v = .slice ao n cap) : n = L.length ∧ L.length ≤ cap ∧ cap ≤ maxLen ∧ ∀ j (hj : j < L.length), ∃ o, ao = some ⟨b, o, none⟩ ∧ b < w.heap.size ∧ w.cell? ⟨b, o + j * 7, none⟩ = some (.int .i64 L[j].n) ∧ w.cell? ⟨b, o + j * 7 + 1, none⟩ = some (.int .i64 L[j].k) ∧ w.cell? ⟨b, o + j * 7 + 2, none⟩ = some (.int .i64 L[j].b) ∧ w.cell? ⟨b, o + j * 7 + 3, none⟩ = some (.bool L[j].w) ∧ w.cell? ⟨b, o + j * 7 + 4, none⟩ = some (.int .i64 L[j].v) ∧ w.cell? ⟨b, o + j * 7 + 5, none⟩ = some (.int .i64 L[j].u) ∧ w.cell? ⟨b, o + j * 7 + 6, none⟩ = some (.int .i64 L[j].s) := by
  obtain ⟨ao', cap', rfl, h1, h2, h3⟩ := h
  simp only [Value.slice.injEq] at hv
  obtain ⟨rfl, rfl, rfl⟩ := hv
  refine ⟨rfl, h1, h2, fun j hj => ?_⟩
  rcases h3 with rfl | ⟨o, rfl, h4, h5⟩
  · simp at hj
  · have q : ∀ c, c < 7 → w.cell? ⟨b, o + j * 7 + c, none⟩ = (dnC L[j])[c]? := fun c hc => by rw [Nat.add_assoc, h5 _ (by omega), flatDn_at L j c hj hc]
    exact ⟨o, rfl, h4, q 0 (by omega), q 1 (by omega), q 2 (by omega), q 3 (by omega), q 4 (by omega), q 5 (by omega), q 6 (by omega)⟩
theorem own_atD {w : World} {v : Value} {b : Nat} {L : List Dn} (h : OwnD w v b L) {ao : Option Addr} {n cap : Nat} (hv : v = .slice ao n cap) (j : Nat) (hj : j < L.length) : ∃ o, ao = some ⟨b, o, none⟩ ∧ w.frozen? ⟨b, o + j * 7, none⟩ = false ∧ w.frozen? ⟨b, o + j * 7 + 1, none⟩ = false ∧ w.frozen? ⟨b, o + j * 7 + 2, none⟩ = false ∧ w.frozen? ⟨b, o + j * 7 + 3, none⟩ = false ∧ w.frozen? ⟨b, o + j * 7 + 4, none⟩ = false ∧ w.frozen? ⟨b, o + j * 7 + 5, none⟩ = false ∧ w.frozen? ⟨b, o + j * 7 + 6, none⟩ = false := by
  obtain ⟨ao', cap', rfl, h1, h2, h3, h4⟩ := h
  simp only [Value.slice.injEq] at hv
  obtain ⟨rfl, rfl, rfl⟩ := hv
  rcases h4 with ⟨rfl, rfl⟩ | ⟨o, rfl, h5, h6⟩
  · omega
  · have q : ∀ c, c < 7 → w.frozen? ⟨b, o + j * 7 + c, none⟩ = false := fun c hc => by rw [Nat.add_assoc]; exact (h6 _ (by omega)).2
    exact ⟨o, rfl, q 0 (by omega), q 1 (by omega), q 2 (by omega), q 3 (by omega), q 4 (by omega), q 5 (by omega), q 6 (by omega)⟩
abbrev setRD (w : World) (g k : Nat) (b : Dn) : World := (((((((w.setCell ⟨g, k, none⟩ (.int .i64 b.n)).setCell ⟨g, k + 1, none⟩ (.int .i64 b.k)).setCell ⟨g, k + 2, none⟩ (.int .i64 b.b)).setCell ⟨g, k + 3, none⟩ (.bool b.w)).setCell ⟨g, k + 4, none⟩ (.int .i64 b.v)).setCell ⟨g, k + 5, none⟩ (.int .i64 b.u)).setCell ⟨g, k + 6, none⟩ (.int .i64 b.s))
theorem setRD_cells (w : World) (g k : Nat) (b : Dn) : setRD w g k b = w.setCells g k (dnC b) := rfl
theorem flatDn_set (L : List Dn) (i : Nat) (b : Dn) (hi : i < L.length) (j : Nat) : (flatDn (L.set i b))[j]? = if i * 7 ≤ j ∧ j < i * 7 + 7 then (dnC b)[j - i * 7]? else (flatDn L)[j]? := by
  have hl : (flatDn (L.set i b)).length = L.length * 7 := by rw [flatDn_length, List.length_set]
  have hl' := flatDn_length L
  by_cases hj : j < L.length * 7
  · have e : j = (j / 7) * 7 + j % 7 := by omega
    have h1 : j / 7 < L.length := by omega
    have h2 : j % 7 < 7 := by omega
    rw [e, flatDn_at _ _ _ (by rw [List.length_set]; exact h1) h2, flatDn_at _ _ _ h1 h2, List.getElem_set]
    by_cases c : i = j / 7
    · rw [if_pos c, if_pos (by omega), show (j / 7) * 7 + j % 7 - i * 7 = j % 7 by omega]
    · rw [if_neg c, if_neg (by omega)]
  · rw [if_neg (by omega), List.getElem?_eq_none (by omega), List.getElem?_eq_none (by omega)]
theorem own_setD {w : World} {v : Value} {g : Nat} {L : List Dn} (h : OwnD w v g L) {o n cap : Nat} (hv : v = .slice (some ⟨g, o, none⟩) n cap) (j : Nat) (hj : j < L.length) (b : Dn) : OwnD (setRD w g (o + j * 7) b) v g (L.set j b) ∧ FrS (· = g) w (setRD w g (o + j * 7) b) := by
  refine ⟨?_, by rw [setRD_cells]; exact setCells_frS g _ _ w⟩
  obtain ⟨ao', cap', rfl, h1, h2, h3, h4⟩ := h
  simp only [Value.slice.injEq] at hv
  obtain ⟨rfl, rfl, rfl⟩ := hv
  rcases h4 with ⟨h4, rfl⟩ | ⟨o', e, h5, h6⟩
  · cases h4
  · obtain rfl : o = o' := by simpa using e
    rw [setRD_cells]
    refine ⟨_, cap', by rw [List.length_set], by rw [List.length_set]; exact h1, h2, Nat.lt_of_lt_of_le h3 (setCells_frS g _ _ w).size, .inr ⟨o, rfl, fun i hi => ?_, fun i hi => ?_⟩⟩
    · rw [List.length_set] at hi
      rw [flatDn_set L j b hj]
      by_cases c : j * 7 ≤ i ∧ i < j * 7 + 7
      · have := World.cell?_setCells_in g (dnC b) (o + j * 7) w (fun i hi => by rw [Nat.add_assoc]; rw [dnC_len] at hi; exact (h6 _ (by omega)).1) (i - j * 7) (by rw [dnC_len]; omega)
        rw [show o + j * 7 + (i - j * 7) = o + i by omega] at this
        rw [if_pos c, this, List.getElem?_eq_getElem]
      · rw [if_neg c, World.cell?_setCells_out _ _ _ _ _ (fun _ _ => by simp only [dnC_len]; omega)]
        exact h5 i hi
    · exact ⟨World.isSome_setCells _ _ _ _ _ (h6 i hi).1, by rw [World.frozen?_setCells]; exact (h6 i hi).2⟩
theorem view_oneD (w : World) (l : Dn) : ViewD (w.alloc (.cells #[.int .i64 l.n, .int .i64 l.k, .int .i64 l.b, .bool l.w, .int .i64 l.v, .int .i64 l.u, .int .i64 l.s] 76)) (.slice (some ⟨w.heap.size, 0, none⟩) 1 1) w.heap.size [l] :=
  ⟨_, 1, rfl, Nat.le_refl _, by decide, .inr ⟨0, rfl, by simp, fun j hj => by
    rw [Nat.zero_add]
    refine (cell_of_row _ _ _ _ _ _ (heap_alloc_new w _)).trans ?_
    have : j = 0 ∨ j = 1 ∨ j = 2 ∨ j = 3 ∨ j = 4 ∨ j = 5 ∨ j = 6 := by simp at hj; omega
    rcases this with rfl | rfl | rfl | rfl | rfl | rfl | rfl <;> rfl⟩⟩
theorem run_clr {ty : TypeId} {w : World} {g od n c : Nat} (h0 : 0 < n) (hc : ∀ j, j < n → (w.cell? ⟨g, od + j, none⟩).isSome = true ∧ w.frozen? ⟨g, od + j, none⟩ = false) :
    (Builtin.clear_ #[99] ty #[.slice (some ⟨g, od, none⟩) n c]).run Tryz.prog w = .ok (.tuple #[]) (w.setCells g od (Builtin.zeroCells (Value.int .i64 0).cells n).toList) := by
  obtain ⟨i0, hi, hz0, hz1, hz2⟩ := info_parts infoI
  have hsz : (Builtin.zeroCells (Value.int .i64 0).cells n).toList.length = n := by rw [Array.length_toList, size_zeroCells]; simp [Value.cells]
  have h1 : ∀ u ∈ (Builtin.zeroCells (Value.int .i64 0).cells n).toList, u.oneCell' = true := by
    intro u hu
    simp only [Builtin.zeroCells, Value.cells] at hu
    simp at hu
    obtain ⟨i, _, rfl⟩ := hu
    simp [Nat.mod_one, Value.oneCell']
  have hst := run_storeCells_cells (P := Tryz.prog) g od (Builtin.zeroCells (Value.int .i64 0).cells n).toList 0 w (fun j hj => (by rw [hsz] at hj; simpa using (hc j hj).1)) (fun j hj => (by rw [hsz] at hj; simpa using (hc j hj).2)) h1
  simp only [Nat.add_zero] at hst
  obtain ⟨m, rfl⟩ : ∃ m, n = m + 1 := ⟨n - 1, by omega⟩
  simp [Builtin.clear_, run_underlying Tryz.underlying99, zeroValue, typeInfo, hi, hz0, hst]
theorem ints_take (L : List Int) (i : Nat) : ints (L.take i) = (ints L).take i := by simp [ints, List.map_take]
theorem ints_drop (L : List Int) (i : Nat) : ints (L.drop i) = (ints L).drop i := by simp [ints, List.map_drop]
theorem ints_erase (L : List Int) (k j : Nat) (hk : k < L.length) (hj : j < L.length - 1) : (ints (L.eraseIdx k))[j]? = if j < k then (ints L)[j]? else (ints L)[j + 1]? := by
  rw [List.eraseIdx_eq_take_drop_succ, ints_append, ints_take L k, ints_drop L (k + 1)]
  have hl := ints_length L
  by_cases c : j < k
  · rw [if_pos c, List.getElem?_append_left (by rw [List.length_take]; omega), List.getElem?_take, if_pos c]
  · rw [if_neg c, List.getElem?_append_right (by rw [List.length_take]; omega), List.length_take, List.getElem?_drop]
    congr 1
    omega
theorem own_back {w : World} {g o cap k : Nat} {L : List Int} {zs : List Value} (hk : k < L.length) (hle : L.length ≤ cap) (hmx : cap ≤ maxLen) (hg : g < w.heap.size) (hc : ∀ j, j < L.length → w.cell? ⟨g, o + j, none⟩ = (ints L)[j]?)
    (hsp : ∀ j, j < cap → (w.cell? ⟨g, o + j, none⟩).isSome = true ∧ w.frozen? ⟨g, o + j, none⟩ = false) :
    Own ((w.setCells g (o + k) (ints (L.drop (k + 1)))).setCells g (o + (L.length - 1)) zs) (.slice (some ⟨g, o, none⟩) (L.length - 1) cap) g (L.eraseIdx k) := by
  have hlk : (ints (L.drop (k + 1))).length = L.length - (k + 1) := by rw [ints_length, List.length_drop]
  have hel : (L.eraseIdx k).length = L.length - 1 := by rw [List.length_eraseIdx]; simp [hk]
  refine ⟨some ⟨g, o, none⟩, cap, by rw [hel], by omega, by omega, Nat.lt_of_lt_of_le hg (Nat.le_trans (setCells_frS g _ _ w).size (setCells_frS g _ _ _).size), .inr ⟨o, rfl, fun j hj => ?_, fun j hj => ?_⟩⟩
  · rw [hel] at hj
    rw [ints_erase L k j hk hj, World.cell?_setCells_out _ _ _ _ _ (fun _ _ => .inl (by simp; omega))]
    by_cases c : j < k
    · rw [if_pos c, World.cell?_setCells_out _ _ _ _ _ (fun _ _ => .inl (by simp; omega)), hc _ (by omega)]
    · have := World.cell?_setCells_in g (ints (L.drop (k + 1))) (o + k) w (fun i hi => by rw [hlk] at hi; rw [Nat.add_assoc]; exact (hsp _ (by omega)).1) (j - k) (by omega)
      rw [show o + k + (j - k) = o + j by omega] at this
      rw [if_neg c, this, ← List.getElem?_eq_getElem, ints_drop L (k + 1), List.getElem?_drop]
      congr 1
      omega
  · exact ⟨World.isSome_setCells _ _ _ _ _ (World.isSome_setCells _ _ _ _ _ (hsp _ (by omega)).1), by rw [World.frozen?_setCells, World.frozen?_setCells]; exact (hsp _ (by omega)).2⟩
set_option maxHeartbeats 4000000 in
set_option maxRecDepth 100000 in
theorem delete_c (g o cap k j : Nat) (L : List Int) (w : World) (hj : k + 1 = j) (hk : k < L.length) (hle : L.length ≤ cap) (hmx : cap ≤ maxLen) (hl : L.length ≤ 65536) (hg : g < w.heap.size) (hc : ∀ j, j < L.length → w.cell? ⟨g, o + j, none⟩ = (ints L)[j]?)
    (hsp : ∀ j, j < cap → (w.cell? ⟨g, o + j, none⟩).isSome = true ∧ w.frozen? ⟨g, o + j, none⟩ = false) :
    Calls Tryz.prog 165 #[.slice (some ⟨g, o, none⟩) L.length cap, .int .i64 k, .int .i64 j] w fun e w' => e = .returned (.slice (some ⟨g, o, none⟩) (L.length - 1) cap) ∧ Own w' (.slice (some ⟨g, o, none⟩) (L.length - 1) cap) g (L.eraseIdx k) ∧ FrS (· = g) w w' := by
  obtain ⟨i0, hi, hz0, hz1, hz2⟩ := info_parts infoI
  have hOwn := hide (fun zs => own_back (w := w.drew) (zs := zs) hk hle hmx hg hc hsp)
  obtain ⟨n, hn⟩ : ∃ n, L.length = n := ⟨_, rfl⟩
  rw [hn] at hk hle hl hc hOwn ⊢
  obtain ⟨news, hnews⟩ : ∃ news, news = ints (L.drop (k + 1)) := ⟨_, rfl⟩
  have hlen : news.length = n - j := by rw [hnews, ints_length, List.length_drop]; omega
  obtain ⟨A, hA, hsrc⟩ : ∃ A : Addr, (if cap = j then some (⟨g, o, none⟩ : Addr) else some ⟨g, o + j, none⟩) = some A ∧ Hid (∀ t u, news[t]? = some u → w.drew.cell? (A.add t) = some u) := by
    by_cases h : cap = j
    · refine ⟨⟨g, o, none⟩, by simp [h], fun t u hu => ?_⟩
      have h0 : news.length = 0 := by rw [hlen]; omega
      rw [List.length_eq_zero_iff.1 h0] at hu
      simp at hu
    · refine ⟨⟨g, o + j, none⟩, by simp [h], fun t u hu => ?_⟩
      have ht := (List.getElem?_eq_some_iff.1 hu).1
      rw [hlen] at ht
      rw [hnews, ints_drop L (k + 1), List.getElem?_drop] at hu
      rw [Addr.add_lit, Nat.add_assoc]
      refine (hc _ (by omega)).trans ?_
      rw [← hj]
      exact hu
  have s1 : Hid (news.length = (n - j) * 1) := hide (by rw [hlen, Nat.mul_one])
  have s2 : Hid (∀ u ∈ news, u.oneCell' = true) := by rw [hnews]; exact ints_one _
  have s3 : Hid (∀ t, t < news.length → (w.drew.cell? ⟨g, o + k * 1 + t, none⟩).isSome = true ∧ w.drew.frozen? ⟨g, o + k * 1 + t, none⟩ = false) := by
    intro t ht
    rw [hlen] at ht
    rw [Nat.mul_one, Nat.add_assoc]
    exact hsp _ (by omega)
  obtain ⟨W1, hW1⟩ : ∃ W1, W1 = w.drew.setCells g (o + k) news := ⟨_, rfl⟩
  have hcl : ∀ ty, (Builtin.clear_ #[99] ty #[.slice (some ⟨g, o + (k + (n - j)), none⟩) (n - (k + (n - j))) (cap - (k + (n - j)))]).run Tryz.prog W1 = .ok (.tuple #[]) (W1.setCells g (o + (k + (n - j))) (Builtin.zeroCells (Value.int .i64 0).cells (n - (k + (n - j)))).toList) := fun ty => run_clr (by omega) fun t ht => by
    rw [hW1, Nat.add_assoc]
    have := hsp ((k + (n - j)) + t) (by omega)
    exact ⟨World.isSome_setCells _ _ _ _ _ this.1, by rw [World.frozen?_setCells]; exact this.2⟩
  have hW : Hid (W1 = w.drew.setCells g (o + k * 1) news) := by rw [Nat.mul_one]; exact hW1
  have hX : Hid (news = ints (L.drop (k + 1))) := hnews
  have hkj : k < j := by omega
  have hjn : j ≤ n := by omega
  have hic : k ≤ cap := by omega
  have hjc : j ≤ cap := by omega
  have hJ := hide hj
  have hK := hide hk
  have hmx' : cap ≤ 9223372036854775807 := by unfold maxLen at hmx; omega
  clear hW1 hc hsp hnews hlen hn hj hmx
  go_enter Tryz.func165, Tryz.ntmps165
  go_wp2_with fail
  go_region_law (refine step_append_room rfl (.tmp 22) (.tmp 25) 99 rfl 3 i0 1 Tryz.underlying99 hi hz1 g o k cap (by simp [Act.eval, Act.put]) A (n - j) (cap - j) news (by simp [Act.eval, Act.put]) s1.out hsrc.out s2.out (by omega) s3.out ?_; rw [← hW.out])
  go_wp2
  go_ret
  have hJ' := unhide hJ
  have hK' := unhide hK
  have e1 : k + (n - j) = n - 1 := by omega
  have e2 : n - (k + (n - j)) = 1 := by omega
  have hW' := hW.out
  rw [Nat.mul_one] at hW'
  rw [e2, e1, hW', hX.out]
  exact ⟨rfl, unhide hOwn _, (FrS.of_below ((Below.refl _ _).drew)).trans ((setCells_frS g _ _ _).trans (setCells_frS g _ _ _) (fun _ h => .inl h)) (fun _ h => .inl h)⟩
end Go.Proofs.YtoenjdnccgmhoaaGreatDoor
