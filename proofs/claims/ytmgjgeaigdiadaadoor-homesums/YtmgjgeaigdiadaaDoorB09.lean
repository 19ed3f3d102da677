/- layer 16: LtRow CfMath BnRow LinA, put together. -/
import Derived.Test.YtmgjgeaigdiadaaDoorRows
import Derived.Test.YtmgjgeaigdiadaaDoorB04
import Derived.Deep.AppendSrc
import Derived.Deep.Upon
import Derived.Deep.RegionLaw
import Derived.Deep.MidRow
import Derived.Deep.RegionHeld3
import Derived.Lib.SliceRun
import Derived.Test.YtmgjgeaigdiadaaDoorB02
import Derived.Test.YtmgjgeaigdiadaaDoorB08
namespace Go.Proofs.YtmgjgeaigdiadaaDoor
open Go.ChangeShapes Go.WideShapes Go.ChangeAt Go.RowKit
set_option linter.unusedSimpArgs false
set_option linter.unusedVariables false
set_option maxRecDepth 10000
attribute [local go_sem, local simp] over_const setCell_drewN alloc_drewN Over.cell Over.frozen lt_s1 lt_s2 lt_s3 le_s0 le_s1 le_s2 le_s3 eq_s0 eq_s1 eq_s2 qe_s0
structure Lt where
  k : Int
  a : Int
  b : Int
  q : Int
  s : Int
  w : Int
  r : Bool
  n : Int
  o : Bool
  h : Bool
  d : Int
abbrev ltV (l : Lt) : Value := .agg #[.int .i64 l.k, .int .i64 l.a, .int .i64 l.b, .int .i64 l.q, .int .i64 l.s, .int .i64 l.w, .bool l.r, .int .i64 l.n, .bool l.o, .bool l.h, .int .i64 l.d]
abbrev lt0 : Lt := ⟨0, 0, 0, 0, 0, 0, false, 0, false, false, 0⟩
def ltC (l : Lt) : List Value := [.int .i64 l.k, .int .i64 l.a, .int .i64 l.b, .int .i64 l.q, .int .i64 l.s, .int .i64 l.w, .bool l.r, .int .i64 l.n, .bool l.o, .bool l.h, .int .i64 l.d]
theorem ltC_len (l : Lt) : (ltC l).length = 11 := rfl
def flatLt (L : List Lt) : List Value := L.flatMap ltC
theorem flatLt_nil : flatLt [] = [] := rfl
theorem flatLt_cons (l : Lt) (L : List Lt) : flatLt (l :: L) = ltC l ++ flatLt L := by simp [flatLt]
theorem flatLt_append (L M : List Lt) : flatLt (L ++ M) = flatLt L ++ flatLt M := by simp [flatLt]
theorem flatLt_length (L : List Lt) : (flatLt L).length = L.length * 11 := by
  induction L with
  | nil => rfl
  | cons l L ih => rw [flatLt_cons, List.length_append, ih, ltC_len]; simp; omega
theorem flatLt_at (L : List Lt) (i c : Nat) (hi : i < L.length) (hc : c < 11) : (flatLt L)[i * 11 + c]? = (ltC L[i])[c]? := by
  induction L generalizing i with
  | nil => simp at hi
  | cons l L ih =>
    rw [flatLt_cons]
    cases i with
    | zero => rw [List.getElem?_append_left (by rw [ltC_len]; omega)]; simp
    | succ i =>
      rw [List.getElem?_append_right (by rw [ltC_len]; omega), ltC_len, show (i + 1) * 11 + c - 11 = i * 11 + c by omega]
      exact ih i (by simpa using hi)
theorem flatLt_one (L : List Lt) : ∀ u ∈ flatLt L, u.oneCell' = true := by
  intro u hu
  obtain ⟨l, _, hl⟩ := List.mem_flatMap.1 hu
  simp [ltC] at hl
  rcases hl with rfl | rfl | rfl | rfl | rfl | rfl | rfl | rfl | rfl | rfl | rfl <;> rfl
theorem flatLt_take (L : List Lt) (i : Nat) (hi : i ≤ L.length) : flatLt (L.take i) = (flatLt L).take (i * 11) := by
  have h := congrArg flatLt (List.take_append_drop i L)
  rw [flatLt_append] at h
  rw [← h, List.take_left' (by rw [flatLt_length, List.length_take]; omega)]
theorem flatLt_drop (L : List Lt) (i : Nat) (hi : i ≤ L.length) : flatLt (L.drop i) = (flatLt L).drop (i * 11) := by
  have h := congrArg flatLt (List.take_append_drop i L)
  rw [flatLt_append] at h
  rw [← h, List.drop_left' (by rw [flatLt_length, List.length_take]; omega)]
theorem infoT : (Tryd.prog.info? 34).map (fun i => (i.zero, i.size, i.bytes)) = some (some (ltV lt0), 11, 80) := by kernel_rfl
def ViewT (w : World) (v : Value) (b : Nat) (L : List Lt) : Prop :=
  ∃ ao cap, v = .slice ao L.length cap ∧ L.length ≤ cap ∧ cap ≤ maxLen ∧
    (L = [] ∨ ∃ o, ao = some ⟨b, o, none⟩ ∧ b < w.heap.size ∧ ∀ j, j < L.length * 11 → w.cell? ⟨b, o + j, none⟩ = (flatLt L)[j]?)
def OwnT (w : World) (v : Value) (g : Nat) (L : List Lt) : Prop :=
  ∃ ao cap, v = .slice ao L.length cap ∧ L.length ≤ cap ∧ cap ≤ maxLen ∧ g < w.heap.size ∧
    ((ao = none ∧ cap = 0) ∨ ∃ o, ao = some ⟨g, o, none⟩ ∧ (∀ j, j < L.length * 11 → w.cell? ⟨g, o + j, none⟩ = (flatLt L)[j]?) ∧
      ∀ j, j < cap * 11 → (w.cell? ⟨g, o + j, none⟩).isSome = true ∧ w.frozen? ⟨g, o + j, none⟩ = false)
theorem OwnT.view {w : World} {v : Value} {g : Nat} {L : List Lt} (h : OwnT w v g L) : ViewT w v g L := by
  obtain ⟨ao, cap, rfl, h1, h2, h3, h4⟩ := h
  refine ⟨ao, cap, rfl, h1, h2, ?_⟩
  rcases h4 with ⟨_, rfl⟩ | ⟨o, rfl, h5, _⟩
  · left; exact List.eq_nil_of_length_eq_zero (by omega)
  · exact .inr ⟨o, rfl, h3, h5⟩
theorem ViewT.carry {w w' : World} {v : Value} {b : Nat} {L : List Lt} (h : ViewT w v b L) (hb : L ≠ [] → b < w.heap.size → w'.heap[b]? = w.heap[b]?) : ViewT w' v b L := by
  obtain ⟨ao, cap, rfl, h1, h2, h3⟩ := h
  refine ⟨ao, cap, rfl, h1, h2, ?_⟩
  by_cases hn : L = []
  · exact .inl hn
  rcases h3 with h3 | ⟨o, rfl, h4, h5⟩
  · exact .inl h3
  · have e := hb hn h4
    refine .inr ⟨o, rfl, ?_, fun j hj => (World.cell?_of_block (w := w) e).trans (h5 j hj)⟩
    rw [Array.getElem?_eq_getElem h4] at e
    exact (Array.getElem?_eq_some_iff.1 e).1
theorem OwnT.carry {w w' : World} {v : Value} {g : Nat} {L : List Lt} (h : OwnT w v g L) (e : w'.heap[g]? = w.heap[g]?) : OwnT w' v g L := by
  obtain ⟨ao, cap, rfl, h1, h2, h3, h4⟩ := h
  refine ⟨ao, cap, rfl, h1, h2, ?_, ?_⟩
  · rw [Array.getElem?_eq_getElem h3] at e
    exact (Array.getElem?_eq_some_iff.1 e).1
  · rcases h4 with h4 | ⟨o, rfl, h5, h6⟩
    · exact .inl h4
    · exact .inr ⟨o, rfl, fun j hj => (World.cell?_of_block (w := w) e).trans (h5 j hj), fun j hj => ⟨by rw [World.cell?_of_block (w := w) (a := ⟨g, o + j, none⟩) e]; exact (h6 j hj).1, (World.frozen?_of_block (w := w) e).trans (h6 j hj).2⟩⟩
theorem ViewT.src {w : World} {v : Value} {b : Nat} {L : List Lt} (h : ViewT w v b L) : Src Tryd.prog 11 39 v L.length (flatLt L) w := by
  obtain ⟨ao, cap, rfl, h1, h2, h3⟩ := h
  rcases h3 with rfl | ⟨o, rfl, h4, h5⟩
  · cases ao with
    | none => exact Src.ofNil _ Tryd.underlying39 cap
    | some a => exact Src.ofSlice _ Tryd.underlying39 a 0 cap [] rfl (by simp) (by simp)
  · refine Src.ofSlice _ Tryd.underlying39 _ _ cap _ (flatLt_length L) (fun j u hu => ?_) (flatLt_one L)
    rw [Addr.add_lit, h5 j (by rw [← flatLt_length]; exact (List.getElem?_eq_some_iff.1 hu).1)]
    exact hu
theorem run_appT {ty : TypeId} {w : World} {v x : Value} {g b : Nat} {L M : List Lt} (hv : OwnT w v g L) (hx : ViewT w x b M) (hs : L.length + M.length ≤ 1000000) :
    ∃ v' w' g', (Builtin.append_ #[39, 39] ty #[v, x]).run Tryd.prog w = .ok v' w' ∧ OwnT w' v' g' (L ++ M) ∧ AppP w w' v v' g g' := by
  obtain ⟨i0, hi, hz0, hz1, hz2⟩ := info_parts infoT
  have hsrc := hx.src
  obtain ⟨ao, cap, rfl, hle, hmx, hg, hown⟩ := hv
  rw [← hz1] at hsrc
  by_cases room : L.length + M.length ≤ cap
  · rcases hown with ⟨rfl, rfl⟩ | ⟨o, rfl, hc, hsp⟩
    · have e1 : L = [] := List.eq_nil_of_length_eq_zero (by omega)
      have e2 : M = [] := List.eq_nil_of_length_eq_zero (by omega)
      subst e1 e2
      exact ⟨_, _, g, run_append_nothing w _ _ ty _ i0 Tryd.underlying39 hi none 0 0 (Nat.le_refl _) x hsrc, ⟨none, 0, rfl, Nat.le_refl _, Nat.zero_le _, hg, .inl ⟨rfl, rfl⟩⟩, ⟨FrS.refl _ _, fun _ => Below.refl _ _, .inl rfl, fun _ _ => rfl⟩⟩
    · have hr := run_append_room_src (P := Tryd.prog) w 39 39 ty _ i0 Tryd.underlying39 hi g o L.length cap x M.length (flatLt M) hsrc room
        (fun j hj => by rw [hz1, Nat.add_assoc]; rw [flatLt_length] at hj; exact (hsp _ (by omega)).1) (fun j hj => by rw [hz1, Nat.add_assoc]; rw [flatLt_length] at hj; exact (hsp _ (by omega)).2)
      rw [hz1] at hr
      refine ⟨_, _, g, hr, ⟨some ⟨g, o, none⟩, cap, by simp, by simpa using room, hmx, ?_, .inr ⟨o, rfl, fun j hj => ?_, fun j hj => ?_⟩⟩, ⟨setCells_frS g _ _ w, fun h => (by cases h), .inl rfl, fun _ h => (by cases h)⟩⟩
      · exact Nat.lt_of_lt_of_le hg (setCells_frS g _ _ w).size
      · rw [flatLt_append]
        by_cases hj' : j < L.length * 11
        · rw [World.cell?_setCells_out _ _ _ _ _ (fun _ _ => .inl (by simp; omega)), hc j hj', List.getElem?_append_left (by rw [flatLt_length]; exact hj')]
        · rw [List.getElem?_append_right (by rw [flatLt_length]; omega), flatLt_length]
          simp at hj
          have := World.cell?_setCells_in g (flatLt M) (o + L.length * 11) w (fun i hi => by rw [Nat.add_assoc]; rw [flatLt_length] at hi; exact (hsp _ (by omega)).1) (j - L.length * 11) (by rw [flatLt_length]; omega)
          rw [show o + L.length * 11 + (j - L.length * 11) = o + j by omega] at this
          rw [this, List.getElem?_eq_getElem]
      · exact ⟨World.isSome_setCells _ _ _ _ _ (hsp j hj).1, by rw [World.frozen?_setCells]; exact (hsp j hj).2⟩
  · have hold : (Builtin.firstCells i0.size L.length (.slice ao L.length cap)).run Tryd.prog w.drew = .ok (flatLt L).toArray w.drew := by
      rcases hown with ⟨rfl, rfl⟩ | ⟨o, rfl, hc, hsp⟩
      · have e1 : L = [] := List.eq_nil_of_length_eq_zero (by omega)
        subst e1
        exact run_firstCells_none w.drew i0.size 0 0 0
      · refine run_firstCells_some w.drew i0.size L.length ⟨g, o, none⟩ L.length cap (flatLt L) (by rw [hz1, flatLt_length]) (fun j u hu => ?_)
        rw [Addr.add_lit]
        exact (hc j (by rw [← flatLt_length]; exact (List.getElem?_eq_some_iff.1 hu).1)).trans hu
    have hr := run_append_grow_src (P := Tryd.prog) w 39 39 ty _ i0 _ Tryd.underlying39 hi hz0 ao L.length cap (flatLt L) hold x M.length (flatLt M) hsrc (by omega) (by omega) (growslice_fits (by omega) (by rw [hz2]; omega))
    have hge := grownCap_ge w (L.length + M.length) cap 34
    have hcm : grownCap w (L.length + M.length) cap 34 ≤ maxLen := grownCap_le_maxLen w _ cap 34 (by simp only [maxLen]; omega)
    have hnew := heap_alloc_new w.drew (Obj.cells ((flatLt L ++ flatLt M).toArray ++ Builtin.zeroCells (ltV lt0).cells (grownCap w (L.length + M.length) cap 34 - (L.length + M.length))) 34)
    have hcell := fun j => cell_of_row _ w.drew.heap.size j _ _ _ hnew
    have hsz : ((flatLt L ++ flatLt M).toArray ++ Builtin.zeroCells (ltV lt0).cells (grownCap w (L.length + M.length) cap 34 - (L.length + M.length))).size = grownCap w (L.length + M.length) cap 34 * 11 := by
      rw [Array.size_append, size_zeroCells]
      simp [flatLt_length, ltV, Value.cells]
      omega
    refine ⟨_, _, w.heap.size, hr, ⟨some ⟨w.heap.size, 0, none⟩, _, by simp, by simpa using hge, hcm, by simp, .inr ⟨0, rfl, fun j hj => ?_, fun j hj => ?_⟩⟩, ⟨⟨rfl, rfl, rfl, by simp, fun k hk _ => Below.heap_alloc w.drew _ k hk⟩, fun _ => ⟨rfl, rfl, rfl, by simp, fun k hk => Below.heap_alloc w.drew _ k hk⟩, .inr (Nat.le_refl _), fun e => by omega⟩⟩
    · rw [Nat.zero_add]
      refine (hcell j).trans ?_
      rw [Array.getElem?_append_left (by simp [flatLt_length] at hj ⊢; omega), flatLt_append]
      simp
    · rw [Nat.zero_add]
      refine ⟨?_, ?_⟩
      · have := hcell j
        rw [Array.getElem?_eq_getElem (by rw [hsz]; exact hj)] at this
        exact Option.isSome_iff_exists.2 ⟨_, this⟩
      · have h2 := hnew
        simp only [World.frozen?]
        rw [show w.heap.size = w.drew.heap.size from rfl, h2]
        simp
section
variable {w : World} {ops : Array Oper} {o : Oper} {a : Act} {Q : Exit → Act → World → Prop}
theorem wp_appT {K : Act → World → Prop} (s x : Operand) (ho : o.op = .call { callee := .builtin .append, args := #[s, x], argTypes := #[39, 39] })
    {v xv : Value} {g b : Nat} {L M : List Lt} (hs : a.eval s = v) (hx : a.eval x = xv) (hv : OwnT w v g L) (hxv : ViewT w xv b M) (hle : L.length + M.length ≤ 1000000) (n : Nat) (hn : L.length + M.length = n)
    (h : ∀ ao cap w' g', OwnT w' (.slice ao n cap) g' (L ++ M) → AppP w w' v (.slice ao n cap) g g' → K (a.put o.dst (.slice ao n cap)) w') : o.wp Tryd.prog a w K Q := by
  obtain ⟨v', w', g', hr, h2, h3⟩ := run_appT (ty := o.type) hv hxv hle
  obtain ⟨ao, cap, rfl, _⟩ := id h2
  unfold Oper.wp execOp
  simp only [ho, resolve, invoke, builtin, Sem.run_bind, Sem.run_pure, Result.andThen_ok, List.map_toArray, List.map_cons, List.map_nil, hs, hx, hr]
  rw [List.length_append, hn] at h2 h3 ⊢
  exact h ao cap w' g' h2 h3
theorem wpList_appT {rest : List Oper} (hgd : o.guard = none) (s x : Operand) (ho : o.op = .call { callee := .builtin .append, args := #[s, x], argTypes := #[39, 39] })
    {v xv : Value} {g b : Nat} {L M : List Lt} (hs : a.eval s = v) (hx : a.eval x = xv) (hv : OwnT w v g L) (hxv : ViewT w xv b M) (hle : L.length + M.length ≤ 1000000) (n : Nat) (hn : L.length + M.length = n)
    (h : ∀ ao cap w' g', OwnT w' (.slice ao n cap) g' (L ++ M) → AppP w w' v (.slice ao n cap) g g' → wpList Tryd.prog ops Q rest (a.put o.dst (.slice ao n cap)) w') : wpList Tryd.prog ops Q (o :: rest) a w :=
  wpList_plain hgd fun _ hK => wp_appT s x ho hs hx hv hxv hle n hn fun ao cap w' g' h2 h3 => hK _ _ (h ao cap w' g' h2 h3)
theorem step_appT {K : Act → World → Prop} {E : Prop} (hgd : o.guard = none) (s x : Operand) (ho : o.op = .call { callee := .builtin .append, args := #[s, x], argTypes := #[39, 39] })
    {v xv : Value} {g b : Nat} {L M : List Lt} (hs : a.eval s = v) (hx : a.eval x = xv) (hv : OwnT w v g L) (hxv : ViewT w xv b M) (hle : L.length + M.length ≤ 1000000) (n : Nat) (hn : L.length + M.length = n)
    (h : ∀ ao cap w' g', OwnT w' (.slice ao n cap) g' (L ++ M) → AppP w w' v (.slice ao n cap) g g' → K (a.put o.dst (.slice ao n cap)) w') : if Region.wanted o (yielded ops a.tmps) = true then Oper.wp Tryd.prog o a w K Q else E := by
  have hw : Region.wanted o (yielded ops a.tmps) = true := by simp [Region.wanted, hgd]
  rw [if_pos hw]
  exact wp_appT s x ho hs hx hv hxv hle n hn h
end
theorem own_emptyT (w : World) (o : Obj) : OwnT (w.alloc o) (.slice (some ⟨w.heap.size, 0, none⟩) 0 0) w.heap.size [] :=
  ⟨_, 0, rfl, Nat.le_refl _, Nat.zero_le _, by simp, .inr ⟨0, rfl, fun j hj => by simp at hj, fun j hj => by simp at hj⟩⟩
theorem ViewT.alloc {w : World} {v : Value} {b : Nat} {L : List Lt} (h : ViewT w v b L) (o : Obj) : ViewT (w.alloc o) v b L := h.carry fun _ hb => Below.heap_alloc _ _ _ hb
theorem OwnT.alloc {w : World} {v : Value} {g : Nat} {L : List Lt} (h : OwnT w v g L) (o : Obj) : OwnT (w.alloc o) v g L := h.carry (Below.heap_alloc _ _ _ (by obtain ⟨_, _, _, _, _, h, _⟩ := h; exact h))
theorem ViewT.below {w w' : World} {v : Value} {b : Nat} {L : List Lt} (h : ViewT w v b L) (hb : Below w.heap.size w w') : ViewT w' v b L := h.carry fun _ h1 => hb.block _ h1
theorem own_nilT {w : World} {g : Nat} (h : g < w.heap.size) : OwnT w (.slice none 0 0) g [] := ⟨none, 0, rfl, Nat.le_refl _, Nat.zero_le _, h, .inl ⟨rfl, rfl⟩⟩
theorem own_emptyKT {w : World} {k : Nat} (hk : w.heap.size = k) (o : Obj) : OwnT (w.alloc o) (.slice (some ⟨k, 0, none⟩) 0 0) k [] := hk ▸ own_emptyT w o
theorem OwnT.lt {w : World} {v : Value} {g : Nat} {L : List Lt} (h : OwnT w v g L) : g < w.heap.size := by obtain ⟨_, _, _, _, _, h, _⟩ := h; exact h
theorem ViewT.fr {w w' : World} {v : Value} {b : Nat} {F : Nat → Prop} {L : List Lt} (h : ViewT w v b L) (hf : FrS F w w') (hn : L ≠ [] → ¬ F b) : ViewT w' v b L := h.carry fun h1 h2 => hf.block _ h2 (hn h1)
theorem ViewT.lt_of {w : World} {v : Value} {b : Nat} {L : List Lt} (h : ViewT w v b L) (hn : L ≠ []) : b < w.heap.size := by
  obtain ⟨_, _, _, _, _, h⟩ := h
  rcases h with h | ⟨_, _, h, _⟩
  · exact absurd h hn
  · exact h
theorem OwnT.below {w w' : World} {v : Value} {g : Nat} {L : List Lt} (h : OwnT w v g L) (hb : Below w.heap.size w w') : OwnT w' v g L := h.carry (hb.block _ h.lt)
theorem OwnT.fr {w w' : World} {v : Value} {g : Nat} {F : Nat → Prop} {L : List Lt} (h : OwnT w v g L) (hf : FrS F w w') (hn : ¬ F g) : OwnT w' v g L := h.carry (hf.block _ h.lt hn)
theorem view_nilT (w : World) (b : Nat) : ViewT w (.slice none 0 0) b [] := ⟨none, 0, rfl, Nat.le_refl _, Nat.zero_le _, .inl rfl⟩
theorem view_atT {w : World} {v : Value} {b : Nat} {L : List Lt} (h : ViewT w v b L) {ao : Option Addr} {n cap : Nat} (hv : v = .slice ao n cap) : n = L.length ∧ L.length ≤ cap ∧ cap ≤ maxLen ∧ ∀ j (hj : j < L.length), ∃ o, ao = some ⟨b, o, none⟩ ∧ b < w.heap.size ∧ w.cell? ⟨b, o + j * 11, none⟩ = some (.int .i64 L[j].k) ∧ w.cell? ⟨b, o + j * 11 + 1, none⟩ = some (.int .i64 L[j].a) ∧ w.cell? ⟨b, o + j * 11 + 2, none⟩ = some (.int .i64 L[j].b) ∧ w.cell? ⟨b, o + j * 11 + 3, none⟩ = some (.int .i64 L[j].q) ∧ w.cell? ⟨b, o + j * 11 + 4, none⟩ = some (.int .i64 L[j].s) ∧ w.cell? ⟨b, o + j * 11 + 5, none⟩ = some (.int .i64 L[j].w) ∧ w.cell? ⟨b, o + j * 11 + 6, none⟩ = some (.bool L[j].r) ∧ w.cell? ⟨b, o + j * 11 + 7, none⟩ = some (.int .i64 L[j].n) ∧ w.cell? ⟨b, o + j * 11 + 8, none⟩ = some (.bool L[j].o) ∧ w.cell? ⟨b, o + j * 11 + 9, none⟩ = some (.bool L[j].h) ∧ w.cell? ⟨b, o + j * 11 + 10, none⟩ = some (.int .i64 L[j].d) := by
  obtain ⟨ao', cap', rfl, h1, h2, h3⟩ := h
  simp only [Value.slice.injEq] at hv
  obtain ⟨rfl, rfl, rfl⟩ := hv
  refine ⟨rfl, h1, h2, fun j hj => ?_⟩
  rcases h3 with rfl | ⟨o, rfl, h4, h5⟩
  · simp at hj
  · have q : ∀ c, c < 11 → w.cell? ⟨b, o + j * 11 + c, none⟩ = (ltC L[j])[c]? := fun c hc => by rw [Nat.add_assoc, h5 _ (by omega), flatLt_at L j c hj hc]
    exact ⟨o, rfl, h4, q 0 (by omega), q 1 (by omega), q 2 (by omega), q 3 (by omega), q 4 (by omega), q 5 (by omega), q 6 (by omega), q 7 (by omega), q 8 (by omega), q 9 (by omega), q 10 (by omega)⟩
theorem own_atT {w : World} {v : Value} {b : Nat} {L : List Lt} (h : OwnT w v b L) {ao : Option Addr} {n cap : Nat} (hv : v = .slice ao n cap) (j : Nat) (hj : j < L.length) : ∃ o, ao = some ⟨b, o, none⟩ ∧ w.frozen? ⟨b, o + j * 11, none⟩ = false ∧ w.frozen? ⟨b, o + j * 11 + 1, none⟩ = false ∧ w.frozen? ⟨b, o + j * 11 + 2, none⟩ = false ∧ w.frozen? ⟨b, o + j * 11 + 3, none⟩ = false ∧ w.frozen? ⟨b, o + j * 11 + 4, none⟩ = false ∧ w.frozen? ⟨b, o + j * 11 + 5, none⟩ = false ∧ w.frozen? ⟨b, o + j * 11 + 6, none⟩ = false ∧ w.frozen? ⟨b, o + j * 11 + 7, none⟩ = false ∧ w.frozen? ⟨b, o + j * 11 + 8, none⟩ = false ∧ w.frozen? ⟨b, o + j * 11 + 9, none⟩ = false ∧ w.frozen? ⟨b, o + j * 11 + 10, none⟩ = false := by
  obtain ⟨ao', cap', rfl, h1, h2, h3, h4⟩ := h
  simp only [Value.slice.injEq] at hv
  obtain ⟨rfl, rfl, rfl⟩ := hv
  rcases h4 with ⟨rfl, rfl⟩ | ⟨o, rfl, h5, h6⟩
  · omega
  · have q : ∀ c, c < 11 → w.frozen? ⟨b, o + j * 11 + c, none⟩ = false := fun c hc => by rw [Nat.add_assoc]; exact (h6 _ (by omega)).2
    exact ⟨o, rfl, q 0 (by omega), q 1 (by omega), q 2 (by omega), q 3 (by omega), q 4 (by omega), q 5 (by omega), q 6 (by omega), q 7 (by omega), q 8 (by omega), q 9 (by omega), q 10 (by omega)⟩
abbrev setRT (w : World) (g k : Nat) (b : Lt) : World := (((((((((((w.setCell ⟨g, k, none⟩ (.int .i64 b.k)).setCell ⟨g, k + 1, none⟩ (.int .i64 b.a)).setCell ⟨g, k + 2, none⟩ (.int .i64 b.b)).setCell ⟨g, k + 3, none⟩ (.int .i64 b.q)).setCell ⟨g, k + 4, none⟩ (.int .i64 b.s)).setCell ⟨g, k + 5, none⟩ (.int .i64 b.w)).setCell ⟨g, k + 6, none⟩ (.bool b.r)).setCell ⟨g, k + 7, none⟩ (.int .i64 b.n)).setCell ⟨g, k + 8, none⟩ (.bool b.o)).setCell ⟨g, k + 9, none⟩ (.bool b.h)).setCell ⟨g, k + 10, none⟩ (.int .i64 b.d))
theorem setRT_cells (w : World) (g k : Nat) (b : Lt) : setRT w g k b = w.setCells g k (ltC b) := rfl
theorem flatLt_set (L : List Lt) (i : Nat) (b : Lt) (hi : i < L.length) (j : Nat) : (flatLt (L.set i b))[j]? = if i * 11 ≤ j ∧ j < i * 11 + 11 then (ltC b)[j - i * 11]? else (flatLt L)[j]? := by
  have hl : (flatLt (L.set i b)).length = L.length * 11 := by rw [flatLt_length, List.length_set]
  have hl' := flatLt_length L
  by_cases hj : j < L.length * 11
  · have e : j = (j / 11) * 11 + j % 11 := by omega
    have h1 : j / 11 < L.length := by omega
    have h2 : j % 11 < 11 := by omega
    rw [e, flatLt_at _ _ _ (by rw [List.length_set]; exact h1) h2, flatLt_at _ _ _ h1 h2, List.getElem_set]
    by_cases c : i = j / 11
    · rw [if_pos c, if_pos (by omega), show (j / 11) * 11 + j % 11 - i * 11 = j % 11 by omega]
    · rw [if_neg c, if_neg (by omega)]
  · rw [if_neg (by omega), List.getElem?_eq_none (by omega), List.getElem?_eq_none (by omega)]
theorem own_setT {w : World} {v : Value} {g : Nat} {L : List Lt} (h : OwnT w v g L) {o n cap : Nat} (hv : v = .slice (some ⟨g, o, none⟩) n cap) (j : Nat) (hj : j < L.length) (b : Lt) : OwnT (setRT w g (o + j * 11) b) v g (L.set j b) ∧ FrS (· = g) w (setRT w g (o + j * 11) b) := by
  refine ⟨?_, by rw [setRT_cells]; exact setCells_frS g _ _ w⟩
  obtain ⟨ao', cap', rfl, h1, h2, h3, h4⟩ := h
  simp only [Value.slice.injEq] at hv
  obtain ⟨rfl, rfl, rfl⟩ := hv
  rcases h4 with ⟨h4, rfl⟩ | ⟨o', e, h5, h6⟩
  · cases h4
  · obtain rfl : o = o' := by simpa using e
    rw [setRT_cells]
    refine ⟨_, cap', by rw [List.length_set], by rw [List.length_set]; exact h1, h2, Nat.lt_of_lt_of_le h3 (setCells_frS g _ _ w).size, .inr ⟨o, rfl, fun i hi => ?_, fun i hi => ?_⟩⟩
    · rw [List.length_set] at hi
      rw [flatLt_set L j b hj]
      by_cases c : j * 11 ≤ i ∧ i < j * 11 + 11
      · have := World.cell?_setCells_in g (ltC b) (o + j * 11) w (fun i hi => by rw [Nat.add_assoc]; rw [ltC_len] at hi; exact (h6 _ (by omega)).1) (i - j * 11) (by rw [ltC_len]; omega)
        rw [show o + j * 11 + (i - j * 11) = o + i by omega] at this
        rw [if_pos c, this, List.getElem?_eq_getElem]
      · rw [if_neg c, World.cell?_setCells_out _ _ _ _ _ (fun _ _ => by simp only [ltC_len]; omega)]
        exact h5 i hi
    · exact ⟨World.isSome_setCells _ _ _ _ _ (h6 i hi).1, by rw [World.frozen?_setCells]; exact (h6 i hi).2⟩
theorem view_oneT (w : World) (l : Lt) : ViewT (w.alloc (.cells #[.int .i64 l.k, .int .i64 l.a, .int .i64 l.b, .int .i64 l.q, .int .i64 l.s, .int .i64 l.w, .bool l.r, .int .i64 l.n, .bool l.o, .bool l.h, .int .i64 l.d] 34)) (.slice (some ⟨w.heap.size, 0, none⟩) 1 1) w.heap.size [l] :=
  ⟨_, 1, rfl, Nat.le_refl _, by decide, .inr ⟨0, rfl, by simp, fun j hj => by
    rw [Nat.zero_add]
    refine (cell_of_row _ _ _ _ _ _ (heap_alloc_new w _)).trans ?_
    have : j = 0 ∨ j = 1 ∨ j = 2 ∨ j = 3 ∨ j = 4 ∨ j = 5 ∨ j = 6 ∨ j = 7 ∨ j = 8 ∨ j = 9 ∨ j = 10 := by simp at hj; omega
    rcases this with rfl | rfl | rfl | rfl | rfl | rfl | rfl | rfl | rfl | rfl | rfl <;> rfl⟩⟩
structure Cf where
  n : Int
  bl : Int
  tt : Int
  cs : Int
  cy : Int
  cc : Int
  cu : Int
  ct : Int
  cp : Int
structure CfOk (c : Cf) (id : Int) : Prop where
  n0 : 1 ≤ c.n
  n1 : c.n ≤ 64
  b0 : 1 ≤ c.bl
  b1 : c.bl ≤ 64
  t0 : c.n ≤ c.tt
  t1 : c.tt ≤ 65536
  s0 : 1 ≤ c.cs
  s1 : c.cs ≤ 64
  y0 : 1 ≤ c.cy
  y1 : c.cy ≤ 16
  u0 : 1 ≤ c.cu
  u1 : c.cu ≤ 64
  r0 : 0 ≤ c.ct
  r1 : c.ct ≤ 8
  p0 : 0 ≤ c.cp
  p1 : c.cp ≤ 2
  i0 : 0 ≤ id
  i1 : id < c.n
theorem cfOk_of {c : Cf} {id : Int} (h : cfgZ c.n c.bl c.tt c.cs c.cy c.cc c.cu c.ct c.cp = 0) (h1 : nodeB id c.n = true) : CfOk c id := by
  have h2 := nodeB_true.1 h1
  unfold cfgZ at h
  split at h <;> (try omega)
  rename_i hs
  split at h <;> (try omega)
  rename_i hn
  split at h <;> (try omega)
  rename_i hb
  split at h <;> (try omega)
  rename_i ht
  simp only [Bool.not_eq_false] at hs hn hb ht
  unfold stgB at hs
  simp only [Bool.and_eq_true] at hs
  obtain ⟨⟨⟨⟨⟨e1, e2⟩, e3⟩, e4⟩, e5⟩, e6⟩ := hs
  have e1 := inB_true.1 e1
  have e2 := inB_true.1 e2
  have e4 := inB_true.1 e4
  have e5 := inB_true.1 e5
  have e6 := inB_true.1 e6
  have hn := inB_true.1 hn
  have hb := inB_true.1 hb
  have ht := inB_true.1 ht
  exact ⟨hn.1, hn.2, hb.1, hb.2, ht.1, ht.2, e1.1, e1.2, e2.1, e2.2, e4.1, e4.2, e5.1, e5.2, e6.1, e6.2, h2.1, h2.2⟩
abbrev cfA (c : Cf) : Array Value := #[.int .i64 c.n, .int .i64 c.bl, .int .i64 c.tt, .int .i64 c.cs, .int .i64 c.cy, .int .i64 c.cc, .int .i64 c.cu, .int .i64 c.ct, .int .i64 c.cp]
def toLet (l : Lt) : Let := ⟨l.k, l.a, l.b, l.q, l.s, l.w, l.r, ⟨l.n, l.o, l.h, l.d⟩⟩
def tokOf (l : Lt) : Bun := ⟨l.n, l.o, l.h, l.d⟩
def lerr (c : Cf) (l : Lt) : Int := letterZ c.n c.bl c.tt (toLet l)
def sendL (id to b : Int) (x : Bun) : List Lt := if x.n < 1 then [] else [⟨1, id, to, b, 0, 0, false, x.n, x.o, x.h, x.d⟩]
def bnC (l : Bun) : List Value := [.int .i64 l.n, .bool l.o, .bool l.h, .int .i64 l.d]
theorem bnC_len (l : Bun) : (bnC l).length = 4 := rfl
def flatBn (L : List Bun) : List Value := L.flatMap bnC
theorem flatBn_nil : flatBn [] = [] := rfl
theorem flatBn_cons (l : Bun) (L : List Bun) : flatBn (l :: L) = bnC l ++ flatBn L := by simp [flatBn]
theorem flatBn_append (L M : List Bun) : flatBn (L ++ M) = flatBn L ++ flatBn M := by simp [flatBn]
theorem flatBn_length (L : List Bun) : (flatBn L).length = L.length * 4 := by
  induction L with
  | nil => rfl
  | cons l L ih => rw [flatBn_cons, List.length_append, ih, bnC_len]; simp; omega
theorem flatBn_at (L : List Bun) (i c : Nat) (hi : i < L.length) (hc : c < 4) : (flatBn L)[i * 4 + c]? = (bnC L[i])[c]? := by
  induction L generalizing i with
  | nil => simp at hi
  | cons l L ih =>
    rw [flatBn_cons]
    cases i with
    | zero => rw [List.getElem?_append_left (by rw [bnC_len]; omega)]; simp
    | succ i =>
      rw [List.getElem?_append_right (by rw [bnC_len]; omega), bnC_len, show (i + 1) * 4 + c - 4 = i * 4 + c by omega]
      exact ih i (by simpa using hi)
theorem flatBn_one (L : List Bun) : ∀ u ∈ flatBn L, u.oneCell' = true := by
  intro u hu
  obtain ⟨l, _, hl⟩ := List.mem_flatMap.1 hu
  simp [bnC] at hl
  rcases hl with rfl | rfl | rfl | rfl <;> rfl
theorem flatBn_take (L : List Bun) (i : Nat) (hi : i ≤ L.length) : flatBn (L.take i) = (flatBn L).take (i * 4) := by
  have h := congrArg flatBn (List.take_append_drop i L)
  rw [flatBn_append] at h
  rw [← h, List.take_left' (by rw [flatBn_length, List.length_take]; omega)]
theorem flatBn_drop (L : List Bun) (i : Nat) (hi : i ≤ L.length) : flatBn (L.drop i) = (flatBn L).drop (i * 4) := by
  have h := congrArg flatBn (List.take_append_drop i L)
  rw [flatBn_append] at h
  rw [← h, List.drop_left' (by rw [flatBn_length, List.length_take]; omega)]
theorem infoB : (Tryd.prog.info? 32).map (fun i => (i.zero, i.size, i.bytes)) = some (some (bunV bun0), 4, 24) := by kernel_rfl
def ViewB (w : World) (v : Value) (b : Nat) (L : List Bun) : Prop :=
  ∃ ao cap, v = .slice ao L.length cap ∧ L.length ≤ cap ∧ cap ≤ maxLen ∧
    (L = [] ∨ ∃ o, ao = some ⟨b, o, none⟩ ∧ b < w.heap.size ∧ ∀ j, j < L.length * 4 → w.cell? ⟨b, o + j, none⟩ = (flatBn L)[j]?)
def OwnB (w : World) (v : Value) (g : Nat) (L : List Bun) : Prop :=
  ∃ ao cap, v = .slice ao L.length cap ∧ L.length ≤ cap ∧ cap ≤ maxLen ∧ g < w.heap.size ∧
    ((ao = none ∧ cap = 0) ∨ ∃ o, ao = some ⟨g, o, none⟩ ∧ (∀ j, j < L.length * 4 → w.cell? ⟨g, o + j, none⟩ = (flatBn L)[j]?) ∧
      ∀ j, j < cap * 4 → (w.cell? ⟨g, o + j, none⟩).isSome = true ∧ w.frozen? ⟨g, o + j, none⟩ = false)
theorem OwnB.view {w : World} {v : Value} {g : Nat} {L : List Bun} (h : OwnB w v g L) : ViewB w v g L := by
  obtain ⟨ao, cap, rfl, h1, h2, h3, h4⟩ := h
  refine ⟨ao, cap, rfl, h1, h2, ?_⟩
  rcases h4 with ⟨_, rfl⟩ | ⟨o, rfl, h5, _⟩
  · left; exact List.eq_nil_of_length_eq_zero (by omega)
  · exact .inr ⟨o, rfl, h3, h5⟩
theorem ViewB.carry {w w' : World} {v : Value} {b : Nat} {L : List Bun} (h : ViewB w v b L) (hb : L ≠ [] → b < w.heap.size → w'.heap[b]? = w.heap[b]?) : ViewB w' v b L := by
  obtain ⟨ao, cap, rfl, h1, h2, h3⟩ := h
  refine ⟨ao, cap, rfl, h1, h2, ?_⟩
  by_cases hn : L = []
  · exact .inl hn
  rcases h3 with h3 | ⟨o, rfl, h4, h5⟩
  · exact .inl h3
  · have e := hb hn h4
    refine .inr ⟨o, rfl, ?_, fun j hj => (World.cell?_of_block (w := w) e).trans (h5 j hj)⟩
    rw [Array.getElem?_eq_getElem h4] at e
    exact (Array.getElem?_eq_some_iff.1 e).1
theorem OwnB.carry {w w' : World} {v : Value} {g : Nat} {L : List Bun} (h : OwnB w v g L) (e : w'.heap[g]? = w.heap[g]?) : OwnB w' v g L := by
  obtain ⟨ao, cap, rfl, h1, h2, h3, h4⟩ := h
  refine ⟨ao, cap, rfl, h1, h2, ?_, ?_⟩
  · rw [Array.getElem?_eq_getElem h3] at e
    exact (Array.getElem?_eq_some_iff.1 e).1
  · rcases h4 with h4 | ⟨o, rfl, h5, h6⟩
    · exact .inl h4
    · exact .inr ⟨o, rfl, fun j hj => (World.cell?_of_block (w := w) e).trans (h5 j hj), fun j hj => ⟨by rw [World.cell?_of_block (w := w) (a := ⟨g, o + j, none⟩) e]; exact (h6 j hj).1, (World.frozen?_of_block (w := w) e).trans (h6 j hj).2⟩⟩
theorem ViewB.src {w : World} {v : Value} {b : Nat} {L : List Bun} (h : ViewB w v b L) : Src Tryd.prog 4 46 v L.length (flatBn L) w := by
  obtain ⟨ao, cap, rfl, h1, h2, h3⟩ := h
  rcases h3 with rfl | ⟨o, rfl, h4, h5⟩
  · cases ao with
    | none => exact Src.ofNil _ Tryd.underlying46 cap
    | some a => exact Src.ofSlice _ Tryd.underlying46 a 0 cap [] rfl (by simp) (by simp)
  · refine Src.ofSlice _ Tryd.underlying46 _ _ cap _ (flatBn_length L) (fun j u hu => ?_) (flatBn_one L)
    rw [Addr.add_lit, h5 j (by rw [← flatBn_length]; exact (List.getElem?_eq_some_iff.1 hu).1)]
    exact hu
theorem run_appB {ty : TypeId} {w : World} {v x : Value} {g b : Nat} {L M : List Bun} (hv : OwnB w v g L) (hx : ViewB w x b M) (hs : L.length + M.length ≤ 1000000) :
    ∃ v' w' g', (Builtin.append_ #[46, 46] ty #[v, x]).run Tryd.prog w = .ok v' w' ∧ OwnB w' v' g' (L ++ M) ∧ AppP w w' v v' g g' := by
  obtain ⟨i0, hi, hz0, hz1, hz2⟩ := info_parts infoB
  have hsrc := hx.src
  obtain ⟨ao, cap, rfl, hle, hmx, hg, hown⟩ := hv
  rw [← hz1] at hsrc
  by_cases room : L.length + M.length ≤ cap
  · rcases hown with ⟨rfl, rfl⟩ | ⟨o, rfl, hc, hsp⟩
    · have e1 : L = [] := List.eq_nil_of_length_eq_zero (by omega)
      have e2 : M = [] := List.eq_nil_of_length_eq_zero (by omega)
      subst e1 e2
      exact ⟨_, _, g, run_append_nothing w _ _ ty _ i0 Tryd.underlying46 hi none 0 0 (Nat.le_refl _) x hsrc, ⟨none, 0, rfl, Nat.le_refl _, Nat.zero_le _, hg, .inl ⟨rfl, rfl⟩⟩, ⟨FrS.refl _ _, fun _ => Below.refl _ _, .inl rfl, fun _ _ => rfl⟩⟩
    · have hr := run_append_room_src (P := Tryd.prog) w 46 46 ty _ i0 Tryd.underlying46 hi g o L.length cap x M.length (flatBn M) hsrc room
        (fun j hj => by rw [hz1, Nat.add_assoc]; rw [flatBn_length] at hj; exact (hsp _ (by omega)).1) (fun j hj => by rw [hz1, Nat.add_assoc]; rw [flatBn_length] at hj; exact (hsp _ (by omega)).2)
      rw [hz1] at hr
      refine ⟨_, _, g, hr, ⟨some ⟨g, o, none⟩, cap, by simp, by simpa using room, hmx, ?_, .inr ⟨o, rfl, fun j hj => ?_, fun j hj => ?_⟩⟩, ⟨setCells_frS g _ _ w, fun h => (by cases h), .inl rfl, fun _ h => (by cases h)⟩⟩
      · exact Nat.lt_of_lt_of_le hg (setCells_frS g _ _ w).size
      · rw [flatBn_append]
        by_cases hj' : j < L.length * 4
        · rw [World.cell?_setCells_out _ _ _ _ _ (fun _ _ => .inl (by simp; omega)), hc j hj', List.getElem?_append_left (by rw [flatBn_length]; exact hj')]
        · rw [List.getElem?_append_right (by rw [flatBn_length]; omega), flatBn_length]
          simp at hj
          have := World.cell?_setCells_in g (flatBn M) (o + L.length * 4) w (fun i hi => by rw [Nat.add_assoc]; rw [flatBn_length] at hi; exact (hsp _ (by omega)).1) (j - L.length * 4) (by rw [flatBn_length]; omega)
          rw [show o + L.length * 4 + (j - L.length * 4) = o + j by omega] at this
          rw [this, List.getElem?_eq_getElem]
      · exact ⟨World.isSome_setCells _ _ _ _ _ (hsp j hj).1, by rw [World.frozen?_setCells]; exact (hsp j hj).2⟩
  · have hold : (Builtin.firstCells i0.size L.length (.slice ao L.length cap)).run Tryd.prog w.drew = .ok (flatBn L).toArray w.drew := by
      rcases hown with ⟨rfl, rfl⟩ | ⟨o, rfl, hc, hsp⟩
      · have e1 : L = [] := List.eq_nil_of_length_eq_zero (by omega)
        subst e1
        exact run_firstCells_none w.drew i0.size 0 0 0
      · refine run_firstCells_some w.drew i0.size L.length ⟨g, o, none⟩ L.length cap (flatBn L) (by rw [hz1, flatBn_length]) (fun j u hu => ?_)
        rw [Addr.add_lit]
        exact (hc j (by rw [← flatBn_length]; exact (List.getElem?_eq_some_iff.1 hu).1)).trans hu
    have hr := run_append_grow_src (P := Tryd.prog) w 46 46 ty _ i0 _ Tryd.underlying46 hi hz0 ao L.length cap (flatBn L) hold x M.length (flatBn M) hsrc (by omega) (by omega) (growslice_fits (by omega) (by rw [hz2]; omega))
    have hge := grownCap_ge w (L.length + M.length) cap 32
    have hcm : grownCap w (L.length + M.length) cap 32 ≤ maxLen := grownCap_le_maxLen w _ cap 32 (by simp only [maxLen]; omega)
    have hnew := heap_alloc_new w.drew (Obj.cells ((flatBn L ++ flatBn M).toArray ++ Builtin.zeroCells (bunV bun0).cells (grownCap w (L.length + M.length) cap 32 - (L.length + M.length))) 32)
    have hcell := fun j => cell_of_row _ w.drew.heap.size j _ _ _ hnew
    have hsz : ((flatBn L ++ flatBn M).toArray ++ Builtin.zeroCells (bunV bun0).cells (grownCap w (L.length + M.length) cap 32 - (L.length + M.length))).size = grownCap w (L.length + M.length) cap 32 * 4 := by
      rw [Array.size_append, size_zeroCells]
      simp [flatBn_length, bunV, Value.cells]
      omega
    refine ⟨_, _, w.heap.size, hr, ⟨some ⟨w.heap.size, 0, none⟩, _, by simp, by simpa using hge, hcm, by simp, .inr ⟨0, rfl, fun j hj => ?_, fun j hj => ?_⟩⟩, ⟨⟨rfl, rfl, rfl, by simp, fun k hk _ => Below.heap_alloc w.drew _ k hk⟩, fun _ => ⟨rfl, rfl, rfl, by simp, fun k hk => Below.heap_alloc w.drew _ k hk⟩, .inr (Nat.le_refl _), fun e => by omega⟩⟩
    · rw [Nat.zero_add]
      refine (hcell j).trans ?_
      rw [Array.getElem?_append_left (by simp [flatBn_length] at hj ⊢; omega), flatBn_append]
      simp
    · rw [Nat.zero_add]
      refine ⟨?_, ?_⟩
      · have := hcell j
        rw [Array.getElem?_eq_getElem (by rw [hsz]; exact hj)] at this
        exact Option.isSome_iff_exists.2 ⟨_, this⟩
      · have h2 := hnew
        simp only [World.frozen?]
        rw [show w.heap.size = w.drew.heap.size from rfl, h2]
        simp
section
variable {w : World} {ops : Array Oper} {o : Oper} {a : Act} {Q : Exit → Act → World → Prop}
theorem wp_appB {K : Act → World → Prop} (s x : Operand) (ho : o.op = .call { callee := .builtin .append, args := #[s, x], argTypes := #[46, 46] })
    {v xv : Value} {g b : Nat} {L M : List Bun} (hs : a.eval s = v) (hx : a.eval x = xv) (hv : OwnB w v g L) (hxv : ViewB w xv b M) (hle : L.length + M.length ≤ 1000000) (n : Nat) (hn : L.length + M.length = n)
    (h : ∀ ao cap w' g', OwnB w' (.slice ao n cap) g' (L ++ M) → AppP w w' v (.slice ao n cap) g g' → K (a.put o.dst (.slice ao n cap)) w') : o.wp Tryd.prog a w K Q := by
  obtain ⟨v', w', g', hr, h2, h3⟩ := run_appB (ty := o.type) hv hxv hle
  obtain ⟨ao, cap, rfl, _⟩ := id h2
  unfold Oper.wp execOp
  simp only [ho, resolve, invoke, builtin, Sem.run_bind, Sem.run_pure, Result.andThen_ok, List.map_toArray, List.map_cons, List.map_nil, hs, hx, hr]
  rw [List.length_append, hn] at h2 h3 ⊢
  exact h ao cap w' g' h2 h3
theorem wpList_appB {rest : List Oper} (hgd : o.guard = none) (s x : Operand) (ho : o.op = .call { callee := .builtin .append, args := #[s, x], argTypes := #[46, 46] })
    {v xv : Value} {g b : Nat} {L M : List Bun} (hs : a.eval s = v) (hx : a.eval x = xv) (hv : OwnB w v g L) (hxv : ViewB w xv b M) (hle : L.length + M.length ≤ 1000000) (n : Nat) (hn : L.length + M.length = n)
    (h : ∀ ao cap w' g', OwnB w' (.slice ao n cap) g' (L ++ M) → AppP w w' v (.slice ao n cap) g g' → wpList Tryd.prog ops Q rest (a.put o.dst (.slice ao n cap)) w') : wpList Tryd.prog ops Q (o :: rest) a w :=
  wpList_plain hgd fun _ hK => wp_appB s x ho hs hx hv hxv hle n hn fun ao cap w' g' h2 h3 => hK _ _ (h ao cap w' g' h2 h3)
theorem step_appB {K : Act → World → Prop} {E : Prop} (hgd : o.guard = none) (s x : Operand) (ho : o.op = .call { callee := .builtin .append, args := #[s, x], argTypes := #[46, 46] })
    {v xv : Value} {g b : Nat} {L M : List Bun} (hs : a.eval s = v) (hx : a.eval x = xv) (hv : OwnB w v g L) (hxv : ViewB w xv b M) (hle : L.length + M.length ≤ 1000000) (n : Nat) (hn : L.length + M.length = n)
    (h : ∀ ao cap w' g', OwnB w' (.slice ao n cap) g' (L ++ M) → AppP w w' v (.slice ao n cap) g g' → K (a.put o.dst (.slice ao n cap)) w') : if Region.wanted o (yielded ops a.tmps) = true then Oper.wp Tryd.prog o a w K Q else E := by
  have hw : Region.wanted o (yielded ops a.tmps) = true := by simp [Region.wanted, hgd]
  rw [if_pos hw]
  exact wp_appB s x ho hs hx hv hxv hle n hn h
end
theorem own_emptyB (w : World) (o : Obj) : OwnB (w.alloc o) (.slice (some ⟨w.heap.size, 0, none⟩) 0 0) w.heap.size [] :=
  ⟨_, 0, rfl, Nat.le_refl _, Nat.zero_le _, by simp, .inr ⟨0, rfl, fun j hj => by simp at hj, fun j hj => by simp at hj⟩⟩
theorem ViewB.alloc {w : World} {v : Value} {b : Nat} {L : List Bun} (h : ViewB w v b L) (o : Obj) : ViewB (w.alloc o) v b L := h.carry fun _ hb => Below.heap_alloc _ _ _ hb
theorem OwnB.alloc {w : World} {v : Value} {g : Nat} {L : List Bun} (h : OwnB w v g L) (o : Obj) : OwnB (w.alloc o) v g L := h.carry (Below.heap_alloc _ _ _ (by obtain ⟨_, _, _, _, _, h, _⟩ := h; exact h))
theorem ViewB.below {w w' : World} {v : Value} {b : Nat} {L : List Bun} (h : ViewB w v b L) (hb : Below w.heap.size w w') : ViewB w' v b L := h.carry fun _ h1 => hb.block _ h1
theorem own_nilB {w : World} {g : Nat} (h : g < w.heap.size) : OwnB w (.slice none 0 0) g [] := ⟨none, 0, rfl, Nat.le_refl _, Nat.zero_le _, h, .inl ⟨rfl, rfl⟩⟩
theorem OwnB.lt {w : World} {v : Value} {g : Nat} {L : List Bun} (h : OwnB w v g L) : g < w.heap.size := by obtain ⟨_, _, _, _, _, h, _⟩ := h; exact h
theorem ViewB.fr {w w' : World} {v : Value} {b : Nat} {F : Nat → Prop} {L : List Bun} (h : ViewB w v b L) (hf : FrS F w w') (hn : L ≠ [] → ¬ F b) : ViewB w' v b L := h.carry fun h1 h2 => hf.block _ h2 (hn h1)
theorem OwnB.below {w w' : World} {v : Value} {g : Nat} {L : List Bun} (h : OwnB w v g L) (hb : Below w.heap.size w w') : OwnB w' v g L := h.carry (hb.block _ h.lt)
theorem OwnB.fr {w w' : World} {v : Value} {g : Nat} {F : Nat → Prop} {L : List Bun} (h : OwnB w v g L) (hf : FrS F w w') (hn : ¬ F g) : OwnB w' v g L := h.carry (hf.block _ h.lt hn)
theorem view_nilB (w : World) (b : Nat) : ViewB w (.slice none 0 0) b [] := ⟨none, 0, rfl, Nat.le_refl _, Nat.zero_le _, .inl rfl⟩
theorem view_atB {w : World} {v : Value} {b : Nat} {L : List Bun} (h : ViewB w v b L) {ao : Option Addr} {n cap : Nat} (hv : v = .slice ao n cap) : n = L.length ∧ L.length ≤ cap ∧ cap ≤ maxLen ∧ ∀ j (hj : j < L.length), ∃ o, ao = some ⟨b, o, none⟩ ∧ b < w.heap.size ∧ w.cell? ⟨b, o + j * 4, none⟩ = some (.int .i64 L[j].n) ∧ w.cell? ⟨b, o + j * 4 + 1, none⟩ = some (.bool L[j].o) ∧ w.cell? ⟨b, o + j * 4 + 2, none⟩ = some (.bool L[j].h) ∧ w.cell? ⟨b, o + j * 4 + 3, none⟩ = some (.int .i64 L[j].d) := by
  obtain ⟨ao', cap', rfl, h1, h2, h3⟩ := h
  simp only [Value.slice.injEq] at hv
  obtain ⟨rfl, rfl, rfl⟩ := hv
  refine ⟨rfl, h1, h2, fun j hj => ?_⟩
  rcases h3 with rfl | ⟨o, rfl, h4, h5⟩
  · simp at hj
  · have q : ∀ c, c < 4 → w.cell? ⟨b, o + j * 4 + c, none⟩ = (bnC L[j])[c]? := fun c hc => by rw [Nat.add_assoc, h5 _ (by omega), flatBn_at L j c hj hc]
    exact ⟨o, rfl, h4, q 0 (by omega), q 1 (by omega), q 2 (by omega), q 3 (by omega)⟩
theorem own_atB {w : World} {v : Value} {b : Nat} {L : List Bun} (h : OwnB w v b L) {ao : Option Addr} {n cap : Nat} (hv : v = .slice ao n cap) (j : Nat) (hj : j < L.length) : ∃ o, ao = some ⟨b, o, none⟩ ∧ w.frozen? ⟨b, o + j * 4, none⟩ = false ∧ w.frozen? ⟨b, o + j * 4 + 1, none⟩ = false ∧ w.frozen? ⟨b, o + j * 4 + 2, none⟩ = false ∧ w.frozen? ⟨b, o + j * 4 + 3, none⟩ = false := by
  obtain ⟨ao', cap', rfl, h1, h2, h3, h4⟩ := h
  simp only [Value.slice.injEq] at hv
  obtain ⟨rfl, rfl, rfl⟩ := hv
  rcases h4 with ⟨rfl, rfl⟩ | ⟨o, rfl, h5, h6⟩
  · omega
  · have q : ∀ c, c < 4 → w.frozen? ⟨b, o + j * 4 + c, none⟩ = false := fun c hc => by rw [Nat.add_assoc]; exact (h6 _ (by omega)).2
    exact ⟨o, rfl, q 0 (by omega), q 1 (by omega), q 2 (by omega), q 3 (by omega)⟩
abbrev setR (w : World) (g k : Nat) (b : Bun) : World := (((w.setCell ⟨g, k, none⟩ (.int .i64 b.n)).setCell ⟨g, k + 1, none⟩ (.bool b.o)).setCell ⟨g, k + 2, none⟩ (.bool b.h)).setCell ⟨g, k + 3, none⟩ (.int .i64 b.d)
theorem setR_cells (w : World) (g k : Nat) (b : Bun) : setR w g k b = w.setCells g k (bnC b) := rfl
theorem flatBn_set (L : List Bun) (i : Nat) (b : Bun) (hi : i < L.length) (j : Nat) : (flatBn (L.set i b))[j]? = if i * 4 ≤ j ∧ j < i * 4 + 4 then (bnC b)[j - i * 4]? else (flatBn L)[j]? := by
  have hl : (flatBn (L.set i b)).length = L.length * 4 := by rw [flatBn_length, List.length_set]
  have hl' := flatBn_length L
  by_cases hj : j < L.length * 4
  · have e : j = (j / 4) * 4 + j % 4 := by omega
    have h1 : j / 4 < L.length := by omega
    have h2 : j % 4 < 4 := by omega
    rw [e, flatBn_at _ _ _ (by rw [List.length_set]; exact h1) h2, flatBn_at _ _ _ h1 h2, List.getElem_set]
    by_cases c : i = j / 4
    · rw [if_pos c, if_pos (by omega), show (j / 4) * 4 + j % 4 - i * 4 = j % 4 by omega]
    · rw [if_neg c, if_neg (by omega)]
  · rw [if_neg (by omega), List.getElem?_eq_none (by omega), List.getElem?_eq_none (by omega)]
theorem own_setB {w : World} {v : Value} {g : Nat} {L : List Bun} (h : OwnB w v g L) {o n cap : Nat} (hv : v = .slice (some ⟨g, o, none⟩) n cap) (j : Nat) (hj : j < L.length) (b : Bun) : OwnB (setR w g (o + j * 4) b) v g (L.set j b) ∧ FrS (· = g) w (setR w g (o + j * 4) b) := by
  refine ⟨?_, by rw [setR_cells]; exact setCells_frS g _ _ w⟩
  obtain ⟨ao', cap', rfl, h1, h2, h3, h4⟩ := h
  simp only [Value.slice.injEq] at hv
  obtain ⟨rfl, rfl, rfl⟩ := hv
  rcases h4 with ⟨h4, rfl⟩ | ⟨o', e, h5, h6⟩
  · cases h4
  · obtain rfl : o = o' := by simpa using e
    rw [setR_cells]
    refine ⟨_, cap', by rw [List.length_set], by rw [List.length_set]; exact h1, h2, Nat.lt_of_lt_of_le h3 (setCells_frS g _ _ w).size, .inr ⟨o, rfl, fun i hi => ?_, fun i hi => ?_⟩⟩
    · rw [List.length_set] at hi
      rw [flatBn_set L j b hj]
      by_cases c : j * 4 ≤ i ∧ i < j * 4 + 4
      · have := World.cell?_setCells_in g (bnC b) (o + j * 4) w (fun i hi => by rw [Nat.add_assoc]; rw [bnC_len] at hi; exact (h6 _ (by omega)).1) (i - j * 4) (by rw [bnC_len]; omega)
        rw [show o + j * 4 + (i - j * 4) = o + i by omega] at this
        rw [if_pos c, this, List.getElem?_eq_getElem]
      · rw [if_neg c, World.cell?_setCells_out _ _ _ _ _ (fun _ _ => by simp only [bnC_len]; omega)]
        exact h5 i hi
    · exact ⟨World.isSome_setCells _ _ _ _ _ (h6 i hi).1, by rw [World.frozen?_setCells]; exact (h6 i hi).2⟩
theorem view_oneB (w : World) (l : Bun) : ViewB (w.alloc (.cells #[.int .i64 l.n, .bool l.o, .bool l.h, .int .i64 l.d] 32)) (.slice (some ⟨w.heap.size, 0, none⟩) 1 1) w.heap.size [l] :=
  ⟨_, 1, rfl, Nat.le_refl _, by decide, .inr ⟨0, rfl, by simp, fun j hj => by
    rw [Nat.zero_add]
    refine (cell_of_row _ _ _ _ _ _ (heap_alloc_new w _)).trans ?_
    have : j = 0 ∨ j = 1 ∨ j = 2 ∨ j = 3 := by simp at hj; omega
    rcases this with rfl | rfl | rfl | rfl <;> rfl⟩⟩
section
variable {w : World} {ops : Array Oper} {o : Oper} {a : Act} {Q : Exit → Act → World → Prop}
theorem wp_app {K : Act → World → Prop} (s x : Operand) (ho : o.op = .call { callee := .builtin .append, args := #[s, x], argTypes := #[53, 53] })
    {v xv : Value} {g b : Nat} {L M : List Int} (hs : a.eval s = v) (hx : a.eval x = xv) (hv : Own w v g L) (hxv : View w xv b M) (hle : L.length + M.length ≤ 1000000) (n : Nat) (hn : L.length + M.length = n)
    (h : ∀ ao cap w' g', Own w' (.slice ao n cap) g' (L ++ M) → AppP w w' v (.slice ao n cap) g g' → K (a.put o.dst (.slice ao n cap)) w') : o.wp Tryd.prog a w K Q := by
  obtain ⟨v', w', g', hr, h2, h3⟩ := run_app (ty := o.type) hv hxv hle
  obtain ⟨ao, cap, rfl, _⟩ := id h2
  unfold Oper.wp execOp
  simp only [ho, resolve, invoke, builtin, Sem.run_bind, Sem.run_pure, Result.andThen_ok, List.map_toArray, List.map_cons, List.map_nil, hs, hx, hr]
  rw [List.length_append, hn] at h2 h3 ⊢
  exact h ao cap w' g' h2 h3
theorem wpList_app {rest : List Oper} (hgd : o.guard = none) (s x : Operand) (ho : o.op = .call { callee := .builtin .append, args := #[s, x], argTypes := #[53, 53] })
    {v xv : Value} {g b : Nat} {L M : List Int} (hs : a.eval s = v) (hx : a.eval x = xv) (hv : Own w v g L) (hxv : View w xv b M) (hle : L.length + M.length ≤ 1000000) (n : Nat) (hn : L.length + M.length = n)
    (h : ∀ ao cap w' g', Own w' (.slice ao n cap) g' (L ++ M) → AppP w w' v (.slice ao n cap) g g' → wpList Tryd.prog ops Q rest (a.put o.dst (.slice ao n cap)) w') : wpList Tryd.prog ops Q (o :: rest) a w :=
  wpList_plain hgd fun _ hK => wp_app s x ho hs hx hv hxv hle n hn fun ao cap w' g' h2 h3 => hK _ _ (h ao cap w' g' h2 h3)
theorem step_app {K : Act → World → Prop} {E : Prop} (hgd : o.guard = none) (s x : Operand) (ho : o.op = .call { callee := .builtin .append, args := #[s, x], argTypes := #[53, 53] })
    {v xv : Value} {g b : Nat} {L M : List Int} (hs : a.eval s = v) (hx : a.eval x = xv) (hv : Own w v g L) (hxv : View w xv b M) (hle : L.length + M.length ≤ 1000000) (n : Nat) (hn : L.length + M.length = n)
    (h : ∀ ao cap w' g', Own w' (.slice ao n cap) g' (L ++ M) → AppP w w' v (.slice ao n cap) g g' → K (a.put o.dst (.slice ao n cap)) w') : if Region.wanted o (yielded ops a.tmps) = true then Oper.wp Tryd.prog o a w K Q else E := by
  have hw : Region.wanted o (yielded ops a.tmps) = true := by simp [Region.wanted, hgd]
  rw [if_pos hw]
  exact wp_app s x ho hs hx hv hxv hle n hn h
end
theorem own_empty (w : World) (o : Obj) : Own (w.alloc o) (.slice (some ⟨w.heap.size, 0, none⟩) 0 0) w.heap.size [] :=
  ⟨_, 0, rfl, Nat.le_refl _, Nat.zero_le _, by simp, .inr ⟨0, rfl, fun j hj => by simp at hj, fun j hj => by simp at hj⟩⟩
theorem own_nil {w : World} {g : Nat} (h : g < w.heap.size) : Own w (.slice none 0 0) g [] := ⟨none, 0, rfl, Nat.le_refl _, Nat.zero_le _, h, .inl ⟨rfl, rfl⟩⟩
theorem View.alloc {w : World} {v : Value} {b : Nat} {L : List Int} (h : View w v b L) (o : Obj) : View (w.alloc o) v b L := h.carry fun _ hb => Below.heap_alloc _ _ _ hb
theorem Own.alloc {w : World} {v : Value} {g : Nat} {L : List Int} (h : Own w v g L) (o : Obj) : Own (w.alloc o) v g L := h.carry (Below.heap_alloc _ _ _ h.lt)
theorem View.below {w w' : World} {v : Value} {b : Nat} {L : List Int} (h : View w v b L) (hb : Below w.heap.size w w') : View w' v b L := h.carry fun _ h1 => hb.block _ h1
theorem View.fr {w w' : World} {v : Value} {b : Nat} {F : Nat → Prop} {L : List Int} (h : View w v b L) (hf : FrS F w w') (hn : L ≠ [] → ¬ F b) : View w' v b L := h.carry fun h1 h2 => hf.block _ h2 (hn h1)
theorem Own.below {w w' : World} {v : Value} {g : Nat} {L : List Int} (h : Own w v g L) (hb : Below w.heap.size w w') : Own w' v g L := h.carry (hb.block _ h.lt)
theorem Own.fr {w w' : World} {v : Value} {g : Nat} {F : Nat → Prop} {L : List Int} (h : Own w v g L) (hf : FrS F w w') (hn : ¬ F g) : Own w' v g L := h.carry (hf.block _ h.lt hn)
theorem view_nil (w : World) (b : Nat) : View w (.slice none 0 0) b [] := ⟨none, 0, rfl, Nat.le_refl _, Nat.zero_le _, .inl rfl⟩
theorem view_at {w : World} {v : Value} {b : Nat} {L : List Int} (h : View w v b L) {ao : Option Addr} {n cap : Nat} (hv : v = .slice ao n cap) : n = L.length ∧ L.length ≤ cap ∧ cap ≤ maxLen ∧ ∀ j (hj : j < L.length), ∃ o, ao = some ⟨b, o, none⟩ ∧ b < w.heap.size ∧ w.cell? ⟨b, o + j, none⟩ = some (.int .i64 L[j]) := by
  obtain ⟨ao', cap', e, h1, h2, h3⟩ := h
  rw [hv] at e
  simp only [Value.slice.injEq] at e
  obtain ⟨rfl, rfl, rfl⟩ := e
  refine ⟨rfl, h1, h2, fun j hj => ?_⟩
  rcases h3 with rfl | ⟨o, rfl, h4, h5⟩
  · simp at hj
  · exact ⟨o, rfl, h4, (h5 j hj).trans (ints_at L j hj)⟩
def CloneP (w w' : World) (ao : Option Addr) (cap : Nat) (L : List Int) : Prop :=
  Below w.heap.size w w' ∧ ((ao = none ∧ L = [] ∧ cap = 0) ∨ ∃ g, w.heap.size ≤ g ∧ Own w' (.slice ao L.length cap) g L)
set_option maxHeartbeats 1000000 in
theorem clone_c (v : Value) (b : Nat) (L : List Int) (w : World) (h : View w v b L) (hl : L.length ≤ 100000) : Calls Tryd.prog 68 #[v] w fun e w' => ∃ ao cap, e = .returned (.slice ao L.length cap) ∧ CloneP w w' ao cap L := by
  have h' := hide h
  have q : ∀ (w : World) (a : Option Addr) (n c n' c' : Nat), (binOp .eql 53 (.slice a n c) (.slice none n' c')).run Tryd.prog w = .ok (.bool a.isNone) w := fun w a n c n' c' => Lib.run_eql_slice_nil w _ _ a n c n' c' Tryd.underlying53
  obtain ⟨ao, cap, rfl, h1, h2, h3⟩ := h
  cases ao with
  | none =>
    obtain rfl : L = [] := by rcases h3 with h3 | ⟨_, h4, _⟩; exact h3; cases h4
    clear h3
    go_enter Tryd.func68, Tryd.ntmps68
    go_wp2
    go_ret
    exact ⟨none, 0, rfl, Below.refl _ _, .inl ⟨rfl, rfl, rfl⟩⟩
  | some a =>
    clear h3
    go_enter Tryd.func68, Tryd.ntmps68
    go_wp2_with (at_builtin; refine wpList_app rfl _ _ rfl rfl rfl (own_empty _ _) ((unhide h').alloc _) (by simp; omega) L.length (by simp) ?_; intro ao' cap' w' g' hown hap; replace hown := hide hown; replace hap := hide hap)
    go_ret
    refine ⟨ao', cap', by simp, ?_, .inr ⟨g', ?_, ?_⟩⟩
    · exact ((Below.refl _ _).alloc (Nat.le_refl _) _).trans ((unhide hap).fr.below (fun i hi => by rw [hi]; exact Nat.le_refl _) (by simp))
    · have := (unhide hap).lies; simp at this; omega
    · simpa using unhide hown
def idxF : List Int → Int → Int
  | [], _ => -1
  | y :: r, x => if x = y then 0 else if idxF r x = -1 then -1 else idxF r x + 1
theorem idxF_bd (L : List Int) (x : Int) : -1 ≤ idxF L x ∧ idxF L x < L.length := by
  induction L with
  | nil => simp [idxF]
  | cons y r ih => simp only [idxF, List.length_cons]; split; omega; split <;> omega
theorem idxF_neg (L : List Int) (x : Int) : idxF L x = -1 ↔ x ∉ L := by
  induction L with
  | nil => simp [idxF]
  | cons y r ih =>
    have := idxF_bd r x
    simp only [idxF, List.mem_cons, not_or]
    split
    · simp_all
    · rename_i c
      split
      · rename_i c2; simp [c, ih.1 c2]
      · rename_i c2
        constructor
        · intro h; omega
        · intro h; exact absurd (ih.2 h.2) c2
theorem idxF_erase (L : List Int) (x : Int) (h : x ∈ L) : L.eraseIdx (idxF L x).toNat = L.erase x := by
  induction L with
  | nil => simp at h
  | cons y r ih =>
    simp only [idxF]
    split
    · rename_i c; subst c; simp
    · rename_i c
      have hr : x ∈ r := by simpa [c] using h
      have := idxF_bd r x
      have hn : ¬ idxF r x = -1 := fun e => (idxF_neg r x).1 e hr
      rw [if_neg hn, show (idxF r x + 1).toNat = (idxF r x).toNat + 1 by omega, List.eraseIdx_cons_succ, ih hr, List.erase_cons_tail (by simpa using fun e : y = x => c e.symm)]
theorem idxF_at (L : List Int) (x : Int) (j : Nat) (hj : j < L.length) (ha : ∀ i (hi : i < j), L[i]'(by omega) ≠ x) (he : L[j] = x) : idxF L x = j := by
  induction L generalizing j with
  | nil => simp at hj
  | cons y r ih =>
    cases j with
    | zero => simp at he; simp [idxF, he]
    | succ j =>
      have c : x ≠ y := fun e => ha 0 (by omega) (by simpa using e.symm)
      have := ih j (by simpa using hj) (fun i hi => by have := ha (i + 1) (by omega); simpa using this) (by simpa using he)
      simp only [idxF, if_neg c, this]
      rw [if_neg (by omega)]
      simp
theorem idxF_none (L : List Int) (x : Int) (ha : ∀ i (hi : i < L.length), L[i] ≠ x) : idxF L x = -1 := by
  rw [idxF_neg]
  intro h
  obtain ⟨i, hi, e⟩ := List.mem_iff_getElem.1 h
  exact ha i hi e
end Go.Proofs.YtmgjgeaigdiadaaDoor
