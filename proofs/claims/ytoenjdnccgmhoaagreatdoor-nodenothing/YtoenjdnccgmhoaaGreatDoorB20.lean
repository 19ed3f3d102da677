/- layer 15: LnRow CacS SameA SameP, put together. -/
import Derived.Test.YtoenjdnccgmhoaaGreatDoorB10
import Derived.Test.YtoenjdnccgmhoaaGreatDoorB08
import Derived.BigQuiet
import Derived.Test.YtoenjdnccgmhoaaGreatDoorB04
namespace Go.Proofs.YtoenjdnccgmhoaaGreatDoor
open Go.ChangeShapes Go.WideShapes Go.ChangeAt Go.RowKit
set_option linter.unusedSimpArgs false
set_option linter.unusedVariables false
set_option maxRecDepth 10000
attribute [local go_sem, local simp] over_const setCell_drewN alloc_drewN Over.cell Over.frozen lt_s1 lt_s2 lt_s3 le_s0 le_s1 le_s2 le_s3 eq_s0 eq_s1 eq_s2 qe_s0
def lnC (l : Ln) : List Value := [.int .i64 l.b, .int .i64 l.t.n, .bool l.t.o, .bool l.t.h, .int .i64 l.t.d]
def lnV (l : Ln) : Value := .agg #[.int .i64 l.b, .int .i64 l.t.n, .bool l.t.o, .bool l.t.h, .int .i64 l.t.d]
theorem lnC_len (l : Ln) : (lnC l).length = 5 := rfl
def flatL (L : List Ln) : List Value := L.flatMap lnC
theorem flatL_nil : flatL [] = [] := rfl
theorem flatL_cons (l : Ln) (L : List Ln) : flatL (l :: L) = lnC l ++ flatL L := by simp [flatL]
theorem flatL_append (L M : List Ln) : flatL (L ++ M) = flatL L ++ flatL M := by simp [flatL]
theorem flatL_length (L : List Ln) : (flatL L).length = L.length * 5 := by
  induction L with
  | nil => rfl
  | cons l L ih => rw [flatL_cons, List.length_append, ih, lnC_len]; simp; omega
theorem flatL_at (L : List Ln) (i c : Nat) (hi : i < L.length) (hc : c < 5) : (flatL L)[i * 5 + c]? = (lnC L[i])[c]? := by
  induction L generalizing i with
  | nil => simp at hi
  | cons l L ih =>
    rw [flatL_cons]
    cases i with
    | zero => rw [List.getElem?_append_left (by rw [lnC_len]; omega)]; simp
    | succ i =>
      rw [List.getElem?_append_right (by rw [lnC_len]; omega), lnC_len, show (i + 1) * 5 + c - 5 = i * 5 + c by omega]
      exact ih i (by simpa using hi)
theorem flatL_one (L : List Ln) : ∀ u ∈ flatL L, u.oneCell' = true := by
  intro u hu
  obtain ⟨l, _, hl⟩ := List.mem_flatMap.1 hu
  simp [lnC] at hl
  rcases hl with rfl | rfl | rfl | rfl | rfl <;> rfl
theorem flatL_take (L : List Ln) (i : Nat) (hi : i ≤ L.length) : flatL (L.take i) = (flatL L).take (i * 5) := by
  have h := congrArg flatL (List.take_append_drop i L)
  rw [flatL_append] at h
  rw [← h, List.take_left' (by rw [flatL_length, List.length_take]; omega)]
theorem flatL_drop (L : List Ln) (i : Nat) (hi : i ≤ L.length) : flatL (L.drop i) = (flatL L).drop (i * 5) := by
  have h := congrArg flatL (List.take_append_drop i L)
  rw [flatL_append] at h
  rw [← h, List.drop_left' (by rw [flatL_length, List.length_take]; omega)]
theorem infoLn : (Tryz.prog.info? 68).map (fun i => (i.zero, i.size, i.bytes)) = some (some (lnV ln0), 5, 32) := by kernel_rfl
def ViewL (w : World) (v : Value) (b : Nat) (L : List Ln) : Prop :=
  ∃ ao cap, v = .slice ao L.length cap ∧ L.length ≤ cap ∧ cap ≤ maxLen ∧
    (L = [] ∨ ∃ o, ao = some ⟨b, o, none⟩ ∧ b < w.heap.size ∧ ∀ j, j < L.length * 5 → w.cell? ⟨b, o + j, none⟩ = (flatL L)[j]?)
def OwnL (w : World) (v : Value) (g : Nat) (L : List Ln) : Prop :=
  ∃ ao cap, v = .slice ao L.length cap ∧ L.length ≤ cap ∧ cap ≤ maxLen ∧ g < w.heap.size ∧
    ((ao = none ∧ cap = 0) ∨ ∃ o, ao = some ⟨g, o, none⟩ ∧ (∀ j, j < L.length * 5 → w.cell? ⟨g, o + j, none⟩ = (flatL L)[j]?) ∧
      ∀ j, j < cap * 5 → (w.cell? ⟨g, o + j, none⟩).isSome = true ∧ w.frozen? ⟨g, o + j, none⟩ = false)
theorem OwnL.view {w : World} {v : Value} {g : Nat} {L : List Ln} (h : OwnL w v g L) : ViewL w v g L := by
  obtain ⟨ao, cap, rfl, h1, h2, h3, h4⟩ := h
  refine ⟨ao, cap, rfl, h1, h2, ?_⟩
  rcases h4 with ⟨_, rfl⟩ | ⟨o, rfl, h5, _⟩
  · left; exact List.eq_nil_of_length_eq_zero (by omega)
  · exact .inr ⟨o, rfl, h3, h5⟩
theorem ViewL.carry {w w' : World} {v : Value} {b : Nat} {L : List Ln} (h : ViewL w v b L) (hb : L ≠ [] → b < w.heap.size → w'.heap[b]? = w.heap[b]?) : ViewL w' v b L := by
  obtain ⟨ao, cap, rfl, h1, h2, h3⟩ := h
  refine ⟨ao, cap, rfl, h1, h2, ?_⟩
  by_cases hn : L = []
  · exact .inl hn
  rcases h3 with h3 | ⟨o, rfl, h4, h5⟩
  · exact .inl h3
  · have e := hb hn h4
    refine .inr ⟨o, rfl, ?_, fun j hj => (World.cell?_of_block (w := w) e).trans (h5 j hj)⟩
    rw [Array.getElem?_eq_getElem h4] at e
    exact (Array.getElem?_eq_some_iff.1 e).1
theorem OwnL.carry {w w' : World} {v : Value} {g : Nat} {L : List Ln} (h : OwnL w v g L) (e : w'.heap[g]? = w.heap[g]?) : OwnL w' v g L := by
  obtain ⟨ao, cap, rfl, h1, h2, h3, h4⟩ := h
  refine ⟨ao, cap, rfl, h1, h2, ?_, ?_⟩
  · rw [Array.getElem?_eq_getElem h3] at e
    exact (Array.getElem?_eq_some_iff.1 e).1
  · rcases h4 with h4 | ⟨o, rfl, h5, h6⟩
    · exact .inl h4
    · exact .inr ⟨o, rfl, fun j hj => (World.cell?_of_block (w := w) e).trans (h5 j hj), fun j hj => ⟨by rw [World.cell?_of_block (w := w) (a := ⟨g, o + j, none⟩) e]; exact (h6 j hj).1, (World.frozen?_of_block (w := w) e).trans (h6 j hj).2⟩⟩
theorem ViewL.src {w : World} {v : Value} {b : Nat} {L : List Ln} (h : ViewL w v b L) : Src Tryz.prog 5 59 v L.length (flatL L) w := by
  obtain ⟨ao, cap, rfl, h1, h2, h3⟩ := h
  rcases h3 with rfl | ⟨o, rfl, h4, h5⟩
  · cases ao with
    | none => exact Src.ofNil _ Tryz.underlying59 cap
    | some a => exact Src.ofSlice _ Tryz.underlying59 a 0 cap [] rfl (by simp) (by simp)
  · refine Src.ofSlice _ Tryz.underlying59 _ _ cap _ (flatL_length L) (fun j u hu => ?_) (flatL_one L)
    rw [Addr.add_lit, h5 j (by rw [← flatL_length]; exact (List.getElem?_eq_some_iff.1 hu).1)]
    exact hu
theorem run_appL {ty : TypeId} {w : World} {v x : Value} {g b : Nat} {L M : List Ln} (hv : OwnL w v g L) (hx : ViewL w x b M) (hs : L.length + M.length ≤ 1000000) :
    ∃ v' w' g', (Builtin.append_ #[59, 59] ty #[v, x]).run Tryz.prog w = .ok v' w' ∧ OwnL w' v' g' (L ++ M) ∧ AppP w w' v v' g g' := by
  obtain ⟨i0, hi, hz0, hz1, hz2⟩ := info_parts infoLn
  have hsrc := hx.src
  obtain ⟨ao, cap, rfl, hle, hmx, hg, hown⟩ := hv
  rw [← hz1] at hsrc
  by_cases room : L.length + M.length ≤ cap
  · rcases hown with ⟨rfl, rfl⟩ | ⟨o, rfl, hc, hsp⟩
    · have e1 : L = [] := List.eq_nil_of_length_eq_zero (by omega)
      have e2 : M = [] := List.eq_nil_of_length_eq_zero (by omega)
      subst e1 e2
      exact ⟨_, _, g, run_append_nothing w _ _ ty _ i0 Tryz.underlying59 hi none 0 0 (Nat.le_refl _) x hsrc, ⟨none, 0, rfl, Nat.le_refl _, Nat.zero_le _, hg, .inl ⟨rfl, rfl⟩⟩, ⟨FrS.refl _ _, fun _ => Below.refl _ _, .inl rfl, fun _ _ => rfl⟩⟩
    · have hr := run_append_room_src (P := Tryz.prog) w 59 59 ty _ i0 Tryz.underlying59 hi g o L.length cap x M.length (flatL M) hsrc room
        (fun j hj => by rw [hz1, Nat.add_assoc]; rw [flatL_length] at hj; exact (hsp _ (by omega)).1) (fun j hj => by rw [hz1, Nat.add_assoc]; rw [flatL_length] at hj; exact (hsp _ (by omega)).2)
      rw [hz1] at hr
      refine ⟨_, _, g, hr, ⟨some ⟨g, o, none⟩, cap, by simp, by simpa using room, hmx, ?_, .inr ⟨o, rfl, fun j hj => ?_, fun j hj => ?_⟩⟩, ⟨setCells_frS g _ _ w, fun h => (by cases h), .inl rfl, fun _ h => (by cases h)⟩⟩
      · exact Nat.lt_of_lt_of_le hg (setCells_frS g _ _ w).size
      · rw [flatL_append]
        by_cases hj' : j < L.length * 5
        · rw [World.cell?_setCells_out _ _ _ _ _ (fun _ _ => .inl (by simp; omega)), hc j hj', List.getElem?_append_left (by rw [flatL_length]; exact hj')]
        · rw [List.getElem?_append_right (by rw [flatL_length]; omega), flatL_length]
          simp at hj
          have := World.cell?_setCells_in g (flatL M) (o + L.length * 5) w (fun i hi => by rw [Nat.add_assoc]; rw [flatL_length] at hi; exact (hsp _ (by omega)).1) (j - L.length * 5) (by rw [flatL_length]; omega)
          rw [show o + L.length * 5 + (j - L.length * 5) = o + j by omega] at this
          rw [this, List.getElem?_eq_getElem]
      · exact ⟨World.isSome_setCells _ _ _ _ _ (hsp j hj).1, by rw [World.frozen?_setCells]; exact (hsp j hj).2⟩
  · have hold : (Builtin.firstCells i0.size L.length (.slice ao L.length cap)).run Tryz.prog w.drew = .ok (flatL L).toArray w.drew := by
      rcases hown with ⟨rfl, rfl⟩ | ⟨o, rfl, hc, hsp⟩
      · have e1 : L = [] := List.eq_nil_of_length_eq_zero (by omega)
        subst e1
        exact run_firstCells_none w.drew i0.size 0 0 0
      · refine run_firstCells_some w.drew i0.size L.length ⟨g, o, none⟩ L.length cap (flatL L) (by rw [hz1, flatL_length]) (fun j u hu => ?_)
        rw [Addr.add_lit]
        exact (hc j (by rw [← flatL_length]; exact (List.getElem?_eq_some_iff.1 hu).1)).trans hu
    have hr := run_append_grow_src (P := Tryz.prog) w 59 59 ty _ i0 _ Tryz.underlying59 hi hz0 ao L.length cap (flatL L) hold x M.length (flatL M) hsrc (by omega) (by omega) (growslice_fits (by omega) (by rw [hz2]; omega))
    have hge := grownCap_ge w (L.length + M.length) cap 68
    have hcm : grownCap w (L.length + M.length) cap 68 ≤ maxLen := grownCap_le_maxLen w _ cap 68 (by simp only [maxLen]; omega)
    have hnew := heap_alloc_new w.drew (Obj.cells ((flatL L ++ flatL M).toArray ++ Builtin.zeroCells (lnV ln0).cells (grownCap w (L.length + M.length) cap 68 - (L.length + M.length))) 68)
    have hcell := fun j => cell_of_row _ w.drew.heap.size j _ _ _ hnew
    have hsz : ((flatL L ++ flatL M).toArray ++ Builtin.zeroCells (lnV ln0).cells (grownCap w (L.length + M.length) cap 68 - (L.length + M.length))).size = grownCap w (L.length + M.length) cap 68 * 5 := by
      rw [Array.size_append, size_zeroCells]
      simp [flatL_length, lnV, Value.cells]
      omega
    refine ⟨_, _, w.heap.size, hr, ⟨some ⟨w.heap.size, 0, none⟩, _, by simp, by simpa using hge, hcm, by simp, .inr ⟨0, rfl, fun j hj => ?_, fun j hj => ?_⟩⟩, ⟨⟨rfl, rfl, rfl, by simp, fun k hk _ => Below.heap_alloc w.drew _ k hk⟩, fun _ => ⟨rfl, rfl, rfl, by simp, fun k hk => Below.heap_alloc w.drew _ k hk⟩, .inr (Nat.le_refl _), fun e => by omega⟩⟩
    · rw [Nat.zero_add]
      refine (hcell j).trans ?_
      rw [Array.getElem?_append_left (by simp [flatL_length] at hj ⊢; omega), flatL_append]
      simp
    · rw [Nat.zero_add]
      refine ⟨?_, ?_⟩
      · have := hcell j
        rw [Array.getElem?_eq_getElem (by rw [hsz]; exact hj)] at this
        exact Option.isSome_iff_exists.2 ⟨_, this⟩
      · have h2 := hnew
        simp only [World.frozen?]
        rw [show w.heap.size = w.drew.heap.size from rfl, h2]
        simp
section
variable {w : World} {ops : Array Oper} {o : Oper} {a : Act} {Q : Exit → Act → World → Prop}
theorem wp_appL {K : Act → World → Prop} (s x : Operand) (ho : o.op = .call { callee := .builtin .append, args := #[s, x], argTypes := #[59, 59] })
    {v xv : Value} {g b : Nat} {L M : List Ln} (hs : a.eval s = v) (hx : a.eval x = xv) (hv : OwnL w v g L) (hxv : ViewL w xv b M) (hle : L.length + M.length ≤ 1000000) (n : Nat) (hn : L.length + M.length = n)
    (h : ∀ ao cap w' g', OwnL w' (.slice ao n cap) g' (L ++ M) → AppP w w' v (.slice ao n cap) g g' → K (a.put o.dst (.slice ao n cap)) w') : o.wp Tryz.prog a w K Q := by
  obtain ⟨v', w', g', hr, h2, h3⟩ := run_appL (ty := o.type) hv hxv hle
  obtain ⟨ao, cap, rfl, _⟩ := id h2
  unfold Oper.wp execOp
  simp only [ho, resolve, invoke, builtin, Sem.run_bind, Sem.run_pure, Result.andThen_ok, List.map_toArray, List.map_cons, List.map_nil, hs, hx, hr]
  rw [List.length_append, hn] at h2 h3 ⊢
  exact h ao cap w' g' h2 h3
theorem wpList_appL {rest : List Oper} (hgd : o.guard = none) (s x : Operand) (ho : o.op = .call { callee := .builtin .append, args := #[s, x], argTypes := #[59, 59] })
    {v xv : Value} {g b : Nat} {L M : List Ln} (hs : a.eval s = v) (hx : a.eval x = xv) (hv : OwnL w v g L) (hxv : ViewL w xv b M) (hle : L.length + M.length ≤ 1000000) (n : Nat) (hn : L.length + M.length = n)
    (h : ∀ ao cap w' g', OwnL w' (.slice ao n cap) g' (L ++ M) → AppP w w' v (.slice ao n cap) g g' → wpList Tryz.prog ops Q rest (a.put o.dst (.slice ao n cap)) w') : wpList Tryz.prog ops Q (o :: rest) a w :=
  wpList_plain hgd fun _ hK => wp_appL s x ho hs hx hv hxv hle n hn fun ao cap w' g' h2 h3 => hK _ _ (h ao cap w' g' h2 h3)
theorem step_appL {K : Act → World → Prop} {E : Prop} (hgd : o.guard = none) (s x : Operand) (ho : o.op = .call { callee := .builtin .append, args := #[s, x], argTypes := #[59, 59] })
    {v xv : Value} {g b : Nat} {L M : List Ln} (hs : a.eval s = v) (hx : a.eval x = xv) (hv : OwnL w v g L) (hxv : ViewL w xv b M) (hle : L.length + M.length ≤ 1000000) (n : Nat) (hn : L.length + M.length = n)
    (h : ∀ ao cap w' g', OwnL w' (.slice ao n cap) g' (L ++ M) → AppP w w' v (.slice ao n cap) g g' → K (a.put o.dst (.slice ao n cap)) w') : if Region.wanted o (yielded ops a.tmps) = true then Oper.wp Tryz.prog o a w K Q else E := by
  have hw : Region.wanted o (yielded ops a.tmps) = true := by simp [Region.wanted, hgd]
  rw [if_pos hw]
  exact wp_appL s x ho hs hx hv hxv hle n hn h
end
theorem own_emptyL (w : World) (o : Obj) : OwnL (w.alloc o) (.slice (some ⟨w.heap.size, 0, none⟩) 0 0) w.heap.size [] :=
  ⟨_, 0, rfl, Nat.le_refl _, Nat.zero_le _, by simp, .inr ⟨0, rfl, fun j hj => by simp at hj, fun j hj => by simp at hj⟩⟩
theorem ViewL.alloc {w : World} {v : Value} {b : Nat} {L : List Ln} (h : ViewL w v b L) (o : Obj) : ViewL (w.alloc o) v b L := h.carry fun _ hb => Below.heap_alloc _ _ _ hb
theorem OwnL.alloc {w : World} {v : Value} {g : Nat} {L : List Ln} (h : OwnL w v g L) (o : Obj) : OwnL (w.alloc o) v g L := h.carry (Below.heap_alloc _ _ _ (by obtain ⟨_, _, _, _, _, h, _⟩ := h; exact h))
theorem ViewL.below {w w' : World} {v : Value} {b : Nat} {L : List Ln} (h : ViewL w v b L) (hb : Below w.heap.size w w') : ViewL w' v b L := h.carry fun _ h1 => hb.block _ h1
theorem own_nilL {w : World} {g : Nat} (h : g < w.heap.size) : OwnL w (.slice none 0 0) g [] := ⟨none, 0, rfl, Nat.le_refl _, Nat.zero_le _, h, .inl ⟨rfl, rfl⟩⟩
theorem OwnL.lt {w : World} {v : Value} {g : Nat} {L : List Ln} (h : OwnL w v g L) : g < w.heap.size := by obtain ⟨_, _, _, _, _, h, _⟩ := h; exact h
theorem ViewL.fr {w w' : World} {v : Value} {b : Nat} {F : Nat → Prop} {L : List Ln} (h : ViewL w v b L) (hf : FrS F w w') (hn : L ≠ [] → ¬ F b) : ViewL w' v b L := h.carry fun h1 h2 => hf.block _ h2 (hn h1)
theorem OwnL.below {w w' : World} {v : Value} {g : Nat} {L : List Ln} (h : OwnL w v g L) (hb : Below w.heap.size w w') : OwnL w' v g L := h.carry (hb.block _ h.lt)
theorem OwnL.fr {w w' : World} {v : Value} {g : Nat} {F : Nat → Prop} {L : List Ln} (h : OwnL w v g L) (hf : FrS F w w') (hn : ¬ F g) : OwnL w' v g L := h.carry (hf.block _ h.lt hn)
theorem view_nilL (w : World) (b : Nat) : ViewL w (.slice none 0 0) b [] := ⟨none, 0, rfl, Nat.le_refl _, Nat.zero_le _, .inl rfl⟩
theorem view_atL {w : World} {v : Value} {b : Nat} {L : List Ln} (h : ViewL w v b L) {ao : Option Addr} {n cap : Nat} (hv : v = .slice ao n cap) : n = L.length ∧ L.length ≤ cap ∧ cap ≤ maxLen ∧ ∀ j (hj : j < L.length), ∃ o, ao = some ⟨b, o, none⟩ ∧ b < w.heap.size ∧ w.cell? ⟨b, o + j * 5, none⟩ = some (.int .i64 L[j].b) ∧ w.cell? ⟨b, o + j * 5 + 1, none⟩ = some (.int .i64 L[j].t.n) ∧ w.cell? ⟨b, o + j * 5 + 2, none⟩ = some (.bool L[j].t.o) ∧ w.cell? ⟨b, o + j * 5 + 3, none⟩ = some (.bool L[j].t.h) ∧ w.cell? ⟨b, o + j * 5 + 4, none⟩ = some (.int .i64 L[j].t.d) := by
  obtain ⟨ao', cap', rfl, h1, h2, h3⟩ := h
  simp only [Value.slice.injEq] at hv
  obtain ⟨rfl, rfl, rfl⟩ := hv
  refine ⟨rfl, h1, h2, fun j hj => ?_⟩
  rcases h3 with rfl | ⟨o, rfl, h4, h5⟩
  · simp at hj
  · have q : ∀ c, c < 5 → w.cell? ⟨b, o + j * 5 + c, none⟩ = (lnC L[j])[c]? := fun c hc => by rw [Nat.add_assoc, h5 _ (by omega), flatL_at L j c hj hc]
    exact ⟨o, rfl, h4, q 0 (by omega), q 1 (by omega), q 2 (by omega), q 3 (by omega), q 4 (by omega)⟩
theorem view_oneL (w : World) (l : Ln) : ViewL (w.alloc (.cells #[.int .i64 l.b, .int .i64 l.t.n, .bool l.t.o, .bool l.t.h, .int .i64 l.t.d] 68)) (.slice (some ⟨w.heap.size, 0, none⟩) 1 1) w.heap.size [l] :=
  ⟨_, 1, rfl, Nat.le_refl _, by decide, .inr ⟨0, rfl, by simp, fun j hj => by
    rw [Nat.zero_add]
    refine (cell_of_row _ _ _ _ _ _ (heap_alloc_new w _)).trans ?_
    have : j = 0 ∨ j = 1 ∨ j = 2 ∨ j = 3 ∨ j = 4 := by simp at hj; omega
    rcases this with rfl | rfl | rfl | rfl | rfl <;> rfl⟩⟩
set_option maxHeartbeats 1000000 in
theorem sameL_c (v1 v2 : Value) (b1 b2 : Nat) (L : List Ln) (w : World) (h1 : ViewL w v1 b1 L) (h2 : ViewL w v2 b2 L) : Calls Tryz.prog 60 #[v1, v2] w fun e w' => e = .returned (.bool true) ∧ ∃ n, w' = w.drewN n := by
  have hV := hide h1
  have hU := hide h2
  obtain ⟨ao1, cap1, rfl, hl1, hm1, hc1⟩ := h1
  obtain ⟨ao2, cap2, rfl, hl2, hm2, hc2⟩ := h2
  have hmx : L.length ≤ 9223372036854775807 := by unfold maxLen at hm1; omega
  clear hc1 hc2 hm1 hm2
  go_enter Tryz.func60, Tryz.ntmps60
  go_wp2_with fail
  go_loopw [5] (fun i wr => ∃ j : Nat, j ≤ L.length ∧ i = .int .i64 j ∧ ∃ n, wr = w.drewN n) (fun i _ => L.length - (intOf i).toNat)
  case atStart => exact ⟨0, Nat.zero_le _, rfl, 0, rfl⟩
  case round =>
    obtain ⟨j, hj, rfl, n, rfl⟩ := hrel
    by_cases hlt : j < L.length
    · obtain ⟨-, -, -, k1⟩ := view_atL (unhide hV) rfl
      obtain ⟨-, -, -, k2⟩ := view_atL (unhide hU) rfl
      obtain ⟨o1, rfl, g1, d0, d1, d2, d3, d4⟩ := k1 j hlt
      obtain ⟨o2, rfl, g2, f0, f1, f2, f3, f4⟩ := k2 j hlt
      generalize L[j] = l at d0 d1 d2 d3 d4 f0 f1 f2 f3 f4
      have hlt' : (j : Int) < L.length := by omega
      clear k1 k2 hV hU
      go_wp2_with fail
      go_quiet (fail)
      go_wp2_with fail
      all_goals
        go_roundw
        case rel => exact ⟨j + 1, by omega, by simp, _, rfl⟩
        case measure => simp [intOf]; omega
    · obtain rfl : j = L.length := by omega
      clear hV hU
      go_wp2_with fail
      go_ret
      exact ⟨rfl, n, rfl⟩
set_option maxHeartbeats 1000000 in
theorem sameA_c (v1 v2 : Value) (b1 b2 : Nat) (L : List At) (w : World) (h1 : ViewA w v1 b1 L) (h2 : ViewA w v2 b2 L) : Calls Tryz.prog 61 #[v1, v2] w fun e w' => e = .returned (.bool true) ∧ ∃ n, w' = w.drewN n := by
  have hV := hide h1
  have hU := hide h2
  obtain ⟨ao1, cap1, rfl, hl1, hm1, hc1⟩ := h1
  obtain ⟨ao2, cap2, rfl, hl2, hm2, hc2⟩ := h2
  have hmx : L.length ≤ 9223372036854775807 := by unfold maxLen at hm1; omega
  clear hc1 hc2 hm1 hm2
  go_enter Tryz.func61, Tryz.ntmps61
  go_wp2_with fail
  go_loopw [5] (fun i wr => ∃ j : Nat, j ≤ L.length ∧ i = .int .i64 j ∧ ∃ n, wr = w.drewN n) (fun i _ => L.length - (intOf i).toNat)
  case atStart => exact ⟨0, Nat.zero_le _, rfl, 0, rfl⟩
  case round =>
    obtain ⟨j, hj, rfl, n, rfl⟩ := hrel
    by_cases hlt : j < L.length
    · obtain ⟨-, -, -, k1⟩ := view_atA (unhide hV) rfl
      obtain ⟨-, -, -, k2⟩ := view_atA (unhide hU) rfl
      obtain ⟨o1, rfl, g1, d0, d1, d2⟩ := k1 j hlt
      obtain ⟨o2, rfl, g2, f0, f1, f2⟩ := k2 j hlt
      generalize L[j] = l at d0 d1 d2 f0 f1 f2
      have hlt' : (j : Int) < L.length := by omega
      clear k1 k2 hV hU
      go_wp2_with fail
      go_quiet (fail)
      go_wp2_with fail
      all_goals
        go_roundw
        case rel => exact ⟨j + 1, by omega, by simp, _, rfl⟩
        case measure => simp [intOf]; omega
    · obtain rfl : j = L.length := by omega
      clear hV hU
      go_wp2_with fail
      go_ret
      exact ⟨rfl, n, rfl⟩
set_option maxHeartbeats 2000000 in
theorem sameP_c (v1 u1 v2 u2 : Value) (bu : Bool) (op : Op3) (g1 k1 g2 k2 : Nat) (Ls : List Ln) (As : List At) (w : World) (hL1 : ViewL w v1 g1 Ls) (hL2 : ViewL w u1 k1 Ls) (hA1 : ViewA w v2 g2 As) (hA2 : ViewA w u2 k2 As) : Calls Tryz.prog 24 #[.agg #[v1, .bool bu, .int .i64 op.b, .bool op.w, .int .i64 op.v, v2], .agg #[u1, .bool bu, .int .i64 op.b, .bool op.w, .int .i64 op.v, u2]] w fun e w' => e = .returned (.bool true) ∧ Below w.heap.size w w' := by
  obtain ⟨a1, c1, e1, -⟩ := _root_.id hL1
  obtain ⟨a2, c2, e2, -⟩ := _root_.id hL2
  obtain ⟨a3, c3, e3, -⟩ := _root_.id hA1
  obtain ⟨a4, c4, e4, -⟩ := _root_.id hA2
  subst e1 e2 e3 e4
  replace hL1 := hide hL1
  replace hL2 := hide hL2
  replace hA1 := hide hA1
  replace hA2 := hide hA2
  go_enter Tryz.func24, Tryz.ntmps24
  go_wp2_with (first | (go_at_call 60; refine (sameL_c _ _ g1 k1 Ls _ ((hL1.out.alloc _).alloc _) ((hL2.out.alloc _).alloc _)).mono ?_; rintro e w5 ⟨rfl, n5, rfl⟩) | (go_at_call 61; refine (sameA_c _ _ g2 k2 As _ (by exact ((hA1.out.alloc _).alloc _).carry (fun _ _ => rfl)) (by exact ((hA2.out.alloc _).alloc _).carry (fun _ _ => rfl))).mono ?_; rintro e w6 ⟨rfl, n6, rfl⟩))
  go_ret
  refine ⟨rfl, ?_⟩
  all_goals exact belEnd
end Go.Proofs.YtoenjdnccgmhoaaGreatDoor
