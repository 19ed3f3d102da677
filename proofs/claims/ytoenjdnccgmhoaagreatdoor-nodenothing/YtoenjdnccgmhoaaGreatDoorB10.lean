/- layer 15: AtRow TbMath LinA, put together. -/
import Derived.Test.YtoenjdnccgmhoaaGreatDoorRows
import Derived.Test.YtoenjdnccgmhoaaGreatDoorB04
import Derived.Deep.AppendSrc
import Derived.Deep.Upon
import Derived.Deep.RegionLaw
import Derived.Deep.MidRow
import Derived.Deep.RegionHeld3
import Derived.Lib.SliceRun
import Derived.Test.YtoenjdnccgmhoaaGreatDoorB09
namespace Go.Proofs.YtoenjdnccgmhoaaGreatDoor
open Go.ChangeShapes Go.WideShapes Go.ChangeAt Go.RowKit
set_option linter.unusedSimpArgs false
set_option linter.unusedVariables false
set_option maxRecDepth 10000
attribute [local go_sem, local simp] over_const setCell_drewN alloc_drewN Over.cell Over.frozen lt_s1 lt_s2 lt_s3 le_s0 le_s1 le_s2 le_s3 eq_s0 eq_s1 eq_s2 qe_s0
def atC (l : At) : List Value := [.int .i64 l.b, .int .i64 l.n, .int .i64 l.s]
theorem atC_len (l : At) : (atC l).length = 3 := rfl
def flatAt (L : List At) : List Value := L.flatMap atC
theorem flatAt_nil : flatAt [] = [] := rfl
theorem flatAt_cons (l : At) (L : List At) : flatAt (l :: L) = atC l ++ flatAt L := by simp [flatAt]
theorem flatAt_append (L M : List At) : flatAt (L ++ M) = flatAt L ++ flatAt M := by simp [flatAt]
theorem flatAt_length (L : List At) : (flatAt L).length = L.length * 3 := by
  induction L with
  | nil => rfl
  | cons l L ih => rw [flatAt_cons, List.length_append, ih, atC_len]; simp; omega
theorem flatAt_at (L : List At) (i c : Nat) (hi : i < L.length) (hc : c < 3) : (flatAt L)[i * 3 + c]? = (atC L[i])[c]? := by
  induction L generalizing i with
  | nil => simp at hi
  | cons l L ih =>
    rw [flatAt_cons]
    cases i with
    | zero => rw [List.getElem?_append_left (by rw [atC_len]; omega)]; simp
    | succ i =>
      rw [List.getElem?_append_right (by rw [atC_len]; omega), atC_len, show (i + 1) * 3 + c - 3 = i * 3 + c by omega]
      exact ih i (by simpa using hi)
theorem flatAt_one (L : List At) : ∀ u ∈ flatAt L, u.oneCell' = true := by
  intro u hu
  obtain ⟨l, _, hl⟩ := List.mem_flatMap.1 hu
  simp [atC] at hl
  rcases hl with rfl | rfl | rfl <;> rfl
theorem flatAt_take (L : List At) (i : Nat) (hi : i ≤ L.length) : flatAt (L.take i) = (flatAt L).take (i * 3) := by
  have h := congrArg flatAt (List.take_append_drop i L)
  rw [flatAt_append] at h
  rw [← h, List.take_left' (by rw [flatAt_length, List.length_take]; omega)]
theorem flatAt_drop (L : List At) (i : Nat) (hi : i ≤ L.length) : flatAt (L.drop i) = (flatAt L).drop (i * 3) := by
  have h := congrArg flatAt (List.take_append_drop i L)
  rw [flatAt_append] at h
  rw [← h, List.drop_left' (by rw [flatAt_length, List.length_take]; omega)]
theorem infoA : (Tryz.prog.info? 113).map (fun i => (i.zero, i.size, i.bytes)) = some (some (atV at0), 3, 24) := by kernel_rfl
def ViewA (w : World) (v : Value) (b : Nat) (L : List At) : Prop :=
  ∃ ao cap, v = .slice ao L.length cap ∧ L.length ≤ cap ∧ cap ≤ maxLen ∧
    (L = [] ∨ ∃ o, ao = some ⟨b, o, none⟩ ∧ b < w.heap.size ∧ ∀ j, j < L.length * 3 → w.cell? ⟨b, o + j, none⟩ = (flatAt L)[j]?)
def OwnA (w : World) (v : Value) (g : Nat) (L : List At) : Prop :=
  ∃ ao cap, v = .slice ao L.length cap ∧ L.length ≤ cap ∧ cap ≤ maxLen ∧ g < w.heap.size ∧
    ((ao = none ∧ cap = 0) ∨ ∃ o, ao = some ⟨g, o, none⟩ ∧ (∀ j, j < L.length * 3 → w.cell? ⟨g, o + j, none⟩ = (flatAt L)[j]?) ∧
      ∀ j, j < cap * 3 → (w.cell? ⟨g, o + j, none⟩).isSome = true ∧ w.frozen? ⟨g, o + j, none⟩ = false)
theorem OwnA.view {w : World} {v : Value} {g : Nat} {L : List At} (h : OwnA w v g L) : ViewA w v g L := by
  obtain ⟨ao, cap, rfl, h1, h2, h3, h4⟩ := h
  refine ⟨ao, cap, rfl, h1, h2, ?_⟩
  rcases h4 with ⟨_, rfl⟩ | ⟨o, rfl, h5, _⟩
  · left; exact List.eq_nil_of_length_eq_zero (by omega)
  · exact .inr ⟨o, rfl, h3, h5⟩
theorem ViewA.carry {w w' : World} {v : Value} {b : Nat} {L : List At} (h : ViewA w v b L) (hb : L ≠ [] → b < w.heap.size → w'.heap[b]? = w.heap[b]?) : ViewA w' v b L := by
  obtain ⟨ao, cap, rfl, h1, h2, h3⟩ := h
  refine ⟨ao, cap, rfl, h1, h2, ?_⟩
  by_cases hn : L = []
  · exact .inl hn
  rcases h3 with h3 | ⟨o, rfl, h4, h5⟩
  · exact .inl h3
  · have e := hb hn h4
    refine .inr ⟨o, rfl, ?_, fun j hj => (World.cell?_of_block (w := w) e).trans (h5 j hj)⟩
    rw [Array.getElem?_eq_getElem h4] at e
    exact (Array.getElem?_eq_some_iff.1 e).1
theorem OwnA.carry {w w' : World} {v : Value} {g : Nat} {L : List At} (h : OwnA w v g L) (e : w'.heap[g]? = w.heap[g]?) : OwnA w' v g L := by
  obtain ⟨ao, cap, rfl, h1, h2, h3, h4⟩ := h
  refine ⟨ao, cap, rfl, h1, h2, ?_, ?_⟩
  · rw [Array.getElem?_eq_getElem h3] at e
    exact (Array.getElem?_eq_some_iff.1 e).1
  · rcases h4 with h4 | ⟨o, rfl, h5, h6⟩
    · exact .inl h4
    · exact .inr ⟨o, rfl, fun j hj => (World.cell?_of_block (w := w) e).trans (h5 j hj), fun j hj => ⟨by rw [World.cell?_of_block (w := w) (a := ⟨g, o + j, none⟩) e]; exact (h6 j hj).1, (World.frozen?_of_block (w := w) e).trans (h6 j hj).2⟩⟩
theorem ViewA.src {w : World} {v : Value} {b : Nat} {L : List At} (h : ViewA w v b L) : Src Tryz.prog 3 60 v L.length (flatAt L) w := by
  obtain ⟨ao, cap, rfl, h1, h2, h3⟩ := h
  rcases h3 with rfl | ⟨o, rfl, h4, h5⟩
  · cases ao with
    | none => exact Src.ofNil _ Tryz.underlying60 cap
    | some a => exact Src.ofSlice _ Tryz.underlying60 a 0 cap [] rfl (by simp) (by simp)
  · refine Src.ofSlice _ Tryz.underlying60 _ _ cap _ (flatAt_length L) (fun j u hu => ?_) (flatAt_one L)
    rw [Addr.add_lit, h5 j (by rw [← flatAt_length]; exact (List.getElem?_eq_some_iff.1 hu).1)]
    exact hu
theorem run_appA {ty : TypeId} {w : World} {v x : Value} {g b : Nat} {L M : List At} (hv : OwnA w v g L) (hx : ViewA w x b M) (hs : L.length + M.length ≤ 1000000) :
    ∃ v' w' g', (Builtin.append_ #[60, 60] ty #[v, x]).run Tryz.prog w = .ok v' w' ∧ OwnA w' v' g' (L ++ M) ∧ AppP w w' v v' g g' := by
  obtain ⟨i0, hi, hz0, hz1, hz2⟩ := info_parts infoA
  have hsrc := hx.src
  obtain ⟨ao, cap, rfl, hle, hmx, hg, hown⟩ := hv
  rw [← hz1] at hsrc
  by_cases room : L.length + M.length ≤ cap
  · rcases hown with ⟨rfl, rfl⟩ | ⟨o, rfl, hc, hsp⟩
    · have e1 : L = [] := List.eq_nil_of_length_eq_zero (by omega)
      have e2 : M = [] := List.eq_nil_of_length_eq_zero (by omega)
      subst e1 e2
      exact ⟨_, _, g, run_append_nothing w _ _ ty _ i0 Tryz.underlying60 hi none 0 0 (Nat.le_refl _) x hsrc, ⟨none, 0, rfl, Nat.le_refl _, Nat.zero_le _, hg, .inl ⟨rfl, rfl⟩⟩, ⟨FrS.refl _ _, fun _ => Below.refl _ _, .inl rfl, fun _ _ => rfl⟩⟩
    · have hr := run_append_room_src (P := Tryz.prog) w 60 60 ty _ i0 Tryz.underlying60 hi g o L.length cap x M.length (flatAt M) hsrc room
        (fun j hj => by rw [hz1, Nat.add_assoc]; rw [flatAt_length] at hj; exact (hsp _ (by omega)).1) (fun j hj => by rw [hz1, Nat.add_assoc]; rw [flatAt_length] at hj; exact (hsp _ (by omega)).2)
      rw [hz1] at hr
      refine ⟨_, _, g, hr, ⟨some ⟨g, o, none⟩, cap, by simp, by simpa using room, hmx, ?_, .inr ⟨o, rfl, fun j hj => ?_, fun j hj => ?_⟩⟩, ⟨setCells_frS g _ _ w, fun h => (by cases h), .inl rfl, fun _ h => (by cases h)⟩⟩
      · exact Nat.lt_of_lt_of_le hg (setCells_frS g _ _ w).size
      · rw [flatAt_append]
        by_cases hj' : j < L.length * 3
        · rw [World.cell?_setCells_out _ _ _ _ _ (fun _ _ => .inl (by simp; omega)), hc j hj', List.getElem?_append_left (by rw [flatAt_length]; exact hj')]
        · rw [List.getElem?_append_right (by rw [flatAt_length]; omega), flatAt_length]
          simp at hj
          have := World.cell?_setCells_in g (flatAt M) (o + L.length * 3) w (fun i hi => by rw [Nat.add_assoc]; rw [flatAt_length] at hi; exact (hsp _ (by omega)).1) (j - L.length * 3) (by rw [flatAt_length]; omega)
          rw [show o + L.length * 3 + (j - L.length * 3) = o + j by omega] at this
          rw [this, List.getElem?_eq_getElem]
      · exact ⟨World.isSome_setCells _ _ _ _ _ (hsp j hj).1, by rw [World.frozen?_setCells]; exact (hsp j hj).2⟩
  · have hold : (Builtin.firstCells i0.size L.length (.slice ao L.length cap)).run Tryz.prog w.drew = .ok (flatAt L).toArray w.drew := by
      rcases hown with ⟨rfl, rfl⟩ | ⟨o, rfl, hc, hsp⟩
      · have e1 : L = [] := List.eq_nil_of_length_eq_zero (by omega)
        subst e1
        exact run_firstCells_none w.drew i0.size 0 0 0
      · refine run_firstCells_some w.drew i0.size L.length ⟨g, o, none⟩ L.length cap (flatAt L) (by rw [hz1, flatAt_length]) (fun j u hu => ?_)
        rw [Addr.add_lit]
        exact (hc j (by rw [← flatAt_length]; exact (List.getElem?_eq_some_iff.1 hu).1)).trans hu
    have hr := run_append_grow_src (P := Tryz.prog) w 60 60 ty _ i0 _ Tryz.underlying60 hi hz0 ao L.length cap (flatAt L) hold x M.length (flatAt M) hsrc (by omega) (by omega) (growslice_fits (by omega) (by rw [hz2]; omega))
    have hge := grownCap_ge w (L.length + M.length) cap 113
    have hcm : grownCap w (L.length + M.length) cap 113 ≤ maxLen := grownCap_le_maxLen w _ cap 113 (by simp only [maxLen]; omega)
    have hnew := heap_alloc_new w.drew (Obj.cells ((flatAt L ++ flatAt M).toArray ++ Builtin.zeroCells (atV at0).cells (grownCap w (L.length + M.length) cap 113 - (L.length + M.length))) 113)
    have hcell := fun j => cell_of_row _ w.drew.heap.size j _ _ _ hnew
    have hsz : ((flatAt L ++ flatAt M).toArray ++ Builtin.zeroCells (atV at0).cells (grownCap w (L.length + M.length) cap 113 - (L.length + M.length))).size = grownCap w (L.length + M.length) cap 113 * 3 := by
      rw [Array.size_append, size_zeroCells]
      simp [flatAt_length, atV, Value.cells]
      omega
    refine ⟨_, _, w.heap.size, hr, ⟨some ⟨w.heap.size, 0, none⟩, _, by simp, by simpa using hge, hcm, by simp, .inr ⟨0, rfl, fun j hj => ?_, fun j hj => ?_⟩⟩, ⟨⟨rfl, rfl, rfl, by simp, fun k hk _ => Below.heap_alloc w.drew _ k hk⟩, fun _ => ⟨rfl, rfl, rfl, by simp, fun k hk => Below.heap_alloc w.drew _ k hk⟩, .inr (Nat.le_refl _), fun e => by omega⟩⟩
    · rw [Nat.zero_add]
      refine (hcell j).trans ?_
      rw [Array.getElem?_append_left (by simp [flatAt_length] at hj ⊢; omega), flatAt_append]
      simp
    · rw [Nat.zero_add]
      refine ⟨?_, ?_⟩
      · have := hcell j
        rw [Array.getElem?_eq_getElem (by rw [hsz]; exact hj)] at this
        exact Option.isSome_iff_exists.2 ⟨_, this⟩
      · have h2 := hnew
        simp only [World.frozen?]
        rw [show w.heap.size = w.drew.heap.size from rfl, h2]
        simp
section
variable {w : World} {ops : Array Oper} {o : Oper} {a : Act} {Q : Exit → Act → World → Prop}
theorem wp_appA {K : Act → World → Prop} (s x : Operand) (ho : o.op = .call { callee := .builtin .append, args := #[s, x], argTypes := #[60, 60] })
    {v xv : Value} {g b : Nat} {L M : List At} (hs : a.eval s = v) (hx : a.eval x = xv) (hv : OwnA w v g L) (hxv : ViewA w xv b M) (hle : L.length + M.length ≤ 1000000) (n : Nat) (hn : L.length + M.length = n)
    (h : ∀ ao cap w' g', OwnA w' (.slice ao n cap) g' (L ++ M) → AppP w w' v (.slice ao n cap) g g' → K (a.put o.dst (.slice ao n cap)) w') : o.wp Tryz.prog a w K Q := by
  obtain ⟨v', w', g', hr, h2, h3⟩ := run_appA (ty := o.type) hv hxv hle
  obtain ⟨ao, cap, rfl, _⟩ := id h2
  unfold Oper.wp execOp
  simp only [ho, resolve, invoke, builtin, Sem.run_bind, Sem.run_pure, Result.andThen_ok, List.map_toArray, List.map_cons, List.map_nil, hs, hx, hr]
  rw [List.length_append, hn] at h2 h3 ⊢
  exact h ao cap w' g' h2 h3
theorem wpList_appA {rest : List Oper} (hgd : o.guard = none) (s x : Operand) (ho : o.op = .call { callee := .builtin .append, args := #[s, x], argTypes := #[60, 60] })
    {v xv : Value} {g b : Nat} {L M : List At} (hs : a.eval s = v) (hx : a.eval x = xv) (hv : OwnA w v g L) (hxv : ViewA w xv b M) (hle : L.length + M.length ≤ 1000000) (n : Nat) (hn : L.length + M.length = n)
    (h : ∀ ao cap w' g', OwnA w' (.slice ao n cap) g' (L ++ M) → AppP w w' v (.slice ao n cap) g g' → wpList Tryz.prog ops Q rest (a.put o.dst (.slice ao n cap)) w') : wpList Tryz.prog ops Q (o :: rest) a w :=
  wpList_plain hgd fun _ hK => wp_appA s x ho hs hx hv hxv hle n hn fun ao cap w' g' h2 h3 => hK _ _ (h ao cap w' g' h2 h3)
theorem step_appA {K : Act → World → Prop} {E : Prop} (hgd : o.guard = none) (s x : Operand) (ho : o.op = .call { callee := .builtin .append, args := #[s, x], argTypes := #[60, 60] })
    {v xv : Value} {g b : Nat} {L M : List At} (hs : a.eval s = v) (hx : a.eval x = xv) (hv : OwnA w v g L) (hxv : ViewA w xv b M) (hle : L.length + M.length ≤ 1000000) (n : Nat) (hn : L.length + M.length = n)
    (h : ∀ ao cap w' g', OwnA w' (.slice ao n cap) g' (L ++ M) → AppP w w' v (.slice ao n cap) g g' → K (a.put o.dst (.slice ao n cap)) w') : if Region.wanted o (yielded ops a.tmps) = true then Oper.wp Tryz.prog o a w K Q else E := by
  have hw : Region.wanted o (yielded ops a.tmps) = true := by simp [Region.wanted, hgd]
  rw [if_pos hw]
  exact wp_appA s x ho hs hx hv hxv hle n hn h
end
theorem own_emptyA (w : World) (o : Obj) : OwnA (w.alloc o) (.slice (some ⟨w.heap.size, 0, none⟩) 0 0) w.heap.size [] :=
  ⟨_, 0, rfl, Nat.le_refl _, Nat.zero_le _, by simp, .inr ⟨0, rfl, fun j hj => by simp at hj, fun j hj => by simp at hj⟩⟩
theorem ViewA.alloc {w : World} {v : Value} {b : Nat} {L : List At} (h : ViewA w v b L) (o : Obj) : ViewA (w.alloc o) v b L := h.carry fun _ hb => Below.heap_alloc _ _ _ hb
theorem OwnA.alloc {w : World} {v : Value} {g : Nat} {L : List At} (h : OwnA w v g L) (o : Obj) : OwnA (w.alloc o) v g L := h.carry (Below.heap_alloc _ _ _ (by obtain ⟨_, _, _, _, _, h, _⟩ := h; exact h))
theorem ViewA.below {w w' : World} {v : Value} {b : Nat} {L : List At} (h : ViewA w v b L) (hb : Below w.heap.size w w') : ViewA w' v b L := h.carry fun _ h1 => hb.block _ h1
theorem own_nilA {w : World} {g : Nat} (h : g < w.heap.size) : OwnA w (.slice none 0 0) g [] := ⟨none, 0, rfl, Nat.le_refl _, Nat.zero_le _, h, .inl ⟨rfl, rfl⟩⟩
theorem own_emptyKA {w : World} {k : Nat} (hk : w.heap.size = k) (o : Obj) : OwnA (w.alloc o) (.slice (some ⟨k, 0, none⟩) 0 0) k [] := hk ▸ own_emptyA w o
theorem OwnA.lt {w : World} {v : Value} {g : Nat} {L : List At} (h : OwnA w v g L) : g < w.heap.size := by obtain ⟨_, _, _, _, _, h, _⟩ := h; exact h
theorem ViewA.fr {w w' : World} {v : Value} {b : Nat} {F : Nat → Prop} {L : List At} (h : ViewA w v b L) (hf : FrS F w w') (hn : L ≠ [] → ¬ F b) : ViewA w' v b L := h.carry fun h1 h2 => hf.block _ h2 (hn h1)
theorem ViewA.lt_of {w : World} {v : Value} {b : Nat} {L : List At} (h : ViewA w v b L) (hn : L ≠ []) : b < w.heap.size := by
  obtain ⟨_, _, _, _, _, h⟩ := h
  rcases h with h | ⟨_, _, h, _⟩
  · exact absurd h hn
  · exact h
theorem OwnA.below {w w' : World} {v : Value} {g : Nat} {L : List At} (h : OwnA w v g L) (hb : Below w.heap.size w w') : OwnA w' v g L := h.carry (hb.block _ h.lt)
theorem OwnA.fr {w w' : World} {v : Value} {g : Nat} {F : Nat → Prop} {L : List At} (h : OwnA w v g L) (hf : FrS F w w') (hn : ¬ F g) : OwnA w' v g L := h.carry (hf.block _ h.lt hn)
theorem view_nilA (w : World) (b : Nat) : ViewA w (.slice none 0 0) b [] := ⟨none, 0, rfl, Nat.le_refl _, Nat.zero_le _, .inl rfl⟩
theorem view_atA {w : World} {v : Value} {b : Nat} {L : List At} (h : ViewA w v b L) {ao : Option Addr} {n cap : Nat} (hv : v = .slice ao n cap) : n = L.length ∧ L.length ≤ cap ∧ cap ≤ maxLen ∧ ∀ j (hj : j < L.length), ∃ o, ao = some ⟨b, o, none⟩ ∧ b < w.heap.size ∧ w.cell? ⟨b, o + j * 3, none⟩ = some (.int .i64 L[j].b) ∧ w.cell? ⟨b, o + j * 3 + 1, none⟩ = some (.int .i64 L[j].n) ∧ w.cell? ⟨b, o + j * 3 + 2, none⟩ = some (.int .i64 L[j].s) := by
  obtain ⟨ao', cap', rfl, h1, h2, h3⟩ := h
  simp only [Value.slice.injEq] at hv
  obtain ⟨rfl, rfl, rfl⟩ := hv
  refine ⟨rfl, h1, h2, fun j hj => ?_⟩
  rcases h3 with rfl | ⟨o, rfl, h4, h5⟩
  · simp at hj
  · have q : ∀ c, c < 3 → w.cell? ⟨b, o + j * 3 + c, none⟩ = (atC L[j])[c]? := fun c hc => by rw [Nat.add_assoc, h5 _ (by omega), flatAt_at L j c hj hc]
    exact ⟨o, rfl, h4, q 0 (by omega), q 1 (by omega), q 2 (by omega)⟩
theorem own_atA {w : World} {v : Value} {b : Nat} {L : List At} (h : OwnA w v b L) {ao : Option Addr} {n cap : Nat} (hv : v = .slice ao n cap) (j : Nat) (hj : j < L.length) : ∃ o, ao = some ⟨b, o, none⟩ ∧ w.frozen? ⟨b, o + j * 3, none⟩ = false ∧ w.frozen? ⟨b, o + j * 3 + 1, none⟩ = false ∧ w.frozen? ⟨b, o + j * 3 + 2, none⟩ = false := by
  obtain ⟨ao', cap', rfl, h1, h2, h3, h4⟩ := h
  simp only [Value.slice.injEq] at hv
  obtain ⟨rfl, rfl, rfl⟩ := hv
  rcases h4 with ⟨rfl, rfl⟩ | ⟨o, rfl, h5, h6⟩
  · omega
  · have q : ∀ c, c < 3 → w.frozen? ⟨b, o + j * 3 + c, none⟩ = false := fun c hc => by rw [Nat.add_assoc]; exact (h6 _ (by omega)).2
    exact ⟨o, rfl, q 0 (by omega), q 1 (by omega), q 2 (by omega)⟩
abbrev setRA (w : World) (g k : Nat) (b : At) : World := (((w.setCell ⟨g, k, none⟩ (.int .i64 b.b)).setCell ⟨g, k + 1, none⟩ (.int .i64 b.n)).setCell ⟨g, k + 2, none⟩ (.int .i64 b.s))
theorem setRA_cells (w : World) (g k : Nat) (b : At) : setRA w g k b = w.setCells g k (atC b) := rfl
theorem flatAt_set (L : List At) (i : Nat) (b : At) (hi : i < L.length) (j : Nat) : (flatAt (L.set i b))[j]? = if i * 3 ≤ j ∧ j < i * 3 + 3 then (atC b)[j - i * 3]? else (flatAt L)[j]? := by
  have hl : (flatAt (L.set i b)).length = L.length * 3 := by rw [flatAt_length, List.length_set]
  have hl' := flatAt_length L
  by_cases hj : j < L.length * 3
  · have e : j = (j / 3) * 3 + j % 3 := by omega
    have h1 : j / 3 < L.length := by omega
    have h2 : j % 3 < 3 := by omega
    rw [e, flatAt_at _ _ _ (by rw [List.length_set]; exact h1) h2, flatAt_at _ _ _ h1 h2, List.getElem_set]
    by_cases c : i = j / 3
    · rw [if_pos c, if_pos (by omega), show (j / 3) * 3 + j % 3 - i * 3 = j % 3 by omega]
    · rw [if_neg c, if_neg (by omega)]
  · rw [if_neg (by omega), List.getElem?_eq_none (by omega), List.getElem?_eq_none (by omega)]
theorem own_setA {w : World} {v : Value} {g : Nat} {L : List At} (h : OwnA w v g L) {o n cap : Nat} (hv : v = .slice (some ⟨g, o, none⟩) n cap) (j : Nat) (hj : j < L.length) (b : At) : OwnA (setRA w g (o + j * 3) b) v g (L.set j b) ∧ FrS (· = g) w (setRA w g (o + j * 3) b) := by
  refine ⟨?_, by rw [setRA_cells]; exact setCells_frS g _ _ w⟩
  obtain ⟨ao', cap', rfl, h1, h2, h3, h4⟩ := h
  simp only [Value.slice.injEq] at hv
  obtain ⟨rfl, rfl, rfl⟩ := hv
  rcases h4 with ⟨h4, rfl⟩ | ⟨o', e, h5, h6⟩
  · cases h4
  · obtain rfl : o = o' := by simpa using e
    rw [setRA_cells]
    refine ⟨_, cap', by rw [List.length_set], by rw [List.length_set]; exact h1, h2, Nat.lt_of_lt_of_le h3 (setCells_frS g _ _ w).size, .inr ⟨o, rfl, fun i hi => ?_, fun i hi => ?_⟩⟩
    · rw [List.length_set] at hi
      rw [flatAt_set L j b hj]
      by_cases c : j * 3 ≤ i ∧ i < j * 3 + 3
      · have := World.cell?_setCells_in g (atC b) (o + j * 3) w (fun i hi => by rw [Nat.add_assoc]; rw [atC_len] at hi; exact (h6 _ (by omega)).1) (i - j * 3) (by rw [atC_len]; omega)
        rw [show o + j * 3 + (i - j * 3) = o + i by omega] at this
        rw [if_pos c, this, List.getElem?_eq_getElem]
      · rw [if_neg c, World.cell?_setCells_out _ _ _ _ _ (fun _ _ => by simp only [atC_len]; omega)]
        exact h5 i hi
    · exact ⟨World.isSome_setCells _ _ _ _ _ (h6 i hi).1, by rw [World.frozen?_setCells]; exact (h6 i hi).2⟩
theorem view_oneA (w : World) (l : At) : ViewA (w.alloc (.cells #[.int .i64 l.b, .int .i64 l.n, .int .i64 l.s] 113)) (.slice (some ⟨w.heap.size, 0, none⟩) 1 1) w.heap.size [l] :=
  ⟨_, 1, rfl, Nat.le_refl _, by decide, .inr ⟨0, rfl, by simp, fun j hj => by
    rw [Nat.zero_add]
    refine (cell_of_row _ _ _ _ _ _ (heap_alloc_new w _)).trans ?_
    have : j = 0 ∨ j = 1 ∨ j = 2 := by simp at hj; omega
    rcases this with rfl | rfl | rfl <;> rfl⟩⟩
structure Tb where
  A : List At
  O : Int → Int
def getA : List At → Int → At
  | [], _ => at0
  | x :: r, b => if x.b = b then x else getA r b
def hasA : List At → Int → Bool
  | [], _ => false
  | x :: r, b => if x.b = b then true else hasA r b
def insA : List At → At → List At
  | [], a => [a]
  | x :: r, a => if x.b < a.b then x :: insA r a else if x.b = a.b then a :: r else a :: x :: r
def delA : List At → Int → List At
  | [], _ => []
  | x :: r, b => if x.b = b then delA r b else x :: delA r b
abbrev tb0 : Tb := ⟨[], fun _ => 0⟩
def okA (T : Tb) (a : At) : Bool := decide (T.O a.b < a.s ∧ (getA T.A a.b).s < a.s)
def nxA (T : Tb) (a : At) : Tb := if okA T a = true then ⟨insA T.A a, T.O⟩ else T
def updO (O : Int → Int) (b s : Int) : Int → Int := fun k => if k = b then s else O k
def nxD (T : Tb) (b s : Int) : Tb := if s ≤ T.O b then T else ⟨if (getA T.A b).s ≤ s then delA T.A b else T.A, updO T.O b s⟩
def Sr (A : List At) : Prop := A.Pairwise fun x y => x.b < y.b
structure TInv (N : Nat) (T : Tb) : Prop where
  sr : Sr T.A
  pos : ∀ b, 0 ≤ T.O b
  ov : ∀ a ∈ T.A, T.O a.b < a.s
  rng : ∀ a ∈ T.A, I64 a.b
  len : T.A.length ≤ N
theorem TInv.mono {N M : Nat} {T : Tb} (h : TInv N T) (hM : N ≤ M) : TInv M T := ⟨h.sr, h.pos, h.ov, h.rng, Nat.le_trans h.len hM⟩
theorem hasA_iff (A : List At) (b : Int) : hasA A b = true ↔ ∃ x ∈ A, x.b = b := by
  induction A with
  | nil => simp [hasA]
  | cons x r ih =>
    simp only [hasA, List.mem_cons]
    by_cases c : x.b = b
    · simp only [if_pos c, true_iff]; exact ⟨x, .inl rfl, c⟩
    · rw [if_neg c, ih]
      constructor
      · rintro ⟨y, h1, h2⟩; exact ⟨y, .inr h1, h2⟩
      · rintro ⟨y, rfl | h1, h2⟩
        · exact absurd h2 c
        · exact ⟨y, h1, h2⟩
theorem getA_none {A : List At} {b : Int} (h : hasA A b = false) : getA A b = at0 := by
  induction A with
  | nil => rfl
  | cons x r ih =>
    simp only [hasA] at h
    by_cases c : x.b = b
    · rw [if_pos c] at h; cases h
    · rw [if_neg c] at h; rw [getA, if_neg c]; exact ih h
theorem getA_mem {A : List At} {b : Int} (h : hasA A b = true) : getA A b ∈ A ∧ (getA A b).b = b := by
  induction A with
  | nil => cases h
  | cons x r ih =>
    simp only [hasA] at h
    by_cases c : x.b = b
    · rw [getA, if_pos c]; exact ⟨by simp, c⟩
    · rw [if_neg c] at h
      rw [getA, if_neg c]
      exact ⟨List.mem_cons_of_mem _ (ih h).1, (ih h).2⟩
theorem getA_of_mem {A : List At} (hs : Sr A) {a : At} (h : a ∈ A) : getA A a.b = a := by
  induction A with
  | nil => cases h
  | cons x r ih =>
    have hs' := List.pairwise_cons.1 hs
    rcases List.mem_cons.1 h with rfl | h
    · rw [getA, if_pos rfl]
    · have := hs'.1 a h
      rw [getA, if_neg (by omega)]
      exact ih hs'.2 h
theorem getA_ins (A : List At) (a : At) (k : Int) : getA (insA A a) k = if k = a.b then a else getA A k := by
  induction A with
  | nil => by_cases c : k = a.b <;> simp [insA, getA, c, eq_comm]
  | cons x r ih =>
    simp only [insA]
    by_cases c1 : x.b < a.b
    · rw [if_pos c1]
      simp only [getA, ih]
      by_cases c : k = a.b
      · rw [if_pos c, if_pos c, if_neg (by omega)]
      · rw [if_neg c, if_neg c]
    · rw [if_neg c1]
      by_cases c2 : x.b = a.b
      · rw [if_pos c2]
        simp only [getA]
        by_cases c : k = a.b
        · rw [if_pos c, if_pos (by omega)]
        · rw [if_neg c, if_neg (by omega), if_neg (by omega)]
      · rw [if_neg c2]
        simp only [getA]
        by_cases c : k = a.b
        · rw [if_pos c, if_pos (by omega)]
        · rw [if_neg c, if_neg (fun e => c e.symm)]
theorem hasA_ins (A : List At) (a : At) (k : Int) : hasA (insA A a) k = (decide (k = a.b) || hasA A k) := by
  induction A with
  | nil => by_cases c : k = a.b <;> simp [insA, hasA, c, eq_comm]
  | cons x r ih =>
    simp only [insA]
    by_cases c1 : x.b < a.b
    · rw [if_pos c1]
      simp only [hasA, ih]
      by_cases c : x.b = k <;> simp [c]
    · rw [if_neg c1]
      by_cases c2 : x.b = a.b
      · rw [if_pos c2]
        simp only [hasA, c2]
        by_cases c : k = a.b
        · simp [c]
        · simp [c, show ¬ a.b = k from fun e => c e.symm]
      · rw [if_neg c2]
        simp only [hasA]
        by_cases c : k = a.b
        · simp [c]
        · simp [c, show ¬ a.b = k from fun e => c e.symm]
theorem mem_ins {A : List At} {a y : At} (h : y ∈ insA A a) : y = a ∨ y ∈ A := by
  induction A with
  | nil => simpa [insA] using h
  | cons x r ih =>
    simp only [insA] at h
    split at h
    · rcases List.mem_cons.1 h with rfl | h
      · exact .inr (by simp)
      · rcases ih h with h | h
        · exact .inl h
        · exact .inr (List.mem_cons_of_mem _ h)
    · split at h
      · rcases List.mem_cons.1 h with rfl | h
        · exact .inl rfl
        · exact .inr (List.mem_cons_of_mem _ h)
      · rcases List.mem_cons.1 h with rfl | h
        · exact .inl rfl
        · exact .inr h
theorem mem_ins_of {A : List At} {a y : At} (h : y = a ∨ (y ∈ A ∧ y.b ≠ a.b)) : y ∈ insA A a := by
  induction A with
  | nil => simpa [insA] using h
  | cons x r ih =>
    simp only [insA]
    split
    · rcases h with h | ⟨h, h2⟩
      · exact List.mem_cons_of_mem _ (ih (.inl h))
      · rcases List.mem_cons.1 h with rfl | h
        · simp
        · exact List.mem_cons_of_mem _ (ih (.inr ⟨h, h2⟩))
    · split
      · rename_i c1 c2
        rcases h with h | ⟨h, h2⟩
        · simp [h]
        · rcases List.mem_cons.1 h with rfl | h
          · exact absurd c2 h2
          · exact List.mem_cons_of_mem _ h
      · rcases h with h | ⟨h, h2⟩
        · simp [h]
        · exact List.mem_cons_of_mem _ h
theorem sr_ins {A : List At} (hs : Sr A) (a : At) : Sr (insA A a) := by
  induction A with
  | nil => exact List.pairwise_singleton _ _
  | cons x r ih =>
    have hs' := List.pairwise_cons.1 hs
    simp only [insA]
    split
    · rename_i c
      refine List.pairwise_cons.2 ⟨fun y hy => ?_, ih hs'.2⟩
      rcases mem_ins hy with rfl | hy
      · exact c
      · exact hs'.1 y hy
    · split
      · rename_i c1 c2
        exact List.pairwise_cons.2 ⟨fun y hy => by have := hs'.1 y hy; omega, hs'.2⟩
      · rename_i c1 c2
        refine List.pairwise_cons.2 ⟨fun y hy => ?_, hs⟩
        rcases List.mem_cons.1 hy with rfl | hy
        · omega
        · have := hs'.1 y hy; omega
theorem len_ins (A : List At) (a : At) : (insA A a).length ≤ A.length + 1 := by
  induction A with
  | nil => simp [insA]
  | cons x r ih =>
    simp only [insA]
    split
    · simp; omega
    · split <;> simp
theorem getA_del (A : List At) (b k : Int) : getA (delA A b) k = if k = b then at0 else getA A k := by
  induction A with
  | nil => by_cases c : k = b <;> simp [delA, getA]
  | cons x r ih =>
    simp only [delA]
    by_cases c1 : x.b = b
    · rw [if_pos c1, ih]
      by_cases c : k = b
      · simp [c]
      · rw [if_neg c, if_neg c, getA, if_neg (by omega)]
    · rw [if_neg c1]
      simp only [getA, ih]
      by_cases c : k = b
      · rw [if_pos c, if_pos c, if_neg (by omega)]
      · rw [if_neg c, if_neg c]
theorem mem_del {A : List At} {b : Int} {y : At} : y ∈ delA A b ↔ y ∈ A ∧ y.b ≠ b := by
  induction A with
  | nil => simp [delA]
  | cons x r ih =>
    simp only [delA]
    by_cases c : x.b = b
    · rw [if_pos c, ih, List.mem_cons]
      constructor
      · rintro ⟨h1, h2⟩; exact ⟨.inr h1, h2⟩
      · rintro ⟨rfl | h1, h2⟩
        · exact absurd c h2
        · exact ⟨h1, h2⟩
    · rw [if_neg c, List.mem_cons, ih, List.mem_cons]
      constructor
      · rintro (rfl | ⟨h1, h2⟩)
        · exact ⟨.inl rfl, c⟩
        · exact ⟨.inr h1, h2⟩
      · rintro ⟨rfl | h1, h2⟩
        · exact .inl rfl
        · exact .inr ⟨h1, h2⟩
theorem sr_del {A : List At} (hs : Sr A) (b : Int) : Sr (delA A b) := by
  induction A with
  | nil => exact hs
  | cons x r ih =>
    have hs' := List.pairwise_cons.1 hs
    simp only [delA]
    split
    · exact ih hs'.2
    · exact List.pairwise_cons.2 ⟨fun y hy => hs'.1 y (mem_del.1 hy).1, ih hs'.2⟩
theorem len_del (A : List At) (b : Int) : (delA A b).length ≤ A.length := by
  induction A with
  | nil => simp [delA]
  | cons x r ih =>
    simp only [delA]
    split
    · simp; omega
    · simpa using ih
theorem inv_new : TInv 0 tb0 := ⟨List.Pairwise.nil, fun _ => Int.le_refl _, fun _ h => (by cases h), fun _ h => (by cases h), Nat.le_refl _⟩
theorem inv_act {N : Nat} {T : Tb} (h : TInv N T) (a : At) (ha : I64 a.b) : TInv (N + 1) (nxA T a) := by
  unfold nxA
  by_cases c : okA T a = true
  · rw [if_pos c]
    have c' := c
    simp only [okA, decide_eq_true_eq] at c'
    refine ⟨sr_ins h.sr a, h.pos, fun y hy => ?_, fun y hy => ?_, Nat.le_trans (len_ins _ _) (Nat.add_le_add_right h.len 1)⟩
    · rcases mem_ins hy with rfl | hy
      · exact c'.1
      · exact h.ov y hy
    · rcases mem_ins hy with rfl | hy
      · exact ha
      · exact h.rng y hy
  · rw [if_neg c]
    exact h.mono (by omega)
theorem updO_same (O : Int → Int) (b s : Int) : updO O b s b = s := if_pos rfl
theorem updO_other (O : Int → Int) {b k : Int} (s : Int) (h : k ≠ b) : updO O b s k = O k := if_neg h
theorem inv_dea {N : Nat} {T : Tb} (h : TInv N T) (b s : Int) : TInv N (nxD T b s) := by
  unfold nxD
  have hp := h.pos b
  by_cases c : s ≤ T.O b
  · rw [if_pos c]; exact h
  · rw [if_neg c]
    refine ⟨?_, fun k => ?_, fun y hy => ?_, fun y hy => ?_, ?_⟩
    · dsimp only
      split
      · exact sr_del h.sr b
      · exact h.sr
    · show 0 ≤ updO T.O b s k
      by_cases e : k = b
      · rw [e, updO_same]; omega
      · rw [updO_other _ _ e]; exact h.pos k
    · dsimp only at hy
      split at hy
      · obtain ⟨h1, h2⟩ := mem_del.1 hy
        show updO T.O b s y.b < y.s
        rw [updO_other _ _ h2]; exact h.ov y h1
      · rename_i c2
        show updO T.O b s y.b < y.s
        by_cases e : y.b = b
        · have := getA_of_mem h.sr hy
          rw [e] at this
          rw [e, updO_same]
          rw [this] at c2
          omega
        · rw [updO_other _ _ e]; exact h.ov y hy
    · dsimp only at hy
      split at hy
      · exact h.rng y (mem_del.1 hy).1
      · exact h.rng y hy
    · dsimp only
      split
      · exact Nat.le_trans (len_del _ _) h.len
      · exact h.len
theorem seq_pos {N : Nat} {T : Tb} (h : TInv N T) (b : Int) : hasA T.A b = decide (0 < (getA T.A b).s) := by
  cases c : hasA T.A b
  · rw [getA_none c]; rfl
  · obtain ⟨h1, h2⟩ := getA_mem c
    have := h.ov _ h1
    have := h.pos (getA T.A b).b
    symm
    rw [decide_eq_true_eq]
    omega
theorem sr_ext : ∀ {A B : List At}, Sr A → Sr B → (∀ y, y ∈ A ↔ y ∈ B) → A = B
  | [], [], _, _, _ => rfl
  | [], y :: _, _, _, h => by have := (h y).2 (by simp); cases this
  | x :: _, [], _, _, h => by have := (h x).1 (by simp); cases this
  | x :: A, y :: B, ha, hb, h => by
    have ha' := List.pairwise_cons.1 ha
    have hb' := List.pairwise_cons.1 hb
    have e : x = y := by
      rcases List.mem_cons.1 ((h x).1 (by simp)) with e | h1
      · exact e
      · rcases List.mem_cons.1 ((h y).2 (by simp)) with e | h2
        · exact e.symm
        · have := hb'.1 x h1
          have := ha'.1 y h2
          omega
    subst e
    rw [sr_ext ha'.2 hb'.2 (fun z => ?_)]
    constructor
    · intro hz
      rcases List.mem_cons.1 ((h z).1 (List.mem_cons_of_mem _ hz)) with rfl | h1
      · have := ha'.1 z hz; omega
      · exact h1
    · intro hz
      rcases List.mem_cons.1 ((h z).2 (List.mem_cons_of_mem _ hz)) with rfl | h1
      · have := hb'.1 z hz; omega
      · exact h1
theorem mem_of_get {N : Nat} {T : Tb} (h : TInv N T) {y : At} : y ∈ T.A ↔ getA T.A y.b = y ∧ 0 < y.s := by
  constructor
  · intro hy
    have := h.ov y hy
    have := h.pos y.b
    exact ⟨getA_of_mem h.sr hy, by omega⟩
  · rintro ⟨h1, h2⟩
    have := seq_pos h y.b
    rw [h1] at this
    have := getA_mem (A := T.A) (b := y.b) (by rw [this]; exact decide_eq_true h2)
    rw [h1] at this
    exact this.1
theorem sr_keys {A : List At} (hs : Sr A) : (A.map At.b).Pairwise (· < ·) := List.pairwise_map.2 hs
theorem sort_rising {L : List Int} (h : L.Pairwise (· < ·)) : L.mergeSort (fun x y => decide (x ≤ y)) = L :=
  List.mergeSort_of_pairwise (h.imp fun h => by simp only [decide_eq_true_eq]; omega)
section
variable {w : World} {ops : Array Oper} {o : Oper} {a : Act} {Q : Exit → Act → World → Prop}
theorem wp_app {K : Act → World → Prop} (s x : Operand) (ho : o.op = .call { callee := .builtin .append, args := #[s, x], argTypes := #[99, 99] })
    {v xv : Value} {g b : Nat} {L M : List Int} (hs : a.eval s = v) (hx : a.eval x = xv) (hv : Own w v g L) (hxv : View w xv b M) (hle : L.length + M.length ≤ 1000000) (n : Nat) (hn : L.length + M.length = n)
    (h : ∀ ao cap w' g', Own w' (.slice ao n cap) g' (L ++ M) → AppP w w' v (.slice ao n cap) g g' → K (a.put o.dst (.slice ao n cap)) w') : o.wp Tryz.prog a w K Q := by
  obtain ⟨v', w', g', hr, h2, h3⟩ := run_app (ty := o.type) hv hxv hle
  obtain ⟨ao, cap, rfl, _⟩ := id h2
  unfold Oper.wp execOp
  simp only [ho, resolve, invoke, builtin, Sem.run_bind, Sem.run_pure, Result.andThen_ok, List.map_toArray, List.map_cons, List.map_nil, hs, hx, hr]
  rw [List.length_append, hn] at h2 h3 ⊢
  exact h ao cap w' g' h2 h3
theorem wpList_app {rest : List Oper} (hgd : o.guard = none) (s x : Operand) (ho : o.op = .call { callee := .builtin .append, args := #[s, x], argTypes := #[99, 99] })
    {v xv : Value} {g b : Nat} {L M : List Int} (hs : a.eval s = v) (hx : a.eval x = xv) (hv : Own w v g L) (hxv : View w xv b M) (hle : L.length + M.length ≤ 1000000) (n : Nat) (hn : L.length + M.length = n)
    (h : ∀ ao cap w' g', Own w' (.slice ao n cap) g' (L ++ M) → AppP w w' v (.slice ao n cap) g g' → wpList Tryz.prog ops Q rest (a.put o.dst (.slice ao n cap)) w') : wpList Tryz.prog ops Q (o :: rest) a w :=
  wpList_plain hgd fun _ hK => wp_app s x ho hs hx hv hxv hle n hn fun ao cap w' g' h2 h3 => hK _ _ (h ao cap w' g' h2 h3)
theorem step_app {K : Act → World → Prop} {E : Prop} (hgd : o.guard = none) (s x : Operand) (ho : o.op = .call { callee := .builtin .append, args := #[s, x], argTypes := #[99, 99] })
    {v xv : Value} {g b : Nat} {L M : List Int} (hs : a.eval s = v) (hx : a.eval x = xv) (hv : Own w v g L) (hxv : View w xv b M) (hle : L.length + M.length ≤ 1000000) (n : Nat) (hn : L.length + M.length = n)
    (h : ∀ ao cap w' g', Own w' (.slice ao n cap) g' (L ++ M) → AppP w w' v (.slice ao n cap) g g' → K (a.put o.dst (.slice ao n cap)) w') : if Region.wanted o (yielded ops a.tmps) = true then Oper.wp Tryz.prog o a w K Q else E := by
  have hw : Region.wanted o (yielded ops a.tmps) = true := by simp [Region.wanted, hgd]
  rw [if_pos hw]
  exact wp_app s x ho hs hx hv hxv hle n hn h
end
theorem own_empty (w : World) (o : Obj) : Own (w.alloc o) (.slice (some ⟨w.heap.size, 0, none⟩) 0 0) w.heap.size [] :=
  ⟨_, 0, rfl, Nat.le_refl _, Nat.zero_le _, by simp, .inr ⟨0, rfl, fun j hj => by simp at hj, fun j hj => by simp at hj⟩⟩
theorem own_nil {w : World} {g : Nat} (h : g < w.heap.size) : Own w (.slice none 0 0) g [] := ⟨none, 0, rfl, Nat.le_refl _, Nat.zero_le _, h, .inl ⟨rfl, rfl⟩⟩
theorem View.alloc {w : World} {v : Value} {b : Nat} {L : List Int} (h : View w v b L) (o : Obj) : View (w.alloc o) v b L := h.carry fun _ hb => Below.heap_alloc _ _ _ hb
theorem Own.alloc {w : World} {v : Value} {g : Nat} {L : List Int} (h : Own w v g L) (o : Obj) : Own (w.alloc o) v g L := h.carry (Below.heap_alloc _ _ _ h.lt)
theorem View.below {w w' : World} {v : Value} {b : Nat} {L : List Int} (h : View w v b L) (hb : Below w.heap.size w w') : View w' v b L := h.carry fun _ h1 => hb.block _ h1
theorem View.fr {w w' : World} {v : Value} {b : Nat} {F : Nat → Prop} {L : List Int} (h : View w v b L) (hf : FrS F w w') (hn : L ≠ [] → ¬ F b) : View w' v b L := h.carry fun h1 h2 => hf.block _ h2 (hn h1)
theorem Own.below {w w' : World} {v : Value} {g : Nat} {L : List Int} (h : Own w v g L) (hb : Below w.heap.size w w') : Own w' v g L := h.carry (hb.block _ h.lt)
theorem Own.fr {w w' : World} {v : Value} {g : Nat} {F : Nat → Prop} {L : List Int} (h : Own w v g L) (hf : FrS F w w') (hn : ¬ F g) : Own w' v g L := h.carry (hf.block _ h.lt hn)
theorem view_nil (w : World) (b : Nat) : View w (.slice none 0 0) b [] := ⟨none, 0, rfl, Nat.le_refl _, Nat.zero_le _, .inl rfl⟩
theorem view_at {w : World} {v : Value} {b : Nat} {L : List Int} (h : View w v b L) {ao : Option Addr} {n cap : Nat} (hv : v = .slice ao n cap) : n = L.length ∧ L.length ≤ cap ∧ cap ≤ maxLen ∧ ∀ j (hj : j < L.length), ∃ o, ao = some ⟨b, o, none⟩ ∧ b < w.heap.size ∧ w.cell? ⟨b, o + j, none⟩ = some (.int .i64 L[j]) := by
  obtain ⟨ao', cap', e, h1, h2, h3⟩ := h
  rw [hv] at e
  simp only [Value.slice.injEq] at e
  obtain ⟨rfl, rfl, rfl⟩ := e
  refine ⟨rfl, h1, h2, fun j hj => ?_⟩
  rcases h3 with rfl | ⟨o, rfl, h4, h5⟩
  · simp at hj
  · exact ⟨o, rfl, h4, (h5 j hj).trans (ints_at L j hj)⟩
def CloneP (w w' : World) (ao : Option Addr) (cap : Nat) (L : List Int) : Prop :=
  Below w.heap.size w w' ∧ ((ao = none ∧ L = [] ∧ cap = 0) ∨ ∃ g, w.heap.size ≤ g ∧ Own w' (.slice ao L.length cap) g L)
set_option maxHeartbeats 1000000 in
theorem clone_c (v : Value) (b : Nat) (L : List Int) (w : World) (h : View w v b L) (hl : L.length ≤ 100000) : Calls Tryz.prog 139 #[v] w fun e w' => ∃ ao cap, e = .returned (.slice ao L.length cap) ∧ CloneP w w' ao cap L := by
  have h' := hide h
  have q : ∀ (w : World) (a : Option Addr) (n c n' c' : Nat), (binOp .eql 99 (.slice a n c) (.slice none n' c')).run Tryz.prog w = .ok (.bool a.isNone) w := fun w a n c n' c' => Lib.run_eql_slice_nil w _ _ a n c n' c' Tryz.underlying99
  obtain ⟨ao, cap, rfl, h1, h2, h3⟩ := h
  cases ao with
  | none =>
    obtain rfl : L = [] := by rcases h3 with h3 | ⟨_, h4, _⟩; exact h3; cases h4
    clear h3
    go_enter Tryz.func139, Tryz.ntmps139
    go_wp2
    go_ret
    exact ⟨none, 0, rfl, Below.refl _ _, .inl ⟨rfl, rfl, rfl⟩⟩
  | some a =>
    clear h3
    go_enter Tryz.func139, Tryz.ntmps139
    go_wp2_with (at_builtin; refine wpList_app rfl _ _ rfl rfl rfl (own_empty _ _) ((unhide h').alloc _) (by simp; omega) L.length (by simp) ?_; intro ao' cap' w' g' hown hap; replace hown := hide hown; replace hap := hide hap)
    go_ret
    refine ⟨ao', cap', by simp, ?_, .inr ⟨g', ?_, ?_⟩⟩
    · exact ((Below.refl _ _).alloc (Nat.le_refl _) _).trans ((unhide hap).fr.below (fun i hi => by rw [hi]; exact Nat.le_refl _) (by simp))
    · have := (unhide hap).lies; simp at this; omega
    · simpa using unhide hown
def idxF : List Int → Int → Int
  | [], _ => -1
  | y :: r, x => if x = y then 0 else if idxF r x = -1 then -1 else idxF r x + 1
theorem idxF_bd (L : List Int) (x : Int) : -1 ≤ idxF L x ∧ idxF L x < L.length := by
  induction L with
  | nil => simp [idxF]
  | cons y r ih => simp only [idxF, List.length_cons]; split; omega; split <;> omega
theorem idxF_neg (L : List Int) (x : Int) : idxF L x = -1 ↔ x ∉ L := by
  induction L with
  | nil => simp [idxF]
  | cons y r ih =>
    have := idxF_bd r x
    simp only [idxF, List.mem_cons, not_or]
    split
    · simp_all
    · rename_i c
      split
      · rename_i c2; simp [c, ih.1 c2]
      · rename_i c2
        constructor
        · intro h; omega
        · intro h; exact absurd (ih.2 h.2) c2
theorem idxF_erase (L : List Int) (x : Int) (h : x ∈ L) : L.eraseIdx (idxF L x).toNat = L.erase x := by
  induction L with
  | nil => simp at h
  | cons y r ih =>
    simp only [idxF]
    split
    · rename_i c; subst c; simp
    · rename_i c
      have hr : x ∈ r := by simpa [c] using h
      have := idxF_bd r x
      have hn : ¬ idxF r x = -1 := fun e => (idxF_neg r x).1 e hr
      rw [if_neg hn, show (idxF r x + 1).toNat = (idxF r x).toNat + 1 by omega, List.eraseIdx_cons_succ, ih hr, List.erase_cons_tail (by simpa using fun e : y = x => c e.symm)]
theorem idxF_at (L : List Int) (x : Int) (j : Nat) (hj : j < L.length) (ha : ∀ i (hi : i < j), L[i]'(by omega) ≠ x) (he : L[j] = x) : idxF L x = j := by
  induction L generalizing j with
  | nil => simp at hj
  | cons y r ih =>
    cases j with
    | zero => simp at he; simp [idxF, he]
    | succ j =>
      have c : x ≠ y := fun e => ha 0 (by omega) (by simpa using e.symm)
      have := ih j (by simpa using hj) (fun i hi => by have := ha (i + 1) (by omega); simpa using this) (by simpa using he)
      simp only [idxF, if_neg c, this]
      rw [if_neg (by omega)]
      simp
theorem idxF_none (L : List Int) (x : Int) (ha : ∀ i (hi : i < L.length), L[i] ≠ x) : idxF L x = -1 := by
  rw [idxF_neg]
  intro h
  obtain ⟨i, hi, e⟩ := List.mem_iff_getElem.1 h
  exact ha i hi e
set_option maxHeartbeats 1000000 in
theorem index_c (v : Value) (b : Nat) (L : List Int) (x : Int) (w : World) (h : View w v b L) : Calls Tryz.prog 164 #[v, .int .i64 x] w fun e w' => e = .returned (.int .i64 (idxF L x)) ∧ w' = w := by
  have hv := hide h
  obtain ⟨r, hr⟩ : ∃ r, Hid (idxF L x = r) := ⟨_, rfl⟩
  rw [hr.out]
  obtain ⟨ao, cap, rfl, h1, h2, h3⟩ := h
  have hmx : L.length ≤ 9223372036854775807 := by unfold maxLen at h2; omega
  clear h3 h2
  go_enter Tryz.func164, Tryz.ntmps164
  go_wp2_with fail
  go_loopw [8] (fun i wr => ∃ j : Nat, j ≤ L.length ∧ i = .int .i64 j ∧ wr = w ∧ ∀ i (hi : i < L.length), i < j → L[i] ≠ x) (fun i _ => L.length - (intOf i).toNat)
  case atStart => exact ⟨0, Nat.zero_le _, rfl, rfl, fun i _ hi => absurd hi (Nat.not_lt_zero _)⟩
  case round =>
    obtain ⟨j, hj, rfl, rfl, ha⟩ := hrel
    by_cases hlt : j < L.length
    · obtain ⟨_, _, _, hc⟩ := view_at (unhide hv) rfl
      obtain ⟨o, rfl, hb, hcell⟩ := hc j hlt
      obtain ⟨y, hy⟩ : ∃ y, L[j] = y := ⟨_, rfl⟩
      rw [hy] at hcell
      have ha' := hide ha
      have hlt' : (j : Int) < L.length := by omega
      clear ha hc
      by_cases c : x = y
      · subst c
        go_wp2_with fail
        go_ret
        refine ⟨?_, rfl⟩
        rw [← hr.out, idxF_at L x j hlt (fun i hi => unhide ha' i (by omega) hi) hy]; rfl
      · have hy' := hide hy
        clear hy
        go_wp2_with fail
        go_roundw
        case rel =>
          refine ⟨j + 1, by omega, by simp, trivial, fun i hi hij => ?_⟩
          by_cases e : i = j
          · subst e; rw [unhide hy']; exact fun e => c e.symm
          · exact unhide ha' i hi (by omega)
        case measure => simp [intOf]; omega
    · obtain rfl : j = L.length := by omega
      have ha' := hide ha
      clear ha
      go_wp2_with fail
      go_ret
      refine ⟨?_, rfl⟩
      rw [← hr.out, idxF_none L x (fun i hi => unhide ha' i hi hi)]; rfl
set_option maxHeartbeats 400000 in
theorem contains_c (v : Value) (b : Nat) (L : List Int) (x : Int) (w : World) (h : View w v b L) : Calls Tryz.prog 184 #[v, .int .i64 x] w fun e w' => e = .returned (.bool (decide (x ∈ L))) ∧ w' = w := by
  have hv := hide h
  obtain ⟨ao, cap, rfl, h1, h2, h3⟩ := h
  clear h3 h2
  have hbd := idxF_bd L x
  obtain ⟨q, hq⟩ : ∃ q, decide (x ∈ L) = q := ⟨_, rfl⟩
  obtain ⟨i, hi⟩ : ∃ i, Hid (idxF L x = i) := ⟨_, rfl⟩
  rw [hq]
  have e : (i = -1 ∧ q = false) ∨ (0 ≤ i ∧ q = true) := by
    have := idxF_neg L x
    rw [hi.out] at this hbd
    by_cases c : x ∈ L
    · right; rw [← hq]; simp [c] at this ⊢; omega
    · left; rw [← hq]; simp [c] at this ⊢; exact this
  clear hq hbd
  rcases e with ⟨rfl, rfl⟩ | ⟨e, rfl⟩
  all_goals
    go_enter Tryz.func184, Tryz.ntmps184
    go_wp2_with (go_at_call 164; refine (index_c _ b L x _ (unhide hv)).mono ?_; rw [hi.out]; rintro e w' ⟨rfl, rfl⟩)
    go_ret
    exact ⟨rfl, rfl⟩
end Go.Proofs.YtoenjdnccgmhoaaGreatDoor
