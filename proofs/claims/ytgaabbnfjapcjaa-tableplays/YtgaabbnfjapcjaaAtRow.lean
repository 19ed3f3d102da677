/- Slices of api.Active in memory (3 cells a row), and what append makes of them. Written by wip/genrows.py. -/
import Derived.Test.YtgaabbnfjapcjaaRows
import Derived.Test.YtgaabbnfjapcjaaFrSet
import Derived.Deep.AppendSrc
import Derived.Deep.Upon
import Derived.Deep.RegionLaw
import Derived.Deep.MidRow
import Derived.Deep.RegionHeld3
import Derived.Lib.SliceRun
namespace Go.Proofs.Ytgaabbnfjapcjaa
open Go.ChangeShapes Go.WideShapes Go.ChangeAt Go.RowKit
set_option linter.unusedSimpArgs false
set_option linter.unusedVariables false
set_option maxRecDepth 10000

attribute [local go_sem, local simp] over_const setCell_drewN alloc_drewN Over.cell Over.frozen lt_s1 lt_s2 lt_s3 le_s0 le_s1 le_s2 le_s3 eq_s0 eq_s1 eq_s2 qe_s0

structure At where
  b : Int
  n : Int
  s : Int

abbrev atV (l : At) : Value := .agg #[.int .i64 l.b, .int .i64 l.n, .int .i64 l.s]
abbrev at0 : At := ⟨0, 0, 0⟩
def atC (l : At) : List Value := [.int .i64 l.b, .int .i64 l.n, .int .i64 l.s]

theorem atC_len (l : At) : (atC l).length = 3 := rfl
/-- The cells of rows, one behind the other. -/
def flatAt (L : List At) : List Value := L.flatMap atC

theorem flatAt_nil : flatAt [] = [] := rfl
theorem flatAt_cons (l : At) (L : List At) : flatAt (l :: L) = atC l ++ flatAt L := by simp [flatAt]
theorem flatAt_append (L M : List At) : flatAt (L ++ M) = flatAt L ++ flatAt M := by simp [flatAt]
theorem flatAt_length (L : List At) : (flatAt L).length = L.length * 3 := by
  induction L with
  | nil => rfl
  | cons l L ih => rw [flatAt_cons, List.length_append, ih, atC_len]; simp; omega

theorem flatAt_at (L : List At) (i c : Nat) (hi : i < L.length) (hc : c < 3) : (flatAt L)[i * 3 + c]? = (atC L[i])[c]? := by
  induction L generalizing i with
  | nil => simp at hi
  | cons l L ih =>
    rw [flatAt_cons]
    cases i with
    | zero => rw [List.getElem?_append_left (by rw [atC_len]; omega)]; simp
    | succ i =>
      rw [List.getElem?_append_right (by rw [atC_len]; omega), atC_len, show (i + 1) * 3 + c - 3 = i * 3 + c by omega]
      exact ih i (by simpa using hi)

theorem flatAt_one (L : List At) : ∀ u ∈ flatAt L, u.oneCell' = true := by
  intro u hu
  obtain ⟨l, _, hl⟩ := List.mem_flatMap.1 hu
  simp [atC] at hl
  rcases hl with rfl | rfl | rfl <;> rfl

theorem flatAt_take (L : List At) (i : Nat) (hi : i ≤ L.length) : flatAt (L.take i) = (flatAt L).take (i * 3) := by
  have h := congrArg flatAt (List.take_append_drop i L)
  rw [flatAt_append] at h
  rw [← h, List.take_left' (by rw [flatAt_length, List.length_take]; omega)]

theorem flatAt_drop (L : List At) (i : Nat) (hi : i ≤ L.length) : flatAt (L.drop i) = (flatAt L).drop (i * 3) := by
  have h := congrArg flatAt (List.take_append_drop i L)
  rw [flatAt_append] at h
  rw [← h, List.drop_left' (by rw [flatAt_length, List.length_take]; omega)]

theorem infoA : (Try.prog.info? 31).map (fun i => (i.zero, i.size, i.bytes)) = some (some (atV at0), 3, 24) := by kernel_rfl

/-- A slice value of the rows L, which lie in block b (if there are any). -/
def ViewA (w : World) (v : Value) (b : Nat) (L : List At) : Prop :=
  ∃ ao cap, v = .slice ao L.length cap ∧ L.length ≤ cap ∧ cap ≤ maxLen ∧
    (L = [] ∨ ∃ o, ao = some ⟨b, o, none⟩ ∧ b < w.heap.size ∧ ∀ j, j < L.length * 3 → w.cell? ⟨b, o + j, none⟩ = (flatAt L)[j]?)

/-- The same, all its room in block g, which may be written. -/
def OwnA (w : World) (v : Value) (g : Nat) (L : List At) : Prop :=
  ∃ ao cap, v = .slice ao L.length cap ∧ L.length ≤ cap ∧ cap ≤ maxLen ∧ g < w.heap.size ∧
    ((ao = none ∧ cap = 0) ∨ ∃ o, ao = some ⟨g, o, none⟩ ∧ (∀ j, j < L.length * 3 → w.cell? ⟨g, o + j, none⟩ = (flatAt L)[j]?) ∧
      ∀ j, j < cap * 3 → (w.cell? ⟨g, o + j, none⟩).isSome = true ∧ w.frozen? ⟨g, o + j, none⟩ = false)

theorem OwnA.view {w : World} {v : Value} {g : Nat} {L : List At} (h : OwnA w v g L) : ViewA w v g L := by
  obtain ⟨ao, cap, rfl, h1, h2, h3, h4⟩ := h
  refine ⟨ao, cap, rfl, h1, h2, ?_⟩
  rcases h4 with ⟨_, rfl⟩ | ⟨o, rfl, h5, _⟩
  · left; exact List.eq_nil_of_length_eq_zero (by omega)
  · exact .inr ⟨o, rfl, h3, h5⟩

theorem ViewA.carry {w w' : World} {v : Value} {b : Nat} {L : List At} (h : ViewA w v b L) (hb : L ≠ [] → b < w.heap.size → w'.heap[b]? = w.heap[b]?) : ViewA w' v b L := by
  obtain ⟨ao, cap, rfl, h1, h2, h3⟩ := h
  refine ⟨ao, cap, rfl, h1, h2, ?_⟩
  by_cases hn : L = []
  · exact .inl hn
  rcases h3 with h3 | ⟨o, rfl, h4, h5⟩
  · exact .inl h3
  · have e := hb hn h4
    refine .inr ⟨o, rfl, ?_, fun j hj => (World.cell?_of_block (w := w) e).trans (h5 j hj)⟩
    rw [Array.getElem?_eq_getElem h4] at e
    exact (Array.getElem?_eq_some_iff.1 e).1

theorem OwnA.carry {w w' : World} {v : Value} {g : Nat} {L : List At} (h : OwnA w v g L) (e : w'.heap[g]? = w.heap[g]?) : OwnA w' v g L := by
  obtain ⟨ao, cap, rfl, h1, h2, h3, h4⟩ := h
  refine ⟨ao, cap, rfl, h1, h2, ?_, ?_⟩
  · rw [Array.getElem?_eq_getElem h3] at e
    exact (Array.getElem?_eq_some_iff.1 e).1
  · rcases h4 with h4 | ⟨o, rfl, h5, h6⟩
    · exact .inl h4
    · exact .inr ⟨o, rfl, fun j hj => (World.cell?_of_block (w := w) e).trans (h5 j hj), fun j hj => ⟨by rw [World.cell?_of_block (w := w) (a := ⟨g, o + j, none⟩) e]; exact (h6 j hj).1, (World.frozen?_of_block (w := w) e).trans (h6 j hj).2⟩⟩

theorem ViewA.src {w : World} {v : Value} {b : Nat} {L : List At} (h : ViewA w v b L) : Src Try.prog 3 27 v L.length (flatAt L) w := by
  obtain ⟨ao, cap, rfl, h1, h2, h3⟩ := h
  rcases h3 with rfl | ⟨o, rfl, h4, h5⟩
  · cases ao with
    | none => exact Src.ofNil _ Try.underlying27 cap
    | some a => exact Src.ofSlice _ Try.underlying27 a 0 cap [] rfl (by simp) (by simp)
  · refine Src.ofSlice _ Try.underlying27 _ _ cap _ (flatAt_length L) (fun j u hu => ?_) (flatAt_one L)
    rw [Addr.add_lit, h5 j (by rw [← flatAt_length]; exact (List.getElem?_eq_some_iff.1 hu).1)]
    exact hu

/-- append, whichever arm. -/
theorem run_appA {ty : TypeId} {w : World} {v x : Value} {g b : Nat} {L M : List At} (hv : OwnA w v g L) (hx : ViewA w x b M) (hs : L.length + M.length ≤ 1000000) :
    ∃ v' w' g', (Builtin.append_ #[27, 27] ty #[v, x]).run Try.prog w = .ok v' w' ∧ OwnA w' v' g' (L ++ M) ∧ AppP w w' v v' g g' := by
  obtain ⟨i0, hi, hz0, hz1, hz2⟩ := info_parts infoA
  have hsrc := hx.src
  obtain ⟨ao, cap, rfl, hle, hmx, hg, hown⟩ := hv
  rw [← hz1] at hsrc
  by_cases room : L.length + M.length ≤ cap
  · rcases hown with ⟨rfl, rfl⟩ | ⟨o, rfl, hc, hsp⟩
    · have e1 : L = [] := List.eq_nil_of_length_eq_zero (by omega)
      have e2 : M = [] := List.eq_nil_of_length_eq_zero (by omega)
      subst e1 e2
      exact ⟨_, _, g, run_append_nothing w _ _ ty _ i0 Try.underlying27 hi none 0 0 (Nat.le_refl _) x hsrc, ⟨none, 0, rfl, Nat.le_refl _, Nat.zero_le _, hg, .inl ⟨rfl, rfl⟩⟩, ⟨FrS.refl _ _, fun _ => Below.refl _ _, .inl rfl, fun _ _ => rfl⟩⟩
    · have hr := run_append_room_src (P := Try.prog) w 27 27 ty _ i0 Try.underlying27 hi g o L.length cap x M.length (flatAt M) hsrc room
        (fun j hj => by rw [hz1, Nat.add_assoc]; rw [flatAt_length] at hj; exact (hsp _ (by omega)).1) (fun j hj => by rw [hz1, Nat.add_assoc]; rw [flatAt_length] at hj; exact (hsp _ (by omega)).2)
      rw [hz1] at hr
      refine ⟨_, _, g, hr, ⟨some ⟨g, o, none⟩, cap, by simp, by simpa using room, hmx, ?_, .inr ⟨o, rfl, fun j hj => ?_, fun j hj => ?_⟩⟩, ⟨setCells_frS g _ _ w, fun h => (by cases h), .inl rfl, fun _ h => (by cases h)⟩⟩
      · exact Nat.lt_of_lt_of_le hg (setCells_frS g _ _ w).size
      · rw [flatAt_append]
        by_cases hj' : j < L.length * 3
        · rw [World.cell?_setCells_out _ _ _ _ _ (fun _ _ => .inl (by simp; omega)), hc j hj', List.getElem?_append_left (by rw [flatAt_length]; exact hj')]
        · rw [List.getElem?_append_right (by rw [flatAt_length]; omega), flatAt_length]
          simp at hj
          have := World.cell?_setCells_in g (flatAt M) (o + L.length * 3) w (fun i hi => by rw [Nat.add_assoc]; rw [flatAt_length] at hi; exact (hsp _ (by omega)).1) (j - L.length * 3) (by rw [flatAt_length]; omega)
          rw [show o + L.length * 3 + (j - L.length * 3) = o + j by omega] at this
          rw [this, List.getElem?_eq_getElem]
      · exact ⟨World.isSome_setCells _ _ _ _ _ (hsp j hj).1, by rw [World.frozen?_setCells]; exact (hsp j hj).2⟩
  · have hold : (Builtin.firstCells i0.size L.length (.slice ao L.length cap)).run Try.prog w.drew = .ok (flatAt L).toArray w.drew := by
      rcases hown with ⟨rfl, rfl⟩ | ⟨o, rfl, hc, hsp⟩
      · have e1 : L = [] := List.eq_nil_of_length_eq_zero (by omega)
        subst e1
        exact run_firstCells_none w.drew i0.size 0 0 0
      · refine run_firstCells_some w.drew i0.size L.length ⟨g, o, none⟩ L.length cap (flatAt L) (by rw [hz1, flatAt_length]) (fun j u hu => ?_)
        rw [Addr.add_lit]
        exact (hc j (by rw [← flatAt_length]; exact (List.getElem?_eq_some_iff.1 hu).1)).trans hu
    have hr := run_append_grow_src (P := Try.prog) w 27 27 ty _ i0 _ Try.underlying27 hi hz0 ao L.length cap (flatAt L) hold x M.length (flatAt M) hsrc (by omega) (by omega) (growslice_fits (by omega) (by rw [hz2]; omega))
    have hge := grownCap_ge w (L.length + M.length) cap 31
    have hcm : grownCap w (L.length + M.length) cap 31 ≤ maxLen := grownCap_le_maxLen w _ cap 31 (by simp only [maxLen]; omega)
    have hnew := heap_alloc_new w.drew (Obj.cells ((flatAt L ++ flatAt M).toArray ++ Builtin.zeroCells (atV at0).cells (grownCap w (L.length + M.length) cap 31 - (L.length + M.length))) 31)
    have hcell := fun j => cell_of_row _ w.drew.heap.size j _ _ _ hnew
    have hsz : ((flatAt L ++ flatAt M).toArray ++ Builtin.zeroCells (atV at0).cells (grownCap w (L.length + M.length) cap 31 - (L.length + M.length))).size = grownCap w (L.length + M.length) cap 31 * 3 := by
      rw [Array.size_append, size_zeroCells]
      simp [flatAt_length, atV, Value.cells]
      omega
    refine ⟨_, _, w.heap.size, hr, ⟨some ⟨w.heap.size, 0, none⟩, _, by simp, by simpa using hge, hcm, by simp, .inr ⟨0, rfl, fun j hj => ?_, fun j hj => ?_⟩⟩, ⟨⟨rfl, rfl, rfl, by simp, fun k hk _ => Below.heap_alloc w.drew _ k hk⟩, fun _ => ⟨rfl, rfl, rfl, by simp, fun k hk => Below.heap_alloc w.drew _ k hk⟩, .inr (Nat.le_refl _), fun e => by omega⟩⟩
    · rw [Nat.zero_add]
      refine (hcell j).trans ?_
      rw [Array.getElem?_append_left (by simp [flatAt_length] at hj ⊢; omega), flatAt_append]
      simp
    · rw [Nat.zero_add]
      refine ⟨?_, ?_⟩
      · have := hcell j
        rw [Array.getElem?_eq_getElem (by rw [hsz]; exact hj)] at this
        exact Option.isSome_iff_exists.2 ⟨_, this⟩
      · have h2 := hnew
        simp only [World.frozen?]
        rw [show w.heap.size = w.drew.heap.size from rfl, h2]
        simp
section
variable {w : World} {ops : Array Oper} {o : Oper} {a : Act} {Q : Exit → Act → World → Prop}

theorem wp_appA {K : Act → World → Prop} (s x : Operand) (ho : o.op = .call { callee := .builtin .append, args := #[s, x], argTypes := #[27, 27] })
    {v xv : Value} {g b : Nat} {L M : List At} (hs : a.eval s = v) (hx : a.eval x = xv) (hv : OwnA w v g L) (hxv : ViewA w xv b M) (hle : L.length + M.length ≤ 1000000) (n : Nat) (hn : L.length + M.length = n)
    (h : ∀ ao cap w' g', OwnA w' (.slice ao n cap) g' (L ++ M) → AppP w w' v (.slice ao n cap) g g' → K (a.put o.dst (.slice ao n cap)) w') : o.wp Try.prog a w K Q := by
  obtain ⟨v', w', g', hr, h2, h3⟩ := run_appA (ty := o.type) hv hxv hle
  obtain ⟨ao, cap, rfl, _⟩ := id h2
  unfold Oper.wp execOp
  simp only [ho, resolve, invoke, builtin, Sem.run_bind, Sem.run_pure, Result.andThen_ok, List.map_toArray, List.map_cons, List.map_nil, hs, hx, hr]
  rw [List.length_append, hn] at h2 h3 ⊢
  exact h ao cap w' g' h2 h3

theorem wpList_appA {rest : List Oper} (hgd : o.guard = none) (s x : Operand) (ho : o.op = .call { callee := .builtin .append, args := #[s, x], argTypes := #[27, 27] })
    {v xv : Value} {g b : Nat} {L M : List At} (hs : a.eval s = v) (hx : a.eval x = xv) (hv : OwnA w v g L) (hxv : ViewA w xv b M) (hle : L.length + M.length ≤ 1000000) (n : Nat) (hn : L.length + M.length = n)
    (h : ∀ ao cap w' g', OwnA w' (.slice ao n cap) g' (L ++ M) → AppP w w' v (.slice ao n cap) g g' → wpList Try.prog ops Q rest (a.put o.dst (.slice ao n cap)) w') : wpList Try.prog ops Q (o :: rest) a w :=
  wpList_plain hgd fun _ hK => wp_appA s x ho hs hx hv hxv hle n hn fun ao cap w' g' h2 h3 => hK _ _ (h ao cap w' g' h2 h3)

theorem step_appA {K : Act → World → Prop} {E : Prop} (hgd : o.guard = none) (s x : Operand) (ho : o.op = .call { callee := .builtin .append, args := #[s, x], argTypes := #[27, 27] })
    {v xv : Value} {g b : Nat} {L M : List At} (hs : a.eval s = v) (hx : a.eval x = xv) (hv : OwnA w v g L) (hxv : ViewA w xv b M) (hle : L.length + M.length ≤ 1000000) (n : Nat) (hn : L.length + M.length = n)
    (h : ∀ ao cap w' g', OwnA w' (.slice ao n cap) g' (L ++ M) → AppP w w' v (.slice ao n cap) g g' → K (a.put o.dst (.slice ao n cap)) w') : if Region.wanted o (yielded ops a.tmps) = true then Oper.wp Try.prog o a w K Q else E := by
  have hw : Region.wanted o (yielded ops a.tmps) = true := by simp [Region.wanted, hgd]
  rw [if_pos hw]
  exact wp_appA s x ho hs hx hv hxv hle n hn h
end

theorem own_emptyA (w : World) (o : Obj) : OwnA (w.alloc o) (.slice (some ⟨w.heap.size, 0, none⟩) 0 0) w.heap.size [] :=
  ⟨_, 0, rfl, Nat.le_refl _, Nat.zero_le _, by simp, .inr ⟨0, rfl, fun j hj => by simp at hj, fun j hj => by simp at hj⟩⟩

theorem ViewA.alloc {w : World} {v : Value} {b : Nat} {L : List At} (h : ViewA w v b L) (o : Obj) : ViewA (w.alloc o) v b L := h.carry fun _ hb => Below.heap_alloc _ _ _ hb
theorem OwnA.alloc {w : World} {v : Value} {g : Nat} {L : List At} (h : OwnA w v g L) (o : Obj) : OwnA (w.alloc o) v g L := h.carry (Below.heap_alloc _ _ _ (by obtain ⟨_, _, _, _, _, h, _⟩ := h; exact h))
theorem ViewA.below {w w' : World} {v : Value} {b : Nat} {L : List At} (h : ViewA w v b L) (hb : Below w.heap.size w w') : ViewA w' v b L := h.carry fun _ h1 => hb.block _ h1

theorem own_nilA {w : World} {g : Nat} (h : g < w.heap.size) : OwnA w (.slice none 0 0) g [] := ⟨none, 0, rfl, Nat.le_refl _, Nat.zero_le _, h, .inl ⟨rfl, rfl⟩⟩
theorem own_emptyKA {w : World} {k : Nat} (hk : w.heap.size = k) (o : Obj) : OwnA (w.alloc o) (.slice (some ⟨k, 0, none⟩) 0 0) k [] := hk ▸ own_emptyA w o
theorem OwnA.lt {w : World} {v : Value} {g : Nat} {L : List At} (h : OwnA w v g L) : g < w.heap.size := by obtain ⟨_, _, _, _, _, h, _⟩ := h; exact h
theorem ViewA.fr {w w' : World} {v : Value} {b : Nat} {F : Nat → Prop} {L : List At} (h : ViewA w v b L) (hf : FrS F w w') (hn : L ≠ [] → ¬ F b) : ViewA w' v b L := h.carry fun h1 h2 => hf.block _ h2 (hn h1)
theorem ViewA.lt_of {w : World} {v : Value} {b : Nat} {L : List At} (h : ViewA w v b L) (hn : L ≠ []) : b < w.heap.size := by
  obtain ⟨_, _, _, _, _, h⟩ := h
  rcases h with h | ⟨_, _, h, _⟩
  · exact absurd h hn
  · exact h
theorem OwnA.below {w w' : World} {v : Value} {g : Nat} {L : List At} (h : OwnA w v g L) (hb : Below w.heap.size w w') : OwnA w' v g L := h.carry (hb.block _ h.lt)
theorem OwnA.fr {w w' : World} {v : Value} {g : Nat} {F : Nat → Prop} {L : List At} (h : OwnA w v g L) (hf : FrS F w w') (hn : ¬ F g) : OwnA w' v g L := h.carry (hf.block _ h.lt hn)
theorem view_nilA (w : World) (b : Nat) : ViewA w (.slice none 0 0) b [] := ⟨none, 0, rfl, Nat.le_refl _, Nat.zero_le _, .inl rfl⟩

/-- One row's cells, as they lie. -/
theorem view_atA {w : World} {v : Value} {b : Nat} {L : List At} (h : ViewA w v b L) {ao : Option Addr} {n cap : Nat} (hv : v = .slice ao n cap) : n = L.length ∧ L.length ≤ cap ∧ cap ≤ maxLen ∧ ∀ j (hj : j < L.length), ∃ o, ao = some ⟨b, o, none⟩ ∧ b < w.heap.size ∧ w.cell? ⟨b, o + j * 3, none⟩ = some (.int .i64 L[j].b) ∧ w.cell? ⟨b, o + j * 3 + 1, none⟩ = some (.int .i64 L[j].n) ∧ w.cell? ⟨b, o + j * 3 + 2, none⟩ = some (.int .i64 L[j].s) := by
  obtain ⟨ao', cap', rfl, h1, h2, h3⟩ := h
  simp only [Value.slice.injEq] at hv
  obtain ⟨rfl, rfl, rfl⟩ := hv
  refine ⟨rfl, h1, h2, fun j hj => ?_⟩
  rcases h3 with rfl | ⟨o, rfl, h4, h5⟩
  · simp at hj
  · have q : ∀ c, c < 3 → w.cell? ⟨b, o + j * 3 + c, none⟩ = (atC L[j])[c]? := fun c hc => by rw [Nat.add_assoc, h5 _ (by omega), flatAt_at L j c hj hc]
    exact ⟨o, rfl, h4, q 0 (by omega), q 1 (by omega), q 2 (by omega)⟩

/-- One row that may be written. -/
theorem own_atA {w : World} {v : Value} {b : Nat} {L : List At} (h : OwnA w v b L) {ao : Option Addr} {n cap : Nat} (hv : v = .slice ao n cap) (j : Nat) (hj : j < L.length) : ∃ o, ao = some ⟨b, o, none⟩ ∧ w.frozen? ⟨b, o + j * 3, none⟩ = false ∧ w.frozen? ⟨b, o + j * 3 + 1, none⟩ = false ∧ w.frozen? ⟨b, o + j * 3 + 2, none⟩ = false := by
  obtain ⟨ao', cap', rfl, h1, h2, h3, h4⟩ := h
  simp only [Value.slice.injEq] at hv
  obtain ⟨rfl, rfl, rfl⟩ := hv
  rcases h4 with ⟨rfl, rfl⟩ | ⟨o, rfl, h5, h6⟩
  · omega
  · have q : ∀ c, c < 3 → w.frozen? ⟨b, o + j * 3 + c, none⟩ = false := fun c hc => by rw [Nat.add_assoc]; exact (h6 _ (by omega)).2
    exact ⟨o, rfl, q 0 (by omega), q 1 (by omega), q 2 (by omega)⟩

/-- A row written. -/
abbrev setRA (w : World) (g k : Nat) (b : At) : World := (((w.setCell ⟨g, k, none⟩ (.int .i64 b.b)).setCell ⟨g, k + 1, none⟩ (.int .i64 b.n)).setCell ⟨g, k + 2, none⟩ (.int .i64 b.s))

theorem setRA_cells (w : World) (g k : Nat) (b : At) : setRA w g k b = w.setCells g k (atC b) := rfl

theorem flatAt_set (L : List At) (i : Nat) (b : At) (hi : i < L.length) (j : Nat) : (flatAt (L.set i b))[j]? = if i * 3 ≤ j ∧ j < i * 3 + 3 then (atC b)[j - i * 3]? else (flatAt L)[j]? := by
  have hl : (flatAt (L.set i b)).length = L.length * 3 := by rw [flatAt_length, List.length_set]
  have hl' := flatAt_length L
  by_cases hj : j < L.length * 3
  · have e : j = (j / 3) * 3 + j % 3 := by omega
    have h1 : j / 3 < L.length := by omega
    have h2 : j % 3 < 3 := by omega
    rw [e, flatAt_at _ _ _ (by rw [List.length_set]; exact h1) h2, flatAt_at _ _ _ h1 h2, List.getElem_set]
    by_cases c : i = j / 3
    · rw [if_pos c, if_pos (by omega), show (j / 3) * 3 + j % 3 - i * 3 = j % 3 by omega]
    · rw [if_neg c, if_neg (by omega)]
  · rw [if_neg (by omega), List.getElem?_eq_none (by omega), List.getElem?_eq_none (by omega)]

theorem own_setA {w : World} {v : Value} {g : Nat} {L : List At} (h : OwnA w v g L) {o n cap : Nat} (hv : v = .slice (some ⟨g, o, none⟩) n cap) (j : Nat) (hj : j < L.length) (b : At) : OwnA (setRA w g (o + j * 3) b) v g (L.set j b) ∧ FrS (· = g) w (setRA w g (o + j * 3) b) := by
  refine ⟨?_, by rw [setRA_cells]; exact setCells_frS g _ _ w⟩
  obtain ⟨ao', cap', rfl, h1, h2, h3, h4⟩ := h
  simp only [Value.slice.injEq] at hv
  obtain ⟨rfl, rfl, rfl⟩ := hv
  rcases h4 with ⟨h4, rfl⟩ | ⟨o', e, h5, h6⟩
  · cases h4
  · obtain rfl : o = o' := by simpa using e
    rw [setRA_cells]
    refine ⟨_, cap', by rw [List.length_set], by rw [List.length_set]; exact h1, h2, Nat.lt_of_lt_of_le h3 (setCells_frS g _ _ w).size, .inr ⟨o, rfl, fun i hi => ?_, fun i hi => ?_⟩⟩
    · rw [List.length_set] at hi
      rw [flatAt_set L j b hj]
      by_cases c : j * 3 ≤ i ∧ i < j * 3 + 3
      · have := World.cell?_setCells_in g (atC b) (o + j * 3) w (fun i hi => by rw [Nat.add_assoc]; rw [atC_len] at hi; exact (h6 _ (by omega)).1) (i - j * 3) (by rw [atC_len]; omega)
        rw [show o + j * 3 + (i - j * 3) = o + i by omega] at this
        rw [if_pos c, this, List.getElem?_eq_getElem]
      · rw [if_neg c, World.cell?_setCells_out _ _ _ _ _ (fun _ _ => by simp only [atC_len]; omega)]
        exact h5 i hi
    · exact ⟨World.isSome_setCells _ _ _ _ _ (h6 i hi).1, by rw [World.frozen?_setCells]; exact (h6 i hi).2⟩

theorem view_oneA (w : World) (l : At) : ViewA (w.alloc (.cells #[.int .i64 l.b, .int .i64 l.n, .int .i64 l.s] 31)) (.slice (some ⟨w.heap.size, 0, none⟩) 1 1) w.heap.size [l] :=
  ⟨_, 1, rfl, Nat.le_refl _, by decide, .inr ⟨0, rfl, by simp, fun j hj => by
    rw [Nat.zero_add]
    refine (cell_of_row _ _ _ _ _ _ (heap_alloc_new w _)).trans ?_
    have : j = 0 ∨ j = 1 ∨ j = 2 := by simp at hj; omega
    rcases this with rfl | rfl | rfl <;> rfl⟩⟩
end Go.Proofs.Ytgaabbnfjapcjaa
