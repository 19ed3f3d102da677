/- Nets in memory; the contracts of slices.Clone at letters, and of package net's New, List, Copy, has, and package letter's Drops (layer 6). -/
import Derived.Test.YtajcebnbmejamaaNetBase
import Derived.Deep.RegionHeld3
import Derived.Lib.SliceRun
namespace Go.Proofs.Ytajcebnbmejamaa
open Go.ChangeShapes Go.WideShapes Go.ChangeAt Go.RowKit
set_option linter.unusedSimpArgs false
set_option linter.unusedVariables false

attribute [local go_sem, local simp] over_const setCell_drewN alloc_drewN Over.cell Over.frozen lt_s1 lt_s2 lt_s3 le_s0 le_s1 le_s2 le_s3 eq_s0 eq_s1 eq_s2 qe_s0

section
variable {w : World} {ops : Array Oper} {o : Oper} {a : Act} {Q : Exit → Act → World → Prop}

theorem wp_app {K : Act → World → Prop} (s x : Operand) (ho : o.op = .call { callee := .builtin .append, args := #[s, x], argTypes := #[29, 29] })
    {v xv : Value} {g b : Nat} {L M : List Lt} (hs : a.eval s = v) (hx : a.eval x = xv) (hv : Own w v g L) (hxv : View w xv b M) (hle : L.length + M.length ≤ 1000000) (n : Nat) (hn : L.length + M.length = n)
    (h : ∀ ao cap w' g', Own w' (.slice ao n cap) g' (L ++ M) → AppP w w' v (.slice ao n cap) g g' → K (a.put o.dst (.slice ao n cap)) w') : o.wp Try.prog a w K Q := by
  obtain ⟨v', w', g', hr, h2, h3⟩ := run_app (ty := o.type) hv hxv hle
  obtain ⟨ao, cap, rfl, _⟩ := id h2
  unfold Oper.wp execOp
  simp only [ho, resolve, invoke, builtin, Sem.run_bind, Sem.run_pure, Result.andThen_ok, List.map_toArray, List.map_cons, List.map_nil, hs, hx, hr]
  rw [List.length_append, hn] at h2 h3 ⊢
  exact h ao cap w' g' h2 h3

theorem wpList_app {rest : List Oper} (hgd : o.guard = none) (s x : Operand) (ho : o.op = .call { callee := .builtin .append, args := #[s, x], argTypes := #[29, 29] })
    {v xv : Value} {g b : Nat} {L M : List Lt} (hs : a.eval s = v) (hx : a.eval x = xv) (hv : Own w v g L) (hxv : View w xv b M) (hle : L.length + M.length ≤ 1000000) (n : Nat) (hn : L.length + M.length = n)
    (h : ∀ ao cap w' g', Own w' (.slice ao n cap) g' (L ++ M) → AppP w w' v (.slice ao n cap) g g' → wpList Try.prog ops Q rest (a.put o.dst (.slice ao n cap)) w') : wpList Try.prog ops Q (o :: rest) a w :=
  wpList_plain hgd fun _ hK => wp_app s x ho hs hx hv hxv hle n hn fun ao cap w' g' h2 h3 => hK _ _ (h ao cap w' g' h2 h3)

theorem step_app {K : Act → World → Prop} {E : Prop} (hgd : o.guard = none) (s x : Operand) (ho : o.op = .call { callee := .builtin .append, args := #[s, x], argTypes := #[29, 29] })
    {v xv : Value} {g b : Nat} {L M : List Lt} (hs : a.eval s = v) (hx : a.eval x = xv) (hv : Own w v g L) (hxv : View w xv b M) (hle : L.length + M.length ≤ 1000000) (n : Nat) (hn : L.length + M.length = n)
    (h : ∀ ao cap w' g', Own w' (.slice ao n cap) g' (L ++ M) → AppP w w' v (.slice ao n cap) g g' → K (a.put o.dst (.slice ao n cap)) w') : if Region.wanted o (yielded ops a.tmps) = true then Oper.wp Try.prog o a w K Q else E := by
  have hw : Region.wanted o (yielded ops a.tmps) = true := by simp [Region.wanted, hgd]
  rw [if_pos hw]
  exact wp_app s x ho hs hx hv hxv hle n hn h
end

theorem own_empty (w : World) (o : Obj) : Own (w.alloc o) (.slice (some ⟨w.heap.size, 0, none⟩) 0 0) w.heap.size [] :=
  ⟨_, 0, rfl, Nat.le_refl _, Nat.zero_le _, by simp, .inr ⟨0, rfl, fun j hj => by simp at hj, fun j hj => by simp at hj⟩⟩

theorem View.alloc {w : World} {v : Value} {b : Nat} {L : List Lt} (h : View w v b L) (o : Obj) : View (w.alloc o) v b L := h.carry fun _ hb => Below.heap_alloc _ _ _ hb
theorem Own.alloc {w : World} {v : Value} {g : Nat} {L : List Lt} (h : Own w v g L) (o : Obj) : Own (w.alloc o) v g L := h.carry (Below.heap_alloc _ _ _ (by obtain ⟨_, _, _, _, _, h, _⟩ := h; exact h))
theorem View.below {w w' : World} {v : Value} {b : Nat} {L : List Lt} (h : View w v b L) (hb : Below w.heap.size w w') : View w' v b L := h.carry fun _ h1 => hb.block _ h1
theorem View.fr {w w' : World} {v : Value} {b p g : Nat} {L : List Lt} (h : View w v b L) (hf : Fr p g w w') (hn : L ≠ [] → b ≠ p ∧ b ≠ g) : View w' v b L := h.carry fun h1 h2 => hf.block _ h2 (hn h1).1 (hn h1).2

theorem view_nil (w : World) (b : Nat) : View w (.slice none 0 0) b [] := ⟨none, 0, rfl, Nat.le_refl _, Nat.zero_le _, .inl rfl⟩

/-- What slices.Clone leaves. -/
def CloneP (w w' : World) (ao : Option Addr) (cap : Nat) (L : List Lt) : Prop :=
  Below w.heap.size w w' ∧ ((ao = none ∧ L = [] ∧ cap = 0) ∨ ∃ g, w.heap.size ≤ g ∧ Own w' (.slice ao L.length cap) g L)

set_option maxHeartbeats 1000000 in
theorem clone_c (v : Value) (b : Nat) (L : List Lt) (w : World) (h : View w v b L) (hl : L.length ≤ 100000) : Calls Try.prog 26 #[v] w fun e w' => ∃ ao cap, e = .returned (.slice ao L.length cap) ∧ CloneP w w' ao cap L := by
  have h' := hide h
  have q : ∀ (w : World) (a : Option Addr) (n c n' c' : Nat), (binOp .eql 29 (.slice a n c) (.slice none n' c')).run Try.prog w = .ok (.bool a.isNone) w := fun w a n c n' c' => Lib.run_eql_slice_nil w _ _ a n c n' c' Try.underlying29
  obtain ⟨ao, cap, rfl, h1, h2, h3⟩ := h
  cases ao with
  | none =>
    obtain rfl : L = [] := by rcases h3 with h3 | ⟨_, h4, _⟩; exact h3; cases h4
    clear h3
    go_enter Try.func26, Try.ntmps26
    go_wp2
    go_ret
    exact ⟨none, 0, rfl, Below.refl _ _, .inl ⟨rfl, rfl, rfl⟩⟩
  | some a =>
    clear h3
    go_enter Try.func26, Try.ntmps26
    go_wp2_with (at_builtin; refine wpList_app rfl _ _ rfl rfl rfl (own_empty _ _) ((unhide h').alloc _) (by simp; omega) L.length (by simp) ?_; intro ao' cap' w' g' hown hap; replace hown := hide hown; replace hap := hide hap)
    go_ret
    refine ⟨ao', cap', by simp, ?_, .inr ⟨g', ?_, ?_⟩⟩
    · exact ((Below.refl _ _).alloc (Nat.le_refl _) _).trans ((unhide hap).fr.below (Nat.le_refl _) (Nat.le_refl _) (by simp))
    · have := (unhide hap).lies; simp at this; omega
    · simpa using unhide hown
end Go.Proofs.Ytajcebnbmejamaa
