/- layer 15: LinMap, put together. -/
import Derived.Test.YtoenjdnccgmhoaaGreatDoorB15
import Derived.Test.YtoenjdnccgmhoaaGreatDoorB12
import Derived.Test.YtoenjdnccgmhoaaGreatDoorB02
import Derived.Maps.RangeWalk
import Derived.Maps.OwnSet
import Derived.Maps.Ext
namespace Go.Proofs.YtoenjdnccgmhoaaGreatDoor
open Go.ChangeShapes Go.WideShapes Go.ChangeAt Go.RowKit
set_option linter.unusedSimpArgs false
set_option linter.unusedVariables false
set_option maxRecDepth 10000
attribute [local go_sem, local simp] over_const setCell_drewN alloc_drewN Over.cell Over.frozen lt_s1 lt_s2 lt_s3 le_s0 le_s1 le_s2 le_s3 eq_s0 eq_s1 eq_s2 qe_s0
open Go.Maps (Keyed)
abbrev nilV : Value := .slice none 0 0
theorem zeroE (w : World) : (zeroValue 99).run Tryz.prog w = .ok nilV w := by kernel_rfl
theorem key_wf {k : Int} (h0 : 0 ≤ k) (h1 : k < 64) : (Lit.int .i64 k).wf = true := WalkArith.wf_i64 (by omega)
theorem size_keys : ∀ (n : Nat) (es : List (Lit × DataW Value)), es.Pairwise (fun p q => p.1 ≠ q.1) → (∀ p ∈ es, ∃ k : Int, p.1 = .int .i64 k ∧ 0 ≤ k ∧ k < n) → es.length ≤ n
  | 0, es, _, h => by
    cases es with
    | nil => simp
    | cons x r => obtain ⟨k, _, h1, h2⟩ := h x (by simp); omega
  | n + 1, es, hp, h => by
    have h1 := size_keys n (es.filter fun p => !p.1.sameKey (.int .i64 n)) (hp.filter _) (fun p hp' => by
      have h2 := List.mem_filter.1 hp'
      obtain ⟨k, e, h3, h4⟩ := h p h2.1
      refine ⟨k, e, h3, ?_⟩
      have h5 : k ≠ n := by
        rintro rfl
        have := h2.2
        rw [e, WideAt.sameKey_self (a := Lit.int .i64 n) trivial] at this
        simp at this
      omega)
    have h2 := Maps.length_strike (k := .int .i64 n) es hp
    split at h2 <;> omega
structure SetsIs (w : World) (m : Nat) (rows : Int → Nat) (S : Int) (A : List Int) (D : DataW Value) : Prop where
  own : w.ownsMap Tryz.prog 3 heldR m 64 D
  keys : ∀ kl, Maps.has D kl = true → ∃ k, kl = .int .i64 k ∧ 0 ≤ k ∧ k < S
  val : ∀ k, 0 ≤ k → k < S → ∃ v, D.atKey (.int .i64 k) (.held nilV) = .held v ∧ Own w v (rows k) (part S A k) ∧ (rows k = m → v = nilV)
  apart : ∀ k k', 0 ≤ k → k < S → 0 ≤ k' → k' < S → rows k = rows k' → rows k ≠ m → k = k'
theorem SetsIs.carry {w w' : World} {m : Nat} {rows : Int → Nat} {S : Int} {A : List Int} {D : DataW Value} (h : SetsIs w m rows S A D) (em : w'.heap[m]? = w.heap[m]?) (er : ∀ k, 0 ≤ k → k < S → w'.heap[rows k]? = w.heap[rows k]?) : SetsIs w' m rows S A D :=
  ⟨ownsMap_carry h.own em, h.keys, fun k h0 h1 => by obtain ⟨v, a, b, c⟩ := h.val k h0 h1; exact ⟨v, a, b.carry (er k h0 h1), c⟩, h.apart⟩
theorem own_nilV {w : World} {g : Nat} {L : List Int} (h : Own w nilV g L) : L = [] := by
  obtain ⟨ao, cap, e, h1, _⟩ := h
  simp only [nilV, Value.slice.injEq] at e
  exact List.eq_nil_of_length_eq_zero e.2.1.symm
theorem SetsIs.look {w : World} {m : Nat} {rows : Int → Nat} {S : Int} {A : List Int} {D : DataW Value} (h : SetsIs w m rows S A D) (hS : S ≤ 64) {k : Int} (h0 : 0 ≤ k) (h1 : k < S) :
    ∃ v, (∀ w', w'.heap[m]? = w.heap[m]? → (Instr.lookup 211 (.map (some m)) (.int .i64 k) false).run Tryz.prog w' = .ok v w') ∧ Own w v (rows k) (part S A k) ∧ (rows k = m → v = nilV) := by
  obtain ⟨v, ha, hb, hc⟩ := h.val k h0 h1
  refine ⟨v, fun w' e => ?_, hb, hc⟩
  obtain ⟨u, ps, hrun, hu⟩ := (ownsMap_carry h.own e).lookup law Tryz.underlying211 (zeroE w') (zd := .held nilV) (zp := []) rfl (Maps.keyOf_int_mk Tryz.underlying3 (key_wf h0 (by omega)))
  rw [ha] at hu
  simp [heldR] at hu
  rw [hrun, hu.1]
theorem sets_new (w : World) (m : Nat) (hm : m < w.heap.size) (S : Int) (h : w.ownsMap Tryz.prog 3 heldR m 64 (.map [])) : SetsIs w m (fun _ => m) S [] (.map []) :=
  ⟨h, fun kl hk => by simp [Maps.has] at hk, fun k _ _ => ⟨nilV, by simp [DataW.atKey], own_nil hm, fun _ => rfl⟩, fun _ _ _ _ _ _ _ hn => absurd rfl hn⟩
theorem sets_put {w w1 : World} {m : Nat} {rows : Int → Nat} {S : Int} {A A' : List Int} {D : DataW Value} {k : Int} {v' : Value} {g' : Nat} (h : SetsIs w m rows S A D) (hS : S ≤ 64) (h0 : 0 ≤ k) (h1 : k < S) (hf : FrS (· = rows k) w w1) (hm : rows k = m → Below w.heap.size w w1)
    (hown : Own w1 v' g' (part S A' k)) (hg : g' = rows k ∨ w.heap.size ≤ g') (hn : g' = m → v' = nilV) (hA : ∀ j, j ≠ k → part S A' j = part S A j) :
    ∃ w2, (Instr.mapUpdate 211 (.map (some m)) (.int .i64 k) v').run Tryz.prog w1 = .ok () w2 ∧ SetsIs w2 m (fun j => if j = k then g' else rows j) S A' (D.put (.int .i64 k) (.held v')) ∧ FrS (· = m) w1 w2 := by
  have hml := h.own.lt
  have em : w1.heap[m]? = w.heap[m]? := by
    by_cases c : rows k = m
    · exact (hm c).block m hml
    · exact hf.block m hml (fun e => c e.symm)
  obtain ⟨w2, hrun, hown2, hgr⟩ := (ownsMap_carry h.own em).update law Tryz.underlying211 (by decide) (Maps.keyOf_int_mk Tryz.underlying3 (key_wf h0 (by omega))) (val := v') (d := .held v') (ps := []) rfl
  have hT := h.own.tidy law
  have hkeys : ∀ kl, Maps.has (D.put (.int .i64 k) (.held v')) kl = true → ∃ k, kl = .int .i64 k ∧ 0 ≤ k ∧ k < S := by
    intro kl hkl
    by_cases c : kl = .int .i64 k
    · exact ⟨k, c, h0, h1⟩
    · rw [Maps.has_put_other c] at hkl
      exact h.keys kl hkl
  have hsz : Maps.size (D.put (.int .i64 k) (.held v')) ≤ 64 := by
    obtain ⟨es, e, hp⟩ := hT.put (k := .int .i64 k) trivial (.held v')
    have hl : ∀ p ∈ es, WideAt.IsKeyLit p.1 := by
      obtain ⟨es', e', _, h3⟩ := hown2.entries law
      rw [e] at e'
      cases e'
      exact h3
    rw [e, Maps.size_eq]
    refine size_keys 64 es hp (fun p hp' => ?_)
    obtain ⟨k', e1, e2, e3⟩ := hkeys p.1 (by rw [e, Maps.has_eq]; exact List.any_eq_true.2 ⟨p, hp', WideAt.sameKey_self (hl p hp')⟩)
    exact ⟨k', e1, e2, by omega⟩
  have hs1 := hf.size
  have hs2 := hgr.size
  have hne : g' ≠ m → w2.heap[g']? = w1.heap[g']? := fun c => hgr.block g' hown.lt (by simpa using c)
  refine ⟨w2, hrun, ⟨ownsMap_size hown2 hsz, hkeys, fun j j0 j1 => ?_, fun i j i0 i1 j0 j1 e hni => ?_⟩, FrS.grown hgr⟩
  · by_cases c : j = k
    · subst c
      refine ⟨v', Maps.atKey_put_same (k := Lit.int .i64 j) h.own.isMap trivial _ _, ?_, by simpa using hn⟩
      rw [if_pos rfl]
      by_cases c2 : g' = m
      · have e := hn c2
        subst e
        rw [own_nilV hown]
        exact own_nil (by have := hown.lt; omega)
      · exact hown.carry (hne c2)
    · obtain ⟨v, a1, a2, a3⟩ := h.val j j0 j1
      have hkey : (Lit.int IntKind.i64 j) ≠ Lit.int IntKind.i64 k := fun e => c (by cases e; rfl)
      refine ⟨v, (Maps.atKey_put_other hkey _ _).trans a1, ?_, by simpa [c] using a3⟩
      rw [if_neg c, hA j c]
      by_cases c2 : rows j = m
      · have e := a3 c2
        subst e
        rw [own_nilV a2]
        exact own_nil (by have := a2.lt; omega)
      · have e1 : w1.heap[rows j]? = w.heap[rows j]? := hf.block _ a2.lt (fun e => c (h.apart j k j0 j1 h0 h1 e c2))
        have a4 := a2.carry e1
        exact a4.carry (hgr.block _ a4.lt (by simpa using c2))
  · have oldnew : ∀ i, 0 ≤ i → i < S → i ≠ k → rows i = g' → rows i ≠ m → False := by
      intro i i0 i1 hi e hm'
      obtain ⟨v, _, a2, _⟩ := h.val i i0 i1
      have := a2.lt
      rcases hg with hg | hg
      · exact hi (h.apart i k i0 i1 h0 h1 (by omega) hm')
      · omega
    by_cases ci : i = k <;> by_cases cj : j = k
    · omega
    · rw [if_pos ci, if_neg cj] at e
      rw [if_pos ci] at hni
      exact (oldnew j j0 j1 cj e.symm (by omega)).elim
    · rw [if_neg ci, if_pos cj] at e
      rw [if_neg ci] at hni
      exact (oldnew i i0 i1 ci e hni).elim
    · rw [if_neg ci, if_neg cj] at e
      rw [if_neg ci] at hni
      exact h.apart i j i0 i1 j0 j1 e hni
structure LnIs (w : World) (p : Nat) (Ft : Nat → Prop) (S W : Int) (A : List Int) : Prop where
  inv : Inv S W A
  pl : p < w.heap.size
  fp : Ft p
  lt : ∀ b, Ft b → b < w.heap.size
  c0 : w.cell? ⟨p, 0, none⟩ = some (.int .i64 S)
  c1 : w.cell? ⟨p, 1, none⟩ = some (.int .i64 W)
  sets : ∃ m rows D, w.cell? ⟨p, 2, none⟩ = some (.map (some m)) ∧ SetsIs w m rows S A D ∧ Ft m ∧ m ≠ p ∧ ∀ k, 0 ≤ k → k < S → Ft (rows k) ∧ rows k ≠ p
theorem LnIs.carry {w w' : World} {p : Nat} {Ft : Nat → Prop} {S W : Int} {A : List Int} (h : LnIs w p Ft S W A) (hb : ∀ b, Ft b → b < w.heap.size → w'.heap[b]? = w.heap[b]?) : LnIs w' p Ft S W A := by
  obtain ⟨m, rows, D, h1, h2, h3, h4, h5⟩ := h.sets
  have ep := hb p h.fp h.pl
  exact ⟨h.inv, block_lt h.pl ep, h.fp, fun b hf => block_lt (h.lt b hf) (hb b hf (h.lt b hf)), (World.cell?_of_block (w := w) ep).trans h.c0, (World.cell?_of_block (w := w) ep).trans h.c1, ⟨m, rows, D, (World.cell?_of_block (w := w) ep).trans h1, h2.carry (hb m h3 h2.own.lt) (fun k k0 k1 => hb _ (h5 k k0 k1).1 (h.lt _ (h5 k k0 k1).1)), h3, h4, h5⟩⟩
theorem LnIs.fr {w w' : World} {p : Nat} {Ft F : Nat → Prop} {S W : Int} {A : List Int} (h : LnIs w p Ft S W A) (hf : FrS F w w') (hd : ∀ b, Ft b → b < w.heap.size → ¬ F b) : LnIs w' p Ft S W A := h.carry fun b hb hl => hf.block b hl (hd b hb hl)
theorem LnIs.below {w w' : World} {p : Nat} {Ft : Nat → Prop} {S W : Int} {A : List Int} (h : LnIs w p Ft S W A) (hf : Below w.heap.size w w') : LnIs w' p Ft S W A := h.carry fun b _ hl => hf.block b hl
theorem LnIs.alloc {w : World} {p : Nat} {Ft : Nat → Prop} {S W : Int} {A : List Int} (h : LnIs w p Ft S W A) (o : Obj) : LnIs (w.alloc o) p Ft S W A := h.carry fun b _ hl => Below.heap_alloc _ _ _ hl
theorem LnIs.drew {w : World} {p : Nat} {Ft : Nat → Prop} {S W : Int} {A : List Int} (h : LnIs w p Ft S W A) : LnIs w.drew p Ft S W A := h.carry fun _ _ _ => rfl
theorem LnIs.drewN {w : World} {p : Nat} {Ft : Nat → Prop} {S W : Int} {A : List Int} (h : LnIs w p Ft S W A) (n : Nat) : LnIs (w.drewN n) p Ft S W A := h.carry fun _ _ _ => rfl
end Go.Proofs.YtoenjdnccgmhoaaGreatDoor
