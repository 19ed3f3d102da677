/- The contract of Copy (layer 12). -/
import Derived.Test.YtlfdahcbkdiifaaArbD
import Derived.Test.YtlfdahcbkdiifaaHand3
namespace Go.Proofs.Ytlfdahcbkdiifaa
open Go.ChangeShapes Go.WideShapes Go.ChangeAt Go.RowKit
set_option linter.unusedSimpArgs false
set_option linter.unusedVariables false
set_option maxRecDepth 10000

attribute [local go_sem, local simp] over_const setCell_drewN alloc_drewN Over.cell Over.frozen lt_s1 lt_s2 lt_s3 le_s0 le_s1 le_s2 le_s3 eq_s0 eq_s1 eq_s2 qe_s0

theorem infoQs : ∃ i, Try.prog.info? 61 = some i ∧ i.zero = some (.agg zcQ.toArray) ∧ i.size = 69 ∧ i.bytes = 120 := info_parts infoQ

/-- append of all rows to none. -/
theorem run_appQ {ty : TypeId} {w : World} {k g n cap : Nat} (hk : k < w.heap.size) (hcs : ∀ i, i < n * 69 → ∃ u, w.cell? ⟨g, i, none⟩ = some u ∧ u.oneCell' = true) (hn : n ≤ 64) :
    ∃ g' cap' w', (Builtin.append_ #[53, 53] ty #[.slice (some ⟨k, 0, none⟩) 0 0, .slice (some ⟨g, 0, none⟩) n cap]).run Try.prog w = .ok (.slice (some ⟨g', 0, none⟩) n cap') w' ∧ Below w.heap.size w w' ∧ (g' = k ∨ w.heap.size ≤ g') ∧ g' < w'.heap.size ∧ n ≤ cap' ∧ cap' ≤ maxLen ∧ ∀ i, i < n * 69 → w'.cell? ⟨g', i, none⟩ = w.cell? ⟨g, i, none⟩ ∧ w'.frozen? ⟨g', i, none⟩ = false := by
  obtain ⟨i0, hi, hz0, hz1, hz2⟩ := infoQs
  have hl : ((List.range (n * 69)).map fun i => (w.cell? ⟨g, i, none⟩).getD undef).length = n * 69 := by simp
  have hat : ∀ i, i < n * 69 → ((List.range (n * 69)).map fun i => (w.cell? ⟨g, i, none⟩).getD undef)[i]? = w.cell? ⟨g, i, none⟩ := fun i h => by
    obtain ⟨u, hu, _⟩ := hcs i h
    simp [h, hu]
  have hone : ∀ u ∈ ((List.range (n * 69)).map fun i => (w.cell? ⟨g, i, none⟩).getD undef), u.oneCell' = true := fun u hu => by
    obtain ⟨i, h1, rfl⟩ := List.mem_map.1 hu
    obtain ⟨u, hu, ho⟩ := hcs i (by simpa using h1)
    rw [hu]; exact ho
  generalize ((List.range (n * 69)).map fun i => (w.cell? ⟨g, i, none⟩).getD undef) = cs at hl hat hone
  have hsrc : Src Try.prog i0.size 53 (.slice (some ⟨g, 0, none⟩) n cap) n cs w := by
    rw [hz1]
    refine Src.ofSlice _ Try.underlying53 _ _ cap _ hl (fun j u hu => ?_) hone
    have hj : j < n * 69 := by rw [← hl]; exact (List.getElem?_eq_some_iff.1 hu).1
    rw [Addr.add_lit, Nat.zero_add, ← hat j hj]
    exact hu
  by_cases h0 : n = 0
  · subst h0
    have hcs0 : cs = [] := List.eq_nil_of_length_eq_zero (by omega)
    subst hcs0
    exact ⟨k, 0, w, run_append_nothing w _ _ ty _ i0 Try.underlying53 hi (some ⟨k, 0, none⟩) 0 0 (Nat.le_refl _) _ hsrc, Below.refl _ _, .inl rfl, hk, Nat.le_refl _, Nat.zero_le _, fun i h => by omega⟩
  · have hold : (Builtin.firstCells i0.size 0 (.slice (some ⟨k, 0, none⟩) 0 0)).run Try.prog w.drew = .ok (([] : List Value)).toArray w.drew := by
      refine run_firstCells_some w.drew i0.size 0 ⟨k, 0, none⟩ 0 0 [] (by simp) (fun j u hu => by simp at hu)
    have hr := run_append_grow_src (P := Try.prog) w 53 53 ty _ i0 _ Try.underlying53 hi hz0 (some ⟨k, 0, none⟩) 0 0 [] hold (.slice (some ⟨g, 0, none⟩) n cap) n cs hsrc (by omega) (by omega) (growslice_fits (by omega) (by rw [hz2]; omega))
    have hge := grownCap_ge w (0 + n) 0 61
    have hcm : grownCap w (0 + n) 0 61 ≤ maxLen := grownCap_le_maxLen w _ 0 61 (by simp only [maxLen]; omega)
    have hnew := heap_alloc_new w.drew (Obj.cells (([] ++ cs).toArray ++ Builtin.zeroCells (Value.agg zcQ.toArray).cells (grownCap w (0 + n) 0 61 - (0 + n))) 61)
    rw [Nat.zero_add] at hr hge hcm hnew
    refine ⟨w.heap.size, _, _, hr, ⟨rfl, rfl, rfl, by simp, fun k hk => Below.heap_alloc w.drew _ k hk⟩, .inr (Nat.le_refl _), by simp, hge, hcm, fun i h => ⟨?_, frozen_of_row _ _ _ _ _ hnew⟩⟩
    refine (cell_of_row _ w.drew.heap.size i _ _ _ hnew).trans ?_
    rw [Array.getElem?_append_left (by simp [hl]; exact h), ← hat i h]
    simp

section
variable {w : World} {ops : Array Oper} {rest : List Oper} {o : Oper} {a : Act} {Q : Exit → Act → World → Prop}
theorem wpList_appQ (hgd : o.guard = none) (s x : Operand) (ho : o.op = .call { callee := .builtin .append, args := #[s, x], argTypes := #[53, 53] }) {k g n cap : Nat} (hs : a.eval s = .slice (some ⟨k, 0, none⟩) 0 0) (hx : a.eval x = .slice (some ⟨g, 0, none⟩) n cap)
    (hk : k < w.heap.size) (hcs : ∀ i, i < n * 69 → ∃ u, w.cell? ⟨g, i, none⟩ = some u ∧ u.oneCell' = true) (hn : n ≤ 64)
    (h : ∀ g' cap' w', Below w.heap.size w w' → (g' = k ∨ w.heap.size ≤ g') → g' < w'.heap.size → n ≤ cap' → cap' ≤ maxLen → (∀ i, i < n * 69 → w'.cell? ⟨g', i, none⟩ = w.cell? ⟨g, i, none⟩ ∧ w'.frozen? ⟨g', i, none⟩ = false) → wpList Try.prog ops Q rest (a.put o.dst (.slice (some ⟨g', 0, none⟩) n cap')) w') : wpList Try.prog ops Q (o :: rest) a w :=
  wpList_plain hgd fun K hK => by
    obtain ⟨g', cap', w', hr, h1, h2, h3, h4, h5, h6⟩ := run_appQ (ty := o.type) (cap := cap) hk hcs hn
    unfold Oper.wp execOp
    simp only [ho, resolve, invoke, builtin, Sem.run_bind, Sem.run_pure, Result.andThen_ok, List.map_toArray, List.map_cons, List.map_nil, hs, hx, hr]
    exact hK _ _ (h g' cap' w' h1 h2 h3 h4 h5 h6)
end

set_option maxHeartbeats 1000000 in
theorem cloneQ_c (g n cap : Nat) (w : World) (hg : g < w.heap.size) (hcs : ∀ i, i < n * 69 → ∃ u, w.cell? ⟨g, i, none⟩ = some u ∧ u.oneCell' = true) (hn : n ≤ 64) : Calls Try.prog 32 #[.slice (some ⟨g, 0, none⟩) n cap] w fun e w' => ∃ g' cap', e = .returned (.slice (some ⟨g', 0, none⟩) n cap') ∧ Below w.heap.size w w' ∧ w.heap.size ≤ g' ∧ g' < w'.heap.size ∧ n ≤ cap' ∧ cap' ≤ maxLen ∧ ∀ i, i < n * 69 → w'.cell? ⟨g', i, none⟩ = w.cell? ⟨g, i, none⟩ ∧ w'.frozen? ⟨g', i, none⟩ = false := by
  have q : ∀ (w : World) (a : Option Addr) (n c n' c' : Nat), (binOp .eql 53 (.slice a n c) (.slice none n' c')).run Try.prog w = .ok (.bool a.isNone) w := fun w a n c n' c' => Lib.run_eql_slice_nil w _ _ a n c n' c' Try.underlying53
  have hcs' := hide hcs
  clear hcs
  go_enter Try.func32, Try.ntmps32
  go_wp2_with (at_builtin; refine wpList_appQ rfl _ _ rfl (k := w.heap.size) rfl rfl (by simp) (fun i h => by obtain ⟨u, hu, ho⟩ := hcs'.out i h; exact ⟨u, (World.cell?_of_block (w := w) (Below.heap_alloc _ _ _ hg)).trans hu, ho⟩) hn ?_; intro g' cap' w' h1 h2 h3 h4 h5 h6; replace h1 := hide h1; replace h2 := hide h2; replace h3 := hide h3; replace h6 := hide h6)
  go_ret
  refine ⟨g', cap', rfl, ((Below.refl _ _).alloc (Nat.le_refl _) _).trans (h1.out.mono (by simp)), ?_, h3.out, h4, h5, fun i h => ⟨((h6.out i h).1).trans (World.cell?_of_block (w := w) (Below.heap_alloc _ _ _ hg)), (h6.out i h).2⟩⟩
  have := h2.out
  simp at this
  omega

/-- All that lies in the rows. -/
theorem Rows12.one {w : World} {g : Nat} {Ft : Nat → Prop} {L : List Rq} {G : Nat → Option Nat} (h : Rows12 w g Ft L G) : ∀ i, i < L.length * 69 → ∃ u, w.cell? ⟨g, i, none⟩ = some u ∧ u.oneCell' = true := by
  intro i hi
  have hk : i / 69 < L.length := by omega
  have hr := h.row (i / 69) hk
  obtain ⟨v, v1, v2⟩ := hr.wt
  have key : ∀ c, c < 69 → ∃ u, w.cell? ⟨g, i / 69 * 69 + c, none⟩ = some u ∧ u.oneCell' = true := by
    intro c hc
    by_cases c0 : c = 0
    · subst c0; exact ⟨_, hr.c.c0, rfl⟩
    by_cases c1 : c = 1
    · subst c1; exact ⟨_, hr.c.c1, rfl⟩
    by_cases c2 : c = 2
    · subst c2; exact ⟨_, hr.c.c2, rfl⟩
    by_cases c3 : c = 3
    · subst c3; exact ⟨_, hr.c.c3, rfl⟩
    by_cases c4 : c = 68
    · subst c4
      refine ⟨v, v1, ?_⟩
      obtain ⟨b, ao, cap, rfl, _⟩ := v2.view
      rfl
    · have := hr.c.kn (c - 4) _ (mkM_at _ (by omega))
      rw [show i / 69 * 69 + 4 + (c - 4) = i / 69 * 69 + c by omega] at this
      exact ⟨_, this, rfl⟩
  have := key (i % 69) (by omega)
  rwa [show i / 69 * 69 + i % 69 = i by omega] at this

/-- Within Copy: the first j rows have arrays of their own. -/
structure CpRows (w : World) (p g B j : Nat) (L : List Rq) (G : Nat → Option Nat) : Prop where
  c : ∀ k (hk : k < L.length), RowC w g (k * 69) k L[k]
  wt : ∀ k (hk : k < L.length), k < j → ∃ v, w.cell? ⟨g, k * 69 + 68, none⟩ = some v ∧ WtIs w v (G k) (wtQ L[k])
  own : ∀ k b, k < L.length → k < j → G k = some b → B ≤ b ∧ b ≠ g ∧ b ≠ p ∧ b < w.heap.size
  dis : ∀ i k b, i < j → k < j → G i = some b → G k = some b → i = k

theorem CpRows.below {w w' : World} {p g B j : Nat} {L : List Rq} {G : Nat → Option Nat} (h : CpRows w p g B j L G) (hg : g < w.heap.size) (hb : Below w.heap.size w w') (hj : j ≤ L.length) : CpRows w' p g B j L G :=
  ⟨fun k hk => (h.c k hk).carry (hb.block g hg), fun k hk hkj => by
    obtain ⟨v, v1, v2⟩ := h.wt k hk hkj
    exact ⟨v, keep_cell (hb.block g hg) v1, v2.carry (fun b e => hb.block b (h.own k b hk hkj e).2.2.2)⟩, fun k b hk hkj e => ⟨(h.own k b hk hkj e).1, (h.own k b hk hkj e).2.1, (h.own k b hk hkj e).2.2.1, Nat.lt_of_lt_of_le (h.own k b hk hkj e).2.2.2 hb.size⟩, h.dis⟩

/-- One row more. -/
theorem CpRows.step {w w2 : World} {p g B j : Nat} {L : List Rq} {G : Nat → Option Nat} {v : Value} {ob : Option Nat} (h : CpRows w p g B j L G) (hg : g < w.heap.size) (hp : p < w.heap.size) (hBw : B ≤ w.heap.size) (hb : Below w.heap.size w w2) (hj : j < L.length) (hW : WtIs w2 v ob (wtQ L[j])) (hob : ∀ b, ob = some b → w.heap.size ≤ b) :
    CpRows (w2.setCell ⟨g, j * 69 + 68, none⟩ v) p g B (j + 1) L (fun k => if k = j then ob else G k) := by
  have h2 := h.below hg hb (by omega)
  have hf : FrS (· = g) w2 (w2.setCell ⟨g, j * 69 + 68, none⟩ v) := (FrS.refl (· = g) w2).setCell (q := ⟨g, j * 69 + 68, none⟩) (.inl rfl) v
  have hsz : (w2.setCell ⟨g, j * 69 + 68, none⟩ v).heap.size = w2.heap.size := by simp
  have hobl : ∀ b, ob = some b → b < w2.heap.size := fun b e => by subst e; exact hW.lt
  refine ⟨fun k hk => ?_, fun k hk hkj => ?_, fun k b hk hkj e => ?_, fun i k b hi hk ei ek => ?_⟩
  · by_cases c : k = j
    · subst c; exact ((h2.c k hk).put68 v).1
    · refine (h2.c k hk).keep fun i hi => ⟨World.cell?_setCell_other _ _ _ _ (fun e => by have : j * 69 + 68 = k * 69 + i := congrArg Addr.off e; omega), World.frozen?_setCell _ _ _ _⟩
  · by_cases c : k = j
    · subst c
      refine ⟨v, ((h2.c k hk).put68 v).2, ?_⟩
      simp only [if_true]
      exact hW.carry (fun b e => hf.block b (hobl b e) (fun e2 => by have := hob b e; omega))
    · obtain ⟨v', v1, v2⟩ := h2.wt k hk (by omega)
      refine ⟨v', (World.cell?_setCell_other _ _ _ _ (fun e => by have : j * 69 + 68 = k * 69 + 68 := congrArg Addr.off e; omega)).trans v1, ?_⟩
      simp only [c, if_false]
      exact v2.carry (fun b e => hf.block b (h2.own k b hk (by omega) e).2.2.2 (h2.own k b hk (by omega) e).2.1)
  · by_cases c : k = j
    · simp only [c, if_true] at e
      have := hob b e
      have := hobl b e
      exact ⟨by omega, by omega, by omega, by rw [hsz]; omega⟩
    · simp only [c, if_false] at e
      have := h2.own k b hk (by omega) e
      exact ⟨this.1, this.2.1, this.2.2.1, by rw [hsz]; exact this.2.2.2⟩
  · have key : ∀ m, m < j + 1 → m ≠ j → G m = some b → ob = some b → False := fun m hm hmj e1 e2 => by
      have := (h.own m b (by omega) (by omega) e1).2.2.2
      have := hob b e2
      omega
    by_cases ci : i = j
    · by_cases ck : k = j
      · rw [ci, ck]
      · simp only [ci, if_true] at ei; simp only [ck, if_false] at ek; exact (key k hk ck ek ei).elim
    · by_cases ck : k = j
      · simp only [ci, if_false] at ei; simp only [ck, if_true] at ek; exact (key i hi ci ei ek).elim
      · simp only [ci, if_false] at ei; simp only [ck, if_false] at ek; exact h.dis i k b (by omega) (by omega) ei ek

/-- All rows. -/
theorem CpRows.ar {w : World} {p g B N M cap : Nat} {L : List Rq} {G : Nat → Option Nat} (h : CpRows w p g B L.length L G) (hp : w.heap[p]? = some (.cells (arbC (ndM N) (.slice (some ⟨g, 0, none⟩) L.length cap)) 57 (0, 0))) (hcap : L.length ≤ cap) (hcm : cap ≤ maxLen) (hn : N ≤ 64) (hl : L.length ≤ 64) (hI : LInv N M L) (hg : g < w.heap.size) (hne : p ≠ g) (hB : B ≤ g) :
    ∃ Ft, ArIs w p g N M L Ft ∧ ∀ b, Ft b → B ≤ b := by
  refine ⟨fun b => b = g ∨ ∃ k, k < L.length ∧ G k = some b, ⟨hn, hl, hI, ⟨cap, hp, hcap, hcm⟩, hg, .inl rfl, ?_, ?_, G, fun k b hk e => ⟨.inr ⟨k, hk, e⟩, (h.own k b hk hk e).2.1⟩, fun i j b hi hj => h.dis i j b hi hj, fun k hk => ⟨h.c k hk, h.wt k hk hk⟩⟩, ?_⟩
  · rintro (e | ⟨k, hk, e⟩)
    · exact hne e
    · exact (h.own k p hk hk e).2.2.1 rfl
  · rintro b (rfl | ⟨k, hk, e⟩)
    · exact hg
    · exact (h.own k b hk hk e).2.2.2
  · rintro b (rfl | ⟨k, hk, e⟩)
    · exact hB
    · exact (h.own k b hk hk e).1
end Go.Proofs.Ytlfdahcbkdiifaa
