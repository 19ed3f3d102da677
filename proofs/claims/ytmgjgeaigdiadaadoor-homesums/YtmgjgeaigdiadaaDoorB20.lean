/- layer 16: ArbE ArbF RdBase, put together. -/
import Derived.Test.YtmgjgeaigdiadaaDoorB19
import Derived.Test.YtmgjgeaigdiadaaDoorB11
import Derived.Test.YtmgjgeaigdiadaaDoorB04
import Derived.Test.YtmgjgeaigdiadaaDoorB09
import Derived.OwnWalk
namespace Go.Proofs.YtmgjgeaigdiadaaDoor
open Go.ChangeShapes Go.WideShapes Go.ChangeAt Go.RowKit
set_option linter.unusedSimpArgs false
set_option linter.unusedVariables false
set_option maxRecDepth 10000
attribute [local go_sem, local simp] over_const setCell_drewN alloc_drewN Over.cell Over.frozen lt_s1 lt_s2 lt_s3 le_s0 le_s1 le_s2 le_s3 eq_s0 eq_s1 eq_s2 qe_s0
theorem infoQs : ∃ i, Tryd.prog.info? 118 = some i ∧ i.zero = some (.agg zcQ.toArray) ∧ i.size = 69 ∧ i.bytes = 120 := info_parts infoQ
theorem run_appQ {ty : TypeId} {w : World} {k g n cap : Nat} (hk : k < w.heap.size) (hcs : ∀ i, i < n * 69 → ∃ u, w.cell? ⟨g, i, none⟩ = some u ∧ u.oneCell' = true) (hn : n ≤ 64) :
    ∃ g' cap' w', (Builtin.append_ #[119, 119] ty #[.slice (some ⟨k, 0, none⟩) 0 0, .slice (some ⟨g, 0, none⟩) n cap]).run Tryd.prog w = .ok (.slice (some ⟨g', 0, none⟩) n cap') w' ∧ Below w.heap.size w w' ∧ (g' = k ∨ w.heap.size ≤ g') ∧ g' < w'.heap.size ∧ n ≤ cap' ∧ cap' ≤ maxLen ∧ ∀ i, i < n * 69 → w'.cell? ⟨g', i, none⟩ = w.cell? ⟨g, i, none⟩ ∧ w'.frozen? ⟨g', i, none⟩ = false := by
  obtain ⟨i0, hi, hz0, hz1, hz2⟩ := infoQs
  have hl : ((List.range (n * 69)).map fun i => (w.cell? ⟨g, i, none⟩).getD undef).length = n * 69 := by simp
  have hat : ∀ i, i < n * 69 → ((List.range (n * 69)).map fun i => (w.cell? ⟨g, i, none⟩).getD undef)[i]? = w.cell? ⟨g, i, none⟩ := fun i h => by
    obtain ⟨u, hu, _⟩ := hcs i h
    simp [h, hu]
  have hone : ∀ u ∈ ((List.range (n * 69)).map fun i => (w.cell? ⟨g, i, none⟩).getD undef), u.oneCell' = true := fun u hu => by
    obtain ⟨i, h1, rfl⟩ := List.mem_map.1 hu
    obtain ⟨u, hu, ho⟩ := hcs i (by simpa using h1)
    rw [hu]; exact ho
  generalize ((List.range (n * 69)).map fun i => (w.cell? ⟨g, i, none⟩).getD undef) = cs at hl hat hone
  have hsrc : Src Tryd.prog i0.size 119 (.slice (some ⟨g, 0, none⟩) n cap) n cs w := by
    rw [hz1]
    refine Src.ofSlice _ Tryd.underlying119 _ _ cap _ hl (fun j u hu => ?_) hone
    have hj : j < n * 69 := by rw [← hl]; exact (List.getElem?_eq_some_iff.1 hu).1
    rw [Addr.add_lit, Nat.zero_add, ← hat j hj]
    exact hu
  by_cases h0 : n = 0
  · subst h0
    have hcs0 : cs = [] := List.eq_nil_of_length_eq_zero (by omega)
    subst hcs0
    exact ⟨k, 0, w, run_append_nothing w _ _ ty _ i0 Tryd.underlying119 hi (some ⟨k, 0, none⟩) 0 0 (Nat.le_refl _) _ hsrc, Below.refl _ _, .inl rfl, hk, Nat.le_refl _, Nat.zero_le _, fun i h => by omega⟩
  · have hold : (Builtin.firstCells i0.size 0 (.slice (some ⟨k, 0, none⟩) 0 0)).run Tryd.prog w.drew = .ok (([] : List Value)).toArray w.drew := by
      refine run_firstCells_some w.drew i0.size 0 ⟨k, 0, none⟩ 0 0 [] (by simp) (fun j u hu => by simp at hu)
    have hr := run_append_grow_src (P := Tryd.prog) w 119 119 ty _ i0 _ Tryd.underlying119 hi hz0 (some ⟨k, 0, none⟩) 0 0 [] hold (.slice (some ⟨g, 0, none⟩) n cap) n cs hsrc (by omega) (by omega) (growslice_fits (by omega) (by rw [hz2]; omega))
    have hge := grownCap_ge w (0 + n) 0 118
    have hcm : grownCap w (0 + n) 0 118 ≤ maxLen := grownCap_le_maxLen w _ 0 118 (by simp only [maxLen]; omega)
    have hnew := heap_alloc_new w.drew (Obj.cells (([] ++ cs).toArray ++ Builtin.zeroCells (Value.agg zcQ.toArray).cells (grownCap w (0 + n) 0 118 - (0 + n))) 118)
    rw [Nat.zero_add] at hr hge hcm hnew
    refine ⟨w.heap.size, _, _, hr, ⟨rfl, rfl, rfl, by simp, fun k hk => Below.heap_alloc w.drew _ k hk⟩, .inr (Nat.le_refl _), by simp, hge, hcm, fun i h => ⟨?_, frozen_of_row _ _ _ _ _ hnew⟩⟩
    refine (cell_of_row _ w.drew.heap.size i _ _ _ hnew).trans ?_
    rw [Array.getElem?_append_left (by simp [hl]; exact h), ← hat i h]
    simp
section
variable {w : World} {ops : Array Oper} {rest : List Oper} {o : Oper} {a : Act} {Q : Exit → Act → World → Prop}
theorem wpList_appQ (hgd : o.guard = none) (s x : Operand) (ho : o.op = .call { callee := .builtin .append, args := #[s, x], argTypes := #[119, 119] }) {k g n cap : Nat} (hs : a.eval s = .slice (some ⟨k, 0, none⟩) 0 0) (hx : a.eval x = .slice (some ⟨g, 0, none⟩) n cap)
    (hk : k < w.heap.size) (hcs : ∀ i, i < n * 69 → ∃ u, w.cell? ⟨g, i, none⟩ = some u ∧ u.oneCell' = true) (hn : n ≤ 64)
    (h : ∀ g' cap' w', Below w.heap.size w w' → (g' = k ∨ w.heap.size ≤ g') → g' < w'.heap.size → n ≤ cap' → cap' ≤ maxLen → (∀ i, i < n * 69 → w'.cell? ⟨g', i, none⟩ = w.cell? ⟨g, i, none⟩ ∧ w'.frozen? ⟨g', i, none⟩ = false) → wpList Tryd.prog ops Q rest (a.put o.dst (.slice (some ⟨g', 0, none⟩) n cap')) w') : wpList Tryd.prog ops Q (o :: rest) a w :=
  wpList_plain hgd fun K hK => by
    obtain ⟨g', cap', w', hr, h1, h2, h3, h4, h5, h6⟩ := run_appQ (ty := o.type) (cap := cap) hk hcs hn
    unfold Oper.wp execOp
    simp only [ho, resolve, invoke, builtin, Sem.run_bind, Sem.run_pure, Result.andThen_ok, List.map_toArray, List.map_cons, List.map_nil, hs, hx, hr]
    exact hK _ _ (h g' cap' w' h1 h2 h3 h4 h5 h6)
end
set_option maxHeartbeats 1000000 in
theorem cloneQ_c (g n cap : Nat) (w : World) (hg : g < w.heap.size) (hcs : ∀ i, i < n * 69 → ∃ u, w.cell? ⟨g, i, none⟩ = some u ∧ u.oneCell' = true) (hn : n ≤ 64) : Calls Tryd.prog 69 #[.slice (some ⟨g, 0, none⟩) n cap] w fun e w' => ∃ g' cap', e = .returned (.slice (some ⟨g', 0, none⟩) n cap') ∧ Below w.heap.size w w' ∧ w.heap.size ≤ g' ∧ g' < w'.heap.size ∧ n ≤ cap' ∧ cap' ≤ maxLen ∧ ∀ i, i < n * 69 → w'.cell? ⟨g', i, none⟩ = w.cell? ⟨g, i, none⟩ ∧ w'.frozen? ⟨g', i, none⟩ = false := by
  have q : ∀ (w : World) (a : Option Addr) (n c n' c' : Nat), (binOp .eql 119 (.slice a n c) (.slice none n' c')).run Tryd.prog w = .ok (.bool a.isNone) w := fun w a n c n' c' => Lib.run_eql_slice_nil w _ _ a n c n' c' Tryd.underlying119
  have hcs' := hide hcs
  clear hcs
  go_enter Tryd.func69, Tryd.ntmps69
  go_wp2_with (at_builtin; refine wpList_appQ rfl _ _ rfl (k := w.heap.size) rfl rfl (by simp) (fun i h => by obtain ⟨u, hu, ho⟩ := hcs'.out i h; exact ⟨u, (World.cell?_of_block (w := w) (Below.heap_alloc _ _ _ hg)).trans hu, ho⟩) hn ?_; intro g' cap' w' h1 h2 h3 h4 h5 h6; replace h1 := hide h1; replace h2 := hide h2; replace h3 := hide h3; replace h6 := hide h6)
  go_ret
  refine ⟨g', cap', rfl, ((Below.refl _ _).alloc (Nat.le_refl _) _).trans (h1.out.mono (by simp)), ?_, h3.out, h4, h5, fun i h => ⟨((h6.out i h).1).trans (World.cell?_of_block (w := w) (Below.heap_alloc _ _ _ hg)), (h6.out i h).2⟩⟩
  have := h2.out
  simp at this
  omega
theorem Rows12.one {w : World} {g : Nat} {Ft : Nat → Prop} {L : List Rq} {G : Nat → Option Nat} (h : Rows12 w g Ft L G) : ∀ i, i < L.length * 69 → ∃ u, w.cell? ⟨g, i, none⟩ = some u ∧ u.oneCell' = true := by
  intro i hi
  have hk : i / 69 < L.length := by omega
  have hr := h.row (i / 69) hk
  obtain ⟨v, v1, v2⟩ := hr.wt
  have key : ∀ c, c < 69 → ∃ u, w.cell? ⟨g, i / 69 * 69 + c, none⟩ = some u ∧ u.oneCell' = true := by
    intro c hc
    by_cases c0 : c = 0
    · subst c0; exact ⟨_, hr.c.c0, rfl⟩
    by_cases c1 : c = 1
    · subst c1; exact ⟨_, hr.c.c1, rfl⟩
    by_cases c2 : c = 2
    · subst c2; exact ⟨_, hr.c.c2, rfl⟩
    by_cases c3 : c = 3
    · subst c3; exact ⟨_, hr.c.c3, rfl⟩
    by_cases c4 : c = 68
    · subst c4
      refine ⟨v, v1, ?_⟩
      obtain ⟨b, ao, cap, rfl, _⟩ := v2.view
      rfl
    · have := hr.c.kn (c - 4) _ (mkM_at _ (by omega))
      rw [show i / 69 * 69 + 4 + (c - 4) = i / 69 * 69 + c by omega] at this
      exact ⟨_, this, rfl⟩
  have := key (i % 69) (by omega)
  rwa [show i / 69 * 69 + i % 69 = i by omega] at this
structure CpRows (w : World) (p g B j : Nat) (L : List Rq) (G : Nat → Option Nat) : Prop where
  c : ∀ k (hk : k < L.length), RowC w g (k * 69) k L[k]
  wt : ∀ k (hk : k < L.length), k < j → ∃ v, w.cell? ⟨g, k * 69 + 68, none⟩ = some v ∧ WtIs w v (G k) (wtQ L[k])
  own : ∀ k b, k < L.length → k < j → G k = some b → B ≤ b ∧ b ≠ g ∧ b ≠ p ∧ b < w.heap.size
  dis : ∀ i k b, i < j → k < j → G i = some b → G k = some b → i = k
theorem CpRows.below {w w' : World} {p g B j : Nat} {L : List Rq} {G : Nat → Option Nat} (h : CpRows w p g B j L G) (hg : g < w.heap.size) (hb : Below w.heap.size w w') (hj : j ≤ L.length) : CpRows w' p g B j L G :=
  ⟨fun k hk => (h.c k hk).carry (hb.block g hg), fun k hk hkj => by
    obtain ⟨v, v1, v2⟩ := h.wt k hk hkj
    exact ⟨v, keep_cell (hb.block g hg) v1, v2.carry (fun b e => hb.block b (h.own k b hk hkj e).2.2.2)⟩, fun k b hk hkj e => ⟨(h.own k b hk hkj e).1, (h.own k b hk hkj e).2.1, (h.own k b hk hkj e).2.2.1, Nat.lt_of_lt_of_le (h.own k b hk hkj e).2.2.2 hb.size⟩, h.dis⟩
theorem CpRows.step {w w2 : World} {p g B j : Nat} {L : List Rq} {G : Nat → Option Nat} {v : Value} {ob : Option Nat} (h : CpRows w p g B j L G) (hg : g < w.heap.size) (hp : p < w.heap.size) (hBw : B ≤ w.heap.size) (hb : Below w.heap.size w w2) (hj : j < L.length) (hW : WtIs w2 v ob (wtQ L[j])) (hob : ∀ b, ob = some b → w.heap.size ≤ b) :
    CpRows (w2.setCell ⟨g, j * 69 + 68, none⟩ v) p g B (j + 1) L (fun k => if k = j then ob else G k) := by
  have h2 := h.below hg hb (by omega)
  have hf : FrS (· = g) w2 (w2.setCell ⟨g, j * 69 + 68, none⟩ v) := (FrS.refl (· = g) w2).setCell (q := ⟨g, j * 69 + 68, none⟩) (.inl rfl) v
  have hsz : (w2.setCell ⟨g, j * 69 + 68, none⟩ v).heap.size = w2.heap.size := by simp
  have hobl : ∀ b, ob = some b → b < w2.heap.size := fun b e => by subst e; exact hW.lt
  refine ⟨fun k hk => ?_, fun k hk hkj => ?_, fun k b hk hkj e => ?_, fun i k b hi hk ei ek => ?_⟩
  · by_cases c : k = j
    · subst c; exact ((h2.c k hk).put68 v).1
    · refine (h2.c k hk).keep fun i hi => ⟨World.cell?_setCell_other _ _ _ _ (fun e => by have : j * 69 + 68 = k * 69 + i := congrArg Addr.off e; omega), World.frozen?_setCell _ _ _ _⟩
  · by_cases c : k = j
    · subst c
      refine ⟨v, ((h2.c k hk).put68 v).2, ?_⟩
      simp only [if_true]
      exact hW.carry (fun b e => hf.block b (hobl b e) (fun e2 => by have := hob b e; omega))
    · obtain ⟨v', v1, v2⟩ := h2.wt k hk (by omega)
      refine ⟨v', (World.cell?_setCell_other _ _ _ _ (fun e => by have : j * 69 + 68 = k * 69 + 68 := congrArg Addr.off e; omega)).trans v1, ?_⟩
      simp only [c, if_false]
      exact v2.carry (fun b e => hf.block b (h2.own k b hk (by omega) e).2.2.2 (h2.own k b hk (by omega) e).2.1)
  · by_cases c : k = j
    · simp only [c, if_true] at e
      have := hob b e
      have := hobl b e
      exact ⟨by omega, by omega, by omega, by rw [hsz]; omega⟩
    · simp only [c, if_false] at e
      have := h2.own k b hk (by omega) e
      exact ⟨this.1, this.2.1, this.2.2.1, by rw [hsz]; exact this.2.2.2⟩
  · have key : ∀ m, m < j + 1 → m ≠ j → G m = some b → ob = some b → False := fun m hm hmj e1 e2 => by
      have := (h.own m b (by omega) (by omega) e1).2.2.2
      have := hob b e2
      omega
    by_cases ci : i = j
    · by_cases ck : k = j
      · rw [ci, ck]
      · simp only [ci, if_true] at ei; simp only [ck, if_false] at ek; exact (key k hk ck ek ei).elim
    · by_cases ck : k = j
      · simp only [ci, if_false] at ei; simp only [ck, if_true] at ek; exact (key i hi ci ei ek).elim
      · simp only [ci, if_false] at ei; simp only [ck, if_false] at ek; exact h.dis i k b (by omega) (by omega) ei ek
theorem CpRows.ar {w : World} {p g B N M cap : Nat} {L : List Rq} {G : Nat → Option Nat} (h : CpRows w p g B L.length L G) (hp : w.heap[p]? = some (.cells (arbC (ndM N) (.slice (some ⟨g, 0, none⟩) L.length cap)) 121 (0, 0))) (hcap : L.length ≤ cap) (hcm : cap ≤ maxLen) (hn : N ≤ 64) (hl : L.length ≤ 64) (hI : LInv N M L) (hg : g < w.heap.size) (hne : p ≠ g) (hB : B ≤ g) :
    ∃ Ft, ArIs w p g N M L Ft ∧ ∀ b, Ft b → B ≤ b := by
  refine ⟨fun b => b = g ∨ ∃ k, k < L.length ∧ G k = some b, ⟨hn, hl, hI, ⟨cap, hp, hcap, hcm⟩, hg, .inl rfl, ?_, ?_, G, fun k b hk e => ⟨.inr ⟨k, hk, e⟩, (h.own k b hk hk e).2.1⟩, fun i j b hi hj => h.dis i j b hi hj, fun k hk => ⟨h.c k hk, h.wt k hk hk⟩⟩, ?_⟩
  · rintro (e | ⟨k, hk, e⟩)
    · exact hne e
    · exact (h.own k p hk hk e).2.2.1 rfl
  · rintro b (rfl | ⟨k, hk, e⟩)
    · exact hg
    · exact (h.own k b hk hk e).2.2.2
  · rintro b (rfl | ⟨k, hk, e⟩)
    · exact hB
    · exact (h.own k b hk hk e).1
theorem exec_buildC {a : Act} {o : Oper} {w : World} (x y : Operand) (ho : o.op = .build 121 #[(0, x), (1, y)]) {f : Nat → Bool} {ad : Option Addr} {n c : Nat} (hx : a.eval x = .agg (mkM f).toArray) (hy : a.eval y = .slice ad n c) : (execOp a.eval o).run Tryd.prog w = .ok (.value (.agg (arbC f (.slice ad n c)))) w := by
  unfold execOp
  simp only [ho, hx, hy, Sem.run_bind, Sem.run_pure, Result.andThen_ok, List.map_toArray, List.map_nil, List.map_cons, build_arb2]
theorem WtIs.slice {w : World} {v : Value} {ob : Option Nat} {A : List Int} (h : WtIs w v ob A) : ∃ a n c, v = .slice a n c := by
  obtain ⟨b, ao, cap, rfl, _⟩ := h.view
  exact ⟨_, _, _, rfl⟩
structure CpMid (w wr : World) (p g N M : Nat) (L : List Rq) (Ft : Nat → Prop) (p' g' cap j : Nat) (G : Nat → Option Nat) : Prop where
  src : ArIs wr p g N M L Ft
  hp : wr.heap[p']? = some (.cells (arbC (ndM N) (.slice (some ⟨g', 0, none⟩) L.length cap)) 121 (0, 0))
  rows : CpRows wr p' g' w.heap.size j L G
  gl : g' < wr.heap.size
  bel : Below w.heap.size w wr
theorem CpMid.step {w wr w2 : World} {p g N M : Nat} {L : List Rq} {Ft : Nat → Prop} {p' g' cap j : Nat} {G : Nat → Option Nat} {v : Value} {ob : Option Nat} (h : CpMid w wr p g N M L Ft p' g' cap j G) (hb : Below wr.heap.size wr w2) (hj : j < L.length) (hW : WtIs w2 v ob (wtQ L[j])) (hob : ∀ b, ob = some b → wr.heap.size ≤ b) (hg : w.heap.size ≤ g') (hpg : p' ≠ g') (h1 : p ≠ g') (h2 : ¬ Ft g') :
    CpMid w (w2.setCell ⟨g', j * 69 + 68, none⟩ v) p g N M L Ft p' g' cap (j + 1) (fun k => if k = j then ob else G k) := by
  have hf : FrS (· = g') w2 (w2.setCell ⟨g', j * 69 + 68, none⟩ v) := (FrS.refl (· = g') w2).setCell (q := ⟨g', j * 69 + 68, none⟩) (.inl rfl) v
  have hpl := (Array.getElem?_eq_some_iff.1 h.hp).1
  refine ⟨(h.src.below hb).fr hf h1 (fun b hb e => h2 (e ▸ hb)), ?_, h.rows.step h.gl hpl h.bel.size hb hj hW hob, by simp; exact Nat.lt_of_lt_of_le h.gl hb.size, (h.bel.trans (hb.mono h.bel.size)).setCell hg v⟩
  rw [hf.block p' (Nat.lt_of_lt_of_le hpl hb.size) hpg, hb.block p' hpl]
  exact h.hp
set_option maxHeartbeats 1000000 in
theorem aCopy_c (p g N M : Nat) (L : List Rq) (Ft : Nat → Prop) (w : World) (h : ArIs w p g N M L Ft) (hM : M ≤ 100000) : Calls Tryd.prog 45 #[ptr p] w fun e w' => ∃ p', e = .returned (ptr p') ∧ ∃ g' Ft', ArIs w' p' g' N M L Ft' ∧ (∀ b, Ft' b → w.heap.size ≤ b) ∧ w.heap.size ≤ p' ∧ Below w.heap.size w w' := by
  have hH := hide h
  obtain ⟨cap, c64, -, -⟩ := h.c64
  have hpl := h.pl
  have hgl := h.gl
  have hl64 := h.l64
  obtain ⟨n, hn⟩ : ∃ n, Hid (L.length = n) := ⟨_, rfl⟩
  have hn64 : n ≤ 64 := by rw [← hn.out]; exact hl64
  obtain ⟨G0, hG0⟩ := h.rows
  have hone := hide hG0.one
  have hrow := hide hG0.row
  have hmk := hide h.marks
  rw [hn.out] at c64
  clear h hG0
  go_enter Tryd.func45, Tryd.ntmps45
  go_wp2_with fail
  refine wp_region_noPanic ?_
  refine wp_region_held_drew (S := (fun w' => Hid (w'.rangeAt p 0 (mkM (ndM N))) ∧ w'.cell? ⟨p, 64, none⟩ = some (.slice (some ⟨g, 0, none⟩) n cap))) (by kernel_rfl) ?_ (fun hHeld => ?_)
  · exact ⟨hide ((World.rangeAt_drew _ _ _ _).2 hmk.out), c64⟩
  refine hTk 0 5 hHeld ?_
  refine hTk 1 6 hHeld ?_
  refine hTk 2 7 hHeld ?_
  refine hTk 4 9 hHeld ?_
  refine hTk 5 10 hHeld ?_
  refine hTk 6 11 hHeld ?_
  refine hTk 7 12 hHeld ?_
  refine hVl 3 8 (.agg (mkM (ndM N)).toArray) hHeld (fun wz hSw => ?_) ?_
  · try dsimp only at hSw
    exact exec_loadM (.tmp 7) rfl rfl hSw.1.out
  refine hNo 8 fun K hK => ?_
  go_simp
  go_at_call 69
  refine (cloneQ_c g n cap w.drew hgl (fun i hi => hone.out i (by rw [hn.out]; exact hi)) hn64).mono ?_
  rintro e w1 ⟨g', cap', rfl, hB1, hg1, hg2, hc1, hc2, hcl⟩
  have hB1' : Below w.heap.size w w1 := ((Below.refl _ _).drew).trans hB1
  have ep := hB1'.block p hpl
  refine hK.out _ _ ?_ fun hHeld => ?_
  · exact ⟨hide (fun j v hv => keep_cell ep (hmk.out j v hv)), keep_cell ep c64⟩
  clear hK K
  try simp only [Act.put, za, zb, zc]
  refine hVl 9 14 (.agg (arbC (ndM N) (.slice (some ⟨g', 0, none⟩) n cap'))) hHeld (fun wz hSw => ?_) ?_
  · try dsimp only at hSw
    exact exec_buildC (.tmp 8) (.tmp 13) rfl rfl rfl
  have hMid : Hid (CpMid w (w1.alloc (.cells (arbC (ndM N) (.slice (some ⟨g', 0, none⟩) n cap')) 121)) p g N M L Ft w1.heap.size g' cap' 0 (fun _ => none)) := hide (by
    refine ⟨((unhide hH).below hB1').alloc _, by rw [hn.out]; exact heap_alloc_new w1 _, ⟨fun k hk => ?_, fun k hk h => absurd h (Nat.not_lt_zero _), fun k b hk h => absurd h (Nat.not_lt_zero _), fun i k b h => absurd h (Nat.not_lt_zero _)⟩, by simp; omega, hB1'.alloc hB1'.size _⟩
    have hk' : k * 69 + 69 ≤ n * 69 := by rw [← hn.out]; omega
    refine RowC.carry (w := w1) ?_ (Below.heap_alloc _ _ _ hg2)
    refine (hrow.out k hk).c.keep fun i hi => ?_
    obtain ⟨e1, e2⟩ := hcl (k * 69 + i) (by omega)
    exact ⟨e1, e2.trans ((hrow.out k hk).c.th i hi).2.symm⟩)
  have hB2 : Below w.heap.size w (w1.alloc (.cells (arbC (ndM N) (.slice (some ⟨g', 0, none⟩) n cap')) 121)) := hB1'.alloc hB1'.size _
  have e2 := hB2.block p hpl
  replace hB2 := hide hB2
  have hs1 := hB1'.size
  have hg1' : w.heap.size ≤ g' := hg1
  have k64 : (w1.alloc (.cells (arbC (ndM N) (.slice (some ⟨g', 0, none⟩) n cap')) 121)).cell? ⟨w1.heap.size, 64, none⟩ = some (.slice (some ⟨g', 0, none⟩) n cap') := (cell_of_row _ _ _ _ _ _ (heap_alloc_new w1 _)).trans (arbC_last _ _)
  clear hcl hB1 hB1' hrow hone hg1
  refine hNo 10 fun K hK => ?_
  go_simp
  refine hK.out _ _ ?_ fun hHeld => ?_
  · exact ⟨hide (fun j v hv => keep_cell e2 (hmk.out j v hv)), keep_cell e2 c64⟩
  clear hK K
  try simp only [Act.put, za, zb, zc]
  refine hTk 11 3 hHeld ?_
  refine wpAnyH_done (by kernel_rfl) (NoPanic.normal ?_) _
  clear hHeld
  obtain ⟨W, hW⟩ : ∃ W, w1.alloc (.cells (arbC (ndM N) (.slice (some ⟨g', 0, none⟩) n cap')) 121) = W := ⟨_, rfl⟩
  rw [hW] at hMid k64 ⊢
  obtain ⟨p', hp'⟩ : ∃ p', w1.heap.size = p' := ⟨_, rfl⟩
  rw [hp'] at hMid k64 hg2 hs1 ⊢
  clear hW hB2 e2 ep hp' hmk c64
  go_wp2_with fail
  go_loopw [21] (fun i wr => ∃ j : Nat, j ≤ n ∧ i = .int .i64 j ∧ ∃ G, CpMid w wr p g N M L Ft p' g' cap' j G) (fun i _ => n - (intOf i).toNat)
  case atStart => exact ⟨0, Nat.zero_le _, rfl, _, hMid.out⟩
  case round =>
    obtain ⟨j, hj, rfl, G, hm⟩ := hrel
    clear hMid k64
    have k64 : wr.cell? ⟨p', 64, none⟩ = some (.slice (some ⟨g', 0, none⟩) n cap') := by rw [cell_of_row _ _ _ _ _ _ hm.hp, arbC_last, hn.out]
    have hpl' := (Array.getElem?_eq_some_iff.1 hm.hp).1
    by_cases hlt : j < n
    · have hlt' : (j : Int) < n := by omega
      have hjL : j < L.length := by rw [hn.out]; exact hlt
      have hwq : Hid (wtsQ L j = wtQ L[j]) := hide (by unfold wtsQ; rw [if_pos (hasQ_iff.2 ⟨j, rfl, hjL⟩), getQ_at hjL])
      have h68 := hide (hm.rows.c j hjL).th
      have hgl' := hm.gl
      replace hm := hide hm
      go_wp2_with fail
      refine wp_region_noPanic ?_
      refine last_begin 10 (fun w' => Hid (Below wr.heap.size wr w') ∧ w'.cell? ⟨p', 64, none⟩ = some (.slice (some ⟨g', 0, none⟩) n cap')) (by kernel_rfl) ?_ fun hHeld => ?_
      · exact ⟨hide (Below.refl _ _).drew, k64⟩
      refine lTk 0 24 hHeld ?_
      refine lTk 1 25 hHeld ?_
      refine lTk 2 26 hHeld ?_
      refine lTk 3 27 hHeld ?_
      refine lTk 4 28 hHeld ?_
      refine lTk 5 29 hHeld ?_
      refine lTk 6 30 hHeld ?_
      refine lNo 7 fun K hK => ?_
      go_simp
      go_at_call 43
      refine (aWait_c p g N M L Ft j wr.drew (hm.out.src.carry rfl (fun _ _ => rfl)) hM).mono ?_
      rintro e w2 ⟨v, rfl, ob, hW2, hob, hB2⟩
      obtain ⟨va, vn, vc, rfl⟩ := hW2.slice
      have hB3 : Below wr.heap.size wr w2 := ((Below.refl _ _).drew).trans hB2
      refine hK.out _ _ (fun _ => ?_) fun hHeld0 => ?_
      · exact ⟨hide hB3, keep_cell (hB3.block _ hpl') k64⟩
      clear hK K
      replace hHeld := hHeld0 (by decide)
      clear hHeld0
      try simp only [Act.put, za, zb, zc]
      rw [hwq.out] at hW2
      have hst := hide (hm.out.step hB3 hjL hW2 hob hg1' (by omega) (by have := (unhide hH).pl; omega) (fun e => by have := (unhide hH).lt _ e; omega))
      have q68 := keep_frozen (hB3.block g' hgl') (h68.out 68 (by omega)).2
      obtain ⟨u68, hu68⟩ := Option.isSome_iff_exists.1 (h68.out 68 (by omega)).1
      have q69 := keep_cell (hB3.block g' hgl') hu68
      clear hW2 hob hB2 hB3 hu68
      refine lNo 8 fun K hK => ?_
      go_simp
      refine hK.out _ _ (fun _ => ?_) fun hHeld0 => ?_
      · exact hHeld
      clear hK K
      replace hHeld := hHeld0 (by decide)
      clear hHeld0
      try simp only [Act.put, za, zb, zc]
      refine lTk 9 33 hHeld ?_
      refine lNo 10 fun K hK => ?_
      go_simp
      refine hK.out _ _ (fun h => absurd rfl h) fun _ => ?_
      clear hK K
      try simp only [Act.put, za, zb, zc]
      refine last_done (by kernel_rfl) (NoPanic.normal ?_) _
      clear hHeld
      go_wp2_with fail
      go_roundw
      case rel => exact ⟨j + 1, by omega, by simp, _, hst.out⟩
      case measure => simp [intOf]; omega
    · obtain rfl : j = n := by omega
      replace hm := hide hm
      go_wp2_with fail
      go_ret
      have hr := hm.out.rows
      rw [← hn.out] at hr hc1
      obtain ⟨Ft', hA, hF⟩ := hr.ar hm.out.hp hc1 hc2 (unhide hH).n64 hl64 (unhide hH).inv hm.out.gl (by omega) hg1'
      exact ⟨p', rfl, g', Ft', hA, hF, by omega, hm.out.bel⟩
abbrev slD (g n : Nat) : Value := .slice (some ⟨g, 0, none⟩) n n
def VwD (w : World) (F : Nat → Prop) (h : Nat) (v : Value) (A : List Int) : Prop := ∃ b, View w v b A ∧ (A ≠ [] → F b ∧ b ≠ h)
structure RowD (w : World) (F : Nat → Prop) (h o : Nat) (r : Rq) : Prop where
  c0 : ∃ v, w.cell? ⟨h, o, none⟩ = some v ∧ VwD w F h v r.A
  c1 : w.cell? ⟨h, o + 1, none⟩ = some (.int .i64 r.n)
  c2 : w.cell? ⟨h, o + 2, none⟩ = some (.int .i64 r.ph)
  c3 : ∃ v, w.cell? ⟨h, o + 3, none⟩ = some v ∧ VwD w F h v r.kn
  th : w.there h o 4
def LPre (N M : Nat) (L : List Rq) : Prop := ∀ r ∈ L, RPre N M r
theorem RPre.mono {N M M' : Nat} {r : Rq} (h : RPre N M r) (hM : M ≤ M') : RPre N M' r := ⟨Nat.le_trans h.al hM, Nat.le_trans h.kl hM, h.le, h.ph, h.on, h.ks⟩
theorem LPre.mono {N M M' : Nat} {L : List Rq} (h : LPre N M L) (hM : M ≤ M') : LPre N M' L := fun r hr => (h r hr).mono hM
theorem LPre.get {N M : Nat} {L : List Rq} (h : LPre N M L) {j : Nat} (hj : j < L.length) : RPre N M L[j] := h _ (List.getElem_mem hj)
theorem LPre.set {N M : Nat} {L : List Rq} (h : LPre N M L) (j : Nat) {r : Rq} (hr : RPre N M r) : LPre N M (L.set j r) := fun q hq => by
  rcases List.mem_or_eq_of_mem_set hq with hq | rfl
  · exact h q hq
  · exact hr
theorem RPre.psh {N M : Nat} {r : Rq} (h : RPre N M r) (x : Int) : RPre N (M + 1) (pshQ r x) :=
  ⟨by simp [pshQ]; exact h.al, Nat.le_succ_of_le h.kl, by have := h.le; simp [pshQ]; omega, h.ph, h.on, h.ks⟩
theorem RPre.done {N M : Nat} {r : Rq} (h : RPre N M r) (s : Int) : RPre N M (dnQ r s) := by
  unfold dnQ
  split
  · rename_i c
    exact ⟨h.al, Nat.zero_le _, h.le, .inr (.inr rfl), fun _ => h.on (by rw [c.1]; decide), fun _ hk => by simp at hk⟩
  · exact h
theorem RPre.kn {N M : Nat} {r : Rq} (h : RPre N M r) (hp : r.ph = 2) (p2 : Int) (hp2 : p2 = 0 ∨ p2 = 2) {x : Int} (hx : 0 ≤ x ∧ x < N) : RPre N (M + 1) ⟨r.A, r.n, p2, r.kn ++ [x]⟩ :=
  ⟨Nat.le_succ_of_le h.al, by simp; exact h.kl, h.le, by rcases hp2 with rfl | rfl <;> simp, fun _ => h.on (by rw [hp]; decide), fun k hk => by
    simp only [List.mem_append, List.mem_singleton] at hk
    rcases hk with hk | rfl
    · exact h.ks k hk
    · exact hx⟩
structure RdIs (w : World) (q h N M : Nat) (L : List Rq) (F : Nat → Prop) : Prop where
  n64 : N ≤ 64
  l64 : L.length ≤ 64
  inv : LPre N M L
  c0 : w.cell? ⟨q, 0, none⟩ = some (.int .i64 N)
  c1 : w.cell? ⟨q, 1, none⟩ = some (slD h L.length)
  ql : q < w.heap.size
  fh : F h
  fq : ¬ F q
  lt : ∀ b, F b → b < w.heap.size
  rows : ∀ k (hk : k < L.length), RowD w F h (k * 4) L[k]
theorem VwD.carry {w w' : World} {F F' : Nat → Prop} {h : Nat} {v : Value} {A : List Int} (hV : VwD w F h v A) (e : ∀ b, F b → b ≠ h → w'.heap[b]? = w.heap[b]?) (hF : ∀ b, F b → F' b) : VwD w' F' h v A := by
  obtain ⟨b, h1, h2⟩ := hV
  exact ⟨b, h1.carry (fun hn _ => e b (h2 hn).1 (h2 hn).2), fun hn => ⟨hF b (h2 hn).1, (h2 hn).2⟩⟩
section
variable {w w' : World} {q h N M M' : Nat} {L : List Rq} {F G : Nat → Prop}
theorem RowD.keep {F' : Nat → Prop} {o : Nat} {r : Rq} (hr : RowD w F h o r) (e : ∀ i, i < 4 → w'.cell? ⟨h, o + i, none⟩ = w.cell? ⟨h, o + i, none⟩ ∧ w'.frozen? ⟨h, o + i, none⟩ = w.frozen? ⟨h, o + i, none⟩) (eF : ∀ b, F b → b ≠ h → w'.heap[b]? = w.heap[b]?) (hF : ∀ b, F b → F' b) : RowD w' F' h o r := by
  obtain ⟨v0, k0, k1⟩ := hr.c0
  obtain ⟨v3, k2, k3⟩ := hr.c3
  exact ⟨⟨v0, (e 0 (by omega)).1.trans k0, k1.carry eF hF⟩, (e 1 (by omega)).1.trans hr.c1, (e 2 (by omega)).1.trans hr.c2, ⟨v3, (e 3 (by omega)).1.trans k2, k3.carry eF hF⟩, fun j hj => by rw [(e j hj).1, (e j hj).2]; exact hr.th j hj⟩
theorem RdIs.hl (hr : RdIs w q h N M L F) : h < w.heap.size := hr.lt h hr.fh
theorem RdIs.carry (hr : RdIs w q h N M L F) (eq : w'.heap[q]? = w.heap[q]?) (eF : ∀ b, F b → w'.heap[b]? = w.heap[b]?) : RdIs w' q h N M L F :=
  ⟨hr.n64, hr.l64, hr.inv, keep_cell eq hr.c0, keep_cell eq hr.c1, block_lt hr.ql eq, hr.fh, hr.fq, fun b hb => block_lt (hr.lt b hb) (eF b hb), fun k hk => (hr.rows k hk).keep (fun i _ => ⟨World.cell?_of_block (w := w) (eF h hr.fh), World.frozen?_of_block (w := w) (eF h hr.fh)⟩) (fun b hb _ => eF b hb) (fun _ h => h)⟩
theorem RdIs.below (hr : RdIs w q h N M L F) (hb : Below w.heap.size w w') : RdIs w' q h N M L F := hr.carry (hb.block q hr.ql) (fun b hF => hb.block b (hr.lt b hF))
theorem RdIs.fr (hr : RdIs w q h N M L F) (hf : FrS G w w') (hq : ¬ G q) (hF : ∀ b, F b → ¬ G b) : RdIs w' q h N M L F := hr.carry (hf.block q hr.ql hq) (fun b hb => hf.block b (hr.lt b hb) (hF b hb))
theorem RdIs.alloc (hr : RdIs w q h N M L F) (o : Obj) : RdIs (w.alloc o) q h N M L F := hr.below ((Below.refl _ _).alloc (Nat.le_refl _) _)
theorem RdIs.drewN (hr : RdIs w q h N M L F) (n : Nat) : RdIs (w.drewN n) q h N M L F := hr.carry rfl (fun _ _ => rfl)
theorem RdIs.mono (hr : RdIs w q h N M L F) (hM : M ≤ M') : RdIs w q h N M' L F := ⟨hr.n64, hr.l64, hr.inv.mono hM, hr.c0, hr.c1, hr.ql, hr.fh, hr.fq, hr.lt, hr.rows⟩
structure RG (h o : Nat) (w w' : World) : Prop where
  fr : FrS (· = h) w w'
  out : ∀ i, i < o ∨ o + 4 ≤ i → w'.cell? ⟨h, i, none⟩ = w.cell? ⟨h, i, none⟩ ∧ w'.frozen? ⟨h, i, none⟩ = w.frozen? ⟨h, i, none⟩
theorem RG.refl (h o : Nat) (w : World) : RG h o w w := ⟨FrS.refl _ _, fun _ _ => ⟨rfl, rfl⟩⟩
theorem RG.trans {o : Nat} {a b c : World} (x : RG h o a b) (y : RG h o b c) : RG h o a c := ⟨x.fr.trans y.fr (fun _ e => .inl e), fun i hi => ⟨(y.out i hi).1.trans (x.out i hi).1, (y.out i hi).2.trans (x.out i hi).2⟩⟩
theorem RG.of_below {o : Nat} {a b : World} (hb : Below a.heap.size a b) (hh : h < a.heap.size) : RG h o a b := ⟨FrS.of_below hb, fun i _ => ⟨World.cell?_of_block (w := a) (hb.block h hh), World.frozen?_of_block (w := a) (hb.block h hh)⟩⟩
theorem RG.setCell {o : Nat} {a b : World} (x : RG h o a b) {i : Nat} (h1 : o ≤ i) (h2 : i < o + 4) (v : Value) : RG h o a (b.setCell ⟨h, i, none⟩ v) :=
  ⟨x.fr.setCell (.inl rfl) v, fun j hj => by
    have ne : (⟨h, i, none⟩ : Addr) ≠ ⟨h, j, none⟩ := fun e => by cases e; omega
    rw [World.cell?_setCell_other _ _ _ _ ne, World.frozen?_setCell]
    exact x.out j hj⟩
theorem RG.andThen {o : Nat} {a b c : World} {F : Nat → Prop} (x : RG h o a b) (y : FrS F b c) (hF : ∀ i, F i → a.heap.size ≤ i) (hh : h < a.heap.size) : RG h o a c := by
  have e := y.block h (Nat.lt_of_lt_of_le hh x.fr.size) (fun e => by have := hF h e; omega)
  exact ⟨x.fr.trans y (fun i hi => .inr (hF i hi)), fun i hi => ⟨(World.cell?_of_block (w := b) e).trans (x.out i hi).1, (World.frozen?_of_block (w := b) e).trans (x.out i hi).2⟩⟩
theorem RdIs.put (hr : RdIs w q h N M L F) {k : Nat} (hk : k < L.length) {r : Rq} {F' : Nat → Prop} (hR : RowD w' F' h (k * 4) r) (hf : RG h (k * 4) w w') (hF : ∀ b, F b → F' b) (hF' : ∀ b, F' b → F b ∨ (w.heap.size ≤ b ∧ b < w'.heap.size)) (hI : RPre N M' r) (hM : M ≤ M') :
    RdIs w' q h N M' (L.set k r) F' ∧ Step F F' w w' := by
  have hql := hr.ql
  have hhl := hr.hl
  have hqh : q ≠ h := fun e => hr.fq (e ▸ hr.fh)
  have eq := hf.fr.block q hql hqh
  refine ⟨⟨hr.n64, by rw [List.length_set]; exact hr.l64, (hr.inv.mono hM).set k hI, keep_cell eq hr.c0, by rw [List.length_set]; exact keep_cell eq hr.c1, block_lt hql eq, hF h hr.fh, ?_, ?_, ?_⟩, hf.fr.mono (fun b _ e => e ▸ hr.fh), ?_⟩
  · intro e
    rcases hF' q e with e | e
    · exact hr.fq e
    · omega
  · intro b hb
    rcases hF' b hb with e | e
    · exact Nat.lt_of_lt_of_le (hr.lt b e) hf.fr.size
    · exact e.2
  · intro i hi
    rw [List.length_set] at hi
    by_cases c : i = k
    · subst c
      rw [List.getElem_set_self]
      exact hR
    · rw [List.getElem_set_ne (fun e => c e.symm)]
      exact (hr.rows i hi).keep (fun j hj => hf.out _ (by omega)) (fun b hb hn => hf.fr.block b (hr.lt b hb) hn) hF
  · intro b hb
    rcases hF' b hb with e | e
    · exact .inl e
    · exact .inr e.1
end
end Go.Proofs.YtmgjgeaigdiadaaDoor
