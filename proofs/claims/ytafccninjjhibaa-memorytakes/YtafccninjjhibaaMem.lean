/- A memory in memory: a struct, its slice of tokens (layer 10). The contracts of has, Get, Put, Take, All, Copy, New. -/
import Derived.Test.YtafccninjjhibaaBnRow
import Derived.Test.YtafccninjjhibaaMemMath
import Derived.Test.YtafccninjjhibaaHand
import Derived.Test.YtafccninjjhibaaHand2
import Derived.Test.YtafccninjjhibaaBunC
import Derived.OwnWalk
namespace Go.Proofs.Ytafccninjjhibaa
open Go.ChangeShapes Go.WideShapes Go.ChangeAt Go.RowKit
set_option linter.unusedSimpArgs false
set_option linter.unusedVariables false
set_option maxRecDepth 10000

attribute [local go_sem, local simp] over_const setCell_drewN alloc_drewN Over.cell Over.frozen lt_s1 lt_s2 lt_s3 le_s0 le_s1 le_s2 le_s3 eq_s0 eq_s1 eq_s2 qe_s0

abbrev slB (g n : Nat) : Value := .slice (some ⟨g, 0, none⟩) n n

theorem made_at (n j : Nat) (hj : j < n * 4) : (madeCells (bunV bun0).cells (n * 4))[j]? = (flatBn (List.replicate n bun0))[j]? := by
  have e : j = (j / 4) * 4 + j % 4 := by omega
  have h1 : j / 4 < n := by omega
  have h2 : j % 4 < 4 := by omega
  have h3 : (flatBn (List.replicate n bun0))[j]? = (bnC bun0)[j % 4]? := by
    have := flatBn_at (List.replicate n bun0) (j / 4) (j % 4) (by simpa using h1) h2
    rw [← e] at this
    rw [this]
    simp
  rw [h3]
  simp only [madeCells, bunV, Value.cells, bnC]
  rw [Array.getElem?_map, Array.getElem?_range, if_pos hj]
  have : j % 4 = 0 ∨ j % 4 = 1 ∨ j % 4 = 2 ∨ j % 4 = 3 := by omega
  rcases this with h | h | h | h <;> simp [h]

theorem own_made (w : World) (n : Nat) (hn : n ≤ 64) : OwnB (w.alloc (.cells (madeCells (bunV bun0).cells (n * 4)) 31)) (slB w.heap.size n) w.heap.size (List.replicate n bun0) := by
  have hnew := heap_alloc_new w (Obj.cells (madeCells (bunV bun0).cells (n * 4)) 31)
  have hcell := fun j => cell_of_row _ w.heap.size j _ _ _ hnew
  refine ⟨_, n, by simp, by simp, by simp only [maxLen]; omega, by simp, .inr ⟨0, rfl, fun j hj => ?_, fun j hj => ?_⟩⟩
  · rw [Nat.zero_add]
    simp only [List.length_replicate] at hj
    exact (hcell j).trans (made_at n j hj)
  · rw [Nat.zero_add]
    refine ⟨?_, ?_⟩
    · have := hcell j
      rw [Array.getElem?_eq_getElem (by rw [size_madeCells]; exact hj)] at this
      exact Option.isSome_iff_exists.2 ⟨_, this⟩
    · simp only [World.frozen?]
      rw [hnew]
      simp

section
variable {w : World} {ops : Array Oper} {rest : List Oper} {o : Oper} {a : Act} {Q : Exit → Act → World → Prop}
theorem wpList_makeB (hg : o.guard = none) (l c : Operand) (hop : o.op = Op.makeSlice 28 l c) (n : Nat) (hl : a.eval l = .int .i64 (n : Int)) (hc : a.eval c = .int .i64 (n : Int)) (hn : n ≤ 64)
    (hK : ∀ w', OwnB w' (slB w.heap.size n) w.heap.size (List.replicate n bun0) → Below w.heap.size w w' → w'.heap.size = w.heap.size + 1 → wpList Try.prog ops Q rest (a.put o.dst (slB w.heap.size n)) w') : wpList Try.prog ops Q (o :: rest) a w := by
  refine wpList_plain hg fun K hK' => ?_
  obtain ⟨i, hi, hz0, hz1, hz2⟩ := info_parts infoB
  have hrun := run_make (P := Try.prog) w 28 _ i _ Try.underlying28 hi hz0 .i64 .i64 n n (by omega) (Int.le_refl _) (by rw [hz2]; omega) (by omega)
  simp only [Int.toNat_natCast, hz1] at hrun
  unfold Oper.wp
  simp [execOp, hop, hl, hc, hrun, Result.andThen]
  exact hK' _ _ (hK _ (own_made w n hn) ((Below.refl _ _).alloc (Nat.le_refl _) _) (by simp))

theorem run_cpyB {ty : TypeId} {g dLen dCap : Nat} {ad : Addr} {sLen sCap : Nat} (cs : List Value) (hn : cs.length = Nat.min sLen dLen * 4) (hsrc : ∀ j u, cs[j]? = some u → w.cell? (ad.add j) = some u)
    (hc : ∀ j, j < cs.length → (w.cell? ⟨g, 0 + j, none⟩).isSome = true ∧ w.frozen? ⟨g, 0 + j, none⟩ = false) (h1 : ∀ u ∈ cs, u.oneCell' = true) :
    (Builtin.copy_ #[28, 28] ty #[.slice (some ⟨g, 0, none⟩) dLen dCap, .slice (some ad) sLen sCap]).run Try.prog w = .ok (goInt (Nat.min sLen dLen)) (w.setCells g 0 cs) := by
  obtain ⟨i0, hi, hz0, hz1, hz2⟩ := info_parts infoB
  have hl := run_loadCells_list (P := Try.prog) w ad cs hsrc
  have hst := run_storeCells_cells (P := Try.prog) g 0 cs 0 w (fun j hj => (by simpa using (hc j hj).1)) (fun j hj => (by simpa using (hc j hj).2)) h1
  rw [hn] at hl
  simp only [Nat.add_zero] at hst
  simp [Builtin.copy_, run_underlying Try.underlying28, Builtin.lenOf, Builtin.firstCells, sizeOf, typeInfo, hi, hz1, hl, hst]

/-- copy of as many as there are. -/
theorem cpyB_run {g g' n : Nat} {L M : List Bun} (hO : OwnB w (slB g n) g M) (hV : OwnB w (slB g' n) g' L) (hM : M.length = n) (hL : L.length = n) (ty : TypeId) :
    ∃ w', (Builtin.copy_ #[28, 28] ty #[slB g n, slB g' n]).run Try.prog w = .ok (.int .i64 (n : Int)) w' ∧ OwnB w' (slB g n) g L ∧ FrS (· = g) w w' := by
  obtain ⟨ao, cap, e, h1, h2, h3, h4⟩ := hO
  simp only [slB, Value.slice.injEq] at e
  obtain ⟨rfl, -, rfl⟩ := e
  rcases h4 with ⟨h4, -⟩ | ⟨o1, e1, h5, h6⟩
  · cases h4
  obtain rfl : o1 = 0 := by simp at e1; exact e1.symm
  obtain ⟨ao, cap, e, h1', h2', h3', h4'⟩ := hV
  simp only [slB, Value.slice.injEq] at e
  obtain ⟨rfl, -, rfl⟩ := e
  rcases h4' with ⟨h4', -⟩ | ⟨o2, e2, h5', h6'⟩
  · cases h4'
  obtain rfl : o2 = 0 := by simp at e2; exact e2.symm
  have hr := run_cpyB (w := w) (ty := ty) (g := g) (dLen := n) (dCap := n) (ad := ⟨g', 0, none⟩) (sLen := n) (sCap := n) (flatBn L) (by rw [flatBn_length, hL, show Nat.min n n = n from Nat.min_self n]) (fun j u hu => by
    have hj : j < L.length * 4 := by rw [← flatBn_length]; exact (List.getElem?_eq_some_iff.1 hu).1
    rw [Addr.add_lit, h5' j hj]; exact hu) (fun j hj => h6 j (by rw [flatBn_length, hL] at hj; exact hj)) (flatBn_one L)
  rw [show Nat.min n n = n from Nat.min_self n] at hr
  refine ⟨_, hr, ⟨_, n, by rw [hL], by omega, h2, Nat.lt_of_lt_of_le h3 (setCells_frS g _ _ w).size, .inr ⟨0, rfl, fun j hj => ?_, fun j hj => ?_⟩⟩, setCells_frS g _ _ w⟩
  · have := World.cell?_setCells_in g (flatBn L) 0 w (fun i hi => (h6 i (by rw [flatBn_length, hL] at hi; exact hi)).1) j (by rw [flatBn_length]; exact hj)
    rw [this, List.getElem?_eq_getElem]
  · exact ⟨World.isSome_setCells _ _ _ _ _ (h6 j hj).1, by rw [World.frozen?_setCells]; exact (h6 j hj).2⟩
end

/-- A memory in block p, its tokens in block g. -/
structure MemIs (w : World) (p g : Nat) (N : Int) (L : List Bun) : Prop where
  ne : p ≠ g
  pl : p < w.heap.size
  inv : MInv N L
  c0 : w.cell? ⟨p, 0, none⟩ = some (slB g L.length)
  own : OwnB w (slB g L.length) g L

section
variable {w w' : World} {p g : Nat} {N : Int} {L : List Bun}
theorem MemIs.gl (h : MemIs w p g N L) : g < w.heap.size := h.own.lt
theorem MemIs.carry (h : MemIs w p g N L) (ep : w'.heap[p]? = w.heap[p]?) (eg : w'.heap[g]? = w.heap[g]?) : MemIs w' p g N L := ⟨h.ne, block_lt h.pl ep, h.inv, keep_cell ep h.c0, h.own.carry eg⟩
theorem MemIs.below (h : MemIs w p g N L) (hf : Below w.heap.size w w') : MemIs w' p g N L := h.carry (hf.block p h.pl) (hf.block g h.gl)
theorem MemIs.fr {F : Nat → Prop} (h : MemIs w p g N L) (hf : FrS F w w') (hp : ¬ F p) (hg : ¬ F g) : MemIs w' p g N L := h.carry (hf.block p h.pl hp) (hf.block g h.gl hg)
theorem MemIs.alloc (h : MemIs w p g N L) (o : Obj) : MemIs (w.alloc o) p g N L := h.carry (Below.heap_alloc _ _ _ h.pl) (Below.heap_alloc _ _ _ h.gl)
theorem MemIs.drew (h : MemIs w p g N L) : MemIs w.drew p g N L := h.carry rfl rfl
theorem MemIs.drewN (h : MemIs w p g N L) (n : Nat) : MemIs (w.drewN n) p g N L := h.carry rfl rfl
theorem MemIs.quiet (h : MemIs w p g N L) (hb : Below w.heap.size w w') : MemIs w' p g N L ∧ FrS (· = g) w w' := ⟨h.below hb, FrS.of_below hb⟩
theorem MemIs.mono {M : Int} (h : MemIs w p g N L) (hN : N ≤ M) : MemIs w p g M L := ⟨h.ne, h.pl, h.inv.mono hN, h.c0, h.own⟩
/-- One block's cells. -/
theorem MemIs.row (h : MemIs w p g N L) {j : Nat} (hj : j < L.length) {b : Bun} (hb : L[j] = b) : w.cell? ⟨g, j * 4, none⟩ = some (.int .i64 b.n) ∧ w.cell? ⟨g, j * 4 + 1, none⟩ = some (.bool b.o) ∧ w.cell? ⟨g, j * 4 + 2, none⟩ = some (.bool b.h) ∧ w.cell? ⟨g, j * 4 + 3, none⟩ = some (.int .i64 b.d) ∧ w.frozen? ⟨g, j * 4, none⟩ = false ∧ w.frozen? ⟨g, j * 4 + 1, none⟩ = false ∧ w.frozen? ⟨g, j * 4 + 2, none⟩ = false ∧ w.frozen? ⟨g, j * 4 + 3, none⟩ = false := by
  obtain ⟨-, -, -, k⟩ := view_atB h.own.view rfl
  obtain ⟨o, e, -, k0, k1, k2, k3⟩ := k j hj
  obtain ⟨o', e', f0, f1, f2, f3⟩ := own_atB h.own rfl j hj
  obtain rfl : o = 0 := by simp at e; exact e.symm
  obtain rfl : o' = 0 := by simp at e'; exact e'.symm
  rw [Nat.zero_add] at k0 k1 k2 k3 f0 f1 f2 f3
  subst hb
  exact ⟨k0, k1, k2, k3, f0, f1, f2, f3⟩
theorem MemIs.set {M : Int} (h : MemIs w p g N L) {j : Nat} (hj : j < L.length) (b : Bun) (hI : MInv M (L.set j b)) : MemIs (setR w g (j * 4) b) p g M (L.set j b) ∧ FrS (· = g) w (setR w g (j * 4) b) := by
  have := own_setB h.own rfl j hj b
  rw [Nat.zero_add] at this
  exact ⟨⟨h.ne, Nat.lt_of_lt_of_le h.pl this.2.size, hI, by rw [List.length_set]; exact keep_cell (this.2.block p h.pl h.ne) h.c0, by rw [List.length_set]; exact this.1⟩, this.2⟩
end

set_option maxHeartbeats 400000 in
theorem mHas_c (p g : Nat) (N x : Int) (L : List Bun) (w : World) (h : MemIs w p g N L) (q : Bool) (hq : Hid (hasM L x = q)) : Calls Try.prog 26 #[ptr p, .int .i64 x] w fun e w' => e = .returned (.bool q) ∧ w' = w := by
  have c0 := h.c0
  have hq' := hq.out
  unfold hasM at hq'
  clear h hq
  by_cases a : x < 0
  · obtain rfl : q = false := by rw [← hq']; simp; omega
    clear hq'
    go_enter Try.func26, Try.ntmps26
    go_wp2_with fail
    go_ret
    exact ⟨rfl, rfl⟩
  · by_cases b : x < (L.length : Int)
    · obtain rfl : q = true := by rw [← hq']; simp; omega
      clear hq'
      go_enter Try.func26, Try.ntmps26
      go_wp2_with fail
      go_ret
      exact ⟨rfl, rfl⟩
    · obtain rfl : q = false := by rw [← hq']; simp; omega
      clear hq'
      go_enter Try.func26, Try.ntmps26
      go_wp2_with fail
      go_ret
      exact ⟨rfl, rfl⟩
end Go.Proofs.Ytafccninjjhibaa
