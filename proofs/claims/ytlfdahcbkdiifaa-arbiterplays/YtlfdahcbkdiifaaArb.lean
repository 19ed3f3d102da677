/- An arbiter in memory: a struct, its slice of rows, the rows' slices of those who wait (layer 12). The contracts of hasBlock, hasNode, is. -/
import Derived.Test.YtlfdahcbkdiifaaMarks
import Derived.Test.YtlfdahcbkdiifaaArbMath
import Derived.Test.YtlfdahcbkdiifaaLinA
import Derived.Test.YtlfdahcbkdiifaaHand2
import Derived.OwnWalk
namespace Go.Proofs.Ytlfdahcbkdiifaa
open Go.ChangeShapes Go.WideShapes Go.ChangeAt Go.RowKit
set_option linter.unusedSimpArgs false
set_option linter.unusedVariables false
set_option maxRecDepth 10000

attribute [local go_sem, local simp] over_const setCell_drewN alloc_drewN Over.cell Over.frozen lt_s1 lt_s2 lt_s3 le_s0 le_s1 le_s2 le_s3 eq_s0 eq_s1 eq_s2 qe_s0

def knM (r : Rq) : Nat → Bool := fun i => decide (r.ph = 2) && decide ((i : Int) ∈ r.kn)
def ndM (N : Nat) : Nat → Bool := fun i => decide (i < N)
abbrev ptrO (g o : Nat) : Value := .pointer (some ⟨g, o, none⟩)

/-- A row's cells but the last. -/
structure RowC (w : World) (g o : Nat) (b : Int) (r : Rq) : Prop where
  c0 : w.cell? ⟨g, o, none⟩ = some (.int .i64 (lastBQ b r))
  c1 : w.cell? ⟨g, o + 1, none⟩ = some (.int .i64 (lastNQ r))
  c2 : w.cell? ⟨g, o + 2, none⟩ = some (.int .i64 r.n)
  c3 : w.cell? ⟨g, o + 3, none⟩ = some (.int .i64 r.ph)
  kn : w.rangeAt g (o + 4) (mkM (knM r))
  th : w.there g o 69

/-- Those who wait. -/
def WtIs (w : World) (v : Value) (ob : Option Nat) (A : List Int) : Prop :=
  match ob with
  | none => v = .slice none 0 0 ∧ A = []
  | some b => Own w v b A

structure RowAt (w : World) (g o : Nat) (b : Int) (r : Rq) (ob : Option Nat) : Prop where
  c : RowC w g o b r
  wt : ∃ v, w.cell? ⟨g, o + 68, none⟩ = some v ∧ WtIs w v ob (wtQ r)

theorem WtIs.carry {w w' : World} {v : Value} {ob : Option Nat} {A : List Int} (h : WtIs w v ob A) (e : ∀ b, ob = some b → w'.heap[b]? = w.heap[b]?) : WtIs w' v ob A := by
  cases ob with
  | none => exact h
  | some b => exact Own.carry h (e b rfl)
theorem WtIs.lt {w : World} {v : Value} {b : Nat} {A : List Int} (h : WtIs w v (some b) A) : b < w.heap.size := Own.lt h
theorem WtIs.view {w : World} {v : Value} {ob : Option Nat} {A : List Int} (h : WtIs w v ob A) : ∃ b, View w v b A := by
  cases ob with
  | none => obtain ⟨rfl, rfl⟩ := h; exact ⟨0, view_nil w 0⟩
  | some b => exact ⟨b, Own.view h⟩

/-- Cells and what may be written, alike in a part of a block. -/
theorem RowC.keep {w w' : World} {g o g' o' : Nat} {b : Int} {r : Rq} (h : RowC w g o b r) (e : ∀ i, i < 69 → w'.cell? ⟨g', o' + i, none⟩ = w.cell? ⟨g, o + i, none⟩ ∧ w'.frozen? ⟨g', o' + i, none⟩ = w.frozen? ⟨g, o + i, none⟩) : RowC w' g' o' b r :=
  ⟨by have := (e 0 (by omega)).1; simp only [Nat.add_zero] at this; rw [this]; exact h.c0, by rw [(e 1 (by omega)).1]; exact h.c1, by rw [(e 2 (by omega)).1]; exact h.c2, by rw [(e 3 (by omega)).1]; exact h.c3,
   fun j v hv => by
     have hj : j < 64 := by have := (List.getElem?_eq_some_iff.1 hv).1; rwa [mkM_len] at this
     rw [Nat.add_assoc, (e (4 + j) (by omega)).1, ← Nat.add_assoc]; exact h.kn j v hv,
   fun j hj => by rw [(e j hj).1, (e j hj).2]; exact h.th j hj⟩
theorem RowC.carry {w w' : World} {g o : Nat} {b : Int} {r : Rq} (h : RowC w g o b r) (e : w'.heap[g]? = w.heap[g]?) : RowC w' g o b r :=
  h.keep fun i _ => ⟨World.cell?_of_block (w := w) e, World.frozen?_of_block (w := w) e⟩
theorem RowAt.carry {w w' : World} {g o : Nat} {b : Int} {r : Rq} {ob : Option Nat} (h : RowAt w g o b r ob) (e : w'.heap[g]? = w.heap[g]?) (e' : ∀ b, ob = some b → w'.heap[b]? = w.heap[b]?) : RowAt w' g o b r ob := by
  obtain ⟨v, h1, h2⟩ := h.wt
  exact ⟨h.c.carry e, v, keep_cell e h1, h2.carry e'⟩
theorem RowAt.gl {w : World} {g o : Nat} {b : Int} {r : Rq} {ob : Option Nat} (h : RowAt w g o b r ob) : g < w.heap.size := block_lt_of_cell h.c.c0

theorem RowAt.below {w w' : World} {g o : Nat} {b : Int} {r : Rq} {ob : Option Nat} (h : RowAt w g o b r ob) (hb : Below w.heap.size w w') : RowAt w' g o b r ob :=
  h.carry (hb.block g h.gl) (fun b e => by subst e; obtain ⟨v, _, h2⟩ := h.wt; exact hb.block b h2.lt)

/-- Worlds alike but for one row, its array, and new blocks. -/
structure RF (g o : Nat) (ob : Option Nat) (w w' : World) : Prop where
  fr : FrS (fun b => b = g ∨ ob = some b) w w'
  out : ∀ i, i < o ∨ o + 69 ≤ i → w'.cell? ⟨g, i, none⟩ = w.cell? ⟨g, i, none⟩ ∧ w'.frozen? ⟨g, i, none⟩ = w.frozen? ⟨g, i, none⟩

theorem RF.refl (g o : Nat) (ob : Option Nat) (w : World) : RF g o ob w w := ⟨FrS.refl _ _, fun _ _ => ⟨rfl, rfl⟩⟩
theorem RF.trans {g o : Nat} {ob ob' : Option Nat} {a b c : World} (h : RF g o ob a b) (k : RF g o ob' b c) (hb : ob' = ob ∨ ∃ n, ob' = some n ∧ a.heap.size ≤ n) : RF g o ob a c :=
  ⟨h.fr.trans k.fr (fun i hi => by
    rcases hi with rfl | hi
    · exact .inl (.inl rfl)
    · rcases hb with rfl | ⟨n, rfl, hn⟩
      · exact .inl (.inr hi)
      · cases hi; exact .inr hn), fun i hi => ⟨(k.out i hi).1.trans (h.out i hi).1, (k.out i hi).2.trans (h.out i hi).2⟩⟩
theorem RF.of_below {g o : Nat} {ob : Option Nat} {a b : World} (h : Below a.heap.size a b) (hg : g < a.heap.size) : RF g o ob a b :=
  ⟨FrS.of_below h, fun i _ => ⟨World.cell?_of_block (w := a) (h.block g hg), World.frozen?_of_block (w := a) (h.block g hg)⟩⟩
theorem RF.setCell {g o : Nat} {ob : Option Nat} {a b : World} (h : RF g o ob a b) {i : Nat} (h1 : o ≤ i) (h2 : i < o + 69) (v : Value) : RF g o ob a (b.setCell ⟨g, i, none⟩ v) :=
  ⟨h.fr.setCell (.inl (.inl rfl)) v, fun j hj => by
    have ne : (⟨g, i, none⟩ : Addr) ≠ ⟨g, j, none⟩ := fun e => by cases e; omega
    rw [World.cell?_setCell_other _ _ _ _ ne, World.frozen?_setCell]
    exact h.out j hj⟩
theorem RF.setCells {g o : Nat} {ob : Option Nat} {a b : World} (h : RF g o ob a b) {i : Nat} {vs : List Value} (h1 : o ≤ i) (h2 : i + vs.length ≤ o + 69) : RF g o ob a (b.setCells g i vs) :=
  ⟨h.fr.trans (setCells_frS g vs i b) (fun _ e => .inl (.inl e)), fun j hj => by
    rw [World.cell?_setCells_out _ _ _ _ _ (fun _ _ => by show j < i ∨ i + vs.length ≤ j; omega), World.frozen?_setCells]
    exact h.out j hj⟩

/-- The rows, in block g. -/
structure Rows12 (w : World) (g : Nat) (Ft : Nat → Prop) (L : List Rq) (G : Nat → Option Nat) : Prop where
  own : ∀ k b, k < L.length → G k = some b → Ft b ∧ b ≠ g
  dis : ∀ i j b, i < L.length → j < L.length → G i = some b → G j = some b → i = j
  row : ∀ k (hk : k < L.length), RowAt w g (k * 69) k L[k] (G k)

/-- An arbiter in block p, its rows in block g; all that it may write lies in the blocks of Ft. -/
structure ArIs (w : World) (p g : Nat) (N M : Nat) (L : List Rq) (Ft : Nat → Prop) : Prop where
  n64 : N ≤ 64
  l64 : L.length ≤ 64
  inv : LInv N M L
  ob : ∃ cap, w.heap[p]? = some (.cells (mkM (ndM N) ++ [Value.slice (some ⟨g, 0, none⟩) L.length cap]).toArray 57 (0, 0)) ∧ L.length ≤ cap ∧ cap ≤ maxLen
  gl : g < w.heap.size
  fg : Ft g
  fp : ¬ Ft p
  lt : ∀ b, Ft b → b < w.heap.size
  rows : ∃ G, Rows12 w g Ft L G

section
variable {w w' : World} {p g N M M' : Nat} {L : List Rq} {Ft F : Nat → Prop}
theorem ArIs.pl (h : ArIs w p g N M L Ft) : p < w.heap.size := by
  obtain ⟨cap, h1, _⟩ := h.ob
  exact (Array.getElem?_eq_some_iff.1 h1).1
theorem ArIs.carry (h : ArIs w p g N M L Ft) (ep : w'.heap[p]? = w.heap[p]?) (eF : ∀ b, Ft b → w'.heap[b]? = w.heap[b]?) : ArIs w' p g N M L Ft := by
  obtain ⟨cap, h1, h2, h3⟩ := h.ob
  obtain ⟨G, hG⟩ := h.rows
  exact ⟨h.n64, h.l64, h.inv, ⟨cap, ep.trans h1, h2, h3⟩, block_lt h.gl (eF g h.fg), h.fg, h.fp, fun b hb => block_lt (h.lt b hb) (eF b hb), G, hG.own, hG.dis, fun k hk => (hG.row k hk).carry (eF g h.fg) (fun b hb => eF b (hG.own k b hk hb).1)⟩
theorem ArIs.below (h : ArIs w p g N M L Ft) (hb : Below w.heap.size w w') : ArIs w' p g N M L Ft := h.carry (hb.block p h.pl) (fun b hF => hb.block b (h.lt b hF))
theorem ArIs.fr (h : ArIs w p g N M L Ft) (hf : FrS F w w') (hp : ¬ F p) (hF : ∀ b, Ft b → ¬ F b) : ArIs w' p g N M L Ft := h.carry (hf.block p h.pl hp) (fun b hb => hf.block b (h.lt b hb) (hF b hb))
theorem ArIs.alloc (h : ArIs w p g N M L Ft) (o : Obj) : ArIs (w.alloc o) p g N M L Ft := h.below ((Below.refl _ _).alloc (Nat.le_refl _) _)
theorem ArIs.drewN (h : ArIs w p g N M L Ft) (n : Nat) : ArIs (w.drewN n) p g N M L Ft := h.carry rfl (fun _ _ => rfl)
theorem ArIs.mono (h : ArIs w p g N M L Ft) (hM : M ≤ M') : ArIs w p g N M' L Ft := ⟨h.n64, h.l64, h.inv.mono hM, h.ob, h.gl, h.fg, h.fp, h.lt, h.rows⟩
/-- The rows' slice. -/
theorem ArIs.c64 (h : ArIs w p g N M L Ft) : ∃ cap, w.cell? ⟨p, 64, none⟩ = some (.slice (some ⟨g, 0, none⟩) L.length cap) ∧ L.length ≤ cap ∧ cap ≤ maxLen := by
  obtain ⟨cap, h1, h2⟩ := h.ob
  refine ⟨cap, ?_, h2⟩
  rw [cell_of_row _ _ _ _ _ _ h1]
  simp [List.getElem?_append_right, mkM_len]
/-- A node's mark. -/
theorem ArIs.mark (h : ArIs w p g N M L Ft) {i : Nat} (hi : i < 64) : w.cell? ⟨p, i, none⟩ = some (.bool (decide (i < N))) := by
  obtain ⟨cap, h1, h2⟩ := h.ob
  rw [cell_of_row _ _ _ _ _ _ h1]
  rw [List.getElem?_toArray, List.getElem?_append_left (by rw [mkM_len]; exact hi), mkM_at _ hi]
  rfl
theorem ArIs.marks (h : ArIs w p g N M L Ft) : w.rangeAt p 0 (mkM (ndM N)) := fun j v hv => by
  have hj : j < 64 := by have := (List.getElem?_eq_some_iff.1 hv).1; rwa [mkM_len] at this
  rw [mkM_at _ hj] at hv
  rw [Nat.zero_add, h.mark hj]
  exact hv

/-- One row anew. -/
theorem ArIs.put (h : ArIs w p g N M L Ft) {G : Nat → Option Nat} (hG : Rows12 w g Ft L G) {k : Nat} (hk : k < L.length) {r : Rq} {ob : Option Nat} (hr : RowAt w' g (k * 69) k r ob) (hf : RF g (k * 69) (G k) w w')
    (hb : ob = G k ∨ ∃ n, ob = some n ∧ w.heap.size ≤ n) (hI : RInv N M' r) (hM : M ≤ M') : ∃ Ft', ArIs w' p g N M' (L.set k r) Ft' ∧ Step Ft Ft' w w' := by
  have hFt : ∀ b, (b = g ∨ G k = some b) → Ft b := fun b hb => by
    rcases hb with rfl | hb
    · exact h.fg
    · exact (hG.own k b hk hb).1
  have hfr : FrS Ft w w' := hf.fr.mono (fun b _ hb => hFt b hb)
  obtain ⟨cap, o1, o2⟩ := h.ob
  have hob : ∀ b, ob = some b → b < w'.heap.size := fun b e => by
    subst e
    obtain ⟨v, _, hv⟩ := hr.wt
    exact hv.lt
  have hne : ∀ b, ob = some b → b ≠ g := fun b e => by
    rcases hb with hb | ⟨n, hn, hs⟩
    · exact (hG.own k b hk (hb ▸ e)).2
    · rw [hn] at e; cases e; have := h.gl; omega
  refine ⟨fun b => Ft b ∨ ob = some b, ⟨h.n64, by rw [List.length_set]; exact h.l64, (h.inv.mono hM).set k hI, ⟨cap, by rw [List.length_set, hfr.block p h.pl h.fp]; exact o1, by rw [List.length_set]; exact o2⟩, Nat.lt_of_lt_of_le h.gl hfr.size, .inl h.fg, ?_, ?_, fun i => if i = k then ob else G i, ?_, ?_, ?_⟩, hfr, ?_⟩
  · rintro (e | e)
    · exact h.fp e
    · rcases hb with hb | ⟨n, hn, hs⟩
      · exact h.fp (hG.own k p hk (hb ▸ e)).1
      · rw [hn] at e; cases e; have := h.pl; omega
  · rintro b (e | e)
    · exact Nat.lt_of_lt_of_le (h.lt b e) hfr.size
    · exact hob b e
  · intro i b hi e
    rw [List.length_set] at hi
    by_cases c : i = k
    · simp only [c, if_true] at e; exact ⟨.inr e, hne b e⟩
    · simp only [c, if_false] at e; exact ⟨.inl (hG.own i b hi e).1, (hG.own i b hi e).2⟩
  · intro i j b hi hj ei ej
    rw [List.length_set] at hi hj
    have key : ∀ m, m < L.length → m ≠ k → G m = some b → ob = some b → False := fun m hm hmk e1 e2 => by
      rcases hb with hb | ⟨n, hn, hs⟩
      · exact hmk (hG.dis m k b hm hk e1 (hb ▸ e2))
      · rw [hn] at e2; cases e2; have := h.lt _ (hG.own m _ hm e1).1; omega
    by_cases ci : i = k
    · by_cases cj : j = k
      · rw [ci, cj]
      · simp only [ci, if_true] at ei; simp only [cj, if_false] at ej; exact (key j hj cj ej ei).elim
    · by_cases cj : j = k
      · simp only [ci, if_false] at ei; simp only [cj, if_true] at ej; exact (key i hi ci ei ej).elim
      · simp only [ci, if_false] at ei; simp only [cj, if_false] at ej; exact hG.dis i j b hi hj ei ej
  · intro i hi
    rw [List.length_set] at hi
    by_cases c : i = k
    · subst c
      simp only [if_true, List.getElem_set_self]
      exact hr
    · simp only [c, if_false]
      rw [List.getElem_set_ne (fun e => c e.symm)]
      have hrow := hG.row i hi
      obtain ⟨v, v1, v2⟩ := hrow.wt
      have ho : ∀ q, q < 69 → i * 69 + q < k * 69 ∨ k * 69 + 69 ≤ i * 69 + q := fun q hq => by omega
      refine ⟨hrow.c.keep fun q hq => hf.out _ (ho q hq), v, by rw [(hf.out _ (ho 68 (by omega))).1]; exact v1, v2.carry fun b hb' => hf.fr.block b (h.lt b (hG.own i b hi hb').1) ?_⟩
      rintro (e | e)
      · exact (hG.own i b hi hb').2 e
      · exact c (hG.dis i k b hi hk hb' e)
  · rintro b (e | e)
    · exact .inl e
    · rcases hb with hb | ⟨n, hn, hs⟩
      · exact .inl (hG.own k b hk (hb ▸ e)).1
      · rw [hn] at e; cases e; exact .inr hs
end

set_option maxHeartbeats 400000 in
theorem aHasB_c (p g N M : Nat) (L : List Rq) (Ft : Nat → Prop) (x : Int) (w : World) (h : ArIs w p g N M L Ft) (q : Bool) (hq : Hid (hasQ L.length x = q)) : Calls Try.prog 25 #[ptr p, .int .i64 x] w fun e w' => e = .returned (.bool q) ∧ w' = w := by
  obtain ⟨cap, c64, -, -⟩ := h.c64
  have hq' := hq.out
  unfold hasQ at hq'
  clear h hq
  by_cases a : x < 0
  · obtain rfl : q = false := by rw [← hq']; simp; omega
    clear hq'
    go_enter Try.func25, Try.ntmps25
    go_wp2_with fail
    go_ret
    exact ⟨rfl, rfl⟩
  · by_cases b : x < (L.length : Int)
    · obtain rfl : q = true := by rw [← hq']; simp; omega
      clear hq'
      go_enter Try.func25, Try.ntmps25
      go_wp2_with fail
      go_ret
      exact ⟨rfl, rfl⟩
    · obtain rfl : q = false := by rw [← hq']; simp; omega
      clear hq'
      go_enter Try.func25, Try.ntmps25
      go_wp2_with fail
      go_ret
      exact ⟨rfl, rfl⟩

set_option maxHeartbeats 400000 in
theorem aHasN_c (p g N M : Nat) (L : List Rq) (Ft : Nat → Prop) (x : Int) (w : World) (h : ArIs w p g N M L Ft) (q : Bool) (hq : Hid (hasQ N x = q)) : Calls Try.prog 26 #[ptr p, .int .i64 x] w fun e w' => e = .returned (.bool q) ∧ w' = w := by
  have hq' := hq.out
  have hN := h.n64
  unfold hasQ at hq'
  clear hq
  by_cases a : x < 0
  · obtain rfl : q = false := by rw [← hq']; simp; omega
    clear hq' h
    go_enter Try.func26, Try.ntmps26
    go_wp2_with fail
    go_ret
    exact ⟨rfl, rfl⟩
  · by_cases b : x < 64
    · obtain ⟨i, rfl⟩ : ∃ i : Nat, x = i := ⟨x.toNat, by omega⟩
      have hc := h.mark (i := i) (by omega)
      rw [show decide (i < N) = q by rw [← hq']; apply Bool.eq_iff_iff.2; simp] at hc
      clear hq' h
      go_enter Try.func26, Try.ntmps26
      go_wp2_with fail
      go_ret
      exact ⟨rfl, rfl⟩
    · obtain rfl : q = false := by rw [← hq']; simp; omega
      clear hq' h
      go_enter Try.func26, Try.ntmps26
      go_wp2_with fail
      go_ret
      exact ⟨rfl, rfl⟩

set_option maxHeartbeats 400000 in
theorem rIs_c (g o : Nat) (n : Int) (ph st s : Int) (w : World) (c2 : w.cell? ⟨g, o + 2, none⟩ = some (.int .i64 n)) (c3 : w.cell? ⟨g, o + 3, none⟩ = some (.int .i64 ph)) (q : Bool) (hq : Hid (decide (ph = st ∧ n = s) = q)) : Calls Try.prog 31 #[ptrO g o, .int .i64 st, .int .i64 s] w fun e w' => e = .returned (.bool q) ∧ w' = w := by
  have hq' := hq.out
  clear hq
  by_cases a : ph = st
  · by_cases b : n = s
    · obtain rfl : q = true := by rw [← hq']; simp [a, b]
      subst a b
      clear hq'
      go_enter Try.func31, Try.ntmps31
      go_wp2_with fail
      go_ret
      exact ⟨rfl, rfl⟩
    · obtain rfl : q = false := by rw [← hq']; simp [b]
      have b' : (n == s) = false := by simpa using b
      subst a
      clear hq'
      go_enter Try.func31, Try.ntmps31
      go_wp2_with fail
      go_ret
      exact ⟨rfl, rfl⟩
  · obtain rfl : q = false := by rw [← hq']; simp [a]
    clear hq'
    go_enter Try.func31, Try.ntmps31
    go_wp2_with fail
    go_ret
    exact ⟨rfl, rfl⟩
end Go.Proofs.Ytlfdahcbkdiifaa
