/- layer 16: Arb ArbN ArbA, put together. -/
import Derived.Test.YtmgjgeaigdiadaaDoorB14
import Derived.Test.YtmgjgeaigdiadaaDoorB04
import Derived.Test.YtmgjgeaigdiadaaDoorB09
import Derived.Test.YtmgjgeaigdiadaaDoorB11
import Derived.OwnWalk
namespace Go.Proofs.YtmgjgeaigdiadaaDoor
open Go.ChangeShapes Go.WideShapes Go.ChangeAt Go.RowKit
set_option linter.unusedSimpArgs false
set_option linter.unusedVariables false
set_option maxRecDepth 10000
attribute [local go_sem, local simp] over_const setCell_drewN alloc_drewN Over.cell Over.frozen lt_s1 lt_s2 lt_s3 le_s0 le_s1 le_s2 le_s3 eq_s0 eq_s1 eq_s2 qe_s0
def knM (r : Rq) : Nat → Bool := fun i => decide (r.ph = 2) && decide ((i : Int) ∈ r.kn)
def ndM (N : Nat) : Nat → Bool := fun i => decide (i < N)
abbrev ptrO (g o : Nat) : Value := .pointer (some ⟨g, o, none⟩)
structure RowC (w : World) (g o : Nat) (b : Int) (r : Rq) : Prop where
  c0 : w.cell? ⟨g, o, none⟩ = some (.int .i64 (lastBQ b r))
  c1 : w.cell? ⟨g, o + 1, none⟩ = some (.int .i64 (lastNQ r))
  c2 : w.cell? ⟨g, o + 2, none⟩ = some (.int .i64 r.n)
  c3 : w.cell? ⟨g, o + 3, none⟩ = some (.int .i64 r.ph)
  kn : w.rangeAt g (o + 4) (mkM (knM r))
  th : w.there g o 69
def WtIs (w : World) (v : Value) (ob : Option Nat) (A : List Int) : Prop :=
  match ob with
  | none => v = .slice none 0 0 ∧ A = []
  | some b => Own w v b A
structure RowAt (w : World) (g o : Nat) (b : Int) (r : Rq) (ob : Option Nat) : Prop where
  c : RowC w g o b r
  wt : ∃ v, w.cell? ⟨g, o + 68, none⟩ = some v ∧ WtIs w v ob (wtQ r)
theorem WtIs.carry {w w' : World} {v : Value} {ob : Option Nat} {A : List Int} (h : WtIs w v ob A) (e : ∀ b, ob = some b → w'.heap[b]? = w.heap[b]?) : WtIs w' v ob A := by
  cases ob with
  | none => exact h
  | some b => exact Own.carry h (e b rfl)
theorem WtIs.lt {w : World} {v : Value} {b : Nat} {A : List Int} (h : WtIs w v (some b) A) : b < w.heap.size := Own.lt h
theorem WtIs.view {w : World} {v : Value} {ob : Option Nat} {A : List Int} (h : WtIs w v ob A) : ∃ b, View w v b A := by
  cases ob with
  | none => obtain ⟨rfl, rfl⟩ := h; exact ⟨0, view_nil w 0⟩
  | some b => exact ⟨b, Own.view h⟩
theorem RowC.keep {w w' : World} {g o g' o' : Nat} {b : Int} {r : Rq} (h : RowC w g o b r) (e : ∀ i, i < 69 → w'.cell? ⟨g', o' + i, none⟩ = w.cell? ⟨g, o + i, none⟩ ∧ w'.frozen? ⟨g', o' + i, none⟩ = w.frozen? ⟨g, o + i, none⟩) : RowC w' g' o' b r :=
  ⟨by have := (e 0 (by omega)).1; simp only [Nat.add_zero] at this; rw [this]; exact h.c0, by rw [(e 1 (by omega)).1]; exact h.c1, by rw [(e 2 (by omega)).1]; exact h.c2, by rw [(e 3 (by omega)).1]; exact h.c3,
   fun j v hv => by
     have hj : j < 64 := by have := (List.getElem?_eq_some_iff.1 hv).1; rwa [mkM_len] at this
     rw [Nat.add_assoc, (e (4 + j) (by omega)).1, ← Nat.add_assoc]; exact h.kn j v hv,
   fun j hj => by rw [(e j hj).1, (e j hj).2]; exact h.th j hj⟩
theorem RowC.carry {w w' : World} {g o : Nat} {b : Int} {r : Rq} (h : RowC w g o b r) (e : w'.heap[g]? = w.heap[g]?) : RowC w' g o b r :=
  h.keep fun i _ => ⟨World.cell?_of_block (w := w) e, World.frozen?_of_block (w := w) e⟩
theorem RowAt.carry {w w' : World} {g o : Nat} {b : Int} {r : Rq} {ob : Option Nat} (h : RowAt w g o b r ob) (e : w'.heap[g]? = w.heap[g]?) (e' : ∀ b, ob = some b → w'.heap[b]? = w.heap[b]?) : RowAt w' g o b r ob := by
  obtain ⟨v, h1, h2⟩ := h.wt
  exact ⟨h.c.carry e, v, keep_cell e h1, h2.carry e'⟩
theorem RowAt.gl {w : World} {g o : Nat} {b : Int} {r : Rq} {ob : Option Nat} (h : RowAt w g o b r ob) : g < w.heap.size := block_lt_of_cell h.c.c0
theorem RowAt.below {w w' : World} {g o : Nat} {b : Int} {r : Rq} {ob : Option Nat} (h : RowAt w g o b r ob) (hb : Below w.heap.size w w') : RowAt w' g o b r ob :=
  h.carry (hb.block g h.gl) (fun b e => by subst e; obtain ⟨v, _, h2⟩ := h.wt; exact hb.block b h2.lt)
structure RF (g o : Nat) (ob : Option Nat) (w w' : World) : Prop where
  fr : FrS (fun b => b = g ∨ ob = some b) w w'
  out : ∀ i, i < o ∨ o + 69 ≤ i → w'.cell? ⟨g, i, none⟩ = w.cell? ⟨g, i, none⟩ ∧ w'.frozen? ⟨g, i, none⟩ = w.frozen? ⟨g, i, none⟩
theorem RF.refl (g o : Nat) (ob : Option Nat) (w : World) : RF g o ob w w := ⟨FrS.refl _ _, fun _ _ => ⟨rfl, rfl⟩⟩
theorem RF.trans {g o : Nat} {ob ob' : Option Nat} {a b c : World} (h : RF g o ob a b) (k : RF g o ob' b c) (hb : ob' = ob ∨ ∃ n, ob' = some n ∧ a.heap.size ≤ n) : RF g o ob a c :=
  ⟨h.fr.trans k.fr (fun i hi => by
    rcases hi with rfl | hi
    · exact .inl (.inl rfl)
    · rcases hb with rfl | ⟨n, rfl, hn⟩
      · exact .inl (.inr hi)
      · cases hi; exact .inr hn), fun i hi => ⟨(k.out i hi).1.trans (h.out i hi).1, (k.out i hi).2.trans (h.out i hi).2⟩⟩
theorem RF.of_below {g o : Nat} {ob : Option Nat} {a b : World} (h : Below a.heap.size a b) (hg : g < a.heap.size) : RF g o ob a b :=
  ⟨FrS.of_below h, fun i _ => ⟨World.cell?_of_block (w := a) (h.block g hg), World.frozen?_of_block (w := a) (h.block g hg)⟩⟩
theorem RF.setCell {g o : Nat} {ob : Option Nat} {a b : World} (h : RF g o ob a b) {i : Nat} (h1 : o ≤ i) (h2 : i < o + 69) (v : Value) : RF g o ob a (b.setCell ⟨g, i, none⟩ v) :=
  ⟨h.fr.setCell (.inl (.inl rfl)) v, fun j hj => by
    have ne : (⟨g, i, none⟩ : Addr) ≠ ⟨g, j, none⟩ := fun e => by cases e; omega
    rw [World.cell?_setCell_other _ _ _ _ ne, World.frozen?_setCell]
    exact h.out j hj⟩
theorem RF.setCells {g o : Nat} {ob : Option Nat} {a b : World} (h : RF g o ob a b) {i : Nat} {vs : List Value} (h1 : o ≤ i) (h2 : i + vs.length ≤ o + 69) : RF g o ob a (b.setCells g i vs) :=
  ⟨h.fr.trans (setCells_frS g vs i b) (fun _ e => .inl (.inl e)), fun j hj => by
    rw [World.cell?_setCells_out _ _ _ _ _ (fun _ _ => by show j < i ∨ i + vs.length ≤ j; omega), World.frozen?_setCells]
    exact h.out j hj⟩
structure Rows12 (w : World) (g : Nat) (Ft : Nat → Prop) (L : List Rq) (G : Nat → Option Nat) : Prop where
  own : ∀ k b, k < L.length → G k = some b → Ft b ∧ b ≠ g
  dis : ∀ i j b, i < L.length → j < L.length → G i = some b → G j = some b → i = j
  row : ∀ k (hk : k < L.length), RowAt w g (k * 69) k L[k] (G k)
structure ArIs (w : World) (p g : Nat) (N M : Nat) (L : List Rq) (Ft : Nat → Prop) : Prop where
  n64 : N ≤ 64
  l64 : L.length ≤ 64
  inv : LInv N M L
  ob : ∃ cap, w.heap[p]? = some (.cells (mkM (ndM N) ++ [Value.slice (some ⟨g, 0, none⟩) L.length cap]).toArray 121 (0, 0)) ∧ L.length ≤ cap ∧ cap ≤ maxLen
  gl : g < w.heap.size
  fg : Ft g
  fp : ¬ Ft p
  lt : ∀ b, Ft b → b < w.heap.size
  rows : ∃ G, Rows12 w g Ft L G
section
variable {w w' : World} {p g N M M' : Nat} {L : List Rq} {Ft F : Nat → Prop}
theorem ArIs.pl (h : ArIs w p g N M L Ft) : p < w.heap.size := by
  obtain ⟨cap, h1, _⟩ := h.ob
  exact (Array.getElem?_eq_some_iff.1 h1).1
theorem ArIs.carry (h : ArIs w p g N M L Ft) (ep : w'.heap[p]? = w.heap[p]?) (eF : ∀ b, Ft b → w'.heap[b]? = w.heap[b]?) : ArIs w' p g N M L Ft := by
  obtain ⟨cap, h1, h2, h3⟩ := h.ob
  obtain ⟨G, hG⟩ := h.rows
  exact ⟨h.n64, h.l64, h.inv, ⟨cap, ep.trans h1, h2, h3⟩, block_lt h.gl (eF g h.fg), h.fg, h.fp, fun b hb => block_lt (h.lt b hb) (eF b hb), G, hG.own, hG.dis, fun k hk => (hG.row k hk).carry (eF g h.fg) (fun b hb => eF b (hG.own k b hk hb).1)⟩
theorem ArIs.below (h : ArIs w p g N M L Ft) (hb : Below w.heap.size w w') : ArIs w' p g N M L Ft := h.carry (hb.block p h.pl) (fun b hF => hb.block b (h.lt b hF))
theorem ArIs.fr (h : ArIs w p g N M L Ft) (hf : FrS F w w') (hp : ¬ F p) (hF : ∀ b, Ft b → ¬ F b) : ArIs w' p g N M L Ft := h.carry (hf.block p h.pl hp) (fun b hb => hf.block b (h.lt b hb) (hF b hb))
theorem ArIs.alloc (h : ArIs w p g N M L Ft) (o : Obj) : ArIs (w.alloc o) p g N M L Ft := h.below ((Below.refl _ _).alloc (Nat.le_refl _) _)
theorem ArIs.drewN (h : ArIs w p g N M L Ft) (n : Nat) : ArIs (w.drewN n) p g N M L Ft := h.carry rfl (fun _ _ => rfl)
theorem ArIs.mono (h : ArIs w p g N M L Ft) (hM : M ≤ M') : ArIs w p g N M' L Ft := ⟨h.n64, h.l64, h.inv.mono hM, h.ob, h.gl, h.fg, h.fp, h.lt, h.rows⟩
theorem ArIs.c64 (h : ArIs w p g N M L Ft) : ∃ cap, w.cell? ⟨p, 64, none⟩ = some (.slice (some ⟨g, 0, none⟩) L.length cap) ∧ L.length ≤ cap ∧ cap ≤ maxLen := by
  obtain ⟨cap, h1, h2⟩ := h.ob
  refine ⟨cap, ?_, h2⟩
  rw [cell_of_row _ _ _ _ _ _ h1]
  simp [List.getElem?_append_right, mkM_len]
theorem ArIs.mark (h : ArIs w p g N M L Ft) {i : Nat} (hi : i < 64) : w.cell? ⟨p, i, none⟩ = some (.bool (decide (i < N))) := by
  obtain ⟨cap, h1, h2⟩ := h.ob
  rw [cell_of_row _ _ _ _ _ _ h1]
  rw [List.getElem?_toArray, List.getElem?_append_left (by rw [mkM_len]; exact hi), mkM_at _ hi]
  rfl
theorem ArIs.marks (h : ArIs w p g N M L Ft) : w.rangeAt p 0 (mkM (ndM N)) := fun j v hv => by
  have hj : j < 64 := by have := (List.getElem?_eq_some_iff.1 hv).1; rwa [mkM_len] at this
  rw [mkM_at _ hj] at hv
  rw [Nat.zero_add, h.mark hj]
  exact hv
theorem ArIs.put (h : ArIs w p g N M L Ft) {G : Nat → Option Nat} (hG : Rows12 w g Ft L G) {k : Nat} (hk : k < L.length) {r : Rq} {ob : Option Nat} (hr : RowAt w' g (k * 69) k r ob) (hf : RF g (k * 69) (G k) w w')
    (hb : ob = G k ∨ ∃ n, ob = some n ∧ w.heap.size ≤ n) (hI : RInv N M' r) (hM : M ≤ M') : ∃ Ft', ArIs w' p g N M' (L.set k r) Ft' ∧ Step Ft Ft' w w' := by
  have hFt : ∀ b, (b = g ∨ G k = some b) → Ft b := fun b hb => by
    rcases hb with rfl | hb
    · exact h.fg
    · exact (hG.own k b hk hb).1
  have hfr : FrS Ft w w' := hf.fr.mono (fun b _ hb => hFt b hb)
  obtain ⟨cap, o1, o2⟩ := h.ob
  have hob : ∀ b, ob = some b → b < w'.heap.size := fun b e => by
    subst e
    obtain ⟨v, _, hv⟩ := hr.wt
    exact hv.lt
  have hne : ∀ b, ob = some b → b ≠ g := fun b e => by
    rcases hb with hb | ⟨n, hn, hs⟩
    · exact (hG.own k b hk (hb ▸ e)).2
    · rw [hn] at e; cases e; have := h.gl; omega
  refine ⟨fun b => Ft b ∨ ob = some b, ⟨h.n64, by rw [List.length_set]; exact h.l64, (h.inv.mono hM).set k hI, ⟨cap, by rw [List.length_set, hfr.block p h.pl h.fp]; exact o1, by rw [List.length_set]; exact o2⟩, Nat.lt_of_lt_of_le h.gl hfr.size, .inl h.fg, ?_, ?_, fun i => if i = k then ob else G i, ?_, ?_, ?_⟩, hfr, ?_⟩
  · rintro (e | e)
    · exact h.fp e
    · rcases hb with hb | ⟨n, hn, hs⟩
      · exact h.fp (hG.own k p hk (hb ▸ e)).1
      · rw [hn] at e; cases e; have := h.pl; omega
  · rintro b (e | e)
    · exact Nat.lt_of_lt_of_le (h.lt b e) hfr.size
    · exact hob b e
  · intro i b hi e
    rw [List.length_set] at hi
    by_cases c : i = k
    · simp only [c, if_true] at e; exact ⟨.inr e, hne b e⟩
    · simp only [c, if_false] at e; exact ⟨.inl (hG.own i b hi e).1, (hG.own i b hi e).2⟩
  · intro i j b hi hj ei ej
    rw [List.length_set] at hi hj
    have key : ∀ m, m < L.length → m ≠ k → G m = some b → ob = some b → False := fun m hm hmk e1 e2 => by
      rcases hb with hb | ⟨n, hn, hs⟩
      · exact hmk (hG.dis m k b hm hk e1 (hb ▸ e2))
      · rw [hn] at e2; cases e2; have := h.lt _ (hG.own m _ hm e1).1; omega
    by_cases ci : i = k
    · by_cases cj : j = k
      · rw [ci, cj]
      · simp only [ci, if_true] at ei; simp only [cj, if_false] at ej; exact (key j hj cj ej ei).elim
    · by_cases cj : j = k
      · simp only [ci, if_false] at ei; simp only [cj, if_true] at ej; exact (key i hi ci ei ej).elim
      · simp only [ci, if_false] at ei; simp only [cj, if_false] at ej; exact hG.dis i j b hi hj ei ej
  · intro i hi
    rw [List.length_set] at hi
    by_cases c : i = k
    · subst c
      simp only [if_true, List.getElem_set_self]
      exact hr
    · simp only [c, if_false]
      rw [List.getElem_set_ne (fun e => c e.symm)]
      have hrow := hG.row i hi
      obtain ⟨v, v1, v2⟩ := hrow.wt
      have ho : ∀ q, q < 69 → i * 69 + q < k * 69 ∨ k * 69 + 69 ≤ i * 69 + q := fun q hq => by omega
      refine ⟨hrow.c.keep fun q hq => hf.out _ (ho q hq), v, by rw [(hf.out _ (ho 68 (by omega))).1]; exact v1, v2.carry fun b hb' => hf.fr.block b (h.lt b (hG.own i b hi hb').1) ?_⟩
      rintro (e | e)
      · exact (hG.own i b hi hb').2 e
      · exact c (hG.dis i k b hi hk hb' e)
  · rintro b (e | e)
    · exact .inl e
    · rcases hb with hb | ⟨n, hn, hs⟩
      · exact .inl (hG.own k b hk (hb ▸ e)).1
      · rw [hn] at e; cases e; exact .inr hs
end
set_option maxHeartbeats 400000 in
theorem aHasB_c (p g N M : Nat) (L : List Rq) (Ft : Nat → Prop) (x : Int) (w : World) (h : ArIs w p g N M L Ft) (q : Bool) (hq : Hid (hasQ L.length x = q)) : Calls Tryd.prog 67 #[ptr p, .int .i64 x] w fun e w' => e = .returned (.bool q) ∧ w' = w := by
  obtain ⟨cap, c64, -, -⟩ := h.c64
  have hq' := hq.out
  unfold hasQ at hq'
  clear h hq
  by_cases a : x < 0
  · obtain rfl : q = false := by rw [← hq']; simp; omega
    clear hq'
    go_enter Tryd.func67, Tryd.ntmps67
    go_wp2_with fail
    go_ret
    exact ⟨rfl, rfl⟩
  · by_cases b : x < (L.length : Int)
    · obtain rfl : q = true := by rw [← hq']; simp; omega
      clear hq'
      go_enter Tryd.func67, Tryd.ntmps67
      go_wp2_with fail
      go_ret
      exact ⟨rfl, rfl⟩
    · obtain rfl : q = false := by rw [← hq']; simp; omega
      clear hq'
      go_enter Tryd.func67, Tryd.ntmps67
      go_wp2_with fail
      go_ret
      exact ⟨rfl, rfl⟩
set_option maxHeartbeats 400000 in
theorem aHasN_c (p g N M : Nat) (L : List Rq) (Ft : Nat → Prop) (x : Int) (w : World) (h : ArIs w p g N M L Ft) (q : Bool) (hq : Hid (hasQ N x = q)) : Calls Tryd.prog 94 #[ptr p, .int .i64 x] w fun e w' => e = .returned (.bool q) ∧ w' = w := by
  have hq' := hq.out
  have hN := h.n64
  unfold hasQ at hq'
  clear hq
  by_cases a : x < 0
  · obtain rfl : q = false := by rw [← hq']; simp; omega
    clear hq' h
    go_enter Tryd.func94, Tryd.ntmps94
    go_wp2_with fail
    go_ret
    exact ⟨rfl, rfl⟩
  · by_cases b : x < 64
    · obtain ⟨i, rfl⟩ : ∃ i : Nat, x = i := ⟨x.toNat, by omega⟩
      have hc := h.mark (i := i) (by omega)
      rw [show decide (i < N) = q by rw [← hq']; apply Bool.eq_iff_iff.2; simp] at hc
      clear hq' h
      go_enter Tryd.func94, Tryd.ntmps94
      go_wp2_with fail
      go_ret
      exact ⟨rfl, rfl⟩
    · obtain rfl : q = false := by rw [← hq']; simp; omega
      clear hq' h
      go_enter Tryd.func94, Tryd.ntmps94
      go_wp2_with fail
      go_ret
      exact ⟨rfl, rfl⟩
set_option maxHeartbeats 400000 in
theorem rIs_c (g o : Nat) (n : Int) (ph st s : Int) (w : World) (c2 : w.cell? ⟨g, o + 2, none⟩ = some (.int .i64 n)) (c3 : w.cell? ⟨g, o + 3, none⟩ = some (.int .i64 ph)) (q : Bool) (hq : Hid (decide (ph = st ∧ n = s) = q)) : Calls Tryd.prog 96 #[ptrO g o, .int .i64 st, .int .i64 s] w fun e w' => e = .returned (.bool q) ∧ w' = w := by
  have hq' := hq.out
  clear hq
  by_cases a : ph = st
  · by_cases b : n = s
    · obtain rfl : q = true := by rw [← hq']; simp [a, b]
      subst a b
      clear hq'
      go_enter Tryd.func96, Tryd.ntmps96
      go_wp2_with fail
      go_ret
      exact ⟨rfl, rfl⟩
    · obtain rfl : q = false := by rw [← hq']; simp [b]
      have b' : (n == s) = false := by simpa using b
      subst a
      clear hq'
      go_enter Tryd.func96, Tryd.ntmps96
      go_wp2_with fail
      go_ret
      exact ⟨rfl, rfl⟩
  · obtain rfl : q = false := by rw [← hq']; simp [a]
    clear hq'
    go_enter Tryd.func96, Tryd.ntmps96
    go_wp2_with fail
    go_ret
    exact ⟨rfl, rfl⟩
theorem Own.tail {w : World} {ao : Option Addr} {n cap g : Nat} {x : Int} {A : List Int} (h : Own w (.slice ao n cap) g (x :: A)) : ∃ o, ao = some ⟨g, o, none⟩ ∧ n = A.length + 1 ∧ 1 ≤ cap ∧ n ≤ cap ∧ w.cell? ⟨g, o, none⟩ = some (.int .i64 x) ∧ Own w (.slice (some ⟨g, o + 1, none⟩) A.length (cap - 1)) g A ∧ (cap - 1 = 0 → Own w (.slice (some ⟨g, o, none⟩) A.length (cap - 1)) g A) := by
  obtain ⟨ao', cap', e, h1, h2, h3, h4⟩ := h
  simp only [Value.slice.injEq, List.length_cons] at e h1
  obtain ⟨rfl, rfl, rfl⟩ := e
  rcases h4 with ⟨rfl, rfl⟩ | ⟨o, rfl, h5, h6⟩
  · omega
  · have h7 := h5 0 (by simp)
    simp [ints] at h7
    refine ⟨o, rfl, rfl, by omega, h1, h7, ⟨_, _, rfl, by omega, by omega, h3, .inr ⟨o + 1, rfl, fun j hj => ?_, fun j hj => ?_⟩⟩, fun hz => ?_⟩
    · have := h5 (j + 1) (by simp; omega)
      rw [show o + (j + 1) = o + 1 + j by omega] at this
      simpa [ints] using this
    · have := h6 (j + 1) (by omega)
      rw [show o + (j + 1) = o + 1 + j by omega] at this
      exact this
    · have e0 : A = [] := List.eq_nil_of_length_eq_zero (by omega)
      subst e0
      exact ⟨_, _, rfl, by simp, by omega, h3, .inr ⟨o, rfl, fun j hj => by simp at hj, fun j hj => by omega⟩⟩
theorem RowC.put4 {w : World} {g o : Nat} {b : Int} {r : Rq} (h : RowC w g o b r) (r' : Rq) (ek : ∀ i, i < 64 → knM r' i = knM r i) : RowC (w.setCells g o [.int .i64 (lastBQ b r'), .int .i64 (lastNQ r'), .int .i64 r'.n, .int .i64 r'.ph]) g o b r' := by
  have hs : ∀ i, i < 4 → (w.cell? ⟨g, o + i, none⟩).isSome = true := fun i hi => (h.th i (by omega)).1
  have hc := fun j (hj : j < 4) => World.cell?_setCells_in g [.int .i64 (lastBQ b r'), .int .i64 (lastNQ r'), .int .i64 r'.n, .int .i64 r'.ph] o w hs j hj
  refine ⟨hc 0 (by omega), hc 1 (by omega), hc 2 (by omega), hc 3 (by omega), ?_, World.there_setCells h.th _ _ _⟩
  rw [mkM_ext ek]
  exact World.rangeAt_setCells_apart h.kn _ _ _ (.inr (.inr (by simp)))
theorem RowC.put68 {w : World} {g o : Nat} {b : Int} {r : Rq} (h : RowC w g o b r) (v : Value) : RowC (w.setCells g (o + 68) [v]) g o b r ∧ (w.setCells g (o + 68) [v]).cell? ⟨g, o + 68, none⟩ = some v := by
  have hx : ∀ i, i < 68 → (w.setCells g (o + 68) [v]).cell? ⟨g, o + i, none⟩ = w.cell? ⟨g, o + i, none⟩ := fun i hi => World.cell?_setCells_out _ _ _ _ _ (fun _ _ => .inl (by show o + i < o + 68; omega))
  refine ⟨⟨(hx 0 (by omega)).trans h.c0, (hx 1 (by omega)).trans h.c1, (hx 2 (by omega)).trans h.c2, (hx 3 (by omega)).trans h.c3, World.rangeAt_setCells_apart h.kn _ _ _ (.inr (.inl (by rw [mkM_len]; omega))), World.there_setCells h.th _ _ _⟩, ?_⟩
  exact World.cell?_setCells_in g [v] (o + 68) w (fun i hi => by obtain rfl : i = 0 := by simp at hi; exact hi
                                                                 exact (h.th 68 (by omega)).1) 0 (by simp)
abbrev setN (w : World) (g o : Nat) (x0 x1 x2 x3 : Int) (v : Value) : World := ((((w.setCell ⟨g, o, none⟩ (.int .i64 x0)).setCell ⟨g, o + 1, none⟩ (.int .i64 x1)).setCell ⟨g, o + 2, none⟩ (.int .i64 x2)).setCell ⟨g, o + 3, none⟩ (.int .i64 x3)).setCell ⟨g, o + 68, none⟩ v
theorem row_next {w : World} {g o gb : Nat} {b : Int} {r r' : Rq} {v : Value} {x0 x1 x2 x3 : Int} (h : RowC w g o b r) (gn : gb ≠ g) (e0 : lastBQ b r' = x0) (e1 : lastNQ r' = x1) (e2 : (r'.n : Int) = x2) (e3 : r'.ph = x3) (ek : ∀ i, i < 64 → knM r' i = knM r i) (hO : Own w v gb (wtQ r')) :
    RowAt (setN w g o x0 x1 x2 x3 v) g o b r' (some gb) ∧ RF g o (some gb) w (setN w g o x0 x1 x2 x3 v) := by
  subst e0 e1 e2 e3
  have h1 := (h.put4 r' ek).put68 v
  have f1 : RF g o (some gb) w (setN w g o (lastBQ b r') (lastNQ r') r'.n r'.ph v) := (((((RF.refl g o (some gb) w).setCell (by omega) (by omega) _).setCell (by omega) (by omega) _).setCell (by omega) (by omega) _).setCell (by omega) (by omega) _).setCell (by omega) (by omega) _
  have f2 : FrS (· = g) w (setN w g o (lastBQ b r') (lastNQ r') r'.n r'.ph v) := (setCells_frS g [.int .i64 (lastBQ b r'), .int .i64 (lastNQ r'), .int .i64 r'.n, .int .i64 r'.ph] o w).trans (setCells_frS g [v] (o + 68) _) (fun _ e => .inl e)
  exact ⟨⟨h1.1, v, h1.2, hO.fr f2 gn⟩, f1⟩
set_option maxHeartbeats 1000000 in
theorem rNext_c (g o : Nat) (b : Int) (r : Rq) (ob : Option Nat) (N M : Nat) (w : World) (h : RowAt w g o b r ob) (h0 : r.ph = 0) (hI : RPre N M r) (hM : M ≤ 100000) (hne : ob ≠ some g) (a : At) (ha : Hid (atBQ b r = a)) (ok : Bool) (hok : Hid (okBQ r = ok)) : Calls Tryd.prog 95 #[ptrO g o, .int .i64 b] w fun e w' => e = .returned (.tuple #[.agg #[.int .i64 a.b, .int .i64 a.n, .int .i64 a.s], .bool ok]) ∧ RowAt w' g o b (nxBQ r) ob ∧ RF g o ob w w' := by
  have hH := hide h
  have hgl := h.gl
  have hle := hI.le
  obtain ⟨v, hv, hW⟩ := h.wt
  have ha' := ha.out
  have hok' := hok.out
  unfold okBQ at hok'
  unfold atBQ at ha'
  unfold wtQ at hW
  by_cases c : r.n < r.A.length
  · rw [List.drop_eq_getElem_cons c] at hW
    cases ob with
    | none => exact absurd hW.2 (List.cons_ne_nil _ _)
    | some gb =>
    obtain ⟨ao, cap, rfl, -⟩ := id hW
    obtain ⟨o', rfl, hn, hc1, hnc, hx, ht, ht0⟩ := Own.tail hW
    obtain rfl : ok = true := by rw [← hok']; simp [h0, c]
    rw [if_pos ⟨h0, c⟩] at ha'
    obtain ⟨x, hxx⟩ : ∃ x, r.A[r.n] = x := ⟨_, rfl⟩
    obtain ⟨T, hT⟩ : ∃ T, r.A.drop (r.n + 1) = T := ⟨_, rfl⟩
    rw [hT] at hv hnc hn ht ht0
    rw [List.length_cons] at hv hnc
    rw [hxx] at hx
    rw [show r.A.getD r.n 0 = x by simp [List.getD, c, hxx]] at ha'
    obtain ⟨n, hrn⟩ : ∃ n, r.n = n := ⟨_, rfl⟩
    rw [hrn] at ha'
    subst ha'
    obtain ⟨m, hm⟩ : ∃ m, T.length = m := ⟨_, rfl⟩
    rw [hm] at hv hnc ht ht0
    have hlx : Hid (lastNQ ⟨r.A, r.n + 1, 1, r.kn⟩ = x) := hide (by unfold lastNQ; simp [c, hxx])
    have hkx : Hid (∀ i, i < 64 → knM ⟨r.A, r.n + 1, 1, r.kn⟩ i = knM r i) := hide (fun i _ => by unfold knM; simp [h0])
    have hnx : Hid (nxBQ r = ⟨r.A, r.n + 1, 1, r.kn⟩) := hide (by unfold nxBQ; rw [if_pos ⟨h0, c⟩])
    have c2 := h.c.c2
    rw [hrn] at c2
    have hwr : IntKind.i64.wrap ((n : Int) + 1) = n + 1 := by have := hI.al; rw [IntKind.wrap_i64]; omega
    have th := hide h.c.th
    have gn : gb ≠ g := fun e => hne (by rw [e])
    obtain ⟨-, f0⟩ := h.c.th 0 (by omega)
    obtain ⟨-, f1⟩ := h.c.th 1 (by omega)
    obtain ⟨-, f2⟩ := h.c.th 2 (by omega)
    obtain ⟨-, f3⟩ := h.c.th 3 (by omega)
    obtain ⟨-, f68⟩ := h.c.th 68 (by omega)
    rw [Nat.add_zero] at f0
    have c0 := h.c.c0
    have c1 := h.c.c1
    have c3 := h.c.c3
    generalize lastBQ b r = lb at c0
    generalize lastNQ r = ln at c1
    have hgb : gb < w.heap.size := Own.lt hW
    replace hW := hide hW
    replace ht := hide ht
    replace ht0 := hide ht0
    replace hI := hide hI
    replace hxx := hide hxx
    replace hT := hide hT
    replace hm := hide hm
    replace hrn := hide hrn
    clear h hok' hn hle
    replace c := hide c
    replace h0 := hide h0
    by_cases hcap : cap = 1
    · subst hcap
      obtain rfl : m = 0 := by omega
      have hO : Own w (.slice (some ⟨gb, o', none⟩) 0 0) gb (wtQ ⟨r.A, r.n + 1, 1, r.kn⟩) := by show Own _ _ _ (r.A.drop (r.n + 1)); rw [hT.out]; exact ht0.out rfl
      obtain ⟨W1, hW1⟩ : ∃ W1, setN w g o b x (n + 1) 1 (.slice (some ⟨gb, o', none⟩) 0 0) = W1 := ⟨_, rfl⟩
      have hk := hide (row_next (unhide hH).c gn (r' := ⟨r.A, r.n + 1, 1, r.kn⟩) (x0 := b) (x1 := x) (x2 := n + 1) (x3 := 1) rfl hlx.out (by show ((r.n + 1 : Nat) : Int) = _; rw [hrn.out]; simp) rfl hkx.out hO)
      rw [hW1] at hk
      dsimp only [setN] at hW1
      replace hW1 := hide hW1
      clear hO
      go_enter Tryd.func95, Tryd.ntmps95
      go_wp2_with fail
      refine wp_region_noPanic ?_
      refine last_begin 17 (fun w' => w'.cell? ⟨g, o + 68, none⟩ = some (.slice (some ⟨gb, o', none⟩) (0 + 1) 1) ∧ w'.cell? ⟨gb, o', none⟩ = some (.int .i64 x) ∧ w'.cell? ⟨g, o + 2, none⟩ = some (.int .i64 n)) (by kernel_rfl) ?_ fun hHeld => ?_
      · exact ⟨by simp [go_sem, *], by simp [go_sem, *], by simp [go_sem, *]⟩
      refine lTk 0 13 hHeld ?_
      refine lTk 1 14 hHeld ?_
      refine lTk 2 15 hHeld ?_
      refine lTk 3 16 hHeld ?_
      refine lTk 4 17 hHeld ?_
      refine lTk 5 18 hHeld ?_
      refine lTk 6 19 hHeld ?_
      refine lTk 7 20 hHeld ?_
      refine lTk 8 21 hHeld ?_
      refine lTk 9 22 hHeld ?_
      refine lTk 10 23 hHeld ?_
      refine lTk 11 24 hHeld ?_
      refine lTk 12 25 hHeld ?_
      refine lTk 13 26 hHeld ?_
      refine lTk 14 27 hHeld ?_
      refine lNo 15 fun K hK => ?_
      go_simp
      refine hK.out _ _ (fun _ => ?_) fun hHeld0 => ?_
      · exact hHeld
      clear hK K
      replace hHeld := hHeld0 (by decide)
      clear hHeld0
      try simp only [Act.put, za, zb, zc]
      refine lTk 16 29 hHeld ?_
      refine lNo 17 fun K hK => ?_
      go_simp
      refine hK.out _ _ (fun h => absurd rfl h) fun _ => ?_
      clear hK K
      try simp only [Act.put, za, zb, zc]
      refine last_done (by kernel_rfl) (NoPanic.normal ?_) _
      clear hHeld
      go_wp2_with fail
      refine bodyPost_ret (by simp [results, Tryd.results95, go_sem, *]; done) rfl ⟨rfl, ?_⟩
      rw [hnx.out, hW1.out]
      have hB : Below W1.heap.size W1 (W1.alloc (.cells #[.int .i64 b, .int .i64 x, .int .i64 (n + 1)] 43)).drew := ((Below.refl _ _).alloc (Nat.le_refl _) _).drew
      exact ⟨hk.out.1.below hB, hk.out.2.trans (RF.of_below hB hk.out.1.gl) (.inl rfl)⟩
    · have hO : Own w (.slice (some ⟨gb, o' + 1, none⟩) m (cap - 1)) gb (wtQ ⟨r.A, r.n + 1, 1, r.kn⟩) := by show Own _ _ _ (r.A.drop (r.n + 1)); rw [hT.out]; exact ht.out
      obtain ⟨W1, hW1⟩ : ∃ W1, setN w g o b x (n + 1) 1 (.slice (some ⟨gb, o' + 1, none⟩) m (cap - 1)) = W1 := ⟨_, rfl⟩
      have hk := hide (row_next (unhide hH).c gn (r' := ⟨r.A, r.n + 1, 1, r.kn⟩) (x0 := b) (x1 := x) (x2 := n + 1) (x3 := 1) rfl hlx.out (by show ((r.n + 1 : Nat) : Int) = _; rw [hrn.out]; simp) rfl hkx.out hO)
      rw [hW1] at hk
      dsimp only [setN] at hW1
      replace hW1 := hide hW1
      clear hO
      go_enter Tryd.func95, Tryd.ntmps95
      go_wp2_with fail
      refine wp_region_noPanic ?_
      refine last_begin 17 (fun w' => w'.cell? ⟨g, o + 68, none⟩ = some (.slice (some ⟨gb, o', none⟩) (m + 1) cap) ∧ w'.cell? ⟨gb, o', none⟩ = some (.int .i64 x) ∧ w'.cell? ⟨g, o + 2, none⟩ = some (.int .i64 n)) (by kernel_rfl) ?_ fun hHeld => ?_
      · exact ⟨by simp [go_sem, *], by simp [go_sem, *], by simp [go_sem, *]⟩
      refine lTk 0 13 hHeld ?_
      refine lTk 1 14 hHeld ?_
      refine lTk 2 15 hHeld ?_
      refine lTk 3 16 hHeld ?_
      refine lTk 4 17 hHeld ?_
      refine lTk 5 18 hHeld ?_
      refine lTk 6 19 hHeld ?_
      refine lTk 7 20 hHeld ?_
      refine lTk 8 21 hHeld ?_
      refine lTk 9 22 hHeld ?_
      refine lTk 10 23 hHeld ?_
      refine lTk 11 24 hHeld ?_
      refine lTk 12 25 hHeld ?_
      refine lTk 13 26 hHeld ?_
      refine lTk 14 27 hHeld ?_
      refine lNo 15 fun K hK => ?_
      go_simp
      refine hK.out _ _ (fun _ => ?_) fun hHeld0 => ?_
      · exact hHeld
      clear hK K
      replace hHeld := hHeld0 (by decide)
      clear hHeld0
      try simp only [Act.put, za, zb, zc]
      refine lTk 16 29 hHeld ?_
      refine lNo 17 fun K hK => ?_
      go_simp
      refine hK.out _ _ (fun h => absurd rfl h) fun _ => ?_
      clear hK K
      try simp only [Act.put, za, zb, zc]
      refine last_done (by kernel_rfl) (NoPanic.normal ?_) _
      clear hHeld
      go_wp2_with fail
      refine bodyPost_ret (by simp [results, Tryd.results95, go_sem, *]; done) rfl ⟨rfl, ?_⟩
      rw [hnx.out, hW1.out]
      have hB : Below W1.heap.size W1 (W1.alloc (.cells #[.int .i64 b, .int .i64 x, .int .i64 (n + 1)] 43)).drew := ((Below.refl _ _).alloc (Nat.le_refl _) _).drew
      exact ⟨hk.out.1.below hB, hk.out.2.trans (RF.of_below hB hk.out.1.gl) (.inl rfl)⟩
  · obtain rfl : ok = false := by rw [← hok']; simp [c]
    rw [if_neg (fun h => c h.2)] at ha'
    subst ha'
    have hn : nxBQ r = r := by unfold nxBQ; rw [if_neg (fun h => c h.2)]
    rw [hn]
    have hl : (r.A.drop r.n) = [] := List.drop_eq_nil_of_le (by omega)
    rw [hl] at hW
    obtain ⟨ao, cap, rfl⟩ : ∃ ao cap, v = .slice ao 0 cap := by
      cases ob with
      | none => exact ⟨none, 0, hW.1⟩
      | some b' => obtain ⟨ao, cap, e, _⟩ := hW; exact ⟨ao, cap, e⟩
    clear hW hl hok' hn c hle h
    go_enter Tryd.func95, Tryd.ntmps95
    go_wp2_with fail
    refine bodyPost_ret (by simp [results, Tryd.results95, go_sem, *]; done) rfl ⟨rfl, ?_⟩
    have hB : Below w.heap.size w (w.alloc (Obj.cells #[Value.int IntKind.i64 0, Value.int IntKind.i64 0, Value.int IntKind.i64 0] 43)) := (Below.refl _ _).alloc (Nat.le_refl _) _
    exact ⟨(unhide hH).below hB, RF.of_below hB hgl⟩
set_option maxHeartbeats 1000000 in
theorem aCur_c (p g N M : Nat) (L : List Rq) (Ft : Nat → Prop) (x : Int) (w : World) (h : ArIs w p g N M L Ft) (a : At) (ha : Hid (atCur L x = a)) (ok : Bool) (hok : Hid (okCur L x = ok)) : Calls Tryd.prog 39 #[ptr p, .int .i64 x] w fun e w' => e = .returned (.tuple #[.agg #[.int .i64 a.b, .int .i64 a.n, .int .i64 a.s], .bool ok]) ∧ Below w.heap.size w w' := by
  have hH := hide h
  obtain ⟨cap, c64, -, -⟩ := h.c64
  have hpl := h.pl
  have hgl := h.gl
  obtain ⟨q, hq⟩ : ∃ q, Hid (hasQ L.length x = q) := ⟨_, rfl⟩
  have ha' := ha.out
  have hok' := hok.out
  unfold atCur at ha'
  unfold okCur at hok'
  rw [hq.out] at ha' hok'
  cases q with
  | false =>
    obtain rfl : ok = false := by rw [← hok']; rfl
    obtain rfl : a = at0 := by rw [← ha']; rfl
    clear ha' hok' h
    go_enter Tryd.func39, Tryd.ntmps39
    go_wp2_with fail
    go_at_call 67
    refine (aHasB_c p g N M L Ft x _ ((unhide hH).alloc _) false hq).mono ?_
    rintro e w' ⟨rfl, hw'⟩
    rw [hw']
    clear hw' w'
    go_wp2_with fail
    refine bodyPost_ret (by simp [results, Tryd.results39, go_sem, *]; done) rfl ⟨rfl, ?_⟩
    all_goals exact belEnd
  | true =>
    obtain ⟨j, rfl, hj⟩ := hasQ_iff.1 hq.out
    obtain ⟨G, hG⟩ := h.rows
    have hrow := (hG.row j hj).c
    have hI := h.inv.get hj
    rw [getQ_at hj] at ha' hok'
    obtain ⟨r, hr⟩ : ∃ r, L[j] = r := ⟨_, rfl⟩
    rw [hr] at hrow ha' hok' hI
    have c0 := hrow.c0
    have c1 := hrow.c1
    have c2 := hrow.c2
    have c3 := hrow.c3
    have hj' : (j : Int) < L.length := by omega
    replace hr := hide hr
    by_cases c : r.ph = 1
    · obtain rfl : ok = true := by rw [← hok']; simp [okCQ, c]
      obtain rfl : a = ⟨j, lastNQ r, r.n⟩ := by rw [← ha']; simp [atCQ, c]
      have hb : lastBQ (j : Int) r = j := by unfold lastBQ; rw [if_neg (by have := hI.on (by rw [c]; decide); omega)]
      rw [hb] at c0
      rw [c] at c3
      generalize lastNQ r = ln at c1
      generalize r.n = n at c2
      clear ha' hok' hrow hI hG G hb c h
      go_enter Tryd.func39, Tryd.ntmps39
      go_wp2_with fail
      go_at_call 67
      refine (aHasB_c p g N M L Ft j _ ((unhide hH).alloc _) true hq).mono ?_
      rintro e w' ⟨rfl, hw'⟩
      rw [hw']
      clear hw' w'
      go_wp2_with fail
      refine bodyPost_ret (by simp [results, Tryd.results39, go_sem, *]; done) rfl ⟨rfl, ?_⟩
      all_goals exact belEnd
    · obtain rfl : ok = false := by rw [← hok']; simp [okCQ, c]
      obtain rfl : a = at0 := by rw [← ha']; simp [atCQ, c]
      generalize r.ph = ph at c3 c
      have c' : decide (ph = 1) = false ∧ (ph == 1) = false ∧ (ph != 1) = true := ⟨by simpa using c, by simpa using c, by simpa using c⟩
      clear ha' hok' hrow hI hG G h c0 c1 c2
      replace c := hide c
      go_enter Tryd.func39, Tryd.ntmps39
      go_wp2_with fail
      go_at_call 67
      refine (aHasB_c p g N M L Ft j _ ((unhide hH).alloc _) true hq).mono ?_
      rintro e w' ⟨rfl, hw'⟩
      rw [hw']
      clear hw' w'
      go_wp2_with fail
      refine bodyPost_ret (by simp [results, Tryd.results39, go_sem, *]; done) rfl ⟨rfl, ?_⟩
      all_goals exact belEnd
set_option maxHeartbeats 1000000 in
theorem aWait_c (p g N M : Nat) (L : List Rq) (Ft : Nat → Prop) (x : Int) (w : World) (h : ArIs w p g N M L Ft) (hM : M ≤ 100000) : Calls Tryd.prog 43 #[ptr p, .int .i64 x] w fun e w' => ∃ v, e = .returned v ∧ ∃ ob, WtIs w' v ob (wtsQ L x) ∧ (∀ b, ob = some b → w.heap.size ≤ b) ∧ Below w.heap.size w w' := by
  have hH := hide h
  obtain ⟨cap, c64, -, -⟩ := h.c64
  have hpl := h.pl
  have hgl := h.gl
  obtain ⟨q, hq⟩ : ∃ q, Hid (hasQ L.length x = q) := ⟨_, rfl⟩
  obtain ⟨T, hT⟩ : ∃ T, Hid (wtsQ L x = T) := ⟨_, rfl⟩
  have hT' := hT.out
  unfold wtsQ at hT'
  rw [hq.out] at hT'
  rw [hT.out]
  cases q with
  | false =>
    obtain rfl : T = [] := by rw [← hT']; rfl
    clear hT' h
    go_enter Tryd.func43, Tryd.ntmps43
    go_wp2_with fail
    go_at_call 67
    refine (aHasB_c p g N M L Ft x _ (unhide hH) false hq).mono ?_
    rintro e w' ⟨rfl, hw'⟩
    rw [hw']
    clear hw' w'
    go_wp2_with fail
    go_ret
    exact ⟨_, rfl, none, ⟨rfl, rfl⟩, fun b hb => (by cases hb), Below.refl _ _⟩
  | true =>
    obtain ⟨j, rfl, hj⟩ := hasQ_iff.1 hq.out
    obtain ⟨G, hG⟩ := h.rows
    obtain ⟨v, hv, hW⟩ := (hG.row j hj).wt
    have hI := h.inv.get hj
    rw [getQ_at hj] at hT'
    rw [if_pos rfl] at hT'
    rw [hT'] at hW
    obtain ⟨b, hV⟩ := hW.view
    have hTl : T.length ≤ 100000 := by rw [← hT']; unfold wtQ; rw [List.length_drop]; have := hI.al; omega
    have hj' : (j : Int) < L.length := by omega
    replace hV := hide hV
    clear hG hI hW hT' h
    go_enter Tryd.func43, Tryd.ntmps43
    go_wp2_with fail
    go_at_call 67
    refine (aHasB_c p g N M L Ft j _ (unhide hH) true hq).mono ?_
    rintro e w' ⟨rfl, hw'⟩
    rw [hw']
    clear hw' w'
    go_wp2_with fail
    go_at_call 68
    refine (clone_c v b T w (unhide hV) hTl).mono ?_
    rintro e w1 ⟨ao, cp, rfl, hC⟩
    replace hC := hide hC
    go_wp2_with fail
    go_ret
    obtain ⟨hB, hC⟩ := unhide hC
    rcases hC with ⟨rfl, rfl, rfl⟩ | ⟨g', hg, hO⟩
    · exact ⟨_, rfl, none, ⟨rfl, rfl⟩, fun b hb => (by cases hb), hB⟩
    · exact ⟨_, rfl, some g', hO, fun b hb => (by cases hb; exact hg), hB⟩
theorem RowC.put3 {w : World} {g o : Nat} {b : Int} {r : Rq} (h : RowC w g o b r) (r' : Rq) (x3 : Int) (e0 : lastBQ b r' = lastBQ b r) (e1 : lastNQ r' = lastNQ r) (e2 : r'.n = r.n) (e3 : r'.ph = x3) (ek : ∀ i, i < 64 → knM r' i = knM r i) : RowC (w.setCell ⟨g, o + 3, none⟩ (.int .i64 x3)) g o b r' := by
  have h3 := h.th 3 (by omega)
  have hx : ∀ i, i ≠ 3 → (w.setCell ⟨g, o + 3, none⟩ (.int .i64 x3)).cell? ⟨g, o + i, none⟩ = w.cell? ⟨g, o + i, none⟩ := fun i hi => World.cell?_setCell_other _ _ _ _ (fun e => by have : o + 3 = o + i := congrArg Addr.off e; omega)
  refine ⟨by rw [e0]; exact (hx 0 (by omega)).trans h.c0, by rw [e1]; exact (hx 1 (by omega)).trans h.c1, by rw [e2]; exact (hx 2 (by omega)).trans h.c2, by rw [e3]; exact World.cell?_setCell_same _ _ _ h.c3, ?_, World.there_setCells h.th g (o + 3) [.int .i64 x3]⟩
  rw [mkM_ext ek]
  exact World.rangeAt_setCells_apart h.kn g (o + 3) [.int .i64 x3] (.inr (.inr (by simp)))
theorem row_state {w : World} {g o : Nat} {b : Int} {r r' : Rq} {ob : Option Nat} {x3 : Int} (h : RowAt w g o b r ob) (hne : ob ≠ some g) (e0 : lastBQ b r' = lastBQ b r) (e1 : lastNQ r' = lastNQ r) (e2 : r'.n = r.n) (e3 : r'.ph = x3) (ek : ∀ i, i < 64 → knM r' i = knM r i) (ew : wtQ r' = wtQ r) :
    RowAt (w.setCell ⟨g, o + 3, none⟩ (.int .i64 x3)) g o b r' ob ∧ RF g o ob w (w.setCell ⟨g, o + 3, none⟩ (.int .i64 x3)) := by
  obtain ⟨v, h1, h2⟩ := h.wt
  refine ⟨⟨h.c.put3 r' x3 e0 e1 e2 e3 ek, v, ?_, ?_⟩, (RF.refl g o ob w).setCell (by omega) (by omega) _⟩
  · rw [World.cell?_setCell_other _ _ _ _ (fun e => by have : o + 3 = o + 68 := congrArg Addr.off e; omega)]; exact h1
  · rw [ew]; exact h2.carry (fun b hb => Below.heap_setCell _ _ _ _ (fun e => hne (by rw [hb, e])))
set_option maxHeartbeats 1000000 in
theorem aDone_c (p g N M : Nat) (L : List Rq) (Ft : Nat → Prop) (x s : Int) (w : World) (h : ArIs w p g N M L Ft) (ok : Bool) (hok : Hid (okDone L x s = ok)) : Calls Tryd.prog 81 #[ptr p, .int .i64 x, .int .i64 s] w fun e w' => e = .returned (.bool ok) ∧ ∃ Ft', ArIs w' p g N M (nxDone L x s) Ft' ∧ Step Ft Ft' w w' := by
  have hH := hide h
  obtain ⟨cap, c64, -, -⟩ := h.c64
  have hpl := h.pl
  have hgl := h.gl
  obtain ⟨q, hq⟩ : ∃ q, Hid (hasQ L.length x = q) := ⟨_, rfl⟩
  have hok' := hok.out
  unfold okDone at hok'
  rw [hq.out] at hok'
  obtain ⟨L', hL'⟩ : ∃ L', nxDone L x s = L' := ⟨_, rfl⟩
  rw [hL']
  unfold nxDone at hL'
  rw [hq.out] at hL'
  cases q with
  | false =>
    obtain rfl : ok = false := by rw [← hok']; rfl
    obtain rfl : L = L' := by rw [← hL']; rfl
    clear hL' hok' h
    go_enter Tryd.func81, Tryd.ntmps81
    go_wp2_with fail
    go_at_call 67
    refine (aHasB_c p g N M L Ft x _ (unhide hH) false hq).mono ?_
    rintro e w' ⟨rfl, hw'⟩
    rw [hw']
    clear hw' w'
    go_wp2_with fail
    go_ret
    exact ⟨rfl, Ft, unhide hH, Step.refl _ _⟩
  | true =>
    obtain ⟨j, rfl, hj⟩ := hasQ_iff.1 hq.out
    obtain ⟨G, hG⟩ := h.rows
    have hrow := hG.row j hj
    have hI := h.inv.get hj
    rw [getQ_at hj, Bool.true_and] at hok'
    rw [if_pos rfl, getQ_at hj, Int.toNat_natCast] at hL'
    obtain ⟨r, hr⟩ : ∃ r, L[j] = r := ⟨_, rfl⟩
    have hrs : L.set j r = L := by rw [← hr]; exact List.set_getElem_self hj
    rw [hr] at hrow hok' hL' hI
    have c2 := hrow.c.c2
    have c3 := hrow.c.c3
    have f3 := (hrow.c.th 3 (by omega)).2
    have hj' : (j : Int) < L.length := by omega
    have hne : G j ≠ some g := fun e => (hG.own j g hj e).2 rfl
    replace hr := hide hr
    replace hG := hide hG
    have hdn : Hid (decide (r.ph = 1 ∧ (r.n : Int) = s) = ok) := hide hok'
    cases ok with
    | true =>
      have hc := decide_eq_true_iff.1 hok'
      have hdq : dnQ r s = ⟨r.A, r.n, 2, []⟩ := by unfold dnQ; rw [if_pos hc]
      rw [hdq] at hL'
      have hfin := row_state (r' := ⟨r.A, r.n, 2, []⟩) (x3 := 2) hrow hne rfl rfl rfl rfl (fun i _ => by simp [knM, hc.1]) rfl
      have hI2 := hI.done s
      rw [hdq] at hI2
      have hput := hide ((unhide hH).put (unhide hG) hj hfin.1 hfin.2 (.inl rfl) hI2 (Nat.le_refl _))
      rw [hL'] at hput
      obtain ⟨n, hn⟩ : ∃ n, r.n = n := ⟨_, rfl⟩
      rw [hn] at c2 hdn
      obtain ⟨ph, hph⟩ : ∃ ph, r.ph = ph := ⟨_, rfl⟩
      rw [hph] at c3 hdn
      clear hfin hrow hI hc hdq hok' hn h hI2 hph hL' hrs
      go_enter Tryd.func81, Tryd.ntmps81
      go_wp2_with fail
      go_at_call 67
      refine (aHasB_c p g N M L Ft j _ (unhide hH) true hq).mono ?_
      rintro e w' ⟨rfl, hw'⟩
      rw [hw']
      clear hw' w'
      go_wp2_with fail
      go_at_call 96
      refine (rIs_c g (j * 69) n ph 1 s w c2 c3 true hdn).mono ?_
      rintro e w' ⟨rfl, hw'⟩
      rw [hw']
      clear hw' w'
      go_wp2_with fail
      go_ret
      exact ⟨rfl, unhide hput⟩
    | false =>
      have hc := decide_eq_false_iff_not.1 hok'
      have hdq : dnQ r s = r := by unfold dnQ; rw [if_neg hc]
      rw [hdq, hrs] at hL'
      subst hL'
      generalize r.n = n at c2 hdn
      generalize r.ph = ph at c3 hdn
      clear hrow hI hc hdq hok' h hrs
      go_enter Tryd.func81, Tryd.ntmps81
      go_wp2_with fail
      go_at_call 67
      refine (aHasB_c p g N M L Ft j _ (unhide hH) true hq).mono ?_
      rintro e w' ⟨rfl, hw'⟩
      rw [hw']
      clear hw' w'
      go_wp2_with fail
      go_at_call 96
      refine (rIs_c g (j * 69) n ph 1 s w c2 c3 false hdn).mono ?_
      rintro e w' ⟨rfl, hw'⟩
      rw [hw']
      clear hw' w'
      go_wp2_with fail
      go_ret
      exact ⟨rfl, Ft, unhide hH, Step.refl _ _⟩
end Go.Proofs.YtmgjgeaigdiadaaDoor
