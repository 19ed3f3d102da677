/- The document's arbiter in memory (layer 12). The contracts of New, Block, last, begin, Current. -/
import Derived.Test.YtlfdahcbkdiifaaArbMath
import Derived.Test.YtlfdahcbkdiifaaLinA
import Derived.Test.YtlfdahcbkdiifaaHand2
import Derived.Test.YtlfdahcbkdiifaaHand3
import Derived.OwnWalk
namespace Go.Proofs.Ytlfdahcbkdiifaa
open Go.ChangeShapes Go.WideShapes Go.ChangeAt Go.RowKit
set_option linter.unusedSimpArgs false
set_option linter.unusedVariables false
set_option maxRecDepth 10000

attribute [local go_sem, local simp] over_const setCell_drewN alloc_drewN Over.cell Over.frozen lt_s1 lt_s2 lt_s3 le_s0 le_s1 le_s2 le_s3 eq_s0 eq_s1 eq_s2 qe_s0

abbrev slD (g n : Nat) : Value := .slice (some ⟨g, 0, none⟩) n n

/-- A slice that is never written: its block is one of F. -/
def VwD (w : World) (F : Nat → Prop) (h : Nat) (v : Value) (A : List Int) : Prop := ∃ b, View w v b A ∧ (A ≠ [] → F b ∧ b ≠ h)

/-- A block's row: four cells. -/
structure RowD (w : World) (F : Nat → Prop) (h o : Nat) (r : Rq) : Prop where
  c0 : ∃ v, w.cell? ⟨h, o, none⟩ = some v ∧ VwD w F h v r.A
  c1 : w.cell? ⟨h, o + 1, none⟩ = some (.int .i64 r.n)
  c2 : w.cell? ⟨h, o + 2, none⟩ = some (.int .i64 r.ph)
  c3 : ∃ v, w.cell? ⟨h, o + 3, none⟩ = some v ∧ VwD w F h v r.kn
  th : w.there h o 4

/-- What is so of each block's row. -/
def LPre (N M : Nat) (L : List Rq) : Prop := ∀ r ∈ L, RPre N M r
theorem RPre.mono {N M M' : Nat} {r : Rq} (h : RPre N M r) (hM : M ≤ M') : RPre N M' r := ⟨Nat.le_trans h.al hM, Nat.le_trans h.kl hM, h.le, h.ph, h.on, h.ks⟩
theorem LPre.mono {N M M' : Nat} {L : List Rq} (h : LPre N M L) (hM : M ≤ M') : LPre N M' L := fun r hr => (h r hr).mono hM
theorem LPre.get {N M : Nat} {L : List Rq} (h : LPre N M L) {j : Nat} (hj : j < L.length) : RPre N M L[j] := h _ (List.getElem_mem hj)
theorem LPre.set {N M : Nat} {L : List Rq} (h : LPre N M L) (j : Nat) {r : Rq} (hr : RPre N M r) : LPre N M (L.set j r) := fun q hq => by
  rcases List.mem_or_eq_of_mem_set hq with hq | rfl
  · exact h q hq
  · exact hr
theorem RPre.psh {N M : Nat} {r : Rq} (h : RPre N M r) (x : Int) : RPre N (M + 1) (pshQ r x) :=
  ⟨by simp [pshQ]; exact h.al, Nat.le_succ_of_le h.kl, by have := h.le; simp [pshQ]; omega, h.ph, h.on, h.ks⟩
theorem RPre.done {N M : Nat} {r : Rq} (h : RPre N M r) (s : Int) : RPre N M (dnQ r s) := by
  unfold dnQ
  split
  · rename_i c
    exact ⟨h.al, Nat.zero_le _, h.le, .inr (.inr rfl), fun _ => h.on (by rw [c.1]; decide), fun _ hk => by simp at hk⟩
  · exact h
/-- One more knows it, whatever follows. -/
theorem RPre.kn {N M : Nat} {r : Rq} (h : RPre N M r) (hp : r.ph = 2) (p2 : Int) (hp2 : p2 = 0 ∨ p2 = 2) {x : Int} (hx : 0 ≤ x ∧ x < N) : RPre N (M + 1) ⟨r.A, r.n, p2, r.kn ++ [x]⟩ :=
  ⟨Nat.le_succ_of_le h.al, by simp; exact h.kl, h.le, by rcases hp2 with rfl | rfl <;> simp, fun _ => h.on (by rw [hp]; decide), fun k hk => by
    simp only [List.mem_append, List.mem_singleton] at hk
    rcases hk with hk | rfl
    · exact h.ks k hk
    · exact hx⟩

/-- The document's arbiter in block q, its rows in block h; all that it holds lies in the blocks of F. -/
structure RdIs (w : World) (q h N M : Nat) (L : List Rq) (F : Nat → Prop) : Prop where
  n64 : N ≤ 64
  l64 : L.length ≤ 64
  inv : LPre N M L
  c0 : w.cell? ⟨q, 0, none⟩ = some (.int .i64 N)
  c1 : w.cell? ⟨q, 1, none⟩ = some (slD h L.length)
  ql : q < w.heap.size
  fh : F h
  fq : ¬ F q
  lt : ∀ b, F b → b < w.heap.size
  rows : ∀ k (hk : k < L.length), RowD w F h (k * 4) L[k]

theorem VwD.carry {w w' : World} {F F' : Nat → Prop} {h : Nat} {v : Value} {A : List Int} (hV : VwD w F h v A) (e : ∀ b, F b → b ≠ h → w'.heap[b]? = w.heap[b]?) (hF : ∀ b, F b → F' b) : VwD w' F' h v A := by
  obtain ⟨b, h1, h2⟩ := hV
  exact ⟨b, h1.carry (fun hn _ => e b (h2 hn).1 (h2 hn).2), fun hn => ⟨hF b (h2 hn).1, (h2 hn).2⟩⟩

section
variable {w w' : World} {q h N M M' : Nat} {L : List Rq} {F G : Nat → Prop}
theorem RowD.keep {F' : Nat → Prop} {o : Nat} {r : Rq} (hr : RowD w F h o r) (e : ∀ i, i < 4 → w'.cell? ⟨h, o + i, none⟩ = w.cell? ⟨h, o + i, none⟩ ∧ w'.frozen? ⟨h, o + i, none⟩ = w.frozen? ⟨h, o + i, none⟩) (eF : ∀ b, F b → b ≠ h → w'.heap[b]? = w.heap[b]?) (hF : ∀ b, F b → F' b) : RowD w' F' h o r := by
  obtain ⟨v0, k0, k1⟩ := hr.c0
  obtain ⟨v3, k2, k3⟩ := hr.c3
  exact ⟨⟨v0, (e 0 (by omega)).1.trans k0, k1.carry eF hF⟩, (e 1 (by omega)).1.trans hr.c1, (e 2 (by omega)).1.trans hr.c2, ⟨v3, (e 3 (by omega)).1.trans k2, k3.carry eF hF⟩, fun j hj => by rw [(e j hj).1, (e j hj).2]; exact hr.th j hj⟩
theorem RdIs.hl (hr : RdIs w q h N M L F) : h < w.heap.size := hr.lt h hr.fh
theorem RdIs.carry (hr : RdIs w q h N M L F) (eq : w'.heap[q]? = w.heap[q]?) (eF : ∀ b, F b → w'.heap[b]? = w.heap[b]?) : RdIs w' q h N M L F :=
  ⟨hr.n64, hr.l64, hr.inv, keep_cell eq hr.c0, keep_cell eq hr.c1, block_lt hr.ql eq, hr.fh, hr.fq, fun b hb => block_lt (hr.lt b hb) (eF b hb), fun k hk => (hr.rows k hk).keep (fun i _ => ⟨World.cell?_of_block (w := w) (eF h hr.fh), World.frozen?_of_block (w := w) (eF h hr.fh)⟩) (fun b hb _ => eF b hb) (fun _ h => h)⟩
theorem RdIs.below (hr : RdIs w q h N M L F) (hb : Below w.heap.size w w') : RdIs w' q h N M L F := hr.carry (hb.block q hr.ql) (fun b hF => hb.block b (hr.lt b hF))
theorem RdIs.fr (hr : RdIs w q h N M L F) (hf : FrS G w w') (hq : ¬ G q) (hF : ∀ b, F b → ¬ G b) : RdIs w' q h N M L F := hr.carry (hf.block q hr.ql hq) (fun b hb => hf.block b (hr.lt b hb) (hF b hb))
theorem RdIs.alloc (hr : RdIs w q h N M L F) (o : Obj) : RdIs (w.alloc o) q h N M L F := hr.below ((Below.refl _ _).alloc (Nat.le_refl _) _)
theorem RdIs.drewN (hr : RdIs w q h N M L F) (n : Nat) : RdIs (w.drewN n) q h N M L F := hr.carry rfl (fun _ _ => rfl)
theorem RdIs.mono (hr : RdIs w q h N M L F) (hM : M ≤ M') : RdIs w q h N M' L F := ⟨hr.n64, hr.l64, hr.inv.mono hM, hr.c0, hr.c1, hr.ql, hr.fh, hr.fq, hr.lt, hr.rows⟩

/-- Worlds alike but for one row, and new blocks. -/
structure RG (h o : Nat) (w w' : World) : Prop where
  fr : FrS (· = h) w w'
  out : ∀ i, i < o ∨ o + 4 ≤ i → w'.cell? ⟨h, i, none⟩ = w.cell? ⟨h, i, none⟩ ∧ w'.frozen? ⟨h, i, none⟩ = w.frozen? ⟨h, i, none⟩
theorem RG.refl (h o : Nat) (w : World) : RG h o w w := ⟨FrS.refl _ _, fun _ _ => ⟨rfl, rfl⟩⟩
theorem RG.trans {o : Nat} {a b c : World} (x : RG h o a b) (y : RG h o b c) : RG h o a c := ⟨x.fr.trans y.fr (fun _ e => .inl e), fun i hi => ⟨(y.out i hi).1.trans (x.out i hi).1, (y.out i hi).2.trans (x.out i hi).2⟩⟩
theorem RG.of_below {o : Nat} {a b : World} (hb : Below a.heap.size a b) (hh : h < a.heap.size) : RG h o a b := ⟨FrS.of_below hb, fun i _ => ⟨World.cell?_of_block (w := a) (hb.block h hh), World.frozen?_of_block (w := a) (hb.block h hh)⟩⟩
theorem RG.setCell {o : Nat} {a b : World} (x : RG h o a b) {i : Nat} (h1 : o ≤ i) (h2 : i < o + 4) (v : Value) : RG h o a (b.setCell ⟨h, i, none⟩ v) :=
  ⟨x.fr.setCell (.inl rfl) v, fun j hj => by
    have ne : (⟨h, i, none⟩ : Addr) ≠ ⟨h, j, none⟩ := fun e => by cases e; omega
    rw [World.cell?_setCell_other _ _ _ _ ne, World.frozen?_setCell]
    exact x.out j hj⟩
theorem RG.andThen {o : Nat} {a b c : World} {F : Nat → Prop} (x : RG h o a b) (y : FrS F b c) (hF : ∀ i, F i → a.heap.size ≤ i) (hh : h < a.heap.size) : RG h o a c := by
  have e := y.block h (Nat.lt_of_lt_of_le hh x.fr.size) (fun e => by have := hF h e; omega)
  exact ⟨x.fr.trans y (fun i hi => .inr (hF i hi)), fun i hi => ⟨(World.cell?_of_block (w := b) e).trans (x.out i hi).1, (World.frozen?_of_block (w := b) e).trans (x.out i hi).2⟩⟩

/-- One row anew. -/
theorem RdIs.put (hr : RdIs w q h N M L F) {k : Nat} (hk : k < L.length) {r : Rq} {F' : Nat → Prop} (hR : RowD w' F' h (k * 4) r) (hf : RG h (k * 4) w w') (hF : ∀ b, F b → F' b) (hF' : ∀ b, F' b → F b ∨ (w.heap.size ≤ b ∧ b < w'.heap.size)) (hI : RPre N M' r) (hM : M ≤ M') :
    RdIs w' q h N M' (L.set k r) F' ∧ Step F F' w w' := by
  have hql := hr.ql
  have hhl := hr.hl
  have hqh : q ≠ h := fun e => hr.fq (e ▸ hr.fh)
  have eq := hf.fr.block q hql hqh
  refine ⟨⟨hr.n64, by rw [List.length_set]; exact hr.l64, (hr.inv.mono hM).set k hI, keep_cell eq hr.c0, by rw [List.length_set]; exact keep_cell eq hr.c1, block_lt hql eq, hF h hr.fh, ?_, ?_, ?_⟩, hf.fr.mono (fun b _ e => e ▸ hr.fh), ?_⟩
  · intro e
    rcases hF' q e with e | e
    · exact hr.fq e
    · omega
  · intro b hb
    rcases hF' b hb with e | e
    · exact Nat.lt_of_lt_of_le (hr.lt b e) hf.fr.size
    · exact e.2
  · intro i hi
    rw [List.length_set] at hi
    by_cases c : i = k
    · subst c
      rw [List.getElem_set_self]
      exact hR
    · rw [List.getElem_set_ne (fun e => c e.symm)]
      exact (hr.rows i hi).keep (fun j hj => hf.out _ (by omega)) (fun b hb hn => hf.fr.block b (hr.lt b hb) hn) hF
  · intro b hb
    rcases hF' b hb with e | e
    · exact .inl e
    · exact .inr e.1
end
end Go.Proofs.Ytlfdahcbkdiifaa
