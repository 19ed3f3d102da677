/- layer 16: Drew Over FrSet MemMath AtBase ArbMath BunAt StepLo, put together. -/
import Derived.WalkKit
import Derived.ProofKit
import Derived.OpenShut
import Derived.Below
import Derived.Handy
import Derived.Deep.QuietTactic
import Derived.BigQuiet
import Derived.Test.YtmgjgeaigdiadaaDoorB02
namespace Go.Proofs.YtmgjgeaigdiadaaDoor
open Go.ChangeShapes Go.WideShapes Go.ChangeAt Go.RowKit
theorem belowN {B : Nat} {a w : World} (h : Below B a w) (n : Nat) : Below B a (w.drewN n) := h.trans ⟨rfl, rfl, rfl, Nat.le_refl _, fun _ _ => rfl⟩
theorem setCell_drewN (w : World) (n : Nat) (a : Addr) (v : Value) : (w.drewN n).setCell a v = (w.setCell a v).drewN n := rfl
theorem alloc_drewN (w : World) (n : Nat) (o : Obj) : (w.drewN n).alloc o = (w.alloc o).drewN n := rfl
structure Over (W : World) where
  w : World
  below : Below W.heap.size W w
theorem over_const {W : World} {p : Prop} : (Over W → p) ↔ p := ⟨fun h => h ⟨W, Below.refl _ _⟩, fun h _ => h⟩
theorem over {W w' : World} (h : Below W.heap.size W w') : ∃ x : Over W, w' = x.w := ⟨⟨w', h⟩, rfl⟩
section
variable {W : World} (x : Over W) (b o : Nat)
theorem Over.cell (h : b < W.heap.size) : x.w.cell? ⟨b, o, none⟩ = W.cell? ⟨b, o, none⟩ := x.below.cell (p := ⟨b, o, none⟩) h
theorem Over.frozen (h : b < W.heap.size) : x.w.frozen? ⟨b, o, none⟩ = W.frozen? ⟨b, o, none⟩ := x.below.frozen (p := ⟨b, o, none⟩) h
theorem Over.up (h : b < W.heap.size) : b < x.w.heap.size := Nat.lt_of_lt_of_le h x.below.size
theorem Over.upB (h : b < W.heap.size := by first | omega | (simp only [World.size_alloc]; omega) | (simp; done) | (simp; omega)) : b < x.w.heap.size := x.up b h
theorem Over.go {B : Nat} {a : World} (h : Below B a W) (hB : B ≤ W.heap.size) : Below B a x.w := h.trans (x.below.mono hB)
theorem Over.sz (k : Nat) (h : k ≤ W.heap.size) : k ≤ x.w.heap.size := Nat.le_trans h x.below.size
end
section
variable {b s : Nat}
theorem lt_s1 (h : b < s) : (b < s + 1) = True := by simp; omega
theorem lt_s2 (h : b < s) : (b < s + 1 + 1) = True := by simp; omega
theorem lt_s3 (h : b < s) : (b < s + 1 + 1 + 1) = True := by simp; omega
theorem lt_s4 (h : b < s) : (b < s + 1 + 1 + 1 + 1) = True := by simp; omega
theorem le_s0 (h : b < s) : (b ≤ s) = True := by simp; omega
theorem le_s1 (h : b < s) : (b ≤ s + 1) = True := by simp; omega
theorem le_s2 (h : b < s) : (b ≤ s + 1 + 1) = True := by simp; omega
theorem le_s3 (h : b < s) : (b ≤ s + 1 + 1 + 1) = True := by simp; omega
theorem eq_s0 (h : b < s) : (b = s) = False := by simp; omega
theorem eq_s1 (h : b < s) : (b = s + 1) = False := by simp; omega
theorem eq_s2 (h : b < s) : (b = s + 1 + 1) = False := by simp; omega
theorem qe_s0 (h : b < s) : (s = b) = False := by simp; omega
end
theorem over2 {W : World} {x : Over W} {w' : World} (h : Below x.w.heap.size x.w w') : ∃ y : Over W, w' = y.w := ⟨⟨w', x.below.trans (h.mono x.below.size)⟩, rfl⟩
theorem overD {W w' : World} (h : Below W.drew.heap.size W.drew w') : ∃ x : Over W, w' = x.w := ⟨⟨w', ((Below.refl _ _).drew).trans h⟩, rfl⟩
theorem le_alloc {B : Nat} {w : World} {o : Obj} (h : B ≤ w.heap.size) : B ≤ (w.alloc o).heap.size := by simp; omega
theorem le_setCell {B : Nat} {w : World} {a : Addr} {v : Value} (h : B ≤ w.heap.size) : B ≤ (w.setCell a v).heap.size := by simpa using h
theorem le_drewN {B : Nat} {w : World} {n : Nat} (h : B ≤ w.heap.size) : B ≤ (w.drewN n).heap.size := h
theorem le_drew {B : Nat} {w : World} (h : B ≤ w.heap.size) : B ≤ w.drew.heap.size := h
theorem belEnd {p : Prop} (h : p := by repeat' first | with_reducible exact Below.refl _ _ | with_reducible refine Below.setCell ?_ ?_ _ | with_reducible refine Below.alloc ?_ ?_ _ | with_reducible refine Below.drew ?_ | with_reducible refine belowN ?_ _ | with_reducible refine Over.go _ ?_ ?_ | with_reducible exact Nat.le_refl _ | with_reducible refine Over.sz _ _ ?_ | with_reducible refine le_alloc ?_ | with_reducible refine le_setCell ?_ | with_reducible refine le_drewN ?_ | with_reducible refine le_drew ?_ | omega | (dsimp only; omega)) : p := h
theorem wp_region_over {P : Program} {id : Nat} {Q : Exit → Act → World → Prop} {a : Act} {w : World} {l : List Oper} (hm : P.follows .mixedOrders = true) (hB : Region.lexB .any l.toArray = true)
    (h : wpQuiet P l.toArray (fun w' => ∃ x : Over w, w' = x.w) (fun a' => ∀ w', (∃ x : Over w, w' = x.w) → Q .normal a' w') l a) : (Code.region id l.toArray true).wp P Q a w :=
  wp_region_quiet (C := fun w' => ∃ x : Over w, w' = x.w) hm hB ⟨⟨w.drew, (Below.refl _ _).drew⟩, rfl⟩ (by simpa using h)
theorem Over.quiet {P : Program} {f : FuncId} {args : Array Value} {W : World} {x : Over W} {v : Value}
    (h : Calls P f args x.w fun e w' => e = .returned v ∧ Below x.w.heap.size x.w w') : Calls P f args x.w fun e w'' => e = .returned v ∧ ∃ y : Over W, w'' = y.w :=
  h.mono fun _ w'' ⟨he, hb⟩ => ⟨he, ⟨w'', x.below.trans (hb.mono x.below.size)⟩, rfl⟩
end Go.Proofs.YtmgjgeaigdiadaaDoor
namespace Go.Proofs.YtmgjgeaigdiadaaDoor
open Go.ChangeShapes Go.WideShapes Go.ChangeAt Go.RowKit
set_option linter.unusedSimpArgs false
set_option linter.unusedVariables false
set_option maxRecDepth 10000
attribute [local go_sem, local simp] over_const setCell_drewN alloc_drewN Over.cell Over.frozen lt_s1 lt_s2 lt_s3 le_s0 le_s1 le_s2 le_s3 eq_s0 eq_s1 eq_s2 qe_s0
abbrev ptr (p : Nat) : Value := .pointer (some ⟨p, 0, none⟩)
def I64 (x : Int) : Prop := -9223372036854775808 ≤ x ∧ x ≤ 9223372036854775807
structure FrS (F : Nat → Prop) (w w' : World) : Prop where
  os : w'.os = w.os
  tape : w'.tape = w.tape
  output : w'.output = w.output
  size : w.heap.size ≤ w'.heap.size
  block : ∀ k, k < w.heap.size → ¬ F k → w'.heap[k]? = w.heap[k]?
theorem FrS.refl (F : Nat → Prop) (w : World) : FrS F w w := ⟨rfl, rfl, rfl, Nat.le_refl _, fun _ _ _ => rfl⟩
theorem FrS.trans {F G : Nat → Prop} {a b c : World} (h : FrS F a b) (k : FrS G b c) (hG : ∀ i, G i → F i ∨ a.heap.size ≤ i) : FrS F a c :=
  ⟨k.os.trans h.os, k.tape.trans h.tape, k.output.trans h.output, Nat.le_trans h.size k.size, fun i hi h1 => (k.block i (Nat.lt_of_lt_of_le hi h.size) (fun hg => (hG i hg).elim h1 (fun h2 => by omega))).trans (h.block i hi h1)⟩
theorem FrS.mono {F G : Nat → Prop} {a b : World} (h : FrS F a b) (hG : ∀ i, i < a.heap.size → F i → G i) : FrS G a b := ⟨h.os, h.tape, h.output, h.size, fun i hi h1 => h.block i hi (fun hf => h1 (hG i hi hf))⟩
theorem FrS.of_below {F : Nat → Prop} {a b : World} (h : Below a.heap.size a b) : FrS F a b := ⟨h.os, h.tape, h.output, h.size, fun k hk _ => h.block k hk⟩
theorem FrS.below {F : Nat → Prop} {B : Nat} {a b : World} (h : FrS F a b) (hF : ∀ i, F i → B ≤ i) (hB : B ≤ a.heap.size) : Below B a b := ⟨h.os, h.tape, h.output, h.size, fun k hk => h.block k (by omega) (fun hf => by have := hF k hf; omega)⟩
theorem FrS.grown {b : Nat} {w w' : World} (h : w.grownBy w' (some b)) : FrS (· = b) w w' := ⟨h.os, h.tape, h.output, h.size, fun k hk hn => h.block k hk (by simpa using hn)⟩
theorem FrS.setCell {F : Nat → Prop} {a b : World} (h : FrS F a b) {q : Addr} (hq : F q.block ∨ a.heap.size ≤ q.block) (u : Value) : FrS F a (b.setCell q u) :=
  ⟨h.os, h.tape, h.output, by simpa using h.size, fun k hk h1 => (Below.heap_setCell _ _ _ _ (by rintro rfl; rcases hq with hq | hq; exact h1 hq; omega)).trans (h.block k hk h1)⟩
theorem FrS.alloc {F : Nat → Prop} {a b : World} (h : FrS F a b) (o : Obj) : FrS F a (b.alloc o) :=
  h.trans (G := F) ⟨rfl, rfl, rfl, by simp, fun k hk _ => Below.heap_alloc _ _ _ hk⟩ (fun _ h => .inl h)
theorem FrS.drew {F : Nat → Prop} {a b : World} (h : FrS F a b) : FrS F a b.drew := ⟨h.os, h.tape, h.output, h.size, h.block⟩
theorem FrS.cell {F : Nat → Prop} {a b : World} (h : FrS F a b) {k o : Nat} (hk : k < a.heap.size) (h1 : ¬ F k) : b.cell? ⟨k, o, none⟩ = a.cell? ⟨k, o, none⟩ := World.cell?_of_block (w := a) (h.block k hk h1)
theorem FrS.frozen {F : Nat → Prop} {a b : World} (h : FrS F a b) {k o : Nat} (hk : k < a.heap.size) (h1 : ¬ F k) : b.frozen? ⟨k, o, none⟩ = a.frozen? ⟨k, o, none⟩ := World.frozen?_of_block (w := a) (h.block k hk h1)
theorem setCells_frS (g : Nat) : ∀ (vs : List Value) (o : Nat) (w : World), FrS (· = g) w (w.setCells g o vs)
  | [], _, w => FrS.refl _ _
  | v :: r, o, w => ((FrS.refl (· = g) w).setCell (q := ⟨g, o, none⟩) (.inl rfl) v).trans (setCells_frS g r (o + 1) (w.setCell ⟨g, o, none⟩ v)) (fun _ h => .inl h)
structure AppP (w w' : World) (v v' : Value) (g g' : Nat) : Prop where
  fr : FrS (· = g) w w'
  nil : v = .slice none 0 0 → Below w.heap.size w w'
  lies : g' = g ∨ w.heap.size ≤ g'
  keep : g' = g → v = .slice none 0 0 → v' = .slice none 0 0
theorem block_lt {w w' : World} {b : Nat} (h : b < w.heap.size) (e : w'.heap[b]? = w.heap[b]?) : b < w'.heap.size := by
  rw [Array.getElem?_eq_getElem h] at e
  exact (Array.getElem?_eq_some_iff.1 e).1
theorem keep_cell {w w' : World} {b o : Nat} {v : Option Value} (e : w'.heap[b]? = w.heap[b]?) (h : w.cell? ⟨b, o, none⟩ = v) : w'.cell? ⟨b, o, none⟩ = v := (World.cell?_of_block (w := w) e).trans h
theorem keep_frozen {w w' : World} {b o : Nat} {v : Bool} (e : w'.heap[b]? = w.heap[b]?) (h : w.frozen? ⟨b, o, none⟩ = v) : w'.frozen? ⟨b, o, none⟩ = v := (World.frozen?_of_block (w := w) e).trans h
structure Step (Ft Ft' : Nat → Prop) (w w' : World) : Prop where
  fr : FrS Ft w w'
  new : ∀ b, Ft' b → Ft b ∨ w.heap.size ≤ b
theorem Step.refl (Ft : Nat → Prop) (w : World) : Step Ft Ft w w := ⟨FrS.refl _ _, fun _ h => .inl h⟩
theorem Step.trans {F G H : Nat → Prop} {a b c : World} (h : Step F G a b) (k : Step G H b c) : Step F H a c :=
  ⟨h.fr.trans k.fr h.new, fun i hi => by rcases k.new i hi with h1 | h1; exact h.new i h1; exact .inr (Nat.le_trans h.fr.size h1)⟩
theorem Step.of_below {F : Nat → Prop} {a b : World} (h : Below a.heap.size a b) : Step F F a b := ⟨FrS.of_below h, fun _ h => .inl h⟩
theorem Step.keep {F F' : Nat → Prop} {w w' : World} (h : Step F F' w w') {b : Nat} (hb : ¬ F b) (hl : b < w.heap.size) : w'.heap[b]? = w.heap[b]? ∧ ¬ F' b ∧ b < w'.heap.size :=
  ⟨h.fr.block b hl hb, fun e => by rcases h.new b e with e | e; exact hb e; omega, Nat.lt_of_lt_of_le hl h.fr.size⟩
theorem name_world {P : Program} {c : Code} {Q : Exit → Act → World → Prop} {a : Act} {w : World} (h : ∀ W, w = W → c.wp P Q a W) : c.wp P Q a w := h w rfl
end Go.Proofs.YtmgjgeaigdiadaaDoor
namespace Go.Proofs.YtmgjgeaigdiadaaDoor
open Go.RowKit
def hasM (L : List Bun) (x : Int) : Bool := decide (0 ≤ x) && decide (x < L.length)
def getM (L : List Bun) (x : Int) : Bun := if hasM L x = true then (L[x.toNat]?).getD bun0 else bun0
def putM (L : List Bun) (x : Int) (b : Bun) : List Bun := if hasM L x = true then L.set x.toNat (joinB (getM L x) b) else L
def takM (L : List Bun) (x c : Int) (o : Bool) : List Bun := if hasM L x = true then L.set x.toNat (restB (getM L x) c o) else L
def newM (s t : Int) : List Bun := List.replicate (clampZ s 0 64).toNat (fullB t 0)
theorem hasM_iff {L : List Bun} {x : Int} : hasM L x = true ↔ 0 ≤ x ∧ x < L.length := by simp [hasM]
theorem hasM_at {L : List Bun} {x : Int} (h : hasM L x = true) : ∃ j : Nat, x = j ∧ j < L.length := by
  obtain ⟨h0, h1⟩ := hasM_iff.1 h
  exact ⟨x.toNat, by omega, by omega⟩
theorem hasM_nat {L : List Bun} {j : Nat} (h : j < L.length) : hasM L j = true := hasM_iff.2 (by omega)
theorem getM_nat {L : List Bun} {j : Nat} (h : j < L.length) : getM L j = L[j] := by simp [getM, hasM_nat h, h]
theorem getM_out {L : List Bun} {x : Int} (h : hasM L x = false) : getM L x = bun0 := by simp [getM, h]
theorem putM_nat {L : List Bun} {j : Nat} (h : j < L.length) (b : Bun) : putM L j b = L.set j (joinB L[j] b) := by simp [putM, hasM_nat h, getM_nat h]
theorem takM_nat {L : List Bun} {j : Nat} (h : j < L.length) (c : Int) (o : Bool) : takM L j c o = L.set j (restB L[j] c o) := by simp [takM, hasM_nat h, getM_nat h]
theorem putM_out {L : List Bun} {x : Int} (h : hasM L x = false) (b : Bun) : putM L x b = L := by simp [putM, h]
theorem takM_out {L : List Bun} {x : Int} (h : hasM L x = false) (c : Int) (o : Bool) : takM L x c o = L := by simp [takM, h]
theorem putM_len (L : List Bun) (x : Int) (b : Bun) : (putM L x b).length = L.length := by unfold putM; split <;> simp
theorem takM_len (L : List Bun) (x c : Int) (o : Bool) : (takM L x c o).length = L.length := by unfold takM; split <;> simp
theorem newM_len (s t : Int) : ((newM s t).length : Int) = clampZ s 0 64 ∧ (newM s t).length ≤ 64 := by
  have : 0 ≤ clampZ s 0 64 ∧ clampZ s 0 64 ≤ 64 := clampZ_in s 0 64 (by decide)
  simp only [newM, List.length_replicate]
  omega
theorem fullB_ok (t : Int) : okB (fullB t 0) ∧ (fullB t 0).n ≤ max t 0 := by
  unfold fullB
  split
  · simp [okB]; omega
  · simp [okB]; omega
structure MInv (N : Int) (L : List Bun) : Prop where
  len : L.length ≤ 64
  ok : ∀ b ∈ L, okB b ∧ b.n ≤ N
theorem MInv.mono {N M : Int} {L : List Bun} (h : MInv N L) (hN : N ≤ M) : MInv M L := ⟨h.len, fun b hb => ⟨(h.ok b hb).1, Int.le_trans (h.ok b hb).2 hN⟩⟩
theorem MInv.new (s t N : Int) (h : t ≤ N) (h0 : 0 ≤ N) : MInv N (newM s t) := ⟨(newM_len s t).2, fun b hb => by
  obtain rfl := List.eq_of_mem_replicate hb
  have := fullB_ok t
  exact ⟨this.1, by omega⟩⟩
theorem MInv.at' {N : Int} {L : List Bun} (h : MInv N L) {j : Nat} (hj : j < L.length) : okB L[j] ∧ L[j].n ≤ N := h.ok _ (List.getElem_mem hj)
theorem MInv.get {N : Int} {L : List Bun} (h : MInv N L) (h0 : 0 ≤ N) (x : Int) : okB (getM L x) ∧ (getM L x).n ≤ N := by
  by_cases c : hasM L x = true
  · obtain ⟨j, rfl, hj⟩ := hasM_at c
    rw [getM_nat hj]; exact h.at' hj
  · rw [getM_out (by simpa using c)]; exact ⟨okB_zero, h0⟩
theorem MInv.set {N : Int} {L : List Bun} (h : MInv N L) (j : Nat) {b : Bun} (hb : okB b ∧ b.n ≤ N) : MInv N (L.set j b) := ⟨by rw [List.length_set]; exact h.len, fun c hc => by
  rcases List.mem_or_eq_of_mem_set hc with h1 | rfl
  · exact h.ok c h1
  · exact hb⟩
theorem MInv.put {N K : Int} {L : List Bun} (h : MInv N L) (x : Int) {b : Bun} (hb : okB b) (hK : b.n ≤ K) : MInv (N + K) (putM L x b) := by
  have hn := hb.1
  have h' : MInv (N + K) L := h.mono (by omega)
  by_cases c : hasM L x = true
  · obtain ⟨j, rfl, hj⟩ := hasM_at c
    rw [putM_nat hj]
    have := h.at' hj
    exact h'.set j ⟨joinB_ok this.1 hb, by rw [joinB_n]; omega⟩
  · rw [putM_out (by simpa using c)]; exact h'
theorem MInv.tak {N : Int} {L : List Bun} (h : MInv N L) (x c : Int) (o : Bool) : MInv N (takM L x c o) := by
  by_cases e : hasM L x = true
  · obtain ⟨j, rfl, hj⟩ := hasM_at e
    rw [takM_nat hj]
    have := h.at' hj
    have h2 := restB_ok this.1 c o
    exact h.set j ⟨h2.1, by omega⟩
  · rw [takM_out (by simpa using e)]; exact h
theorem given_zero (c : Int) (o d : Bool) : givenB bun0 c o d = bun0 := by
  have h := parts_math 0 false false 0 c o d okB_zero (givenB bun0 c o d) (restB bun0 c o) rfl rfl
  exact ok_zero h.2.2.2.1 (by have h1 := h.1; have h2 := h.2.1; have h3 := h.2.2.1; omega)
end Go.Proofs.YtmgjgeaigdiadaaDoor
namespace Go.Proofs.YtmgjgeaigdiadaaDoor
open Go.ChangeShapes Go.WideShapes Go.ChangeAt Go.RowKit
set_option linter.unusedSimpArgs false
set_option linter.unusedVariables false
set_option maxRecDepth 10000
attribute [local go_sem, local simp] over_const setCell_drewN alloc_drewN Over.cell Over.frozen lt_s1 lt_s2 lt_s3 le_s0 le_s1 le_s2 le_s3 eq_s0 eq_s1 eq_s2 qe_s0
structure At where
  b : Int
  n : Int
  s : Int
abbrev atV (l : At) : Value := .agg #[.int .i64 l.b, .int .i64 l.n, .int .i64 l.s]
abbrev at0 : At := ⟨0, 0, 0⟩
structure Rq where
  A : List Int
  n : Nat
  ph : Int
  kn : List Int
abbrev rq0 : Rq := ⟨[], 0, 0, []⟩
def hasQ (k : Nat) (x : Int) : Bool := decide (0 ≤ x ∧ x < k)
theorem hasQ_iff {k : Nat} {x : Int} : hasQ k x = true ↔ ∃ j : Nat, x = j ∧ j < k := by
  unfold hasQ
  rw [decide_eq_true_iff]
  constructor
  · rintro ⟨h1, h2⟩; exact ⟨x.toNat, by omega, by omega⟩
  · rintro ⟨j, rfl, h⟩; omega
theorem hasQ_no {k : Nat} {x : Int} : hasQ k x = false ↔ x < 0 ∨ (k : Int) ≤ x := by
  unfold hasQ
  rw [decide_eq_false_iff_not]
  omega
def lastNQ (r : Rq) : Int := if r.n = 0 then 0 else r.A.getD (r.n - 1) 0
def lastBQ (b : Int) (r : Rq) : Int := if r.n = 0 then 0 else b
def nxBQ (r : Rq) : Rq := if r.ph = 0 ∧ r.n < r.A.length then ⟨r.A, r.n + 1, 1, r.kn⟩ else r
def okBQ (r : Rq) : Bool := decide (r.ph = 0 ∧ r.n < r.A.length)
def atBQ (b : Int) (r : Rq) : At := if r.ph = 0 ∧ r.n < r.A.length then ⟨b, r.A.getD r.n 0, r.n + 1⟩ else at0
def pshQ (r : Rq) (x : Int) : Rq := ⟨r.A ++ [x], r.n, r.ph, r.kn⟩
def dnQ (r : Rq) (s : Int) : Rq := if r.ph = 1 ∧ (r.n : Int) = s then ⟨r.A, r.n, 2, []⟩ else r
def okDQ (r : Rq) (s : Int) : Bool := decide (r.ph = 1 ∧ (r.n : Int) = s)
def allKQ (N : Nat) (kn : List Int) : Bool := (List.range N).all fun i => decide ((i : Int) ∈ kn)
def isEQ (r : Rq) (s : Int) : Bool := decide (r.ph = 2 ∧ (r.n : Int) = s)
def knQ (N : Nat) (r : Rq) (x : Int) : Rq := ⟨r.A, r.n, if allKQ N (r.kn ++ [x]) then 0 else 2, r.kn ++ [x]⟩
def nxKQ (N : Nat) (r : Rq) (s x : Int) : Rq := if isEQ r s then nxBQ (knQ N r x) else r
def okKQ (N : Nat) (r : Rq) (s x : Int) : Bool := isEQ r s && okBQ (knQ N r x)
def atKQ (N : Nat) (b : Int) (r : Rq) (s x : Int) : At := if isEQ r s then atBQ b (knQ N r x) else at0
def okCQ (r : Rq) : Bool := decide (r.ph = 1)
def atCQ (b : Int) (r : Rq) : At := if r.ph = 1 then ⟨b, lastNQ r, r.n⟩ else at0
def wtQ (r : Rq) : List Int := r.A.drop r.n
def getQ (L : List Rq) (x : Int) : Rq := (L[x.toNat]?).getD rq0
theorem getQ_at {L : List Rq} {j : Nat} (h : j < L.length) : getQ L j = L[j] := by simp [getQ, h]
def nxAsk (N : Nat) (L : List Rq) (x y : Int) : List Rq := if hasQ L.length x && hasQ N y then L.set x.toNat (nxBQ (pshQ (getQ L x) y)) else L
def okAsk (N : Nat) (L : List Rq) (x y : Int) : Bool := hasQ L.length x && hasQ N y && okBQ (pshQ (getQ L x) y)
def atAsk (N : Nat) (L : List Rq) (x y : Int) : At := if hasQ L.length x && hasQ N y then atBQ x (pshQ (getQ L x) y) else at0
def nxDone (L : List Rq) (x s : Int) : List Rq := if hasQ L.length x then L.set x.toNat (dnQ (getQ L x) s) else L
def okDone (L : List Rq) (x s : Int) : Bool := hasQ L.length x && okDQ (getQ L x) s
def nxAck (N : Nat) (L : List Rq) (x s y : Int) : List Rq := if hasQ L.length x && hasQ N y then L.set x.toNat (nxKQ N (getQ L x) s y) else L
def okAck (N : Nat) (L : List Rq) (x s y : Int) : Bool := hasQ L.length x && hasQ N y && okKQ N (getQ L x) s y
def atAck (N : Nat) (L : List Rq) (x s y : Int) : At := if hasQ L.length x && hasQ N y then atKQ N x (getQ L x) s y else at0
def okCur (L : List Rq) (x : Int) : Bool := hasQ L.length x && okCQ (getQ L x)
def atCur (L : List Rq) (x : Int) : At := if hasQ L.length x then atCQ x (getQ L x) else at0
def wtsQ (L : List Rq) (x : Int) : List Int := if hasQ L.length x then wtQ (getQ L x) else []
structure RInv (N M : Nat) (r : Rq) : Prop where
  al : r.A.length ≤ M
  kl : r.kn.length ≤ M
  le : r.n ≤ r.A.length
  ph : r.ph = 0 ∨ r.ph = 1 ∨ r.ph = 2
  rest : r.ph = 0 → r.n = r.A.length
  on : r.ph ≠ 0 → 1 ≤ r.n
  ks : ∀ k ∈ r.kn, 0 ≤ k ∧ k < N
theorem RInv.mono {N M M' : Nat} {r : Rq} (h : RInv N M r) (hM : M ≤ M') : RInv N M' r := ⟨Nat.le_trans h.al hM, Nat.le_trans h.kl hM, h.le, h.ph, h.rest, h.on, h.ks⟩
theorem rinv0 (N M : Nat) : RInv N M rq0 := ⟨Nat.zero_le _, Nat.zero_le _, Nat.le_refl _, .inl rfl, fun _ => rfl, fun h => absurd rfl h, fun _ h => by simp at h⟩
structure RPre (N M : Nat) (r : Rq) : Prop where
  al : r.A.length ≤ M
  kl : r.kn.length ≤ M
  le : r.n ≤ r.A.length
  ph : r.ph = 0 ∨ r.ph = 1 ∨ r.ph = 2
  on : r.ph ≠ 0 → 1 ≤ r.n
  ks : ∀ k ∈ r.kn, 0 ≤ k ∧ k < N
theorem RPre.next {N M : Nat} {r : Rq} (h : RPre N M r) : RPre N M (nxBQ r) := by
  unfold nxBQ
  split
  · rename_i c
    exact ⟨h.al, h.kl, c.2, .inr (.inl rfl), fun _ => by show 1 ≤ r.n + 1; omega, h.ks⟩
  · exact h
theorem RPre.inv {N M : Nat} {r : Rq} (h : RPre N M r) (hr : r.ph = 0 → r.n = r.A.length) : RInv N M r := ⟨h.al, h.kl, h.le, h.ph, hr, h.on, h.ks⟩
theorem RInv.pre {N M : Nat} {r : Rq} (h : RInv N M r) : RPre N M r := ⟨h.al, h.kl, h.le, h.ph, h.on, h.ks⟩
theorem RPre.nextInv {N M : Nat} {r : Rq} (h : RPre N M r) : RInv N M (nxBQ r) := by
  refine h.next.inv fun e => ?_
  unfold nxBQ at e ⊢
  split
  · rename_i c; rw [if_pos c] at e; cases e
  · rename_i c
    rw [if_neg c] at e
    have := h.le
    omega
theorem RInv.psh {N M : Nat} {r : Rq} (h : RInv N M r) (x : Int) : RPre N (M + 1) (pshQ r x) :=
  ⟨by simp [pshQ]; exact h.al, Nat.le_succ_of_le h.kl, by have := h.le; simp [pshQ]; omega, h.ph, h.on, h.ks⟩
theorem RInv.ask {N M : Nat} {r : Rq} (h : RInv N M r) (x : Int) : RInv N (M + 1) (nxBQ (pshQ r x)) := (h.psh x).nextInv
theorem RInv.done {N M : Nat} {r : Rq} (h : RInv N M r) (s : Int) : RInv N M (dnQ r s) := by
  unfold dnQ
  split
  · rename_i c
    exact ⟨h.al, Nat.zero_le _, h.le, .inr (.inr rfl), fun e => (by cases e), fun _ => h.on (by rw [c.1]; decide), fun _ hk => by simp at hk⟩
  · exact h
theorem RInv.kn {N M : Nat} {r : Rq} (h : RInv N M r) (hp : r.ph = 2) {x : Int} (hx : 0 ≤ x ∧ x < N) : RPre N (M + 1) (knQ N r x) :=
  ⟨Nat.le_succ_of_le h.al, by simp [knQ]; exact h.kl, h.le, by simp only [knQ]; split <;> simp, fun _ => h.on (by rw [hp]; decide), fun k hk => by
    simp only [knQ, List.mem_append, List.mem_singleton] at hk
    rcases hk with hk | rfl
    · exact h.ks k hk
    · exact hx⟩
theorem RInv.ack {N M : Nat} {r : Rq} (h : RInv N M r) (s : Int) {x : Int} (hx : 0 ≤ x ∧ x < N) : RInv N (M + 1) (nxKQ N r s x) := by
  unfold nxKQ isEQ
  split
  · rename_i c
    exact (h.kn (decide_eq_true_iff.1 c).1 hx).nextInv
  · exact h.mono (Nat.le_succ M)
def LInv (N M : Nat) (L : List Rq) : Prop := ∀ r ∈ L, RInv N M r
theorem LInv.mono {N M M' : Nat} {L : List Rq} (h : LInv N M L) (hM : M ≤ M') : LInv N M' L := fun r hr => (h r hr).mono hM
theorem LInv.get {N M : Nat} {L : List Rq} (h : LInv N M L) {j : Nat} (hj : j < L.length) : RInv N M L[j] := h _ (List.getElem_mem hj)
theorem LInv.set {N M : Nat} {L : List Rq} (h : LInv N M L) (j : Nat) {r : Rq} (hr : RInv N M r) : LInv N M (L.set j r) := fun q hq => by
  rcases List.mem_or_eq_of_mem_set hq with hq | rfl
  · exact h q hq
  · exact hr
theorem linv_rep (N M k : Nat) : LInv N M (List.replicate k rq0) := fun r hr => by obtain rfl := List.eq_of_mem_replicate hr; exact rinv0 N M
theorem LInv.ask {N M : Nat} {L : List Rq} (h : LInv N M L) (x y : Int) : LInv N (M + 1) (nxAsk N L x y) := by
  unfold nxAsk
  split
  · rename_i c
    simp only [Bool.and_eq_true] at c
    obtain ⟨j, rfl, hj⟩ := hasQ_iff.1 c.1
    rw [getQ_at hj]
    exact (h.mono (Nat.le_succ M)).set _ ((h.get hj).ask y)
  · exact h.mono (Nat.le_succ M)
theorem LInv.done {N M : Nat} {L : List Rq} (h : LInv N M L) (x s : Int) : LInv N M (nxDone L x s) := by
  unfold nxDone
  split
  · rename_i c
    obtain ⟨j, rfl, hj⟩ := hasQ_iff.1 c
    rw [getQ_at hj]
    exact h.set _ ((h.get hj).done s)
  · exact h
theorem LInv.ack {N M : Nat} {L : List Rq} (h : LInv N M L) (x s y : Int) : LInv N (M + 1) (nxAck N L x s y) := by
  unfold nxAck
  split
  · rename_i c
    simp only [Bool.and_eq_true] at c
    obtain ⟨j, rfl, hj⟩ := hasQ_iff.1 c.1
    obtain ⟨i, rfl, hi⟩ := hasQ_iff.1 c.2
    rw [getQ_at hj]
    exact (h.mono (Nat.le_succ M)).set _ ((h.get hj).ack s (by omega))
  · exact h.mono (Nat.le_succ M)
theorem allKQ_iff {N : Nat} {kn : List Int} : allKQ N kn = true ↔ ∀ i : Nat, i < N → (i : Int) ∈ kn := by
  unfold allKQ
  rw [List.all_eq_true]
  simp
abbrev bunV (x : Bun) : Value := .agg #[.int .i64 x.n, .bool x.o, .bool x.h, .int .i64 x.d]
structure BunAt (w : World) (b : Nat) (x : Bun) : Prop where
  lt : b < w.heap.size
  c0 : w.cell? ⟨b, 0, none⟩ = some (.int .i64 x.n)
  c1 : w.cell? ⟨b, 1, none⟩ = some (.bool x.o)
  c2 : w.cell? ⟨b, 2, none⟩ = some (.bool x.h)
  c3 : w.cell? ⟨b, 3, none⟩ = some (.int .i64 x.d)
  f0 : w.frozen? ⟨b, 0, none⟩ = false
  f1 : w.frozen? ⟨b, 1, none⟩ = false
  f2 : w.frozen? ⟨b, 2, none⟩ = false
  f3 : w.frozen? ⟨b, 3, none⟩ = false
theorem BunAt.carry {w w' : World} {b : Nat} {x : Bun} (h : BunAt w b x) (e : w'.heap[b]? = w.heap[b]?) : BunAt w' b x :=
  ⟨block_lt h.lt e, keep_cell e h.c0, keep_cell e h.c1, keep_cell e h.c2, keep_cell e h.c3, keep_frozen e h.f0, keep_frozen e h.f1, keep_frozen e h.f2, keep_frozen e h.f3⟩
theorem BunAt.below {w w' : World} {b : Nat} {x : Bun} (h : BunAt w b x) (hb : Below w.heap.size w w') : BunAt w' b x := h.carry (hb.block b h.lt)
theorem FrS.wr {B : Nat} {a b : World} (h : FrS (· = B) a b) {o : Nat} (u : Value) : FrS (· = B) a (b.setCell ⟨B, o, none⟩ u) := h.setCell (q := ⟨B, o, none⟩) (.inl rfl) u
abbrev setB (w : World) (B : Nat) (b : Bun) : World := (((w.setCell ⟨B, 0, none⟩ (.int .i64 b.n)).setCell ⟨B, 1, none⟩ (.bool b.o)).setCell ⟨B, 2, none⟩ (.bool b.h)).setCell ⟨B, 3, none⟩ (.int .i64 b.d)
theorem set_bun {w : World} {B : Nat} {b0 : Bun} (h : BunAt w B b0) (b : Bun) : BunAt (setB w B b) B b ∧ FrS (· = B) w (setB w B b) := by
  obtain ⟨y5, y0, y1, y2, y3, z0, z1, z2, z3⟩ := h
  refine ⟨⟨by simp; exact y5, by simp [go_sem, *], by simp [go_sem, *], by simp [go_sem, *], by simp [go_sem, *], by simp [go_sem, *], by simp [go_sem, *], by simp [go_sem, *], by simp [go_sem, *]⟩, ?_⟩
  repeat' first | with_reducible exact FrS.refl _ _ | refine FrS.wr ?_ _
theorem bun_new (w : World) (T : TypeId) : BunAt (w.alloc (.cells #[.int .i64 0, .bool false, .bool false, .int .i64 0] T)) w.heap.size bun0 :=
  ⟨by simp, by simp [go_sem], by simp [go_sem], by simp [go_sem], by simp [go_sem], by simp [go_sem], by simp [go_sem], by simp [go_sem], by simp [go_sem]⟩
theorem bun_newV (w : World) (b : Bun) (T : TypeId) : BunAt (w.alloc (.cells #[.int .i64 b.n, .bool b.o, .bool b.h, .int .i64 b.d] T)) w.heap.size b :=
  ⟨by simp, by simp [go_sem], by simp [go_sem], by simp [go_sem], by simp [go_sem], by simp [go_sem], by simp [go_sem], by simp [go_sem], by simp [go_sem]⟩
theorem BunAt.fr {w w' : World} {b : Nat} {x : Bun} {F : Nat → Prop} (h : BunAt w b x) (hf : FrS F w w') (hn : ¬ F b) : BunAt w' b x := h.carry (hf.block b h.lt hn)
theorem Step.belowW {w w0 w' : World} {F F' : Nat → Prop} (h : Step F F' w0 w') (hb : Below w.heap.size w w0) (hF : ∀ b, F b → w.heap.size ≤ b) : Below w.heap.size w w' := hb.trans (h.fr.below hF hb.size)
theorem Step.lo {w0 w' : World} {n : Nat} {F F' : Nat → Prop} (h : Step F F' w0 w') (hF : ∀ b, F b → n ≤ b) (hn : n ≤ w0.heap.size) : ∀ b, F' b → n ≤ b := fun b hb => by rcases h.new b hb with e | e; exact hF b e; omega
end Go.Proofs.YtmgjgeaigdiadaaDoor
