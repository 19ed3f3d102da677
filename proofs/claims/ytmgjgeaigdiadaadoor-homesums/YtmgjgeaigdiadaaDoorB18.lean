/- layer 16: HmMath Mem Hm HmA MemE HmB MemB MemC, put together. -/
import Derived.Test.YtmgjgeaigdiadaaDoorB09
import Derived.Test.YtmgjgeaigdiadaaDoorB04
import Derived.Test.YtmgjgeaigdiadaaDoorB10
import Derived.Test.YtmgjgeaigdiadaaDoorB11
import Derived.Test.YtmgjgeaigdiadaaDoorB13
import Derived.OwnWalk
import Derived.Test.YtmgjgeaigdiadaaDoorB15
import Derived.Test.YtmgjgeaigdiadaaDoorB16
import Derived.Test.YtmgjgeaigdiadaaDoorB05
import Derived.Test.YtmgjgeaigdiadaaDoorB17
namespace Go.Proofs.YtmgjgeaigdiadaaDoor
open Go.ChangeShapes Go.WideShapes Go.ChangeAt Go.RowKit
set_option linter.unusedSimpArgs false
set_option linter.unusedVariables false
set_option maxRecDepth 10000
attribute [local go_sem, local simp] over_const setCell_drewN alloc_drewN Over.cell Over.frozen lt_s1 lt_s2 lt_s3 le_s0 le_s1 le_s2 le_s3 eq_s0 eq_s1 eq_s2 qe_s0
structure Hm where
  M : List Bun
  L : List Rq
def hm0 (c : Cf) : Hm := ⟨newM c.bl c.tt, List.replicate c.bl.toNat rq0⟩
def sprOne (c : Cf) (k q s w : Int) (i : Nat) : Lt := ⟨k, c.n, i, q, s, w, false, 0, false, false, 0⟩
def sprL (c : Cf) (k q s w : Int) : List Lt := (List.range c.n.toNat).map (sprOne c k q s w)
def hTokL (c : Cf) (D : Hm) (l : Lt) : List Lt := if okCur D.L l.q = true then sendL c.n (atCur D.L l.q).n l.q (tokOf l) else []
def nxHTok (D : Hm) (l : Lt) : Hm := if okCur D.L l.q = true then D else ⟨putM D.M l.q (tokOf l), D.L⟩
def hRep (c : Cf) (D : Hm) (l : Lt) (d0 d1 : Int) : Rep := repZ c.cp (getM D.M l.q).n (getM D.M l.q).o l.r d0 d1
def hAskL (c : Cf) (D : Hm) (l : Lt) (d0 d1 : Int) : List Lt := sendL c.n l.a l.q (givenB (getM D.M l.q) (hRep c D l d0 d1).n (hRep c D l d0 d1).o (hRep c D l d0 d1).v)
def nxHAsk (c : Cf) (D : Hm) (l : Lt) (d0 d1 : Int) : Hm := ⟨takM D.M l.q (hRep c D l d0 d1).n (hRep c D l d0 d1).o, D.L⟩
def hActL (c : Cf) (D : Hm) (a : At) (ok : Bool) : List Lt :=
  if ok = true then sprL c 4 a.b a.s a.n ++ sendL c.n a.n a.b (givenB (getM D.M a.b) (getM D.M a.b).n true true) else []
def nxHAct (D : Hm) (a : At) (ok : Bool) : Hm := if ok = true then ⟨takM D.M a.b (getM D.M a.b).n true, D.L⟩ else D
def hPerD (c : Cf) (D : Hm) (l : Lt) : Hm := ⟨D.M, nxAsk c.n.toNat D.L l.q l.a⟩
def hPerL (c : Cf) (D : Hm) (l : Lt) : List Lt := hActL c (hPerD c D l) (atAsk c.n.toNat D.L l.q l.a) (okAsk c.n.toNat D.L l.q l.a)
def nxHPer (c : Cf) (D : Hm) (l : Lt) : Hm := nxHAct (hPerD c D l) (atAsk c.n.toNat D.L l.q l.a) (okAsk c.n.toNat D.L l.q l.a)
def hDoneL (c : Cf) (D : Hm) (l : Lt) : List Lt := if okDone D.L l.q l.s = true then sprL c 6 l.q l.s 0 else []
def nxHDone (D : Hm) (l : Lt) : Hm := ⟨D.M, nxDone D.L l.q l.s⟩
def hAckD (c : Cf) (D : Hm) (l : Lt) : Hm := ⟨D.M, nxAck c.n.toNat D.L l.q l.s l.a⟩
def hAckL (c : Cf) (D : Hm) (l : Lt) : List Lt := hActL c (hAckD c D l) (atAck c.n.toNat D.L l.q l.s l.a) (okAck c.n.toNat D.L l.q l.s l.a)
def nxHAck (c : Cf) (D : Hm) (l : Lt) : Hm := nxHAct (hAckD c D l) (atAck c.n.toNat D.L l.q l.s l.a) (okAck c.n.toNat D.L l.q l.s l.a)
def htOk (c : Cf) (l : Lt) : Bool := decide (lerr c l = 0) && decide (l.b = c.n)
def htL (c : Cf) (D : Hm) (l : Lt) (d0 d1 : Int) : List Lt :=
  if htOk c l = true then
    (if l.k = 1 then hTokL c D l else if l.k = 2 then hAskL c D l d0 d1 else if l.k = 3 then hPerL c D l else if l.k = 5 then hDoneL c D l else if l.k = 7 then hAckL c D l else [])
  else []
def nxHT (c : Cf) (D : Hm) (l : Lt) (d0 d1 : Int) : Hm :=
  if htOk c l = true then
    (if l.k = 1 then nxHTok D l else if l.k = 2 then nxHAsk c D l d0 d1 else if l.k = 3 then nxHPer c D l else if l.k = 5 then nxHDone D l else if l.k = 7 then nxHAck c D l else D)
  else D
theorem sprL_len (c : Cf) (k q s w : Int) : (sprL c k q s w).length = c.n.toNat := by simp [sprL]
theorem sendL_lenH (a b q : Int) (x : Bun) : (sendL a b q x).length ≤ 1 := by unfold sendL; split <;> simp
theorem atB_b {b : Int} {r : Rq} (h : okBQ r = true) : (atBQ b r).b = b := by
  unfold okBQ at h
  unfold atBQ
  rw [if_pos (of_decide_eq_true h)]
theorem atAsk_b {N : Nat} {L : List Rq} {x y : Int} (h : okAsk N L x y = true) : (atAsk N L x y).b = x ∧ hasQ L.length x = true := by
  unfold okAsk at h
  unfold atAsk
  simp only [Bool.and_eq_true] at h
  rw [if_pos (by simp [h.1.1, h.1.2])]
  exact ⟨atB_b h.2, h.1.1⟩
theorem atAck_b {N : Nat} {L : List Rq} {x s y : Int} (h : okAck N L x s y = true) : (atAck N L x s y).b = x ∧ hasQ L.length x = true := by
  unfold okAck okKQ at h
  unfold atAck atKQ
  simp only [Bool.and_eq_true] at h
  rw [if_pos (by simp [h.1.1, h.1.2]), if_pos h.2.1]
  exact ⟨atB_b h.2.2, h.1.1⟩
theorem nxAsk_len (N : Nat) (L : List Rq) (x y : Int) : (nxAsk N L x y).length = L.length := by unfold nxAsk; split <;> simp
theorem nxDone_len (L : List Rq) (x s : Int) : (nxDone L x s).length = L.length := by unfold nxDone; split <;> simp
theorem nxAck_len (N : Nat) (L : List Rq) (x s y : Int) : (nxAck N L x s y).length = L.length := by unfold nxAck; split <;> simp
theorem given_all {b : Bun} (ok : okB b) : givenB b b.n true true = b ∧ restB b b.n true = bun0 := by
  obtain ⟨n, o, h, d⟩ := b
  have hw : howManyZ ⟨n, o, h, d⟩ n true = n := by
    unfold howManyZ clampZ
    have := ok.1
    dsimp only at this ⊢
    rw [if_neg (by simp)]
    (repeat' split) <;> omega
  unfold givenB restB
  dsimp only
  rw [hw]
  by_cases e : n = 0
  · subst e
    have h1 := ok.2.1 rfl
    have h2 := ok.2.2.2 h1.2
    dsimp only at h1 h2
    obtain ⟨rfl, rfl⟩ := h1
    subst h2
    simp
  · rw [if_neg e, if_neg e, if_pos rfl]
    refine ⟨?_, rfl⟩
    have h2 := ok.2.2.2
    have h3 := ok.2.2.1
    dsimp only at h2 h3
    cases h <;> cases o <;> simp_all [withV]
abbrev slB (g n : Nat) : Value := .slice (some ⟨g, 0, none⟩) n n
theorem made_at (n j : Nat) (hj : j < n * 4) : (madeCells (bunV bun0).cells (n * 4))[j]? = (flatBn (List.replicate n bun0))[j]? := by
  have e : j = (j / 4) * 4 + j % 4 := by omega
  have h1 : j / 4 < n := by omega
  have h2 : j % 4 < 4 := by omega
  have h3 : (flatBn (List.replicate n bun0))[j]? = (bnC bun0)[j % 4]? := by
    have := flatBn_at (List.replicate n bun0) (j / 4) (j % 4) (by simpa using h1) h2
    rw [← e] at this
    rw [this]
    simp
  rw [h3]
  simp only [madeCells, bunV, Value.cells, bnC]
  rw [Array.getElem?_map, Array.getElem?_range, if_pos hj]
  have : j % 4 = 0 ∨ j % 4 = 1 ∨ j % 4 = 2 ∨ j % 4 = 3 := by omega
  rcases this with h | h | h | h <;> simp [h]
theorem own_made (w : World) (n : Nat) (hn : n ≤ 64) : OwnB (w.alloc (.cells (madeCells (bunV bun0).cells (n * 4)) 32)) (slB w.heap.size n) w.heap.size (List.replicate n bun0) := by
  have hnew := heap_alloc_new w (Obj.cells (madeCells (bunV bun0).cells (n * 4)) 32)
  have hcell := fun j => cell_of_row _ w.heap.size j _ _ _ hnew
  refine ⟨_, n, by simp, by simp, by simp only [maxLen]; omega, by simp, .inr ⟨0, rfl, fun j hj => ?_, fun j hj => ?_⟩⟩
  · rw [Nat.zero_add]
    simp only [List.length_replicate] at hj
    exact (hcell j).trans (made_at n j hj)
  · rw [Nat.zero_add]
    refine ⟨?_, ?_⟩
    · have := hcell j
      rw [Array.getElem?_eq_getElem (by rw [size_madeCells]; exact hj)] at this
      exact Option.isSome_iff_exists.2 ⟨_, this⟩
    · simp only [World.frozen?]
      rw [hnew]
      simp
section
variable {w : World} {ops : Array Oper} {rest : List Oper} {o : Oper} {a : Act} {Q : Exit → Act → World → Prop}
theorem wpList_makeB (hg : o.guard = none) (l c : Operand) (hop : o.op = Op.makeSlice 46 l c) (n : Nat) (hl : a.eval l = .int .i64 (n : Int)) (hc : a.eval c = .int .i64 (n : Int)) (hn : n ≤ 64)
    (hK : ∀ w', OwnB w' (slB w.heap.size n) w.heap.size (List.replicate n bun0) → Below w.heap.size w w' → w'.heap.size = w.heap.size + 1 → wpList Tryd.prog ops Q rest (a.put o.dst (slB w.heap.size n)) w') : wpList Tryd.prog ops Q (o :: rest) a w := by
  refine wpList_plain hg fun K hK' => ?_
  obtain ⟨i, hi, hz0, hz1, hz2⟩ := info_parts infoB
  have hrun := run_make (P := Tryd.prog) w 46 _ i _ Tryd.underlying46 hi hz0 .i64 .i64 n n (by omega) (Int.le_refl _) (by rw [hz2]; omega) (by omega)
  simp only [Int.toNat_natCast, hz1] at hrun
  unfold Oper.wp
  simp [execOp, hop, hl, hc, hrun, Result.andThen]
  exact hK' _ _ (hK _ (own_made w n hn) ((Below.refl _ _).alloc (Nat.le_refl _) _) (by simp))
theorem run_cpyB {ty : TypeId} {g dLen dCap : Nat} {ad : Addr} {sLen sCap : Nat} (cs : List Value) (hn : cs.length = Nat.min sLen dLen * 4) (hsrc : ∀ j u, cs[j]? = some u → w.cell? (ad.add j) = some u)
    (hc : ∀ j, j < cs.length → (w.cell? ⟨g, 0 + j, none⟩).isSome = true ∧ w.frozen? ⟨g, 0 + j, none⟩ = false) (h1 : ∀ u ∈ cs, u.oneCell' = true) :
    (Builtin.copy_ #[46, 46] ty #[.slice (some ⟨g, 0, none⟩) dLen dCap, .slice (some ad) sLen sCap]).run Tryd.prog w = .ok (goInt (Nat.min sLen dLen)) (w.setCells g 0 cs) := by
  obtain ⟨i0, hi, hz0, hz1, hz2⟩ := info_parts infoB
  have hl := run_loadCells_list (P := Tryd.prog) w ad cs hsrc
  have hst := run_storeCells_cells (P := Tryd.prog) g 0 cs 0 w (fun j hj => (by simpa using (hc j hj).1)) (fun j hj => (by simpa using (hc j hj).2)) h1
  rw [hn] at hl
  simp only [Nat.add_zero] at hst
  simp [Builtin.copy_, run_underlying Tryd.underlying46, Builtin.lenOf, Builtin.firstCells, sizeOf, typeInfo, hi, hz1, hl, hst]
theorem cpyB_run {g g' n : Nat} {L M : List Bun} (hO : OwnB w (slB g n) g M) (hV : OwnB w (slB g' n) g' L) (hM : M.length = n) (hL : L.length = n) (ty : TypeId) :
    ∃ w', (Builtin.copy_ #[46, 46] ty #[slB g n, slB g' n]).run Tryd.prog w = .ok (.int .i64 (n : Int)) w' ∧ OwnB w' (slB g n) g L ∧ FrS (· = g) w w' := by
  obtain ⟨ao, cap, e, h1, h2, h3, h4⟩ := hO
  simp only [slB, Value.slice.injEq] at e
  obtain ⟨rfl, -, rfl⟩ := e
  rcases h4 with ⟨h4, -⟩ | ⟨o1, e1, h5, h6⟩
  · cases h4
  obtain rfl : o1 = 0 := by simp at e1; exact e1.symm
  obtain ⟨ao, cap, e, h1', h2', h3', h4'⟩ := hV
  simp only [slB, Value.slice.injEq] at e
  obtain ⟨rfl, -, rfl⟩ := e
  rcases h4' with ⟨h4', -⟩ | ⟨o2, e2, h5', h6'⟩
  · cases h4'
  obtain rfl : o2 = 0 := by simp at e2; exact e2.symm
  have hr := run_cpyB (w := w) (ty := ty) (g := g) (dLen := n) (dCap := n) (ad := ⟨g', 0, none⟩) (sLen := n) (sCap := n) (flatBn L) (by rw [flatBn_length, hL, show Nat.min n n = n from Nat.min_self n]) (fun j u hu => by
    have hj : j < L.length * 4 := by rw [← flatBn_length]; exact (List.getElem?_eq_some_iff.1 hu).1
    rw [Addr.add_lit, h5' j hj]; exact hu) (fun j hj => h6 j (by rw [flatBn_length, hL] at hj; exact hj)) (flatBn_one L)
  rw [show Nat.min n n = n from Nat.min_self n] at hr
  refine ⟨_, hr, ⟨_, n, by rw [hL], by omega, h2, Nat.lt_of_lt_of_le h3 (setCells_frS g _ _ w).size, .inr ⟨0, rfl, fun j hj => ?_, fun j hj => ?_⟩⟩, setCells_frS g _ _ w⟩
  · have := World.cell?_setCells_in g (flatBn L) 0 w (fun i hi => (h6 i (by rw [flatBn_length, hL] at hi; exact hi)).1) j (by rw [flatBn_length]; exact hj)
    rw [this, List.getElem?_eq_getElem]
  · exact ⟨World.isSome_setCells _ _ _ _ _ (h6 j hj).1, by rw [World.frozen?_setCells]; exact (h6 j hj).2⟩
end
structure MemIs (w : World) (p g : Nat) (N : Int) (L : List Bun) : Prop where
  ne : p ≠ g
  pl : p < w.heap.size
  inv : MInv N L
  c0 : w.cell? ⟨p, 0, none⟩ = some (slB g L.length)
  own : OwnB w (slB g L.length) g L
section
variable {w w' : World} {p g : Nat} {N : Int} {L : List Bun}
theorem MemIs.gl (h : MemIs w p g N L) : g < w.heap.size := h.own.lt
theorem MemIs.carry (h : MemIs w p g N L) (ep : w'.heap[p]? = w.heap[p]?) (eg : w'.heap[g]? = w.heap[g]?) : MemIs w' p g N L := ⟨h.ne, block_lt h.pl ep, h.inv, keep_cell ep h.c0, h.own.carry eg⟩
theorem MemIs.below (h : MemIs w p g N L) (hf : Below w.heap.size w w') : MemIs w' p g N L := h.carry (hf.block p h.pl) (hf.block g h.gl)
theorem MemIs.fr {F : Nat → Prop} (h : MemIs w p g N L) (hf : FrS F w w') (hp : ¬ F p) (hg : ¬ F g) : MemIs w' p g N L := h.carry (hf.block p h.pl hp) (hf.block g h.gl hg)
theorem MemIs.alloc (h : MemIs w p g N L) (o : Obj) : MemIs (w.alloc o) p g N L := h.carry (Below.heap_alloc _ _ _ h.pl) (Below.heap_alloc _ _ _ h.gl)
theorem MemIs.drew (h : MemIs w p g N L) : MemIs w.drew p g N L := h.carry rfl rfl
theorem MemIs.drewN (h : MemIs w p g N L) (n : Nat) : MemIs (w.drewN n) p g N L := h.carry rfl rfl
theorem MemIs.quiet (h : MemIs w p g N L) (hb : Below w.heap.size w w') : MemIs w' p g N L ∧ FrS (· = g) w w' := ⟨h.below hb, FrS.of_below hb⟩
theorem MemIs.mono {M : Int} (h : MemIs w p g N L) (hN : N ≤ M) : MemIs w p g M L := ⟨h.ne, h.pl, h.inv.mono hN, h.c0, h.own⟩
theorem MemIs.row (h : MemIs w p g N L) {j : Nat} (hj : j < L.length) {b : Bun} (hb : L[j] = b) : w.cell? ⟨g, j * 4, none⟩ = some (.int .i64 b.n) ∧ w.cell? ⟨g, j * 4 + 1, none⟩ = some (.bool b.o) ∧ w.cell? ⟨g, j * 4 + 2, none⟩ = some (.bool b.h) ∧ w.cell? ⟨g, j * 4 + 3, none⟩ = some (.int .i64 b.d) ∧ w.frozen? ⟨g, j * 4, none⟩ = false ∧ w.frozen? ⟨g, j * 4 + 1, none⟩ = false ∧ w.frozen? ⟨g, j * 4 + 2, none⟩ = false ∧ w.frozen? ⟨g, j * 4 + 3, none⟩ = false := by
  obtain ⟨-, -, -, k⟩ := view_atB h.own.view rfl
  obtain ⟨o, e, -, k0, k1, k2, k3⟩ := k j hj
  obtain ⟨o', e', f0, f1, f2, f3⟩ := own_atB h.own rfl j hj
  obtain rfl : o = 0 := by simp at e; exact e.symm
  obtain rfl : o' = 0 := by simp at e'; exact e'.symm
  rw [Nat.zero_add] at k0 k1 k2 k3 f0 f1 f2 f3
  subst hb
  exact ⟨k0, k1, k2, k3, f0, f1, f2, f3⟩
theorem MemIs.set {M : Int} (h : MemIs w p g N L) {j : Nat} (hj : j < L.length) (b : Bun) (hI : MInv M (L.set j b)) : MemIs (setR w g (j * 4) b) p g M (L.set j b) ∧ FrS (· = g) w (setR w g (j * 4) b) := by
  have := own_setB h.own rfl j hj b
  rw [Nat.zero_add] at this
  exact ⟨⟨h.ne, Nat.lt_of_lt_of_le h.pl this.2.size, hI, by rw [List.length_set]; exact keep_cell (this.2.block p h.pl h.ne) h.c0, by rw [List.length_set]; exact this.1⟩, this.2⟩
end
set_option maxHeartbeats 400000 in
theorem mHas_c (p g : Nat) (N x : Int) (L : List Bun) (w : World) (h : MemIs w p g N L) (q : Bool) (hq : Hid (hasM L x = q)) : Calls Tryd.prog 89 #[ptr p, .int .i64 x] w fun e w' => e = .returned (.bool q) ∧ w' = w := by
  have c0 := h.c0
  have hq' := hq.out
  unfold hasM at hq'
  clear h hq
  by_cases a : x < 0
  · obtain rfl : q = false := by rw [← hq']; simp; omega
    clear hq'
    go_enter Tryd.func89, Tryd.ntmps89
    go_wp2_with fail
    go_ret
    exact ⟨rfl, rfl⟩
  · by_cases b : x < (L.length : Int)
    · obtain rfl : q = true := by rw [← hq']; simp; omega
      clear hq'
      go_enter Tryd.func89, Tryd.ntmps89
      go_wp2_with fail
      go_ret
      exact ⟨rfl, rfl⟩
    · obtain rfl : q = false := by rw [← hq']; simp; omega
      clear hq'
      go_enter Tryd.func89, Tryd.ntmps89
      go_wp2_with fail
      go_ret
      exact ⟨rfl, rfl⟩
structure Bh where
  mm : Nat
  mg : Nat
  ap : Nat
  ag : Nat
abbrev hmC (c : Cf) (B : Bh) : Array Value := #[.int .i64 c.n, .int .i64 c.bl, .int .i64 c.tt, .int .i64 c.cs, .int .i64 c.cy, .int .i64 c.cc, .int .i64 c.cu, .int .i64 c.ct, .int .i64 c.cp, ptr B.mm, ptr B.ap]
structure HmIs (w : World) (p : Nat) (B : Bh) (Ft : Nat → Prop) (c : Cf) (N : Nat) (D : Hm) : Prop where
  ok : CfOk c 0
  ob : w.heap[p]? = some (.cells (hmC c B) 75 (0, 0))
  mem : MemIs w B.mm B.mg (((N + 1 : Nat) : Int) * 65536) D.M
  arb : ArIs w B.ap B.ag c.n.toNat N D.L Ft
  ml : D.M.length = c.bl.toNat
  al : D.L.length = c.bl.toNat
  kp : ∃ κ : Nat → Nat, κ p = 0 ∧ κ B.mm = 1 ∧ κ B.mg = 2 ∧ κ B.ap = 3 ∧ ∀ b, Ft b → κ b = 4
def Fh (p : Nat) (B : Bh) (Ft : Nat → Prop) : Nat → Prop := fun b => Ft b ∨ b = p ∨ b = B.mm ∨ b = B.mg ∨ b = B.ap
section
variable {w w' : World} {p : Nat} {B : Bh} {Ft : Nat → Prop} {c : Cf} {N : Nat} {D : Hm}
theorem HmIs.pl (h : HmIs w p B Ft c N D) : p < w.heap.size := (Array.getElem?_eq_some_iff.1 h.ob).1
theorem HmIs.lt (h : HmIs w p B Ft c N D) : ∀ b, Fh p B Ft b → b < w.heap.size := by
  rintro b (hb | rfl | rfl | rfl | rfl)
  · exact h.arb.lt b hb
  · exact h.pl
  · exact h.mem.pl
  · exact h.mem.gl
  · exact h.arb.pl
theorem HmIs.carry (h : HmIs w p B Ft c N D) (hb : ∀ b, Fh p B Ft b → b < w.heap.size → w'.heap[b]? = w.heap[b]?) : HmIs w' p B Ft c N D := by
  have k : ∀ b, Fh p B Ft b → w'.heap[b]? = w.heap[b]? := fun b f => hb b f (h.lt b f)
  exact ⟨h.ok, (k p (.inr (.inl rfl))).trans h.ob, h.mem.carry (k _ (.inr (.inr (.inl rfl)))) (k _ (.inr (.inr (.inr (.inl rfl))))),
    h.arb.carry (k _ (.inr (.inr (.inr (.inr rfl))))) (fun b f => k b (.inl f)), h.ml, h.al, h.kp⟩
theorem HmIs.below (h : HmIs w p B Ft c N D) (hf : Below w.heap.size w w') : HmIs w' p B Ft c N D := h.carry fun b _ hl => hf.block b hl
theorem HmIs.fr {F : Nat → Prop} (h : HmIs w p B Ft c N D) (hf : FrS F w w') (hd : ∀ b, Fh p B Ft b → ¬ F b) : HmIs w' p B Ft c N D := h.carry fun b hb hl => hf.block b hl (hd b hb)
theorem HmIs.alloc (h : HmIs w p B Ft c N D) (o : Obj) : HmIs (w.alloc o) p B Ft c N D := h.carry fun b _ hl => Below.heap_alloc _ _ _ hl
theorem HmIs.drewN (h : HmIs w p B Ft c N D) (n : Nat) : HmIs (w.drewN n) p B Ft c N D := h.carry fun _ _ _ => rfl
theorem HmIs.mono {M : Nat} (h : HmIs w p B Ft c N D) (hM : N ≤ M) : HmIs w p B Ft c M D := ⟨h.ok, h.ob, h.mem.mono (by omega), h.arb.mono hM, h.ml, h.al, h.kp⟩
theorem HmIs.setCell (h : HmIs w p B Ft c N D) (q : Addr) (u : Value) (hq : w.heap.size ≤ q.block ∨ ¬ Fh p B Ft q.block) : HmIs (w.setCell q u) p B Ft c N D :=
  h.carry fun b hb hl => Below.heap_setCell _ _ _ _ (by rintro rfl; rcases hq with hq | hq; omega; exact hq hb)
theorem HmIs.setM {M' : List Bun} {M : Nat} (h : HmIs w p B Ft c N D) (hm : MemIs w' B.mm B.mg (((M + 1 : Nat) : Int) * 65536) M') (hl : M'.length = D.M.length) (hf : FrS (· = B.mg) w w') (hM : N ≤ M) :
    HmIs w' p B Ft c M ⟨M', D.L⟩ ∧ Step (Fh p B Ft) (Fh p B Ft) w w' := by
  obtain ⟨κ, k0, k1, k2, k3, k4⟩ := h.kp
  have e : ∀ b, b < w.heap.size → κ b ≠ 2 → w'.heap[b]? = w.heap[b]? := fun b hl h2 => hf.block b hl (fun q => by rw [q] at h2; omega)
  refine ⟨⟨h.ok, (e p h.pl (by omega)).trans h.ob, hm, ?_, by rw [hl]; exact h.ml, h.al, h.kp⟩, ⟨hf.mono (fun i _ hi => by simp [Fh, hi]), fun _ h => .inl h⟩⟩
  exact (h.arb.mono hM).carry (e _ h.arb.pl (by omega)) (fun b f => e b (h.arb.lt b f) (by have := k4 b f; omega))
theorem HmIs.setL {L' : List Rq} {Ft' : Nat → Prop} {M : Nat} (h : HmIs w p B Ft c N D) (ha : ArIs w' B.ap B.ag c.n.toNat M L' Ft') (hl : L'.length = D.L.length) (hs : Step Ft Ft' w w') (hM : N ≤ M) :
    HmIs w' p B Ft' c M ⟨D.M, L'⟩ ∧ Step (Fh p B Ft) (Fh p B Ft') w w' := by
  obtain ⟨κ, k0, k1, k2, k3, k4⟩ := h.kp
  have nf : ∀ b, κ b < 4 → ¬ Ft b := fun b hk hf => by have := k4 b hf; omega
  have e : ∀ b, b < w.heap.size → κ b < 4 → w'.heap[b]? = w.heap[b]? := fun b hl hk => hs.fr.block b hl (nf b hk)
  have h2 := h.mono hM
  refine ⟨⟨h.ok, (e p h.pl (by omega)).trans h.ob, h2.mem.carry (e _ h.mem.pl (by omega)) (e _ h.mem.gl (by omega)), ha, h.ml, by rw [hl]; exact h.al, ⟨fun b => if b < w.heap.size then κ b else 4, ?_⟩⟩, ⟨hs.fr.mono (fun i _ hi => .inl hi), fun b hb => ?_⟩⟩
  · dsimp only
    rw [if_pos h.pl, if_pos h.mem.pl, if_pos h.mem.gl, if_pos h.arb.pl]
    refine ⟨k0, k1, k2, k3, fun b hb => ?_⟩
    split
    · rename_i hl
      rcases hs.new b hb with h3 | h3
      · exact k4 b h3
      · omega
    · rfl
  · rcases hb with hb | hb
    · rcases hs.new b hb with h3 | h3
      · exact .inl (.inl h3)
      · exact .inr h3
    · exact .inl (.inr hb)
end
structure HmAt (w : World) (p : Nat) (B : Bh) (c : Cf) : Prop where
  lt : p < w.heap.size
  c0 : w.cell? ⟨p, 0, none⟩ = some (.int .i64 c.n)
  c1 : w.cell? ⟨p, 1, none⟩ = some (.int .i64 c.bl)
  c2 : w.cell? ⟨p, 2, none⟩ = some (.int .i64 c.tt)
  c3 : w.cell? ⟨p, 3, none⟩ = some (.int .i64 c.cs)
  c4 : w.cell? ⟨p, 4, none⟩ = some (.int .i64 c.cy)
  c5 : w.cell? ⟨p, 5, none⟩ = some (.int .i64 c.cc)
  c6 : w.cell? ⟨p, 6, none⟩ = some (.int .i64 c.cu)
  c7 : w.cell? ⟨p, 7, none⟩ = some (.int .i64 c.ct)
  c8 : w.cell? ⟨p, 8, none⟩ = some (.int .i64 c.cp)
  c9 : w.cell? ⟨p, 9, none⟩ = some (ptr B.mm)
  c10 : w.cell? ⟨p, 10, none⟩ = some (ptr B.ap)
theorem HmIs.at' {w : World} {p : Nat} {B : Bh} {Ft : Nat → Prop} {c : Cf} {N : Nat} {D : Hm} (h : HmIs w p B Ft c N D) : HmAt w p B c :=
  ⟨h.pl, cell_of_row _ _ _ _ _ _ h.ob, cell_of_row _ _ _ _ _ _ h.ob, cell_of_row _ _ _ _ _ _ h.ob, cell_of_row _ _ _ _ _ _ h.ob, cell_of_row _ _ _ _ _ _ h.ob, cell_of_row _ _ _ _ _ _ h.ob, cell_of_row _ _ _ _ _ _ h.ob, cell_of_row _ _ _ _ _ _ h.ob, cell_of_row _ _ _ _ _ _ h.ob, cell_of_row _ _ _ _ _ _ h.ob, cell_of_row _ _ _ _ _ _ h.ob⟩
structure Ah (w V : World) (p : Nat) (B : Bh) (Ft F : Nat → Prop) (c : Cf) (N : Nat) (D : Hm) (K : List (Nat × Obj)) : Prop where
  n : HmIs V p B F c N D
  x : Bz w V (Fh p B F) K
  s : Step (Fh p B Ft) (Fh p B F) w V
section
variable {w V V' : World} {p : Nat} {B : Bh} {Ft F F' : Nat → Prop} {c : Cf} {N M : Nat} {D D' : Hm} {K : List (Nat × Obj)}
theorem Ah.below (h : Ah w V p B Ft F c N D K) (hb : Below V.heap.size V V') : Ah w V' p B Ft F c N D K := ⟨h.n.below hb, h.x.step (Step.of_below hb), h.s.trans (Step.of_below hb)⟩
theorem Ah.step (h : Ah w V p B Ft F c N D K) (hn : HmIs V' p B F' c M D') (hs : Step (Fh p B F) (Fh p B F') V V') : Ah w V' p B Ft F' c M D' K := ⟨hn, h.x.step hs, h.s.trans hs⟩
theorem Ah.new (h : Ah w V p B Ft F c N D K) (o : Obj) : Ah w (V.alloc o) p B Ft F c N D ((V.heap.size, o) :: K) := by
  have h2 := h.below (V' := V.alloc o) ((Below.refl _ _).alloc (Nat.le_refl _) _)
  refine ⟨h2.n, fun x hx => ?_, h2.s⟩
  rcases List.mem_cons.1 hx with rfl | hx
  · exact ⟨h.s.fr.size, by simp, fun e => by have := h.n.lt _ e; omega, heap_alloc_new _ _⟩
  · exact h2.x x hx
theorem Ah.fill (h : Ah w V p B Ft F c N D K) {k : Nat} {cs : Array Value} {T : TypeId} (hk : (k, Obj.cells cs T (0, 0)) ∈ K) (i : Nat) (u : Value) (K' : List (Nat × Obj)) (hK : ∀ x ∈ K', x.1 ≠ k → x ∈ K) (hK2 : ∀ x ∈ K', x.1 = k → x.2 = .cells (cs.setIfInBounds i u) T (0, 0)) : Ah w (V.setCell ⟨k, i, none⟩ u) p B Ft F c N D K' := by
  obtain ⟨h1, h2, h3, h4⟩ := h.x _ hk
  refine ⟨h.n.setCell _ _ (.inr h3), fun x hx => ?_, h.s.setNew h1 _ _⟩
  by_cases e : x.1 = k
  · rw [hK2 x hx e, e]
    exact ⟨h1, by simpa using h2, h3, heap_setCell_same _ _ _ _ _ _ h4⟩
  · obtain ⟨q1, q2, q3, q4⟩ := h.x x (hK x hx e)
    exact ⟨q1, by simpa using q2, q3, (Below.heap_setCell _ _ _ _ (by simpa using e)).trans q4⟩
theorem Ah.frk {k : Nat} (h : Ah w V p B Ft F c N D K) (hf : FrS (· = k) V V') (h0 : w.heap.size ≤ k) (hF : ¬ Fh p B F k) (hK : ∀ x ∈ K, x.1 ≠ k) : Ah w V' p B Ft F c N D K :=
  ⟨h.n.fr hf (fun b hb e => hF (e ▸ hb)), fun x hx => by
    obtain ⟨q1, q2, q3, q4⟩ := h.x x hx
    exact ⟨q1, Nat.lt_of_lt_of_le q2 hf.size, q3, (hf.block _ q2 (hK x hx)).trans q4⟩, ⟨h.s.fr.trans hf (fun i hi => .inr (hi ▸ h0)), h.s.new⟩⟩
theorem Ah.sub {K' : List (Nat × Obj)} (h : Ah w V p B Ft F c N D K) (hK : ∀ x ∈ K', x ∈ K) : Ah w V p B Ft F c N D K' := ⟨h.n, fun x hx => h.x x (hK x hx), h.s⟩
theorem Ah.head {k : Nat} {cs : Array Value} {T : TypeId} (h : Ah w V p B Ft F c N D ((k, .cells cs T (0, 0)) :: K)) (hk : ∀ x ∈ K, x.1 ≠ k) (i : Nat) (u : Value) : Ah w (V.setCell ⟨k, i, none⟩ u) p B Ft F c N D ((k, .cells (cs.setIfInBounds i u) T (0, 0)) :: K) :=
  h.fill (cs := cs) (T := T) (by simp) i u _ (fun x hx hn => by
    rcases List.mem_cons.1 hx with rfl | hx
    · exact absurd rfl hn
    · exact List.mem_cons_of_mem _ hx) (fun x hx hn => by
    rcases List.mem_cons.1 hx with rfl | hx
    · rfl
    · exact absurd hn (hk x hx))
theorem Ah.nf (h : Ah w V p B Ft F c N D K) {g : Nat} (hg : V.heap.size ≤ g) : ¬ Fh p B F g := fun e => by have := h.n.lt _ e; omega
theorem ah_start (h : HmIs w p B F c N D) : Ah w w p B F F c N D [] := ⟨h, fun x hx => (by cases hx), Step.refl _ _⟩
end
structure HutP (w : World) (p : Nat) (B : Bh) (Ft Ft' : Nat → Prop) (c : Cf) (N : Nat) (D : Hm) (L : List Lt) (v : Value) (w' : World) (g : Nat) : Prop where
  own : OwnT w' v g L
  new : w.heap.size ≤ g
  nd : HmIs w' p B Ft' c N D
  st : Step (Fh p B Ft) (Fh p B Ft') w w'
  nf : ¬ Fh p B Ft' g
theorem hut_fin {w V : World} {p : Nat} {B : Bh} {Ft F : Nat → Prop} {c : Cf} {N : Nat} {D : Hm} {K : List (Nat × Obj)} {L : List Lt} {v : Value} {g : Nat} (h : Ah w V p B Ft F c N D K) (ho : OwnT V v g L) (hg : w.heap.size ≤ g) (hn : ¬ Fh p B F g) : HutP w p B Ft F c N D L v V g := ⟨ho, hg, h.n, h.s, hn⟩
theorem flat_spr (c : Cf) (k q s w : Int) : flatLt (sprL c k q s w) = letsC k c.n q s w c.n.toNat := by
  unfold flatLt sprL letsC
  rw [List.flatMap_map]
  rfl
theorem own_of_rowT {w : World} {base n : Nat} {v : Value} {L : List Lt} (h : w.ownsRow base 34 11 v n (flatLt L)) (hn : 1 ≤ n) : ∃ g, OwnT w v g L ∧ base ≤ g := by
  obtain ⟨h1, h2⟩ := h
  rw [flatLt_length] at h1
  rcases h2 with ⟨rfl, rfl⟩ | ⟨g, cap, cur, rfl, h3, h4, h5, h6, h7, h8⟩
  · omega
  · have hL : L.length = n := by omega
    have hg := (Array.getElem?_eq_some_iff.1 h4).1
    have hc : ∀ j, j < L.length * 11 → w.cell? ⟨g, 0 + j, none⟩ = (flatLt L)[j]? := fun j hj => by
      rw [Nat.zero_add, cell_of_row _ _ _ _ _ _ h4]
      have h9 := congrArg (fun l => l[j]?) h8
      try dsimp only at h9
      rw [List.getElem?_take_of_lt (by omega)] at h9
      rw [← Array.getElem?_toList, h9]
    refine ⟨g, ⟨some ⟨g, 0, none⟩, cap, by rw [hL], by omega, h6, hg, .inr ⟨0, rfl, hc, fun j hj => ?_⟩⟩, h3⟩
    rw [Nat.zero_add, cell_of_row _ _ _ _ _ _ h4]
    exact ⟨by rw [Array.getElem?_eq_getElem (by omega)]; rfl, frozen_of_row _ _ _ _ _ h4⟩
set_option maxHeartbeats 1000000 in
theorem hmSpread_c (p : Nat) (B : Bh) (Ft : Nat → Prop) (c : Cf) (N : Nat) (D : Hm) (k q s wh : Int) (w : World) (h : HmIs w p B Ft c N D) (L : List Lt) (hL : Hid (sprL c k q s wh = L)) : Calls Tryd.prog 82 #[ptr p, .int .i64 k, .int .i64 q, .int .i64 s, .int .i64 wh] w fun e w' => ∃ v, e = .returned v ∧ ∃ g, OwnT w' v g L ∧ w.heap.size ≤ g ∧ Below w.heap.size w w' := by
  have c0 := h.at'.c0
  have hpl := h.pl
  have hn0 := h.ok.n0
  have hn1 := h.ok.n1
  obtain ⟨n, hn⟩ : ∃ n, Hid (c.n.toNat = n) := ⟨_, rfl⟩
  have hN : Hid ((min c.n 64).toNat = n) := hide (by have := hn.out; omega)
  have hpos : Hid (1 ≤ n) := hide (by have := hn.out; omega)
  have hf : Hid (letsC k c.n q s wh n = flatLt L) := hide (by rw [← hL.out, ← hn.out, flat_spr])
  clear hL h hn hn0 hn1
  go_enter Tryd.func82, Tryd.ntmps82
  go_wp2_with fail
  go_wp2_with fail
  refine wp_region_noPanic ?_
  refine wp_region_held_drew (S := (fun w' => w'.cell? ⟨p, 0, none⟩ = some (.int .i64 c.n))) (by kernel_rfl) ?_ (fun hHeld => ?_)
  · exact c0
  refine hTk 0 11 hHeld ?_
  refine hTk 1 12 hHeld ?_
  refine hTk 2 13 hHeld ?_
  refine hTk 3 14 hHeld ?_
  refine hTk 4 15 hHeld ?_
  refine hTk 5 16 hHeld ?_
  refine hTk 6 17 hHeld ?_
  refine hTk 7 18 hHeld ?_
  refine hTk 8 19 hHeld ?_
  refine hTk 9 20 hHeld ?_
  refine hTk 10 21 hHeld ?_
  refine hTk 11 22 hHeld ?_
  refine hTk 12 23 hHeld ?_
  refine hTk 13 24 hHeld ?_
  refine hNo 14 fun K hK => ?_
  go_simp
  go_at_call 97
  refine (spread_c k c.n q s wh c.n _ n hN).mono ?_
  rintro e w1 ⟨v, rfl, hv, hb1⟩
  rw [hf.out] at hv
  obtain ⟨g, hO, hg⟩ := own_of_rowT hv hpos.out
  have hO1 := hide hO
  have hB1 : Hid (Below w.heap.size w w1) := hide (((Below.refl _ _).drew).trans hb1)
  have c0' : w1.cell? ⟨p, 0, none⟩ = some (.int .i64 c.n) := keep_cell (hB1.out.block p hpl) c0
  clear hv hb1 hO
  refine hK.out _ _ ?_ fun hHeld => ?_
  · exact c0'
  clear hK K
  try simp only [Act.put, za, zb, zc]
  refine hTk 15 10 hHeld ?_
  refine wpAnyH_done (by kernel_rfl) (NoPanic.normal ?_) _
  clear hHeld
  go_wp2_with fail
  go_ret
  exact ⟨_, rfl, g, hO1.out, hg, hB1.out⟩
set_option maxHeartbeats 1000000 in
theorem hmSend_c (p : Nat) (B : Bh) (Ft : Nat → Prop) (c : Cf) (N : Nat) (D : Hm) (to b : Int) (x : Bun) (w : World) (h : HmIs w p B Ft c N D) (L : List Lt) (hL : Hid (sendL c.n to b x = L)) : Calls Tryd.prog 74 #[ptr p, .int .i64 to, .int .i64 b, .agg #[.int .i64 x.n, .bool x.o, .bool x.h, .int .i64 x.d]] w fun e w' => ∃ v, e = .returned v ∧ ∃ g, OwnT w' v g L ∧ w.heap.size ≤ g ∧ Below w.heap.size w w' := by
  have A := h.at'
  have c0 := A.c0
  have hpl := A.lt
  have hL' := hL.out
  unfold sendL at hL'
  clear hL A h
  by_cases e : x.n < 1
  · rw [if_pos e] at hL'
    subst hL'
    go_enter Tryd.func74, Tryd.ntmps74
    go_wp2_with fail
    go_ret
    exact ⟨_, rfl, w.heap.size, own_nilT (by simp), Nat.le_refl _, by all_goals exact belEnd⟩
  · rw [if_neg e] at hL'
    subst hL'
    go_enter Tryd.func74, Tryd.ntmps74
    go_wp2_with fail
    refine name_world ?_
    intro W hW
    have hB : Hid (Below w.heap.size w W) := by rw [← hW]; exact hide (by all_goals exact belEnd)
    have c0' : W.cell? ⟨p, 0, none⟩ = some (.int .i64 c.n) := keep_cell (hB.out.block p hpl) c0
    have b0 : W.cell? ⟨w.heap.size, 0, none⟩ = some (.int .i64 x.n) := by rw [← hW]; simp [go_sem]
    have b1 : W.cell? ⟨w.heap.size, 1, none⟩ = some (.bool x.o) := by rw [← hW]; simp [go_sem]
    have b2 : W.cell? ⟨w.heap.size, 2, none⟩ = some (.bool x.h) := by rw [← hW]; simp [go_sem]
    have b3 : W.cell? ⟨w.heap.size, 3, none⟩ = some (.int .i64 x.d) := by rw [← hW]; simp [go_sem]
    have hs : w.heap.size < W.heap.size := by rw [← hW]; simp
    clear hW c0
    go_wp2_with fail
    refine wp_region_noPanic ?_
    refine wp_region_held_drew (S := (fun w' => w'.cell? ⟨p, 0, none⟩ = some (.int .i64 c.n) ∧ w'.cell? ⟨w.heap.size, 0, none⟩ = some (.int .i64 x.n) ∧ w'.cell? ⟨w.heap.size, 1, none⟩ = some (.bool x.o) ∧ w'.cell? ⟨w.heap.size, 2, none⟩ = some (.bool x.h) ∧ w'.cell? ⟨w.heap.size, 3, none⟩ = some (.int .i64 x.d))) (by kernel_rfl) ?_ (fun hHeld => ?_)
    · exact ⟨c0', b0, b1, b2, b3⟩
    refine hTk 0 12 hHeld ?_
    refine hTk 1 13 hHeld ?_
    refine hTk 2 14 hHeld ?_
    refine hTk 3 15 hHeld ?_
    refine hTk 4 16 hHeld ?_
    refine hTk 5 17 hHeld ?_
    refine hTk 6 18 hHeld ?_
    refine hTk 7 19 hHeld ?_
    refine hNo 8 fun K hK => ?_
    go_simp
    go_at_call 88
    refine (tokens_c c.n to b x.n x.o x.h x.d _).mono ?_
    rintro e w1 ⟨rfl, hb1⟩
    have hB1 : Below w.heap.size w w1 := (hB.out.drew).trans (hb1.mono hB.out.size)
    replace hB1 := hide hB1
    have hpl1 := Nat.lt_of_lt_of_le hpl hB1.out.size
    have hs1 : w.heap.size < w1.heap.size := Nat.lt_of_lt_of_le hs hb1.size
    replace c0' : w1.cell? ⟨p, 0, none⟩ = some (.int .i64 c.n) := keep_cell (hb1.block p (Nat.lt_of_lt_of_le hpl hB.out.size)) c0'
    replace b0 : w1.cell? ⟨w.heap.size, 0, none⟩ = some (.int .i64 x.n) := keep_cell (hb1.block _ hs) b0
    replace b1 : w1.cell? ⟨w.heap.size, 1, none⟩ = some (.bool x.o) := keep_cell (hb1.block _ hs) b1
    replace b2 : w1.cell? ⟨w.heap.size, 2, none⟩ = some (.bool x.h) := keep_cell (hb1.block _ hs) b2
    replace b3 : w1.cell? ⟨w.heap.size, 3, none⟩ = some (.int .i64 x.d) := keep_cell (hb1.block _ hs) b3
    clear hb1
    refine hK.out _ _ ?_ fun hHeld => ?_
    · exact ⟨c0', b0, b1, b2, b3⟩
    clear hK K
    try simp only [Act.put, za, zb, zc]
    refine hNo 9 fun K hK => ?_
    go_simp
    refine hK.out _ _ ?_ fun hHeld => ?_
    · exact ⟨by simp [go_sem, *], by simp [go_sem, *], by simp [go_sem, *], by simp [go_sem, *], by simp [go_sem, *]⟩
    clear hK K
    try simp only [Act.put, za, zb, zc]
    refine hTk 10 8 hHeld ?_
    refine wpAnyH_done (by kernel_rfl) (NoPanic.normal ?_) _
    clear hHeld
    go_wp2_with fail
    go_ret
    exact ⟨_, rfl, w1.heap.size, own_oneT w1 _, hB1.out.size, hB1.out.alloc hB1.out.size _⟩
theorem OwnB.cast {w : World} {g n : Nat} {L : List Bun} (h : OwnB w (slB g L.length) g L) (e : L.length = n) : OwnB w (slB g n) g L := e ▸ h
set_option maxHeartbeats 1000000 in
theorem mAll_c (p g : Nat) (N : Int) (L : List Bun) (w : World) (h : MemIs w p g N L) (n : Nat) (hn : Hid (L.length = n)) : Calls Tryd.prog 42 #[ptr p] w fun e w' => e = .returned (slB w.heap.size n) ∧ OwnB w' (slB w.heap.size n) w.heap.size L ∧ Below w.heap.size w w' := by
  have c0 := h.c0
  have hpl := h.pl
  have hlen := h.inv.len
  have hgl := h.gl
  rw [hn.out] at c0 hlen
  replace h := hide h
  go_enter Tryd.func42, Tryd.ntmps42
  go_wp2_with (at_make; refine wpList_makeB rfl _ _ rfl n rfl rfl hlen ?_; intro w1 hO1 hB1 hs1; have c1 := keep_cell (hB1.block p hpl) c0; obtain ⟨w2, hcp, hO2, hf2⟩ := cpyB_run hO1 (((unhide h).below hB1).own.cast hn.out) (by simp) hn.out 3; replace hO2 := hide hO2; replace hf2 := hide hf2; replace hB1 := hide hB1; clear c0 hO1)
  go_ret
  exact ⟨rfl, unhide hO2, (unhide hB1).trans ((unhide hf2).below (fun i hi => by omega) (by omega))⟩
theorem mem_new {w : World} {g : Nat} {N : Int} {L : List Bun} {n : Nat} (hO : OwnB w (slB g n) g L) (hn : L.length = n) (hI : MInv N L) : MemIs (w.alloc (.cells #[slB g n] 123)) w.heap.size g N L := by
  subst hn
  exact ⟨by have := hO.lt; omega, by simp, hI, by simp [go_sem], hO.alloc _⟩
set_option maxHeartbeats 1000000 in
theorem mCopy_c (p g : Nat) (N : Int) (L : List Bun) (w : World) (h : MemIs w p g N L) : Calls Tryd.prog 44 #[ptr p] w fun e w' => ∃ p' g', e = .returned (ptr p') ∧ MemIs w' p' g' N L ∧ w.heap.size ≤ p' ∧ w.heap.size ≤ g' ∧ Below w.heap.size w w' := by
  obtain ⟨n, hn⟩ : ∃ n, Hid (L.length = n) := ⟨_, rfl⟩
  have hI := hide h.inv
  replace h := hide h
  go_enter Tryd.func44, Tryd.ntmps44
  go_wp2_with fail
  go_at_call 42
  refine (mAll_c p g N L w (unhide h) n hn).mono ?_
  rintro e w1 ⟨rfl, hO, hB⟩
  have hs := hB.size
  replace hO := hide hO
  replace hB := hide hB
  go_wp2_with fail
  go_ret
  exact ⟨w1.heap.size, w.heap.size, rfl, mem_new (unhide hO) hn.out (unhide hI), hs, Nat.le_refl _, (unhide hB).alloc hs _⟩
theorem rep_set (f z : Bun) : ∀ j k : Nat, (List.replicate j f ++ List.replicate (k + 1) z).set j f = List.replicate (j + 1) f ++ List.replicate k z
  | 0, k => by simp [List.replicate_succ]
  | j + 1, k => by
    have := rep_set f z j k
    simp only [List.replicate_succ, List.cons_append, List.set_cons_succ] at this ⊢
    rw [this]
set_option maxHeartbeats 1000000 in
theorem mNew_c (s t N : Int) (w : World) (ht : t ≤ N) (hN : 0 ≤ N) : Calls Tryd.prog 49 #[.int .i64 s, .int .i64 t] w fun e w' => ∃ p g, e = .returned (ptr p) ∧ MemIs w' p g N (newM s t) ∧ w.heap.size ≤ p ∧ w.heap.size ≤ g ∧ Below w.heap.size w w' := by
  have hI := hide (MInv.new s t N ht hN)
  obtain ⟨n, hn⟩ : ∃ n : Nat, clampZ s 0 64 = n := ⟨(clampZ s 0 64).toNat, by have := clampZ_in s 0 64 (by decide); omega⟩
  have hn64 : n ≤ 64 := by have := clampZ_in s 0 64 (by decide); omega
  have hL : Hid (newM s t = List.replicate n (fullB t 0)) := by unfold newM Hid; rw [hn]; simp
  obtain ⟨m, hm⟩ : ∃ m, (if s < 0 then 0 else s) = m := ⟨_, rfl⟩
  have hm2 : (if 64 < m then 64 else m) = (n : Int) := by unfold clampZ at hn; (repeat' split at hn) <;> (repeat' split) <;> (repeat' split at hm) <;> omega
  clear hn
  obtain ⟨f, hf⟩ : ∃ f, Hid (fullB t 0 = f) := ⟨_, rfl⟩
  rw [hf.out] at hL
  go_enter Tryd.func49, Tryd.ntmps49
  go_wp2_with (at_make; refine wpList_makeB rfl _ _ rfl n rfl rfl hn64 ?_; intro w1 hO1 hB1 hs1; replace hO1 := hide hO1; replace hB1 := hide hB1; replace hs1 := hide hs1)
  have hg : w.heap.size < w1.heap.size := by have := unhide hs1; omega
  have hM1 := mem_new (N := N) (unhide hO1) (by simp) ⟨by simpa using hn64, fun b hb => by obtain rfl := List.eq_of_mem_replicate hb; exact ⟨okB_zero, hN⟩⟩
  have hB2 := (unhide hB1).alloc (unhide hB1).size (.cells #[slB w.heap.size n] 123)
  have hfI : Hid (okB f ∧ f.n ≤ N) := by have := fullB_ok t; rw [hf.out] at this; unfold Hid; exact ⟨this.1, by omega⟩
  replace hM1 := hide hM1
  replace hB2 := hide hB2
  clear hm hm2 hO1 hB1
  go_loopw [18] (fun i wr => ∃ j : Nat, j ≤ n ∧ i = .int .i64 j ∧ MemIs wr w1.heap.size w.heap.size N (List.replicate j f ++ List.replicate (n - j) bun0) ∧ Below w.heap.size w wr) (fun i _ => n - (intOf i).toNat)
  case atStart => exact ⟨0, Nat.zero_le _, rfl, by simpa using unhide hM1, unhide hB2⟩
  case round =>
    obtain ⟨j, hj, rfl, hm, hb⟩ := hrel
    clear hM1 hB2
    have hl : (List.replicate j f ++ List.replicate (n - j) bun0).length = n := by simp; omega
    have c0 := hm.c0
    rw [hl] at c0
    by_cases hlt : j < n
    · have hset : (List.replicate j f ++ List.replicate (n - j) bun0).set j f = List.replicate (j + 1) f ++ List.replicate (n - (j + 1)) bun0 := by
        obtain ⟨k, rfl⟩ : ∃ k, n = j + 1 + k := ⟨n - (j + 1), by omega⟩
        rw [show j + 1 + k - j = k + 1 by omega, show j + 1 + k - (j + 1) = k by omega]
        exact rep_set f bun0 j k
      have hlt' : (j : Int) < n := by omega
      have hj2 : j < (List.replicate j f ++ List.replicate (n - j) bun0).length := by omega
      have hI2 := hm.inv.set j (unhide hfI)
      have hpl := hm.pl
      have hgl := hm.gl
      generalize (List.replicate j f ++ List.replicate (n - j) bun0) = M at hm hl hset hj2 hI2
      rw [hset] at hI2
      replace hset := hide hset
      replace hm := hide hm
      replace hb := hide hb
      replace hI2 := hide hI2
      replace hl := hide hl
      go_wp2_with fail
      refine wp_region_noPanic ?_
      refine last_begin 8 (fun w' => w'.cell? ⟨w1.heap.size, 0, none⟩ = some (slB w.heap.size n)) (by kernel_rfl) ?_ fun hHeld => ?_
      · exact c0
      refine lTk 0 21 hHeld ?_
      refine lTk 1 22 hHeld ?_
      refine lTk 2 23 hHeld ?_
      refine lTk 3 24 hHeld ?_
      refine lTk 4 25 hHeld ?_
      refine lTk 5 26 hHeld ?_
      refine lNo 6 fun K hK => ?_
      go_simp; go_at_call 72; refine (full_any t 0 _ f hf).mono ?_; rintro e w2 ⟨rfl, hb2⟩; have hB3 := ((Below.refl wr.heap.size wr).drew).trans hb2; clear hb2
      refine hK.out _ _ (fun _ => ?_) fun hHeld0 => ?_
      · exact keep_cell (hB3.block _ hpl) c0
      clear hK K
      replace hHeld := hHeld0 (by decide)
      clear hHeld0
      try simp only [Act.put, za, zb, zc]
      have hm3 := (unhide hm).below hB3
      have hb3 := hide ((unhide hb).trans (hB3.mono (unhide hb).size))
      obtain ⟨x, hx⟩ : ∃ x, M[j] = x := ⟨_, rfl⟩
      obtain ⟨k0, k1, k2, k3, f0, f1, f2, f3⟩ := hm3.row hj2 hx
      have hfin := hm3.set hj2 f (by rw [unhide hset]; exact unhide hI2)
      obtain ⟨w3, hw3⟩ : ∃ w3, setR w2 w.heap.size (j * 4) f = w3 := ⟨_, rfl⟩
      rw [hw3, unhide hset] at hfin
      replace hfin := hide hfin
      dsimp only [setR] at hw3
      clear hx hm3 hB3
      refine lTk 7 28 hHeld ?_
      refine lNo 8 fun K hK => ?_
      go_simp
      refine hK.out _ _ (fun h => absurd rfl h) fun _ => ?_
      clear hK K
      try simp only [Act.put, za, zb, zc]
      refine last_done (by kernel_rfl) (NoPanic.normal ?_) _
      clear hHeld
      clear hw3 k0 k1 k2 k3 f0 f1 f2 f3
      go_wp2_with fail
      go_roundw
      case rel => exact ⟨j + 1, by omega, by simp, (unhide hfin).1, (unhide hb3).trans ((unhide hfin).2.below (fun i hi => by omega) (unhide hb3).size)⟩
      case measure => simp [intOf]; omega
    · obtain rfl : j = n := by omega
      rw [Nat.sub_self, List.replicate_zero, List.append_nil, ← hL.out] at hm
      replace hm := hide hm
      replace hb := hide hb
      go_wp2_with fail
      go_ret
      exact ⟨_, _, rfl, unhide hm, by omega, Nat.le_refl _, unhide hb⟩
set_option maxHeartbeats 1000000 in
theorem hmAll_c (p : Nat) (B : Bh) (Ft : Nat → Prop) (c : Cf) (N : Nat) (D : Hm) (w : World) (h : HmIs w p B Ft c N D) (n : Nat) (hn : Hid (D.M.length = n)) : Calls Tryd.prog 18 #[ptr p] w fun e w' => e = .returned (slB w.heap.size n) ∧ OwnB w' (slB w.heap.size n) w.heap.size D.M ∧ Below w.heap.size w w' := by
  have c9 := h.at'.c9
  have hpl := h.pl
  have hH := hide h
  clear h
  go_enter Tryd.func18, Tryd.ntmps18
  go_wp2_with (go_at_call 42; refine (mAll_c B.mm B.mg _ D.M _ hH.out.mem n hn).mono ?_; rintro e w1 ⟨rfl, hO, hb⟩; replace hO := hide hO; replace hb := hide hb)
  go_ret
  exact ⟨rfl, hO.out, hb.out⟩
set_option maxHeartbeats 1000000 in
theorem hmWait_c (p : Nat) (B : Bh) (Ft : Nat → Prop) (c : Cf) (N : Nat) (D : Hm) (x : Int) (w : World) (h : HmIs w p B Ft c N D) (hM : N ≤ 100000) : Calls Tryd.prog 20 #[ptr p, .int .i64 x] w fun e w' => ∃ v, e = .returned v ∧ ∃ ob, WtIs w' v ob (wtsQ D.L x) ∧ (∀ b, ob = some b → w.heap.size ≤ b) ∧ Below w.heap.size w w' := by
  have c10 := h.at'.c10
  have hpl := h.pl
  have hH := hide h
  clear h
  go_enter Tryd.func20, Tryd.ntmps20
  go_wp2_with (go_at_call 43; refine (aWait_c B.ap B.ag _ N D.L Ft x _ hH.out.arb hM).mono ?_; rintro e w1 ⟨v, rfl, ob, hW, hob, hb⟩; replace hW := hide (And.intro hW (And.intro hob hb)); clear hob hb)
  go_ret
  exact ⟨_, rfl, ob, hW.out⟩
set_option maxHeartbeats 1000000 in
theorem hmCur_c (p : Nat) (B : Bh) (Ft : Nat → Prop) (c : Cf) (N : Nat) (D : Hm) (x : Int) (w : World) (h : HmIs w p B Ft c N D) (a : At) (ha : Hid (atCur D.L x = a)) (ok : Bool) (hok : Hid (okCur D.L x = ok)) : Calls Tryd.prog 15 #[ptr p, .int .i64 x] w fun e w' => e = .returned (.tuple #[.agg #[.int .i64 a.b, .int .i64 a.n, .int .i64 a.s], .bool ok]) ∧ Below w.heap.size w w' := by
  have c10 := h.at'.c10
  have hpl := h.pl
  have hH := hide h
  clear h
  go_enter Tryd.func15, Tryd.ntmps15
  go_wp2_with (go_at_call 39; refine (aCur_c B.ap B.ag _ N D.L Ft x _ (hH.out.alloc _).arb a ha ok hok).mono ?_; rintro e w1 ⟨rfl, hb⟩; obtain ⟨x1, rfl⟩ := over hb; clear hb; have f1 := x1.upB (w.heap.size))
  refine bodyPost_ret (by simp [results, Tryd.results15, go_sem, *]; done) rfl ⟨rfl, ?_⟩
  all_goals exact belEnd
set_option maxHeartbeats 400000 in
theorem mGet_c (p g : Nat) (N x : Int) (L : List Bun) (w : World) (h : MemIs w p g N L) (r : Bun) (hr : Hid (getM L x = r)) : Calls Tryd.prog 77 #[ptr p, .int .i64 x] w fun e w' => e = .returned (bunV r) ∧ Below w.heap.size w w' := by
  obtain ⟨q, hq⟩ : ∃ q, Hid (hasM L x = q) := ⟨_, rfl⟩
  have c0 := h.c0
  have hpl := h.pl
  have hgl := h.gl
  cases q
  · obtain rfl : bun0 = r := by rw [← hr.out]; exact (getM_out hq.out).symm
    replace h := hide h
    go_enter Tryd.func77, Tryd.ntmps77
    go_wp2_with fail
    go_at_call 89
    refine (mHas_c p g N x L _ ((unhide h).alloc _) false hq).mono ?_
    rintro e w1 ⟨rfl, hw1⟩
    rw [hw1]
    clear hw1 w1
    go_wp2_with fail
    go_returns
    exact ⟨rfl, by all_goals exact belEnd⟩
  · obtain ⟨j, rfl, hj⟩ := hasM_at hq.out
    obtain rfl : L[j] = r := by rw [← hr.out]; exact (getM_nat hj).symm
    obtain ⟨b, hb⟩ : ∃ b, L[j] = b := ⟨_, rfl⟩
    obtain ⟨k0, k1, k2, k3, -, -, -, -⟩ := h.row hj hb
    rw [hb]
    clear hb hr
    have hj' : (j : Int) < L.length := by omega
    replace h := hide h
    go_enter Tryd.func77, Tryd.ntmps77
    go_wp2_with fail
    go_at_call 89
    refine (mHas_c p g N j L _ ((unhide h).alloc _) true hq).mono ?_
    rintro e w1 ⟨rfl, hw1⟩
    rw [hw1]
    clear hw1 w1
    go_wp2_with fail
    go_returns
    exact ⟨rfl, by all_goals exact belEnd⟩
set_option maxHeartbeats 1000000 in
theorem mPut_c (p g : Nat) (N M x : Int) (b : Bun) (L : List Bun) (w : World) (h : MemIs w p g N L) (hb : okB b) (hM : b.n ≤ M) (hN : N + M ≤ 4611686018427387904) (q : Bool) (hq : Hid (hasM L x = q)) (L' : List Bun) (hL : Hid (putM L x b = L')) : Calls Tryd.prog 75 #[ptr p, .int .i64 x, bunV b] w fun e w' => e = .returned (.bool q) ∧ MemIs w' p g (N + M) L' ∧ FrS (· = g) w w' := by
  have c0 := h.c0
  have hpl := h.pl
  have hgl := h.gl
  have hI : MInv (N + M) L' := by rw [← hL.out]; exact h.inv.put x hb hM
  cases q
  · obtain rfl : L = L' := by rw [← hL.out]; exact (putM_out hq.out b).symm
    have hm : N ≤ N + M := by have := hb.1; omega
    replace h := hide h
    go_enter Tryd.func75, Tryd.ntmps75
    go_wp2_with fail
    go_at_call 89
    refine (mHas_c p g N x L _ ((unhide h).alloc _) false hq).mono ?_
    rintro e w1 ⟨rfl, hw1⟩
    rw [hw1]
    clear hw1 w1
    go_wp2_with fail
    go_ret
    exact ⟨rfl, ((unhide h).alloc _).mono hm, (FrS.refl _ _).alloc _⟩
  · obtain ⟨j, rfl, hj⟩ := hasM_at hq.out
    obtain ⟨c, hc⟩ : ∃ c, L[j] = c := ⟨_, rfl⟩
    obtain ⟨k0, k1, k2, k3, f0, f1, f2, f3⟩ := h.row hj hc
    have hcI := h.inv.at' hj
    obtain rfl : L.set j (joinB c b) = L' := by rw [← hL.out, ← hc]; exact (putM_nat hj b).symm
    rw [hc] at hcI
    have hs1 : -9223372036854775808 ≤ c.n + b.n := by have := hcI.1.1; have := hb.1; omega
    have hs2 : c.n + b.n ≤ 9223372036854775807 := by have := hcI.2; omega
    replace hcI := hide hcI
    replace hb := hide hb
    replace hI := hide hI
    obtain ⟨r, hr⟩ : ∃ r, Hid (joinB c b = r) := ⟨_, rfl⟩
    rw [hr.out] at hI hL ⊢
    replace hc := hide hc
    have hj' : (j : Int) < L.length := by omega
    replace h := hide h
    go_enter Tryd.func75, Tryd.ntmps75
    go_wp2_with fail
    go_at_call 89
    refine (mHas_c p g N j L _ ((unhide h).alloc _) true hq).mono ?_
    rintro e w1 ⟨rfl, hw1⟩
    rw [hw1]
    clear hw1 w1
    have y0 := bun_newV w b 32
    have hm0 := (unhide h).alloc (.cells #[.int .i64 b.n, .bool b.o, .bool b.h, .int .i64 b.d] 32)
    have hB0 : Below w.heap.size w (w.alloc (.cells #[.int .i64 b.n, .bool b.o, .bool b.h, .int .i64 b.d] 32)) := (Below.refl _ _).alloc (Nat.le_refl _) _
    obtain ⟨w0, hw0⟩ : ∃ w0, (w.alloc (.cells #[.int .i64 b.n, .bool b.o, .bool b.h, .int .i64 b.d] 32)) = w0 := ⟨_, rfl⟩
    rw [hw0] at y0 hm0 hB0 ⊢
    clear hw0 c0 k0 k1 k2 k3 f0 f1 f2 f3
    obtain ⟨k0, k1, k2, k3, -, -, -, -⟩ := hm0.row hj hc.out
    have c0 := hm0.c0
    replace hm0 := hide hm0
    replace hB0 := hide hB0
    obtain ⟨y4, y0, y1, y2, y3, -, -, -, -⟩ := y0
    go_wp2_with fail
    refine wp_region_noPanic ?_
    refine last_begin 15 (fun w' => w'.cell? ⟨p, 0, none⟩ = some (slB g L.length) ∧ w'.cell? ⟨g, j * 4, none⟩ = some (.int .i64 c.n) ∧ w'.cell? ⟨g, j * 4 + 1, none⟩ = some (.bool c.o) ∧ w'.cell? ⟨g, j * 4 + 2, none⟩ = some (.bool c.h) ∧ w'.cell? ⟨g, j * 4 + 3, none⟩ = some (.int .i64 c.d) ∧ w'.cell? ⟨w.heap.size, 0, none⟩ = some (.int .i64 b.n) ∧ w'.cell? ⟨w.heap.size, 1, none⟩ = some (.bool b.o) ∧ w'.cell? ⟨w.heap.size, 2, none⟩ = some (.bool b.h) ∧ w'.cell? ⟨w.heap.size, 3, none⟩ = some (.int .i64 b.d)) (by kernel_rfl) ?_ fun hHeld => ?_
    · exact ⟨c0, k0, k1, k2, k3, y0, y1, y2, y3⟩
    refine lTk 0 11 hHeld ?_
    refine lTk 1 12 hHeld ?_
    refine lTk 2 13 hHeld ?_
    refine lTk 3 14 hHeld ?_
    refine lTk 4 15 hHeld ?_
    refine lTk 5 16 hHeld ?_
    refine lTk 6 17 hHeld ?_
    refine lTk 7 18 hHeld ?_
    refine lTk 8 19 hHeld ?_
    refine lTk 9 20 hHeld ?_
    refine lTk 10 21 hHeld ?_
    refine lTk 11 22 hHeld ?_
    refine lTk 12 23 hHeld ?_
    refine lNo 13 fun K hK => ?_
    go_simp; go_at_call 90; refine (join_c c.n c.o c.h c.d b.n b.o b.h b.d _ hs1 hs2 r hr).mono ?_; rintro e w2 ⟨rfl, hb2⟩; have hB2 := ((Below.refl w0.heap.size w0).drew).trans hb2; clear hb2
    refine hK.out _ _ (fun _ => ?_) fun hHeld0 => ?_
    · exact ⟨keep_cell (hB2.block p (unhide hm0).pl) c0, keep_cell (hB2.block g (unhide hm0).gl) k0, keep_cell (hB2.block g (unhide hm0).gl) k1, keep_cell (hB2.block g (unhide hm0).gl) k2, keep_cell (hB2.block g (unhide hm0).gl) k3, keep_cell (hB2.block _ y4) y0, keep_cell (hB2.block _ y4) y1, keep_cell (hB2.block _ y4) y2, keep_cell (hB2.block _ y4) y3⟩
    clear hK K
    replace hHeld := hHeld0 (by decide)
    clear hHeld0
    try simp only [Act.put, za, zb, zc]
    have hm2 := (unhide hm0).below hB2
    have hf2 : FrS (· = g) w w2 := FrS.of_below ((unhide hB0).trans (hB2.mono (unhide hB0).size))
    clear k0 k1 k2 k3
    obtain ⟨k0, k1, k2, k3, f0, f1, f2, f3⟩ := hm2.row hj hc.out
    have hfin := hide (hm2.set hj r (unhide hI))
    replace hm2 := hide hm2
    replace hf2 := hide hf2
    clear y0 y1 y2 y3 c0 hB2
    refine lTk 14 25 hHeld ?_
    obtain ⟨w3, hw3⟩ : ∃ w3, setR w2 g (j * 4) r = w3 := ⟨_, rfl⟩
    rw [hw3] at hfin
    dsimp only [setR] at hw3
    refine lNo 15 fun K hK => ?_
    go_simp
    refine hK.out _ _ (fun h => absurd rfl h) fun _ => ?_
    clear hK K
    try simp only [Act.put, za, zb, zc]
    refine last_done (by kernel_rfl) (NoPanic.normal ?_) _
    clear hHeld
    go_wp2_with fail
    go_ret
    exact ⟨rfl, (unhide hfin).1, (unhide hf2).trans (unhide hfin).2 (fun i hi => .inl hi)⟩
end Go.Proofs.YtmgjgeaigdiadaaDoor
