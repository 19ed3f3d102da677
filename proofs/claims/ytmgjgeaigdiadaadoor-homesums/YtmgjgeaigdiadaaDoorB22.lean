/- layer 16: MemD RhBase RmA RmB RmC, put together. -/
import Derived.Test.YtmgjgeaigdiadaaDoorB18
import Derived.Test.YtmgjgeaigdiadaaDoorB20
import Derived.Test.YtmgjgeaigdiadaaDoorB09
import Derived.Test.YtmgjgeaigdiadaaDoorB16
import Derived.Test.YtmgjgeaigdiadaaDoorB03
import Derived.Test.YtmgjgeaigdiadaaDoorB13
import Derived.Test.YtmgjgeaigdiadaaDoorB21
namespace Go.Proofs.YtmgjgeaigdiadaaDoor
open Go.ChangeShapes Go.WideShapes Go.ChangeAt Go.RowKit
set_option linter.unusedSimpArgs false
set_option linter.unusedVariables false
set_option maxRecDepth 10000
attribute [local go_sem, local simp] over_const setCell_drewN alloc_drewN Over.cell Over.frozen lt_s1 lt_s2 lt_s3 le_s0 le_s1 le_s2 le_s3 eq_s0 eq_s1 eq_s2 qe_s0
set_option maxHeartbeats 1000000 in
theorem mTake_c (p g : Nat) (N x c : Int) (o d : Bool) (L : List Bun) (w : World) (h : MemIs w p g N L) (hN : N ≤ 4611686018427387904) (r : Bun) (hr : Hid (givenB (getM L x) c o d = r)) (L' : List Bun) (hL : Hid (takM L x c o = L')) : Calls Tryd.prog 78 #[ptr p, .int .i64 x, .int .i64 c, .bool o, .bool d] w fun e w' => e = .returned (bunV r) ∧ MemIs w' p g N L' ∧ FrS (· = g) w w' := by
  obtain ⟨q, hq⟩ : ∃ q, Hid (hasM L x = q) := ⟨_, rfl⟩
  have c0 := h.c0
  have hpl := h.pl
  have hgl := h.gl
  have hI : MInv N L' := by rw [← hL.out]; exact h.inv.tak x c o
  cases q
  · obtain rfl : L = L' := by rw [← hL.out]; exact (takM_out hq.out c o).symm
    obtain rfl : bun0 = r := by rw [← hr.out, getM_out hq.out, given_zero]
    replace h := hide h
    go_enter Tryd.func78, Tryd.ntmps78
    go_wp2_with fail
    go_at_call 89
    refine (mHas_c p g N x L _ ((unhide h).alloc _) false hq).mono ?_
    rintro e w1 ⟨rfl, hw1⟩
    rw [hw1]
    clear hw1 w1
    go_wp2_with fail
    go_returns
    exact ⟨rfl, (unhide h).quiet (by all_goals exact belEnd)⟩
  · obtain ⟨j, rfl, hj⟩ := hasM_at hq.out
    obtain ⟨b, hb⟩ : ∃ b, L[j] = b := ⟨_, rfl⟩
    obtain ⟨k0, k1, k2, k3, f0, f1, f2, f3⟩ := h.row hj hb
    have hbI := h.inv.at' hj
    obtain ⟨s, hs⟩ : ∃ s, Hid (restB b c o = s) := ⟨_, rfl⟩
    obtain rfl : L.set j s = L' := by rw [← hL.out, ← hs.out, ← hb]; exact (takM_nat hj c o).symm
    rw [getM_nat hj, hb] at hr
    rw [hb] at hbI
    have hn2 : b.n ≤ 9223372036854775807 := by have := hbI.2; omega
    have hok := hide hbI.1
    clear hbI
    replace hb := hide hb
    replace hI := hide hI
    have hj' : (j : Int) < L.length := by omega
    replace h := hide h
    go_enter Tryd.func78, Tryd.ntmps78
    go_wp2_with fail
    go_at_call 89
    refine (mHas_c p g N j L _ ((unhide h).alloc _) true hq).mono ?_
    rintro e w1 ⟨rfl, hw1⟩
    rw [hw1]
    clear hw1 w1
    go_wp2_with fail
    go_at_call 93
    refine (split_c b.n b.o b.h b.d c o d _ hn2 (unhide hok) r s hr hs).mono ?_
    rintro e w2 ⟨rfl, hb2⟩
    have y0 := (bun_new w 32).below hb2
    have hB2 : Below w.heap.size w w2 := ((Below.refl _ _).alloc (Nat.le_refl _) _).trans (hb2.mono (by simp))
    have hlt : w.heap.size < w2.heap.size := y0.lt
    have hm2 := (unhide h).below hB2
    clear k0 k1 k2 k3 f0 f1 f2 f3 c0 hb2
    replace hm2 := hide hm2
    replace hB2 := hide hB2
    replace y0 := hide y0
    go_wp2_with fail
    refine name_world ?_
    intro W hW
    have hBW : Below w2.heap.size w2 W := by
      rw [← hW]
      all_goals exact belEnd
    have b1 : BunAt W w2.heap.size r := by rw [← hW]; exact (bun_newV w2 r 32).carry (Below.heap_alloc _ _ _ (by simp))
    have b2 : BunAt W (w2.heap.size + 1) s := by rw [← hW]; simpa using bun_newV (w2.alloc (.cells #[.int .i64 r.n, .bool r.o, .bool r.h, .int .i64 r.d] 32)) s 32
    have b0 := (unhide y0).below hBW
    have hmW := (unhide hm2).below hBW
    have hBW2 := (unhide hB2).trans (hBW.mono (unhide hB2).size)
    clear hW hBW
    have c0 : W.cell? ⟨p, 0, none⟩ = some (slB g L.length) := hmW.c0
    obtain ⟨k0, k1, k2, k3, f0, f1, f2, f3⟩ := hmW.row hj hb.out
    have hfin := hmW.set hj s (unhide hI)
    obtain ⟨-, z0, z1, z2, z3, -, -, -, -⟩ := b2
    replace hmW := hide hmW
    have hF := hide (FrS.of_below (F := (· = g)) hBW2)
    obtain ⟨w3, hw3⟩ : ∃ w3, setR W g (j * 4) s = w3 := ⟨_, rfl⟩
    rw [hw3] at hfin
    have d0 : BunAt w3 w.heap.size bun0 := b0.fr hfin.2 (by omega)
    have d1 : BunAt w3 w2.heap.size r := b1.fr hfin.2 (by have := (unhide hm2).gl; omega)
    replace hfin := hide hfin
    clear hBW2 b0 b1
    dsimp only [setR] at hw3
    replace d0 := hide d0
    replace d1 := hide d1
    go_wp2_with fail
    refine wp_region_noPanic ?_
    refine last_begin 7 (fun w' => w'.cell? ⟨p, 0, none⟩ = some (slB g L.length) ∧ w'.cell? ⟨w2.heap.size + 1, 0, none⟩ = some (.int .i64 s.n) ∧ w'.cell? ⟨w2.heap.size + 1, 1, none⟩ = some (.bool s.o) ∧ w'.cell? ⟨w2.heap.size + 1, 2, none⟩ = some (.bool s.h) ∧ w'.cell? ⟨w2.heap.size + 1, 3, none⟩ = some (.int .i64 s.d)) (by kernel_rfl) ?_ fun hHeld => ?_
    · exact ⟨c0, z0, z1, z2, z3⟩
    refine lTk 0 32 hHeld ?_
    refine lTk 1 33 hHeld ?_
    refine lTk 2 34 hHeld ?_
    refine lTk 3 35 hHeld ?_
    refine lTk 4 36 hHeld ?_
    refine lTk 5 37 hHeld ?_
    refine lTk 6 38 hHeld ?_
    refine lNo 7 fun K hK => ?_
    go_simp
    refine hK.out _ _ (fun h => absurd rfl h) fun _ => ?_
    clear hK K
    try simp only [Act.put, za, zb, zc]
    refine last_done (by kernel_rfl) (NoPanic.normal ?_) _
    clear hHeld
    clear hw3 c0 k0 k1 k2 k3 f0 f1 f2 f3 z0 z1 z2 z3
    have hg3 : Hid (w.heap.size ≠ g) := by unfold Hid; omega
    have e1 := set_bun ((unhide d0).carry (w' := w3.drew) rfl) r
    have hfin2 := hide ((unhide hfin).1.drew.fr e1.2 (by omega) (by omega))
    have hF2 := hide (((unhide hF).trans (unhide hfin).2 (fun i hi => .inl hi)).drew.trans e1.2 (fun i hi => .inr (by omega)))
    obtain ⟨-, v0, v1, v2, v3, -, -, -, -⟩ := unhide d1
    obtain ⟨-, u0, u1, u2, u3, g0, g1, g2, g3⟩ := unhide d0
    clear e1
    go_wp2_with fail
    refine bodyPost_ret (by simp [results, Tryd.results78, go_sem, *]; done) rfl ⟨rfl, ?_⟩
    exact ⟨unhide hfin2, unhide hF2⟩
structure Bd where
  qa : Nat
  qh : Nat
  mg : Nat
abbrev rhC (c : Cf) (v : Value) (B : Bd) : Array Value := #[.int .i64 c.n, .int .i64 c.bl, .int .i64 c.tt, .int .i64 c.cs, .int .i64 c.cy, .int .i64 c.cc, .int .i64 c.cu, .int .i64 c.ct, .int .i64 c.cp, v, ptr B.qa]
structure RhIs (w : World) (q : Nat) (B : Bd) (F : Nat → Prop) (c : Cf) (N : Nat) (D : Hm) : Prop where
  ok : CfOk c 0
  ob : ∃ v, w.heap[q]? = some (.cells (rhC c v B) 49 (0, 0)) ∧ ViewB w v B.mg D.M
  gl : B.mg < w.heap.size
  inv : MInv (((N + 1 : Nat) : Int) * 65536) D.M
  arb : RdIs w B.qa B.qh c.n.toNat N D.L F
  ml : D.M.length = c.bl.toNat
  al : D.L.length = c.bl.toNat
  kp : ∃ κ : Nat → Nat, κ q = 0 ∧ κ B.qa = 1 ∧ κ B.mg = 2 ∧ ∀ b, F b → κ b = 3
def Fd (q : Nat) (B : Bd) (F : Nat → Prop) : Nat → Prop := fun b => F b ∨ b = q ∨ b = B.qa ∨ b = B.mg
section
variable {w w' : World} {q : Nat} {B : Bd} {F : Nat → Prop} {c : Cf} {N : Nat} {D : Hm}
theorem RhIs.pl (h : RhIs w q B F c N D) : q < w.heap.size := by obtain ⟨v, h1, _⟩ := h.ob; exact (Array.getElem?_eq_some_iff.1 h1).1
theorem RhIs.lt (h : RhIs w q B F c N D) : ∀ b, Fd q B F b → b < w.heap.size := by
  rintro b (hb | rfl | rfl | rfl)
  · exact h.arb.lt b hb
  · exact h.pl
  · exact h.arb.ql
  · exact h.gl
theorem RhIs.carry (h : RhIs w q B F c N D) (hb : ∀ b, Fd q B F b → b < w.heap.size → w'.heap[b]? = w.heap[b]?) : RhIs w' q B F c N D := by
  have k : ∀ b, Fd q B F b → w'.heap[b]? = w.heap[b]? := fun b f => hb b f (h.lt b f)
  obtain ⟨v, h1, h2⟩ := h.ob
  have eg := k _ (.inr (.inr (.inr rfl)))
  exact ⟨h.ok, ⟨v, (k q (.inr (.inl rfl))).trans h1, h2.carry (fun _ _ => eg)⟩, block_lt h.gl eg, h.inv, h.arb.carry (k _ (.inr (.inr (.inl rfl)))) (fun b f => k b (.inl f)), h.ml, h.al, h.kp⟩
theorem RhIs.below (h : RhIs w q B F c N D) (hf : Below w.heap.size w w') : RhIs w' q B F c N D := h.carry fun b _ hl => hf.block b hl
theorem RhIs.fr {G : Nat → Prop} (h : RhIs w q B F c N D) (hf : FrS G w w') (hd : ∀ b, Fd q B F b → ¬ G b) : RhIs w' q B F c N D := h.carry fun b hb hl => hf.block b hl (hd b hb)
theorem RhIs.alloc (h : RhIs w q B F c N D) (o : Obj) : RhIs (w.alloc o) q B F c N D := h.carry fun b _ hl => Below.heap_alloc _ _ _ hl
theorem RhIs.drewN (h : RhIs w q B F c N D) (n : Nat) : RhIs (w.drewN n) q B F c N D := h.carry fun _ _ _ => rfl
theorem RhIs.mono {M : Nat} (h : RhIs w q B F c N D) (hM : N ≤ M) : RhIs w q B F c M D := ⟨h.ok, h.ob, h.gl, h.inv.mono (by omega), h.arb.mono hM, h.ml, h.al, h.kp⟩
theorem RhIs.setCell (h : RhIs w q B F c N D) (a : Addr) (u : Value) (hq : ¬ Fd q B F a.block) : RhIs (w.setCell a u) q B F c N D :=
  h.carry fun b hb _ => Below.heap_setCell _ _ _ _ (by rintro rfl; exact hq hb)
theorem RhIs.setL {L' : List Rq} {F' : Nat → Prop} {M : Nat} (h : RhIs w q B F c N D) (ha : RdIs w' B.qa B.qh c.n.toNat M L' F') (hl : L'.length = D.L.length) (hs : Step F F' w w') (hM : N ≤ M) :
    RhIs w' q B F' c M ⟨D.M, L'⟩ ∧ Step (Fd q B F) (Fd q B F') w w' := by
  obtain ⟨κ, k0, k1, k2, k3⟩ := h.kp
  have nf : ∀ b, κ b < 3 → ¬ F b := fun b hk hf => by have := k3 b hf; omega
  have e : ∀ b, b < w.heap.size → κ b < 3 → w'.heap[b]? = w.heap[b]? := fun b hl hk => hs.fr.block b hl (nf b hk)
  have h2 := h.mono hM
  obtain ⟨v, o1, o2⟩ := h.ob
  have eg := e _ h.gl (by omega)
  refine ⟨⟨h.ok, ⟨v, (e q h.pl (by omega)).trans o1, o2.carry (fun _ _ => eg)⟩, block_lt h.gl eg, h2.inv, ha, h.ml, by rw [hl]; exact h.al, ⟨fun b => if b < w.heap.size then κ b else 3, ?_⟩⟩, ⟨hs.fr.mono (fun i _ hi => .inl hi), fun b hb => ?_⟩⟩
  · dsimp only
    rw [if_pos h.pl, if_pos h.arb.ql, if_pos h.gl]
    refine ⟨k0, k1, k2, fun b hb => ?_⟩
    split
    · rename_i hl
      rcases hs.new b hb with h3 | h3
      · exact k3 b h3
      · omega
    · rfl
  · rcases hb with hb | hb
    · rcases hs.new b hb with h3 | h3
      · exact .inl (.inl h3)
      · exact .inr h3
    · exact .inl (.inr hb)
theorem RhIs.setM {M' : List Bun} {M g' : Nat} {v' : Value} (h : RhIs w q B F c N D) (hv : ViewB w v' g' M') (hg : g' < w.heap.size) (hn : g' = B.mg ∨ ¬ Fd q B F g') (hi : MInv (((M + 1 : Nat) : Int) * 65536) M') (hl : M'.length = D.M.length) (hM : N ≤ M) :
    RhIs (w.setCell ⟨q, 9, none⟩ v') q ⟨B.qa, B.qh, g'⟩ F c M ⟨M', D.L⟩ := by
  obtain ⟨κ, k0, k1, k2, k3⟩ := h.kp
  obtain ⟨v, o1, o2⟩ := h.ob
  have hq : g' ≠ q := by
    rcases hn with rfl | hn
    · intro e; rw [e] at k2; omega
    · exact fun e => hn (.inr (.inl e))
  have hqa : B.qa ≠ q := fun e => by rw [e] at k1; omega
  have e : ∀ b, b ≠ q → (w.setCell ⟨q, 9, none⟩ v').heap[b]? = w.heap[b]? := fun b hb => Below.heap_setCell _ _ _ _ hb
  have hob : (w.setCell ⟨q, 9, none⟩ v').heap[q]? = some (.cells (rhC c v' B) 49 (0, 0)) := heap_setCell_same _ _ _ _ _ _ o1
  have h2 := h.mono hM
  refine ⟨h.ok, ⟨v', hob, hv.carry (fun _ _ => e g' hq)⟩, by simpa using hg, hi, h2.arb.carry (e _ hqa) (fun b f => e b (fun eq => by have := k3 b f; rw [eq] at this; omega)), by rw [hl]; exact h.ml, h.al, ?_⟩
  rcases hn with rfl | hn
  · exact ⟨κ, k0, k1, k2, k3⟩
  · refine ⟨fun b => if b = g' then 2 else κ b, ?_⟩
    dsimp only
    rw [if_neg (fun e => hq e.symm), if_neg (fun e => hn (.inr (.inr (.inl e.symm)))), if_pos rfl]
    refine ⟨k0, k1, rfl, fun b hb => ?_⟩
    rw [if_neg (fun (e : b = g') => hn (.inl (e ▸ hb)))]
    exact k3 b hb
end
structure RhAt (w : World) (q : Nat) (B : Bd) (c : Cf) : Prop where
  lt : q < w.heap.size
  c0 : w.cell? ⟨q, 0, none⟩ = some (.int .i64 c.n)
  c1 : w.cell? ⟨q, 1, none⟩ = some (.int .i64 c.bl)
  c2 : w.cell? ⟨q, 2, none⟩ = some (.int .i64 c.tt)
  c3 : w.cell? ⟨q, 3, none⟩ = some (.int .i64 c.cs)
  c4 : w.cell? ⟨q, 4, none⟩ = some (.int .i64 c.cy)
  c5 : w.cell? ⟨q, 5, none⟩ = some (.int .i64 c.cc)
  c6 : w.cell? ⟨q, 6, none⟩ = some (.int .i64 c.cu)
  c7 : w.cell? ⟨q, 7, none⟩ = some (.int .i64 c.ct)
  c8 : w.cell? ⟨q, 8, none⟩ = some (.int .i64 c.cp)
  c10 : w.cell? ⟨q, 10, none⟩ = some (ptr B.qa)
  fz : ∀ i, w.frozen? ⟨q, i, none⟩ = false
section
variable {w : World} {q : Nat} {B : Bd} {F : Nat → Prop} {c : Cf} {N : Nat} {D : Hm}
theorem RhIs.at' (h : RhIs w q B F c N D) : RhAt w q B c := by
  obtain ⟨v, o1, -⟩ := h.ob
  exact ⟨h.pl, cell_of_row _ _ _ _ _ _ o1, cell_of_row _ _ _ _ _ _ o1, cell_of_row _ _ _ _ _ _ o1, cell_of_row _ _ _ _ _ _ o1, cell_of_row _ _ _ _ _ _ o1, cell_of_row _ _ _ _ _ _ o1, cell_of_row _ _ _ _ _ _ o1, cell_of_row _ _ _ _ _ _ o1, cell_of_row _ _ _ _ _ _ o1, cell_of_row _ _ _ _ _ _ o1, fun _ => frozen_of_row _ _ _ _ _ o1⟩
theorem RhIs.mem (h : RhIs w q B F c N D) : ∃ ao cap, w.cell? ⟨q, 9, none⟩ = some (.slice ao D.M.length cap) ∧ ViewB w (.slice ao D.M.length cap) B.mg D.M := by
  obtain ⟨v, o1, o2⟩ := h.ob
  obtain ⟨ao, cap, rfl, -⟩ := id o2
  exact ⟨ao, cap, cell_of_row _ _ _ _ _ _ o1, o2⟩
end
structure Ar (w V : World) (q : Nat) (B0 B : Bd) (Ft F : Nat → Prop) (c : Cf) (N : Nat) (D : Hm) (K : List (Nat × Obj)) : Prop where
  n : RhIs V q B F c N D
  x : Bz w V (Fd q B F) K
  s : Step (Fd q B0 Ft) (Fd q B F) w V
section
variable {w V V' : World} {q : Nat} {B0 B B' : Bd} {Ft F F' : Nat → Prop} {c : Cf} {N M : Nat} {D D' : Hm} {K : List (Nat × Obj)}
theorem Ar.below (h : Ar w V q B0 B Ft F c N D K) (hb : Below V.heap.size V V') : Ar w V' q B0 B Ft F c N D K := ⟨h.n.below hb, h.x.step (Step.of_below hb), h.s.trans (Step.of_below hb)⟩
theorem Ar.step (h : Ar w V q B0 B Ft F c N D K) (hn : RhIs V' q B' F' c M D') (hs : Step (Fd q B F) (Fd q B' F') V V') : Ar w V' q B0 B' Ft F' c M D' K := ⟨hn, h.x.step hs, h.s.trans hs⟩
theorem Ar.new (h : Ar w V q B0 B Ft F c N D K) (o : Obj) : Ar w (V.alloc o) q B0 B Ft F c N D ((V.heap.size, o) :: K) := by
  have h2 := h.below (V' := V.alloc o) ((Below.refl _ _).alloc (Nat.le_refl _) _)
  refine ⟨h2.n, fun x hx => ?_, h2.s⟩
  rcases List.mem_cons.1 hx with rfl | hx
  · exact ⟨h.s.fr.size, by simp, fun e => by have := h.n.lt _ e; omega, heap_alloc_new _ _⟩
  · exact h2.x x hx
theorem Ar.head {k : Nat} {cs : Array Value} {T : TypeId} (h : Ar w V q B0 B Ft F c N D ((k, .cells cs T (0, 0)) :: K)) (hk : ∀ x ∈ K, x.1 ≠ k) (i : Nat) (u : Value) : Ar w (V.setCell ⟨k, i, none⟩ u) q B0 B Ft F c N D ((k, .cells (cs.setIfInBounds i u) T (0, 0)) :: K) := by
  obtain ⟨h1, h2, h3, h4⟩ := h.x (k, .cells cs T (0, 0)) (by simp)
  refine ⟨h.n.setCell _ _ h3, fun x hx => ?_, h.s.setNew h1 _ _⟩
  rcases List.mem_cons.1 hx with rfl | hx
  · exact ⟨h1, by simpa using h2, h3, heap_setCell_same _ _ _ _ _ _ h4⟩
  · obtain ⟨q1, q2, q3, q4⟩ := h.x x (by simp [hx])
    exact ⟨q1, by simpa using q2, q3, (Below.heap_setCell _ _ _ _ (hk x hx)).trans q4⟩
theorem Ar.frk {k : Nat} (h : Ar w V q B0 B Ft F c N D K) (hf : FrS (· = k) V V') (h0 : w.heap.size ≤ k) (hF : ¬ Fd q B F k) (hK : ∀ x ∈ K, x.1 ≠ k) : Ar w V' q B0 B Ft F c N D K :=
  ⟨h.n.fr hf (fun b hb e => hF (e ▸ hb)), fun x hx => by
    obtain ⟨q1, q2, q3, q4⟩ := h.x x hx
    exact ⟨q1, Nat.lt_of_lt_of_le q2 hf.size, q3, (hf.block _ q2 (hK x hx)).trans q4⟩, ⟨h.s.fr.trans hf (fun i hi => .inr (hi ▸ h0)), h.s.new⟩⟩
theorem Ar.nf (h : Ar w V q B0 B Ft F c N D K) {g : Nat} (hg : V.heap.size ≤ g) : ¬ Fd q B F g := fun e => by have := h.n.lt _ e; omega
theorem Ar.sub {K' : List (Nat × Obj)} (h : Ar w V q B0 B Ft F c N D K) (hK : ∀ x ∈ K', x ∈ K) : Ar w V q B0 B Ft F c N D K' := ⟨h.n, fun x hx => h.x x (hK x hx), h.s⟩
theorem ar_start (h : RhIs w q B F c N D) : Ar w w q B B F F c N D [] := ⟨h, fun x hx => (by cases hx), Step.refl _ _⟩
theorem Ar.setM {M' : List Bun} {g' : Nat} {v' : Value} (h : Ar w V q B0 B Ft F c N D K) (hv : ViewB V v' g' M') (hg : g' < V.heap.size) (hn : g' = B.mg ∨ (¬ Fd q B F g' ∧ w.heap.size ≤ g' ∧ ∀ x ∈ K, x.1 ≠ g')) (hi : MInv (((M + 1 : Nat) : Int) * 65536) M') (hl : M'.length = D.M.length) (hM : N ≤ M) :
    Ar w (V.setCell ⟨q, 9, none⟩ v') q B0 ⟨B.qa, B.qh, g'⟩ Ft F c M ⟨M', D.L⟩ K := by
  have hq : ∀ b, Fd q ⟨B.qa, B.qh, g'⟩ F b → Fd q B F b ∨ b = g' := fun b hb => by
    rcases hb with hb | hb | hb | hb
    · exact .inl (.inl hb)
    · exact .inl (.inr (.inl hb))
    · exact .inl (.inr (.inr (.inl hb)))
    · exact .inr hb
  refine ⟨h.n.setM hv hg (hn.imp id (fun e => e.1)) hi hl hM, fun x hx => ?_, ⟨?_, fun b hb => ?_⟩⟩
  · obtain ⟨q1, q2, q3, q4⟩ := h.x x hx
    have hxq : x.1 ≠ q := fun e => q3 (.inr (.inl e))
    refine ⟨q1, by simpa using q2, fun e => ?_, (Below.heap_setCell _ _ _ _ hxq).trans q4⟩
    rcases hq _ e with e | e
    · exact q3 e
    · rcases hn with hn | hn
      · exact q3 (.inr (.inr (.inr (e.trans hn))))
      · exact hn.2.2 x hx e
  · by_cases hqw : q < w.heap.size
    · refine h.s.fr.setCell (q := ⟨q, 9, none⟩) ?_ v'
      exact .inl (.inr (.inl rfl))
    · exact h.s.fr.setCell (q := ⟨q, 9, none⟩) (.inr (by dsimp only; omega)) v'
  · rcases hq b hb with e | e
    · rcases h.s.new b e with e2 | e2
      · exact .inl e2
      · exact .inr e2
    · rcases hn with hn | hn
      · rcases h.s.new b (.inr (.inr (.inr (e.trans hn)))) with e2 | e2
        · exact .inl e2
        · exact .inr e2
      · exact .inr (by rw [e]; exact hn.2.1)
end
structure RutP (w : World) (q : Nat) (B B' : Bd) (F F' : Nat → Prop) (c : Cf) (N : Nat) (D : Hm) (L : List Lt) (v : Value) (w' : World) (g : Nat) : Prop where
  own : OwnT w' v g L
  new : w.heap.size ≤ g
  nd : RhIs w' q B' F' c N D
  st : Step (Fd q B F) (Fd q B' F') w w'
  nf : ¬ Fd q B' F' g
theorem rut_fin {w V : World} {q : Nat} {B0 B : Bd} {Ft F : Nat → Prop} {c : Cf} {N : Nat} {D : Hm} {K : List (Nat × Obj)} {L : List Lt} {v : Value} {g : Nat} (h : Ar w V q B0 B Ft F c N D K) (ho : OwnT V v g L) (hg : w.heap.size ≤ g) (hn : ¬ Fd q B F g) : RutP w q B0 B Ft F c N D L v V g := ⟨ho, hg, h.n, h.s, hn⟩
set_option maxHeartbeats 1000000 in
theorem sameB_c (v1 v2 : Value) (b1 b2 : Nat) (L : List Bun) (w : World) (h1 : ViewB w v1 b1 L) (h2 : ViewB w v2 b2 L) : Calls Tryd.prog 17 #[v1, v2] w fun e w' => e = .returned (.bool true) ∧ ∃ n, w' = w.drewN n := by
  have hV := hide h1
  have hU := hide h2
  obtain ⟨ao1, cap1, rfl, hl1, hm1, hc1⟩ := h1
  obtain ⟨ao2, cap2, rfl, hl2, hm2, hc2⟩ := h2
  have hmx : L.length ≤ 9223372036854775807 := by unfold maxLen at hm1; omega
  clear hc1 hc2 hm1 hm2
  go_enter Tryd.func17, Tryd.ntmps17
  go_wp2_with fail
  go_loopw [5] (fun i wr => ∃ j : Nat, j ≤ L.length ∧ i = .int .i64 j ∧ ∃ n, wr = w.drewN n) (fun i _ => L.length - (intOf i).toNat)
  case atStart => exact ⟨0, Nat.zero_le _, rfl, 0, rfl⟩
  case round =>
    obtain ⟨j, hj, rfl, n, rfl⟩ := hrel
    by_cases hlt : j < L.length
    · obtain ⟨-, -, -, k1⟩ := view_atB (unhide hV) rfl
      obtain ⟨-, -, -, k2⟩ := view_atB (unhide hU) rfl
      obtain ⟨o1, rfl, g1, d0, d1, d2, d3⟩ := k1 j hlt
      obtain ⟨o2, rfl, g2, f0, f1, f2, f3⟩ := k2 j hlt
      generalize L[j] = l at d0 d1 d2 d3 f0 f1 f2 f3
      have hlt' : (j : Int) < L.length := by omega
      clear k1 k2 hV hU
      go_wp2_with fail
      go_quiet (fail)
      go_wp2_with fail
      all_goals
        go_roundw
        case rel => exact ⟨j + 1, by omega, by simp, _, rfl⟩
        case measure => simp [intOf]; omega
    · obtain rfl : j = L.length := by omega
      clear hV hU
      go_wp2_with fail
      go_ret
      exact ⟨rfl, n, rfl⟩
abbrev bunO (x : Bun) : Obj := .cells #[.int .i64 x.n, .bool x.o, .bool x.h, .int .i64 x.d] 32
theorem own_emptyK {w : World} {k : Nat} (hk : w.heap.size = k) (o : Obj) : OwnB (w.alloc o) (.slice (some ⟨k, 0, none⟩) 0 0) k [] := hk ▸ own_emptyB w o
theorem set_mid {w w1 : World} {x : Bun} {oE : Obj} {ao : Option Addr} {v0 : Value} {n cap g1 j : Nat} {L : List Bun} (hown : OwnB w1 (.slice ao n cap) g1 ([] ++ L)) (hap : AppP ((w.alloc (bunO x)).alloc oE) w1 v0 (.slice ao n cap) (w.heap.size + 1) g1) (hj : j < L.length) :
    ∃ o, ao = some ⟨g1, o, none⟩ ∧ w.heap.size < g1 ∧ Below w.heap.size w w1 ∧ BunAt w1 w.heap.size x ∧ OwnB w1 (.slice (some ⟨g1, o, none⟩) n cap) g1 L
      ∧ w1.cell? ⟨g1, o + j * 4, none⟩ = some (.int .i64 L[j].n) ∧ w1.cell? ⟨g1, o + j * 4 + 1, none⟩ = some (.bool L[j].o) ∧ w1.cell? ⟨g1, o + j * 4 + 2, none⟩ = some (.bool L[j].h) ∧ w1.cell? ⟨g1, o + j * 4 + 3, none⟩ = some (.int .i64 L[j].d)
      ∧ w1.frozen? ⟨g1, o + j * 4, none⟩ = false ∧ w1.frozen? ⟨g1, o + j * 4 + 1, none⟩ = false ∧ w1.frozen? ⟨g1, o + j * 4 + 2, none⟩ = false ∧ w1.frozen? ⟨g1, o + j * 4 + 3, none⟩ = false := by
  rw [List.nil_append] at hown
  obtain ⟨o, rfl, f0, f1, f2, f3⟩ := own_atB hown rfl j hj
  obtain ⟨-, -, -, k⟩ := view_atB hown.view rfl
  obtain ⟨o2, e2, gl, k0, k1, k2, k3⟩ := k j hj
  obtain rfl : o = o2 := by simpa using e2
  have hl : w.heap.size < g1 := by
    rcases hap.lies with e | e
    · omega
    · simp at e; omega
  refine ⟨o, rfl, hl, ?_, ?_, hown, k0, k1, k2, k3, f0, f1, f2, f3⟩
  · exact (((Below.refl _ _).alloc (Nat.le_refl _) _).alloc (by simp) _).trans (hap.fr.below (fun i hi => by omega) (by simp))
  · exact ((bun_newV w x 32).carry (Below.heap_alloc _ _ _ (by simp))).carry (hap.fr.block w.heap.size (by simp) (by simp))
set_option maxHeartbeats 1000000 in
theorem refSet_c (v : Value) (b j : Nat) (x : Bun) (L : List Bun) (w : World) (h : ViewB w v b L) (hj : j < L.length) (hl : L.length ≤ 64) : Calls Tryd.prog 62 #[v, .int .i64 j, bunV x] w fun e w' => ∃ v' g', e = .returned v' ∧ OwnB w' v' g' (L.set j x) ∧ w.heap.size ≤ g' ∧ Below w.heap.size w w' := by
  obtain ⟨n, hn⟩ : ∃ n, Hid (L.length = n) := ⟨_, rfl⟩
  have hj' : (j : Int) < n := by have := hn.out; omega
  have hn64 : n ≤ 64 := by have := hn.out; omega
  have hh1 : ([] : List Bun).length + L.length ≤ 1000000 := by simp only [List.length_nil]; omega
  have hh2 : ([] : List Bun).length + L.length = n := by simpa using hn.out
  replace hh1 := hide hh1
  replace hh2 := hide hh2
  replace h := hide h
  go_enter Tryd.func62, Tryd.ntmps62
  go_wp2_with (at_builtin; refine wpList_appB rfl _ _ rfl rfl rfl (own_emptyK (by simp) _) (((unhide h).alloc _).alloc _) (unhide hh1) n (unhide hh2) ?_; intro ao' cap' w1 g1 hown hap; obtain ⟨o, rfl, hg1, hB1, y, hO1, k0, k1, k2, k3, f0, f1, f2, f3⟩ := set_mid hown hap hj; obtain ⟨-, y0, y1, y2, y3, -, -, -, -⟩ := y; replace hO1 := hide hO1; replace hB1 := hide hB1; clear hown hap)
  have hfin := own_setB (unhide hO1) rfl j hj x
  go_ret
  exact ⟨_, g1, rfl, hfin.1, by omega, (unhide hB1).trans (hfin.2.below (fun i hi => by omega) (unhide hB1).size)⟩
set_option maxHeartbeats 1000000 in
theorem refNew_c (s t : Int) (w : World) : Calls Tryd.prog 51 #[.int .i64 s, .int .i64 t] w fun e w' => ∃ v g, e = .returned v ∧ OwnB w' v g (newM s t) ∧ w.heap.size ≤ g ∧ Below w.heap.size w w' := by
  obtain ⟨n, hn⟩ : ∃ n : Nat, clampZ s 0 64 = n := ⟨(clampZ s 0 64).toNat, by have := clampZ_in s 0 64 (by decide); omega⟩
  have hn64 : n ≤ 64 := by have := clampZ_in s 0 64 (by decide); omega
  have hL : Hid (newM s t = List.replicate n (fullB t 0)) := by unfold newM Hid; rw [hn]; simp
  obtain ⟨f, hf⟩ : ∃ f, fullB t 0 = f := ⟨_, rfl⟩
  rw [hf] at hL
  replace hn := hide hn
  go_enter Tryd.func51, Tryd.ntmps51
  go_wp2_with fail
  go_loopw [5, 6] (fun out i wr => ∃ j g : Nat, j ≤ n ∧ i = .int .i64 j ∧ OwnB wr out g (List.replicate j f) ∧ w.heap.size ≤ g ∧ Below w.heap.size w wr) (fun _ i _ => n - (intOf i).toNat)
  case atStart => exact ⟨0, w.heap.size, Nat.zero_le _, rfl, own_emptyB _ _, Nat.le_refl _, (Below.refl _ _).alloc (Nat.le_refl _) _⟩
  case round =>
    obtain ⟨j, g, hj, rfl, hO, hg, hb⟩ := hrel
    have hO' := hide hO
    obtain ⟨ao, cap, rfl, -⟩ := hO
    have hl1 : (List.replicate j f).length = j := by simp
    rw [hl1] at hO' ⊢
    have hh1 : (List.replicate j f).length + [f].length ≤ 1000000 := by simp; omega
    have hh2 : (List.replicate j f).length + [f].length = j + 1 := by simp
    have hst : List.replicate j f ++ [f] = List.replicate (j + 1) f := by rw [List.replicate_succ']
    replace hh1 := hide hh1
    replace hh2 := hide hh2
    replace hst := hide hst
    replace hl1 := hide hl1
    replace hb := hide hb
    go_wp2_with fail
    go_at_call 73
    refine (refClamp_any s 0 64 _).mono ?_
    rw [hn.out]
    rintro e w' ⟨rfl, hw'⟩
    rw [hw']
    clear hw' w'
    by_cases hlt : j < n
    · have hlt' : (j : Int) < n := by omega
      by_cases c : t < 1
      · obtain rfl : bun0 = f := by rw [← hf]; simp [fullB, c]
        replace hf := hide hf
        go_wp2_with (at_builtin; refine wpList_appB rfl _ _ rfl rfl rfl ((unhide hO').alloc _) (view_oneB _ bun0) (unhide hh1) (j + 1) (unhide hh2) ?_; intro ao2 cap2 w3 g2 hown2 hap2; replace hown2 := hide hown2; replace hap2 := hide hap2)
        go_roundw
        case rel =>
          have hap := unhide hap2
          have s1 := (unhide hb).size
          refine ⟨j + 1, g2, by omega, by simp, ?_, ?_, ((unhide hb).alloc s1 _).trans (hap.fr.below (fun i hi => by rw [hi]; exact hg) (by simp; omega))⟩
          · rw [← unhide hst]; exact unhide hown2
          · rcases hap.lies with e | e
            · omega
            · simp at e; omega
        case measure => simp [intOf]; omega
      · obtain rfl : (⟨t, true, true, 0⟩ : Bun) = f := by rw [← hf]; simp [fullB, c]
        replace hf := hide hf
        go_wp2_with (at_builtin; refine wpList_appB rfl _ _ rfl rfl rfl ((unhide hO').alloc _) (view_oneB _ ⟨t, true, true, 0⟩) (unhide hh1) (j + 1) (unhide hh2) ?_; intro ao2 cap2 w3 g2 hown2 hap2; replace hown2 := hide hown2; replace hap2 := hide hap2)
        go_roundw
        case rel =>
          have hap := unhide hap2
          have s1 := (unhide hb).size
          refine ⟨j + 1, g2, by omega, by simp, ?_, ?_, ((unhide hb).alloc s1 _).trans (hap.fr.below (fun i hi => by rw [hi]; exact hg) (by simp; omega))⟩
          · rw [← unhide hst]; exact unhide hown2
          · rcases hap.lies with e | e
            · omega
            · simp at e; omega
        case measure => simp [intOf]; omega
    · obtain rfl : j = n := by omega
      go_wp2_with fail
      go_ret
      exact ⟨_, g, rfl, by rw [hL.out]; exact unhide hO', hg, unhide hb⟩
set_option maxHeartbeats 1000000 in
theorem refPut_c (v : Value) (g : Nat) (N M x : Int) (b : Bun) (L : List Bun) (w : World) (h : ViewB w v g L) (hI : MInv N L) (hb : okB b) (hM : b.n ≤ M) (hN : N + M ≤ 4611686018427387904) (q : Bool) (hq : Hid (hasM L x = q)) (L' : List Bun) (hL : Hid (putM L x b = L')) : Calls Tryd.prog 31 #[v, .int .i64 x, bunV b] w fun e w' => ∃ v', e = .returned (.tuple #[v', .bool q]) ∧ ∃ g', ViewB w' v' g' L' ∧ (g' = g ∨ w.heap.size ≤ g') ∧ Below w.heap.size w w' := by
  have hlen := hI.len
  have hV := hide h
  obtain ⟨ao, cap, rfl, -⟩ := h
  obtain ⟨n, hn⟩ : ∃ n, Hid (L.length = n) := ⟨_, rfl⟩
  have hq' := hq.out
  unfold hasM at hq'
  rw [hn.out] at hV hlen hq' ⊢
  cases q
  · obtain rfl : L = L' := by rw [← hL.out]; exact (putM_out hq.out b).symm
    by_cases a : x < 0
    · clear hq'
      go_enter Tryd.func31, Tryd.ntmps31
      go_wp2_with fail
      go_returns
      exact ⟨_, rfl, g, (unhide hV).alloc _, .inl rfl, (Below.refl _ _).alloc (Nat.le_refl _) _⟩
    · have a2 : ¬ x < (n : Int) := by simp at hq'; omega
      clear hq'
      go_enter Tryd.func31, Tryd.ntmps31
      go_wp2_with fail
      go_returns
      exact ⟨_, rfl, g, (unhide hV).alloc _, .inl rfl, (Below.refl _ _).alloc (Nat.le_refl _) _⟩
  · clear hq'
    obtain ⟨j, rfl, hj⟩ := hasM_at hq.out
    obtain ⟨c, hc⟩ : ∃ c, L[j] = c := ⟨_, rfl⟩
    have hcI := hI.at' hj
    obtain rfl : L.set j (joinB c b) = L' := by rw [← hL.out, ← hc]; exact (putM_nat hj b).symm
    rw [hc] at hcI
    have hs1 : -9223372036854775808 ≤ c.n + b.n := by have := hcI.1.1; have := hb.1; omega
    have hs2 : c.n + b.n ≤ 9223372036854775807 := by have := hcI.2; omega
    have hcd := hide hcI.1.2.2.2
    obtain ⟨r, hr⟩ : ∃ r, Hid (joinB c b = r) := ⟨_, rfl⟩
    rw [hr.out] at hL ⊢
    replace hb := hide hb
    replace hI := hide hI
    clear hcI
    have hj' : (j : Int) < n := by have := hn.out; omega
    go_enter Tryd.func31, Tryd.ntmps31
    go_wp2_with fail
    refine name_world ?_
    intro W hW
    have y := bun_newV w b 32
    have hVW := (unhide hV).alloc (.cells #[.int .i64 b.n, .bool b.o, .bool b.h, .int .i64 b.d] 32)
    have hBW : Below w.heap.size w (w.alloc (.cells #[.int .i64 b.n, .bool b.o, .bool b.h, .int .i64 b.d] 32)) := (Below.refl _ _).alloc (Nat.le_refl _) _
    rw [hW] at y hVW hBW
    clear hW
    obtain ⟨-, -, -, k⟩ := view_atB hVW rfl
    obtain ⟨o, rfl, hgl, k0, k1, k2, k3⟩ := k j hj
    rw [hc] at k0 k1 k2 k3
    obtain ⟨y4, y0, y1, y2, y3, -, -, -, -⟩ := y
    replace hVW := hide hVW
    replace hBW := hide hBW
    clear k hc
    go_wp2_with fail
    refine wp_region_noPanic ?_
    refine wp_region_held_drew (S := (fun w' => w'.cell? ⟨g, o + j * 4, none⟩ = some (.int .i64 c.n) ∧ w'.cell? ⟨g, o + j * 4 + 1, none⟩ = some (.bool c.o) ∧ w'.cell? ⟨g, o + j * 4 + 2, none⟩ = some (.bool c.h) ∧ w'.cell? ⟨g, o + j * 4 + 3, none⟩ = some (.int .i64 c.d) ∧ w'.cell? ⟨w.heap.size, 0, none⟩ = some (.int .i64 b.n) ∧ w'.cell? ⟨w.heap.size, 1, none⟩ = some (.bool b.o) ∧ w'.cell? ⟨w.heap.size, 2, none⟩ = some (.bool b.h) ∧ w'.cell? ⟨w.heap.size, 3, none⟩ = some (.int .i64 b.d))) (by kernel_rfl) ?_ (fun hHeld => ?_)
    · exact ⟨k0, k1, k2, k3, y0, y1, y2, y3⟩
    refine hTk 0 17 hHeld ?_
    refine hTk 1 18 hHeld ?_
    refine hTk 2 19 hHeld ?_
    refine hTk 3 20 hHeld ?_
    refine hTk 4 21 hHeld ?_
    refine hTk 5 22 hHeld ?_
    refine hTk 6 23 hHeld ?_
    refine hNo 7 fun K hK => ?_
    go_simp; go_at_call 63; refine (refJoin_any c.n c.o c.h c.d b.n b.o b.h b.d _ hs1 hs2 (unhide hcd) r hr).mono ?_; rintro e w2 ⟨rfl, hb2⟩; have hB2 := ((Below.refl W.heap.size W).drew).trans hb2; clear hb2
    refine hK.out _ _ ?_ fun hHeld => ?_
    · exact ⟨keep_cell (hB2.block g hgl) k0, keep_cell (hB2.block g hgl) k1, keep_cell (hB2.block g hgl) k2, keep_cell (hB2.block g hgl) k3, keep_cell (hB2.block _ y4) y0, keep_cell (hB2.block _ y4) y1, keep_cell (hB2.block _ y4) y2, keep_cell (hB2.block _ y4) y3⟩
    clear hK K
    try simp only [Act.put, za, zb, zc]
    have hs := hB2.size
    refine hNo 8 fun K hK => ?_
    go_simp; go_at_call 62; refine (refSet_c _ g j r L w2 ((unhide hVW).below hB2) hj (by have := hn.out; omega)).mono ?_; rintro e w3 ⟨v3, g3, rfl, hO3, hg3, hb3⟩; have hB3 := hB2.trans (hb3.mono hs); replace hO3 := hide hO3; clear hb3
    refine hK.out _ _ ?_ fun hHeld => ?_
    · exact ⟨keep_cell (hB3.block g hgl) k0, keep_cell (hB3.block g hgl) k1, keep_cell (hB3.block g hgl) k2, keep_cell (hB3.block g hgl) k3, keep_cell (hB3.block _ y4) y0, keep_cell (hB3.block _ y4) y1, keep_cell (hB3.block _ y4) y2, keep_cell (hB3.block _ y4) y3⟩
    clear hK K
    try simp only [Act.put, za, zb, zc]
    refine hTk 9 6 hHeld ?_
    refine hTk 10 7 hHeld ?_
    refine wpAnyH_done (by kernel_rfl) (NoPanic.normal ?_) _
    clear hHeld
    replace hB3 := hide hB3
    clear hB2
    go_wp2_with fail
    go_returns
    exact ⟨_, rfl, g3, (unhide hO3).view, .inr (by have := (unhide hBW).size; omega), (unhide hBW).trans ((unhide hB3).mono (unhide hBW).size)⟩
set_option maxHeartbeats 1000000 in
theorem refTake_c (v : Value) (g : Nat) (N x c : Int) (o d : Bool) (L : List Bun) (w : World) (h : ViewB w v g L) (hI : MInv N L) (hN : N ≤ 4611686018427387904) (r : Bun) (hr : Hid (givenB (getM L x) c o d = r)) (L' : List Bun) (hL : Hid (takM L x c o = L')) : Calls Tryd.prog 33 #[v, .int .i64 x, .int .i64 c, .bool o, .bool d] w fun e w' => ∃ v', e = .returned (.tuple #[bunV r, v']) ∧ ∃ g', ViewB w' v' g' L' ∧ (g' = g ∨ w.heap.size ≤ g') ∧ Below w.heap.size w w' := by
  have hlen := hI.len
  have hV := hide h
  obtain ⟨ao, cap, rfl, -⟩ := h
  obtain ⟨n, hn⟩ : ∃ n, Hid (L.length = n) := ⟨_, rfl⟩
  obtain ⟨q, hq⟩ : ∃ q, Hid (hasM L x = q) := ⟨_, rfl⟩
  have hq' := hq.out
  unfold hasM at hq'
  rw [hn.out] at hV hlen hq' ⊢
  cases q
  · obtain rfl : L = L' := by rw [← hL.out]; exact (takM_out hq.out c o).symm
    obtain rfl : bun0 = r := by rw [← hr.out, getM_out hq.out, given_zero]
    by_cases a : x < 0
    · clear hq'
      go_enter Tryd.func33, Tryd.ntmps33
      go_wp2_with fail
      go_returns
      exact ⟨_, rfl, g, (unhide hV).below (by all_goals exact belEnd), .inl rfl, by all_goals exact belEnd⟩
    · have a2 : ¬ x < (n : Int) := by simp at hq'; omega
      clear hq'
      go_enter Tryd.func33, Tryd.ntmps33
      go_wp2_with fail
      go_returns
      exact ⟨_, rfl, g, (unhide hV).below (by all_goals exact belEnd), .inl rfl, by all_goals exact belEnd⟩
  · clear hq'
    obtain ⟨j, rfl, hj⟩ := hasM_at hq.out
    obtain ⟨b, hb⟩ : ∃ b, L[j] = b := ⟨_, rfl⟩
    have hbI := hI.at' hj
    obtain ⟨s, hs⟩ : ∃ s, Hid (restB b c o = s) := ⟨_, rfl⟩
    obtain rfl : L.set j s = L' := by rw [← hL.out, ← hs.out, ← hb]; exact (takM_nat hj c o).symm
    rw [getM_nat hj, hb] at hr
    rw [hb] at hbI
    have hn2 : b.n ≤ 9223372036854775807 := by have := hbI.2; omega
    have hok := hide hbI.1
    clear hbI
    replace hI := hide hI
    have hj' : (j : Int) < n := by have := hn.out; omega
    obtain ⟨-, -, -, k⟩ := view_atB (unhide hV) rfl
    obtain ⟨of, rfl, hgl, k0, k1, k2, k3⟩ := k j hj
    rw [hb] at k0 k1 k2 k3
    clear k hb
    go_enter Tryd.func33, Tryd.ntmps33
    go_wp2_with fail
    go_at_call 65
    refine (refSplit_any b.n b.o b.h b.d c o d _ hn2 (unhide hok) r s hr hs).mono ?_
    rintro e w2 ⟨rfl, hb2⟩
    have y0 := (bun_new w 32).below hb2
    have hB2 : Below w.heap.size w w2 := ((Below.refl _ _).alloc (Nat.le_refl _) _).trans (hb2.mono (by simp))
    have hlt : w.heap.size < w2.heap.size := y0.lt
    have hV2 := (unhide hV).below hB2
    clear k0 k1 k2 k3 hb2
    replace hV2 := hide hV2
    replace hB2 := hide hB2
    replace y0 := hide y0
    go_wp2_with fail
    refine name_world ?_
    intro W hW
    have hBW : Below w2.heap.size w2 W := by
      rw [← hW]
      all_goals exact belEnd
    have b1 : BunAt W w2.heap.size r := by rw [← hW]; exact (bun_newV w2 r 32).carry (Below.heap_alloc _ _ _ (by simp))
    have b2 : BunAt W (w2.heap.size + 1) s := by rw [← hW]; simpa using bun_newV (w2.alloc (.cells #[.int .i64 r.n, .bool r.o, .bool r.h, .int .i64 r.d] 32)) s 32
    have b0 := (unhide y0).below hBW
    have hVW := (unhide hV2).below hBW
    have hBW2 := (unhide hB2).trans (hBW.mono (unhide hB2).size)
    have hl1 := b1.lt
    have hl2 := b2.lt
    have hl0 := b0.lt
    clear hW hBW
    obtain ⟨-, z0, z1, z2, z3, -, -, -, -⟩ := b2
    obtain ⟨-, v0, v1, v2, v3, -, -, -, -⟩ := b1
    replace hVW := hide hVW
    replace hBW2 := hide hBW2
    replace b0 := hide b0
    go_wp2_with fail
    refine wp_region_noPanic ?_
    refine wp_region_held_drew (S := (fun w' => w'.cell? ⟨w2.heap.size, 0, none⟩ = some (.int .i64 r.n) ∧ w'.cell? ⟨w2.heap.size, 1, none⟩ = some (.bool r.o) ∧ w'.cell? ⟨w2.heap.size, 2, none⟩ = some (.bool r.h) ∧ w'.cell? ⟨w2.heap.size, 3, none⟩ = some (.int .i64 r.d) ∧ w'.cell? ⟨w2.heap.size + 1, 0, none⟩ = some (.int .i64 s.n) ∧ w'.cell? ⟨w2.heap.size + 1, 1, none⟩ = some (.bool s.o) ∧ w'.cell? ⟨w2.heap.size + 1, 2, none⟩ = some (.bool s.h) ∧ w'.cell? ⟨w2.heap.size + 1, 3, none⟩ = some (.int .i64 s.d))) (by kernel_rfl) ?_ (fun hHeld => ?_)
    · exact ⟨v0, v1, v2, v3, z0, z1, z2, z3⟩
    refine hTk 0 35 hHeld ?_
    refine hTk 1 36 hHeld ?_
    refine hTk 2 37 hHeld ?_
    refine hTk 3 38 hHeld ?_
    refine hNo 4 fun K hK => ?_
    go_simp; go_at_call 62; refine (refSet_c _ g j s L _ ((unhide hVW).carry (w' := W.drew) (fun _ _ => rfl)) hj (by have := hn.out; omega)).mono ?_; rintro e w3 ⟨v3', g3, rfl, hO3, hg3, hb3⟩; have hB3 := ((Below.refl W.heap.size W).drew).trans hb3; replace hO3 := hide hO3; clear hb3
    refine hK.out _ _ ?_ fun hHeld => ?_
    · exact ⟨keep_cell (hB3.block _ hl1) v0, keep_cell (hB3.block _ hl1) v1, keep_cell (hB3.block _ hl1) v2, keep_cell (hB3.block _ hl1) v3, keep_cell (hB3.block _ hl2) z0, keep_cell (hB3.block _ hl2) z1, keep_cell (hB3.block _ hl2) z2, keep_cell (hB3.block _ hl2) z3⟩
    clear hK K
    try simp only [Act.put, za, zb, zc]
    have b3 := (unhide b0).below hB3
    have e1 := set_bun b3 r
    obtain ⟨-, u0, u1, u2, u3, g0, g1, g2, g4⟩ := b3
    obtain ⟨w4, hw4⟩ : ∃ w4, setB w3 w.heap.size r = w4 := ⟨_, rfl⟩
    rw [hw4] at e1
    dsimp only [setB] at hw4
    have hB4 := hide (((unhide hBW2).trans (hB3.mono (unhide hBW2).size)).trans (e1.2.below (fun i hi => by omega) (by have := hB3.size; omega)))
    have hO4 := hide ((unhide hO3).fr e1.2 (by simp at hg3; omega))
    have e3 := hide e1.1
    have t0 := keep_cell ((e1.2.block w2.heap.size (by have := hB3.size; omega) (by omega)).trans (hB3.block _ hl1)) v0
    have t1 := keep_cell ((e1.2.block w2.heap.size (by have := hB3.size; omega) (by omega)).trans (hB3.block _ hl1)) v1
    have t2 := keep_cell ((e1.2.block w2.heap.size (by have := hB3.size; omega) (by omega)).trans (hB3.block _ hl1)) v2
    have t3 := keep_cell ((e1.2.block w2.heap.size (by have := hB3.size; omega) (by omega)).trans (hB3.block _ hl1)) v3
    have t4 := keep_cell ((e1.2.block (w2.heap.size + 1) (by have := hB3.size; omega) (by omega)).trans (hB3.block _ hl2)) z0
    have t5 := keep_cell ((e1.2.block (w2.heap.size + 1) (by have := hB3.size; omega) (by omega)).trans (hB3.block _ hl2)) z1
    have t6 := keep_cell ((e1.2.block (w2.heap.size + 1) (by have := hB3.size; omega) (by omega)).trans (hB3.block _ hl2)) z2
    have t7 := keep_cell ((e1.2.block (w2.heap.size + 1) (by have := hB3.size; omega) (by omega)).trans (hB3.block _ hl2)) z3
    clear e1
    refine hNo 5 fun K hK => ?_
    go_simp
    refine hK.out _ _ ?_ fun hHeld => ?_
    · exact ⟨t0, t1, t2, t3, t4, t5, t6, t7⟩
    clear hK K
    try simp only [Act.put, za, zb, zc]
    refine hTk 6 11 hHeld ?_
    refine wpAnyH_done (by kernel_rfl) (NoPanic.normal ?_) _
    clear hHeld
    obtain ⟨-, u0, u1, u2, u3, -, -, -, -⟩ := unhide e3
    clear hw4 t0 t1 t2 t3 t4 t5 t6 t7 g0 g1 g2 g4
    go_wp2_with fail
    refine bodyPost_ret (v := .tuple #[bunV r, v3']) (by simp [results, Tryd.results33, go_sem, *]; done) rfl ⟨v3', rfl, g3, ?_⟩
    exact ⟨(unhide hO4).view, .inr (by have := (unhide hBW2).size; simp at hg3; omega), unhide hB4⟩
end Go.Proofs.YtmgjgeaigdiadaaDoor
