/- layer 16: Env16c Two16 Srv16 L16Serves, put together. -/
import Derived.Test.YtmgjgeaigdiadaaDoorB43
import Derived.Test.YtmgjgeaigdiadaaDoorZThInt
import Derived.Test.YtmgjgeaigdiadaaDoorZBegun
import Derived.Test.YtmgjgeaigdiadaaDoorZIntsArg
import Derived.Test.YtmgjgeaigdiadaaDoorB18
import Derived.Test.YtmgjgeaigdiadaaDoorB16
import Derived.Test.YtmgjgeaigdiadaaDoorB13
namespace Go.Proofs.YtmgjgeaigdiadaaDoor
open Go.ChangeShapes Go.WideShapes Go.ChangeAt Go.RowKit
set_option linter.unusedSimpArgs false
set_option linter.unusedVariables false
set_option maxRecDepth 10000
attribute [local go_sem, local simp] over_const setCell_drewN alloc_drewN Over.cell Over.frozen lt_s1 lt_s2 lt_s3 le_s0 le_s1 le_s2 le_s3 eq_s0 eq_s1 eq_s2 qe_s0
structure Hoz (w V : World) (p : Nat) (B : Bh) (F : Nat → Prop) (c : Cf) (N : Nat) (D : Hm) (K : List (Nat × Obj)) : Prop where
  a : Hone w V p B F c N D
  x : Bz w V (Fh p B F) K
theorem Hdz.one {w V : World} {p : Nat} {B : Bh} {F : Nat → Prop} {q : Nat} {Bq : Bd} {G : Nat → Prop} {c : Cf} {N : Nat} {D : Hm} {K : List (Nat × Obj)} (h : Hdz w V p B F q Bq G c N D K) : Hoz w V p B F c N D K :=
  ⟨h.d.a, fun x hx => by
    obtain ⟨q1, q2, q3, q4⟩ := h.x x hx
    exact ⟨q1, q2, fun e => q3 (.inl e), q4⟩⟩
section
variable {w V V' : World} {p : Nat} {B : Bh} {F F2 : Nat → Prop} {c : Cf} {N M : Nat} {D D2 : Hm} {K : List (Nat × Obj)}
theorem Hoz.below (h : Hoz w V p B F c N D K) (hb : Below V.heap.size V V') : Hoz w V' p B F c N D K := ⟨h.a.below hb, h.x.step (Step.of_below hb)⟩
theorem Hoz.new (h : Hoz w V p B F c N D K) (o : Obj) : Hoz w (V.alloc o) p B F c N D ((V.heap.size, o) :: K) := by
  have h2 := h.below (V' := V.alloc o) ((Below.refl _ _).alloc (Nat.le_refl _) _)
  refine ⟨h2.a, fun x hx => ?_⟩
  rcases List.mem_cons.1 hx with rfl | hx
  · exact ⟨h.a.bel.size, by simp, fun e => by have := h.a.n.lt _ e; omega, heap_alloc_new _ _⟩
  · exact h2.x x hx
theorem Hoz.step (h : Hoz w V p B F c N D K) (hn : HmIs V' p B F2 c M D2) (hs : Step (Fh p B F) (Fh p B F2) V V') : Hoz w V' p B F2 c M D2 K := ⟨h.a.step hn hs, h.x.step hs⟩
theorem Hoz.head {k : Nat} {cs : Array Value} {T : TypeId} (h : Hoz w V p B F c N D ((k, .cells cs T (0, 0)) :: K)) (hk : ∀ x ∈ K, x.1 ≠ k) (i : Nat) (u : Value) : Hoz w (V.setCell ⟨k, i, none⟩ u) p B F c N D ((k, .cells (cs.setIfInBounds i u) T (0, 0)) :: K) := by
  obtain ⟨h1, h2, h3, h4⟩ := h.x (k, .cells cs T (0, 0)) (by simp)
  have hf : FrS (· = k) V (V.setCell ⟨k, i, none⟩ u) := wrK (FrS.refl _ _) u
  refine ⟨h.a.frk hf h1 h3, fun x hx => ?_⟩
  rcases List.mem_cons.1 hx with rfl | hx
  · exact ⟨h1, by simpa using h2, h3, heap_setCell_same _ _ _ _ _ _ h4⟩
  · obtain ⟨q1, q2, q3, q4⟩ := h.x x (by simp [hx])
    exact ⟨q1, by simpa using q2, q3, (Below.heap_setCell _ _ _ _ (hk x hx)).trans q4⟩
theorem Hoz.frs {Fx : Nat → Prop} (h : Hoz w V p B F c N D K) (hf : FrS Fx V V') (h0 : ∀ i, Fx i → w.heap.size ≤ i) (hF : ∀ b, Fh p B F b → ¬ Fx b) (hK : ∀ x ∈ K, ¬ Fx x.1) : Hoz w V' p B F c N D K :=
  ⟨⟨h.a.n.fr hf hF, h.a.lo, h.a.bel.trans (hf.below h0 h.a.bel.size)⟩, fun x hx => by
    obtain ⟨q1, q2, q3, q4⟩ := h.x x hx
    exact ⟨q1, Nat.lt_of_lt_of_le q2 hf.size, q3, (hf.block _ q2 (hK x hx)).trans q4⟩⟩
theorem Hoz.sub {K' : List (Nat × Obj)} (h : Hoz w V p B F c N D K) (hK : ∀ x ∈ K', x ∈ K) : Hoz w V p B F c N D K' := ⟨h.a, fun x hx => h.x x (hK x hx)⟩
end
structure Hwo (w V : World) (p q : Nat) (B B' : Bh) (F F' : Nat → Prop) (c : Cf) (N N' : Nat) (D D' : Hm) : Prop where
  n : HmIs V p B F c N D
  k : HmIs V q B' F' c N' D'
  ap : ∀ b, Fh p B F b → ¬ Fh q B' F' b
  lo : ∀ b, Fh p B F b → w.heap.size ≤ b
  lo' : ∀ b, Fh q B' F' b → w.heap.size ≤ b
  bel : Below w.heap.size w V
section
variable {w V V' : World} {p q : Nat} {B B' : Bh} {F F' F2 : Nat → Prop} {c : Cf} {N N' M : Nat} {D D' D2 : Hm}
theorem Hwo.swap (h : Hwo w V p q B B' F F' c N N' D D') : Hwo w V q p B' B F' F c N' N D' D := ⟨h.k, h.n, fun b h1 h2 => h.ap b h2 h1, h.lo', h.lo, h.bel⟩
theorem Hwo.below (h : Hwo w V p q B B' F F' c N N' D D') (hb : Below V.heap.size V V') : Hwo w V' p q B B' F F' c N N' D D' := ⟨h.n.below hb, h.k.below hb, h.ap, h.lo, h.lo', h.bel.trans (hb.mono h.bel.size)⟩
theorem Hwo.alloc (h : Hwo w V p q B B' F F' c N N' D D') (o : Obj) : Hwo w (V.alloc o) p q B B' F F' c N N' D D' := h.below ((Below.refl _ _).alloc (Nat.le_refl _) _)
theorem Hwo.step (h : Hwo w V p q B B' F F' c N N' D D') (hn : HmIs V' p B F2 c M D2) (hs : Step (Fh p B F) (Fh p B F2) V V') : Hwo w V' p q B B' F2 F' c M N' D2 D' :=
  ⟨hn, h.k.fr hs.fr (fun b h1 h2 => h.ap b h2 h1), fun b h1 h2 => by
    rcases hs.new b h1 with e | e
    · exact h.ap b e h2
    · have := h.k.lt b h2; omega, hs.lo h.lo h.bel.size, h.lo', hs.belowW h.bel h.lo⟩
theorem Hwo.aside {X : Nat → Prop} (h : Hwo w V p q B B' F F' c N N' D D') (hf : FrS X V V') (hX : ∀ b, X b → w.heap.size ≤ b) (h1 : ∀ b, Fh p B F b → ¬ X b) (h2 : ∀ b, Fh q B' F' b → ¬ X b) : Hwo w V' p q B B' F F' c N N' D D' :=
  ⟨h.n.fr hf h1, h.k.fr hf h2, h.ap, h.lo, h.lo', h.bel.trans (hf.below hX h.bel.size)⟩
theorem Hone.two (h : Hone w V p B F c N D) (hk : HmIs V' q B' F' c N' D') (hl : ∀ b, Fh q B' F' b → V.heap.size ≤ b) (hb : Below V.heap.size V V') : Hwo w V' p q B B' F F' c N N' D D' :=
  ⟨h.n.below hb, hk, fun b h1 h2 => by have := h.n.lt b h1; have := hl b h2; omega, h.lo, fun b h2 => Nat.le_trans h.bel.size (hl b h2), h.bel.trans (hb.mono h.bel.size)⟩
end
structure Gd16 (s b : Nat) (X : Nat → Prop) (v : Value) (g : Nat) : Prop where
  lies : g = b ∨ s ≤ g
  nx : ¬ X g
  nil : g = b → v = .slice none 0 0
theorem Gd16.mono {s b : Nat} {X Y : Nat → Prop} {v : Value} {g : Nat} (h : Gd16 s b X v g) (hY : ¬ Y g) : Gd16 s b Y v g := ⟨h.lies, hY, h.nil⟩
theorem gd16_app {s b : Nat} {X : Nat → Prop} {W W' : World} {v v' : Value} {g g' : Nat} (hb : b < s) (hd : Gd16 s b X v g) (hW : s ≤ W.heap.size) (hX : ∀ i, X i → i < W.heap.size) (hap : AppP W W' v v' g g') :
    Gd16 s b X v' g' ∧ FrS (fun x => x = g ∧ s ≤ x) W W' ∧ (g' = g ∨ W.heap.size ≤ g') := by
  obtain ⟨h1, h2, h4⟩ := hd
  refine ⟨⟨?_, ?_, ?_⟩, ?_, hap.lies⟩
  · rcases hap.lies with e | e
    · rw [e]; exact h1
    · exact .inr (by omega)
  · rcases hap.lies with e | e
    · rw [e]; exact h2
    · intro h; have := hX _ h; omega
  · intro e
    rcases hap.lies with e' | e'
    · exact hap.keep e' (h4 (e'.symm.trans e))
    · rcases h1 with h1 | h1
      · exact hap.keep (by omega) (h4 h1)
      · omega
  · by_cases e : g = b
    · exact FrS.of_below (hap.nil (h4 e))
    · exact hap.fr.mono (fun i _ hi => ⟨hi, by rw [hi]; rcases h1 with h1 | h1; exact absurd h1 e; exact h1⟩)
def Lies (V : World) (X : Nat → Prop) (x : Sl) (L : List Lt) : Prop := ∃ g1, ViewT V (.slice x.a x.n x.c) g1 L ∧ (L ≠ [] → ¬ X g1 ∧ g1 < V.heap.size)
theorem Lies.fr {V V' : World} {X X' Y : Nat → Prop} {x : Sl} {L : List Lt} (h : Lies V X x L) (hf : FrS Y V V') (hY : ∀ b, Y b → X b) (hX : ∀ b, X' b → X b ∨ V.heap.size ≤ b) : Lies V' X' x L := by
  obtain ⟨g1, h1, h3⟩ := h
  refine ⟨g1, h1.fr hf (fun e h => (h3 e).1 (hY _ h)), fun e => ⟨fun hx => ?_, Nat.lt_of_lt_of_le (h3 e).2 hf.size⟩⟩
  rcases hX _ hx with q | q
  · exact (h3 e).1 q
  · have := (h3 e).2; omega
theorem Lies.below {V V' : World} {X : Nat → Prop} {x : Sl} {L : List Lt} (h : Lies V X x L) (hb : Below V.heap.size V V') : Lies V' X x L := h.fr (Y := fun _ => False) (FrS.of_below hb) (fun _ h => h.elim) (fun _ h => .inl h)
theorem Lies.mono {V : World} {X X' : Nat → Prop} {x : Sl} {L : List Lt} (h : Lies V X x L) (hX : ∀ b, X' b → X b) : Lies V X' x L := h.fr (Y := fun _ => False) (FrS.refl _ _) (fun _ h => h.elim) (fun b h => .inl (hX b h))
def actL (c : Cf) (D : Hm) (x : Ac) : List Lt := htL c D x.l x.d0 x.d1
def nxAc (c : Cf) (D : Hm) (x : Ac) : Hm := nxHT c D x.l x.d0 x.d1
def play16 (c : Cf) (D : Hm) (A : List Ac) : Hm := A.foldl (nxAc c) D
def ac0 : Ac := ⟨lt0, 0, 0, 0, false⟩
def atB (A : List Ac) (j : Nat) : Ac := (A[j]?).getD ac0
def otO (O : List Sl) (j : Nat) : Sl := (O[j]?).getD ⟨none, 0, 0⟩
theorem play16_snoc (c : Cf) (D : Hm) (A : List Ac) (j : Nat) (hj : j < A.length) : play16 c D (A.take (j + 1)) = nxAc c (play16 c D (A.take j)) (atB A j) := by
  have e : A.take (j + 1) = A.take j ++ [A[j]] := by rw [List.take_add_one, List.getElem?_eq_getElem hj]; rfl
  rw [e]
  simp only [play16, List.foldl_append, List.foldl_cons, List.foldl_nil, atB, List.getElem?_eq_getElem hj, Option.getD_some]
theorem otO_old (O : List Sl) (x : Sl) {j : Nat} (h : j < O.length) : otO (O ++ [x]) j = otO O j := by unfold otO; rw [List.getElem?_append_left h]
theorem otO_new (O : List Sl) (x : Sl) : otO (O ++ [x]) O.length = x := by unfold otO; simp
theorem otO_get {O : List Sl} {j : Nat} (h : j < O.length) : O[j] = otO O j := by unfold otO; rw [List.getElem?_eq_getElem h]; rfl
theorem atB_get {A : List Ac} {j : Nat} (h : j < A.length) : A[j] = atB A j := by unfold atB; rw [List.getElem?_eq_getElem h]; rfl
theorem atB_drop (A : List Ac) (h j : Nat) : atB (A.drop h) j = atB A (h + j) := by unfold atB; rw [List.getElem?_drop]
theorem atB_mem {A : List Ac} {j : Nat} (h : j < A.length) : atB A j ∈ A := by rw [← atB_get h]; exact List.getElem_mem h
theorem lies_out {V V5 : World} {p : Nat} {B : Bh} {F F5 Y : Nat → Prop} {c : Cf} {N : Nat} {D : Hm} {L : List Lt} {a1 : Option Addr} {c1 g1 : Nat} (hO : HutP V p B F F5 c N D L (.slice a1 L.length c1) V5 g1) (hY : ∀ x, Y x → x < V.heap.size) : Lies V5 (fun x => Fh p B F5 x ∨ Y x) ⟨a1, L.length, c1⟩ L :=
  ⟨g1, hO.own.view, fun _ => ⟨fun h => by rcases h with h | h; exact hO.nf h; have := hY _ h; have := hO.new; omega, hO.own.lt⟩⟩
structure Outs (w V : World) (b : Nat) (X : Nat → Prop) (v : Value) (g : Nat) (O : List Sl) (n : Nat) (SL : Nat → List Lt) : Prop where
  own : OwnSl V v g O
  len : O.length = n
  gd : Gd16 w.heap.size b X v g
  lies : ∀ t, t < n → Lies V (fun x => X x ∨ x = g) (otO O t) (SL t)
section
variable {w V V' : World} {b g g' n : Nat} {X X' Y : Nat → Prop} {v v' : Value} {O : List Sl} {SL : Nat → List Lt} {x : Sl}
theorem Outs.step (h : Outs w V b X v g O n SL) (hf : FrS Y V V') (hY : ∀ x, Y x → X x) (hX : ∀ x, X' x → X x ∨ V.heap.size ≤ x) : Outs w V' b X' v g O n SL :=
  ⟨h.own.fr hf (fun e => h.gd.nx (hY _ e)), h.len, h.gd.mono (fun e => by
    rcases hX _ e with q | q
    · exact h.gd.nx q
    · have := h.own.lt; omega), fun t ht => (h.lies t ht).fr hf (fun b h => .inl (hY b h)) (fun b hb => by
    rcases hb with hb | hb
    · rcases hX _ hb with q | q
      · exact .inl (.inl q)
      · exact .inr q
    · exact .inl (.inr hb))⟩
theorem Outs.below (h : Outs w V b X v g O n SL) (hb : Below V.heap.size V V') : Outs w V' b X v g O n SL := h.step (Y := fun _ => False) (FrS.of_below hb) (fun _ h => h.elim) (fun _ h => .inl h)
theorem Outs.app (h : Outs w V b X v g O n SL) (hb : b < w.heap.size) (hW : w.heap.size ≤ V.heap.size) (hX : ∀ i, X i → i < V.heap.size) (hown : OwnSl V' v' g' (O ++ [x])) (hap : AppP V V' v v' g g') (hl : Lies V (fun y => X y ∨ y = g) x (SL n)) :
    Outs w V' b X v' g' (O ++ [x]) (n + 1) SL ∧ FrS (fun y => y = g ∧ w.heap.size ≤ y) V V' := by
  obtain ⟨h1, h2, h3⟩ := gd16_app hb h.gd hW hX hap
  have key : ∀ {z : Sl} {L : List Lt}, Lies V (fun y => X y ∨ y = g) z L → Lies V' (fun y => X y ∨ y = g') z L := fun q => q.fr h2 (fun _ e => .inr e.1) (fun y hy => by
    rcases hy with hy | hy
    · exact .inl (.inl hy)
    · rcases h3 with e | e
      · exact .inl (.inr (hy.trans e))
      · exact .inr (by omega))
  refine ⟨⟨hown, by simp [h.len], h1, fun t ht => ?_⟩, h2⟩
  by_cases e : t < n
  · rw [otO_old O x (by rw [h.len]; exact e)]
    exact key (h.lies t e)
  · obtain rfl : t = n := by omega
    have : otO (O ++ [x]) t = x := by rw [← h.len]; exact otO_new O x
    rw [this]
    exact key hl
end
structure Srv (w V : World) (p : Nat) (B : Bh) (F : Nat → Prop) (c : Cf) (N : Nat) (D : Hm) (kc : Nat) (o : Obj) (v1 : Value) (g1 : Nat) (W : List Int) (v2 : Value) (g2 : Nat) (G : List Int) : Prop where
  z : Hoz w V p B F c N D [(kc, o)]
  o1 : Own V v1 g1 W
  o2 : Own V v2 g2 G
  d1 : Gd16 w.heap.size 0 (fun x => Fh p B F x ∨ x = kc ∨ (x = g2 ∧ w.heap.size ≤ x)) v1 g1
  d2 : Gd16 w.heap.size 0 (fun x => Fh p B F x ∨ x = kc ∨ (x = g1 ∧ w.heap.size ≤ x)) v2 g2
section
variable {w V V' : World} {p : Nat} {B : Bh} {F F2 : Nat → Prop} {c : Cf} {N M : Nat} {D D2 : Hm} {kc : Nat} {o : Obj} {v1 v2 v' : Value} {g1 g2 g' : Nat} {W G X : List Int}
theorem Srv.swap (h : Srv w V p B F c N D kc o v1 g1 W v2 g2 G) : Srv w V p B F c N D kc o v2 g2 G v1 g1 W := ⟨h.z, h.o2, h.o1, h.d2, h.d1⟩
theorem Srv.below (h : Srv w V p B F c N D kc o v1 g1 W v2 g2 G) (hb : Below V.heap.size V V') : Srv w V' p B F c N D kc o v1 g1 W v2 g2 G := ⟨h.z.below hb, h.o1.below hb, h.o2.below hb, h.d1, h.d2⟩
theorem Srv.step (h : Srv w V p B F c N D kc o v1 g1 W v2 g2 G) (hn : HmIs V' p B F2 c M D2) (hs : Step (Fh p B F) (Fh p B F2) V V') : Srv w V' p B F2 c M D2 kc o v1 g1 W v2 g2 G := by
  have nf : ∀ g, g < V.heap.size → ¬ Fh p B F g → ¬ Fh p B F2 g := fun g hl hn e => by
    rcases hs.new g e with e2 | e2
    · exact hn e2
    · omega
  refine ⟨h.z.step hn hs, h.o1.fr hs.fr (fun e => h.d1.nx (.inl e)), h.o2.fr hs.fr (fun e => h.d2.nx (.inl e)), h.d1.mono (fun e => ?_), h.d2.mono (fun e => ?_)⟩
  · rcases e with e | e
    · exact nf g1 h.o1.lt (fun q => h.d1.nx (.inl q)) e
    · exact h.d1.nx (.inr e)
  · rcases e with e | e
    · exact nf g2 h.o2.lt (fun q => h.d2.nx (.inl q)) e
    · exact h.d2.nx (.inr e)
theorem Srv.app1 (h : Srv w V p B F c N D kc o v1 g1 W v2 g2 G) (h0 : 0 < w.heap.size) (hown : Own V' v' g' (W ++ X)) (hap : AppP V V' v1 v' g1 g') : Srv w V' p B F c N D kc o v' g' (W ++ X) v2 g2 G := by
  have hk := (h.z.x (kc, o) (by simp)).2.1
  obtain ⟨a1, a2, a3⟩ := gd16_app h0 h.d1 h.z.a.bel.size (fun i e => by
    rcases e with e | e | e
    · exact h.z.a.n.lt i e
    · dsimp only at hk; omega
    · have := h.o2.lt; omega) hap
  have hne : ∀ x, (x = g2 ∧ w.heap.size ≤ x) → x ≠ g1 := fun x e q => h.d1.nx (.inr (.inr ⟨q ▸ e.1, q ▸ e.2⟩))
  refine ⟨h.z.frs a2 (fun i e => e.2) (fun b hb e => h.d1.nx (.inl (e.1 ▸ hb))) (fun x hx e => ?_), hown, h.o2.fr a2 (fun e => hne g2 ⟨rfl, e.2⟩ e.1), a1, h.d2.mono (fun e => ?_)⟩
  · simp only [List.mem_cons, List.not_mem_nil, or_false] at hx
    subst hx
    exact h.d1.nx (.inr (.inl e.1.symm))
  · rcases e with e | e | e
    · exact h.d2.nx (.inl e)
    · exact h.d2.nx (.inr (.inl e))
    · rcases a3 with q | q
      · exact h.d2.nx (.inr (.inr ⟨e.1.trans q, e.2⟩))
      · have := h.o2.lt; omega
theorem Srv.app2 (h : Srv w V p B F c N D kc o v1 g1 W v2 g2 G) (h0 : 0 < w.heap.size) (hown : Own V' v' g' (G ++ X)) (hap : AppP V V' v2 v' g2 g') : Srv w V' p B F c N D kc o v1 g1 W v' g' (G ++ X) := (h.swap.app1 h0 hown hap).swap
theorem Hoz.srv (h : Hoz w V p B F c N D [(kc, o)]) (h0 : 0 < w.heap.size) : Srv w V p B F c N D kc o (.slice none 0 0) 0 [] (.slice none 0 0) 0 [] := by
  have hV : 0 < V.heap.size := Nat.lt_of_lt_of_le h0 h.a.bel.size
  have hk := (h.x (kc, o) (by simp)).1
  have d : Gd16 w.heap.size 0 (fun x => Fh p B F x ∨ x = kc ∨ (x = 0 ∧ w.heap.size ≤ x)) (.slice none 0 0) 0 := ⟨.inl rfl, fun e => by
    rcases e with e | e | e
    · have := h.a.lo 0 e; omega
    · dsimp only at hk; omega
    · omega, fun _ => rfl⟩
  exact ⟨h, own_nil hV, own_nil hV, d, d⟩
end
theorem view_of_rowI {w : World} {base n : Nat} {v : Value} {L : List Int} (h : w.ownsRow base 3 1 v n (ints L)) : ∃ g, View w v g L := by
  obtain ⟨h1, h2⟩ := h
  rw [ints_length, Nat.mul_one] at h1
  by_cases hn : 1 ≤ n
  · obtain ⟨g, hO, -⟩ := own_of_rowI ⟨by rw [ints_length, Nat.mul_one]; exact h1, h2⟩ hn
    exact ⟨g, hO.view⟩
  · have e : L = [] := List.eq_nil_of_length_eq_zero (by omega)
    subst e
    rcases h2 with ⟨rfl, rfl⟩ | ⟨g, cap, cur, rfl, h3, h4, h5, h6, h7, h8⟩
    · exact ⟨0, none, 0, rfl, Nat.le_refl _, Nat.zero_le _, .inl rfl⟩
    · obtain rfl : n = 0 := by omega
      exact ⟨g, some ⟨g, 0, none⟩, cap, rfl, Nat.zero_le _, h6, .inl rfl⟩
set_option maxHeartbeats 4000000 in
theorem servesNo_walk (c : Cf) (ao : Option Addr) (n cap : Nat) (w : World) (hT : Hid (Tab w)) (hn : n ≤ 9223372036854775807) (hno : ¬ (cfgZ c.n c.bl c.tt c.cs c.cy c.cc c.cu c.ct c.cp = 0)) : Calls Tryd.prog 6 #[.agg #[.int .i64 c.n, .int .i64 c.bl, .int .i64 c.tt, .int .i64 c.cs, .int .i64 c.cy, .int .i64 c.cc, .int .i64 c.cu, .int .i64 c.ct, .int .i64 c.cp], .slice ao n cap] w fun e w' => e = .returned (.bool true) ∧ Below w.heap.size w w' := by
  have hz' : ¬ (cfgZ c.n c.bl c.tt c.cs c.cy c.cc c.cu c.ct c.cp = 0 ∧ 0 ≤ 200) := fun e => hno e.1
  replace hz' := hide hz'
  clear hno hn
  go_enter Tryd.func6, Tryd.ntmps6
  go_upto_region 1 with fail
  refine name_world ?_
  intro V hV
  have hB : Hid (Below w.heap.size w V) := by rw [← hV]; exact hide (by all_goals exact belEnd)
  have hX : Hid (V.heap[w.heap.size]? = some (cfR c)) := by rw [← hV]; exact hide (heap_alloc_new w (cfR c))
  clear hV
  obtain ⟨kc, hkc⟩ : ∃ k, Hid (w.heap.size = k) := ⟨_, hide rfl⟩
  rw [hkc.out] at hX
  rw [hkc.out]
  obtain ⟨c0, c1, c2, c3, c4, c5, c6, c7, c8⟩ := cf_at hX.out
  have lc : kc < V.heap.size := (Array.getElem?_eq_some_iff.1 hX.out).1
  go_wp2_with (first | (go_at_call 9; refine (madeNo_c c none 0 0 _ hz'.out (by decide)).mono ?_; rintro e w1 ⟨rfl, hb1⟩; obtain ⟨x, rfl⟩ := over hb1; clear hb1; have f1 := x.upB kc) | (go_at_call 10; refine (awake16_c _ (hide (hT.out.lowH (hB.out.trans (Below.mono (B := V.heap.size) (by all_goals exact belEnd) hB.out.size))))).mono ?_; rintro e w2 ⟨rfl, hb2⟩; obtain ⟨y, rfl⟩ := over2 hb2; clear hb2; have f2 := y.upB kc))
  go_ret
  refine ⟨rfl, ?_⟩
  exact hB.out.trans (Below.mono (B := V.heap.size) (by all_goals exact belEnd) hB.out.size)
set_option maxHeartbeats 8000000 in
theorem servesLong_walk (c : Cf) (ao : Option Addr) (n cap : Nat) (w : World) (hT : Hid (Tab w)) (hn : n ≤ 9223372036854775807) (h0 : Hid (cfgZ c.n c.bl c.tt c.cs c.cy c.cc c.cu c.ct c.cp = 0)) (hl : 50 < n) : Calls Tryd.prog 6 #[.agg #[.int .i64 c.n, .int .i64 c.bl, .int .i64 c.tt, .int .i64 c.cs, .int .i64 c.cy, .int .i64 c.cc, .int .i64 c.cu, .int .i64 c.ct, .int .i64 c.cp], .slice ao n cap] w fun e w' => e = .returned (.bool true) ∧ Below w.heap.size w w' := by
  have hl2 : (50 : Int) < n := by omega
  clear hl
  go_enter Tryd.func6, Tryd.ntmps6
  go_upto_region 1 with fail
  refine name_world ?_
  intro V hV
  have hB : Hid (Below w.heap.size w V) := by rw [← hV]; exact hide (by all_goals exact belEnd)
  have hX : Hid (V.heap[w.heap.size]? = some (cfR c)) := by rw [← hV]; exact hide (heap_alloc_new w (cfR c))
  clear hV
  obtain ⟨kc, hkc⟩ : ∃ k, Hid (w.heap.size = k) := ⟨_, hide rfl⟩
  rw [hkc.out] at hX
  rw [hkc.out]
  obtain ⟨c0, c1, c2, c3, c4, c5, c6, c7, c8⟩ := cf_at hX.out
  have lc : kc < V.heap.size := (Array.getElem?_eq_some_iff.1 hX.out).1
  go_upto_region 2 with (go_at_call 9; refine (madeOk_c c none 0 0 _ h0 (by decide)).mono ?_; rintro e w1 ⟨p, q0, rfl, B, F, Bq, G, hd1⟩; replace hd1 := hide hd1; clear c0 c1 c2 c3 c4 c5 c6 c7 c8 lc)
  have P1 : Hid (Hoz w w1 p B F c 0 (hm0 c) [(kc, cfR c)]) := hide (made_hdz hB.out hd1.out hX.out (by rw [hkc.out]; exact Nat.le_refl _)).one
  clear hd1 hX hB
  go_wp2_with fail
  go_at_call 10
  refine (awake16_c _ (hide (hT.out.lowH P1.out.a.bel))).mono ?_
  rintro e w2 ⟨rfl, hb2⟩
  have P2 := hide (P1.out.below hb2)
  clear hb2 P1
  go_wp2_with (go_at_call 10; refine (awake16_c _ (hide (hT.out.lowH P2.out.a.bel))).mono ?_; rintro e w4 ⟨rfl, hb4⟩; have P4 := hide (P2.out.below hb4); clear hb4)
  go_ret
  exact ⟨rfl, P4.out.a.bel⟩
set_option maxHeartbeats 8000000 in
theorem servesOk_walk (c : Cf) (ao : Option Addr) (cap : Nat) (A : List Int) (w : World) (hT : Hid (Tab w)) (hA : Hid (IntsAt w.heap.size w (.slice ao A.length cap) A)) (hlen : Hid (A.length ≤ 50)) (h0 : Hid (cfgZ c.n c.bl c.tt c.cs c.cy c.cc c.cu c.ct c.cp = 0)) : Calls Tryd.prog 6 #[.agg #[.int .i64 c.n, .int .i64 c.bl, .int .i64 c.tt, .int .i64 c.cs, .int .i64 c.cy, .int .i64 c.cc, .int .i64 c.cu, .int .i64 c.ct, .int .i64 c.cp], .slice ao A.length cap] w fun e w' => e = .returned (.bool true) ∧ Below w.heap.size w w' := by
  have hma : A.length ≤ 9223372036854775807 := by have := hlen.out; omega
  have hl2 : ¬ (50 : Int) < A.length := by have := hlen.out; omega
  go_enter Tryd.func6, Tryd.ntmps6
  go_upto_region 1 with fail
  refine name_world ?_
  intro V hV
  have hB : Hid (Below w.heap.size w V) := by rw [← hV]; exact hide (by all_goals exact belEnd)
  have hX : Hid (V.heap[w.heap.size]? = some (cfR c)) := by rw [← hV]; exact hide (heap_alloc_new w (cfR c))
  clear hV
  obtain ⟨kc, hkc⟩ : ∃ k, Hid (w.heap.size = k) := ⟨_, hide rfl⟩
  rw [hkc.out] at hX
  rw [hkc.out]
  obtain ⟨c0, c1, c2, c3, c4, c5, c6, c7, c8⟩ := cf_at hX.out
  have lc : kc < V.heap.size := (Array.getElem?_eq_some_iff.1 hX.out).1
  go_upto_region 2 with (go_at_call 9; refine (madeOk_c c none 0 0 _ h0 (by decide)).mono ?_; rintro e w1 ⟨p, q0, rfl, B, F, Bq, G, hd1⟩; replace hd1 := hide hd1; clear c0 c1 c2 c3 c4 c5 c6 c7 c8 lc)
  have P1 : Hid (Hoz w w1 p B F c 0 (hm0 c) [(kc, cfR c)]) := hide (made_hdz hB.out hd1.out hX.out (by rw [hkc.out]; exact Nat.le_refl _)).one
  clear hd1 hX hB
  go_wp2_with fail
  go_at_call 10
  refine (awake16_c _ (hide (hT.out.lowH P1.out.a.bel))).mono ?_
  rintro e w2 ⟨rfl, hb2⟩
  have P2 := hide (P1.out.below hb2)
  clear hb2 P1
  have hok := hide P2.out.a.n.ok
  have h00 := hT.out.1
  have S2 := hide (P2.out.srv h00)
  have hrow0 : Hid (getQ (hm0 c).L 0 = rq0) := hide (by
    have hb0 := hok.out.b0
    rw [show (0 : Int) = ((0 : Nat) : Int) from rfl, getQ_at (by simp [hm0]; omega)]
    simp [hm0])
  have hlen0 : Hid (0 < (hm0 c).L.length) := hide (by have := hok.out.b0; simp [hm0]; omega)
  clear P2
  go_wp2_with fail
  go_loopw [8, 9, 36] (fun vw vg i wr => ∃ (j gw gg : Nat) (F : Nat → Prop) (N : Nat) (D : Hm) (W : List Int), i = .int .i64 j ∧ j ≤ A.length ∧ N ≤ j ∧ W.length ≤ j ∧ SA W (getQ D.L 0) ∧ 0 < D.L.length ∧ Srv w wr p B F c N D kc (cfR c) vw gw W vg gg (W.take 1)) (fun _ _ i _ => A.length - (intOf i).toNat)
  case atStart => exact ⟨0, 0, 0, _, 0, _, [], rfl, Nat.zero_le _, Nat.le_refl _, Nat.le_refl _, .inl ⟨rfl, hrow0.out⟩, hlen0.out, S2.out⟩
  case round =>
    clear S2 hrow0 hlen0
    obtain ⟨j, gw, gg, F, N, D, W, rfl, hj, hN, hWl, hSA, hDl, S3⟩ := hrel
    replace S3 := hide S3
    replace hN := hide hN
    replace hSA := hide hSA
    replace hDl := hide hDl
    replace hWl := hide hWl
    by_cases hlt : j < A.length
    · have hlt' : (j : Int) < A.length := by omega
      obtain ⟨bA, hvA, -⟩ := hA.out.below S3.out.z.a.bel
      obtain ⟨-, -, -, kA⟩ := view_at hvA rfl
      obtain ⟨oA, rfl, hbA, a0⟩ := kA j hlt
      obtain ⟨y, hy⟩ : ∃ y, A[j] = y := ⟨_, rfl⟩
      rw [hy] at a0
      clear hy kA hvA
      obtain ⟨nd, hnd⟩ : ∃ x, Hid (nodeB y c.n = x) := ⟨_, hide rfl⟩
      obtain ⟨c0, c1, c2, c3, c4, c5, c6, c7, c8⟩ := cf_at (bz_get S3.out.z.x (k := kc) (o := cfR c) (by simp)).2
      have hkc2 := (bz_get S3.out.z.x (k := kc) (o := cfR c) (by simp)).1
      go_upto_region 8 with fail
      clear a0
      cases nd
      · go_wp2_with (go_at_call 24; refine (refNode_c c.n c.bl c.tt c.cs c.cy c.cc c.cu c.ct c.cp y _ false hnd).mono ?_; rintro e w4 ⟨rfl, hb4⟩; have S4 := hide (S3.out.below hb4); clear hb4)
        go_roundw
        case rel => exact ⟨j + 1, gw, gg, F, N, D, W, by simp, by omega, by have := hN.out; omega, by have := hWl.out; omega, hSA.out, hDl.out, S4.out⟩
        case measure => simp [intOf]; omega
      · obtain ⟨y0, y1⟩ := nodeB_true.1 hnd.out
        obtain ⟨e1, e2, e3⟩ := hv_ask hok.out hDl.out y0 y1 hSA.out
        obtain ⟨L, hL⟩ : ∃ L, Hid (htL c D ⟨3, y, c.n, 0, 0, 0, false, 0, false, false, 0⟩ 0 0 = L) := ⟨_, rfl⟩
        obtain ⟨D2, hD2⟩ : ∃ L, Hid (nxHT c D ⟨3, y, c.n, 0, 0, 0, false, 0, false, false, 0⟩ 0 0 = L) := ⟨_, rfl⟩
        rw [hL.out] at e2
        rw [hD2.out] at e1 e3
        replace e1 := hide e1
        replace e2 := hide e2
        replace e3 := hide e3
        clear y0 y1
        obtain ⟨aw, cw, ew, -⟩ := _root_.id S3.out.o1
        obtain ⟨ag, cg, eg, -⟩ := _root_.id S3.out.o2
        obtain ⟨lw, hlw⟩ : ∃ x, Hid (W.length = x) := ⟨_, hide rfl⟩
        obtain ⟨lg, hlg⟩ : ∃ x, Hid ((W.take 1).length = x) := ⟨_, hide rfl⟩
        rw [hlw.out] at ew
        rw [hlg.out] at eg
        subst ew eg
        have hw50 : Hid (lw ≤ 50) := hide (by have := hWl.out; have := hlw.out; have := hlen.out; omega)
        have hg1 : Hid (lg ≤ 1) := hide (by have := hlg.out; rw [List.length_take] at this; omega)
        go_upto_region 9 with (go_at_call 24; refine (refNode_c c.n c.bl c.tt c.cs c.cy c.cc c.cu c.ct c.cp y _ true hnd).mono ?_; rintro e w4 ⟨rfl, hb4⟩; have S4 := hide (S3.out.below hb4); clear hb4 S3 c0 c1 c2 c3 c4 c5 c6 c7 c8 hkc2; obtain ⟨c0, c1, c2, c3, c4, c5, c6, c7, c8⟩ := cf_at (bz_get S4.out.z.x (k := kc) (o := cfR c) (by simp)).2; have hkc2 := (bz_get S4.out.z.x (k := kc) (o := cfR c) (by simp)).1)
        go_upto_region 10 with (at_builtin; refine wpList_app rfl _ _ rfl rfl rfl (S4.out.o1.alloc _) (view_oneI _ y) (by rw [hlw.out]; have := hw50.out; simp; omega) (lw + 1) (by rw [hlw.out]; rfl) ?_; intro ao5 cap5 w5 g5 hown5 hap5; have S5 := hide ((S4.out.below ((Below.refl _ _).alloc (Nat.le_refl _) _)).app1 h00 hown5 hap5); clear hown5 hap5 S4 c0 c1 c2 c3 c4 c5 c6 c7 c8 hkc2)
        obtain ⟨c0, c1, c2, c3, c4, c5, c6, c7, c8⟩ := cf_at (bz_get S5.out.z.x (k := kc) (o := cfR c) (by simp)).2
        have hkc2 := (bz_get S5.out.z.x (k := kc) (o := cfR c) (by simp)).1
        go_wp2_with fail
        go_at_call 13
        refine (hmTake_c p B F c N D ⟨3, y, c.n, 0, 0, 0, false, 0, false, false, 0⟩ 0 0 0 _ S5.out.z.a.n (hide (hT.out.lowH S5.out.z.a.bel)) (hide (S5.out.z.a.no0 hT.out)) (by have := hN.out; have := hlen.out; omega) (i64_of_small (x := 3) (by decide) (by decide)) L hL).mono ?_
        rintro e w6 ⟨v6, rfl, F6, g6, hO⟩
        rw [hD2.out] at hO
        have S6 := hide (S5.out.step hO.nd hO.st)
        have ow6 := hide hO.own.view
        clear hO S5
        clear c0 c1 c2 c3 c4 c5 c6 c7 c8 hkc2
        go_wp2_with fail
        go_at_call 25
        have hL64 : L.length ≤ 1000 := by
          rw [← hL.out]
          have := hok.out.n1
          exact htL_len c D _ 0 0 (by omega)
        refine (begun_c v6 g6 L _ ow6.out hL64).mono ?_
        rintro e w7 ⟨v7, n7, rfl, hr7, hb7⟩
        obtain ⟨g7, hv7⟩ := view_of_rowI hr7
        have S7 := hide (S6.out.below hb7)
        obtain ⟨X, hX⟩ : ∃ X, Hid (begL L = X) := ⟨_, hide rfl⟩
        rw [hX.out] at hv7 e2
        obtain ⟨lx, hlx⟩ : ∃ x, Hid (X.length = x) := ⟨_, hide rfl⟩
        have hx1000 : Hid (lx ≤ 1000) := hide (by have := begL_len L; rw [hX.out, hlx.out] at this; omega)
        replace hv7 := hide hv7
        clear hr7 hb7 S6 ow6
        go_wp2_with (at_builtin; refine wpList_app rfl _ _ rfl rfl rfl S7.out.o2 hv7.out (by rw [hlg.out, hlx.out]; have := hg1.out; have := hx1000.out; omega) (lg + lx) (by rw [hlg.out, hlx.out]) ?_; intro ao8 cap8 w8 g8 hown8 hap8; have S8 := hide (S7.out.app2 h00 hown8 hap8); clear hown8 hap8 S7)
        rw [e2.out] at S8
        go_roundw
        case rel => exact ⟨j + 1, g5, g8, F6, N + 1, D2, W ++ [y], by simp, by omega, by have := hN.out; omega, by rw [List.length_append]; have := hWl.out; simp; omega, e1.out, e3.out, S8.out⟩
        case measure => simp [intOf]; omega
    · obtain rfl : j = A.length := by omega
      clear hlt hj
      obtain ⟨aw, cw, ew, -⟩ := _root_.id S3.out.o1
      obtain ⟨lw, hlw⟩ : ∃ x, Hid (W.length = x) := ⟨_, hide rfl⟩
      rw [hlw.out] at ew
      subst ew
      have hw50 : Hid (lw ≤ 50) := hide (by have := hWl.out; have := hlw.out; have := hlen.out; omega)
      have hN50 : Hid (N ≤ 50) := hide (by have := hN.out; have := hlen.out; omega)
      have hSB := hide (ser_start hSA.out)
      obtain ⟨n, hn⟩ : ∃ n, Hid (c.n.toNat = n) := ⟨_, hide rfl⟩
      have hnc : Hid (c.n = n) := hide (by have := hn.out; have := hok.out.n0; omega)
      have hn64 : Hid (1 ≤ n ∧ n ≤ 64) := hide (by have := hnc.out; have := hok.out.n0; have := hok.out.n1; omega)
      clear hSA hN hWl
      go_wp2_with fail
      go_loopw [9, 12] (fun vg i wr => ∃ (s gg : Nat) (F : Nat → Prop) (N : Nat) (D : Hm), i = .int .i64 s ∧ 1 ≤ s ∧ s ≤ lw + 1 ∧ N ≤ s * 70 ∧ SB W s (getQ D.L 0) ∧ 0 < D.L.length ∧ Srv w wr p B F c N D kc (cfR c) (.slice aw lw cw) gw W vg gg (W.take s)) (fun _ i _ => lw + 1 - (intOf i).toNat)
      case atStart => exact ⟨1, gg, F, N, D, rfl, Nat.le_refl _, by omega, by have := hN50.out; omega, hSB.out, hDl.out, S3.out⟩
      case round =>
        clear S3 hSB hDl hN50
        obtain ⟨s, gg, F, N, D, rfl, hs1, hs, hN, hSB, hDl, S9⟩ := hrel
        replace S9 := hide S9
        replace hN := hide hN
        replace hSB := hide hSB
        replace hDl := hide hDl
        by_cases hlt : s ≤ lw
        · have hlt' : (s : Int) ≤ lw := by omega
          have hsW : s ≤ W.length := by have := hlw.out; omega
          obtain ⟨e1, e2, e3⟩ := hv_done hok.out hDl.out hs1 hsW hSB.out
          obtain ⟨L, hL⟩ : ∃ L, Hid (htL c D ⟨5, 0, c.n, 0, s, 0, false, 0, false, false, 0⟩ 0 0 = L) := ⟨_, rfl⟩
          obtain ⟨D2, hD2⟩ : ∃ L, Hid (nxHT c D ⟨5, 0, c.n, 0, s, 0, false, 0, false, false, 0⟩ 0 0 = L) := ⟨_, rfl⟩
          rw [hL.out, hn.out] at e2
          rw [hD2.out] at e1 e3
          rw [hn.out] at e1
          replace e1 := hide e1
          replace e2 := hide e2
          replace e3 := hide e3
          have hN6 : Hid (N + 100 ≤ 100000) := hide (by have := hN.out; have := hw50.out; omega)
          obtain ⟨wo, hwo⟩ : ∃ wo, wo = wr := ⟨_, rfl⟩
          subst hwo
          have c0 := (cf_at (bz_get S9.out.z.x (k := kc) (o := cfR c) (by simp)).2).1
          rw [hnc.out] at c0
          go_upto_region 15 with fail
          go_wp2_with fail
          refine wp_region_noPanic ?_
          refine wp_region_held_drew (S := (fun w' => w'.cell? ⟨kc, 0, none⟩ = some (.int .i64 n))) (by kernel_rfl) ?_ (fun hHeld => ?_)
          · exact c0
          clear c0
          refine hTk 0 64 hHeld ?_
          refine hTk 1 65 hHeld ?_
          refine hTk 2 66 hHeld ?_
          refine hTk 3 67 hHeld ?_
          refine hTk 4 68 hHeld ?_
          refine hTk 5 69 hHeld ?_
          refine hTk 8 72 hHeld ?_
          refine hTk 9 73 hHeld ?_
          have S10 := hide (S9.out.below (V' := wo.drew) (belowN (Below.refl _ _) 1))
          obtain ⟨w10, hw10⟩ : ∃ W, wo.drew = W := ⟨_, rfl⟩
          rw [hw10] at hHeld S10 ⊢
          clear hw10 S9
          have hL5 : Hid (htL c D ⟨5, 0, n, 0, s, 0, false, 0, false, false, 0⟩ 0 0 = L) := hide (by rw [← hnc.out]; exact hL.out)
          have hD5 : nxHT c D ⟨5, 0, n, 0, s, 0, false, 0, false, false, 0⟩ 0 0 = D2 := by rw [← hnc.out]; exact hD2.out
          refine hNo 6 fun K hK => ?_
          go_simp
          go_at_call 13
          refine (hmTake_c p B F c N D ⟨5, 0, n, 0, s, 0, false, 0, false, false, 0⟩ 0 0 0 _ S10.out.z.a.n (hide (hT.out.lowH S10.out.z.a.bel)) (hide (S10.out.z.a.no0 hT.out)) (by have := hN6.out; omega) (i64_of_small (x := 5) (by decide) (by decide)) L hL5).mono ?_
          rintro e w11 ⟨v11, rfl, F11, g11, hO⟩
          rw [hD5] at hO
          obtain ⟨ao11, cap11, e11, -⟩ := _root_.id hO.own
          rw [e2.out] at e11
          subst e11
          have S11 := hide (S10.out.step hO.nd hO.st)
          clear hO S10 hD5 hL5
          have c0 := (cf_at (bz_get S11.out.z.x (k := kc) (o := cfR c) (by simp)).2).1
          rw [hnc.out] at c0
          refine hK.out _ _ ?_ fun hHeld => ?_
          · exact c0
          clear hK K
          try simp only [Act.put, za, zb, zc]
          clear c0
          refine hTk 7 71 hHeld ?_
          refine hVl 10 74 (.bool false) hHeld (fun wz hSw => ?_) ?_
          · try dsimp only at hSw
            go_simp
          refine wpAnyH_done (by kernel_rfl) (NoPanic.normal ?_) _
          clear hHeld
          clear hSB hDl hL hD2 D e2
          have c0 := (cf_at (bz_get S11.out.z.x (k := kc) (o := cfR c) (by simp)).2).1
          rw [hnc.out] at c0
          have hkc2 := (bz_get S11.out.z.x (k := kc) (o := cfR c) (by simp)).1
          as_aux_lemma =>
            go_wp2_with fail
            clear c0 hkc2
            go_loopw [9, 77] (fun vg i wr => ∃ (m gg : Nat) (F : Nat → Prop) (M : Nat) (D : Hm), i = .int .i64 m ∧ m ≤ n ∧ M ≤ N + 1 + m ∧ 0 < D.L.length ∧ (if m < n then SD n W s m (getQ D.L 0) ∧ Srv w wr p B F c M D kc (cfR c) (.slice aw lw cw) gw W vg gg (W.take s) else SB W (s + 1) (getQ D.L 0) ∧ Srv w wr p B F c M D kc (cfR c) (.slice aw lw cw) gw W vg gg (W.take (s + 1)))) (fun _ i _ => n - (intOf i).toNat)
            case atStart => exact ⟨0, gg, F11, N + 1, D2, rfl, Nat.zero_le _, by omega, e3.out, by rw [if_pos (by have := hn64.out; omega)]; exact ⟨e1.out, S11.out⟩⟩
            case round =>
              clear S11 e1 e3 D2
              obtain ⟨m, gg, F, M, D, rfl, hm, hM, hDl, hif⟩ := hrel
              replace hM := hide hM
              replace hDl := hide hDl
              by_cases hlm : m < n
              · as_aux_lemma =>
                  have hlm' : (m : Int) < n := by omega
                  have hm64 : (m : Int) + 1 ≤ 65 := by have := hn64.out; omega
                  rw [if_pos hlm] at hif
                  obtain ⟨hSD, S12⟩ := hif
                  replace S12 := hide S12
                  obtain ⟨f1, f2⟩ := hv_ack hok.out hDl.out (m := m) hs1 hsW (by rw [hn.out]; exact hlm) (by rw [hn.out]; exact hSD)
                  obtain ⟨L, hL⟩ : ∃ L, Hid (htL c D ⟨7, m, c.n, 0, s, 0, false, 0, false, false, 0⟩ 0 0 = L) := ⟨_, rfl⟩
                  obtain ⟨D3, hD3⟩ : ∃ L, Hid (nxHT c D ⟨7, m, c.n, 0, s, 0, false, 0, false, false, 0⟩ 0 0 = L) := ⟨_, rfl⟩
                  rw [hL.out, hD3.out, hn.out] at f1
                  rw [hD3.out] at f2
                  obtain ⟨X, hX⟩ : ∃ X, Hid (begL L = X) := ⟨_, hide rfl⟩
                  rw [hX.out] at f1
                  replace f1 := hide f1
                  replace f2 := hide f2
                  have hL7 : Hid (htL c D ⟨7, m, n, 0, s, 0, false, 0, false, false, 0⟩ 0 0 = L) := hide (by rw [← hnc.out]; exact hL.out)
                  have hD7 : nxHT c D ⟨7, m, n, 0, s, 0, false, 0, false, false, 0⟩ 0 0 = D3 := by rw [← hnc.out]; exact hD3.out
                  replace hD7 := hide hD7
                  obtain ⟨ag, cg, eg, -⟩ := _root_.id S12.out.o2
                  obtain ⟨lg, hlg⟩ : ∃ x, Hid ((W.take s).length = x) := ⟨_, hide rfl⟩
                  rw [hlg.out] at eg
                  subst eg
                  have hg1 : Hid (lg ≤ 50) := hide (by have := hlg.out; rw [List.length_take] at this; have := hw50.out; omega)
                  have c0 := (cf_at (bz_get S12.out.z.x (k := kc) (o := cfR c) (by simp)).2).1
                  rw [hnc.out] at c0
                  have hkc2 := (bz_get S12.out.z.x (k := kc) (o := cfR c) (by simp)).1
                  clear hSD
                  go_wp2_with fail
                  go_at_call 13
                  refine (hmTake_c p B F c M D ⟨7, m, n, 0, s, 0, false, 0, false, false, 0⟩ 0 0 0 _ S12.out.z.a.n (hide (hT.out.lowH S12.out.z.a.bel)) (hide (S12.out.z.a.no0 hT.out)) (by have := hN6.out; have := hM.out; have := hn64.out; omega) (i64_of_small (x := 7) (by decide) (by decide)) L hL7).mono ?_
                  rintro e w13 ⟨v13, rfl, F13, g13, hO⟩
                  rw [hD7.out] at hO
                  have S13 := hide (S12.out.step hO.nd hO.st)
                  have ow13 := hide hO.own.view
                  clear hO S12 c0 hkc2
                  go_wp2_with fail
                  go_at_call 25
                  have hL64 : L.length ≤ 1000 := by
                    rw [← hL.out]
                    have := hok.out.n1
                    exact htL_len c D _ 0 0 (by omega)
                  refine (begun_c v13 g13 L _ ow13.out hL64).mono ?_
                  rintro e w14 ⟨v14, n14, rfl, hr14, hb14⟩
                  obtain ⟨g14, hv14⟩ := view_of_rowI hr14
                  have S14 := hide (S13.out.below hb14)
                  rw [hX.out] at hv14
                  obtain ⟨lx, hlx⟩ : ∃ x, Hid (X.length = x) := ⟨_, hide rfl⟩
                  have hx1000 : Hid (lx ≤ 1000) := hide (by have := begL_len L; rw [hX.out, hlx.out] at this; omega)
                  replace hv14 := hide hv14
                  clear hr14 hb14 S13 ow13
                  go_wp2_with (at_builtin; refine wpList_app rfl _ _ rfl rfl rfl S14.out.o2 hv14.out (by rw [hlg.out, hlx.out]; have := hg1.out; have := hx1000.out; omega) (lg + lx) (by rw [hlg.out, hlx.out]) ?_; intro ao15 cap15 w15 g15 hown15 hap15; have S15 := hide (S14.out.app2 h00 hown15 hap15); clear hown15 hap15 S14)
                  go_roundw
                  case rel => exact ⟨m + 1, g15, F13, M + 1, D3, by simp, by omega, by have := hM.out; omega, f2.out, by
                    have h := f1.out
                    have S := S15.out
                    by_cases q : m + 1 < n
                    · rw [if_pos q] at h ⊢
                      rw [h.2, List.append_nil] at S
                      exact ⟨h.1, S⟩
                    · rw [if_neg q] at h ⊢
                      rw [h.2] at S
                      exact ⟨h.1, S⟩⟩
                  case measure => simp [intOf]; omega
              · as_aux_lemma =>
                  obtain rfl : m = n := by omega
                  have hs64 : (s : Int) + 1 ≤ 52 := by have := hw50.out; omega
                  rw [if_neg hlm] at hif
                  obtain ⟨hSB2, S12⟩ := hif
                  replace S12 := hide S12
                  replace hSB2 := hide hSB2
                  go_wp2_with fail
                  go_roundw
                  case rel => exact ⟨s + 1, gg, F, M, D, by simp, by omega, by omega, by have := hM.out; have := hN.out; have := hn64.out; omega, hSB2.out, hDl.out, S12.out⟩
                  case measure => simp [intOf]; omega
        · obtain rfl : s = lw + 1 := by omega
          have hlt2 : ¬ ((lw : Int) + 1 ≤ lw) := by omega
          have hcur : Hid (okCur D.L 0 = false) := hide (by rw [br_cur hDl.out]; exact (ser_end (by rw [hlw.out]; exact hSB.out)).1)
          obtain ⟨a, ha⟩ : ∃ x, Hid (atCur D.L 0 = x) := ⟨_, rfl⟩
          have hWW : W.take (lw + 1) = W := List.take_of_length_le (by have := hlw.out; omega)
          rw [hWW] at S9
          obtain ⟨ag, cg, eg, -⟩ := _root_.id S9.out.o2
          rw [hlw.out] at eg
          subst eg
          clear hWW hSB hlt
          go_wp2_with fail
          go_at_call 15
          refine (hmCur_c p B F c N D 0 _ S9.out.z.a.n a ha false hcur).mono ?_
          rintro e w16 ⟨rfl, hb16⟩
          have S16 := hide ((S9.out.below hb16).below (V' := w16.alloc (resO a)) ((Below.refl _ _).alloc (Nat.le_refl _) _))
          clear hb16 S9
          go_wp2_with fail
          go_at_call 19
          refine (ints_c _ _ gg gw W W _ S16.out.o2.view S16.out.o1.view).mono ?_
          rintro e w17 ⟨e17, n17, rfl⟩
          rw [show decide (W = W) = true by simp] at e17
          subst e17
          go_wp2_with fail
          go_ret
          exact ⟨rfl, belowN S16.out.z.a.bel n17⟩
theorem HomeServes_walk (c : Cf) (v : Value) (A : List Int) (w : World) (hT : Hid (Tab w)) (h1 : IntsAt w.heap.size w v A) : Calls Tryd.prog 6 #[.agg #[.int .i64 c.n, .int .i64 c.bl, .int .i64 c.tt, .int .i64 c.cs, .int .i64 c.cy, .int .i64 c.cc, .int .i64 c.cu, .int .i64 c.ct, .int .i64 c.cp], v] w fun e w' => e = .returned (.bool true) ∧ Below w.heap.size w w' := by
  obtain ⟨bA, ⟨ao, cap, rfl, hlc, hmx, -⟩, -⟩ := _root_.id h1
  by_cases hz : cfgZ c.n c.bl c.tt c.cs c.cy c.cc c.cu c.ct c.cp = 0
  · by_cases hl : A.length ≤ 50
    · exact servesOk_walk c ao cap A w hT (hide h1) (hide hl) (hide hz)
    · exact servesLong_walk c ao A.length cap w hT (by unfold maxLen at hmx; omega) (hide hz) (by omega)
  · exact servesNo_walk c ao A.length cap w hT (by unfold maxLen at hmx; omega) hz
end Go.Proofs.YtmgjgeaigdiadaaDoor
