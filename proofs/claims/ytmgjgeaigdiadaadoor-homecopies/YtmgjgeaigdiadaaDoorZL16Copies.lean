/- layer 16: Env16c Two16 L16Copies, put together. -/
import Derived.Test.YtmgjgeaigdiadaaDoorB43
import Derived.Test.YtmgjgeaigdiadaaDoorZSlRow
import Derived.Test.YtmgjgeaigdiadaaDoorB18
import Derived.Test.YtmgjgeaigdiadaaDoorB22
namespace Go.Proofs.YtmgjgeaigdiadaaDoor
open Go.ChangeShapes Go.WideShapes Go.ChangeAt Go.RowKit
set_option linter.unusedSimpArgs false
set_option linter.unusedVariables false
set_option maxRecDepth 10000
attribute [local go_sem, local simp] over_const setCell_drewN alloc_drewN Over.cell Over.frozen lt_s1 lt_s2 lt_s3 le_s0 le_s1 le_s2 le_s3 eq_s0 eq_s1 eq_s2 qe_s0
structure Hoz (w V : World) (p : Nat) (B : Bh) (F : Nat → Prop) (c : Cf) (N : Nat) (D : Hm) (K : List (Nat × Obj)) : Prop where
  a : Hone w V p B F c N D
  x : Bz w V (Fh p B F) K
theorem Hdz.one {w V : World} {p : Nat} {B : Bh} {F : Nat → Prop} {q : Nat} {Bq : Bd} {G : Nat → Prop} {c : Cf} {N : Nat} {D : Hm} {K : List (Nat × Obj)} (h : Hdz w V p B F q Bq G c N D K) : Hoz w V p B F c N D K :=
  ⟨h.d.a, fun x hx => by
    obtain ⟨q1, q2, q3, q4⟩ := h.x x hx
    exact ⟨q1, q2, fun e => q3 (.inl e), q4⟩⟩
section
variable {w V V' : World} {p : Nat} {B : Bh} {F F2 : Nat → Prop} {c : Cf} {N M : Nat} {D D2 : Hm} {K : List (Nat × Obj)}
theorem Hoz.below (h : Hoz w V p B F c N D K) (hb : Below V.heap.size V V') : Hoz w V' p B F c N D K := ⟨h.a.below hb, h.x.step (Step.of_below hb)⟩
theorem Hoz.new (h : Hoz w V p B F c N D K) (o : Obj) : Hoz w (V.alloc o) p B F c N D ((V.heap.size, o) :: K) := by
  have h2 := h.below (V' := V.alloc o) ((Below.refl _ _).alloc (Nat.le_refl _) _)
  refine ⟨h2.a, fun x hx => ?_⟩
  rcases List.mem_cons.1 hx with rfl | hx
  · exact ⟨h.a.bel.size, by simp, fun e => by have := h.a.n.lt _ e; omega, heap_alloc_new _ _⟩
  · exact h2.x x hx
theorem Hoz.step (h : Hoz w V p B F c N D K) (hn : HmIs V' p B F2 c M D2) (hs : Step (Fh p B F) (Fh p B F2) V V') : Hoz w V' p B F2 c M D2 K := ⟨h.a.step hn hs, h.x.step hs⟩
theorem Hoz.head {k : Nat} {cs : Array Value} {T : TypeId} (h : Hoz w V p B F c N D ((k, .cells cs T (0, 0)) :: K)) (hk : ∀ x ∈ K, x.1 ≠ k) (i : Nat) (u : Value) : Hoz w (V.setCell ⟨k, i, none⟩ u) p B F c N D ((k, .cells (cs.setIfInBounds i u) T (0, 0)) :: K) := by
  obtain ⟨h1, h2, h3, h4⟩ := h.x (k, .cells cs T (0, 0)) (by simp)
  have hf : FrS (· = k) V (V.setCell ⟨k, i, none⟩ u) := wrK (FrS.refl _ _) u
  refine ⟨h.a.frk hf h1 h3, fun x hx => ?_⟩
  rcases List.mem_cons.1 hx with rfl | hx
  · exact ⟨h1, by simpa using h2, h3, heap_setCell_same _ _ _ _ _ _ h4⟩
  · obtain ⟨q1, q2, q3, q4⟩ := h.x x (by simp [hx])
    exact ⟨q1, by simpa using q2, q3, (Below.heap_setCell _ _ _ _ (hk x hx)).trans q4⟩
theorem Hoz.frs {Fx : Nat → Prop} (h : Hoz w V p B F c N D K) (hf : FrS Fx V V') (h0 : ∀ i, Fx i → w.heap.size ≤ i) (hF : ∀ b, Fh p B F b → ¬ Fx b) (hK : ∀ x ∈ K, ¬ Fx x.1) : Hoz w V' p B F c N D K :=
  ⟨⟨h.a.n.fr hf hF, h.a.lo, h.a.bel.trans (hf.below h0 h.a.bel.size)⟩, fun x hx => by
    obtain ⟨q1, q2, q3, q4⟩ := h.x x hx
    exact ⟨q1, Nat.lt_of_lt_of_le q2 hf.size, q3, (hf.block _ q2 (hK x hx)).trans q4⟩⟩
theorem Hoz.sub {K' : List (Nat × Obj)} (h : Hoz w V p B F c N D K) (hK : ∀ x ∈ K', x ∈ K) : Hoz w V p B F c N D K' := ⟨h.a, fun x hx => h.x x (hK x hx)⟩
end
structure Hwo (w V : World) (p q : Nat) (B B' : Bh) (F F' : Nat → Prop) (c : Cf) (N N' : Nat) (D D' : Hm) : Prop where
  n : HmIs V p B F c N D
  k : HmIs V q B' F' c N' D'
  ap : ∀ b, Fh p B F b → ¬ Fh q B' F' b
  lo : ∀ b, Fh p B F b → w.heap.size ≤ b
  lo' : ∀ b, Fh q B' F' b → w.heap.size ≤ b
  bel : Below w.heap.size w V
section
variable {w V V' : World} {p q : Nat} {B B' : Bh} {F F' F2 : Nat → Prop} {c : Cf} {N N' M : Nat} {D D' D2 : Hm}
theorem Hwo.swap (h : Hwo w V p q B B' F F' c N N' D D') : Hwo w V q p B' B F' F c N' N D' D := ⟨h.k, h.n, fun b h1 h2 => h.ap b h2 h1, h.lo', h.lo, h.bel⟩
theorem Hwo.below (h : Hwo w V p q B B' F F' c N N' D D') (hb : Below V.heap.size V V') : Hwo w V' p q B B' F F' c N N' D D' := ⟨h.n.below hb, h.k.below hb, h.ap, h.lo, h.lo', h.bel.trans (hb.mono h.bel.size)⟩
theorem Hwo.alloc (h : Hwo w V p q B B' F F' c N N' D D') (o : Obj) : Hwo w (V.alloc o) p q B B' F F' c N N' D D' := h.below ((Below.refl _ _).alloc (Nat.le_refl _) _)
theorem Hwo.step (h : Hwo w V p q B B' F F' c N N' D D') (hn : HmIs V' p B F2 c M D2) (hs : Step (Fh p B F) (Fh p B F2) V V') : Hwo w V' p q B B' F2 F' c M N' D2 D' :=
  ⟨hn, h.k.fr hs.fr (fun b h1 h2 => h.ap b h2 h1), fun b h1 h2 => by
    rcases hs.new b h1 with e | e
    · exact h.ap b e h2
    · have := h.k.lt b h2; omega, hs.lo h.lo h.bel.size, h.lo', hs.belowW h.bel h.lo⟩
theorem Hwo.aside {X : Nat → Prop} (h : Hwo w V p q B B' F F' c N N' D D') (hf : FrS X V V') (hX : ∀ b, X b → w.heap.size ≤ b) (h1 : ∀ b, Fh p B F b → ¬ X b) (h2 : ∀ b, Fh q B' F' b → ¬ X b) : Hwo w V' p q B B' F F' c N N' D D' :=
  ⟨h.n.fr hf h1, h.k.fr hf h2, h.ap, h.lo, h.lo', h.bel.trans (hf.below hX h.bel.size)⟩
theorem Hone.two (h : Hone w V p B F c N D) (hk : HmIs V' q B' F' c N' D') (hl : ∀ b, Fh q B' F' b → V.heap.size ≤ b) (hb : Below V.heap.size V V') : Hwo w V' p q B B' F F' c N N' D D' :=
  ⟨h.n.below hb, hk, fun b h1 h2 => by have := h.n.lt b h1; have := hl b h2; omega, h.lo, fun b h2 => Nat.le_trans h.bel.size (hl b h2), h.bel.trans (hb.mono h.bel.size)⟩
end
structure Gd16 (s b : Nat) (X : Nat → Prop) (v : Value) (g : Nat) : Prop where
  lies : g = b ∨ s ≤ g
  nx : ¬ X g
  nil : g = b → v = .slice none 0 0
theorem Gd16.mono {s b : Nat} {X Y : Nat → Prop} {v : Value} {g : Nat} (h : Gd16 s b X v g) (hY : ¬ Y g) : Gd16 s b Y v g := ⟨h.lies, hY, h.nil⟩
theorem gd16_app {s b : Nat} {X : Nat → Prop} {W W' : World} {v v' : Value} {g g' : Nat} (hb : b < s) (hd : Gd16 s b X v g) (hW : s ≤ W.heap.size) (hX : ∀ i, X i → i < W.heap.size) (hap : AppP W W' v v' g g') :
    Gd16 s b X v' g' ∧ FrS (fun x => x = g ∧ s ≤ x) W W' ∧ (g' = g ∨ W.heap.size ≤ g') := by
  obtain ⟨h1, h2, h4⟩ := hd
  refine ⟨⟨?_, ?_, ?_⟩, ?_, hap.lies⟩
  · rcases hap.lies with e | e
    · rw [e]; exact h1
    · exact .inr (by omega)
  · rcases hap.lies with e | e
    · rw [e]; exact h2
    · intro h; have := hX _ h; omega
  · intro e
    rcases hap.lies with e' | e'
    · exact hap.keep e' (h4 (e'.symm.trans e))
    · rcases h1 with h1 | h1
      · exact hap.keep (by omega) (h4 h1)
      · omega
  · by_cases e : g = b
    · exact FrS.of_below (hap.nil (h4 e))
    · exact hap.fr.mono (fun i _ hi => ⟨hi, by rw [hi]; rcases h1 with h1 | h1; exact absurd h1 e; exact h1⟩)
def Lies (V : World) (X : Nat → Prop) (x : Sl) (L : List Lt) : Prop := ∃ g1, ViewT V (.slice x.a x.n x.c) g1 L ∧ (L ≠ [] → ¬ X g1 ∧ g1 < V.heap.size)
theorem Lies.fr {V V' : World} {X X' Y : Nat → Prop} {x : Sl} {L : List Lt} (h : Lies V X x L) (hf : FrS Y V V') (hY : ∀ b, Y b → X b) (hX : ∀ b, X' b → X b ∨ V.heap.size ≤ b) : Lies V' X' x L := by
  obtain ⟨g1, h1, h3⟩ := h
  refine ⟨g1, h1.fr hf (fun e h => (h3 e).1 (hY _ h)), fun e => ⟨fun hx => ?_, Nat.lt_of_lt_of_le (h3 e).2 hf.size⟩⟩
  rcases hX _ hx with q | q
  · exact (h3 e).1 q
  · have := (h3 e).2; omega
theorem Lies.below {V V' : World} {X : Nat → Prop} {x : Sl} {L : List Lt} (h : Lies V X x L) (hb : Below V.heap.size V V') : Lies V' X x L := h.fr (Y := fun _ => False) (FrS.of_below hb) (fun _ h => h.elim) (fun _ h => .inl h)
theorem Lies.mono {V : World} {X X' : Nat → Prop} {x : Sl} {L : List Lt} (h : Lies V X x L) (hX : ∀ b, X' b → X b) : Lies V X' x L := h.fr (Y := fun _ => False) (FrS.refl _ _) (fun _ h => h.elim) (fun b h => .inl (hX b h))
def actL (c : Cf) (D : Hm) (x : Ac) : List Lt := htL c D x.l x.d0 x.d1
def nxAc (c : Cf) (D : Hm) (x : Ac) : Hm := nxHT c D x.l x.d0 x.d1
def play16 (c : Cf) (D : Hm) (A : List Ac) : Hm := A.foldl (nxAc c) D
def ac0 : Ac := ⟨lt0, 0, 0, 0, false⟩
def atB (A : List Ac) (j : Nat) : Ac := (A[j]?).getD ac0
def otO (O : List Sl) (j : Nat) : Sl := (O[j]?).getD ⟨none, 0, 0⟩
theorem play16_snoc (c : Cf) (D : Hm) (A : List Ac) (j : Nat) (hj : j < A.length) : play16 c D (A.take (j + 1)) = nxAc c (play16 c D (A.take j)) (atB A j) := by
  have e : A.take (j + 1) = A.take j ++ [A[j]] := by rw [List.take_add_one, List.getElem?_eq_getElem hj]; rfl
  rw [e]
  simp only [play16, List.foldl_append, List.foldl_cons, List.foldl_nil, atB, List.getElem?_eq_getElem hj, Option.getD_some]
theorem otO_old (O : List Sl) (x : Sl) {j : Nat} (h : j < O.length) : otO (O ++ [x]) j = otO O j := by unfold otO; rw [List.getElem?_append_left h]
theorem otO_new (O : List Sl) (x : Sl) : otO (O ++ [x]) O.length = x := by unfold otO; simp
theorem otO_get {O : List Sl} {j : Nat} (h : j < O.length) : O[j] = otO O j := by unfold otO; rw [List.getElem?_eq_getElem h]; rfl
theorem atB_get {A : List Ac} {j : Nat} (h : j < A.length) : A[j] = atB A j := by unfold atB; rw [List.getElem?_eq_getElem h]; rfl
theorem atB_drop (A : List Ac) (h j : Nat) : atB (A.drop h) j = atB A (h + j) := by unfold atB; rw [List.getElem?_drop]
theorem atB_mem {A : List Ac} {j : Nat} (h : j < A.length) : atB A j ∈ A := by rw [← atB_get h]; exact List.getElem_mem h
theorem lies_out {V V5 : World} {p : Nat} {B : Bh} {F F5 Y : Nat → Prop} {c : Cf} {N : Nat} {D : Hm} {L : List Lt} {a1 : Option Addr} {c1 g1 : Nat} (hO : HutP V p B F F5 c N D L (.slice a1 L.length c1) V5 g1) (hY : ∀ x, Y x → x < V.heap.size) : Lies V5 (fun x => Fh p B F5 x ∨ Y x) ⟨a1, L.length, c1⟩ L :=
  ⟨g1, hO.own.view, fun _ => ⟨fun h => by rcases h with h | h; exact hO.nf h; have := hY _ h; have := hO.new; omega, hO.own.lt⟩⟩
structure Outs (w V : World) (b : Nat) (X : Nat → Prop) (v : Value) (g : Nat) (O : List Sl) (n : Nat) (SL : Nat → List Lt) : Prop where
  own : OwnSl V v g O
  len : O.length = n
  gd : Gd16 w.heap.size b X v g
  lies : ∀ t, t < n → Lies V (fun x => X x ∨ x = g) (otO O t) (SL t)
section
variable {w V V' : World} {b g g' n : Nat} {X X' Y : Nat → Prop} {v v' : Value} {O : List Sl} {SL : Nat → List Lt} {x : Sl}
theorem Outs.step (h : Outs w V b X v g O n SL) (hf : FrS Y V V') (hY : ∀ x, Y x → X x) (hX : ∀ x, X' x → X x ∨ V.heap.size ≤ x) : Outs w V' b X' v g O n SL :=
  ⟨h.own.fr hf (fun e => h.gd.nx (hY _ e)), h.len, h.gd.mono (fun e => by
    rcases hX _ e with q | q
    · exact h.gd.nx q
    · have := h.own.lt; omega), fun t ht => (h.lies t ht).fr hf (fun b h => .inl (hY b h)) (fun b hb => by
    rcases hb with hb | hb
    · rcases hX _ hb with q | q
      · exact .inl (.inl q)
      · exact .inr q
    · exact .inl (.inr hb))⟩
theorem Outs.below (h : Outs w V b X v g O n SL) (hb : Below V.heap.size V V') : Outs w V' b X v g O n SL := h.step (Y := fun _ => False) (FrS.of_below hb) (fun _ h => h.elim) (fun _ h => .inl h)
theorem Outs.app (h : Outs w V b X v g O n SL) (hb : b < w.heap.size) (hW : w.heap.size ≤ V.heap.size) (hX : ∀ i, X i → i < V.heap.size) (hown : OwnSl V' v' g' (O ++ [x])) (hap : AppP V V' v v' g g') (hl : Lies V (fun y => X y ∨ y = g) x (SL n)) :
    Outs w V' b X v' g' (O ++ [x]) (n + 1) SL ∧ FrS (fun y => y = g ∧ w.heap.size ≤ y) V V' := by
  obtain ⟨h1, h2, h3⟩ := gd16_app hb h.gd hW hX hap
  have key : ∀ {z : Sl} {L : List Lt}, Lies V (fun y => X y ∨ y = g) z L → Lies V' (fun y => X y ∨ y = g') z L := fun q => q.fr h2 (fun _ e => .inr e.1) (fun y hy => by
    rcases hy with hy | hy
    · exact .inl (.inl hy)
    · rcases h3 with e | e
      · exact .inl (.inr (hy.trans e))
      · exact .inr (by omega))
  refine ⟨⟨hown, by simp [h.len], h1, fun t ht => ?_⟩, h2⟩
  by_cases e : t < n
  · rw [otO_old O x (by rw [h.len]; exact e)]
    exact key (h.lies t e)
  · obtain rfl : t = n := by omega
    have : otO (O ++ [x]) t = x := by rw [← h.len]; exact otO_new O x
    rw [this]
    exact key hl
end
abbrev LS (c : Cf) (D : Hm) (A : List Ac) (t : Nat) : List Lt := actL c (play16 c D (A.take t)) (atB A t)
abbrev TX (p q : Nat) (B B' : Bh) (F F' : Nat → Prop) : Nat → Prop := fun x => Fh p B F x ∨ Fh q B' F' x
theorem Hwo.tx {w V : World} {p q : Nat} {B B' : Bh} {F F' : Nat → Prop} {c : Cf} {N N' : Nat} {D D' : Hm} (h : Hwo w V p q B B' F F' c N N' D D') : ∀ i, TX p q B B' F F' i → i < V.heap.size := fun i e => by rcases e with e | e; exact h.n.lt i e; exact h.k.lt i e
set_option maxHeartbeats 4000000 in
theorem copiesNo_walk (c : Cf) (ao : Option Addr) (n cap : Nat) (w : World) (hT : Hid (Tab w)) (hn : n ≤ 9223372036854775807) (hno : ¬ (cfgZ c.n c.bl c.tt c.cs c.cy c.cc c.cu c.ct c.cp = 0 ∧ n ≤ 200)) : Calls Tryd.prog 8 #[.agg #[.int .i64 c.n, .int .i64 c.bl, .int .i64 c.tt, .int .i64 c.cs, .int .i64 c.cy, .int .i64 c.cc, .int .i64 c.cu, .int .i64 c.ct, .int .i64 c.cp], .slice ao n cap] w fun e w' => e = .returned (.bool true) ∧ Below w.heap.size w w' := by
  have hno' := hide hno
  have hn' := hide hn
  clear hno hn
  go_enter Tryd.func8, Tryd.ntmps8
  go_upto_region 1 with fail
  refine name_world ?_
  intro V hV
  have hB : Hid (Below w.heap.size w V) := by rw [← hV]; exact hide (by all_goals exact belEnd)
  have hX : Hid (V.heap[w.heap.size]? = some (cfR c)) := by rw [← hV]; exact hide (heap_alloc_new w (cfR c))
  clear hV
  obtain ⟨kc, hkc⟩ : ∃ k, Hid (w.heap.size = k) := ⟨_, hide rfl⟩
  rw [hkc.out] at hX
  rw [hkc.out]
  obtain ⟨c0, c1, c2, c3, c4, c5, c6, c7, c8⟩ := cf_at hX.out
  have lc : kc < V.heap.size := (Array.getElem?_eq_some_iff.1 hX.out).1
  go_wp2_with (first | (go_at_call 9; refine (madeNo_c c ao n cap _ hno'.out hn'.out).mono ?_; rintro e w1 ⟨rfl, hb1⟩; obtain ⟨x, rfl⟩ := over hb1; clear hb1; have f1 := x.upB kc) | (go_at_call 10; refine (awake16_c _ (hide (hT.out.lowH (hB.out.trans (Below.mono (B := V.heap.size) (by all_goals exact belEnd) hB.out.size))))).mono ?_; rintro e w2 ⟨rfl, hb2⟩; obtain ⟨y, rfl⟩ := over2 hb2; clear hb2; have f2 := y.upB kc))
  go_ret
  refine ⟨rfl, ?_⟩
  exact hB.out.trans (Below.mono (B := V.heap.size) (by all_goals exact belEnd) hB.out.size)
set_option maxHeartbeats 8000000 in
theorem copiesNil_walk (c : Cf) (ao : Option Addr) (cap : Nat) (w : World) (hT : Hid (Tab w)) (h0 : Hid (cfgZ c.n c.bl c.tt c.cs c.cy c.cc c.cu c.ct c.cp = 0)) (hcz : cap = 0 ∨ cap ≠ 0) : Calls Tryd.prog 8 #[.agg #[.int .i64 c.n, .int .i64 c.bl, .int .i64 c.tt, .int .i64 c.cs, .int .i64 c.cy, .int .i64 c.cc, .int .i64 c.cu, .int .i64 c.ct, .int .i64 c.cp], .slice ao 0 cap] w fun e w' => e = .returned (.bool true) ∧ Below w.heap.size w w' := by
  have hlen : Hid ((0 : Nat) ≤ 200) := hide (by decide)
  rcases hcz with rfl | hcz
  all_goals
    go_enter Tryd.func8, Tryd.ntmps8
    go_upto_region 1 with fail
    refine name_world ?_
    intro V hV
    have hB : Hid (Below w.heap.size w V) := by rw [← hV]; exact hide (by all_goals exact belEnd)
    have hX : Hid (V.heap[w.heap.size]? = some (cfR c)) := by rw [← hV]; exact hide (heap_alloc_new w (cfR c))
    clear hV
    obtain ⟨kc, hkc⟩ : ∃ k, Hid (w.heap.size = k) := ⟨_, hide rfl⟩
    rw [hkc.out] at hX
    rw [hkc.out]
    obtain ⟨c0, c1, c2, c3, c4, c5, c6, c7, c8⟩ := cf_at hX.out
    have lc : kc < V.heap.size := (Array.getElem?_eq_some_iff.1 hX.out).1
    go_upto_region 2 with (go_at_call 9; refine (madeOk_c c _ 0 _ _ h0 hlen.out).mono ?_; rintro e w1 ⟨p, q0, rfl, B, F, Bq, G, hd1⟩; replace hd1 := hide hd1; clear c0 c1 c2 c3 c4 c5 c6 c7 c8 lc)
    have P1 : Hid (Hone w w1 p B F c 0 (hm0 c)) := hide (made_hdz hB.out hd1.out hX.out (by rw [hkc.out]; exact Nat.le_refl _)).one.a
    clear hd1 hX hB
    go_wp2_with fail
    go_at_call 10
    refine (awake16_c _ (hide (hT.out.lowH P1.out.bel))).mono ?_
    rintro e w2 ⟨rfl, hb2⟩
    have P2 := hide (P1.out.below hb2)
    clear hb2 P1
    go_wp2_with fail
    refine wp_loop_rounds 1 ?_
    rw [rounds_succ]
    go_wp2_with fail
    go_at_call 22
    refine (hmCopy_c p B F c 0 (hm0 c) w2 P2.out.n (by decide)).mono ?_
    rintro e w6 ⟨q, rfl, B6, F6, hn6, hl6, hb6⟩
    have E6 := hide (P2.out.two hn6 hl6 hb6)
    clear hn6 hl6 hb6 P2
    go_wp2_with fail
    refine wp_loop_rounds 1 ?_
    rw [rounds_succ]
    go_wp2_with fail
    refine wp_loop_rounds 1 ?_
    rw [rounds_succ]
    obtain ⟨n3, hn3⟩ : ∃ n, Hid ((hm0 c).M.length = n) := ⟨_, hide rfl⟩
    go_wp2_with fail
    go_at_call 18
    refine (hmAll_c p _ _ c _ (hm0 c) _ E6.out.n n3 hn3).mono ?_
    rintro e w11 ⟨rfl, ho5, hb11⟩
    have E11 := hide (E6.out.below hb11)
    obtain ⟨k11, hk11⟩ : ∃ k, Hid (w6.heap.size = k) := ⟨_, hide rfl⟩
    rw [hk11.out] at ho5
    rw [hk11.out]
    replace ho5 := hide ho5
    clear hb11
    go_wp2_with fail
    go_at_call 18
    refine (hmAll_c q _ _ c _ (hm0 c) _ E11.out.k n3 hn3).mono ?_
    rintro e w12 ⟨rfl, ho7, hb12⟩
    have E12 := hide (E11.out.below hb12)
    have q5 := hide (ho5.out.below hb12)
    obtain ⟨k12, hk12⟩ : ∃ k, Hid (w11.heap.size = k) := ⟨_, hide rfl⟩
    rw [hk12.out] at ho7
    rw [hk12.out]
    replace ho7 := hide ho7
    clear hb12
    go_wp2_with fail
    go_at_call 17
    refine (sameB_c _ _ k11 k12 (hm0 c).M _ q5.out.view ho7.out.view).mono ?_
    rintro e w13 ⟨rfl, n13, rfl⟩
    go_wp2_with fail
    go_ret
    exact ⟨rfl, belowN E12.out.bel n13⟩
set_option maxHeartbeats 8000000 in
theorem copiesOk_walk (c : Cf) (b o' : Nat) (cap : Nat) (A : List Ac) (w : World) (hT : Hid (Tab w)) (hA : Hid (ActsAt w.heap.size w (.slice (some ⟨b, o', none⟩) A.length cap) A)) (hlen : Hid (A.length ≤ 200)) (hz : 0 < A.length) (hlc : A.length ≤ cap) (hbB : Hid (b < w.heap.size)) (h0 : Hid (cfgZ c.n c.bl c.tt c.cs c.cy c.cc c.cu c.ct c.cp = 0)) : Calls Tryd.prog 8 #[.agg #[.int .i64 c.n, .int .i64 c.bl, .int .i64 c.tt, .int .i64 c.cs, .int .i64 c.cy, .int .i64 c.cc, .int .i64 c.cu, .int .i64 c.ct, .int .i64 c.cp], .slice (some ⟨b, o', none⟩) A.length cap] w fun e w' => e = .returned (.bool true) ∧ Below w.heap.size w w' := by
  have hma : A.length ≤ 9223372036854775807 := by have := hlen.out; omega
  have hAI := hide (acts_i64 hA.out)
  obtain ⟨h, hh⟩ : ∃ h, A.length / 2 = h := ⟨_, rfl⟩
  have hh2 : (A.length : Int) / 2 = h := by omega
  have hhn : h ≤ A.length := by omega
  obtain ⟨m, hm⟩ : ∃ m, A.length - h = m := ⟨_, rfl⟩
  have hhc : cap ≠ h ∧ (cap == h) = false ∧ decide (cap = h) = false := ⟨by omega, by simp; omega, by simp; omega⟩
  have hm2 : Hid (m ≤ 200 ∧ h ≤ 200) := hide (by have := hlen.out; omega)
  go_enter Tryd.func8, Tryd.ntmps8
  go_upto_region 1 with fail
  refine name_world ?_
  intro V hV
  have hB : Hid (Below w.heap.size w V) := by rw [← hV]; exact hide (by all_goals exact belEnd)
  have hX : Hid (V.heap[w.heap.size]? = some (cfR c)) := by rw [← hV]; exact hide (heap_alloc_new w (cfR c))
  clear hV
  obtain ⟨kc, hkc⟩ : ∃ k, Hid (w.heap.size = k) := ⟨_, hide rfl⟩
  rw [hkc.out] at hX
  rw [hkc.out]
  obtain ⟨c0, c1, c2, c3, c4, c5, c6, c7, c8⟩ := cf_at hX.out
  have lc : kc < V.heap.size := (Array.getElem?_eq_some_iff.1 hX.out).1
  go_upto_region 2 with (go_at_call 9; refine (madeOk_c c _ A.length _ _ h0 hlen.out).mono ?_; rintro e w1 ⟨p, q0, rfl, B, F, Bq, G, hd1⟩; replace hd1 := hide hd1; clear c0 c1 c2 c3 c4 c5 c6 c7 c8 lc)
  have P1 : Hid (Hone w w1 p B F c 0 (hm0 c)) := hide (made_hdz hB.out hd1.out hX.out (by rw [hkc.out]; exact Nat.le_refl _)).one.a
  clear hd1 hX hB
  go_wp2_with fail
  go_at_call 10
  refine (awake16_c _ (hide (hT.out.lowH P1.out.bel))).mono ?_
  rintro e w2 ⟨rfl, hb2⟩
  have P2 := hide (P1.out.below hb2)
  clear hb2 P1
  go_wp2_with fail
  go_loopw [38] (fun i wr => ∃ (j N : Nat) (F : Nat → Prop), j ≤ h ∧ i = .int .i64 j ∧ N ≤ 3 * j ∧ Hone w wr p B F c N (play16 c (hm0 c) (A.take j))) (fun i _ => h - (intOf i).toNat)
  case atStart => exact ⟨0, 0, _, Nat.zero_le _, rfl, by omega, P2.out⟩
  case round =>
    clear P2
    obtain ⟨j, N, F, hj, rfl, hN, P3⟩ := hrel
    replace P3 := hide P3
    replace hN := hide hN
    by_cases hlt : j < h
    · have hlt' : (j : Int) < h := by omega
      have hjA : j < A.length := by omega
      obtain ⟨b', o'', e', -, hbl, hra⟩ := acts_range (hA.out.below P3.out.bel) hjA
      cases e'
      have hpl := hide (play16_snoc c (hm0 c) A j hjA)
      obtain ⟨y, hy⟩ : ∃ y, atB A j = y := ⟨_, rfl⟩
      rw [atB_get hjA, hy] at hra
      rw [hy] at hpl
      have hyk : Hid (I64 y.l.k) := hide (hAI.out y (by rw [← hy]; exact atB_mem hjA))
      obtain ⟨D, hD⟩ : ∃ D, play16 c (hm0 c) (A.take j) = D := ⟨_, rfl⟩
      rw [hD] at P3 hpl
      have hN6 : Hid (N + 3 ≤ 100000) := hide (by have := hN.out; have := hm2.out; omega)
      clear hD hy
      go_upto_region 7 with fail
      go_step
      go_step
      go_step
      go_step
      refine wpList_load_mid (by rfl) _ _ (by rfl) b (o' + j * 15) (by rfl) (actC y) _ hra Tryd.underlying37 (by rfl) (by exact infoAc) ?_
      clear hra
      go_step
      go_step
      go_step
      refine wpList_store_new _ _ (by rfl) (by rfl) (by rfl) (by rfl) (by exact infoAc) (by rfl) (actC_one y) ?_
      obtain ⟨V7, hV7⟩ : ∃ V, wr.alloc (.cells (actC y).toArray 37) = V := ⟨_, rfl⟩
      have hxn : Hid (V7.heap[wr.heap.size]? = some (actsO y)) := by rw [← hV7]; exact hide (heap_alloc_new wr (actsO y))
      have hbn : Hid (Below wr.heap.size wr V7) := by rw [← hV7]; exact hide ((Below.refl _ _).alloc (Nat.le_refl _) _)
      rw [hV7]
      clear hV7
      obtain ⟨ka, hka⟩ : ∃ k, Hid (wr.heap.size = k) := ⟨_, hide rfl⟩
      rw [hka.out] at hxn
      rw [hka.out]
      have P4 := hide (P3.out.below hbn.out)
      clear P3
      obtain ⟨a0, a1, a2, a3, a4, a5, a6, a7, a8, a9, a10, a11, a12, a13, a14⟩ := acts_at hxn.out
      have lka : ka < V7.heap.size := (Array.getElem?_eq_some_iff.1 hxn.out).1
      go_wp2_with fail
      go_at_call 13
      refine (hmTake_c p B F c N D y.l y.d0 y.d1 y.d2 _ P4.out.n (hide (hT.out.lowH P4.out.bel)) (hide (P4.out.no0 hT.out)) (by have := hN6.out; omega) hyk.out _ (hide rfl)).mono ?_
      rintro e w5 ⟨v1, rfl, F5, g1, hO⟩
      have P5 := hide (P4.out.step hO.nd hO.st)
      rw [show nxHT c D y.l y.d0 y.d1 = nxAc c D y from rfl, ← hpl.out] at P5
      clear hO P4 a0 a1 a2 a3 a4 a5 a6 a7 a8 a9 a10 a11 a12 a13 a14 lka
      go_wp2_with fail
      go_roundw
      case rel => exact ⟨j + 1, N + 1, F5, by omega, by simp, by have := hN.out; omega, P5.out⟩
      case measure => simp [intOf]; omega
    · obtain rfl : j = h := by omega
      clear hlt hj
      obtain ⟨D, hD⟩ : ∃ D, play16 c (hm0 c) (A.take j) = D := ⟨_, rfl⟩
      rw [hD] at P3
      have hN3 : Hid (N ≤ 600) := hide (by have := hN.out; have := hm2.out; omega)
      clear hD hN
      go_wp2_with fail
      go_at_call 22
      refine (hmCopy_c p B F c N D wr P3.out.n (by have := hN3.out; omega)).mono ?_
      rintro e w6 ⟨q, rfl, B6, F6, hn6, hl6, hb6⟩
      have E6 := hide (P3.out.two hn6 hl6 hb6)
      clear hn6 hl6 hb6 P3
      go_wp2_with fail
      obtain ⟨Bl, hBl⟩ : ∃ Bl, A.drop j = Bl := ⟨_, rfl⟩
      have hBm : Hid (Bl.length = m) := hide (by rw [← hBl, List.length_drop]; exact hm)
      have hBr : Hid (∀ t : Nat, atB Bl t = atB A (j + t)) := hide (by intro t; rw [← hBl]; exact atB_drop A j t)
      have hBI : Hid (∀ x ∈ Bl, I64 x.l.k) := hide (fun x hx => hAI.out x (by rw [← hBl] at hx; exact List.mem_of_mem_drop hx))
      clear hBl
      have O6 : Hid (Outs w w6 b (TX p q B B6 F F6) (.slice none 0 0) b [] 0 (LS c D Bl)) := hide ⟨own_nilSl (Nat.lt_of_lt_of_le hbB.out E6.out.bel.size), rfl, ⟨.inl rfl, fun e => by
        have h0 := hbB.out
        rcases e with e | e
        · have := E6.out.lo _ e; omega
        · have := E6.out.lo' _ e; omega, fun _ => rfl⟩, fun t ht => by omega⟩
      go_loopw [12, 57] (fun v i wr => ∃ (t g N1 : Nat) (F1 : Nat → Prop) (O : List Sl), t ≤ m ∧ i = .int .i64 t ∧ N1 ≤ N + 3 * t ∧ Hwo w wr p q B B6 F1 F6 c N1 N (play16 c D (Bl.take t)) D ∧ Outs w wr b (TX p q B B6 F1 F6) v g O t (LS c D Bl)) (fun _ i _ => m - (intOf i).toNat)
      case atStart => exact ⟨0, b, N, F, [], Nat.zero_le _, rfl, by omega, E6.out, O6.out⟩
      case round =>
        clear E6 O6
        obtain ⟨t, g, N1, F1, O, ht, rfl, hN1, E7, O7⟩ := hrel
        replace E7 := hide E7
        replace O7 := hide O7
        replace hN1 := hide hN1
        by_cases hlt : t < m
        · have hlt' : (t : Int) < m := by omega
          have hjA : j + t < A.length := by omega
          obtain ⟨b', o'', e', -, hbl, hra⟩ := acts_range (hA.out.below E7.out.bel) hjA
          cases e'
          obtain ⟨y, hy⟩ : ∃ y, atB Bl t = y := ⟨_, rfl⟩
          have htB : t < Bl.length := by rw [hBm.out]; exact hlt
          have hpl := hide (play16_snoc c D Bl t htB)
          rw [atB_get hjA, ← hBr.out, hy] at hra
          rw [hy] at hpl
          have hyk : Hid (I64 y.l.k) := hide (hBI.out y (by rw [← hy]; exact atB_mem htB))
          obtain ⟨D1, hD1⟩ : ∃ D1, play16 c D (Bl.take t) = D1 := ⟨_, rfl⟩
          obtain ⟨L, hL⟩ : ∃ L, Hid (LS c D Bl t = L) := ⟨_, hide rfl⟩
          have hLS : Hid (htL c D1 y.l y.d0 y.d1 = L) := hide (by rw [← hL.out, ← hD1, ← hy]; rfl)
          rw [hD1] at E7 hpl
          have hN6 : Hid (N1 + 3 ≤ 100000) := hide (by have := hN1.out; have := hm2.out; have := hN3.out; omega)
          have eo : o' + (j + t) * 15 = o' + j * 15 + t * 15 := by omega
          rw [eo] at hra
          clear hD1 hy eo htB
          as_aux_lemma =>
            go_upto_region 16 with fail
            go_step
            go_step
            go_step
            go_step
            refine wpList_load_mid (by rfl) _ _ (by rfl) b (o' + j * 15 + t * 15) (by rfl) (actC y) _ hra Tryd.underlying37 (by rfl) (by exact infoAc) ?_
            clear hra
            go_step
            go_step
            go_step
            refine wpList_store_new _ _ (by rfl) (by rfl) (by rfl) (by rfl) (by exact infoAc) (by rfl) (actC_one y) ?_
            obtain ⟨V7, hV7⟩ : ∃ V, wr.alloc (.cells (actC y).toArray 37) = V := ⟨_, rfl⟩
            have hxn : Hid (V7.heap[wr.heap.size]? = some (actsO y)) := by rw [← hV7]; exact hide (heap_alloc_new wr (actsO y))
            have hbn : Hid (Below wr.heap.size wr V7) := by rw [← hV7]; exact hide ((Below.refl _ _).alloc (Nat.le_refl _) _)
            rw [hV7]
            clear hV7
            obtain ⟨ka, hka⟩ : ∃ k, Hid (wr.heap.size = k) := ⟨_, hide rfl⟩
            rw [hka.out] at hxn
            rw [hka.out]
            have E8 := hide (E7.out.below hbn.out)
            have O8 := hide (O7.out.below hbn.out)
            clear E7 O7
            obtain ⟨a0, a1, a2, a3, a4, a5, a6, a7, a8, a9, a10, a11, a12, a13, a14⟩ := acts_at hxn.out
            have lka : ka < V7.heap.size := (Array.getElem?_eq_some_iff.1 hxn.out).1
            go_wp2_with fail
            go_at_call 13
            refine (hmTake_c p B F1 c N1 D1 y.l y.d0 y.d1 y.d2 _ E8.out.n (hide (hT.out.lowH E8.out.bel)) (hide (fun e => by have := E8.out.lo 0 e; have := hT.out.1; omega)) (by have := hN6.out; omega) hyk.out L hLS).mono ?_
            rintro e w9 ⟨v1, rfl, F9, g1, hO⟩
            obtain ⟨ao1, cap1, e1, -⟩ := _root_.id hO.own
            subst e1
            have E9 := hide (E8.out.step hO.nd hO.st)
            rw [show nxHT c D1 y.l y.d0 y.d1 = nxAc c D1 y from rfl, ← hpl.out] at E9
            have O9 := hide (O8.out.step (X' := TX p q B B6 F9 F6) hO.st.fr (fun _ e => .inl e) (fun x e => by
              rcases e with e | e
              · rcases hO.st.new x e with e | e
                · exact .inl (.inl e)
                · exact .inr e
              · exact .inl (.inr e)))
            have L9 := hide ((lies_out (Y := fun x => Fh q B6 F6 x ∨ x = g) hO (fun x e => by
              rcases e with e | e
              · exact E8.out.k.lt x e
              · have := O8.out.own.lt; omega)).mono (X' := fun x => TX p q B B6 F9 F6 x ∨ x = g) (fun x e => by
              rcases e with (e | e) | e
              · exact .inl e
              · exact .inr (.inl e)
              · exact .inr (.inr e)))
            clear hO E8 O8 a0 a1 a2 a3 a4 a5 a6 a7 a8 a9 a10 a11 a12 a13 a14 lka hxn hbn
            have hl : Hid (O.length + [(⟨ao1, L.length, cap1⟩ : Sl)].length ≤ 1000000) := hide (by rw [O9.out.len]; have := hm2.out; simp only [List.length_cons, List.length_nil]; omega)
            have hl2 : Hid (O.length + [(⟨ao1, L.length, cap1⟩ : Sl)].length = t + 1) := hide (by rw [O9.out.len]; rfl)
            go_wp2_with (at_builtin; refine wpList_appSl rfl _ _ rfl rfl rfl (O9.out.own.alloc _) (view_oneSl _ ⟨ao1, L.length, cap1⟩) hl.out (t + 1) hl2.out ?_; intro ao' cap' w10 g' hown hap; have AP := hide ((O9.out.below ((Below.refl _ _).alloc (Nat.le_refl _) _)).app hbB.out (E9.out.alloc _).bel.size (E9.out.alloc _).tx hown hap (by rw [hL.out]; exact L9.out.below ((Below.refl _ _).alloc (Nat.le_refl _) _))); clear hown hap)
            have E10 := hide ((E9.out.alloc _).aside AP.out.2 (fun _ h => h.2) (fun x h1 h2 => O9.out.gd.nx (.inl (h2.1 ▸ h1))) (fun x h1 h2 => O9.out.gd.nx (.inr (h2.1 ▸ h1))))
            go_roundw
            case rel => exact ⟨t + 1, g', N1 + 1, F9, _, by omega, by simp, by have := hN1.out; omega, E10.out, AP.out.1⟩
            case measure => simp [intOf]; omega
        · obtain rfl : t = m := by omega
          clear hlt ht
          obtain ⟨aoO, capO, eO, hlcO, -⟩ := _root_.id O7.out.own
          rw [O7.out.len] at eO hlcO
          subst eO
          have hDe : Hid (play16 c D (Bl.take t) = play16 c D Bl) := hide (by rw [List.take_of_length_le (by rw [hBm.out]; exact Nat.le_refl _)])
          rw [hDe.out] at E7
          obtain ⟨Dp, hDp⟩ : ∃ x, Hid (play16 c D Bl = x) := ⟨_, hide rfl⟩
          rw [hDp.out] at E7
          clear hN1
          go_wp2_with fail
          go_loopw [75] (fun i wr => ∃ (s N2 : Nat) (F2 : Nat → Prop), s ≤ t ∧ i = .int .i64 s ∧ N2 ≤ N + 3 * s ∧ Hwo w wr p q B B6 F1 F2 c N1 N2 Dp (play16 c D (Bl.take s)) ∧ Outs w wr b (TX p q B B6 F1 F2) (.slice aoO t capO) g O t (LS c D Bl)) (fun i _ => t - (intOf i).toNat)
          case atStart => exact ⟨0, N, F6, Nat.zero_le _, rfl, by omega, E7.out, O7.out⟩
          case round =>
            clear E7 O7
            obtain ⟨s, N2, F2, hs, rfl, hN2, E8, O8⟩ := hrel
            replace E8 := hide E8
            replace O8 := hide O8
            replace hN2 := hide hN2
            by_cases hlt : s < t
            · have hlt' : (s : Int) < t := by omega
              have hjA : j + s < A.length := by omega
              obtain ⟨b', o'', e', -, hbl, hra⟩ := acts_range (hA.out.below E8.out.bel) hjA
              cases e'
              obtain ⟨y, hy⟩ : ∃ y, atB Bl s = y := ⟨_, rfl⟩
              have htB : s < Bl.length := by rw [hBm.out]; exact hlt
              have hpl := hide (play16_snoc c D Bl s htB)
              rw [atB_get hjA, ← hBr.out, hy] at hra
              rw [hy] at hpl
              have hyk : Hid (I64 y.l.k) := hide (hBI.out y (by rw [← hy]; exact atB_mem htB))
              obtain ⟨D1, hD1⟩ : ∃ D1, play16 c D (Bl.take s) = D1 := ⟨_, rfl⟩
              obtain ⟨L, hL⟩ : ∃ L, Hid (LS c D Bl s = L) := ⟨_, hide rfl⟩
              have hLS : Hid (htL c D1 y.l y.d0 y.d1 = L) := hide (by rw [← hL.out, ← hD1, ← hy]; rfl)
              rw [hD1] at E8 hpl
              have hN6 : Hid (N2 + 3 ≤ 100000) := hide (by have := hN2.out; have := hm2.out; have := hN3.out; omega)
              have eo : o' + (j + s) * 15 = o' + j * 15 + s * 15 := by omega
              rw [eo] at hra
              clear hD1 hy eo htB
              as_aux_lemma =>
                go_upto_region 21 with fail
                go_step
                go_step
                go_step
                go_step
                go_step
                go_step
                go_step
                refine wpList_load_mid (by rfl) _ _ (by rfl) b (o' + j * 15 + s * 15) (by rfl) (actC y) _ hra Tryd.underlying37 (by rfl) (by exact infoAc) ?_
                clear hra
                go_step
                go_step
                go_step
                go_step
                go_step
                go_step
                refine wpList_store_new _ _ (by rfl) (by rfl) (by rfl) (by rfl) (by exact infoAc) (by rfl) (actC_one y) ?_
                obtain ⟨V7, hV7⟩ : ∃ V, wr.alloc (.cells (actC y).toArray 37) = V := ⟨_, rfl⟩
                have hxn : Hid (V7.heap[wr.heap.size]? = some (actsO y)) := by rw [← hV7]; exact hide (heap_alloc_new wr (actsO y))
                have hbn : Hid (Below wr.heap.size wr V7) := by rw [← hV7]; exact hide ((Below.refl _ _).alloc (Nat.le_refl _) _)
                rw [hV7]
                clear hV7
                obtain ⟨ka, hka⟩ : ∃ k, Hid (wr.heap.size = k) := ⟨_, hide rfl⟩
                rw [hka.out] at hxn
                rw [hka.out]
                have E8n := hide (fun x (e : Fh q B6 F2 x) => E8.out.k.lt x e)
                have E9 := hide (E8.out.below hbn.out)
                have O9 := hide (O8.out.below hbn.out)
                clear E8 O8
                obtain ⟨-, -, -, kO⟩ := view_atSl O9.out.own.view rfl
                obtain ⟨oO, rfl, hgl, q0⟩ := kO s (by rw [O9.out.len]; exact hlt)
                have hLi := hide (O9.out.lies s hlt)
                rw [otO_get] at q0
                obtain ⟨x, hx⟩ : ∃ x, otO O s = x := ⟨_, rfl⟩
                rw [hx] at q0 hLi
                rw [hL.out] at hLi
                have hgn : Hid (¬ Fh q B6 F2 g) := hide (fun e => O9.out.gd.nx (.inr e))
                have hsl := hlcO
                clear kO hx
                obtain ⟨a0, a1, a2, a3, a4, a5, a6, a7, a8, a9, a10, a11, a12, a13, a14⟩ := acts_at hxn.out
                have lka : ka < V7.heap.size := (Array.getElem?_eq_some_iff.1 hxn.out).1
                go_upto_region 22 with fail
                clear a14
                go_wp2_with fail
                refine wp_region_noPanic ?_
                refine wp_region_held_drew (S := (fun w' => w'.cell? ⟨ka, 0, none⟩ = some (.int .i64 y.l.k) ∧ w'.cell? ⟨ka, 1, none⟩ = some (.int .i64 y.l.a) ∧ w'.cell? ⟨ka, 2, none⟩ = some (.int .i64 y.l.b) ∧ w'.cell? ⟨ka, 3, none⟩ = some (.int .i64 y.l.q) ∧ w'.cell? ⟨ka, 4, none⟩ = some (.int .i64 y.l.s) ∧ w'.cell? ⟨ka, 5, none⟩ = some (.int .i64 y.l.w) ∧ w'.cell? ⟨ka, 6, none⟩ = some (.bool y.l.r) ∧ w'.cell? ⟨ka, 7, none⟩ = some (.int .i64 y.l.n) ∧ w'.cell? ⟨ka, 8, none⟩ = some (.bool y.l.o) ∧ w'.cell? ⟨ka, 9, none⟩ = some (.bool y.l.h) ∧ w'.cell? ⟨ka, 10, none⟩ = some (.int .i64 y.l.d) ∧ w'.cell? ⟨ka, 11, none⟩ = some (.int .i64 y.d0) ∧ w'.cell? ⟨ka, 12, none⟩ = some (.int .i64 y.d1) ∧ w'.cell? ⟨ka, 13, none⟩ = some (.int .i64 y.d2) ∧ w'.cell? ⟨g, oO + s, none⟩ = some (.slice x.a x.n x.c))) (by kernel_rfl) ?_ (fun hHeld => ?_)
                · exact ⟨a0, a1, a2, a3, a4, a5, a6, a7, a8, a9, a10, a11, a12, a13, q0⟩
                clear a0 a1 a2 a3 a4 a5 a6 a7 a8 a9 a10 a11 a12 a13
                refine hTk 0 80 hHeld ?_
                refine hTk 1 81 hHeld ?_
                refine hTk 2 82 hHeld ?_
                refine hTk 3 83 hHeld ?_
                refine hTk 4 84 hHeld ?_
                refine hTk 6 86 hHeld ?_
                refine hTk 7 87 hHeld ?_
                refine hTk 8 88 hHeld ?_
                refine hTk 9 89 hHeld ?_
                replace E9 := hide (E9.out.below (V' := V7.drew) (belowN (Below.refl _ _) 1))
                replace O9 := hide (O9.out.below (V' := V7.drew) (belowN (Below.refl _ _) 1))
                replace hLi := hide (hLi.out.below (V' := V7.drew) (belowN (Below.refl _ _) 1))
                have hx7 : Hid (V7.drew.heap[ka]? = some (actsO y) ∧ ka < V7.drew.heap.size ∧ g < V7.drew.heap.size ∧ ¬ Fh q B6 F2 ka) := hide ⟨hxn.out, lka, hgl, fun e => by have := E8n.out ka e; have := hka.out; omega⟩
                replace q0 : V7.drew.cell? ⟨g, oO + s, none⟩ = some (.slice x.a x.n x.c) := q0
                obtain ⟨w8, hw8⟩ : ∃ W, V7.drew = W := ⟨_, rfl⟩
                rw [hw8] at hHeld E9 O9 hLi hx7 q0 ⊢
                clear hw8 hxn hbn
                refine hNo 5 fun K hK => ?_
                go_simp
                go_at_call 13
                refine (hmTake_c q B6 F2 c N2 D1 y.l y.d0 y.d1 y.d2 _ E9.out.k (hide (hT.out.lowH E9.out.bel)) (hide (fun e => by have := E9.out.lo' 0 e; have := hT.out.1; omega)) (by have := hN6.out; omega) hyk.out L hLS).mono ?_
                rintro e w9 ⟨v1, rfl, F9, g1, hO⟩
                have E10 := hide (E9.out.swap.step hO.nd hO.st).swap
                rw [show nxHT c D1 y.l y.d0 y.d1 = nxAc c D1 y from rfl, ← hpl.out] at E10
                have hXs : ∀ x, TX p q B B6 F1 F9 x → TX p q B B6 F1 F2 x ∨ w8.heap.size ≤ x := fun x e => by
                  rcases e with e | e
                  · exact .inl (.inl e)
                  · rcases hO.st.new x e with e | e
                    · exact .inl (.inr e)
                    · exact .inr e
                have O10 := hide (O9.out.step (X' := TX p q B B6 F1 F9) hO.st.fr (fun _ e => .inr e) hXs)
                have vk1 := hide hO.own.view
                have hLi2 := hide (hLi.out.fr (X' := fun y => TX p q B B6 F1 F9 y ∨ y = g) hO.st.fr (fun _ e => .inl (.inr e)) (fun y e => by
                  rcases e with e | e
                  · rcases hXs y e with e | e
                    · exact .inl (.inl e)
                    · exact .inr e
                  · exact .inl (.inr e)))
                have hx9 := (hO.st.fr.block ka hx7.out.2.1 hx7.out.2.2.2).trans hx7.out.1
                replace q0 := keep_cell (hO.st.fr.block g hx7.out.2.2.1 hgn.out) q0
                clear hO E9 O9 hLi hx7 hXs
                obtain ⟨a0, a1, a2, a3, a4, a5, a6, a7, a8, a9, a10, a11, a12, a13, a14⟩ := acts_at hx9
                refine hK.out _ _ ?_ fun hHeld => ?_
                · exact ⟨a0, a1, a2, a3, a4, a5, a6, a7, a8, a9, a10, a11, a12, a13, q0⟩
                clear hK K
                try simp only [Act.put, za, zb, zc]
                refine hNo 10 fun K hK => ?_
                go_simp
                go_at_call 12
                obtain ⟨u1, z1, -⟩ := hLi2.out
                refine (sameT_c _ _ g1 u1 L _ vk1.out z1).mono ?_
                rintro e w12 ⟨rfl, n1, rfl⟩
                refine hK.out _ _ ?_ fun hHeld => ?_
                · exact ⟨a0, a1, a2, a3, a4, a5, a6, a7, a8, a9, a10, a11, a12, a13, q0⟩
                clear hK K
                try simp only [Act.put, za, zb, zc]
                refine hTk 11 91 hHeld ?_
                refine wpAnyH_done (by kernel_rfl) (NoPanic.normal ?_) _
                clear hHeld
                go_wp2_with fail
                go_roundw
                case rel => exact ⟨s + 1, N2 + 1, F9, by omega, by simp, by have := hN2.out; omega, E10.out.below (belowN (Below.refl _ _) _), O10.out.below (belowN (Below.refl _ _) _)⟩
                case measure => simp [intOf]; omega
            · obtain rfl : s = t := by omega
              rw [hDe.out, hDp.out] at E8
              as_aux_lemma =>
                obtain ⟨n3, hn3⟩ : ∃ n, Hid (Dp.M.length = n) := ⟨_, hide rfl⟩
                go_wp2_with fail
                go_at_call 18
                refine (hmAll_c p _ _ c _ Dp _ E8.out.n n3 hn3).mono ?_
                rintro e w11 ⟨rfl, ho5, hb11⟩
                have E11 := hide (E8.out.below hb11)
                obtain ⟨k11, hk11⟩ : ∃ k, Hid (wr.heap.size = k) := ⟨_, hide rfl⟩
                rw [hk11.out] at ho5
                rw [hk11.out]
                replace ho5 := hide ho5
                clear hb11
                go_wp2_with fail
                go_at_call 18
                refine (hmAll_c q _ _ c _ Dp _ E11.out.k n3 hn3).mono ?_
                rintro e w12 ⟨rfl, ho7, hb12⟩
                have E12 := hide (E11.out.below hb12)
                have q5 := hide (ho5.out.below hb12)
                obtain ⟨k12, hk12⟩ : ∃ k, Hid (w11.heap.size = k) := ⟨_, hide rfl⟩
                rw [hk12.out] at ho7
                rw [hk12.out]
                replace ho7 := hide ho7
                clear hb12
                go_wp2_with fail
                go_at_call 17
                refine (sameB_c _ _ k11 k12 Dp.M _ q5.out.view ho7.out.view).mono ?_
                rintro e w13 ⟨rfl, n13, rfl⟩
                go_wp2_with fail
                go_ret
                exact ⟨rfl, belowN E12.out.bel n13⟩
theorem HomeCopies_walk (c : Cf) (v : Value) (A : List Ac) (w : World) (hT : Hid (Tab w)) (h1 : ActsAt w.heap.size w v A) : Calls Tryd.prog 8 #[.agg #[.int .i64 c.n, .int .i64 c.bl, .int .i64 c.tt, .int .i64 c.cs, .int .i64 c.cy, .int .i64 c.cc, .int .i64 c.cu, .int .i64 c.ct, .int .i64 c.cp], v] w fun e w' => e = .returned (.bool true) ∧ Below w.heap.size w w' := by
  obtain ⟨ao, cap, rfl, hlc, hmx, hcs⟩ := _root_.id h1
  by_cases h : cfgZ c.n c.bl c.tt c.cs c.cy c.cc c.cu c.ct c.cp = 0 ∧ A.length ≤ 200
  · by_cases hz : A.length = 0
    · obtain rfl : A = [] := List.eq_nil_of_length_eq_zero hz
      exact copiesNil_walk c ao cap w hT (hide h.1) (Classical.em _)
    · obtain ⟨b, o', rfl, hbB, -⟩ := acts_row h1 (show 0 < A.length by omega)
      exact copiesOk_walk c b o' cap A w hT (hide h1) (hide h.2) (by omega) hlc (hide hbB) (hide h.1)
  · exact copiesNo_walk c ao A.length cap w hT (by unfold maxLen at hmx; omega) h
end Go.Proofs.YtmgjgeaigdiadaaDoor
