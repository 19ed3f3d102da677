/- layer 16: Made16 Env16b, put together. -/
import Derived.Test.YtmgjgeaigdiadaaDoorB41
import Derived.Test.YtmgjgeaigdiadaaDoorB42
namespace Go.Proofs.YtmgjgeaigdiadaaDoor
open Go.ChangeShapes Go.WideShapes Go.ChangeAt Go.RowKit
set_option linter.unusedSimpArgs false
set_option linter.unusedVariables false
set_option maxRecDepth 10000
attribute [local go_sem, local simp] over_const setCell_drewN alloc_drewN Over.cell Over.frozen lt_s1 lt_s2 lt_s3 le_s0 le_s1 le_s2 le_s3 eq_s0 eq_s1 eq_s2 qe_s0
theorem node0 {c : Cf} (h : cfgZ c.n c.bl c.tt c.cs c.cy c.cc c.cu c.ct c.cp = 0) : nodeB 0 c.n = true := by
  unfold cfgZ at h
  split at h <;> (try omega)
  split at h <;> (try omega)
  rename_i hn
  have hn := inB_true.1 (by simpa using hn)
  exact nodeB_true.2 (by omega)
set_option maxHeartbeats 2000000 in
theorem madeNo_c (c : Cf) (ao : Option Addr) (n cap : Nat) (w : World) (h : ¬ (cfgZ c.n c.bl c.tt c.cs c.cy c.cc c.cu c.ct c.cp = 0 ∧ n ≤ 200)) (hn : n ≤ 9223372036854775807) : Calls Tryd.prog 9 #[.agg #[.int .i64 c.n, .int .i64 c.bl, .int .i64 c.tt, .int .i64 c.cs, .int .i64 c.cy, .int .i64 c.cc, .int .i64 c.cu, .int .i64 c.ct, .int .i64 c.cp], .slice ao n cap] w fun e w' => e = .returned (.tuple #[.pointer none, .pointer none, .bool false]) ∧ Below w.heap.size w w' := by
  obtain ⟨z, hz⟩ : ∃ z, Hid (cfgZ c.n c.bl c.tt c.cs c.cy c.cc c.cu c.ct c.cp = z) := ⟨_, rfl⟩
  rw [hz.out] at h
  by_cases ez : z = 0
  · subst ez
    have hn2 : (200 : Int) < n := by
      have : ¬ n ≤ 200 := fun e => h ⟨rfl, e⟩
      omega
    clear h
    go_enter Tryd.func9, Tryd.ntmps9
    go_wp2_with (go_at_call 11; refine (refConfig_c c.n c.bl c.tt c.cs c.cy c.cc c.cu c.ct c.cp _ 0 hz).mono ?_; rintro e w1 ⟨rfl, hb1⟩; obtain ⟨x, rfl⟩ := over hb1; clear hb1; have f1 := x.upB (w.heap.size))
    go_ret3
    exact ⟨rfl, by all_goals exact belEnd⟩
  · obtain ⟨e1, e2, e3⟩ := cmpF ez
    replace ez := hide ez
    clear h
    go_enter Tryd.func9, Tryd.ntmps9
    go_wp2_with (go_at_call 11; refine (refConfig_c c.n c.bl c.tt c.cs c.cy c.cc c.cu c.ct c.cp _ z hz).mono ?_; rintro e w1 ⟨rfl, hb1⟩; obtain ⟨x, rfl⟩ := over hb1; clear hb1; have f1 := x.upB (w.heap.size))
    go_ret3
    exact ⟨rfl, by all_goals exact belEnd⟩
set_option maxHeartbeats 2000000 in
theorem madeOk_c (c : Cf) (ao : Option Addr) (n cap : Nat) (w : World) (h0 : Hid (cfgZ c.n c.bl c.tt c.cs c.cy c.cc c.cu c.ct c.cp = 0)) (hn : n ≤ 200) : Calls Tryd.prog 9 #[.agg #[.int .i64 c.n, .int .i64 c.bl, .int .i64 c.tt, .int .i64 c.cs, .int .i64 c.cy, .int .i64 c.cc, .int .i64 c.cu, .int .i64 c.ct, .int .i64 c.cp], .slice ao n cap] w fun e w' => ∃ p q, e = .returned (.tuple #[ptr p, ptr q, .bool true]) ∧ ∃ B F Bq G, Hduo w w' p B F q Bq G c 0 (hm0 c) := by
  have hn2 : ¬ (200 : Int) < n := by omega
  have h1 := hide (node0 h0.out)
  have hok := hide (cfOk_of h0.out h1.out)
  go_enter Tryd.func9, Tryd.ntmps9
  go_upto_region 3 with (go_at_call 11; refine (refConfig_c c.n c.bl c.tt c.cs c.cy c.cc c.cu c.ct c.cp _ 0 h0).mono ?_; rintro e w1 ⟨rfl, hb1⟩; obtain ⟨x, rfl⟩ := over hb1; clear hb1; have f1 := x.upB (w.heap.size))
  refine name_world ?_
  intro V hV
  have hB : Hid (Below w.heap.size w V) := by rw [← hV]; exact hide (by all_goals exact belEnd)
  have kc0 : V.heap[w.heap.size]? = some (cfR c) := by rw [← hV]; exact (x.below.block _ (by simp)).trans (heap_alloc_new w _)
  have hkl : w.heap.size < V.heap.size := by rw [← hV]; exact f1
  obtain ⟨kc, hke⟩ : ∃ kc, w.heap.size = kc := ⟨_, rfl⟩
  rw [hke] at kc0 hkl ⊢
  replace hke := hide hke
  clear hV
  obtain ⟨c0, c1, c2, c3, c4, c5, c6, c7, c8⟩ := cf_at kc0
  go_wp2_with fail
  go_at_call 26
  refine (hmNew_c c _ h0 h1).mono ?_
  rintro e w3 ⟨p, rfl, B, Fc, hn3, hlo3, hb3⟩
  have kc3 := (hb3.block _ hkl).trans kc0
  have hkl3 := Nat.lt_of_lt_of_le hkl hb3.size
  clear c0 c1 c2 c3 c4 c5 c6 c7 c8
  obtain ⟨c0, c1, c2, c3, c4, c5, c6, c7, c8⟩ := cf_at kc3
  have hp3 := hn3.pl
  replace hn3 := hide hn3
  have hB3 := hide (hB.out.trans (hb3.mono hB.out.size))
  have hlo : Hid (∀ b, Fh p B Fc b → w.heap.size ≤ b) := hide (fun b hb => Nat.le_trans hB.out.size (hlo3 b hb))
  clear hb3 hlo3 hB kc0 hkl
  go_wp2_with (go_at_call 27; refine (rhNew_c c _ hok.out).mono ?_; rintro e w4 ⟨q, rfl, Bq, G, hd4, hlo4, hb4⟩; have hn4 := hide (hn3.out.below hb4); have hB4 := hide (hB3.out.trans (hb4.mono hB3.out.size)); replace hd4 := hide hd4; have hdis := hide (fun b (hb : Fh p B Fc b) (hd : Fd q Bq G b) => (show False by have := hn3.out.lt b hb; have := hlo4 b hd; omega)); have hloq : Hid (∀ b, Fd q Bq G b → w.heap.size ≤ b) := hide (fun b hb => Nat.le_trans hB3.out.size (hlo4 b hb)); clear hlo4 hb4)
  go_ret3
  exact ⟨_, _, rfl, _, _, _, _, ⟨⟨hn4.out, hlo.out, hB4.out⟩, hd4.out, hloq.out, hdis.out⟩⟩
theorem Tab.lowH {w w' : World} (h : Tab w) (hb : Below w.heap.size w w') : Tab w' := h.step (F := fun _ => False) (F' := fun _ => False) (Step.of_below hb) (fun h => h)
theorem step_l {F F' G : Nat → Prop} {w w' : World} (h : Step F F' w w') : Step (fun b => F b ∨ G b) (fun b => F' b ∨ G b) w w' :=
  ⟨h.fr.mono (fun i _ e => .inl e), fun b e => by
    rcases e with e | e
    · rcases h.new b e with e2 | e2
      · exact .inl (.inl e2)
      · exact .inr e2
    · exact .inl (.inr e)⟩
theorem step_r {F F' G : Nat → Prop} {w w' : World} (h : Step F F' w w') : Step (fun b => G b ∨ F b) (fun b => G b ∨ F' b) w w' :=
  ⟨h.fr.mono (fun i _ e => .inr e), fun b e => by
    rcases e with e | e
    · exact .inl (.inl e)
    · rcases h.new b e with e2 | e2
      · exact .inl (.inr e2)
      · exact .inr e2⟩
theorem RhIs.mem2 {w : World} {q : Nat} {B : Bd} {F : Nat → Prop} {c : Cf} {N : Nat} {D : Hm} (h : RhIs w q B F c N D) : ∃ ao cap, ∀ w', Below w.heap.size w w' → w'.cell? ⟨q, 9, none⟩ = some (.slice ao D.M.length cap) ∧ ViewB w' (.slice ao D.M.length cap) B.mg D.M := by
  obtain ⟨ao, cap, h1, h2⟩ := h.mem
  exact ⟨ao, cap, fun w' hb => ⟨keep_cell (hb.block q h.pl) h1, h2.below hb⟩⟩
structure Hdz (w V : World) (p : Nat) (B : Bh) (F : Nat → Prop) (q : Nat) (Bq : Bd) (G : Nat → Prop) (c : Cf) (N : Nat) (D : Hm) (K : List (Nat × Obj)) : Prop where
  d : Hduo w V p B F q Bq G c N D
  x : Bz w V (fun b => Fh p B F b ∨ Fd q Bq G b) K
section
variable {w V V' : World} {p : Nat} {B : Bh} {F F2 : Nat → Prop} {q : Nat} {Bq Bq2 : Bd} {G G2 : Nat → Prop} {c : Cf} {N M : Nat} {D D2 : Hm} {K : List (Nat × Obj)}
theorem Hdz.below (h : Hdz w V p B F q Bq G c N D K) (hb : Below V.heap.size V V') : Hdz w V' p B F q Bq G c N D K := ⟨h.d.below hb, h.x.step (Step.of_below hb)⟩
theorem Hdz.new (h : Hdz w V p B F q Bq G c N D K) (o : Obj) : Hdz w (V.alloc o) p B F q Bq G c N D ((V.heap.size, o) :: K) := by
  have h2 := h.below (V' := V.alloc o) ((Below.refl _ _).alloc (Nat.le_refl _) _)
  refine ⟨h2.d, fun x hx => ?_⟩
  rcases List.mem_cons.1 hx with rfl | hx
  · exact ⟨h.d.a.bel.size, by simp, fun e => by
      rcases e with e | e
      · have := h.d.a.n.lt _ e; omega
      · have := h.d.d.lt _ e; omega, heap_alloc_new _ _⟩
  · exact h2.x x hx
theorem Hdz.head {k : Nat} {cs : Array Value} {T : TypeId} (h : Hdz w V p B F q Bq G c N D ((k, .cells cs T (0, 0)) :: K)) (hk : ∀ x ∈ K, x.1 ≠ k) (i : Nat) (u : Value) : Hdz w (V.setCell ⟨k, i, none⟩ u) p B F q Bq G c N D ((k, .cells (cs.setIfInBounds i u) T (0, 0)) :: K) := by
  obtain ⟨h1, h2, h3, h4⟩ := h.x (k, .cells cs T (0, 0)) (by simp)
  have hf : FrS (· = k) V (V.setCell ⟨k, i, none⟩ u) := wrK (FrS.refl _ _) u
  refine ⟨h.d.frk hf h1 (fun e => h3 (.inl e)) (fun e => h3 (.inr e)), fun x hx => ?_⟩
  rcases List.mem_cons.1 hx with rfl | hx
  · exact ⟨h1, by simpa using h2, h3, heap_setCell_same _ _ _ _ _ _ h4⟩
  · obtain ⟨q1, q2, q3, q4⟩ := h.x x (by simp [hx])
    exact ⟨q1, by simpa using q2, q3, (Below.heap_setCell _ _ _ _ (hk x hx)).trans q4⟩
theorem Hdz.sub {K' : List (Nat × Obj)} (h : Hdz w V p B F q Bq G c N D K) (hK : ∀ x ∈ K', x ∈ K) : Hdz w V p B F q Bq G c N D K' := ⟨h.d, fun x hx => h.x x (hK x hx)⟩
theorem Hdz.setA {k : Nat} (h : Hdz w V p B F q Bq G c N D ((k, resO at0) :: K)) (hk : ∀ x ∈ K, x.1 ≠ k) (a : At) : Hdz w (setA V k a) p B F q Bq G c N D ((k, resO a) :: K) := by
  have e1 : Hdz w (V.setCell ⟨k, 0, none⟩ (.int .i64 a.b)) p B F q Bq G c N D ((k, .cells #[.int .i64 a.b, .int .i64 0, .int .i64 0] 43 (0, 0)) :: K) := h.head hk 0 _
  have e2 : Hdz w ((V.setCell ⟨k, 0, none⟩ (.int .i64 a.b)).setCell ⟨k, 1, none⟩ (.int .i64 a.n)) p B F q Bq G c N D ((k, .cells #[.int .i64 a.b, .int .i64 a.n, .int .i64 0] 43 (0, 0)) :: K) := e1.head hk 1 _
  exact e2.head hk 2 _
structure Hmid (w V : World) (p : Nat) (B : Bh) (F : Nat → Prop) (q : Nat) (Bq : Bd) (G : Nat → Prop) (c : Cf) (N M : Nat) (D D2 : Hm) (K : List (Nat × Obj)) : Prop where
  a : Hone w V p B F c M D2
  d : RhIs V q Bq G c N D
  lo : ∀ b, Fd q Bq G b → w.heap.size ≤ b
  dis : ∀ b, Fh p B F b → ¬ Fd q Bq G b
  x : Bz w V (fun b => Fh p B F b ∨ Fd q Bq G b) K
theorem Hdz.prog (h : Hdz w V p B F q Bq G c N D K) (hn : HmIs V' p B F2 c M D2) (hs : Step (Fh p B F) (Fh p B F2) V V') : Hmid w V' p B F2 q Bq G c N M D D2 K := by
  obtain ⟨h1, h2, h3⟩ := h.d.prog hn hs
  exact ⟨h1, h2, h.d.lo, h3, h.x.step (step_l hs)⟩
theorem Hmid.below (h : Hmid w V p B F q Bq G c N M D D2 K) (hb : Below V.heap.size V V') : Hmid w V' p B F q Bq G c N M D D2 K := ⟨h.a.below hb, h.d.below hb, h.lo, h.dis, h.x.step (Step.of_below hb)⟩
theorem Hmid.doc (h : Hmid w V p B F q Bq G c N M D D2 K) (hn : RhIs V' q Bq2 G2 c M D2) (hs : Step (Fd q Bq G) (Fd q Bq2 G2) V V') : Hdz w V' p B F q Bq2 G2 c M D2 K :=
  ⟨duo_doc h.a h.d h.lo h.dis hn hs, h.x.step (step_r hs)⟩
theorem Hmid.keepT (h : Hmid w V p B F q Bq G c N M D D2 K) (hs : Step (Fd q Bq G) (Fd q Bq2 G2) V V') {v : Value} {g : Nat} {L : List Lt} (ho : OwnT V v g L) (hg : ¬ Fd q Bq G g) : OwnT V' v g L := ho.fr hs.fr hg
theorem Hdz.swap {r : Nat} {B' : Bh} {F' : Nat → Prop} (h : Hdz w V p B F q Bq G c N D K) (hn : HmIs V' r B' F' c M D2) (hl : ∀ b, Fh r B' F' b → V.heap.size ≤ b) (hb : Below V.heap.size V V') : Hmid w V' r B' F' q Bq G c N M D D2 K :=
  ⟨⟨hn, fun b e => Nat.le_trans h.d.a.bel.size (hl b e), h.d.a.bel.trans (hb.mono h.d.a.bel.size)⟩, h.d.d.below hb, h.d.lo, fun b e hd => by have := hl b e; have := h.d.d.lt b hd; omega, fun x hx => by
    obtain ⟨q1, q2, q3, q4⟩ := (h.below hb).x x hx
    refine ⟨q1, q2, fun e => ?_, q4⟩
    rcases e with e | e
    · have h1 := hl _ e
      have h2 := (h.x x hx).2.1
      omega
    · exact q3 (.inr e)⟩
end
theorem made_hdz {w V V1 : World} {p : Nat} {B : Bh} {F : Nat → Prop} {q : Nat} {Bq : Bd} {G : Nat → Prop} {c : Cf} {N : Nat} {D : Hm} {kc : Nat} {o : Obj} (hB : Below w.heap.size w V) (h : Hduo V V1 p B F q Bq G c N D) (hX : V.heap[kc]? = some o) (hk : w.heap.size ≤ kc) : Hdz w V1 p B F q Bq G c N D [(kc, o)] := by
  have hl := (Array.getElem?_eq_some_iff.1 hX).1
  refine ⟨⟨⟨h.a.n, fun b e => Nat.le_trans hB.size (h.a.lo b e), hB.trans (h.a.bel.mono hB.size)⟩, h.d, fun b e => Nat.le_trans hB.size (h.lo b e), h.dis⟩, fun x hx => ?_⟩
  simp only [List.mem_cons, List.not_mem_nil, or_false] at hx
  subst hx
  refine ⟨hk, Nat.lt_of_lt_of_le hl h.a.bel.size, fun e => ?_, (h.a.bel.block _ hl).trans hX⟩
  rcases e with e | e
  · have := h.a.lo _ e; dsimp only at this; omega
  · have := h.lo _ e; dsimp only at this; omega
structure Htri (w V : World) (p : Nat) (B : Bh) (F : Nat → Prop) (N : Nat) (D : Hm) (q : Nat) (Bq : Bd) (G : Nat → Prop) (r : Nat) (B' : Bh) (F' : Nat → Prop) (c : Cf) (M : Nat) (D' : Hm) (K : List (Nat × Obj)) : Prop where
  a : Hone w V p B F c N D
  z : Hdz w V r B' F' q Bq G c M D' K
  pr : ∀ b, Fh p B F b → ¬ Fh r B' F' b
  pq : ∀ b, Fh p B F b → ¬ Fd q Bq G b
  pk : ∀ x ∈ K, ¬ Fh p B F x.1
section
variable {w V V' : World} {p r : Nat} {B B' : Bh} {F F2 F' : Nat → Prop} {q : Nat} {Bq : Bd} {G : Nat → Prop} {c : Cf} {N M M2 : Nat} {D D2 D' : Hm} {K : List (Nat × Obj)}
theorem Htri.first (h : Hdz w V p B F q Bq G c N D K) (hn : HmIs V' r B' F' c N D) (hl : ∀ b, Fh r B' F' b → V.heap.size ≤ b) (hb : Below V.heap.size V V') : Htri w V' p B F N D q Bq G r B' F' c N D K := by
  have hs := h.swap hn hl hb
  exact ⟨h.d.a.below hb, ⟨⟨hs.a, hs.d, hs.lo, hs.dis⟩, hs.x⟩, fun b e e2 => by have := hl b e2; have := h.d.a.n.lt b e; omega, h.d.dis, fun x hx e => (h.x x hx).2.2.1 (.inl e)⟩
theorem Htri.below (h : Htri w V p B F N D q Bq G r B' F' c M D' K) (hb : Below V.heap.size V V') : Htri w V' p B F N D q Bq G r B' F' c M D' K := ⟨h.a.below hb, h.z.below hb, h.pr, h.pq, h.pk⟩
theorem Htri.old (h : Htri w V p B F N D q Bq G r B' F' c M D' K) (hn : HmIs V' p B F2 c M2 D2) (hs : Step (Fh p B F) (Fh p B F2) V V') : Htri w V' p B F2 M2 D2 q Bq G r B' F' c M D' K := by
  have nw : ∀ b, Fh p B F2 b → Fh p B F b ∨ V.heap.size ≤ b := hs.new
  refine ⟨h.a.step hn hs, ⟨⟨⟨h.z.d.a.n.fr hs.fr (fun b hb e => h.pr b e hb), h.z.d.a.lo, hs.belowW h.z.d.a.bel h.a.lo⟩, h.z.d.d.fr hs.fr (fun b hb e => h.pq b e hb), h.z.d.lo, h.z.d.dis⟩, fun x hx => ?_⟩, fun b e e2 => ?_, fun b e e2 => ?_, fun x hx e => ?_⟩
  · obtain ⟨q1, q2, q3, q4⟩ := h.z.x x hx
    exact ⟨q1, Nat.lt_of_lt_of_le q2 hs.fr.size, q3, (hs.fr.block _ q2 (h.pk x hx)).trans q4⟩
  · rcases nw b e with e3 | e3
    · exact h.pr b e3 e2
    · have := h.z.d.a.n.lt b e2; omega
  · rcases nw b e with e3 | e3
    · exact h.pq b e3 e2
    · have := h.z.d.d.lt b e2; omega
  · rcases nw _ e with e3 | e3
    · exact h.pk x hx e3
    · have := (h.z.x x hx).2.1; omega
end
end Go.Proofs.YtmgjgeaigdiadaaDoor
