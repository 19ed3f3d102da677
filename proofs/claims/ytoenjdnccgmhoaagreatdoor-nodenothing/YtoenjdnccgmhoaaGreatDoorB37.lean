/- layer 15: NdI NdJ, put together. -/
import Derived.Test.YtoenjdnccgmhoaaGreatDoorB34
import Derived.Test.YtoenjdnccgmhoaaGreatDoorB29
import Derived.Test.YtoenjdnccgmhoaaGreatDoorB36
namespace Go.Proofs.YtoenjdnccgmhoaaGreatDoor
open Go.ChangeShapes Go.WideShapes Go.ChangeAt Go.RowKit
set_option linter.unusedSimpArgs false
set_option linter.unusedVariables false
set_option maxRecDepth 10000
attribute [local go_sem, local simp] over_const setCell_drewN alloc_drewN Over.cell Over.frozen lt_s1 lt_s2 lt_s3 le_s0 le_s1 le_s2 le_s3 eq_s0 eq_s1 eq_s2 qe_s0
def Bz (w V : World) (F : Nat → Prop) (K : List (Nat × Obj)) : Prop := ∀ x ∈ K, w.heap.size ≤ x.1 ∧ x.1 < V.heap.size ∧ ¬ F x.1 ∧ V.heap[x.1]? = some x.2
theorem Bz.step {w V V' : World} {F F' : Nat → Prop} {K : List (Nat × Obj)} (h : Bz w V F K) (s : Step F F' V V') : Bz w V' F' K := fun x hx => by
  obtain ⟨h1, h2, h3, h4⟩ := h x hx
  exact ⟨h1, (s.keep h3 h2).2.2, (s.keep h3 h2).2.1, keepF s h3 h2 h4⟩
structure At5 (w V : World) (p : Nat) (B : Bk) (Fc F : Nat → Prop) (c : Cf) (id : Int) (N : Nat) (D : Nd) (K : List (Nat × Obj)) : Prop where
  n : NdIs V p B F c id N D
  x : Bz w V (Fa p B F) K
  s : Step (Fa p B Fc) (Fa p B F) w V
section
variable {w V V' : World} {p : Nat} {B : Bk} {Fc F F' : Nat → Prop} {c : Cf} {id : Int} {N M : Nat} {D D' : Nd} {K : List (Nat × Obj)}
theorem At5.below (h : At5 w V p B Fc F c id N D K) (hb : Below V.heap.size V V') : At5 w V' p B Fc F c id N D K := ⟨h.n.below hb, h.x.step (Step.of_below hb), h.s.trans (Step.of_below hb)⟩
theorem At5.step (h : At5 w V p B Fc F c id N D K) (hn : NdIs V' p B F' c id M D') (hs : Step (Fa p B F) (Fa p B F') V V') : At5 w V' p B Fc F' c id M D' K := ⟨hn, h.x.step hs, h.s.trans hs⟩
theorem At5.new (h : At5 w V p B Fc F c id N D K) (o : Obj) : At5 w (V.alloc o) p B Fc F c id N D ((V.heap.size, o) :: K) := by
  have h2 := h.below (V' := V.alloc o) ((Below.refl _ _).alloc (Nat.le_refl _) _)
  refine ⟨h2.n, fun x hx => ?_, h2.s⟩
  rcases List.mem_cons.1 hx with rfl | hx
  · exact ⟨h.s.fr.size, by simp, fun e => by have := h.n.lt _ e; omega, heap_alloc_new _ _⟩
  · exact h2.x x hx
theorem At5.fill (h : At5 w V p B Fc F c id N D K) {k : Nat} {cs : Array Value} {T : TypeId} (hk : (k, Obj.cells cs T (0, 0)) ∈ K) (i : Nat) (u : Value) (K' : List (Nat × Obj)) (hK : ∀ x ∈ K', x.1 ≠ k → x ∈ K) (hK2 : ∀ x ∈ K', x.1 = k → x.2 = .cells (cs.setIfInBounds i u) T (0, 0)) : At5 w (V.setCell ⟨k, i, none⟩ u) p B Fc F c id N D K' := by
  obtain ⟨h1, h2, h3, h4⟩ := h.x _ hk
  refine ⟨h.n.setCell _ _ (.inr h3), fun x hx => ?_, h.s.setNew h1 _ _⟩
  by_cases e : x.1 = k
  · rw [hK2 x hx e, e]
    exact ⟨h1, by simpa using h2, h3, ob_set h4 u⟩
  · obtain ⟨q1, q2, q3, q4⟩ := h.x x (hK x hx e)
    exact ⟨q1, by simpa using q2, q3, (Below.heap_setCell _ _ _ _ e).trans q4⟩
end
theorem out_fin5 {w w5 : World} {p : Nat} {B : Bk} {Fc Fc' : Nat → Prop} {c : Cf} {id : Int} {N : Nat} {D : Nd} {L : List Lt} {M : List Dn} {v1 v2 : Value} {g1 g2 R : Nat} {K : List (Nat × Obj)} {o : Obj}
    (hx : At5 w w5 p B Fc Fc' c id N D K) (hR : (R, o) ∈ K) (ho : OwnT w5 v1 g1 L) (hd : ViewD w5 v2 g2 M) (h1 : w.heap.size ≤ g1) (h2 : g1 ≠ R) (hm : M ≠ [] → g2 ≠ g1 ∧ w.heap.size ≤ g2 ∧ g2 ≠ R) (hf1 : ¬ Fa p B Fc' g1) (hf2 : M ≠ [] → ¬ Fa p B Fc' g2) :
    OutP w p B Fc Fc' c id N D L M v1 v2 ((w5.setCell ⟨R, 0, none⟩ v1).setCell ⟨R, 1, none⟩ v2) g1 g2 := by
  have hF : FrS (· = R) w5 ((w5.setCell ⟨R, 0, none⟩ v1).setCell ⟨R, 1, none⟩ v2) := wrP (wrP (FrS.refl _ _) _) _
  obtain ⟨q1, q2, q3, q4⟩ := hx.x _ hR
  exact ⟨ho.fr hF (fun e => h2 e), hd.fr hF (fun e => (hm e).2.2), h1, fun e => ⟨(hm e).1, (hm e).2.1⟩, (hx.n.setCell _ _ (.inr q3)).setCell _ _ (.inr q3), (hx.s.setNew q1 _ _).setNew q1 _ _, hf1, hf2⟩
set_option maxHeartbeats 4000000 in
theorem ndPlace_c (p : Nat) (B : Bk) (Fc : Nat → Prop) (c : Cf) (id : Int) (N : Nat) (D : Nd) (w : World) (h : NdIs w p B Fc c id N D) (hN1 : N ≤ 2000) (bu : Bool) (hbu : Hid (D.P.busy = bu)) (op : Op3) (hx : Hid (D.P.op = op)) (Ls : List Ln) (hLs : Hid (allC D.C = Ls)) (As : List At) (hAs : Hid (D.T.A = As)) : Calls Tryz.prog 25 #[ptr p] w fun e w' => ∃ v1 v2, e = .returned (.agg #[v1, .bool bu, .int .i64 op.b, .bool op.w, .int .i64 op.v, v2]) ∧ ∃ g1 g2, OwnL w' v1 g1 Ls ∧ OwnA w' v2 g2 As ∧ w.heap.size ≤ g1 ∧ w.heap.size ≤ g2 ∧ Below w.heap.size w w' := by
  have hH := hide h
  have hpl := h.pl
  have c12 := h.at'.c12
  clear h
  go_enter Tryz.func25, Tryz.ntmps25
  go_wp2_with (go_at_call 34; refine (pPend_c B.pr c.cu c.ct D.P _ (hH.out.below (by all_goals exact belEnd)).pr op hx bu hbu).mono ?_; rintro e w1 ⟨rfl, hb1⟩; obtain ⟨x, rfl⟩ := over hb1; clear hb1; have f1 := x.upB (w.heap.size))
  refine name_world ?_
  intro V hV
  have hR : V.heap[w.heap.size]? = some (.cells #[.slice none 0 0, .bool false, .int .i64 0, .bool false, .int .i64 0, .slice none 0 0] 62) := by rw [← hV]; exact (Below.heap_alloc _ _ _ f1).trans ((x.below.block _ (by simp)).trans (heap_alloc_new w _))
  have hkb : V.heap[x.w.heap.size]? = some (opR op) := by rw [← hV]; exact heap_alloc_new x.w _
  have hB : Hid (Below w.heap.size w V) := by rw [← hV]; exact hide (by all_goals exact belEnd)
  have hk0 : w.heap.size < x.w.heap.size ∧ x.w.heap.size < V.heap.size := by rw [← hV]; exact ⟨f1, by simp⟩
  obtain ⟨kb, hk⟩ : ∃ kb, x.w.heap.size = kb := ⟨_, rfl⟩
  rw [hk] at hk0 hkb ⊢
  obtain ⟨R, hRe⟩ : ∃ R, Hid (w.heap.size = R) := ⟨_, rfl⟩
  rw [hRe.out] at hk0 hR ⊢
  clear hV hk f1 x c12
  have hN := hide (hH.out.below hB.out)
  have A := hN.out.at'
  have o0 : V.cell? ⟨kb, 0, none⟩ = some (.int .i64 op.b) := cell_of_row _ _ _ _ _ _ hkb
  have o1 : V.cell? ⟨kb, 1, none⟩ = some (.bool op.w) := cell_of_row _ _ _ _ _ _ hkb
  have o2 : V.cell? ⟨kb, 2, none⟩ = some (.int .i64 op.v) := cell_of_row _ _ _ _ _ _ hkb
  go_wp2_with fail
  refine wp_region_noPanic ?_
  refine wp_region_held_drew (S := (fun w' => w'.cell? ⟨p, 10, none⟩ = some (ptr B.ca) ∧ w'.cell? ⟨p, 11, none⟩ = some (ptr B.tc) ∧ w'.cell? ⟨kb, 0, none⟩ = some (.int .i64 op.b) ∧ w'.cell? ⟨kb, 1, none⟩ = some (.bool op.w) ∧ w'.cell? ⟨kb, 2, none⟩ = some (.int .i64 op.v))) (by kernel_rfl) ?_ (fun hHeld => ?_)
  · exact ⟨A.c10, A.c11, o0, o1, o2⟩
  refine hTk 0 13 hHeld ?_
  refine hTk 1 14 hHeld ?_
  refine hTk 2 15 hHeld ?_
  refine hTk 3 16 hHeld ?_
  refine hTk 5 18 hHeld ?_
  refine hTk 6 19 hHeld ?_
  refine hTk 7 20 hHeld ?_
  refine hTk 8 21 hHeld ?_
  refine hTk 9 22 hHeld ?_
  refine hTk 10 23 hHeld ?_
  refine hNo 4 fun K hK => ?_
  go_simp
  go_at_call 62
  refine (cAll_c B.ca Fc c.cs c.cy _ D.C _ (hN.out.drewN 1).ca).mono ?_
  rintro e w2 ⟨v1, g1, rfl, hg1, ho1, hb2⟩
  rw [hLs.out] at ho1
  have hB2 : Below V.heap.size V w2 := ((Below.refl _ _).drew).trans hb2
  have k2 : ∀ b, b < V.heap.size → w2.heap[b]? = V.heap[b]? := fun b hb => hB2.block b hb
  obtain ⟨ao1, cap1, e1, -⟩ := _root_.id ho1
  subst e1
  refine hK.out _ _ ?_ fun hHeld => ?_
  · exact ⟨keep_cell (k2 p A.lt) A.c10, keep_cell (k2 p A.lt) A.c11, keep_cell (k2 kb hk0.2) o0, keep_cell (k2 kb hk0.2) o1, keep_cell (k2 kb hk0.2) o2⟩
  clear hK K
  try simp only [Act.put, za, zb, zc]
  refine hNo 11 fun K hK => ?_
  go_simp
  go_at_call 63
  refine (tList_c B.tc B.tt B.to N D.T _ (hN.out.below hB2).tb hN1).mono ?_
  rintro e w3 ⟨v2, rfl, g2, ho2, hg2, hb3⟩
  rw [hAs.out] at ho2
  have hB3 : Below V.heap.size V w3 := hB2.trans (hb3.mono hB2.size)
  have k3 : ∀ b, b < V.heap.size → w3.heap[b]? = V.heap[b]? := fun b hb => hB3.block b hb
  obtain ⟨ao2, cap2, e2, -⟩ := _root_.id ho2
  subst e2
  have hl1 := ho1.lt
  replace ho1 := hide (ho1.below hb3)
  replace ho2 := hide ho2
  have hg1' : V.heap.size ≤ g1 := hg1
  have hg2' : V.heap.size ≤ g2 := Nat.le_trans hB2.size hg2
  have hR3 := (k3 R (Nat.lt_trans hk0.1 hk0.2)).trans hR
  have hR0 : ∀ i u, #[Value.slice none 0 0, .bool false, .int .i64 0, .bool false, .int .i64 0, .slice none 0 0][i]? = some u → w3.cell? ⟨R, i, none⟩ = some u := fun i u hu => (cell_of_row _ _ _ _ _ _ hR3).trans hu
  obtain ⟨r0, r1, r2, r3, r4, r5⟩ : w3.cell? ⟨R, 0, none⟩ = some (.slice none 0 0) ∧ w3.cell? ⟨R, 1, none⟩ = some (.bool false) ∧ w3.cell? ⟨R, 2, none⟩ = some (.int .i64 0) ∧ w3.cell? ⟨R, 3, none⟩ = some (.bool false) ∧ w3.cell? ⟨R, 4, none⟩ = some (.int .i64 0) ∧ w3.cell? ⟨R, 5, none⟩ = some (.slice none 0 0) := ⟨hR0 _ _ rfl, hR0 _ _ rfl, hR0 _ _ rfl, hR0 _ _ rfl, hR0 _ _ rfl, hR0 _ _ rfl⟩
  have z : ∀ i, w3.frozen? ⟨R, i, none⟩ = false := fun i => frozen_of_row _ _ _ _ _ hR3
  have hs3 := hB3.size
  have hRl : R < w3.heap.size := by omega
  have hkR : ¬ kb = R := by omega
  have hpR : ¬ p = R := by have := hRe.out; omega
  have hB4 := hide hB3
  obtain ⟨a10, a11, p0, p1, p2⟩ := And.intro (keep_cell (k3 p A.lt) A.c10) (And.intro (keep_cell (k3 p A.lt) A.c11) (And.intro (keep_cell (k3 kb hk0.2) o0) (And.intro (keep_cell (k3 kb hk0.2) o1) (keep_cell (k3 kb hk0.2) o2))))
  refine hK.out _ _ ?_ fun hHeld => ?_
  · exact ⟨a10, a11, p0, p1, p2⟩
  clear hK K
  try simp only [Act.put, za, zb, zc]
  clear A o0 o1 o2 k2 k3 hb2 hb3 hB2 hB3 hR3 hR0 hR hkb
  refine hTk 12 25 hHeld ?_
  refine hNo 13 fun K hK => ?_
  go_simp
  refine hK.out _ _ ?_ fun hHeld => ?_
  · exact ⟨by simp [go_sem, *], by simp [go_sem, *], by simp [go_sem, *], by simp [go_sem, *], by simp [go_sem, *]⟩
  clear hK K
  try simp only [Act.put, za, zb, zc]
  refine wpAnyH_done (by kernel_rfl) (NoPanic.normal ?_) _
  clear hHeld
  go_wp2_with fail
  refine bodyPost_ret (v := .agg #[.slice ao1 Ls.length cap1, .bool bu, .int .i64 op.b, .bool op.w, .int .i64 op.v, .slice ao2 As.length cap2]) (by simp [results, Tryz.results25, go_sem, *]; done) rfl ⟨_, _, rfl, g1, g2, ?_⟩
  have hF : FrS (· = R) w3 ((((((w3.setCell ⟨R, 0, none⟩ (.slice ao1 Ls.length cap1)).setCell ⟨R, 1, none⟩ (.bool bu)).setCell ⟨R, 2, none⟩ (.int .i64 op.b)).setCell ⟨R, 3, none⟩ (.bool op.w)).setCell ⟨R, 4, none⟩ (.int .i64 op.v)).setCell ⟨R, 5, none⟩ (.slice ao2 As.length cap2)) := wrP (wrP (wrP (wrP (wrP (wrP (FrS.refl _ _) _) _) _) _) _) _
  have hRw := hRe.out
  refine ⟨ho1.out.fr hF (by omega), ho2.out.fr hF (by omega), by omega, by omega, ?_⟩
  exact (hB.out.trans (hB4.out.mono hB.out.size)).trans (hF.below (fun i hi => by omega) (by omega))
theorem OutP.below {w : World} {p : Nat} {B : Bk} {Fc Fc' : Nat → Prop} {c : Cf} {id : Int} {N : Nat} {D : Nd} {L : List Lt} {M : List Dn} {v1 v2 : Value} {w' w2 : World} {g1 g2 : Nat} (h : OutP w p B Fc Fc' c id N D L M v1 v2 w' g1 g2) (hb : Below w'.heap.size w' w2) : OutP w p B Fc Fc' c id N D L M v1 v2 w2 g1 g2 :=
  ⟨h.own.below hb, h.dn.carry (fun _ h1 => hb.block _ h1), h.new, h.ne, h.nd.below hb, h.st.trans (Step.of_below hb), h.nf1, h.nf2⟩
set_option maxHeartbeats 1000000 in
theorem ndPersistNo_c (p : Nat) (B : Bk) (Fc : Nat → Prop) (c : Cf) (id : Int) (N : Nat) (D : Nd) (b : Int) (w : World) (h : NdIs w p B Fc c id N D) (hb : I64 b) (hA : D.A b = true) : Calls Tryz.prog 52 #[ptr p, .int .i64 b] w fun e w' => e = .returned (.slice none 0 0) ∧ w' = w := by
  have hpl := h.pl
  have c13 := h.at'.c13
  have l0 := h.lookA hb w rfl
  try dsimp only at l0
  rw [hA] at l0
  clear h hA
  go_enter Tryz.func52, Tryz.ntmps52
  go_wp2_with fail
  go_ret
  exact ⟨rfl, rfl⟩
set_option maxHeartbeats 4000000 in
theorem ndTick_c (p : Nat) (B : Bk) (Fc : Nat → Prop) (c : Cf) (id : Int) (N : Nat) (D : Nd) (d0 d1 d2 : Int) (w : World) (h : NdIs w p B Fc c id N D) (hN1 : N + 1 ≤ 2000) (hop : I64 D.P.op.b) (L : List Lt) (hL : Hid (tiL c id D d0 d1 = L)) : Calls Tryz.prog 19 #[ptr p, .agg #[.int .i64 d0, .int .i64 d1, .int .i64 d2]] w fun e w' => ∃ v1 v2, e = .returned (.agg #[v1, v2]) ∧ ∃ g1 g2, OutP w p B Fc Fc c id (N + 1) (nxTi c D) L [] v1 v2 w' g1 g2 := by
  have hH := hide h
  have hL' := hL.out
  obtain ⟨op, hx⟩ : ∃ x, Hid (D.P.op = x) := ⟨_, rfl⟩
  have hx2 : Hid ((nxT c.cu c.ct D.P).op = op) := hide (by rw [← hx.out]; unfold nxT; split <;> rfl)
  obtain ⟨bu, hbu⟩ : ∃ bu, Hid ((nxT c.cu c.ct D.P).busy = bu) := ⟨_, rfl⟩
  obtain ⟨n, hn⟩ : ∃ n, Hid (doT c.cu c.ct D.P = n) := ⟨_, rfl⟩
  rw [hx.out] at hop
  unfold tiL at hL'
  unfold nxTi
  rw [hn.out, hx.out] at hL'
  rw [hn.out, hx.out]
  clear hL h
  by_cases c1 : n = 1
  · subst c1
    have hL2 : Hid (askL c id op d0 d1 = L) := hide (by rw [← hL']; rfl)
    rw [if_neg (by rintro ⟨h, _⟩; exact absurd h (by decide))]
    clear hL'
    go_enter Tryz.func19, Tryz.ntmps19
    go_upto_region 1 with fail
    refine name_world ?_
    intro V hV
    have Q1 : Hid (At5 w V p B Fc Fc c id N D [(w.heap.size + 1, outR (.slice none 0 0) (.slice none 0 0)), (w.heap.size, dwR d0 d1 d2)]) := by
      have h1 := ((At5.mk hH.out (fun x hx => by cases hx) (Step.refl _ _) : At5 w w p B Fc Fc c id N D []).new (dwR d0 d1 d2)).new (outR (.slice none 0 0) (.slice none 0 0))
      rw [World.size_alloc] at h1
      rw [← hV]; exact hide h1
    have hsV : V.heap.size = w.heap.size + 1 + 1 := by rw [← hV]; simp
    obtain ⟨R, hRe⟩ : ∃ R, Hid (w.heap.size + 1 = R) := ⟨_, rfl⟩
    obtain ⟨kd, hde⟩ : ∃ kd, Hid (w.heap.size = kd) := ⟨_, rfl⟩
    rw [hRe.out, hde.out] at Q1
    rw [hRe.out, hde.out]
    clear hV
    replace hsV := hide hsV
    have a12 := Q1.out.n.at'.c12
    have hpV := Q1.out.n.pl
    go_wp2_with (first | (go_at_call 51; refine (pTick_c B.pr c.cu c.ct D.P _ Q1.out.n.pr 1 hn).mono ?_; rintro e w2 ⟨rfl, hp2, hf2⟩; obtain ⟨n2, s2⟩ := Q1.out.n.setP hp2 hf2 (Nat.le_refl N) (by rw [nxT_k]; exact Q1.out.n.pk); have Q2 := hide (Q1.out.step n2 s2); clear hp2 hf2 n2 s2 a12; have a12 := Q2.out.n.at'.c12; have hp2l := Q2.out.n.pl) | (go_at_call 34; refine (pPend_c B.pr c.cu c.ct (nxT c.cu c.ct D.P) _ Q2.out.n.pr op hx2 bu hbu).mono ?_; rintro e w3 ⟨rfl, hb3⟩; have Q3 := hide (Q2.out.below hb3); clear hb3; obtain ⟨r0, r1, z⟩ := out_at (Q3.out.x _ (List.mem_cons_self)).2.2.2; obtain ⟨-, hd3, -, hd⟩ := Q3.out.x (kd, dwR d0 d1 d2) (by simp); obtain ⟨-, hR3, -, -⟩ := Q3.out.x (R, outR (.slice none 0 0) (.slice none 0 0)) (by simp); have e0 : w3.cell? ⟨kd, 0, none⟩ = some (.int .i64 d0) := cell_of_row _ _ _ _ _ _ hd; have e1 : w3.cell? ⟨kd, 1, none⟩ = some (.int .i64 d1) := cell_of_row _ _ _ _ _ _ hd; have e2 : w3.cell? ⟨kd, 2, none⟩ = some (.int .i64 d2) := cell_of_row _ _ _ _ _ _ hd) | (go_at_call 35; refine (ndAsk_c p B Fc c id N (tiD c D) op d0 d1 d2 _ (Q3.out.new (opR op)).n L hL2).mono ?_; rintro e w5 ⟨v5, rfl, g5, ho5, hg5, hb5⟩; obtain ⟨ao5, cap5, e5, -⟩ := _root_.id ho5; subst e5; have Q5 := hide ((Q3.out.new (opR op)).below hb5); replace ho5 := hide ho5; replace hg5 := hide hg5; clear hb5 r0 r1 z; obtain ⟨r0, r1, z⟩ := out_at (Q5.out.x (R, outR (.slice none 0 0) (.slice none 0 0)) (by simp)).2.2.2; obtain ⟨-, hR5, -, -⟩ := Q5.out.x (R, outR (.slice none 0 0) (.slice none 0 0)) (by simp)))
    refine bodyPost_ret (v := .agg #[.slice ao5 L.length cap5, .slice none 0 0]) (by simp [results, Tryz.results19, go_sem, *]; done) rfl ⟨_, _, rfl, g5, g5, ?_⟩
    have h5 := hg5.out
    rw [World.size_alloc] at h5
    have h6 := Q3.out.s.fr.size
    exact out_fin5 (R := R) (Q5.out.step (Q5.out.n.mono (Nat.le_succ N)) (Step.refl _ _)) (o := outR (.slice none 0 0) (.slice none 0 0)) (by simp) ho5.out (view_nilD _ _) (by omega) (by omega) (fun h => absurd rfl h) (fun e => by have := Q3.out.n.lt _ e; omega) (fun h => absurd rfl h)
  · rw [if_neg c1] at hL'
    by_cases c2 : n = 2
    · subst c2
      rw [if_pos rfl] at hL'
      obtain ⟨q, hq⟩ : ∃ q, Hid (D.A op.b = q) := ⟨_, rfl⟩
      rw [hq.out] at hL' ⊢
      clear c1
      cases q
      · have hL2 : Hid ((if (tiD c D).A op.b = true then [] else homeL c id 3 op.b 0) = L) := hide (by rw [← hL']; show (if D.A op.b = true then _ else _) = _; rw [hq.out])
        have hD2 : Hid ((if (tiD c D).A op.b = true then tiD c D else ⟨D.C, D.T, nxT c.cu c.ct D.P, updB D.A op.b true, D.O⟩) = (⟨D.C, D.T, nxT c.cu c.ct D.P, updB D.A op.b true, D.O⟩ : Nd)) := hide (by show (if D.A op.b = true then _ else _) = _; rw [hq.out]; rfl)
        have hLn : L ≠ [] := by rw [← hL']; simp [homeL]
        rw [if_pos ⟨rfl, rfl⟩]
        clear hL'
        go_enter Tryz.func19, Tryz.ntmps19
        go_upto_region 1 with fail
        refine name_world ?_
        intro V hV
        have Q1 : Hid (At5 w V p B Fc Fc c id N D [(w.heap.size + 1, outR (.slice none 0 0) (.slice none 0 0)), (w.heap.size, dwR d0 d1 d2)]) := by
          have h1 := ((At5.mk hH.out (fun x hx => by cases hx) (Step.refl _ _) : At5 w w p B Fc Fc c id N D []).new (dwR d0 d1 d2)).new (outR (.slice none 0 0) (.slice none 0 0))
          rw [World.size_alloc] at h1
          rw [← hV]; exact hide h1
        have hsV : V.heap.size = w.heap.size + 1 + 1 := by rw [← hV]; simp
        obtain ⟨R, hRe⟩ : ∃ R, Hid (w.heap.size + 1 = R) := ⟨_, rfl⟩
        obtain ⟨kd, hde⟩ : ∃ kd, Hid (w.heap.size = kd) := ⟨_, rfl⟩
        rw [hRe.out, hde.out] at Q1
        rw [hRe.out, hde.out]
        clear hV
        replace hsV := hide hsV
        have a12 := Q1.out.n.at'.c12
        have hpV := Q1.out.n.pl
        go_wp2_with (first | (go_at_call 51; refine (pTick_c B.pr c.cu c.ct D.P _ Q1.out.n.pr 2 hn).mono ?_; rintro e w2 ⟨rfl, hp2, hf2⟩; obtain ⟨n2, s2⟩ := Q1.out.n.setP hp2 hf2 (Nat.le_refl N) (by rw [nxT_k]; exact Q1.out.n.pk); have Q2 := hide (Q1.out.step n2 s2); clear hp2 hf2 n2 s2 a12; have a12 := Q2.out.n.at'.c12; have hp2l := Q2.out.n.pl) | (go_at_call 34; refine (pPend_c B.pr c.cu c.ct (nxT c.cu c.ct D.P) _ Q2.out.n.pr op hx2 bu hbu).mono ?_; rintro e w3 ⟨rfl, hb3⟩; have Q3 := hide (Q2.out.below hb3); clear hb3; obtain ⟨r0, r1, z⟩ := out_at (Q3.out.x _ (List.mem_cons_self)).2.2.2; obtain ⟨-, hd3, -, hd⟩ := Q3.out.x (kd, dwR d0 d1 d2) (by simp); obtain ⟨-, hR3, -, -⟩ := Q3.out.x (R, outR (.slice none 0 0) (.slice none 0 0)) (by simp); have e0 : w3.cell? ⟨kd, 0, none⟩ = some (.int .i64 d0) := cell_of_row _ _ _ _ _ _ hd; have e1 : w3.cell? ⟨kd, 1, none⟩ = some (.int .i64 d1) := cell_of_row _ _ _ _ _ _ hd; have e2 : w3.cell? ⟨kd, 2, none⟩ = some (.int .i64 d2) := cell_of_row _ _ _ _ _ _ hd) | (go_at_call 52; refine (ndPersist_c p B Fc c id N (tiD c D) op.b _ (Q3.out.new (opR op)).n hop hN1 L hL2 _ hD2).mono ?_; rintro e w5 ⟨v5, rfl, g5, ho5, hg5, hn5, hs5⟩; obtain ⟨ao5, cap5, e5, -⟩ := _root_.id ho5; subst e5; have Q5 := hide ((Q3.out.new (opR op)).step hn5 hs5); replace ho5 := hide ho5; replace hg5 := hide (hg5 hLn); clear hn5 hs5 r0 r1 z; obtain ⟨r0, r1, z⟩ := out_at (Q5.out.x (R, outR (.slice none 0 0) (.slice none 0 0)) (by simp)).2.2.2; obtain ⟨-, hR5, -, -⟩ := Q5.out.x (R, outR (.slice none 0 0) (.slice none 0 0)) (by simp)))
        refine bodyPost_ret (v := .agg #[.slice ao5 L.length cap5, .slice none 0 0]) (by simp [results, Tryz.results19, go_sem, *]; done) rfl ⟨_, _, rfl, g5, g5, ?_⟩
        have h5 := hg5.out
        rw [World.size_alloc] at h5
        have h6 := Q3.out.s.fr.size
        exact out_fin5 (R := R) Q5.out (o := outR (.slice none 0 0) (.slice none 0 0)) (by simp) ho5.out (view_nilD _ _) (by omega) (by omega) (fun h => absurd rfl h) (fun e => by have := Q3.out.n.lt _ e; omega) (fun h => absurd rfl h)
      · obtain rfl : [] = L := by rw [← hL']; rfl
        rw [if_neg (by rintro ⟨_, h⟩; cases h)]
        clear hL'
        go_enter Tryz.func19, Tryz.ntmps19
        go_upto_region 1 with fail
        refine name_world ?_
        intro V hV
        have Q1 : Hid (At5 w V p B Fc Fc c id N D [(w.heap.size + 1, outR (.slice none 0 0) (.slice none 0 0)), (w.heap.size, dwR d0 d1 d2)]) := by
          have h1 := ((At5.mk hH.out (fun x hx => by cases hx) (Step.refl _ _) : At5 w w p B Fc Fc c id N D []).new (dwR d0 d1 d2)).new (outR (.slice none 0 0) (.slice none 0 0))
          rw [World.size_alloc] at h1
          rw [← hV]; exact hide h1
        have hsV : V.heap.size = w.heap.size + 1 + 1 := by rw [← hV]; simp
        obtain ⟨R, hRe⟩ : ∃ R, Hid (w.heap.size + 1 = R) := ⟨_, rfl⟩
        obtain ⟨kd, hde⟩ : ∃ kd, Hid (w.heap.size = kd) := ⟨_, rfl⟩
        rw [hRe.out, hde.out] at Q1
        rw [hRe.out, hde.out]
        clear hV
        replace hsV := hide hsV
        have a12 := Q1.out.n.at'.c12
        have hpV := Q1.out.n.pl
        go_wp2_with (first | (go_at_call 51; refine (pTick_c B.pr c.cu c.ct D.P _ Q1.out.n.pr 2 hn).mono ?_; rintro e w2 ⟨rfl, hp2, hf2⟩; obtain ⟨n2, s2⟩ := Q1.out.n.setP hp2 hf2 (Nat.le_refl N) (by rw [nxT_k]; exact Q1.out.n.pk); have Q2 := hide (Q1.out.step n2 s2); clear hp2 hf2 n2 s2 a12; have a12 := Q2.out.n.at'.c12; have hp2l := Q2.out.n.pl) | (go_at_call 34; refine (pPend_c B.pr c.cu c.ct (nxT c.cu c.ct D.P) _ Q2.out.n.pr op hx2 bu hbu).mono ?_; rintro e w3 ⟨rfl, hb3⟩; have Q3 := hide (Q2.out.below hb3); clear hb3; obtain ⟨r0, r1, z⟩ := out_at (Q3.out.x _ (List.mem_cons_self)).2.2.2; obtain ⟨-, hd3, -, hd⟩ := Q3.out.x (kd, dwR d0 d1 d2) (by simp); obtain ⟨-, hR3, -, -⟩ := Q3.out.x (R, outR (.slice none 0 0) (.slice none 0 0)) (by simp); have e0 : w3.cell? ⟨kd, 0, none⟩ = some (.int .i64 d0) := cell_of_row _ _ _ _ _ _ hd; have e1 : w3.cell? ⟨kd, 1, none⟩ = some (.int .i64 d1) := cell_of_row _ _ _ _ _ _ hd; have e2 : w3.cell? ⟨kd, 2, none⟩ = some (.int .i64 d2) := cell_of_row _ _ _ _ _ _ hd) | (go_at_call 52; refine (ndPersistNo_c p B Fc c id N (tiD c D) op.b _ (Q3.out.new (opR op)).n hop hq.out).mono ?_; rintro e w5 ⟨rfl, hw5⟩; rw [hw5]; clear hw5 w5))
        refine bodyPost_ret (v := .agg #[.slice none 0 0, .slice none 0 0]) (by simp [results, Tryz.results19, go_sem, *]; done) rfl ⟨_, _, rfl, kd, kd, ?_⟩
        have h6 := Q3.out.s.fr.size
        have Q4 := Q3.out
        have ow : OwnT w3 (.slice none 0 0) kd [] := own_nilT hd3
        refine OutP.below (out_fin5 (R := R) (Q4.step (Q4.n.mono (Nat.le_succ N)) (Step.refl _ _)) (o := outR (.slice none 0 0) (.slice none 0 0)) (by simp) ow (view_nilD _ _) (by have := hde.out; omega) (by have := hde.out; have := hRe.out; omega) (fun h => absurd rfl h) ((Q4.x (kd, dwR d0 d1 d2) (by simp)).2.2.1) (fun h => absurd rfl h)) ((Below.refl _ _).alloc (Nat.le_refl _) _)
    · obtain rfl : [] = L := by rw [← hL', if_neg c2]
      obtain ⟨e1, e2, e3⟩ := cmpF c1
      obtain ⟨e4, e5, e6⟩ := cmpF c2
      have hno : ¬ (n = 2 ∧ D.A op.b = false) := fun h => c2 h.1
      rw [if_neg hno]
      clear hL' hno
      replace c1 := hide c1
      replace c2 := hide c2
      go_enter Tryz.func19, Tryz.ntmps19
      go_upto_region 1 with fail
      refine name_world ?_
      intro V hV
      have Q1 : Hid (At5 w V p B Fc Fc c id N D [(w.heap.size + 1, outR (.slice none 0 0) (.slice none 0 0)), (w.heap.size, dwR d0 d1 d2)]) := by
        have h1 := ((At5.mk hH.out (fun x hx => by cases hx) (Step.refl _ _) : At5 w w p B Fc Fc c id N D []).new (dwR d0 d1 d2)).new (outR (.slice none 0 0) (.slice none 0 0))
        rw [World.size_alloc] at h1
        rw [← hV]; exact hide h1
      have hsV : V.heap.size = w.heap.size + 1 + 1 := by rw [← hV]; simp
      obtain ⟨R, hRe⟩ : ∃ R, Hid (w.heap.size + 1 = R) := ⟨_, rfl⟩
      obtain ⟨kd, hde⟩ : ∃ kd, Hid (w.heap.size = kd) := ⟨_, rfl⟩
      rw [hRe.out, hde.out] at Q1
      rw [hRe.out, hde.out]
      clear hV
      replace hsV := hide hsV
      have a12 := Q1.out.n.at'.c12
      have hpV := Q1.out.n.pl
      go_wp2_with (first | (go_at_call 51; refine (pTick_c B.pr c.cu c.ct D.P _ Q1.out.n.pr n hn).mono ?_; rintro e w2 ⟨rfl, hp2, hf2⟩; obtain ⟨n2, s2⟩ := Q1.out.n.setP hp2 hf2 (Nat.le_refl N) (by rw [nxT_k]; exact Q1.out.n.pk); have Q2 := hide (Q1.out.step n2 s2); clear hp2 hf2 n2 s2 a12; have a12 := Q2.out.n.at'.c12; have hp2l := Q2.out.n.pl) | (go_at_call 34; refine (pPend_c B.pr c.cu c.ct (nxT c.cu c.ct D.P) _ Q2.out.n.pr op hx2 bu hbu).mono ?_; rintro e w3 ⟨rfl, hb3⟩; have Q3 := hide (Q2.out.below hb3); clear hb3; obtain ⟨r0, r1, z⟩ := out_at (Q3.out.x _ (List.mem_cons_self)).2.2.2; obtain ⟨-, hd3, -, hd⟩ := Q3.out.x (kd, dwR d0 d1 d2) (by simp); obtain ⟨-, hR3, -, -⟩ := Q3.out.x (R, outR (.slice none 0 0) (.slice none 0 0)) (by simp); have e0 : w3.cell? ⟨kd, 0, none⟩ = some (.int .i64 d0) := cell_of_row _ _ _ _ _ _ hd; have e1 : w3.cell? ⟨kd, 1, none⟩ = some (.int .i64 d1) := cell_of_row _ _ _ _ _ _ hd; have e2 : w3.cell? ⟨kd, 2, none⟩ = some (.int .i64 d2) := cell_of_row _ _ _ _ _ _ hd))
      refine bodyPost_ret (v := .agg #[.slice none 0 0, .slice none 0 0]) (by simp [results, Tryz.results19, go_sem, *]; done) rfl ⟨_, _, rfl, kd, kd, ?_⟩
      have h6 := Q3.out.s.fr.size
      have Q4 := Q3.out
      have ow : OwnT w3 (.slice none 0 0) kd [] := own_nilT hd3
      refine OutP.below (out_fin5 (R := R) (Q4.step (Q4.n.mono (Nat.le_succ N)) (Step.refl _ _)) (o := outR (.slice none 0 0) (.slice none 0 0)) (by simp) ow (view_nilD _ _) (by have := hde.out; omega) (by have := hde.out; have := hRe.out; omega) (fun h => absurd rfl h) ((Q4.x (kd, dwR d0 d1 d2) (by simp)).2.2.1) (fun h => absurd rfl h)) ((Below.refl _ _).alloc (Nat.le_refl _) _)
end Go.Proofs.YtoenjdnccgmhoaaGreatDoor
