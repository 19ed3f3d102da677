/- layer 15: NdK, put together. -/
import Derived.Test.YtoenjdnccgmhoaaGreatDoorB37
import Derived.Test.YtoenjdnccgmhoaaGreatDoorB31
namespace Go.Proofs.YtoenjdnccgmhoaaGreatDoor
open Go.ChangeShapes Go.WideShapes Go.ChangeAt Go.RowKit
set_option linter.unusedSimpArgs false
set_option linter.unusedVariables false
set_option maxRecDepth 10000
attribute [local go_sem, local simp] over_const setCell_drewN alloc_drewN Over.cell Over.frozen lt_s1 lt_s2 lt_s3 le_s0 le_s1 le_s2 le_s3 eq_s0 eq_s1 eq_s2 qe_s0
theorem bz_get {w V : World} {F : Nat → Prop} {K : List (Nat × Obj)} (h : Bz w V F K) {k : Nat} {o : Obj} (hk : (k, o) ∈ K) : k < V.heap.size ∧ V.heap[k]? = some o := ⟨(h _ hk).2.1, (h _ hk).2.2.2⟩
theorem At5.frk {w V V' : World} {p : Nat} {B : Bk} {Fc F : Nat → Prop} {c : Cf} {id : Int} {N : Nat} {D : Nd} {K : List (Nat × Obj)} {k : Nat} (h : At5 w V p B Fc F c id N D K) (hf : FrS (· = k) V V') (h0 : w.heap.size ≤ k) (hF : ¬ Fa p B F k) (hK : ∀ x ∈ K, x.1 ≠ k) : At5 w V' p B Fc F c id N D K :=
  ⟨h.n.fr hf (fun b hb e => hF (e ▸ hb)), fun x hx => by
    obtain ⟨q1, q2, q3, q4⟩ := h.x x hx
    exact ⟨q1, Nat.lt_of_lt_of_le q2 hf.size, q3, (hf.block _ q2 (hK x hx)).trans q4⟩, ⟨h.s.fr.trans hf (fun i hi => .inr (hi ▸ h0)), h.s.new⟩⟩
theorem At5.sub {w V : World} {p : Nat} {B : Bk} {Fc F : Nat → Prop} {c : Cf} {id : Int} {N : Nat} {D : Nd} {K K' : List (Nat × Obj)} (h : At5 w V p B Fc F c id N D K) (hK : ∀ x ∈ K', x ∈ K) : At5 w V p B Fc F c id N D K' := ⟨h.n, fun x hx => h.x x (hK x hx), h.s⟩
theorem nxE_P (id : Int) (D : Nd) (b : Int) : (nxE id D b).P = D.P := by unfold nxE; split <;> rfl
theorem busy_no {c : Cf} {id : Int} {D : Nd} (h : (nxS c id D).P.busy = true) : sttOk c D = false := by
  cases e : sttOk c D
  · rfl
  · exfalso
    have hb : D.P.busy = true := by unfold sttOk at e; simp at e; exact e.1
    unfold nxS at h
    rw [e, if_pos rfl, nxE_P] at h
    have : (sttD c D).P = nxF D.P := rfl
    rw [this] at h
    unfold nxF at h
    rw [hb, if_pos rfl] at h
    cases h
set_option maxHeartbeats 8000000 in
theorem ndIssue_c (p : Nat) (B : Bk) (Fc : Nat → Prop) (c : Cf) (id : Int) (N : Nat) (D : Nd) (op : Op3) (d0 d1 d2 : Int) (w : World) (h : NdIs w p B Fc c id N D) (hN1 : N + 2 ≤ 2000) (ok : Bool) (hok : Hid (isOk c D op = ok)) (L : List Lt) (hL : Hid (isL c id D op d0 d1 = L)) (M : List Dn) (hM : Hid (isN c id D op = M)) : Calls Tryz.prog 15 #[ptr p, .agg #[.int .i64 op.b, .bool op.w, .int .i64 op.v], .agg #[.int .i64 d0, .int .i64 d1, .int .i64 d2]] w fun e w' => ∃ v1 v2, e = .returned (.tuple #[.agg #[v1, v2], .bool ok]) ∧ ∃ Fc' g1 g2, OutP w p B Fc Fc' c id (N + 2) (nxIs c id D op) L M v1 v2 w' g1 g2 := by
  have hH := hide h
  have hL' := hL.out
  have hM' := hM.out
  clear hL hM
  by_cases c0 : op.b < 0
  · have hno : isOk c D op = false := by unfold isOk; simp; omega
    obtain rfl : [] = L := by rw [← hL']; unfold isL; rw [hno]; rfl
    obtain rfl : [] = M := by rw [← hM']; unfold isN; rw [hno]; rfl
    have hD2 : nxIs c id D op = D := by unfold nxIs; rw [hno]; rfl
    obtain rfl : false = ok := by rw [← hok.out, hno]
    rw [hD2]
    clear hL' hM' hno hD2 hok
    go_enter Tryz.func15, Tryz.ntmps15
    go_upto_region 1 with fail
    refine name_world ?_
    intro V hV
    have Q1 : Hid (At5 w V p B Fc Fc c id N D [(w.heap.size + 1 + 1, outR (.slice none 0 0) (.slice none 0 0)), (w.heap.size + 1, dwR d0 d1 d2), (w.heap.size, opR op)]) := by
      have h1 := (((At5.mk hH.out (fun x hx => by cases hx) (Step.refl _ _) : At5 w w p B Fc Fc c id N D []).new (opR op)).new (dwR d0 d1 d2)).new (outR (.slice none 0 0) (.slice none 0 0))
      simp only [World.size_alloc] at h1
      rw [← hV]; exact hide h1
    obtain ⟨R, hRe⟩ : ∃ R, Hid (w.heap.size + 1 + 1 = R) := ⟨_, rfl⟩
    obtain ⟨kd, hde⟩ : ∃ kd, Hid (w.heap.size + 1 = kd) := ⟨_, rfl⟩
    obtain ⟨ko, hoe⟩ : ∃ ko, Hid (w.heap.size = ko) := ⟨_, rfl⟩
    rw [hRe.out, hde.out, hoe.out] at Q1
    rw [hRe.out, hde.out, hoe.out]
    clear hV
    have a1 := Q1.out.n.at'.c1
    have a12 := Q1.out.n.at'.c12
    have hpV := Q1.out.n.pl
    obtain ⟨hlo, hob⟩ := bz_get Q1.out.x (k := ko) (o := opR op) (by simp)
    have o0 : V.cell? ⟨ko, 0, none⟩ = some (.int .i64 op.b) := cell_of_row _ _ _ _ _ _ hob
    have o1 : V.cell? ⟨ko, 1, none⟩ = some (.bool op.w) := cell_of_row _ _ _ _ _ _ hob
    have o2 : V.cell? ⟨ko, 2, none⟩ = some (.int .i64 op.v) := cell_of_row _ _ _ _ _ _ hob
    go_wp2_with fail
    refine wp_region_noPanic ?_
    refine wp_region_held_drew (S := (fun w' => w'.cell? ⟨p, 1, none⟩ = some (.int .i64 c.bl) ∧ w'.cell? ⟨p, 12, none⟩ = some (ptr B.pr) ∧ w'.cell? ⟨ko, 0, none⟩ = some (.int .i64 op.b) ∧ w'.cell? ⟨ko, 1, none⟩ = some (.bool op.w) ∧ w'.cell? ⟨ko, 2, none⟩ = some (.int .i64 op.v))) (by kernel_rfl) ?_ (fun hHeld => ?_)
    · exact ⟨a1, a12, o0, o1, o2⟩
    refine hTk 0 11 hHeld ?_
    refine hTk 1 12 hHeld ?_
    refine hVl 2 13 (.bool true) hHeld (fun wz hSw => ?_) ?_
    · try dsimp only at hSw
      go_simp
    refine hTk 3 14 hHeld ?_
    refine hSk 4 15 hHeld ?_
    refine hSk 5 16 hHeld ?_
    refine hSk 6 17 hHeld ?_
    refine hSk 7 18 hHeld ?_
    refine hSk 8 19 hHeld ?_
    refine hSk 9 20 hHeld ?_
    refine hSk 10 21 hHeld ?_
    refine hSk 11 22 hHeld ?_
    refine hTk 12 23 hHeld ?_
    refine hTk 13 24 hHeld ?_
    refine hSk 14 25 hHeld ?_
    refine hSk 15 26 hHeld ?_
    refine hSk 16 27 hHeld ?_
    refine hSk 17 28 hHeld ?_
    refine hSk 18 29 hHeld ?_
    refine hSk 19 30 hHeld ?_
    refine hSk 20 31 hHeld ?_
    refine hTk 21 32 hHeld ?_
    refine wpAnyH_done (by kernel_rfl) (NoPanic.normal ?_) _
    clear hHeld
    have Q2 : Hid (At5 w V.drew p B Fc Fc c id N D [(R, outR (.slice none 0 0) (.slice none 0 0)), (kd, dwR d0 d1 d2), (ko, opR op)]) := hide (Q1.out.below (belowN (Below.refl _ _) 1))
    obtain ⟨hR2, hRb⟩ : R < (V).heap.size ∧ (V).heap[R]? = some (outR (.slice none 0 0) (.slice none 0 0)) := bz_get Q2.out.x (k := R) (o := outR (.slice none 0 0) (.slice none 0 0)) (by simp)
    obtain ⟨hd2, -⟩ := bz_get Q2.out.x (k := kd) (o := dwR d0 d1 d2) (by simp)
    obtain ⟨r0, r1, z⟩ := out_at hRb
    go_wp2_with fail
    refine bodyPost_ret (v := .tuple #[.agg #[.slice none 0 0, .slice none 0 0], .bool false]) (by simp [results, Tryz.results15, go_sem, *]; done) rfl ⟨_, _, rfl, Fc, kd, kd, ?_⟩
    have ow : OwnT V.drew (.slice none 0 0) kd [] := own_nilT hd2
    exact out_fin5 (R := R) (Q2.out.step (Q2.out.n.mono (by omega)) (Step.refl _ _)) (o := outR (.slice none 0 0) (.slice none 0 0)) (by simp) ow (view_nilD _ _) (by have := hde.out; omega) (by have := hde.out; have := hRe.out; omega) (fun h => absurd rfl h) ((Q2.out.x (kd, dwR d0 d1 d2) (by simp)).2.2.1) (fun h => absurd rfl h)
  by_cases c1 : c.bl ≤ op.b
  · have hno : isOk c D op = false := by unfold isOk; simp; omega
    obtain rfl : [] = L := by rw [← hL']; unfold isL; rw [hno]; rfl
    obtain rfl : [] = M := by rw [← hM']; unfold isN; rw [hno]; rfl
    have hD2 : nxIs c id D op = D := by unfold nxIs; rw [hno]; rfl
    obtain rfl : false = ok := by rw [← hok.out, hno]
    rw [hD2]
    clear hL' hM' hno hD2 hok
    go_enter Tryz.func15, Tryz.ntmps15
    go_upto_region 1 with fail
    refine name_world ?_
    intro V hV
    have Q1 : Hid (At5 w V p B Fc Fc c id N D [(w.heap.size + 1 + 1, outR (.slice none 0 0) (.slice none 0 0)), (w.heap.size + 1, dwR d0 d1 d2), (w.heap.size, opR op)]) := by
      have h1 := (((At5.mk hH.out (fun x hx => by cases hx) (Step.refl _ _) : At5 w w p B Fc Fc c id N D []).new (opR op)).new (dwR d0 d1 d2)).new (outR (.slice none 0 0) (.slice none 0 0))
      simp only [World.size_alloc] at h1
      rw [← hV]; exact hide h1
    obtain ⟨R, hRe⟩ : ∃ R, Hid (w.heap.size + 1 + 1 = R) := ⟨_, rfl⟩
    obtain ⟨kd, hde⟩ : ∃ kd, Hid (w.heap.size + 1 = kd) := ⟨_, rfl⟩
    obtain ⟨ko, hoe⟩ : ∃ ko, Hid (w.heap.size = ko) := ⟨_, rfl⟩
    rw [hRe.out, hde.out, hoe.out] at Q1
    rw [hRe.out, hde.out, hoe.out]
    clear hV
    have a1 := Q1.out.n.at'.c1
    have a12 := Q1.out.n.at'.c12
    have hpV := Q1.out.n.pl
    obtain ⟨hlo, hob⟩ := bz_get Q1.out.x (k := ko) (o := opR op) (by simp)
    have o0 : V.cell? ⟨ko, 0, none⟩ = some (.int .i64 op.b) := cell_of_row _ _ _ _ _ _ hob
    have o1 : V.cell? ⟨ko, 1, none⟩ = some (.bool op.w) := cell_of_row _ _ _ _ _ _ hob
    have o2 : V.cell? ⟨ko, 2, none⟩ = some (.int .i64 op.v) := cell_of_row _ _ _ _ _ _ hob
    go_wp2_with fail
    refine wp_region_noPanic ?_
    refine wp_region_held_drew (S := (fun w' => w'.cell? ⟨p, 1, none⟩ = some (.int .i64 c.bl) ∧ w'.cell? ⟨p, 12, none⟩ = some (ptr B.pr) ∧ w'.cell? ⟨ko, 0, none⟩ = some (.int .i64 op.b) ∧ w'.cell? ⟨ko, 1, none⟩ = some (.bool op.w) ∧ w'.cell? ⟨ko, 2, none⟩ = some (.int .i64 op.v))) (by kernel_rfl) ?_ (fun hHeld => ?_)
    · exact ⟨a1, a12, o0, o1, o2⟩
    refine hTk 0 11 hHeld ?_
    refine hTk 1 12 hHeld ?_
    refine hVl 2 13 (.bool false) hHeld (fun wz hSw => ?_) ?_
    · try dsimp only at hSw
      go_simp
    refine hTk 3 14 hHeld ?_
    refine hTk 4 15 hHeld ?_
    refine hTk 5 16 hHeld ?_
    refine hTk 6 17 hHeld ?_
    refine hTk 7 18 hHeld ?_
    refine hTk 8 19 hHeld ?_
    refine hTk 9 20 hHeld ?_
    refine hTk 10 21 hHeld ?_
    refine hVl 11 22 (.bool true) hHeld (fun wz hSw => ?_) ?_
    · try dsimp only at hSw
      go_simp
    refine hTk 12 23 hHeld ?_
    refine hTk 13 24 hHeld ?_
    refine hSk 14 25 hHeld ?_
    refine hSk 15 26 hHeld ?_
    refine hSk 16 27 hHeld ?_
    refine hSk 17 28 hHeld ?_
    refine hSk 18 29 hHeld ?_
    refine hSk 19 30 hHeld ?_
    refine hSk 20 31 hHeld ?_
    refine hTk 21 32 hHeld ?_
    refine wpAnyH_done (by kernel_rfl) (NoPanic.normal ?_) _
    clear hHeld
    have Q2 : Hid (At5 w V.drew p B Fc Fc c id N D [(R, outR (.slice none 0 0) (.slice none 0 0)), (kd, dwR d0 d1 d2), (ko, opR op)]) := hide (Q1.out.below (belowN (Below.refl _ _) 1))
    obtain ⟨hR2, hRb⟩ : R < (V).heap.size ∧ (V).heap[R]? = some (outR (.slice none 0 0) (.slice none 0 0)) := bz_get Q2.out.x (k := R) (o := outR (.slice none 0 0) (.slice none 0 0)) (by simp)
    obtain ⟨hd2, -⟩ := bz_get Q2.out.x (k := kd) (o := dwR d0 d1 d2) (by simp)
    obtain ⟨r0, r1, z⟩ := out_at hRb
    go_wp2_with fail
    refine bodyPost_ret (v := .tuple #[.agg #[.slice none 0 0, .slice none 0 0], .bool false]) (by simp [results, Tryz.results15, go_sem, *]; done) rfl ⟨_, _, rfl, Fc, kd, kd, ?_⟩
    have ow : OwnT V.drew (.slice none 0 0) kd [] := own_nilT hd2
    exact out_fin5 (R := R) (Q2.out.step (Q2.out.n.mono (by omega)) (Step.refl _ _)) (o := outR (.slice none 0 0) (.slice none 0 0)) (by simp) ow (view_nilD _ _) (by have := hde.out; omega) (by have := hde.out; have := hRe.out; omega) (fun h => absurd rfl h) ((Q2.out.x (kd, dwR d0 d1 d2) (by simp)).2.2.1) (fun h => absurd rfl h)
  obtain ⟨bu, hbu⟩ : ∃ bu, Hid ((!D.P.busy) = bu) := ⟨_, rfl⟩
  cases bu
  · have hno : isOk c D op = false := by unfold isOk; rw [hbu.out]; simp
    obtain rfl : [] = L := by rw [← hL']; unfold isL; rw [hno]; rfl
    obtain rfl : [] = M := by rw [← hM']; unfold isN; rw [hno]; rfl
    have hD2 : nxIs c id D op = D := by unfold nxIs; rw [hno]; rfl
    obtain rfl : false = ok := by rw [← hok.out, hno]
    rw [hD2]
    clear hL' hM' hno hD2 hok
    go_enter Tryz.func15, Tryz.ntmps15
    go_upto_region 1 with fail
    refine name_world ?_
    intro V hV
    have Q1 : Hid (At5 w V p B Fc Fc c id N D [(w.heap.size + 1 + 1, outR (.slice none 0 0) (.slice none 0 0)), (w.heap.size + 1, dwR d0 d1 d2), (w.heap.size, opR op)]) := by
      have h1 := (((At5.mk hH.out (fun x hx => by cases hx) (Step.refl _ _) : At5 w w p B Fc Fc c id N D []).new (opR op)).new (dwR d0 d1 d2)).new (outR (.slice none 0 0) (.slice none 0 0))
      simp only [World.size_alloc] at h1
      rw [← hV]; exact hide h1
    obtain ⟨R, hRe⟩ : ∃ R, Hid (w.heap.size + 1 + 1 = R) := ⟨_, rfl⟩
    obtain ⟨kd, hde⟩ : ∃ kd, Hid (w.heap.size + 1 = kd) := ⟨_, rfl⟩
    obtain ⟨ko, hoe⟩ : ∃ ko, Hid (w.heap.size = ko) := ⟨_, rfl⟩
    rw [hRe.out, hde.out, hoe.out] at Q1
    rw [hRe.out, hde.out, hoe.out]
    clear hV
    have a1 := Q1.out.n.at'.c1
    have a12 := Q1.out.n.at'.c12
    have hpV := Q1.out.n.pl
    obtain ⟨hlo, hob⟩ := bz_get Q1.out.x (k := ko) (o := opR op) (by simp)
    have o0 : V.cell? ⟨ko, 0, none⟩ = some (.int .i64 op.b) := cell_of_row _ _ _ _ _ _ hob
    have o1 : V.cell? ⟨ko, 1, none⟩ = some (.bool op.w) := cell_of_row _ _ _ _ _ _ hob
    have o2 : V.cell? ⟨ko, 2, none⟩ = some (.int .i64 op.v) := cell_of_row _ _ _ _ _ _ hob
    go_wp2_with fail
    refine wp_region_noPanic ?_
    refine wp_region_held_drew (S := (fun w' => w'.cell? ⟨p, 1, none⟩ = some (.int .i64 c.bl) ∧ w'.cell? ⟨p, 12, none⟩ = some (ptr B.pr) ∧ w'.cell? ⟨ko, 0, none⟩ = some (.int .i64 op.b) ∧ w'.cell? ⟨ko, 1, none⟩ = some (.bool op.w) ∧ w'.cell? ⟨ko, 2, none⟩ = some (.int .i64 op.v))) (by kernel_rfl) ?_ (fun hHeld => ?_)
    · exact ⟨a1, a12, o0, o1, o2⟩
    refine hTk 0 11 hHeld ?_
    refine hTk 1 12 hHeld ?_
    refine hVl 2 13 (.bool false) hHeld (fun wz hSw => ?_) ?_
    · try dsimp only at hSw
      go_simp
    refine hTk 3 14 hHeld ?_
    refine hTk 4 15 hHeld ?_
    refine hTk 5 16 hHeld ?_
    refine hTk 6 17 hHeld ?_
    refine hTk 7 18 hHeld ?_
    refine hTk 8 19 hHeld ?_
    refine hTk 9 20 hHeld ?_
    refine hTk 10 21 hHeld ?_
    refine hVl 11 22 (.bool false) hHeld (fun wz hSw => ?_) ?_
    · try dsimp only at hSw
      go_simp
    refine hTk 12 23 hHeld ?_
    refine hTk 13 24 hHeld ?_
    refine hTk 14 25 hHeld ?_
    refine hTk 15 26 hHeld ?_
    refine hTk 16 27 hHeld ?_
    refine hTk 17 28 hHeld ?_
    refine hTk 18 29 hHeld ?_
    refine hNo 19 fun K hK => ?_
    go_simp
    go_at_call 32
    refine (pIss_c B.pr c.cu c.ct D.P op _ (Q1.out.n.drewN 1).pr false hbu).mono ?_
    rintro e w2 ⟨rfl, hp2, hf2⟩
    have hst : nxI c.cu D.P op = D.P := by have := hbu.out; unfold nxI; rw [if_pos (by simpa using this)]
    rw [hst] at hp2
    obtain ⟨n2, s2⟩ := (Q1.out.n.drewN 1).setP hp2 hf2 (Nat.le_refl N) Q1.out.n.pk
    have Q2 := hide ((Q1.out.below (V' := V.drewN 1) (belowN (Below.refl _ _) 1)).step n2 s2)
    clear hp2 hf2 n2 s2
    obtain ⟨-, hob2⟩ := bz_get Q2.out.x (k := ko) (o := opR op) (by simp)
    refine hK.out _ _ ?_ fun hHeld => ?_
    · exact ⟨Q2.out.n.at'.c1, Q2.out.n.at'.c12, cell_of_row _ _ _ _ _ _ hob2, cell_of_row _ _ _ _ _ _ hob2, cell_of_row _ _ _ _ _ _ hob2⟩
    clear hK K
    try simp only [Act.put, za, zb, zc]
    refine hTk 20 31 hHeld ?_
    refine hTk 21 32 hHeld ?_
    refine wpAnyH_done (by kernel_rfl) (NoPanic.normal ?_) _
    clear hHeld
    have Q2 : Hid (At5 w w2 p B Fc Fc c id N D [(R, outR (.slice none 0 0) (.slice none 0 0)), (kd, dwR d0 d1 d2), (ko, opR op)]) := Q2
    obtain ⟨hR2, hRb⟩ : R < (w2).heap.size ∧ (w2).heap[R]? = some (outR (.slice none 0 0) (.slice none 0 0)) := bz_get Q2.out.x (k := R) (o := outR (.slice none 0 0) (.slice none 0 0)) (by simp)
    obtain ⟨hd2, -⟩ := bz_get Q2.out.x (k := kd) (o := dwR d0 d1 d2) (by simp)
    obtain ⟨r0, r1, z⟩ := out_at hRb
    go_wp2_with fail
    refine bodyPost_ret (v := .tuple #[.agg #[.slice none 0 0, .slice none 0 0], .bool false]) (by simp [results, Tryz.results15, go_sem, *]; done) rfl ⟨_, _, rfl, Fc, kd, kd, ?_⟩
    have ow : OwnT w2 (.slice none 0 0) kd [] := own_nilT hd2
    exact out_fin5 (R := R) (Q2.out.step (Q2.out.n.mono (by omega)) (Step.refl _ _)) (o := outR (.slice none 0 0) (.slice none 0 0)) (by simp) ow (view_nilD _ _) (by have := hde.out; omega) (by have := hde.out; have := hRe.out; omega) (fun h => absurd rfl h) ((Q2.out.x (kd, dwR d0 d1 d2) (by simp)).2.2.1) (fun h => absurd rfl h)
  · have hyes : isOk c D op = true := by unfold isOk; rw [hbu.out]; simp; omega
    obtain rfl : true = ok := by rw [← hok.out, hyes]
    obtain ⟨D1, hD1⟩ : ∃ D1, Hid (isD c D op = D1) := ⟨_, rfl⟩
    have hb1 : D.P.busy = false := by simpa using hbu.out
    have hPop : D1.P.op = op := by rw [← hD1.out]; unfold isD nxI; rw [hb1]; rfl
    have hop1 : I64 D1.P.op.b := by rw [hPop]; have := h.ok.b1; exact ⟨by omega, by omega⟩
    obtain ⟨D2, hD2⟩ : ∃ D2, Hid (nxS c id D1 = D2) := ⟨_, rfl⟩
    obtain ⟨Ls, hLs⟩ : ∃ Ls, Hid (sttL c id D1 = Ls) := ⟨_, rfl⟩
    have hMs : Hid (sttN c id D1 = M) := hide (by rw [← hM']; unfold isN; rw [hyes, hD1.out]; rfl)
    obtain ⟨b2, hb2⟩ : ∃ b2, Hid (D2.P.busy = b2) := ⟨_, rfl⟩
    obtain ⟨op', hx'⟩ : ∃ x, Hid (D2.P.op = x) := ⟨_, rfl⟩
    obtain ⟨As, hAs⟩ : ∃ As, Hid (askL c id op d0 d1 = As) := ⟨_, rfl⟩
    have hL2 : Hid (L = Ls ++ (if b2 = true then As else [])) := hide (by rw [← hL']; unfold isL; rw [hyes, hD1.out, hLs.out, hD2.out, hb2.out, hAs.out]; rfl)
    have hDD : nxIs c id D op = D2 := by unfold nxIs; rw [hyes, hD1.out, hD2.out]; rfl
    have hsl : Ls.length ≤ 1 := by rw [← hLs.out]; exact sttL_len _ _ _
    have hal : As.length ≤ 65 := by rw [← hAs.out]; exact ask_len _ _ _ _ _ h.ok
    have hkP : (isD c D op).P.k ≤ N := by have := h.pk; show (nxI c.cu D.P op).k ≤ N; rw [nxI_k]; exact this
    clear hL' hM' hyes hok h hb1
    go_enter Tryz.func15, Tryz.ntmps15
    go_upto_region 1 with fail
    refine name_world ?_
    intro V hV
    have Q1 : Hid (At5 w V p B Fc Fc c id N D [(w.heap.size + 1 + 1, outR (.slice none 0 0) (.slice none 0 0)), (w.heap.size + 1, dwR d0 d1 d2), (w.heap.size, opR op)]) := by
      have h1 := (((At5.mk hH.out (fun x hx => by cases hx) (Step.refl _ _) : At5 w w p B Fc Fc c id N D []).new (opR op)).new (dwR d0 d1 d2)).new (outR (.slice none 0 0) (.slice none 0 0))
      simp only [World.size_alloc] at h1
      rw [← hV]; exact hide h1
    obtain ⟨R, hRe⟩ : ∃ R, Hid (w.heap.size + 1 + 1 = R) := ⟨_, rfl⟩
    obtain ⟨kd, hde⟩ : ∃ kd, Hid (w.heap.size + 1 = kd) := ⟨_, rfl⟩
    obtain ⟨ko, hoe⟩ : ∃ ko, Hid (w.heap.size = ko) := ⟨_, rfl⟩
    rw [hRe.out, hde.out, hoe.out] at Q1
    rw [hRe.out, hde.out, hoe.out]
    clear hV
    have a1 := Q1.out.n.at'.c1
    have a12 := Q1.out.n.at'.c12
    have hpV := Q1.out.n.pl
    obtain ⟨hlo, hob⟩ := bz_get Q1.out.x (k := ko) (o := opR op) (by simp)
    have o0 : V.cell? ⟨ko, 0, none⟩ = some (.int .i64 op.b) := cell_of_row _ _ _ _ _ _ hob
    have o1 : V.cell? ⟨ko, 1, none⟩ = some (.bool op.w) := cell_of_row _ _ _ _ _ _ hob
    have o2 : V.cell? ⟨ko, 2, none⟩ = some (.int .i64 op.v) := cell_of_row _ _ _ _ _ _ hob
    go_wp2_with fail
    refine wp_region_noPanic ?_
    refine wp_region_held_drew (S := (fun w' => w'.cell? ⟨p, 1, none⟩ = some (.int .i64 c.bl) ∧ w'.cell? ⟨p, 12, none⟩ = some (ptr B.pr) ∧ w'.cell? ⟨ko, 0, none⟩ = some (.int .i64 op.b) ∧ w'.cell? ⟨ko, 1, none⟩ = some (.bool op.w) ∧ w'.cell? ⟨ko, 2, none⟩ = some (.int .i64 op.v))) (by kernel_rfl) ?_ (fun hHeld => ?_)
    · exact ⟨a1, a12, o0, o1, o2⟩
    refine hTk 0 11 hHeld ?_
    refine hTk 1 12 hHeld ?_
    refine hVl 2 13 (.bool false) hHeld (fun wz hSw => ?_) ?_
    · try dsimp only at hSw
      go_simp
    refine hTk 3 14 hHeld ?_
    refine hTk 4 15 hHeld ?_
    refine hTk 5 16 hHeld ?_
    refine hTk 6 17 hHeld ?_
    refine hTk 7 18 hHeld ?_
    refine hTk 8 19 hHeld ?_
    refine hTk 9 20 hHeld ?_
    refine hTk 10 21 hHeld ?_
    refine hVl 11 22 (.bool false) hHeld (fun wz hSw => ?_) ?_
    · try dsimp only at hSw
      go_simp
    refine hTk 12 23 hHeld ?_
    refine hTk 13 24 hHeld ?_
    refine hTk 14 25 hHeld ?_
    refine hTk 15 26 hHeld ?_
    refine hTk 16 27 hHeld ?_
    refine hTk 17 28 hHeld ?_
    refine hTk 18 29 hHeld ?_
    refine hNo 19 fun K hK => ?_
    go_simp
    go_at_call 32
    refine (pIss_c B.pr c.cu c.ct D.P op _ (Q1.out.n.drewN 1).pr true hbu).mono ?_
    rintro e w2 ⟨rfl, hp2, hf2⟩
    obtain ⟨n2, s2⟩ := (Q1.out.n.drewN 1).setP hp2 hf2 (Nat.le_refl N) hkP
    have Q2 := hide ((Q1.out.below (V' := V.drewN 1) (belowN (Below.refl _ _) 1)).step n2 s2)
    replace Q2 : Hid (At5 w w2 p B Fc Fc c id N D1 [(R, outR (.slice none 0 0) (.slice none 0 0)), (kd, dwR d0 d1 d2), (ko, opR op)]) := by rw [← hD1.out]; exact Q2
    clear hp2 hf2 n2 s2 a1 a12 o0 o1 o2 hob hlo hpV Q1
    obtain ⟨-, hob2⟩ := bz_get Q2.out.x (k := ko) (o := opR op) (by simp)
    refine hK.out _ _ ?_ fun hHeld => ?_
    · exact ⟨Q2.out.n.at'.c1, Q2.out.n.at'.c12, cell_of_row _ _ _ _ _ _ hob2, cell_of_row _ _ _ _ _ _ hob2, cell_of_row _ _ _ _ _ _ hob2⟩
    clear hK K
    try simp only [Act.put, za, zb, zc]
    clear hob2
    refine hTk 20 31 hHeld ?_
    refine hTk 21 32 hHeld ?_
    refine wpAnyH_done (by kernel_rfl) (NoPanic.normal ?_) _
    clear hHeld
    cases b2
    · have hL3 : L = Ls := by rw [hL2.out]; simp
      subst hL3
      go_upto_region 4 with (go_at_call 33; refine (ndSettle_c p B Fc c id N D1 _ Q2.out.n hN1 hop1 L hLs M hMs).mono ?_; rintro e w3 ⟨v1, v2, rfl, Fc7, g1, g2, hO⟩; obtain ⟨ao1, cap1, e1, -⟩ := _root_.id hO.own; subst e1; obtain ⟨ao2, cap2, e2, -⟩ := _root_.id hO.dn; subst e2)
      have Q3 := hide ((Q2.out.step hO.nd hO.st).new (outR (.slice ao1 L.length cap1) (.slice ao2 M.length cap2)))
      have ow3 := hide (hO.own.alloc (outR (.slice ao1 L.length cap1) (.slice ao2 M.length cap2)))
      have dn3 := hide (hO.dn.alloc (outR (.slice ao1 L.length cap1) (.slice ao2 M.length cap2)))
      have hg1 := hO.own.lt
      have hw2 := Q2.out.s.fr.size
      have hnew : w.heap.size ≤ g1 := Nat.le_trans hw2 hO.new
      have hn2 := hO.new
      have hnf1 := hO.nf1
      have hnf2 := hide hO.nf2
      have hne := hide hO.ne
      replace Q3 : Hid (At5 w (w3.alloc (outR (.slice ao1 L.length cap1) (.slice ao2 M.length cap2))) p B Fc Fc7 c id (N + 2) D2 [(w3.heap.size, outR (.slice ao1 L.length cap1) (.slice ao2 M.length cap2)), (R, outR (.slice none 0 0) (.slice none 0 0)), (kd, dwR d0 d1 d2), (ko, opR op)]) := by rw [← hD2.out]; exact Q3
      have a12 := Q3.out.n.at'.c12
      have hp3 := Q3.out.n.pl
      obtain ⟨w4, hw4⟩ : ∃ w4, w3.alloc (outR (.slice ao1 L.length cap1) (.slice ao2 M.length cap2)) = w4 := ⟨_, rfl⟩
      obtain ⟨k8, hk8⟩ : ∃ k8, Hid (w3.heap.size = k8) := ⟨_, rfl⟩
      rw [hw4, hk8.out] at Q3
      rw [hw4] at ow3 dn3 a12 hp3
      dsimp only [outR] at hw4
      rw [hw4]
      rw [hk8.out]
      clear hw4
      go_wp2_with (go_at_call 34; refine (pPend_c B.pr c.cu c.ct D2.P _ Q3.out.n.pr op' hx' false hb2).mono ?_; rintro e w5 ⟨rfl, hb5⟩; have Q5 := hide (Q3.out.below hb5); have ow5 := hide (ow3.out.below hb5); have dn5 := hide (dn3.out.carry (fun _ h1 => hb5.block _ h1)); clear hb5; obtain ⟨r0, r1, z⟩ := out_at (bz_get Q5.out.x (k := R) (o := outR (.slice none 0 0) (.slice none 0 0)) (by simp)).2; have hR5 := (bz_get Q5.out.x (k := R) (o := outR (.slice none 0 0) (.slice none 0 0)) (by simp)).1; obtain ⟨s0, s1, -⟩ := out_at (bz_get Q5.out.x (k := k8) (o := outR (.slice ao1 L.length cap1) (.slice ao2 M.length cap2)) (by simp)).2; have hk5 := (bz_get Q5.out.x (k := k8) (o := outR (.slice ao1 L.length cap1) (.slice ao2 M.length cap2)) (by simp)).1)
      refine bodyPost_ret (v := .tuple #[.agg #[.slice ao1 L.length cap1, .slice ao2 M.length cap2], .bool true]) (by simp [results, Tryz.results15, go_sem, *]; done) rfl ⟨_, _, rfl, Fc7, g1, g2, ?_⟩
      rw [hDD]
      have hRo := hRe.out
      have hR2 := (bz_get Q2.out.x (k := R) (o := outR (.slice none 0 0) (.slice none 0 0)) (by simp)).1
      refine OutP.below (out_fin5 (R := R) Q5.out (o := outR (.slice none 0 0) (.slice none 0 0)) (by simp) ow5.out dn5.out hnew (by omega) (fun h => ⟨(hne.out h).1, by have := (hne.out h).2; omega, by have := (hne.out h).2; omega⟩) hnf1 hnf2.out) ((Below.refl _ _).alloc (Nat.le_refl _) _)
    · have hst : sttOk c D1 = false := busy_no (id := id) (by rw [hD2.out]; exact hb2.out)
      obtain rfl : D1 = D2 := by rw [← hD2.out]; unfold nxS; rw [hst]; rfl
      obtain rfl : [] = Ls := by rw [← hLs.out]; unfold sttL; rw [hst]; rfl
      obtain rfl : [] = M := by rw [← hMs.out]; unfold sttN; rw [hst]; rfl
      obtain rfl : As = L := by rw [hL2.out]; rfl
      obtain rfl : op = op' := by rw [← hPop]; exact hx'.out
      clear hL2 hLs hMs hD2 hsl
      go_upto_region 6 with (first | (go_at_call 33; refine (ndSettleNo_c p B Fc c id N D1 _ Q2.out.n hop1 hst).mono ?_; rintro e w3 ⟨rfl, Fc7, n3, s3⟩; have Q3 := hide ((Q2.out.step n3 s3).new (outR (.slice none 0 0) (.slice none 0 0))); have a12 := Q3.out.n.at'.c12; have hp3 := Q3.out.n.pl; have h28 := s3.fr.size; clear n3 s3) | (go_at_call 34; refine (pPend_c B.pr c.cu c.ct D1.P _ Q3.out.n.pr op hx' true hb2).mono ?_; rintro e w5 ⟨rfl, hb5⟩; have Q5 := hide (Q3.out.below hb5); clear hb5))
      refine name_world ?_
      intro V6 hV6
      have Q6 : Hid (At5 w V6 p B Fc Fc7 c id N D1 [(w3.heap.size, outR (.slice none 0 0) (.slice none 0 0)), (R, outR (.slice none 0 0) (.slice none 0 0)), (kd, dwR d0 d1 d2), (ko, opR op)]) := by rw [← hV6]; exact hide (Q5.out.below ((Below.refl _ _).alloc (Nat.le_refl _) _))
      obtain ⟨k8, hk8⟩ : ∃ k8, Hid (w3.heap.size = k8) := ⟨_, rfl⟩
      have hR2 := (bz_get Q2.out.x (k := R) (o := outR (.slice none 0 0) (.slice none 0 0)) (by simp)).1
      have hd2 := (bz_get Q2.out.x (k := kd) (o := dwR d0 d1 d2) (by simp)).1
      have ho2 := (bz_get Q2.out.x (k := ko) (o := opR op) (by simp)).1
      rw [hk8.out] at Q6 h28
      rw [hk8.out]
      clear hV6 Q5 Q3 a12 hp3
      have hn1 : k8 ≠ R := by omega
      have hn2 : k8 ≠ kd := by omega
      have hn3 : k8 ≠ ko := by omega
      have cells : ∀ {W : World}, At5 w W p B Fc Fc7 c id N D1 [(k8, outR (.slice none 0 0) (.slice none 0 0)), (R, outR (.slice none 0 0) (.slice none 0 0)), (kd, dwR d0 d1 d2), (ko, opR op)] → W.cell? ⟨k8, 0, none⟩ = some (.slice none 0 0) ∧ W.cell? ⟨ko, 0, none⟩ = some (.int .i64 op.b) ∧ W.cell? ⟨ko, 1, none⟩ = some (.bool op.w) ∧ W.cell? ⟨ko, 2, none⟩ = some (.int .i64 op.v) ∧ W.cell? ⟨kd, 0, none⟩ = some (.int .i64 d0) ∧ W.cell? ⟨kd, 1, none⟩ = some (.int .i64 d1) ∧ W.cell? ⟨kd, 2, none⟩ = some (.int .i64 d2) := fun Q => by
        obtain ⟨-, h8⟩ := bz_get Q.x (k := k8) (o := outR (.slice none 0 0) (.slice none 0 0)) (by simp)
        obtain ⟨-, ho⟩ := bz_get Q.x (k := ko) (o := opR op) (by simp)
        obtain ⟨-, hd⟩ := bz_get Q.x (k := kd) (o := dwR d0 d1 d2) (by simp)
        exact ⟨cell_of_row _ _ _ _ _ _ h8, cell_of_row _ _ _ _ _ _ ho, cell_of_row _ _ _ _ _ _ ho, cell_of_row _ _ _ _ _ _ ho, cell_of_row _ _ _ _ _ _ hd, cell_of_row _ _ _ _ _ _ hd, cell_of_row _ _ _ _ _ _ hd⟩
      go_wp2_with fail
      refine wp_region_noPanic ?_
      refine last_begin 8 (fun w' => w'.cell? ⟨k8, 0, none⟩ = some (.slice none 0 0) ∧ w'.cell? ⟨ko, 0, none⟩ = some (.int .i64 op.b) ∧ w'.cell? ⟨ko, 1, none⟩ = some (.bool op.w) ∧ w'.cell? ⟨ko, 2, none⟩ = some (.int .i64 op.v) ∧ w'.cell? ⟨kd, 0, none⟩ = some (.int .i64 d0) ∧ w'.cell? ⟨kd, 1, none⟩ = some (.int .i64 d1) ∧ w'.cell? ⟨kd, 2, none⟩ = some (.int .i64 d2)) (by kernel_rfl) ?_ fun hHeld => ?_
      · exact cells (Q6.out.below (V' := V6.drewN 1) (belowN (Below.refl _ _) 1))
      refine lTk 0 45 hHeld ?_
      refine lTk 1 46 hHeld ?_
      refine lTk 2 47 hHeld ?_
      refine lTk 3 48 hHeld ?_
      refine lTk 4 49 hHeld ?_
      have Q7 := hide (Q6.out.below (V' := V6.drewN 1) (belowN (Below.refl _ _) 1))
      refine lNo 5 fun K hK => ?_
      go_simp
      go_at_call 35
      refine (ndAsk_c p B Fc7 c id N D1 op d0 d1 d2 _ Q7.out.n As hAs).mono ?_
      rintro e w8 ⟨v8, rfl, g8, ho8, hg8, hb8⟩
      have Q8 := hide (Q7.out.below hb8)
      refine hK.out _ _ (fun _ => ?_) fun hHeld0 => ?_
      · exact cells Q8.out
      clear hK K
      replace hHeld := hHeld0 (by decide)
      clear hHeld0
      try simp only [Act.put, za, zb, zc]
      refine lNo 6 fun K hK => ?_
      refine wp_appT (.tmp 46) (.tmp 50) rfl rfl rfl (own_nilT (g := kd) (bz_get Q8.out.x (k := kd) (o := dwR d0 d1 d2) (by simp)).1) ho8.view (by simp; omega) As.length (by simp) ?_
      intro ao' cap' w9 g' hown' hap
      have hB9 := hap.nil rfl
      have Q9 := hide (Q8.out.below hB9)
      refine hK.out _ _ (fun _ => ?_) fun hHeld0 => ?_
      · exact cells Q9.out
      clear hK K
      replace hHeld := hHeld0 (by decide)
      clear hHeld0
      try simp only [Act.put, za, zb, zc]
      obtain ⟨h8k, h8b⟩ := bz_get Q9.out.x (k := k8) (o := outR (.slice none 0 0) (.slice none 0 0)) (by simp)
      obtain ⟨t0, t1, zt⟩ := out_at h8b
      refine lTk 7 52 hHeld ?_
      refine lNo 8 fun K hK => ?_
      go_simp
      refine hK.out _ _ (fun h => absurd rfl h) fun _ => ?_
      clear hK K
      try simp only [Act.put, za, zb, zc]
      refine last_done (by kernel_rfl) (NoPanic.normal ?_) _
      clear hHeld
      have Q10 := hide (Q9.out.fill (k := k8) (cs := #[.slice none 0 0, .slice none 0 0]) (T := 44) (by simp) 0 (.slice ao' As.length cap') [(R, outR (.slice none 0 0) (.slice none 0 0)), (kd, dwR d0 d1 d2), (ko, opR op)] (fun x hx _ => List.mem_cons_of_mem _ hx) (fun x hx e => by simp at hx; rcases hx with rfl | rfl | rfl <;> (dsimp only at e; omega)))
      obtain ⟨hR9, hRb⟩ := bz_get Q9.out.x (k := R) (o := outR (.slice none 0 0) (.slice none 0 0)) (by simp)
      obtain ⟨r0, r1, z⟩ := out_at hRb
      have hn1' : R ≠ k8 := fun e => hn1 e.symm
      go_wp2_with fail
      refine bodyPost_ret (v := .tuple #[.agg #[.slice ao' As.length cap', .slice none 0 0], .bool true]) (by simp [results, Tryz.results15, go_sem, *]; done) rfl ⟨_, _, rfl, Fc7, g', g', ?_⟩
      rw [hDD]
      have hRo := hRe.out
      have h8l := (bz_get Q8.out.x (k := k8) (o := outR (.slice none 0 0) (.slice none 0 0)) (by simp)).1
      have hRl := (bz_get Q8.out.x (k := R) (o := outR (.slice none 0 0) (.slice none 0 0)) (by simp)).1
      have hdo := hde.out
      have hgg : w.heap.size ≤ g' ∧ g' ≠ R ∧ g' ≠ k8 := by
        have h0 := Q8.out.s.fr.size
        rcases hap.lies with e | e <;> (refine ⟨?_, ?_, ?_⟩ <;> omega)
      have hgF : ¬ Fa p B Fc7 g' := by
        rcases hap.lies with e | e
        · rw [e]; exact (Q8.out.x (kd, dwR d0 d1 d2) (by simp)).2.2.1
        · exact fun e2 => by have := Q8.out.n.lt _ e2; omega
      have hF : FrS (· = k8) w9 (w9.setCell ⟨k8, 0, none⟩ (.slice ao' As.length cap')) := wrP (FrS.refl _ _) _
      exact out_fin5 (R := R) (Q10.out.step (Q10.out.n.mono (by omega)) (Step.refl _ _)) (o := outR (.slice none 0 0) (.slice none 0 0)) (by simp) ((by simpa using hown' : OwnT w9 (.slice ao' As.length cap') g' As).fr hF (by omega)) (view_nilD _ _) (by omega) (by omega) (fun h => absurd rfl h) hgF (fun h => absurd rfl h)
end Go.Proofs.YtoenjdnccgmhoaaGreatDoor
