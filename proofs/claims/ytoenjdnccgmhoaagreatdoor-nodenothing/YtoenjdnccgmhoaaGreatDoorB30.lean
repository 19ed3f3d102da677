/- layer 15: NdL, put together. -/
import Derived.Test.YtoenjdnccgmhoaaGreatDoorB26
import Derived.Test.YtoenjdnccgmhoaaGreatDoorB27
import Derived.Test.YtoenjdnccgmhoaaGreatDoorB05
namespace Go.Proofs.YtoenjdnccgmhoaaGreatDoor
open Go.ChangeShapes Go.WideShapes Go.ChangeAt Go.RowKit
set_option linter.unusedSimpArgs false
set_option linter.unusedVariables false
set_option maxRecDepth 10000
attribute [local go_sem, local simp] over_const setCell_drewN alloc_drewN Over.cell Over.frozen lt_s1 lt_s2 lt_s3 le_s0 le_s1 le_s2 le_s3 eq_s0 eq_s1 eq_s2 qe_s0
section
variable {P : Program} {md : Region.Mode} {ops : Array Oper} {Q : Exit → Act → World → Prop} {S : World → Prop}
theorem hand_three {i j k : Nat} {fuel : Nat} {listed : Array Bool} {a : Act} {w : World} (hi : ((ops[i]?).map fun o => Region.wanted o (yielded ops a.tmps)) = some true) (hj : ((ops[j]?).map fun o => Region.wanted o (yielded ops a.tmps)) = some true) (hk : ((ops[k]?).map fun o => Region.wanted o (yielded ops a.tmps)) = some true) (hr : Region.ready md ops listed = [i, j, k])
    (h : ∀ o, ops[i]? = some o → ∀ K' : Act → World → Prop, Shut (∀ a w, S w → (S w → wpAnyH P md ops Q S fuel (listed.setIfInBounds i true) a w) → K' a w) → Oper.wp P o a w K' Q)
    (h' : ∀ o, ops[j]? = some o → ∀ K' : Act → World → Prop, Shut (∀ a w, S w → (S w → wpAnyH P md ops Q S fuel (listed.setIfInBounds j true) a w) → K' a w) → Oper.wp P o a w K' Q)
    (h'' : ∀ o, ops[k]? = some o → ∀ K' : Act → World → Prop, Shut (∀ a w, S w → (S w → wpAnyH P md ops Q S fuel (listed.setIfInBounds k true) a w) → K' a w) → Oper.wp P o a w K' Q) : wpAnyH P md ops Q S (fuel + 1) listed a w := by
  cases e : ops[i]? with
  | none => simp [e] at hi
  | some o =>
    cases e' : ops[j]? with
    | none => simp [e'] at hj
    | some o' =>
      cases e'' : ops[k]? with
      | none => simp [e''] at hk
      | some o'' =>
        simp [e] at hi
        simp [e'] at hj
        simp [e''] at hk
        refine wpAnyH_ready hr (by simp) (AllReadyH.cons e (fun K hK => ?_) (AllReadyH.cons e' (fun K hK => ?_) (AllReadyH.cons e'' (fun K hK => ?_) AllReadyH.nil)))
        · rw [if_pos hi]
          exact h o e K hK
        · rw [if_pos hj]
          exact h' o' e' K hK
        · rw [if_pos hk]
          exact h'' o'' e'' K hK
theorem hThree {l1 l2 l3 : Array Bool} {fuel : Nat} {listed : Array Bool} {a : Act} {w : World} {o o' o2 : Oper} (i j k : Nat) (h : ∀ K' : Act → World → Prop, Shut (∀ a w, S w → (S w → wpAnyH P md ops Q S fuel l1 a w) → K' a w) → Oper.wp P o a w K' Q) (h' : ∀ K' : Act → World → Prop, Shut (∀ a w, S w → (S w → wpAnyH P md ops Q S fuel l2 a w) → K' a w) → Oper.wp P o' a w K' Q) (h'' : ∀ K' : Act → World → Prop, Shut (∀ a w, S w → (S w → wpAnyH P md ops Q S fuel l3 a w) → K' a w) → Oper.wp P o2 a w K' Q)
    (ho : ops[i]? = some o := by simp; rfl) (ho' : ops[j]? = some o' := by simp; rfl) (ho2 : ops[k]? = some o2 := by simp; rfl) (hw : Region.wanted o (yielded ops a.tmps) = true := by kernel_rfl) (hw' : Region.wanted o' (yielded ops a.tmps) = true := by kernel_rfl) (hw2 : Region.wanted o2 (yielded ops a.tmps) = true := by kernel_rfl) (hr : Region.ready md ops listed = [i, j, k] := by kernel_rfl)
    (hl : listed.setIfInBounds i true = l1 := by (try simp only [za, zb, zc]); rfl) (hl' : listed.setIfInBounds j true = l2 := by (try simp only [za, zb, zc]); rfl) (hl2 : listed.setIfInBounds k true = l3 := by (try simp only [za, zb, zc]); rfl) : wpAnyH P md ops Q S (fuel + 1) listed a w := by
  subst hl hl' hl2
  exact hand_three (i := i) (j := j) (k := k) (by rw [ho]; simp [hw]) (by rw [ho']; simp [hw']) (by rw [ho2]; simp [hw2]) hr (fun q h2 => by rw [ho] at h2; cases h2; exact h) (fun q h2 => by rw [ho'] at h2; cases h2; exact h') (fun q h2 => by rw [ho2] at h2; cases h2; exact h'')
end
abbrev cfR (c : Cf) : Obj := .cells (cfA c) 23 (0, 0)
theorem cf_at {w : World} {k : Nat} {c : Cf} (h : w.heap[k]? = some (cfR c)) : w.cell? ⟨k, 0, none⟩ = some (.int .i64 c.n) ∧ w.cell? ⟨k, 1, none⟩ = some (.int .i64 c.bl) ∧ w.cell? ⟨k, 2, none⟩ = some (.int .i64 c.tt) ∧ w.cell? ⟨k, 3, none⟩ = some (.int .i64 c.cs) ∧ w.cell? ⟨k, 4, none⟩ = some (.int .i64 c.cy) ∧ w.cell? ⟨k, 5, none⟩ = some (.int .i64 c.cc) ∧ w.cell? ⟨k, 6, none⟩ = some (.int .i64 c.cu) ∧ w.cell? ⟨k, 7, none⟩ = some (.int .i64 c.ct) ∧ w.cell? ⟨k, 8, none⟩ = some (.int .i64 c.cp) :=
  ⟨cell_of_row _ _ _ _ _ _ h, cell_of_row _ _ _ _ _ _ h, cell_of_row _ _ _ _ _ _ h, cell_of_row _ _ _ _ _ _ h, cell_of_row _ _ _ _ _ _ h, cell_of_row _ _ _ _ _ _ h, cell_of_row _ _ _ _ _ _ h, cell_of_row _ _ _ _ _ _ h, cell_of_row _ _ _ _ _ _ h⟩
theorem clamp_same {x a b : Int} (h1 : a ≤ x) (h2 : x ≤ b) : clampZ x a b = x := by unfold clampZ; (repeat' split) <;> omega
theorem nd_make {W : World} {c : Cf} {id : Int} (ok : CfOk c id) {ca tc tt to0 pr am tm : Nat} {Fc : Nat → Prop} {l0 h0 l1 h1 l2 h2 l3 h3 l4 h4 s : Nat}
    (hC : CaIs W ca Fc c.cs c.cy 0 ⟨[], fun _ => bun0⟩) (bC : ∀ b, Fc b → l0 ≤ b ∧ b < h0) (hT : TbIs W tc tt to0 0 tb0) (bT : l1 ≤ tc ∧ l1 ≤ tt ∧ l1 ≤ to0 ∧ tc < h1 ∧ tt < h1 ∧ to0 < h1)
    (hP : PrIs W pr c.cu c.ct pm0) (bP : l2 ≤ pr ∧ pr < h2) (hA : MpIs W am (.bool false) [] (fun _ => .bool false)) (bA : l3 ≤ am ∧ am < h3) (hM : MpIs W tm (.int .i64 0) [] (fun _ => .int .i64 0)) (bM : l4 ≤ tm ∧ tm < h4)
    (dis : (h0 ≤ l1 ∨ h1 ≤ l0) ∧ (h0 ≤ l2 ∨ h2 ≤ l0) ∧ (h0 ≤ l3 ∨ h3 ≤ l0) ∧ (h0 ≤ l4 ∨ h4 ≤ l0) ∧ (h1 ≤ l2 ∨ h2 ≤ l1) ∧ (h1 ≤ l3 ∨ h3 ≤ l1) ∧ (h1 ≤ l4 ∨ h4 ≤ l1) ∧ (h2 ≤ l3 ∨ h3 ≤ l2) ∧ (h2 ≤ l4 ∨ h4 ≤ l2) ∧ (h3 ≤ l4 ∨ h4 ≤ l3)) (hi : h0 ≤ W.heap.size) (lo : s ≤ l0 ∧ s ≤ l1 ∧ s ≤ l2 ∧ s ≤ l3 ∧ s ≤ l4 ∧ s ≤ W.heap.size) :
    NdIs (W.alloc (.cells (ndC c id ⟨ca, tc, tt, to0, pr, am, tm⟩) 90)) W.heap.size ⟨ca, tc, tt, to0, pr, am, tm⟩ Fc c id 0 nd0 ∧ ∀ b, Fa W.heap.size ⟨ca, tc, tt, to0, pr, am, tm⟩ Fc b → s ≤ b := by
  have q1 := hT.lt
  have q2 := hT.tl
  have q3 := hT.ol
  have q4 := hP.lt
  have q5 := hA.lt
  have q6 := hM.lt
  have q7 := hT.tc
  have q8 := hT.oc
  have q9 := hT.ne
  obtain ⟨d1, d2, d3, d4, d5, d6, d7, d8, d9, d10⟩ := dis
  have e9 : ((0 : Nat) : Int) * 65536 = 0 := by decide
  have h9c : CaIs (W.alloc (.cells (ndC c id ⟨ca, tc, tt, to0, pr, am, tm⟩) 90)) ca Fc c.cs c.cy (((0 : Nat) : Int) * 65536) nd0.C := by
    rw [e9]
    exact hC.alloc _
  refine ⟨⟨ok, heap_alloc_new _ _, h9c, hT.alloc _, hP.alloc _, by decide, ⟨[], hA.carry (Below.heap_alloc _ _ _ q5), by simp⟩, ⟨[], hM.carry (Below.heap_alloc _ _ _ q6), by simp⟩,
    ⟨fun b => if l0 ≤ b ∧ b < h0 then 7 else if b = tc then 1 else if b = tt then 2 else if b = to0 then 3 else if b = pr then 4 else if b = am then 5 else if b = tm then 6 else 0, ?_⟩⟩, ?_⟩
  · have hh : ∀ b, Fc b → b < W.heap.size := hC.lt
    have h00 : ¬ (l0 ≤ W.heap.size ∧ W.heap.size < h0) := by omega
    dsimp only
    refine ⟨?_, ?_, ?_, ?_, ?_, ?_, ?_, fun b hb => if_pos (bC b hb)⟩
    · rw [if_neg h00, if_neg (by omega), if_neg (by omega), if_neg (by omega), if_neg (by omega), if_neg (by omega), if_neg (by omega)]
    · rw [if_neg (by omega), if_pos rfl]
    · rw [if_neg (by omega), if_neg (by omega), if_pos rfl]
    · rw [if_neg (by omega), if_neg (by omega), if_neg (by omega), if_pos rfl]
    · rw [if_neg (by omega), if_neg (by omega), if_neg (by omega), if_neg (by omega), if_pos rfl]
    · rw [if_neg (by omega), if_neg (by omega), if_neg (by omega), if_neg (by omega), if_neg (by omega), if_pos rfl]
    · rw [if_neg (by omega), if_neg (by omega), if_neg (by omega), if_neg (by omega), if_neg (by omega), if_neg (by omega), if_pos rfl]
  · rintro b (hb | hb | hb | hb | hb | hb | hb | hb)
    · have := bC b hb; omega
    all_goals (try dsimp only at hb)
    all_goals omega
set_option maxHeartbeats 8000000 in
theorem ndNew_c (c : Cf) (id : Int) (w : World) (h0 : Hid (cfgZ c.n c.bl c.tt c.cs c.cy c.cc c.cu c.ct c.cp = 0)) (h1 : Hid (nodeB id c.n = true)) : Calls Tryz.prog 29 #[.agg #[.int .i64 c.n, .int .i64 c.bl, .int .i64 c.tt, .int .i64 c.cs, .int .i64 c.cy, .int .i64 c.cc, .int .i64 c.cu, .int .i64 c.ct, .int .i64 c.cp], .int .i64 id] w fun e w' => ∃ p, e = .returned (.tuple #[ptr p, .int .i64 0]) ∧ ∃ B Fc, NdIs w' p B Fc c id 0 nd0 ∧ (∀ b, Fa p B Fc b → w.heap.size ≤ b) ∧ Below w.heap.size w w' := by
  have ok := cfOk_of h0.out h1.out
  have hcs := hide (clamp_same ok.s0 ok.s1)
  have hcy := hide (clamp_same ok.y0 ok.y1)
  have g1 : ¬ id < 0 := by have := ok.i0; omega
  have g2 : ¬ c.n ≤ id := by have := ok.i1; omega
  have hmm := @run_makeMap Tryz.prog
  go_enter Tryz.func29, Tryz.ntmps29
  go_upto_region 5 with (go_at_call 68; refine (cfgErr_c c.n c.bl c.tt c.cs c.cy c.cc c.cu c.ct c.cp _ 0 h0).mono ?_; rintro e w1 ⟨rfl, hb1⟩; obtain ⟨x, rfl⟩ := over hb1; clear hb1; have f1 := x.upB (w.heap.size))
  refine name_world ?_
  intro V hV
  have hB : Hid (Below w.heap.size w V) := by rw [← hV]; exact hide (by all_goals exact belEnd)
  have kc0 : V.heap[w.heap.size]? = some (cfR c) := by rw [← hV]; exact (x.below.block _ (by simp)).trans (heap_alloc_new w _)
  have hkl : w.heap.size < V.heap.size := by rw [← hV]; exact f1
  obtain ⟨kc, hke⟩ : ∃ kc, w.heap.size = kc := ⟨_, rfl⟩
  rw [hke] at kc0 hkl ⊢
  replace hke := hide hke
  clear hV f1 x
  go_wp2_with fail
  refine wp_region_noPanic ?_
  refine wp_region_held_drew (S := (fun w' => w'.cell? ⟨kc, 0, none⟩ = some (.int .i64 c.n) ∧ w'.cell? ⟨kc, 1, none⟩ = some (.int .i64 c.bl) ∧ w'.cell? ⟨kc, 2, none⟩ = some (.int .i64 c.tt) ∧ w'.cell? ⟨kc, 3, none⟩ = some (.int .i64 c.cs) ∧ w'.cell? ⟨kc, 4, none⟩ = some (.int .i64 c.cy) ∧ w'.cell? ⟨kc, 5, none⟩ = some (.int .i64 c.cc) ∧ w'.cell? ⟨kc, 6, none⟩ = some (.int .i64 c.cu) ∧ w'.cell? ⟨kc, 7, none⟩ = some (.int .i64 c.ct) ∧ w'.cell? ⟨kc, 8, none⟩ = some (.int .i64 c.cp))) (by kernel_rfl) ?_ (fun hHeld => ?_)
  · exact cf_at kc0
  refine hTk 0 17 hHeld ?_
  refine hTk 1 18 hHeld ?_
  refine hTk 2 19 hHeld ?_
  refine hTk 3 20 hHeld ?_
  refine hTk 4 21 hHeld ?_
  refine hTk 5 22 hHeld ?_
  refine hTk 8 25 hHeld ?_
  refine hTk 9 26 hHeld ?_
  refine hTk 10 27 hHeld ?_
  refine hTk 11 28 hHeld ?_
  replace hB : Hid (Below w.heap.size w V.drew) := hide hB.out.drew
  replace hkl : kc < V.drew.heap.size := hkl
  obtain ⟨W0, hw0⟩ : ∃ W0, V.drew = W0 := ⟨_, rfl⟩
  replace kc0 : V.drew.heap[kc]? = some (cfR c) := kc0
  rw [hw0] at hHeld hB hkl kc0 ⊢
  clear hw0
  have hs00 := hB.out.size
  refine hThree 6 13 14 (fun K hK => ?_) (fun K hK => ?_) fun K hK => ?_
  · go_simp
    go_at_call 69
    refine (cNew_c c.cs c.cy _).mono ?_
    rintro e W1 ⟨ca, Fc, rfl, hca, hb0, hF0⟩
    rw [hcs.out, hcy.out] at hca
    have bC : ∀ b, Fc b → W0.heap.size ≤ b ∧ b < W1.heap.size := fun b hb => ⟨hF0 b hb, hca.lt b hb⟩
    have kC := hide hca
    clear hca hF0
    have z0 := hb0.size
    have hBz : Hid (Below w.heap.size w W1) := hide (hB.out.trans (hb0.mono hB.out.size))
    replace hB := hBz
    clear hBz
    replace kc0 := (hb0.block _ hkl).trans kc0
    replace hkl := Nat.lt_of_lt_of_le hkl hb0.size
    clear hb0
    refine hK.out _ _ ?_ fun hHeld => ?_
    · exact cf_at kc0
    clear hK K
    try simp only [Act.put, za, zb, zc]
    refine hThree 7 13 14 (fun K hK => ?_) (fun K hK => ?_) fun K hK => ?_
    · go_simp
      go_at_call 70
      refine (tNew_c _).mono ?_
      rintro e W2 ⟨tc, rfl, tt, to0, htb, ht1, ht2, ht3, hb0⟩
      have bT : W1.heap.size ≤ tc ∧ W1.heap.size ≤ tt ∧ W1.heap.size ≤ to0 ∧ tc < W2.heap.size ∧ tt < W2.heap.size ∧ to0 < W2.heap.size := ⟨ht1, ht2, ht3, htb.lt, htb.tl, htb.ol⟩
      have kT := hide htb
      clear htb ht1 ht2 ht3
      have z1 := hb0.size
      have hBz : Hid (Below w.heap.size w W2) := hide (hB.out.trans (hb0.mono hB.out.size))
      replace hB := hBz
      clear hBz
      replace kc0 := (hb0.block _ hkl).trans kc0
      replace hkl := Nat.lt_of_lt_of_le hkl hb0.size
      replace kC := hide (kC.out.below hb0)
      clear hb0
      refine hK.out _ _ ?_ fun hHeld => ?_
      · exact cf_at kc0
      clear hK K
      try simp only [Act.put, za, zb, zc]
      refine hThree 12 13 14 (fun K hK => ?_) (fun K hK => ?_) fun K hK => ?_
      · go_simp
        go_at_call 71
        refine (pNew_c c.cu c.ct _ (by have := ok.u1; omega) (by have := ok.r1; omega)).mono ?_
        rintro e W3 ⟨pr, rfl, hpr, hp1, hb0⟩
        have bP : W2.heap.size ≤ pr ∧ pr < W3.heap.size := ⟨hp1, hpr.lt⟩
        have kP := hide hpr
        clear hpr hp1
        have z2 := hb0.size
        have hBz : Hid (Below w.heap.size w W3) := hide (hB.out.trans (hb0.mono hB.out.size))
        replace hB := hBz
        clear hBz
        replace kc0 := (hb0.block _ hkl).trans kc0
        replace hkl := Nat.lt_of_lt_of_le hkl hb0.size
        replace kC := hide (kC.out.below hb0)
        replace kT := hide (kT.out.below hb0)
        clear hb0
        refine hK.out _ _ ?_ fun hHeld => ?_
        · exact cf_at kc0
        clear hK K
        try simp only [Act.put, za, zb, zc]
        refine hTwo 13 14 (fun K hK => ?_) fun K hK => ?_
        · go_simp
          have kA : Hid (MpIs (W3.alloc (.map #[] 0)) W3.heap.size (.bool false) [] (fun _ => .bool false)) := hide (mp_new _ (World.ownsMap_made _ _ _ _))
          have hb0 : Below W3.heap.size W3 (W3.alloc (.map #[] 0)) := (Below.refl _ _).alloc (Nat.le_refl _) _
          obtain ⟨am, ham⟩ : ∃ am, W3.heap.size = am := ⟨_, rfl⟩
          obtain ⟨W4, ew⟩ : ∃ W, W3.alloc (.map #[] 0) = W := ⟨_, rfl⟩
          rw [ew] at kA hb0
          rw [ham] at kA ⊢
          rw [ew]
          have bA : W3.heap.size ≤ am ∧ am < W4.heap.size := ⟨by omega, kA.out.lt⟩
          clear ew ham
          have z3 := hb0.size
          have hBz : Hid (Below w.heap.size w W4) := hide (hB.out.trans (hb0.mono hB.out.size))
          replace hB := hBz
          clear hBz
          replace kc0 := (hb0.block _ hkl).trans kc0
          replace hkl := Nat.lt_of_lt_of_le hkl hb0.size
          replace kC := hide (kC.out.below hb0)
          replace kT := hide (kT.out.below hb0)
          replace kP := hide (kP.out.below hb0)
          clear hb0
          refine hK.out _ _ ?_ fun hHeld => ?_
          · exact cf_at kc0
          clear hK K
          try simp only [Act.put, za, zb, zc]
          refine hNo 14 fun K hK => ?_
          go_simp
          have kM : Hid (MpIs (W4.alloc (.map #[] 0)) W4.heap.size (.int .i64 0) [] (fun _ => .int .i64 0)) := hide (mp_new _ (World.ownsMap_made _ _ _ _))
          have hb0 : Below W4.heap.size W4 (W4.alloc (.map #[] 0)) := (Below.refl _ _).alloc (Nat.le_refl _) _
          obtain ⟨tm, htm⟩ : ∃ tm, W4.heap.size = tm := ⟨_, rfl⟩
          obtain ⟨W5, ew⟩ : ∃ W, W4.alloc (.map #[] 0) = W := ⟨_, rfl⟩
          rw [ew] at kM hb0
          rw [htm] at kM ⊢
          rw [ew]
          have bM : W4.heap.size ≤ tm ∧ tm < W5.heap.size := ⟨by omega, kM.out.lt⟩
          clear ew htm
          have z4 := hb0.size
          have hBz : Hid (Below w.heap.size w W5) := hide (hB.out.trans (hb0.mono hB.out.size))
          replace hB := hBz
          clear hBz
          replace kc0 := (hb0.block _ hkl).trans kc0
          replace hkl := Nat.lt_of_lt_of_le hkl hb0.size
          replace kC := hide (kC.out.below hb0)
          replace kT := hide (kT.out.below hb0)
          replace kP := hide (kP.out.below hb0)
          replace kA := hide (kA.out.carry (hb0.block _ kA.out.lt))
          clear hb0
          refine hK.out _ _ ?_ fun hHeld => ?_
          · exact cf_at kc0
          clear hK K
          try simp only [Act.put, za, zb, zc]
          refine hTk 15 32 hHeld ?_
          clear hHeld
          refine hNo 16 fun K hK => ?_
          go_simp
          refine hK.out _ _ ?_ fun hHeld => ?_
          · exact cf_at ((Below.heap_alloc _ _ _ hkl).trans kc0)
          clear hK K
          try simp only [Act.put, za, zb, zc]
          refine hTk 17 4 hHeld ?_
          refine hTk 18 5 hHeld ?_
          refine wpAnyH_done (by kernel_rfl) (NoPanic.normal ?_) _
          clear hHeld
          go_wp2_with fail
          go_ret2
          obtain ⟨n1, n2⟩ := nd_make ok kC.out bC kT.out bT kP.out bP kA.out bA kM.out bM (by omega) (by omega) (s := w.heap.size) (by have := hB.out.size; omega)
          exact ⟨_, rfl, _, _, n1, n2, hB.out.alloc hB.out.size _⟩
        · go_simp
          have kM : Hid (MpIs (W3.alloc (.map #[] 0)) W3.heap.size (.int .i64 0) [] (fun _ => .int .i64 0)) := hide (mp_new _ (World.ownsMap_made _ _ _ _))
          have hb0 : Below W3.heap.size W3 (W3.alloc (.map #[] 0)) := (Below.refl _ _).alloc (Nat.le_refl _) _
          obtain ⟨tm, htm⟩ : ∃ tm, W3.heap.size = tm := ⟨_, rfl⟩
          obtain ⟨W4, ew⟩ : ∃ W, W3.alloc (.map #[] 0) = W := ⟨_, rfl⟩
          rw [ew] at kM hb0
          rw [htm] at kM ⊢
          rw [ew]
          have bM : W3.heap.size ≤ tm ∧ tm < W4.heap.size := ⟨by omega, kM.out.lt⟩
          clear ew htm
          have z3 := hb0.size
          have hBz : Hid (Below w.heap.size w W4) := hide (hB.out.trans (hb0.mono hB.out.size))
          replace hB := hBz
          clear hBz
          replace kc0 := (hb0.block _ hkl).trans kc0
          replace hkl := Nat.lt_of_lt_of_le hkl hb0.size
          replace kC := hide (kC.out.below hb0)
          replace kT := hide (kT.out.below hb0)
          replace kP := hide (kP.out.below hb0)
          clear hb0
          refine hK.out _ _ ?_ fun hHeld => ?_
          · exact cf_at kc0
          clear hK K
          try simp only [Act.put, za, zb, zc]
          refine hNo 13 fun K hK => ?_
          go_simp
          have kA : Hid (MpIs (W4.alloc (.map #[] 0)) W4.heap.size (.bool false) [] (fun _ => .bool false)) := hide (mp_new _ (World.ownsMap_made _ _ _ _))
          have hb0 : Below W4.heap.size W4 (W4.alloc (.map #[] 0)) := (Below.refl _ _).alloc (Nat.le_refl _) _
          obtain ⟨am, ham⟩ : ∃ am, W4.heap.size = am := ⟨_, rfl⟩
          obtain ⟨W5, ew⟩ : ∃ W, W4.alloc (.map #[] 0) = W := ⟨_, rfl⟩
          rw [ew] at kA hb0
          rw [ham] at kA ⊢
          rw [ew]
          have bA : W4.heap.size ≤ am ∧ am < W5.heap.size := ⟨by omega, kA.out.lt⟩
          clear ew ham
          have z4 := hb0.size
          have hBz : Hid (Below w.heap.size w W5) := hide (hB.out.trans (hb0.mono hB.out.size))
          replace hB := hBz
          clear hBz
          replace kc0 := (hb0.block _ hkl).trans kc0
          replace hkl := Nat.lt_of_lt_of_le hkl hb0.size
          replace kC := hide (kC.out.below hb0)
          replace kT := hide (kT.out.below hb0)
          replace kP := hide (kP.out.below hb0)
          replace kM := hide (kM.out.carry (hb0.block _ kM.out.lt))
          clear hb0
          refine hK.out _ _ ?_ fun hHeld => ?_
          · exact cf_at kc0
          clear hK K
          try simp only [Act.put, za, zb, zc]
          refine hTk 15 32 hHeld ?_
          clear hHeld
          refine hNo 16 fun K hK => ?_
          go_simp
          refine hK.out _ _ ?_ fun hHeld => ?_
          · exact cf_at ((Below.heap_alloc _ _ _ hkl).trans kc0)
          clear hK K
          try simp only [Act.put, za, zb, zc]
          refine hTk 17 4 hHeld ?_
          refine hTk 18 5 hHeld ?_
          refine wpAnyH_done (by kernel_rfl) (NoPanic.normal ?_) _
          clear hHeld
          go_wp2_with fail
          go_ret2
          obtain ⟨n1, n2⟩ := nd_make ok kC.out bC kT.out bT kP.out bP kA.out bA kM.out bM (by omega) (by omega) (s := w.heap.size) (by have := hB.out.size; omega)
          exact ⟨_, rfl, _, _, n1, n2, hB.out.alloc hB.out.size _⟩
      · go_simp
        have kA : Hid (MpIs (W2.alloc (.map #[] 0)) W2.heap.size (.bool false) [] (fun _ => .bool false)) := hide (mp_new _ (World.ownsMap_made _ _ _ _))
        have hb0 : Below W2.heap.size W2 (W2.alloc (.map #[] 0)) := (Below.refl _ _).alloc (Nat.le_refl _) _
        obtain ⟨am, ham⟩ : ∃ am, W2.heap.size = am := ⟨_, rfl⟩
        obtain ⟨W3, ew⟩ : ∃ W, W2.alloc (.map #[] 0) = W := ⟨_, rfl⟩
        rw [ew] at kA hb0
        rw [ham] at kA ⊢
        rw [ew]
        have bA : W2.heap.size ≤ am ∧ am < W3.heap.size := ⟨by omega, kA.out.lt⟩
        clear ew ham
        have z2 := hb0.size
        have hBz : Hid (Below w.heap.size w W3) := hide (hB.out.trans (hb0.mono hB.out.size))
        replace hB := hBz
        clear hBz
        replace kc0 := (hb0.block _ hkl).trans kc0
        replace hkl := Nat.lt_of_lt_of_le hkl hb0.size
        replace kC := hide (kC.out.below hb0)
        replace kT := hide (kT.out.below hb0)
        clear hb0
        refine hK.out _ _ ?_ fun hHeld => ?_
        · exact cf_at kc0
        clear hK K
        try simp only [Act.put, za, zb, zc]
        refine hTwo 12 14 (fun K hK => ?_) fun K hK => ?_
        · go_simp
          go_at_call 71
          refine (pNew_c c.cu c.ct _ (by have := ok.u1; omega) (by have := ok.r1; omega)).mono ?_
          rintro e W4 ⟨pr, rfl, hpr, hp1, hb0⟩
          have bP : W3.heap.size ≤ pr ∧ pr < W4.heap.size := ⟨hp1, hpr.lt⟩
          have kP := hide hpr
          clear hpr hp1
          have z3 := hb0.size
          have hBz : Hid (Below w.heap.size w W4) := hide (hB.out.trans (hb0.mono hB.out.size))
          replace hB := hBz
          clear hBz
          replace kc0 := (hb0.block _ hkl).trans kc0
          replace hkl := Nat.lt_of_lt_of_le hkl hb0.size
          replace kC := hide (kC.out.below hb0)
          replace kT := hide (kT.out.below hb0)
          replace kA := hide (kA.out.carry (hb0.block _ kA.out.lt))
          clear hb0
          refine hK.out _ _ ?_ fun hHeld => ?_
          · exact cf_at kc0
          clear hK K
          try simp only [Act.put, za, zb, zc]
          refine hNo 14 fun K hK => ?_
          go_simp
          have kM : Hid (MpIs (W4.alloc (.map #[] 0)) W4.heap.size (.int .i64 0) [] (fun _ => .int .i64 0)) := hide (mp_new _ (World.ownsMap_made _ _ _ _))
          have hb0 : Below W4.heap.size W4 (W4.alloc (.map #[] 0)) := (Below.refl _ _).alloc (Nat.le_refl _) _
          obtain ⟨tm, htm⟩ : ∃ tm, W4.heap.size = tm := ⟨_, rfl⟩
          obtain ⟨W5, ew⟩ : ∃ W, W4.alloc (.map #[] 0) = W := ⟨_, rfl⟩
          rw [ew] at kM hb0
          rw [htm] at kM ⊢
          rw [ew]
          have bM : W4.heap.size ≤ tm ∧ tm < W5.heap.size := ⟨by omega, kM.out.lt⟩
          clear ew htm
          have z4 := hb0.size
          have hBz : Hid (Below w.heap.size w W5) := hide (hB.out.trans (hb0.mono hB.out.size))
          replace hB := hBz
          clear hBz
          replace kc0 := (hb0.block _ hkl).trans kc0
          replace hkl := Nat.lt_of_lt_of_le hkl hb0.size
          replace kC := hide (kC.out.below hb0)
          replace kT := hide (kT.out.below hb0)
          replace kA := hide (kA.out.carry (hb0.block _ kA.out.lt))
          replace kP := hide (kP.out.below hb0)
          clear hb0
          refine hK.out _ _ ?_ fun hHeld => ?_
          · exact cf_at kc0
          clear hK K
          try simp only [Act.put, za, zb, zc]
          refine hTk 15 32 hHeld ?_
          clear hHeld
          refine hNo 16 fun K hK => ?_
          go_simp
          refine hK.out _ _ ?_ fun hHeld => ?_
          · exact cf_at ((Below.heap_alloc _ _ _ hkl).trans kc0)
          clear hK K
          try simp only [Act.put, za, zb, zc]
          refine hTk 17 4 hHeld ?_
          refine hTk 18 5 hHeld ?_
          refine wpAnyH_done (by kernel_rfl) (NoPanic.normal ?_) _
          clear hHeld
          go_wp2_with fail
          go_ret2
          obtain ⟨n1, n2⟩ := nd_make ok kC.out bC kT.out bT kP.out bP kA.out bA kM.out bM (by omega) (by omega) (s := w.heap.size) (by have := hB.out.size; omega)
          exact ⟨_, rfl, _, _, n1, n2, hB.out.alloc hB.out.size _⟩
        · go_simp
          have kM : Hid (MpIs (W3.alloc (.map #[] 0)) W3.heap.size (.int .i64 0) [] (fun _ => .int .i64 0)) := hide (mp_new _ (World.ownsMap_made _ _ _ _))
          have hb0 : Below W3.heap.size W3 (W3.alloc (.map #[] 0)) := (Below.refl _ _).alloc (Nat.le_refl _) _
          obtain ⟨tm, htm⟩ : ∃ tm, W3.heap.size = tm := ⟨_, rfl⟩
          obtain ⟨W4, ew⟩ : ∃ W, W3.alloc (.map #[] 0) = W := ⟨_, rfl⟩
          rw [ew] at kM hb0
          rw [htm] at kM ⊢
          rw [ew]
          have bM : W3.heap.size ≤ tm ∧ tm < W4.heap.size := ⟨by omega, kM.out.lt⟩
          clear ew htm
          have z3 := hb0.size
          have hBz : Hid (Below w.heap.size w W4) := hide (hB.out.trans (hb0.mono hB.out.size))
          replace hB := hBz
          clear hBz
          replace kc0 := (hb0.block _ hkl).trans kc0
          replace hkl := Nat.lt_of_lt_of_le hkl hb0.size
          replace kC := hide (kC.out.below hb0)
          replace kT := hide (kT.out.below hb0)
          replace kA := hide (kA.out.carry (hb0.block _ kA.out.lt))
          clear hb0
          refine hK.out _ _ ?_ fun hHeld => ?_
          · exact cf_at kc0
          clear hK K
          try simp only [Act.put, za, zb, zc]
          refine hNo 12 fun K hK => ?_
          go_simp
          go_at_call 71
          refine (pNew_c c.cu c.ct _ (by have := ok.u1; omega) (by have := ok.r1; omega)).mono ?_
          rintro e W5 ⟨pr, rfl, hpr, hp1, hb0⟩
          have bP : W4.heap.size ≤ pr ∧ pr < W5.heap.size := ⟨hp1, hpr.lt⟩
          have kP := hide hpr
          clear hpr hp1
          have z4 := hb0.size
          have hBz : Hid (Below w.heap.size w W5) := hide (hB.out.trans (hb0.mono hB.out.size))
          replace hB := hBz
          clear hBz
          replace kc0 := (hb0.block _ hkl).trans kc0
          replace hkl := Nat.lt_of_lt_of_le hkl hb0.size
          replace kC := hide (kC.out.below hb0)
          replace kT := hide (kT.out.below hb0)
          replace kA := hide (kA.out.carry (hb0.block _ kA.out.lt))
          replace kM := hide (kM.out.carry (hb0.block _ kM.out.lt))
          clear hb0
          refine hK.out _ _ ?_ fun hHeld => ?_
          · exact cf_at kc0
          clear hK K
          try simp only [Act.put, za, zb, zc]
          refine hTk 15 32 hHeld ?_
          clear hHeld
          refine hNo 16 fun K hK => ?_
          go_simp
          refine hK.out _ _ ?_ fun hHeld => ?_
          · exact cf_at ((Below.heap_alloc _ _ _ hkl).trans kc0)
          clear hK K
          try simp only [Act.put, za, zb, zc]
          refine hTk 17 4 hHeld ?_
          refine hTk 18 5 hHeld ?_
          refine wpAnyH_done (by kernel_rfl) (NoPanic.normal ?_) _
          clear hHeld
          go_wp2_with fail
          go_ret2
          obtain ⟨n1, n2⟩ := nd_make ok kC.out bC kT.out bT kP.out bP kA.out bA kM.out bM (by omega) (by omega) (s := w.heap.size) (by have := hB.out.size; omega)
          exact ⟨_, rfl, _, _, n1, n2, hB.out.alloc hB.out.size _⟩
      · go_simp
        have kM : Hid (MpIs (W2.alloc (.map #[] 0)) W2.heap.size (.int .i64 0) [] (fun _ => .int .i64 0)) := hide (mp_new _ (World.ownsMap_made _ _ _ _))
        have hb0 : Below W2.heap.size W2 (W2.alloc (.map #[] 0)) := (Below.refl _ _).alloc (Nat.le_refl _) _
        obtain ⟨tm, htm⟩ : ∃ tm, W2.heap.size = tm := ⟨_, rfl⟩
        obtain ⟨W3, ew⟩ : ∃ W, W2.alloc (.map #[] 0) = W := ⟨_, rfl⟩
        rw [ew] at kM hb0
        rw [htm] at kM ⊢
        rw [ew]
        have bM : W2.heap.size ≤ tm ∧ tm < W3.heap.size := ⟨by omega, kM.out.lt⟩
        clear ew htm
        have z2 := hb0.size
        have hBz : Hid (Below w.heap.size w W3) := hide (hB.out.trans (hb0.mono hB.out.size))
        replace hB := hBz
        clear hBz
        replace kc0 := (hb0.block _ hkl).trans kc0
        replace hkl := Nat.lt_of_lt_of_le hkl hb0.size
        replace kC := hide (kC.out.below hb0)
        replace kT := hide (kT.out.below hb0)
        clear hb0
        refine hK.out _ _ ?_ fun hHeld => ?_
        · exact cf_at kc0
        clear hK K
        try simp only [Act.put, za, zb, zc]
        refine hTwo 12 13 (fun K hK => ?_) fun K hK => ?_
        · go_simp
          go_at_call 71
          refine (pNew_c c.cu c.ct _ (by have := ok.u1; omega) (by have := ok.r1; omega)).mono ?_
          rintro e W4 ⟨pr, rfl, hpr, hp1, hb0⟩
          have bP : W3.heap.size ≤ pr ∧ pr < W4.heap.size := ⟨hp1, hpr.lt⟩
          have kP := hide hpr
          clear hpr hp1
          have z3 := hb0.size
          have hBz : Hid (Below w.heap.size w W4) := hide (hB.out.trans (hb0.mono hB.out.size))
          replace hB := hBz
          clear hBz
          replace kc0 := (hb0.block _ hkl).trans kc0
          replace hkl := Nat.lt_of_lt_of_le hkl hb0.size
          replace kC := hide (kC.out.below hb0)
          replace kT := hide (kT.out.below hb0)
          replace kM := hide (kM.out.carry (hb0.block _ kM.out.lt))
          clear hb0
          refine hK.out _ _ ?_ fun hHeld => ?_
          · exact cf_at kc0
          clear hK K
          try simp only [Act.put, za, zb, zc]
          refine hNo 13 fun K hK => ?_
          go_simp
          have kA : Hid (MpIs (W4.alloc (.map #[] 0)) W4.heap.size (.bool false) [] (fun _ => .bool false)) := hide (mp_new _ (World.ownsMap_made _ _ _ _))
          have hb0 : Below W4.heap.size W4 (W4.alloc (.map #[] 0)) := (Below.refl _ _).alloc (Nat.le_refl _) _
          obtain ⟨am, ham⟩ : ∃ am, W4.heap.size = am := ⟨_, rfl⟩
          obtain ⟨W5, ew⟩ : ∃ W, W4.alloc (.map #[] 0) = W := ⟨_, rfl⟩
          rw [ew] at kA hb0
          rw [ham] at kA ⊢
          rw [ew]
          have bA : W4.heap.size ≤ am ∧ am < W5.heap.size := ⟨by omega, kA.out.lt⟩
          clear ew ham
          have z4 := hb0.size
          have hBz : Hid (Below w.heap.size w W5) := hide (hB.out.trans (hb0.mono hB.out.size))
          replace hB := hBz
          clear hBz
          replace kc0 := (hb0.block _ hkl).trans kc0
          replace hkl := Nat.lt_of_lt_of_le hkl hb0.size
          replace kC := hide (kC.out.below hb0)
          replace kT := hide (kT.out.below hb0)
          replace kM := hide (kM.out.carry (hb0.block _ kM.out.lt))
          replace kP := hide (kP.out.below hb0)
          clear hb0
          refine hK.out _ _ ?_ fun hHeld => ?_
          · exact cf_at kc0
          clear hK K
          try simp only [Act.put, za, zb, zc]
          refine hTk 15 32 hHeld ?_
          clear hHeld
          refine hNo 16 fun K hK => ?_
          go_simp
          refine hK.out _ _ ?_ fun hHeld => ?_
          · exact cf_at ((Below.heap_alloc _ _ _ hkl).trans kc0)
          clear hK K
          try simp only [Act.put, za, zb, zc]
          refine hTk 17 4 hHeld ?_
          refine hTk 18 5 hHeld ?_
          refine wpAnyH_done (by kernel_rfl) (NoPanic.normal ?_) _
          clear hHeld
          go_wp2_with fail
          go_ret2
          obtain ⟨n1, n2⟩ := nd_make ok kC.out bC kT.out bT kP.out bP kA.out bA kM.out bM (by omega) (by omega) (s := w.heap.size) (by have := hB.out.size; omega)
          exact ⟨_, rfl, _, _, n1, n2, hB.out.alloc hB.out.size _⟩
        · go_simp
          have kA : Hid (MpIs (W3.alloc (.map #[] 0)) W3.heap.size (.bool false) [] (fun _ => .bool false)) := hide (mp_new _ (World.ownsMap_made _ _ _ _))
          have hb0 : Below W3.heap.size W3 (W3.alloc (.map #[] 0)) := (Below.refl _ _).alloc (Nat.le_refl _) _
          obtain ⟨am, ham⟩ : ∃ am, W3.heap.size = am := ⟨_, rfl⟩
          obtain ⟨W4, ew⟩ : ∃ W, W3.alloc (.map #[] 0) = W := ⟨_, rfl⟩
          rw [ew] at kA hb0
          rw [ham] at kA ⊢
          rw [ew]
          have bA : W3.heap.size ≤ am ∧ am < W4.heap.size := ⟨by omega, kA.out.lt⟩
          clear ew ham
          have z3 := hb0.size
          have hBz : Hid (Below w.heap.size w W4) := hide (hB.out.trans (hb0.mono hB.out.size))
          replace hB := hBz
          clear hBz
          replace kc0 := (hb0.block _ hkl).trans kc0
          replace hkl := Nat.lt_of_lt_of_le hkl hb0.size
          replace kC := hide (kC.out.below hb0)
          replace kT := hide (kT.out.below hb0)
          replace kM := hide (kM.out.carry (hb0.block _ kM.out.lt))
          clear hb0
          refine hK.out _ _ ?_ fun hHeld => ?_
          · exact cf_at kc0
          clear hK K
          try simp only [Act.put, za, zb, zc]
          refine hNo 12 fun K hK => ?_
          go_simp
          go_at_call 71
          refine (pNew_c c.cu c.ct _ (by have := ok.u1; omega) (by have := ok.r1; omega)).mono ?_
          rintro e W5 ⟨pr, rfl, hpr, hp1, hb0⟩
          have bP : W4.heap.size ≤ pr ∧ pr < W5.heap.size := ⟨hp1, hpr.lt⟩
          have kP := hide hpr
          clear hpr hp1
          have z4 := hb0.size
          have hBz : Hid (Below w.heap.size w W5) := hide (hB.out.trans (hb0.mono hB.out.size))
          replace hB := hBz
          clear hBz
          replace kc0 := (hb0.block _ hkl).trans kc0
          replace hkl := Nat.lt_of_lt_of_le hkl hb0.size
          replace kC := hide (kC.out.below hb0)
          replace kT := hide (kT.out.below hb0)
          replace kM := hide (kM.out.carry (hb0.block _ kM.out.lt))
          replace kA := hide (kA.out.carry (hb0.block _ kA.out.lt))
          clear hb0
          refine hK.out _ _ ?_ fun hHeld => ?_
          · exact cf_at kc0
          clear hK K
          try simp only [Act.put, za, zb, zc]
          refine hTk 15 32 hHeld ?_
          clear hHeld
          refine hNo 16 fun K hK => ?_
          go_simp
          refine hK.out _ _ ?_ fun hHeld => ?_
          · exact cf_at ((Below.heap_alloc _ _ _ hkl).trans kc0)
          clear hK K
          try simp only [Act.put, za, zb, zc]
          refine hTk 17 4 hHeld ?_
          refine hTk 18 5 hHeld ?_
          refine wpAnyH_done (by kernel_rfl) (NoPanic.normal ?_) _
          clear hHeld
          go_wp2_with fail
          go_ret2
          obtain ⟨n1, n2⟩ := nd_make ok kC.out bC kT.out bT kP.out bP kA.out bA kM.out bM (by omega) (by omega) (s := w.heap.size) (by have := hB.out.size; omega)
          exact ⟨_, rfl, _, _, n1, n2, hB.out.alloc hB.out.size _⟩
    · go_simp
      have kA : Hid (MpIs (W1.alloc (.map #[] 0)) W1.heap.size (.bool false) [] (fun _ => .bool false)) := hide (mp_new _ (World.ownsMap_made _ _ _ _))
      have hb0 : Below W1.heap.size W1 (W1.alloc (.map #[] 0)) := (Below.refl _ _).alloc (Nat.le_refl _) _
      obtain ⟨am, ham⟩ : ∃ am, W1.heap.size = am := ⟨_, rfl⟩
      obtain ⟨W2, ew⟩ : ∃ W, W1.alloc (.map #[] 0) = W := ⟨_, rfl⟩
      rw [ew] at kA hb0
      rw [ham] at kA ⊢
      rw [ew]
      have bA : W1.heap.size ≤ am ∧ am < W2.heap.size := ⟨by omega, kA.out.lt⟩
      clear ew ham
      have z1 := hb0.size
      have hBz : Hid (Below w.heap.size w W2) := hide (hB.out.trans (hb0.mono hB.out.size))
      replace hB := hBz
      clear hBz
      replace kc0 := (hb0.block _ hkl).trans kc0
      replace hkl := Nat.lt_of_lt_of_le hkl hb0.size
      replace kC := hide (kC.out.below hb0)
      clear hb0
      refine hK.out _ _ ?_ fun hHeld => ?_
      · exact cf_at kc0
      clear hK K
      try simp only [Act.put, za, zb, zc]
      refine hTwo 7 14 (fun K hK => ?_) fun K hK => ?_
      · go_simp
        go_at_call 70
        refine (tNew_c _).mono ?_
        rintro e W3 ⟨tc, rfl, tt, to0, htb, ht1, ht2, ht3, hb0⟩
        have bT : W2.heap.size ≤ tc ∧ W2.heap.size ≤ tt ∧ W2.heap.size ≤ to0 ∧ tc < W3.heap.size ∧ tt < W3.heap.size ∧ to0 < W3.heap.size := ⟨ht1, ht2, ht3, htb.lt, htb.tl, htb.ol⟩
        have kT := hide htb
        clear htb ht1 ht2 ht3
        have z2 := hb0.size
        have hBz : Hid (Below w.heap.size w W3) := hide (hB.out.trans (hb0.mono hB.out.size))
        replace hB := hBz
        clear hBz
        replace kc0 := (hb0.block _ hkl).trans kc0
        replace hkl := Nat.lt_of_lt_of_le hkl hb0.size
        replace kC := hide (kC.out.below hb0)
        replace kA := hide (kA.out.carry (hb0.block _ kA.out.lt))
        clear hb0
        refine hK.out _ _ ?_ fun hHeld => ?_
        · exact cf_at kc0
        clear hK K
        try simp only [Act.put, za, zb, zc]
        refine hTwo 12 14 (fun K hK => ?_) fun K hK => ?_
        · go_simp
          go_at_call 71
          refine (pNew_c c.cu c.ct _ (by have := ok.u1; omega) (by have := ok.r1; omega)).mono ?_
          rintro e W4 ⟨pr, rfl, hpr, hp1, hb0⟩
          have bP : W3.heap.size ≤ pr ∧ pr < W4.heap.size := ⟨hp1, hpr.lt⟩
          have kP := hide hpr
          clear hpr hp1
          have z3 := hb0.size
          have hBz : Hid (Below w.heap.size w W4) := hide (hB.out.trans (hb0.mono hB.out.size))
          replace hB := hBz
          clear hBz
          replace kc0 := (hb0.block _ hkl).trans kc0
          replace hkl := Nat.lt_of_lt_of_le hkl hb0.size
          replace kC := hide (kC.out.below hb0)
          replace kA := hide (kA.out.carry (hb0.block _ kA.out.lt))
          replace kT := hide (kT.out.below hb0)
          clear hb0
          refine hK.out _ _ ?_ fun hHeld => ?_
          · exact cf_at kc0
          clear hK K
          try simp only [Act.put, za, zb, zc]
          refine hNo 14 fun K hK => ?_
          go_simp
          have kM : Hid (MpIs (W4.alloc (.map #[] 0)) W4.heap.size (.int .i64 0) [] (fun _ => .int .i64 0)) := hide (mp_new _ (World.ownsMap_made _ _ _ _))
          have hb0 : Below W4.heap.size W4 (W4.alloc (.map #[] 0)) := (Below.refl _ _).alloc (Nat.le_refl _) _
          obtain ⟨tm, htm⟩ : ∃ tm, W4.heap.size = tm := ⟨_, rfl⟩
          obtain ⟨W5, ew⟩ : ∃ W, W4.alloc (.map #[] 0) = W := ⟨_, rfl⟩
          rw [ew] at kM hb0
          rw [htm] at kM ⊢
          rw [ew]
          have bM : W4.heap.size ≤ tm ∧ tm < W5.heap.size := ⟨by omega, kM.out.lt⟩
          clear ew htm
          have z4 := hb0.size
          have hBz : Hid (Below w.heap.size w W5) := hide (hB.out.trans (hb0.mono hB.out.size))
          replace hB := hBz
          clear hBz
          replace kc0 := (hb0.block _ hkl).trans kc0
          replace hkl := Nat.lt_of_lt_of_le hkl hb0.size
          replace kC := hide (kC.out.below hb0)
          replace kA := hide (kA.out.carry (hb0.block _ kA.out.lt))
          replace kT := hide (kT.out.below hb0)
          replace kP := hide (kP.out.below hb0)
          clear hb0
          refine hK.out _ _ ?_ fun hHeld => ?_
          · exact cf_at kc0
          clear hK K
          try simp only [Act.put, za, zb, zc]
          refine hTk 15 32 hHeld ?_
          clear hHeld
          refine hNo 16 fun K hK => ?_
          go_simp
          refine hK.out _ _ ?_ fun hHeld => ?_
          · exact cf_at ((Below.heap_alloc _ _ _ hkl).trans kc0)
          clear hK K
          try simp only [Act.put, za, zb, zc]
          refine hTk 17 4 hHeld ?_
          refine hTk 18 5 hHeld ?_
          refine wpAnyH_done (by kernel_rfl) (NoPanic.normal ?_) _
          clear hHeld
          go_wp2_with fail
          go_ret2
          obtain ⟨n1, n2⟩ := nd_make ok kC.out bC kT.out bT kP.out bP kA.out bA kM.out bM (by omega) (by omega) (s := w.heap.size) (by have := hB.out.size; omega)
          exact ⟨_, rfl, _, _, n1, n2, hB.out.alloc hB.out.size _⟩
        · go_simp
          have kM : Hid (MpIs (W3.alloc (.map #[] 0)) W3.heap.size (.int .i64 0) [] (fun _ => .int .i64 0)) := hide (mp_new _ (World.ownsMap_made _ _ _ _))
          have hb0 : Below W3.heap.size W3 (W3.alloc (.map #[] 0)) := (Below.refl _ _).alloc (Nat.le_refl _) _
          obtain ⟨tm, htm⟩ : ∃ tm, W3.heap.size = tm := ⟨_, rfl⟩
          obtain ⟨W4, ew⟩ : ∃ W, W3.alloc (.map #[] 0) = W := ⟨_, rfl⟩
          rw [ew] at kM hb0
          rw [htm] at kM ⊢
          rw [ew]
          have bM : W3.heap.size ≤ tm ∧ tm < W4.heap.size := ⟨by omega, kM.out.lt⟩
          clear ew htm
          have z3 := hb0.size
          have hBz : Hid (Below w.heap.size w W4) := hide (hB.out.trans (hb0.mono hB.out.size))
          replace hB := hBz
          clear hBz
          replace kc0 := (hb0.block _ hkl).trans kc0
          replace hkl := Nat.lt_of_lt_of_le hkl hb0.size
          replace kC := hide (kC.out.below hb0)
          replace kA := hide (kA.out.carry (hb0.block _ kA.out.lt))
          replace kT := hide (kT.out.below hb0)
          clear hb0
          refine hK.out _ _ ?_ fun hHeld => ?_
          · exact cf_at kc0
          clear hK K
          try simp only [Act.put, za, zb, zc]
          refine hNo 12 fun K hK => ?_
          go_simp
          go_at_call 71
          refine (pNew_c c.cu c.ct _ (by have := ok.u1; omega) (by have := ok.r1; omega)).mono ?_
          rintro e W5 ⟨pr, rfl, hpr, hp1, hb0⟩
          have bP : W4.heap.size ≤ pr ∧ pr < W5.heap.size := ⟨hp1, hpr.lt⟩
          have kP := hide hpr
          clear hpr hp1
          have z4 := hb0.size
          have hBz : Hid (Below w.heap.size w W5) := hide (hB.out.trans (hb0.mono hB.out.size))
          replace hB := hBz
          clear hBz
          replace kc0 := (hb0.block _ hkl).trans kc0
          replace hkl := Nat.lt_of_lt_of_le hkl hb0.size
          replace kC := hide (kC.out.below hb0)
          replace kA := hide (kA.out.carry (hb0.block _ kA.out.lt))
          replace kT := hide (kT.out.below hb0)
          replace kM := hide (kM.out.carry (hb0.block _ kM.out.lt))
          clear hb0
          refine hK.out _ _ ?_ fun hHeld => ?_
          · exact cf_at kc0
          clear hK K
          try simp only [Act.put, za, zb, zc]
          refine hTk 15 32 hHeld ?_
          clear hHeld
          refine hNo 16 fun K hK => ?_
          go_simp
          refine hK.out _ _ ?_ fun hHeld => ?_
          · exact cf_at ((Below.heap_alloc _ _ _ hkl).trans kc0)
          clear hK K
          try simp only [Act.put, za, zb, zc]
          refine hTk 17 4 hHeld ?_
          refine hTk 18 5 hHeld ?_
          refine wpAnyH_done (by kernel_rfl) (NoPanic.normal ?_) _
          clear hHeld
          go_wp2_with fail
          go_ret2
          obtain ⟨n1, n2⟩ := nd_make ok kC.out bC kT.out bT kP.out bP kA.out bA kM.out bM (by omega) (by omega) (s := w.heap.size) (by have := hB.out.size; omega)
          exact ⟨_, rfl, _, _, n1, n2, hB.out.alloc hB.out.size _⟩
      · go_simp
        have kM : Hid (MpIs (W2.alloc (.map #[] 0)) W2.heap.size (.int .i64 0) [] (fun _ => .int .i64 0)) := hide (mp_new _ (World.ownsMap_made _ _ _ _))
        have hb0 : Below W2.heap.size W2 (W2.alloc (.map #[] 0)) := (Below.refl _ _).alloc (Nat.le_refl _) _
        obtain ⟨tm, htm⟩ : ∃ tm, W2.heap.size = tm := ⟨_, rfl⟩
        obtain ⟨W3, ew⟩ : ∃ W, W2.alloc (.map #[] 0) = W := ⟨_, rfl⟩
        rw [ew] at kM hb0
        rw [htm] at kM ⊢
        rw [ew]
        have bM : W2.heap.size ≤ tm ∧ tm < W3.heap.size := ⟨by omega, kM.out.lt⟩
        clear ew htm
        have z2 := hb0.size
        have hBz : Hid (Below w.heap.size w W3) := hide (hB.out.trans (hb0.mono hB.out.size))
        replace hB := hBz
        clear hBz
        replace kc0 := (hb0.block _ hkl).trans kc0
        replace hkl := Nat.lt_of_lt_of_le hkl hb0.size
        replace kC := hide (kC.out.below hb0)
        replace kA := hide (kA.out.carry (hb0.block _ kA.out.lt))
        clear hb0
        refine hK.out _ _ ?_ fun hHeld => ?_
        · exact cf_at kc0
        clear hK K
        try simp only [Act.put, za, zb, zc]
        refine hNo 7 fun K hK => ?_
        go_simp
        go_at_call 70
        refine (tNew_c _).mono ?_
        rintro e W4 ⟨tc, rfl, tt, to0, htb, ht1, ht2, ht3, hb0⟩
        have bT : W3.heap.size ≤ tc ∧ W3.heap.size ≤ tt ∧ W3.heap.size ≤ to0 ∧ tc < W4.heap.size ∧ tt < W4.heap.size ∧ to0 < W4.heap.size := ⟨ht1, ht2, ht3, htb.lt, htb.tl, htb.ol⟩
        have kT := hide htb
        clear htb ht1 ht2 ht3
        have z3 := hb0.size
        have hBz : Hid (Below w.heap.size w W4) := hide (hB.out.trans (hb0.mono hB.out.size))
        replace hB := hBz
        clear hBz
        replace kc0 := (hb0.block _ hkl).trans kc0
        replace hkl := Nat.lt_of_lt_of_le hkl hb0.size
        replace kC := hide (kC.out.below hb0)
        replace kA := hide (kA.out.carry (hb0.block _ kA.out.lt))
        replace kM := hide (kM.out.carry (hb0.block _ kM.out.lt))
        clear hb0
        refine hK.out _ _ ?_ fun hHeld => ?_
        · exact cf_at kc0
        clear hK K
        try simp only [Act.put, za, zb, zc]
        refine hNo 12 fun K hK => ?_
        go_simp
        go_at_call 71
        refine (pNew_c c.cu c.ct _ (by have := ok.u1; omega) (by have := ok.r1; omega)).mono ?_
        rintro e W5 ⟨pr, rfl, hpr, hp1, hb0⟩
        have bP : W4.heap.size ≤ pr ∧ pr < W5.heap.size := ⟨hp1, hpr.lt⟩
        have kP := hide hpr
        clear hpr hp1
        have z4 := hb0.size
        have hBz : Hid (Below w.heap.size w W5) := hide (hB.out.trans (hb0.mono hB.out.size))
        replace hB := hBz
        clear hBz
        replace kc0 := (hb0.block _ hkl).trans kc0
        replace hkl := Nat.lt_of_lt_of_le hkl hb0.size
        replace kC := hide (kC.out.below hb0)
        replace kA := hide (kA.out.carry (hb0.block _ kA.out.lt))
        replace kM := hide (kM.out.carry (hb0.block _ kM.out.lt))
        replace kT := hide (kT.out.below hb0)
        clear hb0
        refine hK.out _ _ ?_ fun hHeld => ?_
        · exact cf_at kc0
        clear hK K
        try simp only [Act.put, za, zb, zc]
        refine hTk 15 32 hHeld ?_
        clear hHeld
        refine hNo 16 fun K hK => ?_
        go_simp
        refine hK.out _ _ ?_ fun hHeld => ?_
        · exact cf_at ((Below.heap_alloc _ _ _ hkl).trans kc0)
        clear hK K
        try simp only [Act.put, za, zb, zc]
        refine hTk 17 4 hHeld ?_
        refine hTk 18 5 hHeld ?_
        refine wpAnyH_done (by kernel_rfl) (NoPanic.normal ?_) _
        clear hHeld
        go_wp2_with fail
        go_ret2
        obtain ⟨n1, n2⟩ := nd_make ok kC.out bC kT.out bT kP.out bP kA.out bA kM.out bM (by omega) (by omega) (s := w.heap.size) (by have := hB.out.size; omega)
        exact ⟨_, rfl, _, _, n1, n2, hB.out.alloc hB.out.size _⟩
    · go_simp
      have kM : Hid (MpIs (W1.alloc (.map #[] 0)) W1.heap.size (.int .i64 0) [] (fun _ => .int .i64 0)) := hide (mp_new _ (World.ownsMap_made _ _ _ _))
      have hb0 : Below W1.heap.size W1 (W1.alloc (.map #[] 0)) := (Below.refl _ _).alloc (Nat.le_refl _) _
      obtain ⟨tm, htm⟩ : ∃ tm, W1.heap.size = tm := ⟨_, rfl⟩
      obtain ⟨W2, ew⟩ : ∃ W, W1.alloc (.map #[] 0) = W := ⟨_, rfl⟩
      rw [ew] at kM hb0
      rw [htm] at kM ⊢
      rw [ew]
      have bM : W1.heap.size ≤ tm ∧ tm < W2.heap.size := ⟨by omega, kM.out.lt⟩
      clear ew htm
      have z1 := hb0.size
      have hBz : Hid (Below w.heap.size w W2) := hide (hB.out.trans (hb0.mono hB.out.size))
      replace hB := hBz
      clear hBz
      replace kc0 := (hb0.block _ hkl).trans kc0
      replace hkl := Nat.lt_of_lt_of_le hkl hb0.size
      replace kC := hide (kC.out.below hb0)
      clear hb0
      refine hK.out _ _ ?_ fun hHeld => ?_
      · exact cf_at kc0
      clear hK K
      try simp only [Act.put, za, zb, zc]
      refine hTwo 7 13 (fun K hK => ?_) fun K hK => ?_
      · go_simp
        go_at_call 70
        refine (tNew_c _).mono ?_
        rintro e W3 ⟨tc, rfl, tt, to0, htb, ht1, ht2, ht3, hb0⟩
        have bT : W2.heap.size ≤ tc ∧ W2.heap.size ≤ tt ∧ W2.heap.size ≤ to0 ∧ tc < W3.heap.size ∧ tt < W3.heap.size ∧ to0 < W3.heap.size := ⟨ht1, ht2, ht3, htb.lt, htb.tl, htb.ol⟩
        have kT := hide htb
        clear htb ht1 ht2 ht3
        have z2 := hb0.size
        have hBz : Hid (Below w.heap.size w W3) := hide (hB.out.trans (hb0.mono hB.out.size))
        replace hB := hBz
        clear hBz
        replace kc0 := (hb0.block _ hkl).trans kc0
        replace hkl := Nat.lt_of_lt_of_le hkl hb0.size
        replace kC := hide (kC.out.below hb0)
        replace kM := hide (kM.out.carry (hb0.block _ kM.out.lt))
        clear hb0
        refine hK.out _ _ ?_ fun hHeld => ?_
        · exact cf_at kc0
        clear hK K
        try simp only [Act.put, za, zb, zc]
        refine hTwo 12 13 (fun K hK => ?_) fun K hK => ?_
        · go_simp
          go_at_call 71
          refine (pNew_c c.cu c.ct _ (by have := ok.u1; omega) (by have := ok.r1; omega)).mono ?_
          rintro e W4 ⟨pr, rfl, hpr, hp1, hb0⟩
          have bP : W3.heap.size ≤ pr ∧ pr < W4.heap.size := ⟨hp1, hpr.lt⟩
          have kP := hide hpr
          clear hpr hp1
          have z3 := hb0.size
          have hBz : Hid (Below w.heap.size w W4) := hide (hB.out.trans (hb0.mono hB.out.size))
          replace hB := hBz
          clear hBz
          replace kc0 := (hb0.block _ hkl).trans kc0
          replace hkl := Nat.lt_of_lt_of_le hkl hb0.size
          replace kC := hide (kC.out.below hb0)
          replace kM := hide (kM.out.carry (hb0.block _ kM.out.lt))
          replace kT := hide (kT.out.below hb0)
          clear hb0
          refine hK.out _ _ ?_ fun hHeld => ?_
          · exact cf_at kc0
          clear hK K
          try simp only [Act.put, za, zb, zc]
          refine hNo 13 fun K hK => ?_
          go_simp
          have kA : Hid (MpIs (W4.alloc (.map #[] 0)) W4.heap.size (.bool false) [] (fun _ => .bool false)) := hide (mp_new _ (World.ownsMap_made _ _ _ _))
          have hb0 : Below W4.heap.size W4 (W4.alloc (.map #[] 0)) := (Below.refl _ _).alloc (Nat.le_refl _) _
          obtain ⟨am, ham⟩ : ∃ am, W4.heap.size = am := ⟨_, rfl⟩
          obtain ⟨W5, ew⟩ : ∃ W, W4.alloc (.map #[] 0) = W := ⟨_, rfl⟩
          rw [ew] at kA hb0
          rw [ham] at kA ⊢
          rw [ew]
          have bA : W4.heap.size ≤ am ∧ am < W5.heap.size := ⟨by omega, kA.out.lt⟩
          clear ew ham
          have z4 := hb0.size
          have hBz : Hid (Below w.heap.size w W5) := hide (hB.out.trans (hb0.mono hB.out.size))
          replace hB := hBz
          clear hBz
          replace kc0 := (hb0.block _ hkl).trans kc0
          replace hkl := Nat.lt_of_lt_of_le hkl hb0.size
          replace kC := hide (kC.out.below hb0)
          replace kM := hide (kM.out.carry (hb0.block _ kM.out.lt))
          replace kT := hide (kT.out.below hb0)
          replace kP := hide (kP.out.below hb0)
          clear hb0
          refine hK.out _ _ ?_ fun hHeld => ?_
          · exact cf_at kc0
          clear hK K
          try simp only [Act.put, za, zb, zc]
          refine hTk 15 32 hHeld ?_
          clear hHeld
          refine hNo 16 fun K hK => ?_
          go_simp
          refine hK.out _ _ ?_ fun hHeld => ?_
          · exact cf_at ((Below.heap_alloc _ _ _ hkl).trans kc0)
          clear hK K
          try simp only [Act.put, za, zb, zc]
          refine hTk 17 4 hHeld ?_
          refine hTk 18 5 hHeld ?_
          refine wpAnyH_done (by kernel_rfl) (NoPanic.normal ?_) _
          clear hHeld
          go_wp2_with fail
          go_ret2
          obtain ⟨n1, n2⟩ := nd_make ok kC.out bC kT.out bT kP.out bP kA.out bA kM.out bM (by omega) (by omega) (s := w.heap.size) (by have := hB.out.size; omega)
          exact ⟨_, rfl, _, _, n1, n2, hB.out.alloc hB.out.size _⟩
        · go_simp
          have kA : Hid (MpIs (W3.alloc (.map #[] 0)) W3.heap.size (.bool false) [] (fun _ => .bool false)) := hide (mp_new _ (World.ownsMap_made _ _ _ _))
          have hb0 : Below W3.heap.size W3 (W3.alloc (.map #[] 0)) := (Below.refl _ _).alloc (Nat.le_refl _) _
          obtain ⟨am, ham⟩ : ∃ am, W3.heap.size = am := ⟨_, rfl⟩
          obtain ⟨W4, ew⟩ : ∃ W, W3.alloc (.map #[] 0) = W := ⟨_, rfl⟩
          rw [ew] at kA hb0
          rw [ham] at kA ⊢
          rw [ew]
          have bA : W3.heap.size ≤ am ∧ am < W4.heap.size := ⟨by omega, kA.out.lt⟩
          clear ew ham
          have z3 := hb0.size
          have hBz : Hid (Below w.heap.size w W4) := hide (hB.out.trans (hb0.mono hB.out.size))
          replace hB := hBz
          clear hBz
          replace kc0 := (hb0.block _ hkl).trans kc0
          replace hkl := Nat.lt_of_lt_of_le hkl hb0.size
          replace kC := hide (kC.out.below hb0)
          replace kM := hide (kM.out.carry (hb0.block _ kM.out.lt))
          replace kT := hide (kT.out.below hb0)
          clear hb0
          refine hK.out _ _ ?_ fun hHeld => ?_
          · exact cf_at kc0
          clear hK K
          try simp only [Act.put, za, zb, zc]
          refine hNo 12 fun K hK => ?_
          go_simp
          go_at_call 71
          refine (pNew_c c.cu c.ct _ (by have := ok.u1; omega) (by have := ok.r1; omega)).mono ?_
          rintro e W5 ⟨pr, rfl, hpr, hp1, hb0⟩
          have bP : W4.heap.size ≤ pr ∧ pr < W5.heap.size := ⟨hp1, hpr.lt⟩
          have kP := hide hpr
          clear hpr hp1
          have z4 := hb0.size
          have hBz : Hid (Below w.heap.size w W5) := hide (hB.out.trans (hb0.mono hB.out.size))
          replace hB := hBz
          clear hBz
          replace kc0 := (hb0.block _ hkl).trans kc0
          replace hkl := Nat.lt_of_lt_of_le hkl hb0.size
          replace kC := hide (kC.out.below hb0)
          replace kM := hide (kM.out.carry (hb0.block _ kM.out.lt))
          replace kT := hide (kT.out.below hb0)
          replace kA := hide (kA.out.carry (hb0.block _ kA.out.lt))
          clear hb0
          refine hK.out _ _ ?_ fun hHeld => ?_
          · exact cf_at kc0
          clear hK K
          try simp only [Act.put, za, zb, zc]
          refine hTk 15 32 hHeld ?_
          clear hHeld
          refine hNo 16 fun K hK => ?_
          go_simp
          refine hK.out _ _ ?_ fun hHeld => ?_
          · exact cf_at ((Below.heap_alloc _ _ _ hkl).trans kc0)
          clear hK K
          try simp only [Act.put, za, zb, zc]
          refine hTk 17 4 hHeld ?_
          refine hTk 18 5 hHeld ?_
          refine wpAnyH_done (by kernel_rfl) (NoPanic.normal ?_) _
          clear hHeld
          go_wp2_with fail
          go_ret2
          obtain ⟨n1, n2⟩ := nd_make ok kC.out bC kT.out bT kP.out bP kA.out bA kM.out bM (by omega) (by omega) (s := w.heap.size) (by have := hB.out.size; omega)
          exact ⟨_, rfl, _, _, n1, n2, hB.out.alloc hB.out.size _⟩
      · go_simp
        have kA : Hid (MpIs (W2.alloc (.map #[] 0)) W2.heap.size (.bool false) [] (fun _ => .bool false)) := hide (mp_new _ (World.ownsMap_made _ _ _ _))
        have hb0 : Below W2.heap.size W2 (W2.alloc (.map #[] 0)) := (Below.refl _ _).alloc (Nat.le_refl _) _
        obtain ⟨am, ham⟩ : ∃ am, W2.heap.size = am := ⟨_, rfl⟩
        obtain ⟨W3, ew⟩ : ∃ W, W2.alloc (.map #[] 0) = W := ⟨_, rfl⟩
        rw [ew] at kA hb0
        rw [ham] at kA ⊢
        rw [ew]
        have bA : W2.heap.size ≤ am ∧ am < W3.heap.size := ⟨by omega, kA.out.lt⟩
        clear ew ham
        have z2 := hb0.size
        have hBz : Hid (Below w.heap.size w W3) := hide (hB.out.trans (hb0.mono hB.out.size))
        replace hB := hBz
        clear hBz
        replace kc0 := (hb0.block _ hkl).trans kc0
        replace hkl := Nat.lt_of_lt_of_le hkl hb0.size
        replace kC := hide (kC.out.below hb0)
        replace kM := hide (kM.out.carry (hb0.block _ kM.out.lt))
        clear hb0
        refine hK.out _ _ ?_ fun hHeld => ?_
        · exact cf_at kc0
        clear hK K
        try simp only [Act.put, za, zb, zc]
        refine hNo 7 fun K hK => ?_
        go_simp
        go_at_call 70
        refine (tNew_c _).mono ?_
        rintro e W4 ⟨tc, rfl, tt, to0, htb, ht1, ht2, ht3, hb0⟩
        have bT : W3.heap.size ≤ tc ∧ W3.heap.size ≤ tt ∧ W3.heap.size ≤ to0 ∧ tc < W4.heap.size ∧ tt < W4.heap.size ∧ to0 < W4.heap.size := ⟨ht1, ht2, ht3, htb.lt, htb.tl, htb.ol⟩
        have kT := hide htb
        clear htb ht1 ht2 ht3
        have z3 := hb0.size
        have hBz : Hid (Below w.heap.size w W4) := hide (hB.out.trans (hb0.mono hB.out.size))
        replace hB := hBz
        clear hBz
        replace kc0 := (hb0.block _ hkl).trans kc0
        replace hkl := Nat.lt_of_lt_of_le hkl hb0.size
        replace kC := hide (kC.out.below hb0)
        replace kM := hide (kM.out.carry (hb0.block _ kM.out.lt))
        replace kA := hide (kA.out.carry (hb0.block _ kA.out.lt))
        clear hb0
        refine hK.out _ _ ?_ fun hHeld => ?_
        · exact cf_at kc0
        clear hK K
        try simp only [Act.put, za, zb, zc]
        refine hNo 12 fun K hK => ?_
        go_simp
        go_at_call 71
        refine (pNew_c c.cu c.ct _ (by have := ok.u1; omega) (by have := ok.r1; omega)).mono ?_
        rintro e W5 ⟨pr, rfl, hpr, hp1, hb0⟩
        have bP : W4.heap.size ≤ pr ∧ pr < W5.heap.size := ⟨hp1, hpr.lt⟩
        have kP := hide hpr
        clear hpr hp1
        have z4 := hb0.size
        have hBz : Hid (Below w.heap.size w W5) := hide (hB.out.trans (hb0.mono hB.out.size))
        replace hB := hBz
        clear hBz
        replace kc0 := (hb0.block _ hkl).trans kc0
        replace hkl := Nat.lt_of_lt_of_le hkl hb0.size
        replace kC := hide (kC.out.below hb0)
        replace kM := hide (kM.out.carry (hb0.block _ kM.out.lt))
        replace kA := hide (kA.out.carry (hb0.block _ kA.out.lt))
        replace kT := hide (kT.out.below hb0)
        clear hb0
        refine hK.out _ _ ?_ fun hHeld => ?_
        · exact cf_at kc0
        clear hK K
        try simp only [Act.put, za, zb, zc]
        refine hTk 15 32 hHeld ?_
        clear hHeld
        refine hNo 16 fun K hK => ?_
        go_simp
        refine hK.out _ _ ?_ fun hHeld => ?_
        · exact cf_at ((Below.heap_alloc _ _ _ hkl).trans kc0)
        clear hK K
        try simp only [Act.put, za, zb, zc]
        refine hTk 17 4 hHeld ?_
        refine hTk 18 5 hHeld ?_
        refine wpAnyH_done (by kernel_rfl) (NoPanic.normal ?_) _
        clear hHeld
        go_wp2_with fail
        go_ret2
        obtain ⟨n1, n2⟩ := nd_make ok kC.out bC kT.out bT kP.out bP kA.out bA kM.out bM (by omega) (by omega) (s := w.heap.size) (by have := hB.out.size; omega)
        exact ⟨_, rfl, _, _, n1, n2, hB.out.alloc hB.out.size _⟩
  · go_simp
    have kA : Hid (MpIs (W0.alloc (.map #[] 0)) W0.heap.size (.bool false) [] (fun _ => .bool false)) := hide (mp_new _ (World.ownsMap_made _ _ _ _))
    have hb0 : Below W0.heap.size W0 (W0.alloc (.map #[] 0)) := (Below.refl _ _).alloc (Nat.le_refl _) _
    obtain ⟨am, ham⟩ : ∃ am, W0.heap.size = am := ⟨_, rfl⟩
    obtain ⟨W1, ew⟩ : ∃ W, W0.alloc (.map #[] 0) = W := ⟨_, rfl⟩
    rw [ew] at kA hb0
    rw [ham] at kA ⊢
    rw [ew]
    have bA : W0.heap.size ≤ am ∧ am < W1.heap.size := ⟨by omega, kA.out.lt⟩
    clear ew ham
    have z0 := hb0.size
    have hBz : Hid (Below w.heap.size w W1) := hide (hB.out.trans (hb0.mono hB.out.size))
    replace hB := hBz
    clear hBz
    replace kc0 := (hb0.block _ hkl).trans kc0
    replace hkl := Nat.lt_of_lt_of_le hkl hb0.size
    clear hb0
    refine hK.out _ _ ?_ fun hHeld => ?_
    · exact cf_at kc0
    clear hK K
    try simp only [Act.put, za, zb, zc]
    refine hTwo 6 14 (fun K hK => ?_) fun K hK => ?_
    · go_simp
      go_at_call 69
      refine (cNew_c c.cs c.cy _).mono ?_
      rintro e W2 ⟨ca, Fc, rfl, hca, hb0, hF0⟩
      rw [hcs.out, hcy.out] at hca
      have bC : ∀ b, Fc b → W1.heap.size ≤ b ∧ b < W2.heap.size := fun b hb => ⟨hF0 b hb, hca.lt b hb⟩
      have kC := hide hca
      clear hca hF0
      have z1 := hb0.size
      have hBz : Hid (Below w.heap.size w W2) := hide (hB.out.trans (hb0.mono hB.out.size))
      replace hB := hBz
      clear hBz
      replace kc0 := (hb0.block _ hkl).trans kc0
      replace hkl := Nat.lt_of_lt_of_le hkl hb0.size
      replace kA := hide (kA.out.carry (hb0.block _ kA.out.lt))
      clear hb0
      refine hK.out _ _ ?_ fun hHeld => ?_
      · exact cf_at kc0
      clear hK K
      try simp only [Act.put, za, zb, zc]
      refine hTwo 7 14 (fun K hK => ?_) fun K hK => ?_
      · go_simp
        go_at_call 70
        refine (tNew_c _).mono ?_
        rintro e W3 ⟨tc, rfl, tt, to0, htb, ht1, ht2, ht3, hb0⟩
        have bT : W2.heap.size ≤ tc ∧ W2.heap.size ≤ tt ∧ W2.heap.size ≤ to0 ∧ tc < W3.heap.size ∧ tt < W3.heap.size ∧ to0 < W3.heap.size := ⟨ht1, ht2, ht3, htb.lt, htb.tl, htb.ol⟩
        have kT := hide htb
        clear htb ht1 ht2 ht3
        have z2 := hb0.size
        have hBz : Hid (Below w.heap.size w W3) := hide (hB.out.trans (hb0.mono hB.out.size))
        replace hB := hBz
        clear hBz
        replace kc0 := (hb0.block _ hkl).trans kc0
        replace hkl := Nat.lt_of_lt_of_le hkl hb0.size
        replace kA := hide (kA.out.carry (hb0.block _ kA.out.lt))
        replace kC := hide (kC.out.below hb0)
        clear hb0
        refine hK.out _ _ ?_ fun hHeld => ?_
        · exact cf_at kc0
        clear hK K
        try simp only [Act.put, za, zb, zc]
        refine hTwo 12 14 (fun K hK => ?_) fun K hK => ?_
        · go_simp
          go_at_call 71
          refine (pNew_c c.cu c.ct _ (by have := ok.u1; omega) (by have := ok.r1; omega)).mono ?_
          rintro e W4 ⟨pr, rfl, hpr, hp1, hb0⟩
          have bP : W3.heap.size ≤ pr ∧ pr < W4.heap.size := ⟨hp1, hpr.lt⟩
          have kP := hide hpr
          clear hpr hp1
          have z3 := hb0.size
          have hBz : Hid (Below w.heap.size w W4) := hide (hB.out.trans (hb0.mono hB.out.size))
          replace hB := hBz
          clear hBz
          replace kc0 := (hb0.block _ hkl).trans kc0
          replace hkl := Nat.lt_of_lt_of_le hkl hb0.size
          replace kA := hide (kA.out.carry (hb0.block _ kA.out.lt))
          replace kC := hide (kC.out.below hb0)
          replace kT := hide (kT.out.below hb0)
          clear hb0
          refine hK.out _ _ ?_ fun hHeld => ?_
          · exact cf_at kc0
          clear hK K
          try simp only [Act.put, za, zb, zc]
          refine hNo 14 fun K hK => ?_
          go_simp
          have kM : Hid (MpIs (W4.alloc (.map #[] 0)) W4.heap.size (.int .i64 0) [] (fun _ => .int .i64 0)) := hide (mp_new _ (World.ownsMap_made _ _ _ _))
          have hb0 : Below W4.heap.size W4 (W4.alloc (.map #[] 0)) := (Below.refl _ _).alloc (Nat.le_refl _) _
          obtain ⟨tm, htm⟩ : ∃ tm, W4.heap.size = tm := ⟨_, rfl⟩
          obtain ⟨W5, ew⟩ : ∃ W, W4.alloc (.map #[] 0) = W := ⟨_, rfl⟩
          rw [ew] at kM hb0
          rw [htm] at kM ⊢
          rw [ew]
          have bM : W4.heap.size ≤ tm ∧ tm < W5.heap.size := ⟨by omega, kM.out.lt⟩
          clear ew htm
          have z4 := hb0.size
          have hBz : Hid (Below w.heap.size w W5) := hide (hB.out.trans (hb0.mono hB.out.size))
          replace hB := hBz
          clear hBz
          replace kc0 := (hb0.block _ hkl).trans kc0
          replace hkl := Nat.lt_of_lt_of_le hkl hb0.size
          replace kA := hide (kA.out.carry (hb0.block _ kA.out.lt))
          replace kC := hide (kC.out.below hb0)
          replace kT := hide (kT.out.below hb0)
          replace kP := hide (kP.out.below hb0)
          clear hb0
          refine hK.out _ _ ?_ fun hHeld => ?_
          · exact cf_at kc0
          clear hK K
          try simp only [Act.put, za, zb, zc]
          refine hTk 15 32 hHeld ?_
          clear hHeld
          refine hNo 16 fun K hK => ?_
          go_simp
          refine hK.out _ _ ?_ fun hHeld => ?_
          · exact cf_at ((Below.heap_alloc _ _ _ hkl).trans kc0)
          clear hK K
          try simp only [Act.put, za, zb, zc]
          refine hTk 17 4 hHeld ?_
          refine hTk 18 5 hHeld ?_
          refine wpAnyH_done (by kernel_rfl) (NoPanic.normal ?_) _
          clear hHeld
          go_wp2_with fail
          go_ret2
          obtain ⟨n1, n2⟩ := nd_make ok kC.out bC kT.out bT kP.out bP kA.out bA kM.out bM (by omega) (by omega) (s := w.heap.size) (by have := hB.out.size; omega)
          exact ⟨_, rfl, _, _, n1, n2, hB.out.alloc hB.out.size _⟩
        · go_simp
          have kM : Hid (MpIs (W3.alloc (.map #[] 0)) W3.heap.size (.int .i64 0) [] (fun _ => .int .i64 0)) := hide (mp_new _ (World.ownsMap_made _ _ _ _))
          have hb0 : Below W3.heap.size W3 (W3.alloc (.map #[] 0)) := (Below.refl _ _).alloc (Nat.le_refl _) _
          obtain ⟨tm, htm⟩ : ∃ tm, W3.heap.size = tm := ⟨_, rfl⟩
          obtain ⟨W4, ew⟩ : ∃ W, W3.alloc (.map #[] 0) = W := ⟨_, rfl⟩
          rw [ew] at kM hb0
          rw [htm] at kM ⊢
          rw [ew]
          have bM : W3.heap.size ≤ tm ∧ tm < W4.heap.size := ⟨by omega, kM.out.lt⟩
          clear ew htm
          have z3 := hb0.size
          have hBz : Hid (Below w.heap.size w W4) := hide (hB.out.trans (hb0.mono hB.out.size))
          replace hB := hBz
          clear hBz
          replace kc0 := (hb0.block _ hkl).trans kc0
          replace hkl := Nat.lt_of_lt_of_le hkl hb0.size
          replace kA := hide (kA.out.carry (hb0.block _ kA.out.lt))
          replace kC := hide (kC.out.below hb0)
          replace kT := hide (kT.out.below hb0)
          clear hb0
          refine hK.out _ _ ?_ fun hHeld => ?_
          · exact cf_at kc0
          clear hK K
          try simp only [Act.put, za, zb, zc]
          refine hNo 12 fun K hK => ?_
          go_simp
          go_at_call 71
          refine (pNew_c c.cu c.ct _ (by have := ok.u1; omega) (by have := ok.r1; omega)).mono ?_
          rintro e W5 ⟨pr, rfl, hpr, hp1, hb0⟩
          have bP : W4.heap.size ≤ pr ∧ pr < W5.heap.size := ⟨hp1, hpr.lt⟩
          have kP := hide hpr
          clear hpr hp1
          have z4 := hb0.size
          have hBz : Hid (Below w.heap.size w W5) := hide (hB.out.trans (hb0.mono hB.out.size))
          replace hB := hBz
          clear hBz
          replace kc0 := (hb0.block _ hkl).trans kc0
          replace hkl := Nat.lt_of_lt_of_le hkl hb0.size
          replace kA := hide (kA.out.carry (hb0.block _ kA.out.lt))
          replace kC := hide (kC.out.below hb0)
          replace kT := hide (kT.out.below hb0)
          replace kM := hide (kM.out.carry (hb0.block _ kM.out.lt))
          clear hb0
          refine hK.out _ _ ?_ fun hHeld => ?_
          · exact cf_at kc0
          clear hK K
          try simp only [Act.put, za, zb, zc]
          refine hTk 15 32 hHeld ?_
          clear hHeld
          refine hNo 16 fun K hK => ?_
          go_simp
          refine hK.out _ _ ?_ fun hHeld => ?_
          · exact cf_at ((Below.heap_alloc _ _ _ hkl).trans kc0)
          clear hK K
          try simp only [Act.put, za, zb, zc]
          refine hTk 17 4 hHeld ?_
          refine hTk 18 5 hHeld ?_
          refine wpAnyH_done (by kernel_rfl) (NoPanic.normal ?_) _
          clear hHeld
          go_wp2_with fail
          go_ret2
          obtain ⟨n1, n2⟩ := nd_make ok kC.out bC kT.out bT kP.out bP kA.out bA kM.out bM (by omega) (by omega) (s := w.heap.size) (by have := hB.out.size; omega)
          exact ⟨_, rfl, _, _, n1, n2, hB.out.alloc hB.out.size _⟩
      · go_simp
        have kM : Hid (MpIs (W2.alloc (.map #[] 0)) W2.heap.size (.int .i64 0) [] (fun _ => .int .i64 0)) := hide (mp_new _ (World.ownsMap_made _ _ _ _))
        have hb0 : Below W2.heap.size W2 (W2.alloc (.map #[] 0)) := (Below.refl _ _).alloc (Nat.le_refl _) _
        obtain ⟨tm, htm⟩ : ∃ tm, W2.heap.size = tm := ⟨_, rfl⟩
        obtain ⟨W3, ew⟩ : ∃ W, W2.alloc (.map #[] 0) = W := ⟨_, rfl⟩
        rw [ew] at kM hb0
        rw [htm] at kM ⊢
        rw [ew]
        have bM : W2.heap.size ≤ tm ∧ tm < W3.heap.size := ⟨by omega, kM.out.lt⟩
        clear ew htm
        have z2 := hb0.size
        have hBz : Hid (Below w.heap.size w W3) := hide (hB.out.trans (hb0.mono hB.out.size))
        replace hB := hBz
        clear hBz
        replace kc0 := (hb0.block _ hkl).trans kc0
        replace hkl := Nat.lt_of_lt_of_le hkl hb0.size
        replace kA := hide (kA.out.carry (hb0.block _ kA.out.lt))
        replace kC := hide (kC.out.below hb0)
        clear hb0
        refine hK.out _ _ ?_ fun hHeld => ?_
        · exact cf_at kc0
        clear hK K
        try simp only [Act.put, za, zb, zc]
        refine hNo 7 fun K hK => ?_
        go_simp
        go_at_call 70
        refine (tNew_c _).mono ?_
        rintro e W4 ⟨tc, rfl, tt, to0, htb, ht1, ht2, ht3, hb0⟩
        have bT : W3.heap.size ≤ tc ∧ W3.heap.size ≤ tt ∧ W3.heap.size ≤ to0 ∧ tc < W4.heap.size ∧ tt < W4.heap.size ∧ to0 < W4.heap.size := ⟨ht1, ht2, ht3, htb.lt, htb.tl, htb.ol⟩
        have kT := hide htb
        clear htb ht1 ht2 ht3
        have z3 := hb0.size
        have hBz : Hid (Below w.heap.size w W4) := hide (hB.out.trans (hb0.mono hB.out.size))
        replace hB := hBz
        clear hBz
        replace kc0 := (hb0.block _ hkl).trans kc0
        replace hkl := Nat.lt_of_lt_of_le hkl hb0.size
        replace kA := hide (kA.out.carry (hb0.block _ kA.out.lt))
        replace kC := hide (kC.out.below hb0)
        replace kM := hide (kM.out.carry (hb0.block _ kM.out.lt))
        clear hb0
        refine hK.out _ _ ?_ fun hHeld => ?_
        · exact cf_at kc0
        clear hK K
        try simp only [Act.put, za, zb, zc]
        refine hNo 12 fun K hK => ?_
        go_simp
        go_at_call 71
        refine (pNew_c c.cu c.ct _ (by have := ok.u1; omega) (by have := ok.r1; omega)).mono ?_
        rintro e W5 ⟨pr, rfl, hpr, hp1, hb0⟩
        have bP : W4.heap.size ≤ pr ∧ pr < W5.heap.size := ⟨hp1, hpr.lt⟩
        have kP := hide hpr
        clear hpr hp1
        have z4 := hb0.size
        have hBz : Hid (Below w.heap.size w W5) := hide (hB.out.trans (hb0.mono hB.out.size))
        replace hB := hBz
        clear hBz
        replace kc0 := (hb0.block _ hkl).trans kc0
        replace hkl := Nat.lt_of_lt_of_le hkl hb0.size
        replace kA := hide (kA.out.carry (hb0.block _ kA.out.lt))
        replace kC := hide (kC.out.below hb0)
        replace kM := hide (kM.out.carry (hb0.block _ kM.out.lt))
        replace kT := hide (kT.out.below hb0)
        clear hb0
        refine hK.out _ _ ?_ fun hHeld => ?_
        · exact cf_at kc0
        clear hK K
        try simp only [Act.put, za, zb, zc]
        refine hTk 15 32 hHeld ?_
        clear hHeld
        refine hNo 16 fun K hK => ?_
        go_simp
        refine hK.out _ _ ?_ fun hHeld => ?_
        · exact cf_at ((Below.heap_alloc _ _ _ hkl).trans kc0)
        clear hK K
        try simp only [Act.put, za, zb, zc]
        refine hTk 17 4 hHeld ?_
        refine hTk 18 5 hHeld ?_
        refine wpAnyH_done (by kernel_rfl) (NoPanic.normal ?_) _
        clear hHeld
        go_wp2_with fail
        go_ret2
        obtain ⟨n1, n2⟩ := nd_make ok kC.out bC kT.out bT kP.out bP kA.out bA kM.out bM (by omega) (by omega) (s := w.heap.size) (by have := hB.out.size; omega)
        exact ⟨_, rfl, _, _, n1, n2, hB.out.alloc hB.out.size _⟩
    · go_simp
      have kM : Hid (MpIs (W1.alloc (.map #[] 0)) W1.heap.size (.int .i64 0) [] (fun _ => .int .i64 0)) := hide (mp_new _ (World.ownsMap_made _ _ _ _))
      have hb0 : Below W1.heap.size W1 (W1.alloc (.map #[] 0)) := (Below.refl _ _).alloc (Nat.le_refl _) _
      obtain ⟨tm, htm⟩ : ∃ tm, W1.heap.size = tm := ⟨_, rfl⟩
      obtain ⟨W2, ew⟩ : ∃ W, W1.alloc (.map #[] 0) = W := ⟨_, rfl⟩
      rw [ew] at kM hb0
      rw [htm] at kM ⊢
      rw [ew]
      have bM : W1.heap.size ≤ tm ∧ tm < W2.heap.size := ⟨by omega, kM.out.lt⟩
      clear ew htm
      have z1 := hb0.size
      have hBz : Hid (Below w.heap.size w W2) := hide (hB.out.trans (hb0.mono hB.out.size))
      replace hB := hBz
      clear hBz
      replace kc0 := (hb0.block _ hkl).trans kc0
      replace hkl := Nat.lt_of_lt_of_le hkl hb0.size
      replace kA := hide (kA.out.carry (hb0.block _ kA.out.lt))
      clear hb0
      refine hK.out _ _ ?_ fun hHeld => ?_
      · exact cf_at kc0
      clear hK K
      try simp only [Act.put, za, zb, zc]
      refine hNo 6 fun K hK => ?_
      go_simp
      go_at_call 69
      refine (cNew_c c.cs c.cy _).mono ?_
      rintro e W3 ⟨ca, Fc, rfl, hca, hb0, hF0⟩
      rw [hcs.out, hcy.out] at hca
      have bC : ∀ b, Fc b → W2.heap.size ≤ b ∧ b < W3.heap.size := fun b hb => ⟨hF0 b hb, hca.lt b hb⟩
      have kC := hide hca
      clear hca hF0
      have z2 := hb0.size
      have hBz : Hid (Below w.heap.size w W3) := hide (hB.out.trans (hb0.mono hB.out.size))
      replace hB := hBz
      clear hBz
      replace kc0 := (hb0.block _ hkl).trans kc0
      replace hkl := Nat.lt_of_lt_of_le hkl hb0.size
      replace kA := hide (kA.out.carry (hb0.block _ kA.out.lt))
      replace kM := hide (kM.out.carry (hb0.block _ kM.out.lt))
      clear hb0
      refine hK.out _ _ ?_ fun hHeld => ?_
      · exact cf_at kc0
      clear hK K
      try simp only [Act.put, za, zb, zc]
      refine hNo 7 fun K hK => ?_
      go_simp
      go_at_call 70
      refine (tNew_c _).mono ?_
      rintro e W4 ⟨tc, rfl, tt, to0, htb, ht1, ht2, ht3, hb0⟩
      have bT : W3.heap.size ≤ tc ∧ W3.heap.size ≤ tt ∧ W3.heap.size ≤ to0 ∧ tc < W4.heap.size ∧ tt < W4.heap.size ∧ to0 < W4.heap.size := ⟨ht1, ht2, ht3, htb.lt, htb.tl, htb.ol⟩
      have kT := hide htb
      clear htb ht1 ht2 ht3
      have z3 := hb0.size
      have hBz : Hid (Below w.heap.size w W4) := hide (hB.out.trans (hb0.mono hB.out.size))
      replace hB := hBz
      clear hBz
      replace kc0 := (hb0.block _ hkl).trans kc0
      replace hkl := Nat.lt_of_lt_of_le hkl hb0.size
      replace kA := hide (kA.out.carry (hb0.block _ kA.out.lt))
      replace kM := hide (kM.out.carry (hb0.block _ kM.out.lt))
      replace kC := hide (kC.out.below hb0)
      clear hb0
      refine hK.out _ _ ?_ fun hHeld => ?_
      · exact cf_at kc0
      clear hK K
      try simp only [Act.put, za, zb, zc]
      refine hNo 12 fun K hK => ?_
      go_simp
      go_at_call 71
      refine (pNew_c c.cu c.ct _ (by have := ok.u1; omega) (by have := ok.r1; omega)).mono ?_
      rintro e W5 ⟨pr, rfl, hpr, hp1, hb0⟩
      have bP : W4.heap.size ≤ pr ∧ pr < W5.heap.size := ⟨hp1, hpr.lt⟩
      have kP := hide hpr
      clear hpr hp1
      have z4 := hb0.size
      have hBz : Hid (Below w.heap.size w W5) := hide (hB.out.trans (hb0.mono hB.out.size))
      replace hB := hBz
      clear hBz
      replace kc0 := (hb0.block _ hkl).trans kc0
      replace hkl := Nat.lt_of_lt_of_le hkl hb0.size
      replace kA := hide (kA.out.carry (hb0.block _ kA.out.lt))
      replace kM := hide (kM.out.carry (hb0.block _ kM.out.lt))
      replace kC := hide (kC.out.below hb0)
      replace kT := hide (kT.out.below hb0)
      clear hb0
      refine hK.out _ _ ?_ fun hHeld => ?_
      · exact cf_at kc0
      clear hK K
      try simp only [Act.put, za, zb, zc]
      refine hTk 15 32 hHeld ?_
      clear hHeld
      refine hNo 16 fun K hK => ?_
      go_simp
      refine hK.out _ _ ?_ fun hHeld => ?_
      · exact cf_at ((Below.heap_alloc _ _ _ hkl).trans kc0)
      clear hK K
      try simp only [Act.put, za, zb, zc]
      refine hTk 17 4 hHeld ?_
      refine hTk 18 5 hHeld ?_
      refine wpAnyH_done (by kernel_rfl) (NoPanic.normal ?_) _
      clear hHeld
      go_wp2_with fail
      go_ret2
      obtain ⟨n1, n2⟩ := nd_make ok kC.out bC kT.out bT kP.out bP kA.out bA kM.out bM (by omega) (by omega) (s := w.heap.size) (by have := hB.out.size; omega)
      exact ⟨_, rfl, _, _, n1, n2, hB.out.alloc hB.out.size _⟩
  · go_simp
    have kM : Hid (MpIs (W0.alloc (.map #[] 0)) W0.heap.size (.int .i64 0) [] (fun _ => .int .i64 0)) := hide (mp_new _ (World.ownsMap_made _ _ _ _))
    have hb0 : Below W0.heap.size W0 (W0.alloc (.map #[] 0)) := (Below.refl _ _).alloc (Nat.le_refl _) _
    obtain ⟨tm, htm⟩ : ∃ tm, W0.heap.size = tm := ⟨_, rfl⟩
    obtain ⟨W1, ew⟩ : ∃ W, W0.alloc (.map #[] 0) = W := ⟨_, rfl⟩
    rw [ew] at kM hb0
    rw [htm] at kM ⊢
    rw [ew]
    have bM : W0.heap.size ≤ tm ∧ tm < W1.heap.size := ⟨by omega, kM.out.lt⟩
    clear ew htm
    have z0 := hb0.size
    have hBz : Hid (Below w.heap.size w W1) := hide (hB.out.trans (hb0.mono hB.out.size))
    replace hB := hBz
    clear hBz
    replace kc0 := (hb0.block _ hkl).trans kc0
    replace hkl := Nat.lt_of_lt_of_le hkl hb0.size
    clear hb0
    refine hK.out _ _ ?_ fun hHeld => ?_
    · exact cf_at kc0
    clear hK K
    try simp only [Act.put, za, zb, zc]
    refine hTwo 6 13 (fun K hK => ?_) fun K hK => ?_
    · go_simp
      go_at_call 69
      refine (cNew_c c.cs c.cy _).mono ?_
      rintro e W2 ⟨ca, Fc, rfl, hca, hb0, hF0⟩
      rw [hcs.out, hcy.out] at hca
      have bC : ∀ b, Fc b → W1.heap.size ≤ b ∧ b < W2.heap.size := fun b hb => ⟨hF0 b hb, hca.lt b hb⟩
      have kC := hide hca
      clear hca hF0
      have z1 := hb0.size
      have hBz : Hid (Below w.heap.size w W2) := hide (hB.out.trans (hb0.mono hB.out.size))
      replace hB := hBz
      clear hBz
      replace kc0 := (hb0.block _ hkl).trans kc0
      replace hkl := Nat.lt_of_lt_of_le hkl hb0.size
      replace kM := hide (kM.out.carry (hb0.block _ kM.out.lt))
      clear hb0
      refine hK.out _ _ ?_ fun hHeld => ?_
      · exact cf_at kc0
      clear hK K
      try simp only [Act.put, za, zb, zc]
      refine hTwo 7 13 (fun K hK => ?_) fun K hK => ?_
      · go_simp
        go_at_call 70
        refine (tNew_c _).mono ?_
        rintro e W3 ⟨tc, rfl, tt, to0, htb, ht1, ht2, ht3, hb0⟩
        have bT : W2.heap.size ≤ tc ∧ W2.heap.size ≤ tt ∧ W2.heap.size ≤ to0 ∧ tc < W3.heap.size ∧ tt < W3.heap.size ∧ to0 < W3.heap.size := ⟨ht1, ht2, ht3, htb.lt, htb.tl, htb.ol⟩
        have kT := hide htb
        clear htb ht1 ht2 ht3
        have z2 := hb0.size
        have hBz : Hid (Below w.heap.size w W3) := hide (hB.out.trans (hb0.mono hB.out.size))
        replace hB := hBz
        clear hBz
        replace kc0 := (hb0.block _ hkl).trans kc0
        replace hkl := Nat.lt_of_lt_of_le hkl hb0.size
        replace kM := hide (kM.out.carry (hb0.block _ kM.out.lt))
        replace kC := hide (kC.out.below hb0)
        clear hb0
        refine hK.out _ _ ?_ fun hHeld => ?_
        · exact cf_at kc0
        clear hK K
        try simp only [Act.put, za, zb, zc]
        refine hTwo 12 13 (fun K hK => ?_) fun K hK => ?_
        · go_simp
          go_at_call 71
          refine (pNew_c c.cu c.ct _ (by have := ok.u1; omega) (by have := ok.r1; omega)).mono ?_
          rintro e W4 ⟨pr, rfl, hpr, hp1, hb0⟩
          have bP : W3.heap.size ≤ pr ∧ pr < W4.heap.size := ⟨hp1, hpr.lt⟩
          have kP := hide hpr
          clear hpr hp1
          have z3 := hb0.size
          have hBz : Hid (Below w.heap.size w W4) := hide (hB.out.trans (hb0.mono hB.out.size))
          replace hB := hBz
          clear hBz
          replace kc0 := (hb0.block _ hkl).trans kc0
          replace hkl := Nat.lt_of_lt_of_le hkl hb0.size
          replace kM := hide (kM.out.carry (hb0.block _ kM.out.lt))
          replace kC := hide (kC.out.below hb0)
          replace kT := hide (kT.out.below hb0)
          clear hb0
          refine hK.out _ _ ?_ fun hHeld => ?_
          · exact cf_at kc0
          clear hK K
          try simp only [Act.put, za, zb, zc]
          refine hNo 13 fun K hK => ?_
          go_simp
          have kA : Hid (MpIs (W4.alloc (.map #[] 0)) W4.heap.size (.bool false) [] (fun _ => .bool false)) := hide (mp_new _ (World.ownsMap_made _ _ _ _))
          have hb0 : Below W4.heap.size W4 (W4.alloc (.map #[] 0)) := (Below.refl _ _).alloc (Nat.le_refl _) _
          obtain ⟨am, ham⟩ : ∃ am, W4.heap.size = am := ⟨_, rfl⟩
          obtain ⟨W5, ew⟩ : ∃ W, W4.alloc (.map #[] 0) = W := ⟨_, rfl⟩
          rw [ew] at kA hb0
          rw [ham] at kA ⊢
          rw [ew]
          have bA : W4.heap.size ≤ am ∧ am < W5.heap.size := ⟨by omega, kA.out.lt⟩
          clear ew ham
          have z4 := hb0.size
          have hBz : Hid (Below w.heap.size w W5) := hide (hB.out.trans (hb0.mono hB.out.size))
          replace hB := hBz
          clear hBz
          replace kc0 := (hb0.block _ hkl).trans kc0
          replace hkl := Nat.lt_of_lt_of_le hkl hb0.size
          replace kM := hide (kM.out.carry (hb0.block _ kM.out.lt))
          replace kC := hide (kC.out.below hb0)
          replace kT := hide (kT.out.below hb0)
          replace kP := hide (kP.out.below hb0)
          clear hb0
          refine hK.out _ _ ?_ fun hHeld => ?_
          · exact cf_at kc0
          clear hK K
          try simp only [Act.put, za, zb, zc]
          refine hTk 15 32 hHeld ?_
          clear hHeld
          refine hNo 16 fun K hK => ?_
          go_simp
          refine hK.out _ _ ?_ fun hHeld => ?_
          · exact cf_at ((Below.heap_alloc _ _ _ hkl).trans kc0)
          clear hK K
          try simp only [Act.put, za, zb, zc]
          refine hTk 17 4 hHeld ?_
          refine hTk 18 5 hHeld ?_
          refine wpAnyH_done (by kernel_rfl) (NoPanic.normal ?_) _
          clear hHeld
          go_wp2_with fail
          go_ret2
          obtain ⟨n1, n2⟩ := nd_make ok kC.out bC kT.out bT kP.out bP kA.out bA kM.out bM (by omega) (by omega) (s := w.heap.size) (by have := hB.out.size; omega)
          exact ⟨_, rfl, _, _, n1, n2, hB.out.alloc hB.out.size _⟩
        · go_simp
          have kA : Hid (MpIs (W3.alloc (.map #[] 0)) W3.heap.size (.bool false) [] (fun _ => .bool false)) := hide (mp_new _ (World.ownsMap_made _ _ _ _))
          have hb0 : Below W3.heap.size W3 (W3.alloc (.map #[] 0)) := (Below.refl _ _).alloc (Nat.le_refl _) _
          obtain ⟨am, ham⟩ : ∃ am, W3.heap.size = am := ⟨_, rfl⟩
          obtain ⟨W4, ew⟩ : ∃ W, W3.alloc (.map #[] 0) = W := ⟨_, rfl⟩
          rw [ew] at kA hb0
          rw [ham] at kA ⊢
          rw [ew]
          have bA : W3.heap.size ≤ am ∧ am < W4.heap.size := ⟨by omega, kA.out.lt⟩
          clear ew ham
          have z3 := hb0.size
          have hBz : Hid (Below w.heap.size w W4) := hide (hB.out.trans (hb0.mono hB.out.size))
          replace hB := hBz
          clear hBz
          replace kc0 := (hb0.block _ hkl).trans kc0
          replace hkl := Nat.lt_of_lt_of_le hkl hb0.size
          replace kM := hide (kM.out.carry (hb0.block _ kM.out.lt))
          replace kC := hide (kC.out.below hb0)
          replace kT := hide (kT.out.below hb0)
          clear hb0
          refine hK.out _ _ ?_ fun hHeld => ?_
          · exact cf_at kc0
          clear hK K
          try simp only [Act.put, za, zb, zc]
          refine hNo 12 fun K hK => ?_
          go_simp
          go_at_call 71
          refine (pNew_c c.cu c.ct _ (by have := ok.u1; omega) (by have := ok.r1; omega)).mono ?_
          rintro e W5 ⟨pr, rfl, hpr, hp1, hb0⟩
          have bP : W4.heap.size ≤ pr ∧ pr < W5.heap.size := ⟨hp1, hpr.lt⟩
          have kP := hide hpr
          clear hpr hp1
          have z4 := hb0.size
          have hBz : Hid (Below w.heap.size w W5) := hide (hB.out.trans (hb0.mono hB.out.size))
          replace hB := hBz
          clear hBz
          replace kc0 := (hb0.block _ hkl).trans kc0
          replace hkl := Nat.lt_of_lt_of_le hkl hb0.size
          replace kM := hide (kM.out.carry (hb0.block _ kM.out.lt))
          replace kC := hide (kC.out.below hb0)
          replace kT := hide (kT.out.below hb0)
          replace kA := hide (kA.out.carry (hb0.block _ kA.out.lt))
          clear hb0
          refine hK.out _ _ ?_ fun hHeld => ?_
          · exact cf_at kc0
          clear hK K
          try simp only [Act.put, za, zb, zc]
          refine hTk 15 32 hHeld ?_
          clear hHeld
          refine hNo 16 fun K hK => ?_
          go_simp
          refine hK.out _ _ ?_ fun hHeld => ?_
          · exact cf_at ((Below.heap_alloc _ _ _ hkl).trans kc0)
          clear hK K
          try simp only [Act.put, za, zb, zc]
          refine hTk 17 4 hHeld ?_
          refine hTk 18 5 hHeld ?_
          refine wpAnyH_done (by kernel_rfl) (NoPanic.normal ?_) _
          clear hHeld
          go_wp2_with fail
          go_ret2
          obtain ⟨n1, n2⟩ := nd_make ok kC.out bC kT.out bT kP.out bP kA.out bA kM.out bM (by omega) (by omega) (s := w.heap.size) (by have := hB.out.size; omega)
          exact ⟨_, rfl, _, _, n1, n2, hB.out.alloc hB.out.size _⟩
      · go_simp
        have kA : Hid (MpIs (W2.alloc (.map #[] 0)) W2.heap.size (.bool false) [] (fun _ => .bool false)) := hide (mp_new _ (World.ownsMap_made _ _ _ _))
        have hb0 : Below W2.heap.size W2 (W2.alloc (.map #[] 0)) := (Below.refl _ _).alloc (Nat.le_refl _) _
        obtain ⟨am, ham⟩ : ∃ am, W2.heap.size = am := ⟨_, rfl⟩
        obtain ⟨W3, ew⟩ : ∃ W, W2.alloc (.map #[] 0) = W := ⟨_, rfl⟩
        rw [ew] at kA hb0
        rw [ham] at kA ⊢
        rw [ew]
        have bA : W2.heap.size ≤ am ∧ am < W3.heap.size := ⟨by omega, kA.out.lt⟩
        clear ew ham
        have z2 := hb0.size
        have hBz : Hid (Below w.heap.size w W3) := hide (hB.out.trans (hb0.mono hB.out.size))
        replace hB := hBz
        clear hBz
        replace kc0 := (hb0.block _ hkl).trans kc0
        replace hkl := Nat.lt_of_lt_of_le hkl hb0.size
        replace kM := hide (kM.out.carry (hb0.block _ kM.out.lt))
        replace kC := hide (kC.out.below hb0)
        clear hb0
        refine hK.out _ _ ?_ fun hHeld => ?_
        · exact cf_at kc0
        clear hK K
        try simp only [Act.put, za, zb, zc]
        refine hNo 7 fun K hK => ?_
        go_simp
        go_at_call 70
        refine (tNew_c _).mono ?_
        rintro e W4 ⟨tc, rfl, tt, to0, htb, ht1, ht2, ht3, hb0⟩
        have bT : W3.heap.size ≤ tc ∧ W3.heap.size ≤ tt ∧ W3.heap.size ≤ to0 ∧ tc < W4.heap.size ∧ tt < W4.heap.size ∧ to0 < W4.heap.size := ⟨ht1, ht2, ht3, htb.lt, htb.tl, htb.ol⟩
        have kT := hide htb
        clear htb ht1 ht2 ht3
        have z3 := hb0.size
        have hBz : Hid (Below w.heap.size w W4) := hide (hB.out.trans (hb0.mono hB.out.size))
        replace hB := hBz
        clear hBz
        replace kc0 := (hb0.block _ hkl).trans kc0
        replace hkl := Nat.lt_of_lt_of_le hkl hb0.size
        replace kM := hide (kM.out.carry (hb0.block _ kM.out.lt))
        replace kC := hide (kC.out.below hb0)
        replace kA := hide (kA.out.carry (hb0.block _ kA.out.lt))
        clear hb0
        refine hK.out _ _ ?_ fun hHeld => ?_
        · exact cf_at kc0
        clear hK K
        try simp only [Act.put, za, zb, zc]
        refine hNo 12 fun K hK => ?_
        go_simp
        go_at_call 71
        refine (pNew_c c.cu c.ct _ (by have := ok.u1; omega) (by have := ok.r1; omega)).mono ?_
        rintro e W5 ⟨pr, rfl, hpr, hp1, hb0⟩
        have bP : W4.heap.size ≤ pr ∧ pr < W5.heap.size := ⟨hp1, hpr.lt⟩
        have kP := hide hpr
        clear hpr hp1
        have z4 := hb0.size
        have hBz : Hid (Below w.heap.size w W5) := hide (hB.out.trans (hb0.mono hB.out.size))
        replace hB := hBz
        clear hBz
        replace kc0 := (hb0.block _ hkl).trans kc0
        replace hkl := Nat.lt_of_lt_of_le hkl hb0.size
        replace kM := hide (kM.out.carry (hb0.block _ kM.out.lt))
        replace kC := hide (kC.out.below hb0)
        replace kA := hide (kA.out.carry (hb0.block _ kA.out.lt))
        replace kT := hide (kT.out.below hb0)
        clear hb0
        refine hK.out _ _ ?_ fun hHeld => ?_
        · exact cf_at kc0
        clear hK K
        try simp only [Act.put, za, zb, zc]
        refine hTk 15 32 hHeld ?_
        clear hHeld
        refine hNo 16 fun K hK => ?_
        go_simp
        refine hK.out _ _ ?_ fun hHeld => ?_
        · exact cf_at ((Below.heap_alloc _ _ _ hkl).trans kc0)
        clear hK K
        try simp only [Act.put, za, zb, zc]
        refine hTk 17 4 hHeld ?_
        refine hTk 18 5 hHeld ?_
        refine wpAnyH_done (by kernel_rfl) (NoPanic.normal ?_) _
        clear hHeld
        go_wp2_with fail
        go_ret2
        obtain ⟨n1, n2⟩ := nd_make ok kC.out bC kT.out bT kP.out bP kA.out bA kM.out bM (by omega) (by omega) (s := w.heap.size) (by have := hB.out.size; omega)
        exact ⟨_, rfl, _, _, n1, n2, hB.out.alloc hB.out.size _⟩
    · go_simp
      have kA : Hid (MpIs (W1.alloc (.map #[] 0)) W1.heap.size (.bool false) [] (fun _ => .bool false)) := hide (mp_new _ (World.ownsMap_made _ _ _ _))
      have hb0 : Below W1.heap.size W1 (W1.alloc (.map #[] 0)) := (Below.refl _ _).alloc (Nat.le_refl _) _
      obtain ⟨am, ham⟩ : ∃ am, W1.heap.size = am := ⟨_, rfl⟩
      obtain ⟨W2, ew⟩ : ∃ W, W1.alloc (.map #[] 0) = W := ⟨_, rfl⟩
      rw [ew] at kA hb0
      rw [ham] at kA ⊢
      rw [ew]
      have bA : W1.heap.size ≤ am ∧ am < W2.heap.size := ⟨by omega, kA.out.lt⟩
      clear ew ham
      have z1 := hb0.size
      have hBz : Hid (Below w.heap.size w W2) := hide (hB.out.trans (hb0.mono hB.out.size))
      replace hB := hBz
      clear hBz
      replace kc0 := (hb0.block _ hkl).trans kc0
      replace hkl := Nat.lt_of_lt_of_le hkl hb0.size
      replace kM := hide (kM.out.carry (hb0.block _ kM.out.lt))
      clear hb0
      refine hK.out _ _ ?_ fun hHeld => ?_
      · exact cf_at kc0
      clear hK K
      try simp only [Act.put, za, zb, zc]
      refine hNo 6 fun K hK => ?_
      go_simp
      go_at_call 69
      refine (cNew_c c.cs c.cy _).mono ?_
      rintro e W3 ⟨ca, Fc, rfl, hca, hb0, hF0⟩
      rw [hcs.out, hcy.out] at hca
      have bC : ∀ b, Fc b → W2.heap.size ≤ b ∧ b < W3.heap.size := fun b hb => ⟨hF0 b hb, hca.lt b hb⟩
      have kC := hide hca
      clear hca hF0
      have z2 := hb0.size
      have hBz : Hid (Below w.heap.size w W3) := hide (hB.out.trans (hb0.mono hB.out.size))
      replace hB := hBz
      clear hBz
      replace kc0 := (hb0.block _ hkl).trans kc0
      replace hkl := Nat.lt_of_lt_of_le hkl hb0.size
      replace kM := hide (kM.out.carry (hb0.block _ kM.out.lt))
      replace kA := hide (kA.out.carry (hb0.block _ kA.out.lt))
      clear hb0
      refine hK.out _ _ ?_ fun hHeld => ?_
      · exact cf_at kc0
      clear hK K
      try simp only [Act.put, za, zb, zc]
      refine hNo 7 fun K hK => ?_
      go_simp
      go_at_call 70
      refine (tNew_c _).mono ?_
      rintro e W4 ⟨tc, rfl, tt, to0, htb, ht1, ht2, ht3, hb0⟩
      have bT : W3.heap.size ≤ tc ∧ W3.heap.size ≤ tt ∧ W3.heap.size ≤ to0 ∧ tc < W4.heap.size ∧ tt < W4.heap.size ∧ to0 < W4.heap.size := ⟨ht1, ht2, ht3, htb.lt, htb.tl, htb.ol⟩
      have kT := hide htb
      clear htb ht1 ht2 ht3
      have z3 := hb0.size
      have hBz : Hid (Below w.heap.size w W4) := hide (hB.out.trans (hb0.mono hB.out.size))
      replace hB := hBz
      clear hBz
      replace kc0 := (hb0.block _ hkl).trans kc0
      replace hkl := Nat.lt_of_lt_of_le hkl hb0.size
      replace kM := hide (kM.out.carry (hb0.block _ kM.out.lt))
      replace kA := hide (kA.out.carry (hb0.block _ kA.out.lt))
      replace kC := hide (kC.out.below hb0)
      clear hb0
      refine hK.out _ _ ?_ fun hHeld => ?_
      · exact cf_at kc0
      clear hK K
      try simp only [Act.put, za, zb, zc]
      refine hNo 12 fun K hK => ?_
      go_simp
      go_at_call 71
      refine (pNew_c c.cu c.ct _ (by have := ok.u1; omega) (by have := ok.r1; omega)).mono ?_
      rintro e W5 ⟨pr, rfl, hpr, hp1, hb0⟩
      have bP : W4.heap.size ≤ pr ∧ pr < W5.heap.size := ⟨hp1, hpr.lt⟩
      have kP := hide hpr
      clear hpr hp1
      have z4 := hb0.size
      have hBz : Hid (Below w.heap.size w W5) := hide (hB.out.trans (hb0.mono hB.out.size))
      replace hB := hBz
      clear hBz
      replace kc0 := (hb0.block _ hkl).trans kc0
      replace hkl := Nat.lt_of_lt_of_le hkl hb0.size
      replace kM := hide (kM.out.carry (hb0.block _ kM.out.lt))
      replace kA := hide (kA.out.carry (hb0.block _ kA.out.lt))
      replace kC := hide (kC.out.below hb0)
      replace kT := hide (kT.out.below hb0)
      clear hb0
      refine hK.out _ _ ?_ fun hHeld => ?_
      · exact cf_at kc0
      clear hK K
      try simp only [Act.put, za, zb, zc]
      refine hTk 15 32 hHeld ?_
      clear hHeld
      refine hNo 16 fun K hK => ?_
      go_simp
      refine hK.out _ _ ?_ fun hHeld => ?_
      · exact cf_at ((Below.heap_alloc _ _ _ hkl).trans kc0)
      clear hK K
      try simp only [Act.put, za, zb, zc]
      refine hTk 17 4 hHeld ?_
      refine hTk 18 5 hHeld ?_
      refine wpAnyH_done (by kernel_rfl) (NoPanic.normal ?_) _
      clear hHeld
      go_wp2_with fail
      go_ret2
      obtain ⟨n1, n2⟩ := nd_make ok kC.out bC kT.out bT kP.out bP kA.out bA kM.out bM (by omega) (by omega) (s := w.heap.size) (by have := hB.out.size; omega)
      exact ⟨_, rfl, _, _, n1, n2, hB.out.alloc hB.out.size _⟩
end Go.Proofs.YtoenjdnccgmhoaaGreatDoor
