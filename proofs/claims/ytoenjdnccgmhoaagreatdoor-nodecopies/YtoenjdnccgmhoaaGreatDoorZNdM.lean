/- layer 15: NdM, put together. -/
import Derived.Test.YtoenjdnccgmhoaaGreatDoorB26
import Derived.Test.YtoenjdnccgmhoaaGreatDoorZCacY
import Derived.Test.YtoenjdnccgmhoaaGreatDoorZTabC
namespace Go.Proofs.YtoenjdnccgmhoaaGreatDoor
open Go.ChangeShapes Go.WideShapes Go.ChangeAt Go.RowKit
set_option linter.unusedSimpArgs false
set_option linter.unusedVariables false
set_option maxRecDepth 10000
attribute [local go_sem, local simp] over_const setCell_drewN alloc_drewN Over.cell Over.frozen lt_s1 lt_s2 lt_s3 le_s0 le_s1 le_s2 le_s3 eq_s0 eq_s1 eq_s2 qe_s0
theorem NdAt.all {w : World} {p : Nat} {B : Bk} {c : Cf} {id : Int} (h : NdAt w p B c id) : w.cell? ⟨p, 0, none⟩ = some (.int .i64 c.n) ∧ w.cell? ⟨p, 1, none⟩ = some (.int .i64 c.bl) ∧ w.cell? ⟨p, 2, none⟩ = some (.int .i64 c.tt) ∧ w.cell? ⟨p, 3, none⟩ = some (.int .i64 c.cs) ∧ w.cell? ⟨p, 4, none⟩ = some (.int .i64 c.cy) ∧ w.cell? ⟨p, 5, none⟩ = some (.int .i64 c.cc) ∧ w.cell? ⟨p, 6, none⟩ = some (.int .i64 c.cu) ∧ w.cell? ⟨p, 7, none⟩ = some (.int .i64 c.ct) ∧ w.cell? ⟨p, 8, none⟩ = some (.int .i64 c.cp) ∧ w.cell? ⟨p, 9, none⟩ = some (.int .i64 id) ∧ w.cell? ⟨p, 10, none⟩ = some (ptr B.ca) ∧ w.cell? ⟨p, 11, none⟩ = some (ptr B.tc) ∧ w.cell? ⟨p, 12, none⟩ = some (ptr B.pr) ∧ w.cell? ⟨p, 13, none⟩ = some (.map (some B.am)) ∧ w.cell? ⟨p, 14, none⟩ = some (.map (some B.tm)) := ⟨h.c0, h.c1, h.c2, h.c3, h.c4, h.c5, h.c6, h.c7, h.c8, h.c9, h.c10, h.c11, h.c12, h.c13, h.c14⟩
set_option maxHeartbeats 1000000 in
theorem cloneBo_c (b : Nat) (es : Array MapEntry) (clock : Nat) (w : World) (hb : w.heap[b]? = some (.map es clock)) : Calls Tryz.prog 58 #[.map (some b)] w fun e w' => e = .returned (.map (some w.heap.size)) ∧ w' = w.alloc (.map es clock) := by
  have hq := fun w => run_eql_map_nil (P := Tryz.prog) w 88 _ _ (some b) Tryz.underlying88
  go_enter Tryz.func58, Tryz.ntmps58
  go_wp2
  rw [run_callFunc_extern Tryz.func106 (by kernel_rfl) (by kernel_rfl) (by kernel_rfl) (e := Extern.MapsClone.clone) (by kernel_rfl), run_clone_map w 88 hb]
  simp only [Result.andThen]
  rw [Oper.upon_value]
  go_wp2
  rw [run_assert_map _ 88 _ _ _ _ Tryz.underlying88]
  simp only [Result.andThen]
  rw [Oper.upon_value]
  go_wp2
  go_ret
  exact ⟨rfl, rfl⟩
theorem nd_make2 {W : World} {c : Cf} {id : Int} {N : Nat} {D : Nd} (ok : CfOk c id) {ca tc tt to0 pr am tm : Nat} {Fc : Nat → Prop} {l0 h0 l1 h1 l2 h2 l3 h3 l4 h4 s : Nat}
    (hC : CaIs W ca Fc c.cs c.cy (N * 65536) D.C) (bC : ∀ b, Fc b → l0 ≤ b ∧ b < h0) (hT : TbIs W tc tt to0 N D.T) (bT : l1 ≤ tc ∧ l1 ≤ tt ∧ l1 ≤ to0 ∧ tc < h1 ∧ tt < h1 ∧ to0 < h1)
    (hP : PrIs W pr c.cu c.ct D.P) (hPk : D.P.k ≤ N) (bP : l2 ≤ pr ∧ pr < h2) {KA KM : List Int} (hA : MpIs W am (.bool false) KA (fun k => .bool (D.A k))) (hKA : KA.length ≤ N) (bA : l3 ≤ am ∧ am < h3) (hM : MpIs W tm (.int .i64 0) KM (fun k => .int .i64 (D.O k))) (hKM : KM.length ≤ N) (bM : l4 ≤ tm ∧ tm < h4)
    (dis : (h0 ≤ l1 ∨ h1 ≤ l0) ∧ (h0 ≤ l2 ∨ h2 ≤ l0) ∧ (h0 ≤ l3 ∨ h3 ≤ l0) ∧ (h0 ≤ l4 ∨ h4 ≤ l0) ∧ (h1 ≤ l2 ∨ h2 ≤ l1) ∧ (h1 ≤ l3 ∨ h3 ≤ l1) ∧ (h1 ≤ l4 ∨ h4 ≤ l1) ∧ (h2 ≤ l3 ∨ h3 ≤ l2) ∧ (h2 ≤ l4 ∨ h4 ≤ l2) ∧ (h3 ≤ l4 ∨ h4 ≤ l3)) (hi : h0 ≤ W.heap.size) (lo : s ≤ l0 ∧ s ≤ l1 ∧ s ≤ l2 ∧ s ≤ l3 ∧ s ≤ l4 ∧ s ≤ W.heap.size) :
    NdIs (W.alloc (.cells (ndC c id ⟨ca, tc, tt, to0, pr, am, tm⟩) 90)) W.heap.size ⟨ca, tc, tt, to0, pr, am, tm⟩ Fc c id N D ∧ ∀ b, Fa W.heap.size ⟨ca, tc, tt, to0, pr, am, tm⟩ Fc b → s ≤ b := by
  have q1 := hT.lt
  have q2 := hT.tl
  have q3 := hT.ol
  have q4 := hP.lt
  have q5 := hA.lt
  have q6 := hM.lt
  have q7 := hT.tc
  have q8 := hT.oc
  have q9 := hT.ne
  obtain ⟨d1, d2, d3, d4, d5, d6, d7, d8, d9, d10⟩ := dis
  refine ⟨⟨ok, heap_alloc_new _ _, hC.alloc _, hT.alloc _, hP.alloc _, hPk, ⟨KA, hA.carry (Below.heap_alloc _ _ _ q5), hKA⟩, ⟨KM, hM.carry (Below.heap_alloc _ _ _ q6), hKM⟩,
    ⟨fun b => if l0 ≤ b ∧ b < h0 then 7 else if b = tc then 1 else if b = tt then 2 else if b = to0 then 3 else if b = pr then 4 else if b = am then 5 else if b = tm then 6 else 0, ?_⟩⟩, ?_⟩
  · have hh : ∀ b, Fc b → b < W.heap.size := hC.lt
    have h00 : ¬ (l0 ≤ W.heap.size ∧ W.heap.size < h0) := by omega
    dsimp only
    refine ⟨?_, ?_, ?_, ?_, ?_, ?_, ?_, fun b hb => if_pos (bC b hb)⟩
    · rw [if_neg h00, if_neg (by omega), if_neg (by omega), if_neg (by omega), if_neg (by omega), if_neg (by omega), if_neg (by omega)]
    · rw [if_neg (by omega), if_pos rfl]
    · rw [if_neg (by omega), if_neg (by omega), if_pos rfl]
    · rw [if_neg (by omega), if_neg (by omega), if_neg (by omega), if_pos rfl]
    · rw [if_neg (by omega), if_neg (by omega), if_neg (by omega), if_neg (by omega), if_pos rfl]
    · rw [if_neg (by omega), if_neg (by omega), if_neg (by omega), if_neg (by omega), if_neg (by omega), if_pos rfl]
    · rw [if_neg (by omega), if_neg (by omega), if_neg (by omega), if_neg (by omega), if_neg (by omega), if_neg (by omega), if_pos rfl]
  · rintro b (hb | hb | hb | hb | hb | hb | hb | hb)
    · have := bC b hb; omega
    all_goals (try dsimp only at hb)
    all_goals omega
set_option maxHeartbeats 4000000 in
theorem ndCopy_c (p : Nat) (B : Bk) (Fc : Nat → Prop) (c : Cf) (id : Int) (N : Nat) (D : Nd) (w : World) (h : NdIs w p B Fc c id N D) : Calls Tryz.prog 21 #[ptr p] w fun e w' => ∃ q, e = .returned (ptr q) ∧ ∃ B' Fc', NdIs w' q B' Fc' c id N D ∧ (∀ b, Fa q B' Fc' b → w.heap.size ≤ b) ∧ Below w.heap.size w w' := by
  have n0 := hide (h.drewN 1)
  have hB : Hid (Below w.heap.size w (w.drewN 1)) := hide (belowN (Below.refl _ _) 1)
  have ok := h.ok
  have hPk := h.pk
  obtain ⟨c0, c1, c2, c3, c4, c5, c6, c7, c8, c9, c10, c11, c12, c13, c14⟩ := h.at'.all
  clear h
  go_enter Tryz.func21, Tryz.ntmps21
  go_wp2_with fail
  refine wp_region_noPanic ?_
  refine wp_region_held_drew (S := (fun w' => w'.cell? ⟨p, 0, none⟩ = some (.int .i64 c.n) ∧ w'.cell? ⟨p, 1, none⟩ = some (.int .i64 c.bl) ∧ w'.cell? ⟨p, 2, none⟩ = some (.int .i64 c.tt) ∧ w'.cell? ⟨p, 3, none⟩ = some (.int .i64 c.cs) ∧ w'.cell? ⟨p, 4, none⟩ = some (.int .i64 c.cy) ∧ w'.cell? ⟨p, 5, none⟩ = some (.int .i64 c.cc) ∧ w'.cell? ⟨p, 6, none⟩ = some (.int .i64 c.cu) ∧ w'.cell? ⟨p, 7, none⟩ = some (.int .i64 c.ct) ∧ w'.cell? ⟨p, 8, none⟩ = some (.int .i64 c.cp) ∧ w'.cell? ⟨p, 9, none⟩ = some (.int .i64 id) ∧ w'.cell? ⟨p, 10, none⟩ = some (ptr B.ca) ∧ w'.cell? ⟨p, 11, none⟩ = some (ptr B.tc) ∧ w'.cell? ⟨p, 12, none⟩ = some (ptr B.pr) ∧ w'.cell? ⟨p, 13, none⟩ = some (.map (some B.am)) ∧ w'.cell? ⟨p, 14, none⟩ = some (.map (some B.tm)))) (by kernel_rfl) ?_ (fun hHeld => ?_)
  · exact ⟨c0, c1, c2, c3, c4, c5, c6, c7, c8, c9, c10, c11, c12, c13, c14⟩
  clear c0 c1 c2 c3 c4 c5 c6 c7 c8 c9 c10 c11 c12 c13 c14
  refine hTk 0 3 hHeld ?_
  refine hTk 1 4 hHeld ?_
  refine hTk 2 5 hHeld ?_
  refine hTk 3 6 hHeld ?_
  refine hTk 4 7 hHeld ?_
  refine hTk 5 8 hHeld ?_
  refine hTk 6 9 hHeld ?_
  refine hTk 7 10 hHeld ?_
  refine hTk 8 11 hHeld ?_
  refine hTk 9 12 hHeld ?_
  refine hTk 10 13 hHeld ?_
  refine hTk 11 14 hHeld ?_
  refine hTk 13 16 hHeld ?_
  refine hTk 14 17 hHeld ?_
  refine hTk 15 18 hHeld ?_
  refine hTk 16 19 hHeld ?_
  refine hTk 18 21 hHeld ?_
  refine hTk 19 22 hHeld ?_
  refine hTk 20 23 hHeld ?_
  refine hTk 21 24 hHeld ?_
  refine hTk 23 26 hHeld ?_
  refine hTk 24 27 hHeld ?_
  refine hTk 25 28 hHeld ?_
  refine hTk 26 29 hHeld ?_
  refine hTk 28 31 hHeld ?_
  refine hTk 29 32 hHeld ?_
  refine hTk 30 33 hHeld ?_
  refine hTk 31 34 hHeld ?_
  refine hNo 12 fun K hK => ?_
  go_simp
  go_at_call 55
  refine (cCopy_c B.ca Fc c.cs c.cy _ D.C _ n0.out.ca).mono ?_
  rintro e w1 ⟨ca, Fc', rfl, hca, hF0, hb0⟩
  have bC : ∀ b, Fc' b → w.heap.size ≤ b ∧ b < w1.heap.size := fun b hb => ⟨hF0 b hb, hca.lt b hb⟩
  have kC := hide hca
  have z1 := hb0.size
  replace hB := hide (hB.out.trans (hb0.mono hB.out.size))
  have n1 := hide (n0.out.below hb0)
  have z1' : w.heap.size ≤ w1.heap.size := hb0.size
  clear hca hF0 hb0
  refine hK.out _ _ ?_ fun hHeld => ?_
  · exact n1.out.at'.all
  clear hK K
  try simp only [Act.put, za, zb, zc]
  refine hNo 17 fun K hK => ?_
  go_simp
  go_at_call 56
  refine (tCopy_c B.tc B.tt B.to N D.T _ n1.out.tb).mono ?_
  rintro e w2 ⟨tc, rfl, tt, to0, htb, ht1, ht2, ht3, hb0⟩
  have bT : w1.heap.size ≤ tc ∧ w1.heap.size ≤ tt ∧ w1.heap.size ≤ to0 ∧ tc < w2.heap.size ∧ tt < w2.heap.size ∧ to0 < w2.heap.size := ⟨ht1, ht2, ht3, htb.lt, htb.tl, htb.ol⟩
  have kT := hide htb
  replace kC := hide (kC.out.below hb0)
  have z2 := hb0.size
  replace hB := hide (hB.out.trans (hb0.mono hB.out.size))
  have n2 := hide (n1.out.below hb0)
  clear htb ht1 ht2 ht3 hb0
  refine hK.out _ _ ?_ fun hHeld => ?_
  · exact n2.out.at'.all
  clear hK K
  try simp only [Act.put, za, zb, zc]
  refine hNo 22 fun K hK => ?_
  go_simp
  go_at_call 57
  refine (pCopy_c B.pr c.cu c.ct D.P _ n2.out.pr).mono ?_
  rintro e w3 ⟨pr, rfl, hpr, hp1, hb0⟩
  have bP : w2.heap.size ≤ pr ∧ pr < w3.heap.size := ⟨hp1, hpr.lt⟩
  have kP := hide hpr
  replace kC := hide (kC.out.below hb0)
  replace kT := hide (kT.out.below hb0)
  have z3 := hb0.size
  replace hB := hide (hB.out.trans (hb0.mono hB.out.size))
  have n3 := hide (n2.out.below hb0)
  clear hpr hp1 hb0
  refine hK.out _ _ ?_ fun hHeld => ?_
  · exact n3.out.at'.all
  clear hK K
  try simp only [Act.put, za, zb, zc]
  obtain ⟨KA, hA1, hA2⟩ := n3.out.asd
  refine hNo 27 fun K hK => ?_
  go_simp
  go_at_call 58
  refine (mp_clone hA1 (fun es clock hb => cloneBo_c B.am es clock _ hb)).mono ?_
  rintro e w4 ⟨rfl, hA3, hb0, s4⟩
  have bA : w3.heap.size ≤ w3.heap.size ∧ w3.heap.size < w4.heap.size := ⟨Nat.le_refl _, by omega⟩
  have kA := hide hA3
  replace kC := hide (kC.out.below hb0)
  replace kT := hide (kT.out.below hb0)
  replace kP := hide (kP.out.below hb0)
  have z4 := hb0.size
  replace hB := hide (hB.out.trans (hb0.mono hB.out.size))
  have n4 := hide (n3.out.below hb0)
  clear hA1 hA3 hb0 s4
  refine hK.out _ _ ?_ fun hHeld => ?_
  · exact n4.out.at'.all
  clear hK K
  try simp only [Act.put, za, zb, zc]
  obtain ⟨KM, hM1, hM2⟩ := n4.out.tm
  refine hNo 32 fun K hK => ?_
  go_simp
  go_at_call 59
  refine (mp_clone hM1 (fun es clock hb => cloneI_c B.tm es clock _ hb)).mono ?_
  rintro e w5 ⟨rfl, hM3, hb0, s5⟩
  have bM : w4.heap.size ≤ w4.heap.size ∧ w4.heap.size < w5.heap.size := ⟨Nat.le_refl _, by omega⟩
  have kM := hide hM3
  replace kC := hide (kC.out.below hb0)
  replace kT := hide (kT.out.below hb0)
  replace kP := hide (kP.out.below hb0)
  replace kA := hide (kA.out.carry (hb0.block _ kA.out.lt))
  have z5 := hb0.size
  replace hB := hide (hB.out.trans (hb0.mono hB.out.size))
  have n5 := hide (n4.out.below hb0)
  clear hM1 hM3 hb0 s5
  refine hK.out _ _ ?_ fun hHeld => ?_
  · exact n5.out.at'.all
  clear hK K
  try simp only [Act.put, za, zb, zc]
  refine hTk 33 36 hHeld ?_
  refine hNo 34 fun K hK => ?_
  go_simp
  refine hK.out _ _ ?_ fun hHeld => ?_
  · exact (n5.out.alloc _).at'.all
  clear hK K
  try simp only [Act.put, za, zb, zc]
  refine hTk 35 2 hHeld ?_
  refine wpAnyH_done (by kernel_rfl) (NoPanic.normal ?_) _
  clear hHeld
  go_wp2_with fail
  go_ret
  obtain ⟨m1, m2⟩ := nd_make2 ok kC.out bC kT.out bT kP.out hPk bP kA.out hA2 bA kM.out hM2 bM (by omega) (by omega) (s := w.heap.size) (by omega)
  exact ⟨_, rfl, _, _, m1, m2, hB.out.alloc hB.out.size _⟩
end Go.Proofs.YtoenjdnccgmhoaaGreatDoor
