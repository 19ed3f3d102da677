/- The walk of Copy (layer 12). -/
import Derived.Test.YtlfdahcbkdiifaaArbE
namespace Go.Proofs.Ytlfdahcbkdiifaa
open Go.ChangeShapes Go.WideShapes Go.ChangeAt Go.RowKit
set_option linter.unusedSimpArgs false
set_option linter.unusedVariables false
set_option maxRecDepth 10000

attribute [local go_sem, local simp] over_const setCell_drewN alloc_drewN Over.cell Over.frozen lt_s1 lt_s2 lt_s3 le_s0 le_s1 le_s2 le_s3 eq_s0 eq_s1 eq_s2 qe_s0

theorem exec_buildC {a : Act} {o : Oper} {w : World} (x y : Operand) (ho : o.op = .build 57 #[(0, x), (1, y)]) {f : Nat → Bool} {ad : Option Addr} {n c : Nat} (hx : a.eval x = .agg (mkM f).toArray) (hy : a.eval y = .slice ad n c) : (execOp a.eval o).run Try.prog w = .ok (.value (.agg (arbC f (.slice ad n c)))) w := by
  unfold execOp
  simp only [ho, hx, hy, Sem.run_bind, Sem.run_pure, Result.andThen_ok, List.map_toArray, List.map_nil, List.map_cons, build_arb2]

theorem WtIs.slice {w : World} {v : Value} {ob : Option Nat} {A : List Int} (h : WtIs w v ob A) : ∃ a n c, v = .slice a n c := by
  obtain ⟨b, ao, cap, rfl, _⟩ := h.view
  exact ⟨_, _, _, rfl⟩

/-- Between two rounds. -/
structure CpMid (w wr : World) (p g N M : Nat) (L : List Rq) (Ft : Nat → Prop) (p' g' cap j : Nat) (G : Nat → Option Nat) : Prop where
  src : ArIs wr p g N M L Ft
  hp : wr.heap[p']? = some (.cells (arbC (ndM N) (.slice (some ⟨g', 0, none⟩) L.length cap)) 57 (0, 0))
  rows : CpRows wr p' g' w.heap.size j L G
  gl : g' < wr.heap.size
  bel : Below w.heap.size w wr

theorem CpMid.step {w wr w2 : World} {p g N M : Nat} {L : List Rq} {Ft : Nat → Prop} {p' g' cap j : Nat} {G : Nat → Option Nat} {v : Value} {ob : Option Nat} (h : CpMid w wr p g N M L Ft p' g' cap j G) (hb : Below wr.heap.size wr w2) (hj : j < L.length) (hW : WtIs w2 v ob (wtQ L[j])) (hob : ∀ b, ob = some b → wr.heap.size ≤ b) (hg : w.heap.size ≤ g') (hpg : p' ≠ g') (h1 : p ≠ g') (h2 : ¬ Ft g') :
    CpMid w (w2.setCell ⟨g', j * 69 + 68, none⟩ v) p g N M L Ft p' g' cap (j + 1) (fun k => if k = j then ob else G k) := by
  have hf : FrS (· = g') w2 (w2.setCell ⟨g', j * 69 + 68, none⟩ v) := (FrS.refl (· = g') w2).setCell (q := ⟨g', j * 69 + 68, none⟩) (.inl rfl) v
  have hpl := (Array.getElem?_eq_some_iff.1 h.hp).1
  refine ⟨(h.src.below hb).fr hf h1 (fun b hb e => h2 (e ▸ hb)), ?_, h.rows.step h.gl hpl h.bel.size hb hj hW hob, by simp; exact Nat.lt_of_lt_of_le h.gl hb.size, (h.bel.trans (hb.mono h.bel.size)).setCell hg v⟩
  rw [hf.block p' (Nat.lt_of_lt_of_le hpl hb.size) hpg, hb.block p' hpl]
  exact h.hp

set_option maxHeartbeats 1000000 in
theorem aCopy_c (p g N M : Nat) (L : List Rq) (Ft : Nat → Prop) (w : World) (h : ArIs w p g N M L Ft) (hM : M ≤ 100000) : Calls Try.prog 19 #[ptr p] w fun e w' => ∃ p', e = .returned (ptr p') ∧ ∃ g' Ft', ArIs w' p' g' N M L Ft' ∧ (∀ b, Ft' b → w.heap.size ≤ b) ∧ w.heap.size ≤ p' ∧ Below w.heap.size w w' := by
  have hH := hide h
  obtain ⟨cap, c64, -, -⟩ := h.c64
  have hpl := h.pl
  have hgl := h.gl
  have hl64 := h.l64
  obtain ⟨n, hn⟩ : ∃ n, Hid (L.length = n) := ⟨_, rfl⟩
  have hn64 : n ≤ 64 := by rw [← hn.out]; exact hl64
  obtain ⟨G0, hG0⟩ := h.rows
  have hone := hide hG0.one
  have hrow := hide hG0.row
  have hmk := hide h.marks
  rw [hn.out] at c64
  clear h hG0
  go_enter Try.func19, Try.ntmps19
  go_wp2_with fail
  refine wp_region_noPanic ?_
  refine wp_region_held_drew (S := (fun w' => Hid (w'.rangeAt p 0 (mkM (ndM N))) ∧ w'.cell? ⟨p, 64, none⟩ = some (.slice (some ⟨g, 0, none⟩) n cap))) (by kernel_rfl) ?_ (fun hHeld => ?_)
  · exact ⟨hide ((World.rangeAt_drew _ _ _ _).2 hmk.out), c64⟩
  refine hand_take (i := 0) (d := some 5) (v := ?_) rfl (by kernel_rfl) (by kernel_rfl) (by kernel_rfl) (fun _ _ _ h => h) ?_ hHeld ?_
  rotate_left
  · intro o ho
    simp at ho
    subst ho
    intro wz hSw
    try dsimp only at hSw
    go_simp
    try with_reducible rfl
  try simp only [Act.put, List.setIfInBounds_toArray, List.set_cons_zero, List.set_cons_succ]
  refine hand_take (i := 1) (d := some 6) (v := ?_) rfl (by kernel_rfl) (by kernel_rfl) (by kernel_rfl) (fun _ _ _ h => h) ?_ hHeld ?_
  rotate_left
  · intro o ho
    simp at ho
    subst ho
    intro wz hSw
    try dsimp only at hSw
    go_simp
    try with_reducible rfl
  try simp only [Act.put, List.setIfInBounds_toArray, List.set_cons_zero, List.set_cons_succ]
  refine hand_take (i := 2) (d := some 7) (v := ?_) rfl (by kernel_rfl) (by kernel_rfl) (by kernel_rfl) (fun _ _ _ h => h) ?_ hHeld ?_
  rotate_left
  · intro o ho
    simp at ho
    subst ho
    intro wz hSw
    try dsimp only at hSw
    go_simp
    try with_reducible rfl
  try simp only [Act.put, List.setIfInBounds_toArray, List.set_cons_zero, List.set_cons_succ]
  refine hand_take (i := 4) (d := some 9) (v := ?_) rfl (by kernel_rfl) (by kernel_rfl) (by kernel_rfl) (fun _ _ _ h => h) ?_ hHeld ?_
  rotate_left
  · intro o ho
    simp at ho
    subst ho
    intro wz hSw
    try dsimp only at hSw
    go_simp
    try with_reducible rfl
  try simp only [Act.put, List.setIfInBounds_toArray, List.set_cons_zero, List.set_cons_succ]
  refine hand_take (i := 5) (d := some 10) (v := ?_) rfl (by kernel_rfl) (by kernel_rfl) (by kernel_rfl) (fun _ _ _ h => h) ?_ hHeld ?_
  rotate_left
  · intro o ho
    simp at ho
    subst ho
    intro wz hSw
    try dsimp only at hSw
    go_simp
    try with_reducible rfl
  try simp only [Act.put, List.setIfInBounds_toArray, List.set_cons_zero, List.set_cons_succ]
  refine hand_take (i := 6) (d := some 11) (v := ?_) rfl (by kernel_rfl) (by kernel_rfl) (by kernel_rfl) (fun _ _ _ h => h) ?_ hHeld ?_
  rotate_left
  · intro o ho
    simp at ho
    subst ho
    intro wz hSw
    try dsimp only at hSw
    go_simp
    try with_reducible rfl
  try simp only [Act.put, List.setIfInBounds_toArray, List.set_cons_zero, List.set_cons_succ]
  refine hand_take (i := 7) (d := some 12) (v := ?_) rfl (by kernel_rfl) (by kernel_rfl) (by kernel_rfl) (fun _ _ _ h => h) ?_ hHeld ?_
  rotate_left
  · intro o ho
    simp at ho
    subst ho
    intro wz hSw
    try dsimp only at hSw
    go_simp
    try with_reducible rfl
  try simp only [Act.put, List.setIfInBounds_toArray, List.set_cons_zero, List.set_cons_succ]
  refine hand_take (i := 3) (d := some 8) (v := .agg (mkM (ndM N)).toArray) rfl (by kernel_rfl) (by kernel_rfl) (by kernel_rfl) (fun _ _ _ h => h) ?_ hHeld ?_
  · intro o ho
    simp at ho
    subst ho
    intro wz hSw
    try dsimp only at hSw
    exact exec_loadM (.tmp 7) rfl rfl hSw.1.out
  try simp only [Act.put, List.setIfInBounds_toArray, List.set_cons_zero, List.set_cons_succ]
  refine hand_call (i := 8) rfl (by kernel_rfl) ?_
  intro o ho
  simp at ho
  subst ho
  intro K hK
  go_simp
  go_at_call 32
  refine (cloneQ_c g n cap w.drew hgl (fun i hi => hone.out i (by rw [hn.out]; exact hi)) hn64).mono ?_
  rintro e w1 ⟨g', cap', rfl, hB1, hg1, hg2, hc1, hc2, hcl⟩
  have hB1' : Below w.heap.size w w1 := ((Below.refl _ _).drew).trans hB1
  have ep := hB1'.block p hpl
  refine hK.out _ _ ?_ (fun hHeld => ?_)
  · exact ⟨hide (fun j v hv => keep_cell ep (hmk.out j v hv)), keep_cell ep c64⟩
  clear hK K
  try simp only [Act.put, List.setIfInBounds_toArray, List.set_cons_zero, List.set_cons_succ]
  refine hand_take (i := 9) (d := some 14) (v := .agg (arbC (ndM N) (.slice (some ⟨g', 0, none⟩) n cap'))) rfl (by kernel_rfl) (by kernel_rfl) (by kernel_rfl) (fun _ _ _ h => h) ?_ hHeld ?_
  · intro o ho
    simp at ho
    subst ho
    intro wz hSw
    try dsimp only at hSw
    exact exec_buildC (.tmp 8) (.tmp 13) rfl rfl rfl
  try simp only [Act.put, List.setIfInBounds_toArray, List.set_cons_zero, List.set_cons_succ]
  have hMid : Hid (CpMid w (w1.alloc (.cells (arbC (ndM N) (.slice (some ⟨g', 0, none⟩) n cap')) 57)) p g N M L Ft w1.heap.size g' cap' 0 (fun _ => none)) := hide (by
    refine ⟨((unhide hH).below hB1').alloc _, by rw [hn.out]; exact heap_alloc_new w1 _, ⟨fun k hk => ?_, fun k hk h => absurd h (Nat.not_lt_zero _), fun k b hk h => absurd h (Nat.not_lt_zero _), fun i k b h => absurd h (Nat.not_lt_zero _)⟩, by simp; omega, hB1'.alloc hB1'.size _⟩
    have hk' : k * 69 + 69 ≤ n * 69 := by rw [← hn.out]; omega
    refine RowC.carry (w := w1) ?_ (Below.heap_alloc _ _ _ hg2)
    refine (hrow.out k hk).c.keep fun i hi => ?_
    obtain ⟨e1, e2⟩ := hcl (k * 69 + i) (by omega)
    exact ⟨e1, e2.trans ((hrow.out k hk).c.th i hi).2.symm⟩)
  have hB2 : Below w.heap.size w (w1.alloc (.cells (arbC (ndM N) (.slice (some ⟨g', 0, none⟩) n cap')) 57)) := hB1'.alloc hB1'.size _
  have e2 := hB2.block p hpl
  replace hB2 := hide hB2
  have hs1 := hB1'.size
  have hg1' : w.heap.size ≤ g' := hg1
  have k64 : (w1.alloc (.cells (arbC (ndM N) (.slice (some ⟨g', 0, none⟩) n cap')) 57)).cell? ⟨w1.heap.size, 64, none⟩ = some (.slice (some ⟨g', 0, none⟩) n cap') := (cell_of_row _ _ _ _ _ _ (heap_alloc_new w1 _)).trans (arbC_last _ _)
  clear hcl hB1 hB1' hrow hone hg1
  refine hand_call (i := 10) rfl (by kernel_rfl) ?_
  intro o ho
  simp at ho
  subst ho
  intro K hK
  go_simp
  refine hK.out _ _ ?_ (fun hHeld => ?_)
  · exact ⟨hide (fun j v hv => keep_cell e2 (hmk.out j v hv)), keep_cell e2 c64⟩
  clear hK K
  try simp only [Act.put, List.setIfInBounds_toArray, List.set_cons_zero, List.set_cons_succ]
  refine hand_take (i := 11) (d := some 3) (v := ?_) rfl (by kernel_rfl) (by kernel_rfl) (by kernel_rfl) (fun _ _ _ h => h) ?_ hHeld ?_
  rotate_left
  · intro o ho
    simp at ho
    subst ho
    intro wz hSw
    try dsimp only at hSw
    go_simp
    try with_reducible rfl
  try simp only [Act.put, List.setIfInBounds_toArray, List.set_cons_zero, List.set_cons_succ]
  refine wpAnyH_done (by kernel_rfl) (NoPanic.normal ?_) _
  clear hHeld
  obtain ⟨W, hW⟩ : ∃ W, w1.alloc (.cells (arbC (ndM N) (.slice (some ⟨g', 0, none⟩) n cap')) 57) = W := ⟨_, rfl⟩
  rw [hW] at hMid k64 ⊢
  obtain ⟨p', hp'⟩ : ∃ p', w1.heap.size = p' := ⟨_, rfl⟩
  rw [hp'] at hMid k64 hg2 hs1 ⊢
  clear hW hB2 e2 ep hp' hmk c64
  go_wp2_with fail
  go_loopw [21] (fun i wr => ∃ j : Nat, j ≤ n ∧ i = .int .i64 j ∧ ∃ G, CpMid w wr p g N M L Ft p' g' cap' j G) (fun i _ => n - (intOf i).toNat)
  case atStart => exact ⟨0, Nat.zero_le _, rfl, _, hMid.out⟩
  case round =>
    obtain ⟨j, hj, rfl, G, hm⟩ := hrel
    clear hMid k64
    have k64 : wr.cell? ⟨p', 64, none⟩ = some (.slice (some ⟨g', 0, none⟩) n cap') := by rw [cell_of_row _ _ _ _ _ _ hm.hp, arbC_last, hn.out]
    have hpl' := (Array.getElem?_eq_some_iff.1 hm.hp).1
    by_cases hlt : j < n
    · have hlt' : (j : Int) < n := by omega
      have hjL : j < L.length := by rw [hn.out]; exact hlt
      have hwq : Hid (wtsQ L j = wtQ L[j]) := hide (by unfold wtsQ; rw [if_pos (hasQ_iff.2 ⟨j, rfl, hjL⟩), getQ_at hjL])
      have h68 := hide (hm.rows.c j hjL).th
      have hgl' := hm.gl
      replace hm := hide hm
      go_wp2_with fail
      refine wp_region_noPanic ?_
      refine last_begin 10 (fun w' => Hid (Below wr.heap.size wr w') ∧ w'.cell? ⟨p', 64, none⟩ = some (.slice (some ⟨g', 0, none⟩) n cap')) (by kernel_rfl) ?_ (fun hHeld => ?_)
      · exact ⟨hide (Below.refl _ _).drew, k64⟩
      refine last_take (i := 0) (d := some 24) (v := ?_) rfl (by kernel_rfl) (by kernel_rfl) (by kernel_rfl) (by kernel_rfl) (fun _ _ _ h => h) ?_ hHeld ?_
      rotate_left
      · intro o ho
        simp at ho
        subst ho
        intro wz hSw
        try dsimp only at hSw
        go_simp
        try with_reducible rfl
      try simp only [Act.put, List.setIfInBounds_toArray, List.set_cons_zero, List.set_cons_succ]
      refine last_take (i := 1) (d := some 25) (v := ?_) rfl (by kernel_rfl) (by kernel_rfl) (by kernel_rfl) (by kernel_rfl) (fun _ _ _ h => h) ?_ hHeld ?_
      rotate_left
      · intro o ho
        simp at ho
        subst ho
        intro wz hSw
        try dsimp only at hSw
        go_simp
        try with_reducible rfl
      try simp only [Act.put, List.setIfInBounds_toArray, List.set_cons_zero, List.set_cons_succ]
      refine last_take (i := 2) (d := some 26) (v := ?_) rfl (by kernel_rfl) (by kernel_rfl) (by kernel_rfl) (by kernel_rfl) (fun _ _ _ h => h) ?_ hHeld ?_
      rotate_left
      · intro o ho
        simp at ho
        subst ho
        intro wz hSw
        try dsimp only at hSw
        go_simp
        try with_reducible rfl
      try simp only [Act.put, List.setIfInBounds_toArray, List.set_cons_zero, List.set_cons_succ]
      refine last_take (i := 3) (d := some 27) (v := ?_) rfl (by kernel_rfl) (by kernel_rfl) (by kernel_rfl) (by kernel_rfl) (fun _ _ _ h => h) ?_ hHeld ?_
      rotate_left
      · intro o ho
        simp at ho
        subst ho
        intro wz hSw
        try dsimp only at hSw
        go_simp
        try with_reducible rfl
      try simp only [Act.put, List.setIfInBounds_toArray, List.set_cons_zero, List.set_cons_succ]
      refine last_take (i := 4) (d := some 28) (v := ?_) rfl (by kernel_rfl) (by kernel_rfl) (by kernel_rfl) (by kernel_rfl) (fun _ _ _ h => h) ?_ hHeld ?_
      rotate_left
      · intro o ho
        simp at ho
        subst ho
        intro wz hSw
        try dsimp only at hSw
        go_simp
        try with_reducible rfl
      try simp only [Act.put, List.setIfInBounds_toArray, List.set_cons_zero, List.set_cons_succ]
      refine last_take (i := 5) (d := some 29) (v := ?_) rfl (by kernel_rfl) (by kernel_rfl) (by kernel_rfl) (by kernel_rfl) (fun _ _ _ h => h) ?_ hHeld ?_
      rotate_left
      · intro o ho
        simp at ho
        subst ho
        intro wz hSw
        try dsimp only at hSw
        go_simp
        try with_reducible rfl
      try simp only [Act.put, List.setIfInBounds_toArray, List.set_cons_zero, List.set_cons_succ]
      refine last_take (i := 6) (d := some 30) (v := ?_) rfl (by kernel_rfl) (by kernel_rfl) (by kernel_rfl) (by kernel_rfl) (fun _ _ _ h => h) ?_ hHeld ?_
      rotate_left
      · intro o ho
        simp at ho
        subst ho
        intro wz hSw
        try dsimp only at hSw
        go_simp
        try with_reducible rfl
      try simp only [Act.put, List.setIfInBounds_toArray, List.set_cons_zero, List.set_cons_succ]
      refine last_call (i := 7) rfl (by kernel_rfl) ?_
      intro oo ho
      simp at ho
      subst ho
      intro K hK
      go_simp
      go_at_call 22
      refine (aWait_c p g N M L Ft j wr.drew (hm.out.src.carry rfl (fun _ _ => rfl)) hM).mono ?_
      rintro e w2 ⟨v, rfl, ob, hW2, hob, hB2⟩
      obtain ⟨va, vn, vc, rfl⟩ := hW2.slice
      have hB3 : Below wr.heap.size wr w2 := ((Below.refl _ _).drew).trans hB2
      refine hK.out _ _ (fun _ => ?_) (fun hHeld0 => ?_)
      · exact ⟨hide hB3, keep_cell (hB3.block _ hpl') k64⟩
      clear hK K
      replace hHeld := hHeld0 (by decide)
      clear hHeld0
      try simp only [Act.put, List.setIfInBounds_toArray, List.set_cons_zero, List.set_cons_succ]
      rw [hwq.out] at hW2
      have hst := hide (hm.out.step hB3 hjL hW2 hob hg1' (by omega) (by have := (unhide hH).pl; omega) (fun e => by have := (unhide hH).lt _ e; omega))
      have q68 := keep_frozen (hB3.block g' hgl') (h68.out 68 (by omega)).2
      obtain ⟨u68, hu68⟩ := Option.isSome_iff_exists.1 (h68.out 68 (by omega)).1
      have q69 := keep_cell (hB3.block g' hgl') hu68
      clear hW2 hob hB2 hB3 hu68
      refine last_call (i := 8) rfl (by kernel_rfl) ?_
      intro o ho
      simp at ho
      subst ho
      intro K hK
      go_simp
      refine hK.out _ _ (fun _ => ?_) (fun hHeld0 => ?_)
      · exact hHeld
      clear hK K
      replace hHeld := hHeld0 (by decide)
      clear hHeld0
      try simp only [Act.put, List.setIfInBounds_toArray, List.set_cons_zero, List.set_cons_succ]
      refine last_take (i := 9) (d := some 33) (v := ?_) rfl (by kernel_rfl) (by kernel_rfl) (by kernel_rfl) (by kernel_rfl) (fun _ _ _ h => h) ?_ hHeld ?_
      rotate_left
      · intro o ho
        simp at ho
        subst ho
        intro wz hSw
        try dsimp only at hSw
        go_simp
        try with_reducible rfl
      try simp only [Act.put, List.setIfInBounds_toArray, List.set_cons_zero, List.set_cons_succ]
      refine last_call (i := 10) rfl (by kernel_rfl) ?_
      intro o ho
      simp at ho
      subst ho
      intro K hK
      go_simp
      refine hK.out _ _ (fun h => absurd rfl h) (fun _ => ?_)
      clear hK K
      try simp only [Act.put, List.setIfInBounds_toArray, List.set_cons_zero, List.set_cons_succ]
      refine last_done (by kernel_rfl) (NoPanic.normal ?_) _
      clear hHeld
      go_wp2_with fail
      go_roundw
      case rel => exact ⟨j + 1, by omega, by simp, _, hst.out⟩
      case measure => simp [intOf]; omega
    · obtain rfl : j = n := by omega
      replace hm := hide hm
      go_wp2_with fail
      go_ret
      have hr := hm.out.rows
      rw [← hn.out] at hr hc1
      obtain ⟨Ft', hA, hF⟩ := hr.ar hm.out.hp hc1 hc2 (unhide hH).n64 hl64 (unhide hH).inv hm.out.gl (by omega) hg1'
      exact ⟨p', rfl, g', Ft', hA, hF, by omega, hm.out.bel⟩
end Go.Proofs.Ytlfdahcbkdiifaa
