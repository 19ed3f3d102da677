/- The contracts of the document's New, Waiting (layer 12). -/
import Derived.Test.YtlfdahcbkdiifaaRdA
namespace Go.Proofs.Ytlfdahcbkdiifaa
open Go.ChangeShapes Go.WideShapes Go.ChangeAt Go.RowKit
set_option linter.unusedSimpArgs false
set_option linter.unusedVariables false
set_option maxRecDepth 10000

attribute [local go_sem, local simp] over_const setCell_drewN alloc_drewN Over.cell Over.frozen lt_s1 lt_s2 lt_s3 le_s0 le_s1 le_s2 le_s3 eq_s0 eq_s1 eq_s2 qe_s0

/-- A row's cells at first. -/
def zcD : List Value := [.slice none 0 0, .int .i64 0, .int .i64 0, .slice none 0 0]
theorem infoRow : (Try.prog.info? 63).map (fun i => (i.zero, i.size, i.bytes)) = some (some (.agg zcD.toArray), 4, 64) := by kernel_rfl

theorem rowD_made {w : World} {F : Nat → Prop} {g k : Nat} {C : Array Value} {ty : TypeId} (hb : w.heap[g]? = some (.cells C ty (0, 0))) (hC : ∀ c, c < 4 → C[k * 4 + c]? = zcD[c]?) : RowD w F g (k * 4) rq0 := by
  have hc : ∀ c, c < 4 → w.cell? ⟨g, k * 4 + c, none⟩ = zcD[c]? := fun c h => (cell_of_row _ _ _ _ _ _ hb).trans (hC c h)
  refine ⟨⟨.slice none 0 0, hc 0 (by omega), 0, view_nil _ _, fun e => absurd rfl e⟩, hc 1 (by omega), hc 2 (by omega), ⟨.slice none 0 0, hc 3 (by omega), 0, view_nil _ _, fun e => absurd rfl e⟩, fun j hj => ⟨?_, frozen_of_row _ _ _ _ _ hb⟩⟩
  rw [hc j hj, List.getElem?_eq_getElem (by exact hj)]
  rfl
theorem madeD_at (n k c : Nat) (hk : k < n) (hc : c < 4) : (madeCells (Value.agg zcD.toArray).cells (n * 4))[k * 4 + c]? = zcD[c]? := by
  have hl : zcD.length = 4 := rfl
  simp only [madeCells, Value.cells]
  rw [Array.getElem?_map, Array.getElem?_range, if_pos (by omega)]
  simp only [Option.map_some, List.size_toArray, hl]
  rw [show (k * 4 + c) % 4 = c by omega, List.getElem?_eq_getElem (by omega)]
  simp [hl, hc]

section
variable {w : World} {ops : Array Oper} {rest : List Oper} {o : Oper} {a : Act} {Q : Exit → Act → World → Prop}
theorem wpList_makeD (hg : o.guard = none) (l c : Operand) (hop : o.op = Op.makeSlice 39 l c) (n : Nat) (hl : a.eval l = .int .i64 (n : Int)) (hc : a.eval c = .int .i64 (n : Int)) (hn : n ≤ 64)
    (hK : ∀ w', (∀ k F, k < n → RowD w' F w.heap.size (k * 4) rq0) → Below w.heap.size w w' → w'.heap.size = w.heap.size + 1 → wpList Try.prog ops Q rest (a.put o.dst (slD w.heap.size n)) w') : wpList Try.prog ops Q (o :: rest) a w := by
  refine wpList_plain hg fun K hK' => ?_
  obtain ⟨i, hi, hz0, hz1, hz2⟩ := info_parts infoRow
  have hrun := run_make (P := Try.prog) w 39 _ i _ Try.underlying39 hi hz0 .i64 .i64 n n (by omega) (Int.le_refl _) (by rw [hz2]; omega) (by omega)
  simp only [Int.toNat_natCast, hz1] at hrun
  unfold Oper.wp
  simp [execOp, hop, hl, hc, hrun, Result.andThen]
  exact hK' _ _ (hK _ (fun k F hk => rowD_made (heap_alloc_new w _) (fun c h => madeD_at n k c hk h)) ((Below.refl _ _).alloc (Nat.le_refl _) _) (by simp))
end

def szN (x : Int) : Nat := if x < 0 then 0 else if 64 < x then 64 else x.toNat

set_option maxHeartbeats 1000000 in
theorem dNew_c (s t : Int) (w : World) (K n : Nat) (hK : Hid (szN s = K)) (hn : Hid (szN t = n)) : Calls Try.prog 11 #[.int .i64 s, .int .i64 t] w fun e w' => ∃ q, e = .returned (ptr q) ∧ ∃ h F, RdIs w' q h K 0 (List.replicate n rq0) F ∧ (∀ b, F b → w.heap.size ≤ b) ∧ w.heap.size ≤ q ∧ Below w.heap.size w w' := by
  have hn64 : n ≤ 64 := by rw [← hn.out]; unfold szN; split; omega; split <;> omega
  have hK64 : K ≤ 64 := by rw [← hK.out]; unfold szN; split; omega; split <;> omega
  have cs : (s < 0 ∧ K = 0) ∨ (64 < s ∧ ¬ s < 0 ∧ K = 64) ∨ (¬ s < 0 ∧ ¬ 64 < s ∧ s = K) := by have := hK.out; unfold szN at this; split at this; omega; split at this <;> omega
  have ct : (t < 0 ∧ n = 0) ∨ (64 < t ∧ ¬ t < 0 ∧ n = 64) ∨ (¬ t < 0 ∧ ¬ 64 < t ∧ t = n) := by have := hn.out; unfold szN at this; split at this; omega; split at this <;> omega
  have fin : ∀ w1 : World, (∀ k F, k < n → RowD w1 F w.heap.size (k * 4) rq0) → Below w.heap.size w w1 → w1.heap.size = w.heap.size + 1 → RdIs (w1.alloc (.cells #[.int .i64 K, slD w.heap.size n] 41)) w1.heap.size w.heap.size K 0 (List.replicate n rq0) (· = w.heap.size) := fun w1 h1 h2 h3 => by
    refine ⟨hK64, by simpa using hn64, fun r hr => ?_, (cell_of_row _ _ _ _ _ _ (heap_alloc_new w1 _)).trans rfl, ?_, by simp, rfl, by omega, fun b hb => by simp; omega, fun k hk => ?_⟩
    · obtain rfl := List.eq_of_mem_replicate hr; exact (rinv0 K 0).pre
    · rw [List.length_replicate]; exact (cell_of_row _ _ _ _ _ _ (heap_alloc_new w1 _)).trans rfl
    · rw [List.getElem_replicate]
      have e := Below.heap_alloc w1 (.cells #[.int .i64 K, slD w.heap.size n] 41) w.heap.size (by omega)
      exact (h1 k (· = w.heap.size) (by simpa using hk)).keep (fun i _ => ⟨World.cell?_of_block (w := w1) e, World.frozen?_of_block (w := w1) e⟩) (fun b hb hne => absurd hb hne) (fun _ h => h)
  replace fin := hide fin
  rcases cs with ⟨c1, rfl⟩ | ⟨c1, c2, rfl⟩ | ⟨c1, c2, rfl⟩ <;> rcases ct with ⟨d1, rfl⟩ | ⟨d1, d2, rfl⟩ | ⟨d1, d2, rfl⟩
  · go_enter Try.func11, Try.ntmps11
    go_wp2_with (at_make; refine wpList_makeD rfl _ _ rfl 0 rfl rfl hn64 ?_; intro w1 hO1 hB1 hs1; have F1 := hide (fin.out w1 hO1 hB1 hs1); replace hB1 := hide hB1; clear hO1 hs1)
    go_ret
    exact ⟨_, rfl, _, _, F1.out, fun b hb => (by omega), hB1.out.size, hB1.out.alloc hB1.out.size _⟩
  · go_enter Try.func11, Try.ntmps11
    go_wp2_with (at_make; refine wpList_makeD rfl _ _ rfl 64 rfl rfl hn64 ?_; intro w1 hO1 hB1 hs1; have F1 := hide (fin.out w1 hO1 hB1 hs1); replace hB1 := hide hB1; clear hO1 hs1)
    go_ret
    exact ⟨_, rfl, _, _, F1.out, fun b hb => (by omega), hB1.out.size, hB1.out.alloc hB1.out.size _⟩
  · go_enter Try.func11, Try.ntmps11
    go_wp2_with (at_make; refine wpList_makeD rfl _ _ rfl n rfl rfl hn64 ?_; intro w1 hO1 hB1 hs1; have F1 := hide (fin.out w1 hO1 hB1 hs1); replace hB1 := hide hB1; clear hO1 hs1)
    go_ret
    exact ⟨_, rfl, _, _, F1.out, fun b hb => (by omega), hB1.out.size, hB1.out.alloc hB1.out.size _⟩
  · go_enter Try.func11, Try.ntmps11
    go_wp2_with (at_make; refine wpList_makeD rfl _ _ rfl 0 rfl rfl hn64 ?_; intro w1 hO1 hB1 hs1; have F1 := hide (fin.out w1 hO1 hB1 hs1); replace hB1 := hide hB1; clear hO1 hs1)
    go_ret
    exact ⟨_, rfl, _, _, F1.out, fun b hb => (by omega), hB1.out.size, hB1.out.alloc hB1.out.size _⟩
  · go_enter Try.func11, Try.ntmps11
    go_wp2_with (at_make; refine wpList_makeD rfl _ _ rfl 64 rfl rfl hn64 ?_; intro w1 hO1 hB1 hs1; have F1 := hide (fin.out w1 hO1 hB1 hs1); replace hB1 := hide hB1; clear hO1 hs1)
    go_ret
    exact ⟨_, rfl, _, _, F1.out, fun b hb => (by omega), hB1.out.size, hB1.out.alloc hB1.out.size _⟩
  · go_enter Try.func11, Try.ntmps11
    go_wp2_with (at_make; refine wpList_makeD rfl _ _ rfl n rfl rfl hn64 ?_; intro w1 hO1 hB1 hs1; have F1 := hide (fin.out w1 hO1 hB1 hs1); replace hB1 := hide hB1; clear hO1 hs1)
    go_ret
    exact ⟨_, rfl, _, _, F1.out, fun b hb => (by omega), hB1.out.size, hB1.out.alloc hB1.out.size _⟩
  · go_enter Try.func11, Try.ntmps11
    go_wp2_with (at_make; refine wpList_makeD rfl _ _ rfl 0 rfl rfl hn64 ?_; intro w1 hO1 hB1 hs1; have F1 := hide (fin.out w1 hO1 hB1 hs1); replace hB1 := hide hB1; clear hO1 hs1)
    go_ret
    exact ⟨_, rfl, _, _, F1.out, fun b hb => (by omega), hB1.out.size, hB1.out.alloc hB1.out.size _⟩
  · go_enter Try.func11, Try.ntmps11
    go_wp2_with (at_make; refine wpList_makeD rfl _ _ rfl 64 rfl rfl hn64 ?_; intro w1 hO1 hB1 hs1; have F1 := hide (fin.out w1 hO1 hB1 hs1); replace hB1 := hide hB1; clear hO1 hs1)
    go_ret
    exact ⟨_, rfl, _, _, F1.out, fun b hb => (by omega), hB1.out.size, hB1.out.alloc hB1.out.size _⟩
  · go_enter Try.func11, Try.ntmps11
    go_wp2_with (at_make; refine wpList_makeD rfl _ _ rfl n rfl rfl hn64 ?_; intro w1 hO1 hB1 hs1; have F1 := hide (fin.out w1 hO1 hB1 hs1); replace hB1 := hide hB1; clear hO1 hs1)
    go_ret
    exact ⟨_, rfl, _, _, F1.out, fun b hb => (by omega), hB1.out.size, hB1.out.alloc hB1.out.size _⟩

/-- A slice cut off at its head. -/
def cutV (ao : Option Addr) (m cap n : Nat) : Value := .slice (if cap = n then ao else ao.map (·.add (n * 1))) (m - n) (cap - n)
theorem exec_cutV {a : Act} {o : Oper} {w : World} (x y : Operand) (ho : o.op = .slice 43 x (some y) none none) {ao : Option Addr} {m cap n : Nat} (hx : a.eval x = .slice ao m cap) (hy : a.eval y = .int .i64 (n : Int)) (hn : n ≤ m) (hm : m ≤ cap) : (execOp a.eval o).run Try.prog w = .ok (.value (cutV ao m cap n)) w := by
  have hs : ∀ w, (sizeOf 3).run Try.prog w = .ok 1 w := fun w => by kernel_rfl
  have hb : ∀ w code, (Instr.sliceBound (.int .i64 (n : Int)) m code).run Try.prog w = .ok n w := fun w code => by
    have := run_sliceBound (P := Try.prog) w .i64 (n : Int) m code (by omega) (by omega)
    simpa using this
  unfold execOp
  simp only [ho, hx, hy, Option.map_some, Option.map_none, Sem.run_bind, Sem.run_pure, Result.andThen_ok]
  rw [run_sliceAt_slice w 43 _ _ _ _ Try.underlying43]
  simp only [Instr.slice, Instr.sliceBounds, Sem.run_bind, Sem.run_pure, Result.andThen_ok, run_underlying Try.underlying43, hb, hs, Option.isSome_none, Bool.false_eq_true, if_false]
  rfl
theorem View.cut {w : World} {ao : Option Addr} {m cap b n : Nat} {A : List Int} (h : View w (.slice ao m cap) b A) (hn : n ≤ m) : View w (cutV ao m cap n) b (A.drop n) := by
  obtain ⟨ao', cap', e, h1, h2, h3⟩ := h
  cases e
  refine ⟨_, cap - n, by unfold cutV; rw [List.length_drop], by rw [List.length_drop]; omega, by omega, ?_⟩
  by_cases hz : A.drop n = []
  · exact .inl hz
  · have hlt : n < A.length := by
      apply Classical.byContradiction
      intro hc
      exact hz (List.drop_eq_nil_of_le (by omega))
    rcases h3 with rfl | ⟨o, rfl, h4, h5⟩
    · simp at hlt
    · refine .inr ⟨o + n, ?_, h4, fun j hj => ?_⟩
      · rw [if_neg (by omega), Option.map_some, Addr.add_lit, Nat.mul_one]
      · rw [List.length_drop] at hj
        have := h5 (n + j) (by omega)
        rw [← Nat.add_assoc] at this
        rw [this]
        simp [ints]


theorem own_emptyKJ {w : World} {k : Nat} (hk : w.heap.size = k) (o : Obj) : Own (w.alloc o) (.slice (some ⟨k, 0, none⟩) 0 0) k [] := hk ▸ own_empty w o

set_option maxHeartbeats 2000000 in
theorem dWait_c (q h N M : Nat) (L : List Rq) (F : Nat → Prop) (x : Int) (w : World) (hr : RdIs w q h N M L F) (hM : M ≤ 100000) : Calls Try.prog 23 #[ptr q, .int .i64 x] w fun e w' => ∃ v, e = .returned v ∧ ∃ b, View w' v b (wtsQ L x) ∧ Below w.heap.size w w' := by
  have hH := hide hr
  have c1 := hr.c1
  have hql := hr.ql
  have hhl := hr.hl
  obtain ⟨b, hb⟩ : ∃ b, Hid (hasQ L.length x = b) := ⟨_, rfl⟩
  obtain ⟨T, hT⟩ : ∃ T, Hid (wtsQ L x = T) := ⟨_, rfl⟩
  have hT' := hT.out
  unfold wtsQ at hT'
  rw [hb.out] at hT'
  rw [hT.out]
  cases b with
  | false =>
    obtain rfl : T = [] := by rw [← hT']; rfl
    clear hT' hr
    go_enter Try.func23, Try.ntmps23
    go_wp2_with fail
    go_at_call 28
    refine (dBlock_c q h N M L F x _ hH.out false hb).mono ?_
    rintro e w' ⟨rfl, hw'⟩
    rw [hw']
    clear hw' w'
    go_wp2_with fail
    go_ret
    exact ⟨_, rfl, 0, view_nil _ _, Below.refl _ _⟩
  | true =>
    obtain ⟨j, rfl, hj⟩ := hasQ_iff.1 hb.out
    have hrow := hr.rows j hj
    have hI := hr.inv.get hj
    rw [if_pos rfl, getQ_at hj] at hT'
    obtain ⟨r, hrj⟩ : ∃ r, L[j] = r := ⟨_, rfl⟩
    rw [hrj] at hrow hI hT'
    obtain ⟨v0, k0, b0, hVw, -⟩ := hrow.c0
    obtain ⟨ao, cap, rfl, hlc, hmx, hcs⟩ := hVw
    have k1 := hrow.c1
    have hle := hI.le
    have hal := hI.al
    unfold wtQ at hT'
    have hTl : T.length = r.A.length - r.n := by rw [← hT', List.length_drop]
    obtain ⟨nA, hnA⟩ : ∃ nA, r.A.length = nA := ⟨_, rfl⟩
    obtain ⟨n, hn⟩ : ∃ n, r.n = n := ⟨_, rfl⟩
    rw [hnA] at k0 hle hal hTl hlc
    rw [hn] at k1 hle hTl hT'
    have hj' : (j : Int) < L.length := by omega
    have hle' : (n : Int) ≤ nA := by omega
    have hcut := hide (View.cut (w := w) (b := b0) (n := n) (A := r.A) ⟨ao, cap, by rw [hnA], by rw [hnA]; exact hlc, hmx, hcs⟩ hle)
    rw [hT'] at hcut
    have hl1 : Hid (([] : List Int).length + T.length ≤ 1000000) := hide (by rw [hTl]; simp; omega)
    have hl2 : Hid (([] : List Int).length + T.length = nA - n) := hide (by rw [hTl]; simp)
    replace hTl := hide hTl
    replace hrj := hide hrj
    clear hrow hI hr hcs hmx hnA hn hT'
    go_enter Try.func23, Try.ntmps23
    go_wp2_with fail
    go_at_call 28
    refine (dBlock_c q h N M L F j _ hH.out true hb).mono ?_
    rintro e w' ⟨rfl, hw'⟩
    rw [hw']
    clear hw' w'
    go_wp2_with fail
    refine wp_region_noPanic ?_
    refine wp_region_held_drew (S := (fun w' => Hid (Below w.heap.size w w') ∧ w'.cell? ⟨q, 1, none⟩ = some (slD h L.length) ∧ w'.cell? ⟨h, j * 4, none⟩ = some (.slice ao nA cap) ∧ w'.cell? ⟨h, j * 4 + 1, none⟩ = some (.int .i64 n))) (by kernel_rfl) ?_ (fun hHeld => ?_)
    · exact ⟨hide (Below.refl _ _).drew, c1, k0, k1⟩
    refine hand_take (i := 1) (d := some 10) (v := ?_) rfl (by kernel_rfl) (by kernel_rfl) (by kernel_rfl) (fun _ _ _ h => h) ?_ hHeld ?_
    rotate_left
    · intro o ho
      simp at ho
      subst ho
      intro wz hSw
      try dsimp only at hSw
      go_simp
      try with_reducible rfl
    try simp only [Act.put, List.setIfInBounds_toArray, List.set_cons_zero, List.set_cons_succ]
    refine hand_take (i := 2) (d := some 11) (v := ?_) rfl (by kernel_rfl) (by kernel_rfl) (by kernel_rfl) (fun _ _ _ h => h) ?_ hHeld ?_
    rotate_left
    · intro o ho
      simp at ho
      subst ho
      intro wz hSw
      try dsimp only at hSw
      go_simp
      try with_reducible rfl
    try simp only [Act.put, List.setIfInBounds_toArray, List.set_cons_zero, List.set_cons_succ]
    refine hand_take (i := 3) (d := some 12) (v := ?_) rfl (by kernel_rfl) (by kernel_rfl) (by kernel_rfl) (fun _ _ _ h => h) ?_ hHeld ?_
    rotate_left
    · intro o ho
      simp at ho
      subst ho
      intro wz hSw
      try dsimp only at hSw
      go_simp
      try with_reducible rfl
    try simp only [Act.put, List.setIfInBounds_toArray, List.set_cons_zero, List.set_cons_succ]
    refine hand_take (i := 4) (d := some 13) (v := ?_) rfl (by kernel_rfl) (by kernel_rfl) (by kernel_rfl) (fun _ _ _ h => h) ?_ hHeld ?_
    rotate_left
    · intro o ho
      simp at ho
      subst ho
      intro wz hSw
      try dsimp only at hSw
      go_simp
      try with_reducible rfl
    try simp only [Act.put, List.setIfInBounds_toArray, List.set_cons_zero, List.set_cons_succ]
    refine hand_take (i := 5) (d := some 14) (v := ?_) rfl (by kernel_rfl) (by kernel_rfl) (by kernel_rfl) (fun _ _ _ h => h) ?_ hHeld ?_
    rotate_left
    · intro o ho
      simp at ho
      subst ho
      intro wz hSw
      try dsimp only at hSw
      go_simp
      try with_reducible rfl
    try simp only [Act.put, List.setIfInBounds_toArray, List.set_cons_zero, List.set_cons_succ]
    refine hand_take (i := 6) (d := some 15) (v := ?_) rfl (by kernel_rfl) (by kernel_rfl) (by kernel_rfl) (fun _ _ _ h => h) ?_ hHeld ?_
    rotate_left
    · intro o ho
      simp at ho
      subst ho
      intro wz hSw
      try dsimp only at hSw
      go_simp
      try with_reducible rfl
    try simp only [Act.put, List.setIfInBounds_toArray, List.set_cons_zero, List.set_cons_succ]
    refine hand_take (i := 7) (d := some 16) (v := ?_) rfl (by kernel_rfl) (by kernel_rfl) (by kernel_rfl) (fun _ _ _ h => h) ?_ hHeld ?_
    rotate_left
    · intro o ho
      simp at ho
      subst ho
      intro wz hSw
      try dsimp only at hSw
      go_simp
      try with_reducible rfl
    try simp only [Act.put, List.setIfInBounds_toArray, List.set_cons_zero, List.set_cons_succ]
    refine hand_take (i := 8) (d := some 17) (v := ?_) rfl (by kernel_rfl) (by kernel_rfl) (by kernel_rfl) (fun _ _ _ h => h) ?_ hHeld ?_
    rotate_left
    · intro o ho
      simp at ho
      subst ho
      intro wz hSw
      try dsimp only at hSw
      go_simp
      try with_reducible rfl
    try simp only [Act.put, List.setIfInBounds_toArray, List.set_cons_zero, List.set_cons_succ]
    refine hand_take (i := 9) (d := some 18) (v := ?_) rfl (by kernel_rfl) (by kernel_rfl) (by kernel_rfl) (fun _ _ _ h => h) ?_ hHeld ?_
    rotate_left
    · intro o ho
      simp at ho
      subst ho
      intro wz hSw
      try dsimp only at hSw
      go_simp
      try with_reducible rfl
    try simp only [Act.put, List.setIfInBounds_toArray, List.set_cons_zero, List.set_cons_succ]
    refine hand_take (i := 10) (d := some 19) (v := ?_) rfl (by kernel_rfl) (by kernel_rfl) (by kernel_rfl) (fun _ _ _ h => h) ?_ hHeld ?_
    rotate_left
    · intro o ho
      simp at ho
      subst ho
      intro wz hSw
      try dsimp only at hSw
      go_simp
      try with_reducible rfl
    try simp only [Act.put, List.setIfInBounds_toArray, List.set_cons_zero, List.set_cons_succ]
    refine hand_take (i := 11) (d := some 20) (v := ?_) rfl (by kernel_rfl) (by kernel_rfl) (by kernel_rfl) (fun _ _ _ h => h) ?_ hHeld ?_
    rotate_left
    · intro o ho
      simp at ho
      subst ho
      intro wz hSw
      try dsimp only at hSw
      go_simp
      try with_reducible rfl
    try simp only [Act.put, List.setIfInBounds_toArray, List.set_cons_zero, List.set_cons_succ]
    refine hand_take (i := 12) (d := some 21) (v := ?_) rfl (by kernel_rfl) (by kernel_rfl) (by kernel_rfl) (fun _ _ _ h => h) ?_ hHeld ?_
    rotate_left
    · intro o ho
      simp at ho
      subst ho
      intro wz hSw
      try dsimp only at hSw
      go_simp
      try with_reducible rfl
    try simp only [Act.put, List.setIfInBounds_toArray, List.set_cons_zero, List.set_cons_succ]
    refine hand_take (i := 13) (d := some 22) (v := ?_) rfl (by kernel_rfl) (by kernel_rfl) (by kernel_rfl) (fun _ _ _ h => h) ?_ hHeld ?_
    rotate_left
    · intro o ho
      simp at ho
      subst ho
      intro wz hSw
      try dsimp only at hSw
      go_simp
      try with_reducible rfl
    try simp only [Act.put, List.setIfInBounds_toArray, List.set_cons_zero, List.set_cons_succ]
    refine hand_take (i := 14) (d := some 23) (v := ?_) rfl (by kernel_rfl) (by kernel_rfl) (by kernel_rfl) (fun _ _ _ h => h) ?_ hHeld ?_
    rotate_left
    · intro o ho
      simp at ho
      subst ho
      intro wz hSw
      try dsimp only at hSw
      go_simp
      try with_reducible rfl
    try simp only [Act.put, List.setIfInBounds_toArray, List.set_cons_zero, List.set_cons_succ]
    refine hand_take (i := 15) (d := some 24) (v := ?_) rfl (by kernel_rfl) (by kernel_rfl) (by kernel_rfl) (fun _ _ _ h => h) ?_ hHeld ?_
    rotate_left
    · intro o ho
      simp at ho
      subst ho
      intro wz hSw
      try dsimp only at hSw
      go_simp
      try with_reducible rfl
    try simp only [Act.put, List.setIfInBounds_toArray, List.set_cons_zero, List.set_cons_succ]
    refine hand_take (i := 16) (d := some 25) (v := ?_) rfl (by kernel_rfl) (by kernel_rfl) (by kernel_rfl) (fun _ _ _ h => h) ?_ hHeld ?_
    rotate_left
    · intro o ho
      simp at ho
      subst ho
      intro wz hSw
      try dsimp only at hSw
      go_simp
      try with_reducible rfl
    try simp only [Act.put, List.setIfInBounds_toArray, List.set_cons_zero, List.set_cons_succ]
    refine hand_take (i := 17) (d := some 26) (v := cutV ao nA cap n) rfl (by kernel_rfl) (by kernel_rfl) (by kernel_rfl) (fun _ _ _ h => h) ?_ hHeld ?_
    · intro o ho
      simp at ho
      subst ho
      intro wz hSw
      try dsimp only at hSw
      exact exec_cutV (.tmp 17) (.tmp 25) rfl rfl rfl hle hlc
    try simp only [Act.put, List.setIfInBounds_toArray, List.set_cons_zero, List.set_cons_succ]
    have hB1 : Below w.heap.size w (w.drew.alloc (.cells #[] 3)) := (Below.refl _ _).drew.alloc (Nat.le_refl _) _
    refine hand_call (i := 0) rfl (by kernel_rfl) ?_
    intro o ho
    simp at ho
    subst ho
    intro K hK
    go_simp
    refine hK.out _ _ ?_ (fun hHeld => ?_)
    · exact ⟨hide hB1, keep_cell (hB1.block q hql) c1, keep_cell (hB1.block h hhl) k0, keep_cell (hB1.block h hhl) k1⟩
    clear hK K
    try simp only [Act.put, List.setIfInBounds_toArray, List.set_cons_zero, List.set_cons_succ]
    refine hand_call (i := 18) rfl (by kernel_rfl) ?_
    intro oo ho
    simp at ho
    subst ho
    intro K hK
    refine wp_app (.tmp 9) (.tmp 26) rfl rfl rfl (own_emptyKJ (w := w.drew) (k := w.heap.size) rfl _) (hcut.out.below hB1) hl1.out (nA - n) hl2.out ?_
    intro ao2 cap2 w2 g2 hown hap
    rw [List.nil_append] at hown
    have hB2 : Below w.heap.size w w2 := hB1.trans (hap.fr.below (fun i hi => by rw [hi]; exact Nat.le_refl _) hB1.size)
    refine hK.out _ _ ?_ (fun hHeld => ?_)
    · exact ⟨hide hB2, keep_cell (hB2.block q hql) c1, keep_cell (hB2.block h hhl) k0, keep_cell (hB2.block h hhl) k1⟩
    clear hK K
    try simp only [Act.put, List.setIfInBounds_toArray, List.set_cons_zero, List.set_cons_succ]
    refine hand_take (i := 19) (d := some 4) (v := ?_) rfl (by kernel_rfl) (by kernel_rfl) (by kernel_rfl) (fun _ _ _ h => h) ?_ hHeld ?_
    rotate_left
    · intro o ho
      simp at ho
      subst ho
      intro wz hSw
      try dsimp only at hSw
      go_simp
      try with_reducible rfl
    try simp only [Act.put, List.setIfInBounds_toArray, List.set_cons_zero, List.set_cons_succ]
    refine wpAnyH_done (by kernel_rfl) (NoPanic.normal ?_) _
    clear hHeld
    replace hown := hide hown
    replace hB2 := hide hB2
    clear hap hB1 c1 k0 k1
    go_wp2_with fail
    go_ret
    exact ⟨_, rfl, g2, hown.out.view, hB2.out⟩
end Go.Proofs.Ytlfdahcbkdiifaa
