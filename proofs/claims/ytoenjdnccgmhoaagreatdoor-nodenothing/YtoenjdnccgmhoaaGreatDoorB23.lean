/- layer 15: Tab, put together. -/
import Derived.Test.YtoenjdnccgmhoaaGreatDoorB10
import Derived.Test.YtoenjdnccgmhoaaGreatDoorB15
import Derived.Test.YtoenjdnccgmhoaaGreatDoorB22
import Derived.Test.YtoenjdnccgmhoaaGreatDoorB18
namespace Go.Proofs.YtoenjdnccgmhoaaGreatDoor
open Go.ChangeShapes Go.WideShapes Go.ChangeAt Go.RowKit
set_option linter.unusedSimpArgs false
set_option linter.unusedVariables false
set_option maxRecDepth 10000
attribute [local go_sem, local simp] over_const setCell_drewN alloc_drewN Over.cell Over.frozen lt_s1 lt_s2 lt_s3 le_s0 le_s1 le_s2 le_s3 eq_s0 eq_s1 eq_s2 qe_s0
theorem zeroAE (w : World) : (zeroValue 113).run Tryz.prog w = .ok (atV at0) w := by kernel_rfl
theorem zeroIE (w : World) : (zeroValue 3).run Tryz.prog w = .ok (.int .i64 0) w := by kernel_rfl
theorem fieldA_s (w : World) (b n s : Int) : (Instr.field 113 (.agg #[.int .i64 b, .int .i64 n, .int .i64 s]) 2).run Tryz.prog w = .ok (.int .i64 s) w := by kernel_rfl
structure TbIs (w : World) (c t o N : Nat) (T : Tb) : Prop where
  inv : TInv N T
  ob : w.heap[c]? = some (.cells #[.map (some t), .map (some o)] 191 (0, 0))
  act : MpIs w t (atV at0) (T.A.map At.b) (fun k => atV (getA T.A k))
  over : ∃ K, MpIs w o (.int .i64 0) K (fun k => .int .i64 (T.O k)) ∧ K.length ≤ N
  lt : c < w.heap.size
  tc : t ≠ c
  oc : o ≠ c
  ne : t ≠ o
theorem TbIs.c0 {w : World} {c t o N : Nat} {T : Tb} (h : TbIs w c t o N T) : w.cell? ⟨c, 0, none⟩ = some (.map (some t)) := cell_of_row _ _ _ _ _ _ h.ob
theorem TbIs.c1 {w : World} {c t o N : Nat} {T : Tb} (h : TbIs w c t o N T) : w.cell? ⟨c, 1, none⟩ = some (.map (some o)) := cell_of_row _ _ _ _ _ _ h.ob
theorem TbIs.tl {w : World} {c t o N : Nat} {T : Tb} (h : TbIs w c t o N T) : t < w.heap.size := h.act.lt
theorem TbIs.ol {w : World} {c t o N : Nat} {T : Tb} (h : TbIs w c t o N T) : o < w.heap.size := by obtain ⟨K, h1, _⟩ := h.over; exact h1.lt
theorem TbIs.carry {w w' : World} {c t o N : Nat} {T : Tb} (h : TbIs w c t o N T) (ec : w'.heap[c]? = w.heap[c]?) (et : w'.heap[t]? = w.heap[t]?) (eo : w'.heap[o]? = w.heap[o]?) : TbIs w' c t o N T := by
  obtain ⟨K, h1, h2⟩ := h.over
  exact ⟨h.inv, ec.trans h.ob, h.act.carry et, ⟨K, h1.carry eo, h2⟩, block_lt h.lt ec, h.tc, h.oc, h.ne⟩
theorem TbIs.fr {w w' : World} {c t o N : Nat} {T : Tb} {F : Nat → Prop} (h : TbIs w c t o N T) (hf : FrS F w w') (hc : ¬ F c) (ht : ¬ F t) (ho : ¬ F o) : TbIs w' c t o N T :=
  h.carry (hf.block c h.lt hc) (hf.block t h.tl ht) (hf.block o h.ol ho)
theorem TbIs.below {w w' : World} {c t o N : Nat} {T : Tb} (h : TbIs w c t o N T) (hf : Below w.heap.size w w') : TbIs w' c t o N T :=
  h.carry (hf.block c h.lt) (hf.block t h.tl) (hf.block o h.ol)
theorem TbIs.alloc {w : World} {c t o N : Nat} {T : Tb} (h : TbIs w c t o N T) (x : Obj) : TbIs (w.alloc x) c t o N T := h.below ((Below.refl _ _).alloc (Nat.le_refl _) _)
theorem TbIs.drewN {w : World} {c t o N : Nat} {T : Tb} (h : TbIs w c t o N T) (n : Nat) : TbIs (w.drewN n) c t o N T := h.carry rfl rfl rfl
theorem TbIs.mono {w : World} {c t o N M : Nat} {T : Tb} (h : TbIs w c t o N T) (hM : N ≤ M) : TbIs w c t o M T := by
  obtain ⟨K, h1, h2⟩ := h.over
  exact ⟨h.inv.mono hM, h.ob, h.act, ⟨K, h1, Nat.le_trans h2 hM⟩, h.lt, h.tc, h.oc, h.ne⟩
abbrev FT (t o : Nat) : Nat → Prop := fun b => b = t ∨ b = o
set_option maxHeartbeats 1000000 in
theorem tNew_c (w : World) : Calls Tryz.prog 70 #[] w fun e w' => ∃ c, e = .returned (ptr c) ∧ ∃ t o, TbIs w' c t o 0 tb0 ∧ w.heap.size ≤ c ∧ w.heap.size ≤ t ∧ w.heap.size ≤ o ∧ Below w.heap.size w w' := by
  have hmm := @run_makeMap Tryz.prog
  go_enter Tryz.func70, Tryz.ntmps70
  go_wp2_with fail
  go_ret
  have hm1 : (w.alloc (.map #[] 0)).ownsMap (H := Value) Tryz.prog 3 heldR w.heap.size 0 (.map []) := World.ownsMap_made _ _ _ _
  have hm2 : ((w.alloc (.map #[] 0)).alloc (.map #[] 0)).ownsMap (H := Value) Tryz.prog 3 heldR (w.alloc (.map #[] 0)).heap.size 0 (.map []) := World.ownsMap_made _ _ _ _
  rw [World.size_alloc] at hm2
  have hob := heap_alloc_new ((w.alloc (.map #[] 0)).alloc (.map #[] 0)) (.cells #[.map (some w.heap.size), .map (some (w.heap.size + 1))] 191)
  rw [World.size_alloc, World.size_alloc] at hob
  refine ⟨w.heap.size + 2, rfl, w.heap.size, w.heap.size + 1, ⟨inv_new, hob, mp_new _ ((hm1.alloc _).alloc _), ⟨[], mp_new _ (hm2.alloc _), Nat.le_refl _⟩, by simp, by omega, by omega, by omega⟩, by omega, by omega, by omega, ?_⟩
  exact (((Below.refl _ _).alloc (Nat.le_refl _) _).alloc (by simp) _).alloc (by simp) _
theorem keys_ins (A : List At) (a : At) (k : Int) : k ∈ (insA A a).map At.b ↔ k = a.b ∨ k ∈ A.map At.b := by
  have h := hasA_ins A a k
  have e1 : ∀ (B : List At), k ∈ B.map At.b ↔ hasA B k = true := fun B => by rw [hasA_iff, List.mem_map]
  rw [e1, e1, h]
  simp
theorem keys_del (A : List At) (b k : Int) : k ∈ (delA A b).map At.b ↔ k ∈ A.map At.b ∧ k ≠ b := by
  simp only [List.mem_map, mem_del]
  constructor
  · rintro ⟨y, ⟨h1, h2⟩, rfl⟩; exact ⟨⟨y, h1, rfl⟩, h2⟩
  · rintro ⟨⟨y, h1, rfl⟩, h2⟩; exact ⟨y, ⟨h1, h2⟩, rfl⟩
theorem get_upd_ins (A : List At) (a : At) (k : Int) : atV (getA (insA A a) k) = updV (fun k => atV (getA A k)) a.b (atV a) k := by
  rw [getA_ins]
  unfold updV
  by_cases c : k = a.b <;> simp [c]
theorem get_upd_del (A : List At) (b k : Int) : atV (getA (delA A b) k) = updV (fun k => atV (getA A k)) b (atV at0) k := by
  rw [getA_del]
  unfold updV
  by_cases c : k = b <;> simp [c]
theorem TbIs.put {w : World} {c t o N : Nat} {T : Tb} (h : TbIs w c t o N T) (a : At) (ha : I64 a.b) (hN : N + 1 ≤ 2000) (hok : okA T a = true) :
    ∃ w2, (Instr.mapUpdate 188 (.map (some t)) (.int .i64 a.b) (atV a)).run Tryz.prog w = .ok () w2 ∧ TbIs w2 c t o (N + 1) (nxA T a) ∧ FrS (· = t) w w2 := by
  have hI := inv_act h.inv a ha
  have hn : nxA T a = ⟨insA T.A a, T.O⟩ := by unfold nxA; rw [if_pos hok]
  have hl := hI.len
  rw [hn] at hI hl ⊢
  obtain ⟨w2, h1, h2, h3⟩ := mp_put h.act Tryz.underlying188 ha (atV a) (K' := (insA T.A a).map At.b) (keys_ins T.A a) (by rw [List.length_map]; exact Nat.le_trans hl hN)
  obtain ⟨K, k1, k2⟩ := h.over
  have ec := h3.block c h.lt (fun e => h.tc e.symm)
  exact ⟨w2, h1, ⟨hI, ec.trans h.ob, h2.alike (fun _ => Iff.rfl) (get_upd_ins T.A a), ⟨K, k1.carry (h3.block o h.ol (fun e => h.ne e.symm)), by omega⟩, block_lt h.lt ec, h.tc, h.oc, h.ne⟩, h3⟩
theorem stale_iff {T : Tb} {a : At} : okA T a = false ↔ a.s ≤ (if T.O a.b < (getA T.A a.b).s then (getA T.A a.b).s else T.O a.b) := by
  unfold okA
  rw [decide_eq_false_iff_not]
  split <;> omega
set_option maxHeartbeats 1000000 in
theorem tActivate_c (c t o N : Nat) (T : Tb) (a : At) (w : World) (h : TbIs w c t o N T) (ha : I64 a.b) (hN : N + 1 ≤ 2000) (ok : Bool) (hok : Hid (okA T a = ok)) : Calls Tryz.prog 128 #[ptr c, .agg #[.int .i64 a.b, .int .i64 a.n, .int .i64 a.s]] w fun e w' => e = .returned (.bool ok) ∧ TbIs w' c t o (N + 1) (nxA T a) ∧ FrS (FT t o) w w' := by
  have hH := hide h
  have hcl := h.lt
  have htl := h.tl
  have hol := h.ol
  have c0 := h.c0
  have c1 := h.c1
  have l0 := hide (h.act.look Tryz.underlying188 zeroAE ha)
  obtain ⟨K, k1, k2⟩ := h.over
  have l1 := hide (k1.look Tryz.underlying65 zeroIE ha)
  obtain ⟨g, hg⟩ : ∃ g, Hid (getA T.A a.b = g) := ⟨_, rfl⟩
  obtain ⟨ov, hov⟩ : ∃ ov, Hid (T.O a.b = ov) := ⟨_, rfl⟩
  have hst := stale_iff (T := T) (a := a)
  rw [hg.out, hov.out] at hst
  have l0' : Hid (∀ w', w'.heap[t]? = w.heap[t]? → (Instr.lookup 188 (.map (some t)) (.int .i64 a.b) false).run Tryz.prog w' = .ok (.agg #[.int .i64 g.b, .int .i64 g.n, .int .i64 g.s]) w') := by have := l0.out; rw [hg.out] at this; exact this
  have l1' : Hid (∀ w', w'.heap[o]? = w.heap[o]? → (Instr.lookup 65 (.map (some o)) (.int .i64 a.b) false).run Tryz.prog w' = .ok (.int .i64 ov) w') := by have := l1.out; rw [hov.out] at this; exact this
  obtain ⟨mx, hm0⟩ : ∃ mx, Hid ((if ov < g.s then g.s else ov) = mx) := ⟨_, rfl⟩
  rw [hm0.out] at hst
  have hmx : Hid (decide (a.s ≤ mx) = !ok) := by
    have := hok.out
    cases ok
    · exact decide_eq_true (hst.1 this)
    · exact decide_eq_false (fun e => by rw [hst.2 e] at this; cases this)
  clear h l0 l1 k1 k2 K hst
  have hfld := fieldA_s
  go_enter Tryz.func128, Tryz.ntmps128
  go_wp2_with fail
  refine wp_region_noPanic ?_
  refine wp_region_held_drew (S := (fun w' => w'.cell? ⟨c, 0, none⟩ = some (.map (some t)) ∧ w'.cell? ⟨c, 1, none⟩ = some (.map (some o)) ∧ w'.cell? ⟨w.heap.size, 0, none⟩ = some (.int .i64 a.b) ∧ w'.cell? ⟨w.heap.size, 2, none⟩ = some (.int .i64 a.s) ∧ (Instr.lookup 188 (.map (some t)) (.int .i64 a.b) false).run Tryz.prog w' = .ok (.agg #[.int .i64 g.b, .int .i64 g.n, .int .i64 g.s]) w' ∧ (Instr.lookup 65 (.map (some o)) (.int .i64 a.b) false).run Tryz.prog w' = .ok (.int .i64 ov) w')) (by kernel_rfl) ?_ (fun hHeld => ?_)
  · exact ⟨by simp [go_sem, *], by simp [go_sem, *], by simp [go_sem], by simp [go_sem], l0'.out _ (Below.heap_alloc _ _ _ htl), l1'.out _ (Below.heap_alloc _ _ _ hol)⟩
  refine hTk 0 5 hHeld ?_
  refine hTk 1 6 hHeld ?_
  refine hTk 2 7 hHeld ?_
  refine hTk 3 8 hHeld ?_
  refine hTk 4 9 hHeld ?_
  refine hTk 5 10 hHeld ?_
  refine hTk 6 11 hHeld ?_
  refine hTk 7 12 hHeld ?_
  refine hTk 8 13 hHeld ?_
  refine hTk 9 14 hHeld ?_
  refine hTk 10 15 hHeld ?_
  refine hTk 11 16 hHeld ?_
  refine hTk 12 17 hHeld ?_
  refine hTk 13 18 hHeld ?_
  refine hTk 14 19 hHeld ?_
  refine hTk 15 20 hHeld ?_
  refine hTk 16 21 hHeld ?_
  refine hVl 17 22 (.int .i64 mx) hHeld (fun wz hSw => ?_) ?_
  · try dsimp only at hSw
    go_simp; rw [hm0.out]
  refine hVl 18 23 (.bool (!ok)) hHeld (fun wz hSw => ?_) ?_
  · try dsimp only at hSw
    go_simp; rw [hmx.out]
  refine wpAnyH_done (by kernel_rfl) (NoPanic.normal ?_) _
  clear hHeld
  cases ok
  · go_wp2_with fail
    go_ret
    have e : nxA T a = T := by unfold nxA; rw [if_neg (by rw [hok.out]; decide)]
    rw [e]
    exact ⟨rfl, TbIs.mono (N := N) ((unhide hH).below (by all_goals exact belEnd)) (by omega), ((FrS.refl _ _).alloc _).drew⟩
  · go_wp2_with fail
    refine name_world ?_
    intro W hW
    have hB : Hid (Below w.heap.size w W) := by rw [← hW]; exact hide (by all_goals exact belEnd)
    have hT := hide ((unhide hH).below (unhide hB))
    have q0 := (unhide hT).c0
    have b0 : W.cell? ⟨w.heap.size, 0, none⟩ = some (.int .i64 a.b) := by rw [← hW]; simp [go_sem]
    have b1 : W.cell? ⟨w.heap.size, 1, none⟩ = some (.int .i64 a.n) := by rw [← hW]; simp [go_sem]
    have b2 : W.cell? ⟨w.heap.size, 2, none⟩ = some (.int .i64 a.s) := by rw [← hW]; simp [go_sem]
    clear hW c0 c1
    go_wp2_with fail
    refine wp_region_noPanic ?_
    refine last_begin 7 (fun w' => w'.cell? ⟨c, 0, none⟩ = some (.map (some t)) ∧ w'.cell? ⟨w.heap.size, 0, none⟩ = some (.int .i64 a.b) ∧ w'.cell? ⟨w.heap.size, 1, none⟩ = some (.int .i64 a.n) ∧ w'.cell? ⟨w.heap.size, 2, none⟩ = some (.int .i64 a.s)) (by kernel_rfl) ?_ fun hHeld => ?_
    · exact ⟨q0, b0, b1, b2⟩
    refine lTk 0 24 hHeld ?_
    refine lTk 1 25 hHeld ?_
    refine lTk 2 26 hHeld ?_
    refine lTk 3 27 hHeld ?_
    refine lTk 4 28 hHeld ?_
    refine lTk 5 29 hHeld ?_
    refine lTk 6 30 hHeld ?_
    refine lNo 7 fun K hK => ?_
    refine wp_updE (.tmp 27) (.tmp 29) (.tmp 30) rfl rfl rfl rfl (((unhide hT).below (by all_goals exact belEnd)).put a ha hN hok.out) ?_; intro w3 hw3
    refine hK.out _ _ (fun h => absurd rfl h) fun _ => ?_
    clear hK K
    try simp only [Act.put, za, zb, zc]
    refine last_done (by kernel_rfl) (NoPanic.normal ?_) _
    clear hHeld
    replace hw3 := hide hw3
    clear q0 b0 b1 b2
    go_wp2_with fail
    go_ret
    refine ⟨rfl, (unhide hw3).1, ?_⟩
    exact ((FrS.of_below (unhide hB)).drew).trans (unhide hw3).2 (fun i hi => .inl (.inl hi))
theorem over_upd (O : Int → Int) (b s k : Int) : Value.int .i64 (updO O b s k) = updV (fun k => .int .i64 (O k)) b (.int .i64 s) k := by
  unfold updO updV
  by_cases c : k = b <;> simp [c]
theorem TbIs.dea {w : World} {c t o N : Nat} {T : Tb} (h : TbIs w c t o N T) (b s : Int) (hb : I64 b) (hN : N + 1 ≤ 2000) (hs : ¬ s ≤ T.O b) (g : At) (hg : getA T.A b = g) :
    ∃ w2, (Instr.mapUpdate 65 (.map (some o)) (.int .i64 b) (.int .i64 s)).run Tryz.prog w = .ok () w2 ∧ FrS (· = o) w w2 ∧ w2.cell? ⟨c, 0, none⟩ = some (.map (some t))
      ∧ (Instr.lookup 188 (.map (some t)) (.int .i64 b) false).run Tryz.prog w2 = .ok (.agg #[.int .i64 g.b, .int .i64 g.n, .int .i64 g.s]) w2
      ∧ (g.s ≤ s → ∀ ty, ∃ w3, (Builtin.delete_ #[188, 3] ty #[.map (some t), .int .i64 b]).run Tryz.prog w2 = .ok (.tuple #[]) w3 ∧ TbIs w3 c t o (N + 1) (nxD T b s) ∧ FrS (FT t o) w w3)
      ∧ (¬ g.s ≤ s → TbIs w2 c t o (N + 1) (nxD T b s)) := by
  have hI := (inv_dea h.inv b s).mono (Nat.le_succ N)
  have hn : nxD T b s = ⟨if g.s ≤ s then delA T.A b else T.A, updO T.O b s⟩ := by unfold nxD; rw [if_neg hs, hg]
  obtain ⟨K, k1, k2⟩ := h.over
  obtain ⟨w2, h1, h2, h3⟩ := mp_put k1 Tryz.underlying65 hb (.int .i64 s) (K' := b :: K) (fun k => List.mem_cons) (by simp; omega)
  have ec := h3.block c h.lt (fun e => h.oc e.symm)
  have et := h3.block t h.tl h.ne
  have hov := h2.alike (K' := b :: K) (g := fun k => .int .i64 (updO T.O b s k)) (fun _ => Iff.rfl) (over_upd T.O b s)
  have hlk := h.act.look Tryz.underlying188 zeroAE hb w2 et
  rw [hg] at hlk
  refine ⟨w2, h1, h3, keep_cell ec h.c0, hlk, fun hgs ty => ?_, fun hgs => ?_⟩
  · rw [hn, if_pos hgs] at hI ⊢
    obtain ⟨w3, d1, d2, d3⟩ := mp_del (h.act.carry et) Tryz.underlying188 hb (K' := (delA T.A b).map At.b) (keys_del T.A b) ty
    have ec3 := d3.block c (block_lt h.lt ec) (fun e => h.tc e.symm)
    have eo3 := d3.block o h2.lt (fun e => h.ne e.symm)
    exact ⟨w3, d1, ⟨hI, ec3.trans (ec.trans h.ob), d2.alike (fun _ => Iff.rfl) (get_upd_del T.A b), ⟨b :: K, hov.carry eo3, by simp; omega⟩, block_lt (block_lt h.lt ec) ec3, h.tc, h.oc, h.ne⟩, (h3.mono (fun _ _ e => .inr e)).trans d3 (fun _ e => .inl (.inl e))⟩
  · rw [hn, if_neg hgs] at hI ⊢
    exact ⟨hI, ec.trans h.ob, h.act.carry et, ⟨b :: K, hov, by simp; omega⟩, block_lt h.lt ec, h.tc, h.oc, h.ne⟩
set_option maxHeartbeats 1000000 in
theorem tDeactivate_c (c t o N : Nat) (T : Tb) (b s : Int) (w : World) (h : TbIs w c t o N T) (hb : I64 b) (hN : N + 1 ≤ 2000) : Calls Tryz.prog 129 #[ptr c, .int .i64 b, .int .i64 s] w fun e w' => e = .returned (.tuple #[]) ∧ TbIs w' c t o (N + 1) (nxD T b s) ∧ FrS (FT t o) w w' := by
  have hH := hide h
  have c1 := h.c1
  obtain ⟨K, k1, k2⟩ := h.over
  have l1 := k1.look Tryz.underlying65 zeroIE hb w rfl
  try dsimp only at l1
  obtain ⟨ov, hov⟩ : ∃ ov, Hid (T.O b = ov) := ⟨_, rfl⟩
  rw [hov.out] at l1
  have hfld := fieldA_s
  clear h k1 k2 K
  by_cases hs : s ≤ ov
  · go_enter Tryz.func129, Tryz.ntmps129
    go_wp2_with fail
    refine bodyPost_ret (v := .tuple #[]) (by simp [results, Tryz.results129]) rfl ⟨rfl, ?_, FrS.refl _ _⟩
    have e : nxD T b s = T := by unfold nxD; rw [if_pos (by rw [hov.out]; exact hs)]
    rw [e]
    exact (unhide hH).mono (by omega)
  · have hs' : ov < s := by omega
    obtain ⟨g, hg⟩ : ∃ g, Hid (getA T.A b = g) := ⟨_, rfl⟩
    obtain ⟨w2, hrun, hf2, q0, l2, hyes, hno⟩ := (unhide hH).dea b s hb hN (by rw [hov.out]; exact hs) g hg.out
    have q1 : w2.cell? ⟨c, 1, none⟩ = some (.map (some o)) := (hf2.cell (unhide hH).lt (fun e => (unhide hH).oc e.symm)).trans c1
    replace hrun := hide hrun
    replace hf2 := hide hf2
    clear hs
    by_cases hgs : g.s ≤ s
    · have hdel := hide (hyes hgs)
      clear hyes hno
      go_enter Tryz.func129, Tryz.ntmps129
      go_wp2_with (first | (at_mapUpdate; refine wpList_upd rfl (.tmp 17) (.tmp 18) (.tmp 19) rfl rfl rfl rfl (unhide hrun) ?_) | (at_delete; refine wpList_del rfl (.tmp 32) (.tmp 33) rfl rfl rfl (unhide hdel) ?_; intro w3 hD3; replace hD3 := hide hD3))
      refine bodyPost_end (v := .tuple #[]) (by simp [results, Tryz.results129]) rfl ⟨rfl, ?_⟩
      exact unhide hD3
    · have hfin := hide (hno hgs)
      have hgs' : s < g.s := by omega
      clear hyes hno hgs
      go_enter Tryz.func129, Tryz.ntmps129
      go_wp2_with (at_mapUpdate; refine wpList_upd rfl (.tmp 17) (.tmp 18) (.tmp 19) rfl rfl rfl rfl (unhide hrun) ?_)
      refine bodyPost_end (v := .tuple #[]) (by simp [results, Tryz.results129]) rfl ⟨rfl, ?_⟩
      exact ⟨unhide hfin, (unhide hf2).mono (fun _ _ e => .inr e)⟩
abbrev atO (x : At) : Obj := .cells #[.int .i64 x.b, .int .i64 x.n, .int .i64 x.s] 113
set_option maxHeartbeats 1000000 in
theorem tActive_c (c t o N : Nat) (T : Tb) (b : Int) (w : World) (h : TbIs w c t o N T) (hb : I64 b) (g : At) (hg : Hid (getA T.A b = g)) (is : Bool) (his : Hid (hasA T.A b = is)) : Calls Tryz.prog 121 #[ptr c, .int .i64 b] w fun e w' => e = .returned (.tuple #[.agg #[.int .i64 g.b, .int .i64 g.n, .int .i64 g.s], .bool is]) ∧ Below w.heap.size w w' := by
  have c0 := h.c0
  have hcl := h.lt
  have htl := h.tl
  have l2 := h.act.lookOk Tryz.underlying188 zeroAE hb is (by rw [← his.out, hasA_iff, List.mem_map]) (w.alloc (atO at0)) (Below.heap_alloc _ _ _ htl)
  try dsimp only at l2
  rw [hg.out] at l2
  clear h
  go_enter Tryz.func121, Tryz.ntmps121
  go_wp2_with fail
  refine bodyPost_ret (by simp [results, Tryz.results121, go_sem, *]; done) rfl ⟨rfl, ?_⟩
  all_goals exact belEnd
end Go.Proofs.YtoenjdnccgmhoaaGreatDoor
