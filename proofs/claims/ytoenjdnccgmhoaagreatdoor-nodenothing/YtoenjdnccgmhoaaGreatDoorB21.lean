/- layer 15: CacMap LinK LinX, put together. -/
import Derived.Test.YtoenjdnccgmhoaaGreatDoorB19
import Derived.Test.YtoenjdnccgmhoaaGreatDoorB20
import Derived.Test.YtoenjdnccgmhoaaGreatDoorB04
import Derived.Test.YtoenjdnccgmhoaaGreatDoorB03
import Derived.Test.YtoenjdnccgmhoaaGreatDoorB18
namespace Go.Proofs.YtoenjdnccgmhoaaGreatDoor
open Go.ChangeShapes Go.WideShapes Go.ChangeAt Go.RowKit
set_option linter.unusedSimpArgs false
set_option linter.unusedVariables false
set_option maxRecDepth 10000
attribute [local go_sem, local simp] over_const setCell_drewN alloc_drewN Over.cell Over.frozen lt_s1 lt_s2 lt_s3 le_s0 le_s1 le_s2 le_s3 eq_s0 eq_s1 eq_s2 qe_s0
open Go.Maps (Keyed)
abbrev zeroBV : Value := .agg #[.int .i64 0, .bool false, .bool false, .int .i64 0]
theorem zeroBE (w : World) : (zeroValue 35).run Tryz.prog w = .ok zeroBV w := by kernel_rfl
structure TkIs (w : World) (t : Nat) (K : List Int) (T : Int → Bun) (D : DataW Value) : Prop where
  own : w.ownsMap Tryz.prog 3 heldR t 2000 D
  keys : ∀ kl, Maps.has D kl = true → ∃ k ∈ K, kl = .int .i64 k
  val : ∀ k, D.atKey (.int .i64 k) (.held zeroBV) = .held (bunV (T k))
theorem TkIs.carry {w w' : World} {t : Nat} {K : List Int} {T : Int → Bun} {D : DataW Value} (h : TkIs w t K T D) (e : w'.heap[t]? = w.heap[t]?) : TkIs w' t K T D := ⟨ownsMap_carry h.own e, h.keys, h.val⟩
theorem TkIs.mono {w : World} {t : Nat} {K K' : List Int} {T : Int → Bun} {D : DataW Value} (h : TkIs w t K T D) (hk : ∀ x ∈ K, x ∈ K') : TkIs w t K' T D := ⟨h.own, fun kl h1 => by obtain ⟨k, h2, h3⟩ := h.keys kl h1; exact ⟨k, hk k h2, h3⟩, h.val⟩
theorem TkIs.look {w : World} {t : Nat} {K : List Int} {T : Int → Bun} {D : DataW Value} (h : TkIs w t K T D) {x : Int} (hx : I64 x) :
    ∀ w', w'.heap[t]? = w.heap[t]? → (Instr.lookup 181 (.map (some t)) (.int .i64 x) false).run Tryz.prog w' = .ok (bunV (T x)) w' := by
  intro w' e
  obtain ⟨u, ps, hrun, hu⟩ := (ownsMap_carry h.own e).lookup law Tryz.underlying181 (zeroBE w') (zd := .held zeroBV) (zp := []) rfl (Maps.keyOf_int_mk Tryz.underlying3 (key_wfI hx))
  rw [h.val x] at hu
  simp [heldR] at hu
  rw [hrun, hu.1]
theorem tk_new (w : World) (t : Nat) (h : w.ownsMap Tryz.prog 3 heldR t 2000 (.map [])) : TkIs w t [] (fun _ => bun0) (.map []) :=
  ⟨h, fun kl hk => by simp [Maps.has] at hk, fun k => by simp [DataW.atKey]⟩
theorem tk_put {w : World} {t : Nat} {K K' : List Int} {T : Int → Bun} {D : DataW Value} (h : TkIs w t K T D) {x : Int} (hx : I64 x) (b : Bun) (hK : ∀ k, k ∈ K → k ∈ K') (hxK : x ∈ K') (hl : K'.length ≤ 2000) :
    ∃ w2 D', (Instr.mapUpdate 181 (.map (some t)) (.int .i64 x) (bunV b)).run Tryz.prog w = .ok () w2 ∧ TkIs w2 t K' (updT T x b) D' ∧ FrS (· = t) w w2 := by
  obtain ⟨w2, hrun, hown2, hgr⟩ := h.own.update law Tryz.underlying181 (by decide) (Maps.keyOf_int_mk Tryz.underlying3 (key_wfI hx)) (val := bunV b) (d := .held (bunV b)) (ps := []) rfl
  have hT := h.own.tidy law
  have hkeys : ∀ kl, Maps.has (D.put (.int .i64 x) (.held (bunV b))) kl = true → ∃ k ∈ K', kl = .int .i64 k := by
    intro kl hkl
    by_cases c : kl = .int .i64 x
    · exact ⟨x, hxK, c⟩
    · rw [Maps.has_put_other c] at hkl
      obtain ⟨k, h1, h2⟩ := h.keys kl hkl
      exact ⟨k, hK k h1, h2⟩
  have hsz : Maps.size (D.put (.int .i64 x) (.held (bunV b))) ≤ 2000 := by
    obtain ⟨es, e, hp⟩ := hT.put (k := .int .i64 x) trivial (.held (bunV b))
    have hlit : ∀ p ∈ es, WideAt.IsKeyLit p.1 := by
      obtain ⟨es', e', _, h3⟩ := hown2.entries law
      rw [e] at e'
      cases e'
      exact h3
    rw [e, Maps.size_eq]
    refine Nat.le_trans (size_in K' es hp (fun p hp' => ?_)) hl
    exact hkeys p.1 (by rw [e, Maps.has_eq]; exact List.any_eq_true.2 ⟨p, hp', WideAt.sameKey_self (hlit p hp')⟩)
  refine ⟨w2, _, hrun, ⟨ownsMap_size hown2 hsz, hkeys, fun k => ?_⟩, FrS.grown hgr⟩
  by_cases c : k = x
  · subst c
    rw [updT_same]
    exact Maps.atKey_put_same (k := Lit.int .i64 k) h.own.isMap trivial _ _
  · rw [updT_other b c]
    exact (Maps.atKey_put_other (fun e => c (by cases e; rfl)) _ _).trans (h.val k)
theorem tk_del {w : World} {t : Nat} {K K' : List Int} {T : Int → Bun} {D : DataW Value} (h : TkIs w t K T D) {x : Int} (hx : I64 x) (hK : ∀ k, k ∈ K → k ≠ x → k ∈ K') (ty : TypeId) :
    ∃ w2 D', (Builtin.delete_ #[181, 3] ty #[.map (some t), .int .i64 x]).run Tryz.prog w = .ok (.tuple #[]) w2 ∧ TkIs w2 t K' (updT T x bun0) D' ∧ FrS (· = t) w w2 := by
  obtain ⟨w2, hrun, hown2, hgr⟩ := h.own.drop law Tryz.underlying181 (Maps.keyOf_int_mk Tryz.underlying3 (key_wfI hx)) ty
  refine ⟨w2, _, hrun, ⟨hown2, fun kl hkl => ?_, fun k => ?_⟩, FrS.grown hgr.grown⟩
  · by_cases c : kl = .int .i64 x
    · rw [c, Maps.has_del_same] at hkl; cases hkl
    · rw [Maps.has_del_other c] at hkl
      obtain ⟨k, h1, h2⟩ := h.keys kl hkl
      exact ⟨k, hK k h1 (fun e => c (by rw [h2, e])), h2⟩
  · by_cases c : k = x
    · subst c
      rw [updT_same]
      exact Maps.atKey_del_same (k := Lit.int .i64 k) _
    · rw [updT_other bun0 c]
      exact (Maps.atKey_del_other (fun e => c (by cases e; rfl)) _).trans (h.val k)
structure HdIs (w : World) (p t : Nat) (Ft : Nat → Prop) (S W : Int) (A K : List Int) (T : Int → Bun) : Prop where
  ln : ∃ Fl, LnIs w p Fl S W A ∧ (∀ b, Fl b → Ft b) ∧ ¬ Fl t
  tk : ∃ D, TkIs w t K T D
  ft : Ft t
  lt : ∀ b, Ft b → b < w.heap.size
theorem HdIs.carry {w w' : World} {p t : Nat} {Ft : Nat → Prop} {S W : Int} {A K : List Int} {T : Int → Bun} (h : HdIs w p t Ft S W A K T) (hb : ∀ b, Ft b → b < w.heap.size → w'.heap[b]? = w.heap[b]?) : HdIs w' p t Ft S W A K T := by
  obtain ⟨Fl, h1, h2, h3⟩ := h.ln
  obtain ⟨D, h4⟩ := h.tk
  exact ⟨⟨Fl, h1.carry (fun b hb' hl => hb b (h2 b hb') hl), h2, h3⟩, ⟨D, h4.carry (hb t h.ft (h.lt t h.ft))⟩, h.ft, fun b hf => block_lt (h.lt b hf) (hb b hf (h.lt b hf))⟩
structure CaIs (w : World) (c : Nat) (Ft : Nat → Prop) (S W N : Int) (C : Ca) : Prop where
  inv : CInv S W N C
  fc : Ft c
  lt : ∀ b, Ft b → b < w.heap.size
  at' : ∃ p t Fh, w.cell? ⟨c, 0, none⟩ = some (ptr p) ∧ w.cell? ⟨c, 1, none⟩ = some (.map (some t)) ∧ HdIs w p t Fh S W C.A C.A C.T ∧ (∀ b, Fh b → Ft b) ∧ ¬ Fh c
theorem CaIs.carry {w w' : World} {c : Nat} {Ft : Nat → Prop} {S W N : Int} {C : Ca} (h : CaIs w c Ft S W N C) (hb : ∀ b, Ft b → b < w.heap.size → w'.heap[b]? = w.heap[b]?) : CaIs w' c Ft S W N C := by
  obtain ⟨p, t, Fh, h1, h2, h3, h4, h5⟩ := h.at'
  have ec := hb c h.fc (h.lt c h.fc)
  exact ⟨h.inv, h.fc, fun b hf => block_lt (h.lt b hf) (hb b hf (h.lt b hf)), ⟨p, t, Fh, (World.cell?_of_block (w := w) ec).trans h1, (World.cell?_of_block (w := w) ec).trans h2, h3.carry (fun b hf hl => hb b (h4 b hf) hl), h4, h5⟩⟩
theorem CaIs.fr {w w' : World} {c : Nat} {Ft F : Nat → Prop} {S W N : Int} {C : Ca} (h : CaIs w c Ft S W N C) (hf : FrS F w w') (hd : ∀ b, Ft b → b < w.heap.size → ¬ F b) : CaIs w' c Ft S W N C := h.carry fun b hb hl => hf.block b hl (hd b hb hl)
theorem CaIs.below {w w' : World} {c : Nat} {Ft : Nat → Prop} {S W N : Int} {C : Ca} (h : CaIs w c Ft S W N C) (hf : Below w.heap.size w w') : CaIs w' c Ft S W N C := h.carry fun b _ hl => hf.block b hl
theorem CaIs.alloc {w : World} {c : Nat} {Ft : Nat → Prop} {S W N : Int} {C : Ca} (h : CaIs w c Ft S W N C) (o : Obj) : CaIs (w.alloc o) c Ft S W N C := h.carry fun b _ hl => Below.heap_alloc _ _ _ hl
theorem CaIs.drewN {w : World} {c : Nat} {Ft : Nat → Prop} {S W N : Int} {C : Ca} (h : CaIs w c Ft S W N C) (n : Nat) : CaIs (w.drewN n) c Ft S W N C := h.carry fun _ _ _ => rfl
theorem CaIs.mono {w : World} {c : Nat} {Ft : Nat → Prop} {S W N M : Int} {C : Ca} (h : CaIs w c Ft S W N C) (hN : N ≤ M) : CaIs w c Ft S W M C := ⟨h.inv.mono hN, h.fc, h.lt, h.at'⟩
theorem CaIs.back {w w' : World} {c p t : Nat} {Ft Fh Fh' : Nat → Prop} {S W N N' : Int} {C C' : Ca} (h : CaIs w c Ft S W N C) (c0 : w.cell? ⟨c, 0, none⟩ = some (ptr p)) (c1 : w.cell? ⟨c, 1, none⟩ = some (.map (some t))) (hF : ∀ b, Fh b → Ft b) (hc : ¬ Fh c) (hI : CInv S W N' C') (hn : HdIs w' p t Fh' S W C'.A C'.A C'.T) (hs : Step Fh Fh' w w') :
    ∃ Ft', CaIs w' c Ft' S W N' C' ∧ Step Ft Ft' w w' := by
  have hcl := h.lt c h.fc
  have ec := hs.fr.block c hcl hc
  refine ⟨fun b => Ft b ∨ Fh' b, ⟨hI, .inl h.fc, fun b hb => ?_, ⟨p, t, Fh', (World.cell?_of_block (w := w) ec).trans c0, (World.cell?_of_block (w := w) ec).trans c1, hn, fun b hb => .inr hb, fun e => ?_⟩⟩, ⟨hs.fr.mono (fun i _ hi => hF i hi), fun b hb => ?_⟩⟩
  · rcases hb with hb | hb
    · exact Nat.lt_of_lt_of_le (h.lt b hb) hs.fr.size
    · exact hn.lt b hb
  · rcases hs.new c e with e | e
    · exact hc e
    · omega
  · rcases hb with hb | hb
    · exact .inl hb
    · rcases hs.new b hb with e | e
      · exact .inl (hF b e)
      · exact .inr e
end Go.Proofs.YtoenjdnccgmhoaaGreatDoor
namespace Go.Proofs.YtoenjdnccgmhoaaGreatDoor
open Go.ChangeShapes Go.WideShapes Go.ChangeAt Go.RowKit
set_option linter.unusedSimpArgs false
set_option linter.unusedVariables false
set_option maxRecDepth 10000
attribute [local go_sem, local simp] over_const setCell_drewN alloc_drewN Over.cell Over.frozen lt_s1 lt_s2 lt_s3 le_s0 le_s1 le_s2 le_s3 eq_s0 eq_s1 eq_s2 qe_s0
structure RfIs (w : World) (p : Nat) (Ft : Nat → Prop) (S W : Int) (A : List Int) : Prop where
  inv : Inv S W A
  pl : p < w.heap.size
  fp : Ft p
  lt : ∀ b, Ft b → b < w.heap.size
  c0 : w.cell? ⟨p, 0, none⟩ = some (.int .i64 S)
  c1 : w.cell? ⟨p, 1, none⟩ = some (.int .i64 W)
  c2 : ∃ v g, w.cell? ⟨p, 2, none⟩ = some v ∧ Own w v g A ∧ Ft g ∧ (g = p → v = nilV)
  f2 : w.frozen? ⟨p, 2, none⟩ = false
theorem RfIs.carry {w w' : World} {p : Nat} {Ft : Nat → Prop} {S W : Int} {A : List Int} (h : RfIs w p Ft S W A) (hb : ∀ b, Ft b → b < w.heap.size → w'.heap[b]? = w.heap[b]?) : RfIs w' p Ft S W A := by
  obtain ⟨v, g, h1, h2, h3, h4⟩ := h.c2
  have ep := hb p h.fp h.pl
  exact ⟨h.inv, block_lt h.pl ep, h.fp, fun b hf => block_lt (h.lt b hf) (hb b hf (h.lt b hf)), (World.cell?_of_block (w := w) ep).trans h.c0, (World.cell?_of_block (w := w) ep).trans h.c1, ⟨v, g, (World.cell?_of_block (w := w) ep).trans h1, h2.carry (hb g h3 h2.lt), h3, h4⟩, (World.frozen?_of_block (w := w) ep).trans h.f2⟩
theorem RfIs.fr {w w' : World} {p : Nat} {Ft F : Nat → Prop} {S W : Int} {A : List Int} (h : RfIs w p Ft S W A) (hf : FrS F w w') (hd : ∀ b, Ft b → b < w.heap.size → ¬ F b) : RfIs w' p Ft S W A := h.carry fun b hb hl => hf.block b hl (hd b hb hl)
theorem RfIs.below {w w' : World} {p : Nat} {Ft : Nat → Prop} {S W : Int} {A : List Int} (h : RfIs w p Ft S W A) (hf : Below w.heap.size w w') : RfIs w' p Ft S W A := h.carry fun b _ hl => hf.block b hl
theorem RfIs.alloc {w : World} {p : Nat} {Ft : Nat → Prop} {S W : Int} {A : List Int} (h : RfIs w p Ft S W A) (o : Obj) : RfIs (w.alloc o) p Ft S W A := h.carry fun b _ hl => Below.heap_alloc _ _ _ hl
theorem RfIs.drewN {w : World} {p : Nat} {Ft : Nat → Prop} {S W : Int} {A : List Int} (h : RfIs w p Ft S W A) (n : Nat) : RfIs (w.drewN n) p Ft S W A := h.carry fun _ _ _ => rfl
theorem RfIs.drew {w : World} {p : Nat} {Ft : Nat → Prop} {S W : Int} {A : List Int} (h : RfIs w p Ft S W A) : RfIs w.drew p Ft S W A := h.carry fun _ _ _ => rfl
set_option maxHeartbeats 1000000 in
theorem rNew_c (s t : Int) (w : World) : Calls Tryz.prog 115 #[.int .i64 s, .int .i64 t] w fun e w' => ∃ p Ft, e = .returned (ptr p) ∧ RfIs w' p Ft (clampZ s 1 64) (clampZ t 1 16) [] ∧ Below w.heap.size w w' ∧ ∀ b, Ft b → w.heap.size ≤ b := by
  obtain ⟨S, hS⟩ : ∃ S, Hid (clampZ s 1 64 = S) := ⟨_, rfl⟩
  obtain ⟨W, hW⟩ : ∃ W, Hid (clampZ t 1 16 = W) := ⟨_, rfl⟩
  rw [hS.out, hW.out]
  have bS := (clampZ_bd s 1 64).2 (by decide)
  have bW := (clampZ_bd t 1 16).2 (by decide)
  rw [hS.out] at bS
  rw [hW.out] at bW
  go_enter Tryz.func115, Tryz.ntmps115
  go_wp2_with (first | (go_at_call 144; with_reducible refine (refClamp_any s 1 64 _).mono ?_; rw [hS.out]; rintro e w' ⟨rfl, hw'⟩; rw [hw']; clear hw' w') | (go_at_call 144; with_reducible refine (refClamp_any t 1 16 _).mono ?_; rw [hW.out]; rintro e w' ⟨rfl, hw'⟩; rw [hw']; clear hw' w'))
  go_ret
  exact ⟨w.heap.size, fun b => b = w.heap.size, rfl, ⟨Inv.new bS.1 bS.2 bW.1 bW.2, by simp, rfl, fun b hb => by simp; omega, by simp, by simp, ⟨nilV, w.heap.size, by simp, own_nil (by simp), rfl, fun _ => rfl⟩, by simp⟩, (Below.refl _ _).alloc (Nat.le_refl _) _, fun b hb => by omega⟩
set_option maxHeartbeats 1000000 in
theorem find_c (p : Nat) (Ft : Nat → Prop) (S W x : Int) (A : List Int) (w : World) (h : RfIs w p Ft S W A) : Calls Tryz.prog 135 #[ptr p, .int .i64 x] w fun e w' => e = .returned (.int .i64 (idxF A x)) ∧ w' = w := by
  have hlen := h.inv.len
  obtain ⟨v, g, c2, hO, _, _⟩ := h.c2
  have hv := hide hO.view
  obtain ⟨r, hr⟩ : ∃ r, Hid (idxF A x = r) := ⟨_, rfl⟩
  rw [hr.out]
  obtain ⟨ao, cap, rfl, -⟩ := hO
  clear h
  go_enter Tryz.func135, Tryz.ntmps135
  go_wp2_with fail
  go_loopw [5] (fun i wr => ∃ j : Nat, j ≤ A.length ∧ i = .int .i64 j ∧ wr = w ∧ Hid (∀ i (hi : i < A.length), i < j → A[i] ≠ x)) (fun i _ => A.length - (intOf i).toNat)
  case atStart => exact ⟨0, Nat.zero_le _, rfl, rfl, fun i _ hi => absurd hi (Nat.not_lt_zero _)⟩
  case round =>
    obtain ⟨j, hj, rfl, hwr, ha⟩ := hrel
    rw [hwr]
    clear hwr
    by_cases hlt : j < A.length
    · obtain ⟨-, -, -, hc⟩ := view_at (unhide hv) rfl
      obtain ⟨o, rfl, hb, hcell⟩ := hc j hlt
      obtain ⟨y, hy⟩ : ∃ y, Hid (A[j] = y) := ⟨_, hide rfl⟩
      rw [hy.out] at hcell
      have hlt' : (j : Int) < A.length := by omega
      clear hc
      by_cases c : y = x
      · subst c
        go_wp2_with fail
        go_ret
        refine ⟨?_, rfl⟩
        rw [← hr.out, idxF_at A y j hlt (fun i hi => ha.out i (by omega) hi) hy.out]; rfl
      · go_wp2_with fail
        go_roundw
        case rel =>
          refine ⟨j + 1, by omega, by simp, trivial, fun i hi hij => ?_⟩
          by_cases e : i = j
          · subst e; rw [hy.out]; exact c
          · exact ha.out i hi (by omega)
        case measure => simp [intOf]; omega
    · obtain rfl : j = A.length := by omega
      go_wp2_with fail
      go_ret
      refine ⟨?_, rfl⟩
      rw [← hr.out, idxF_none A x (fun i hi => ha.out i hi hi)]; rfl
set_option maxHeartbeats 1000000 in
theorem rHas_c (p : Nat) (Ft : Nat → Prop) (S W x : Int) (A : List Int) (w : World) (h : RfIs w p Ft S W A) : Calls Tryz.prog 95 #[ptr p, .int .i64 x] w fun e w' => e = .returned (.bool (decide (x ∈ A))) ∧ w' = w := by
  have hh := hide h
  clear h
  have hbd := idxF_bd A x
  obtain ⟨q, hq⟩ : ∃ q, decide (x ∈ A) = q := ⟨_, rfl⟩
  obtain ⟨i, hi⟩ : ∃ i, Hid (idxF A x = i) := ⟨_, rfl⟩
  rw [hq]
  have e : (i = -1 ∧ q = false) ∨ (0 ≤ i ∧ q = true) := by
    have := idxF_neg A x
    rw [hi.out] at this hbd
    by_cases c : x ∈ A
    · right; rw [← hq]; simp [c] at this ⊢; omega
    · left; rw [← hq]; simp [c] at this ⊢; exact this
  clear hq hbd
  rcases e with ⟨rfl, rfl⟩ | ⟨e, rfl⟩
  all_goals
    go_enter Tryz.func95, Tryz.ntmps95
    go_wp2_with (go_at_call 135; refine (find_c p Ft S W x A _ (unhide hh)).mono ?_; rw [hi.out]; rintro e w' ⟨rfl, rfl⟩)
    go_ret
    exact ⟨rfl, rfl⟩
theorem part_take {S k : Int} {A : List Int} {j : Nat} (h : j < A.length) : part S (A.take (j + 1)) k = if modZ A[j] S = k then part S (A.take j) k ++ [A[j]] else part S (A.take j) k := by
  rw [List.take_succ_eq_append_getElem h, part_append]
  split
  · rename_i c; rw [← c, part_one_same]
  · rename_i c; rw [part_one_other (fun e => c e.symm), List.append_nil]
theorem box_empty (w : World) (o : Obj) : (w.alloc o).heap.size = w.heap.size + 1 := by simp
set_option maxHeartbeats 2000000 in
theorem mates_c (p : Nat) (Ft : Nat → Prop) (S W x : Int) (A : List Int) (w : World) (h : RfIs w p Ft S W A) : Calls Tryz.prog 134 #[ptr p, .int .i64 x] w fun e w' => ∃ v g, e = .returned v ∧ w.heap.size ≤ g ∧ Own w' v g (part S A (modZ x S)) ∧ Below w.heap.size w w' := by
  have hlen := h.inv.len
  have s1 := h.inv.s1
  have c0 := h.c0
  have hpl := h.pl
  obtain ⟨v, gA, c2, hO, _, _⟩ := h.c2
  have hv := hide hO.view
  obtain ⟨k, hk⟩ : ∃ k, Hid (modZ x S = k) := ⟨_, rfl⟩
  rw [hk.out]
  obtain ⟨ao, cap, rfl, -⟩ := hO
  clear h
  go_enter Tryz.func134, Tryz.ntmps134
  go_wp2_with fail
  go_loopw [5, 6] (fun out i wr => ∃ j g : Nat, j ≤ A.length ∧ i = .int .i64 j ∧ Own wr out g (part S (A.take j) k) ∧ w.heap.size ≤ g ∧ Below w.heap.size w wr) (fun _ i _ => A.length - (intOf i).toNat)
  case atStart => exact ⟨0, w.heap.size, Nat.zero_le _, rfl, by simpa [part] using own_empty w _, Nat.le_refl _, (Below.refl _ _).alloc (Nat.le_refl _) _⟩
  case round =>
    obtain ⟨j, g, hj, rfl, hO, hg, hb⟩ := hrel
    have d0 : wr.cell? ⟨p, 0, none⟩ = some (.int .i64 S) := (hb.cell (p := ⟨p, 0, none⟩) hpl).trans c0
    have d2 : wr.cell? ⟨p, 2, none⟩ = some (.slice ao A.length cap) := (hb.cell (p := ⟨p, 2, none⟩) hpl).trans c2
    have hO' := hide hO
    obtain ⟨ao', cap', rfl, -⟩ := hO
    have hl1 : (part S (A.take j) k).length ≤ 1024 := by
      have h1 : (part S (A.take j) k).length ≤ (A.take j).length := List.length_filter_le _ _
      rw [List.length_take] at h1
      omega
    by_cases hlt : j < A.length
    · obtain ⟨-, -, -, hc⟩ := view_at (unhide hv) rfl
      obtain ⟨o, rfl, hbA, hcell⟩ := hc j hlt
      obtain ⟨y, hy⟩ : ∃ y, Hid (A[j] = y) := ⟨_, hide rfl⟩
      have hpt := part_take (S := S) (k := k) hlt
      rw [hy.out] at hcell hpt
      have hcell' : wr.cell? ⟨gA, o + j, none⟩ = some (.int .i64 y) := (hb.cell (p := ⟨gA, o + j, none⟩) hbA).trans hcell
      have hlt' : (j : Int) < A.length := by omega
      obtain ⟨r, hr⟩ : ∃ r, Hid (modZ y S = r) := ⟨_, rfl⟩
      obtain ⟨P, hP⟩ : ∃ P, Hid (part S (A.take j) k = P) := ⟨_, rfl⟩
      rw [hP.out] at hO' hl1 hpt ⊢
      rw [hr.out] at hpt
      replace hpt := hide hpt
      have hb' := hide hb
      clear hc hcell hb
      go_wp2_with fail
      refine wp_region_noPanic ?_
      obtain ⟨w0, hw0⟩ : ∃ w0, wr.drew = w0 := ⟨_, rfl⟩
      have e0 : w0.cell? ⟨p, 0, none⟩ = some (.int .i64 S) := by rw [← hw0]; exact d0
      have e2 : w0.cell? ⟨p, 2, none⟩ = some (.slice (some ⟨gA, o, none⟩) A.length cap) := by rw [← hw0]; exact d2
      have ey : w0.cell? ⟨gA, o + j, none⟩ = some (.int .i64 y) := by rw [← hw0]; exact hcell'
      have hb0 : Hid (Below w.heap.size w w0) := by rw [← hw0]; exact (unhide hb').drew
      have hO0 : Hid (Own w0 (.slice ao' P.length cap') g P) := by rw [← hw0]; exact (unhide hO').carry rfl
      refine wp_region_held_drew (S := fun w' => w' = w0 ∧ w'.cell? ⟨p, 0, none⟩ = some (.int .i64 S) ∧ w'.cell? ⟨p, 2, none⟩ = some (.slice (some ⟨gA, o, none⟩) A.length cap) ∧ w'.cell? ⟨gA, o + j, none⟩ = some (.int .i64 y)) (by kernel_rfl) ?_ (fun hHeld => ?_)
      · rw [hw0]; exact ⟨rfl, e0, e2, ey⟩
      rw [hw0] at hHeld ⊢
      clear hw0 d0 d2 hcell' hO' hb'
      refine hTk 0 17 hHeld ?_
      refine hTk 1 18 hHeld ?_
      refine hTk 2 19 hHeld ?_
      refine hTk 3 20 hHeld ?_
      refine hTk 4 21 hHeld ?_
      refine hTk 5 22 hHeld ?_
      refine hTk 6 23 hHeld ?_
      refine hTk 7 24 hHeld ?_
      refine hTk 8 25 hHeld ?_
      refine hTk 9 26 hHeld ?_
      refine hTk 10 27 hHeld ?_
      refine hTk 12 29 hHeld ?_
      refine hTk 13 30 hHeld ?_
      refine hTk 14 31 hHeld ?_
      refine hTk 15 32 hHeld ?_
      refine hTk 16 33 hHeld ?_
      refine hNo 11 fun K hK => ?_
      go_simp; go_at_call 157; refine (refMod_any y S _ (by omega)).mono ?_; rw [hr.out]; rintro e w' ⟨rfl, hw'⟩; rw [hw']; clear hw' w'
      refine hK.out _ _ ?_ fun hHeld => ?_
      · exact ⟨rfl, e0, e2, ey⟩
      clear hK K
      try simp only [Act.put, za, zb, zc]
      refine hNo 17 fun K hK => ?_
      go_simp; go_at_call 157; refine (refMod_any x S _ (by omega)).mono ?_; rw [hk.out]; rintro e w' ⟨rfl, hw'⟩; rw [hw']; clear hw' w'
      refine hK.out _ _ ?_ fun hHeld => ?_
      · exact ⟨rfl, e0, e2, ey⟩
      clear hK K
      try simp only [Act.put, za, zb, zc]
      refine hTk 18 35 hHeld ?_
      refine wpAnyH_done (by kernel_rfl) (NoPanic.normal ?_) _
      clear hHeld
      by_cases c : r = k
      · subst c
        go_wp2_with (at_builtin; refine wpList_app rfl _ _ rfl rfl rfl ((unhide hO0).alloc _) (view_one w0 y) (by simp; omega) (P.length + 1) (by simp) ?_; intro ao2 cap2 w2 g2 hown2 hap2; replace hown2 := hide hown2; replace hap2 := hide hap2; go_frame)
        go_roundw
        case rel =>
          have hap := unhide hap2
          have hs := (unhide hb0).size
          refine ⟨j + 1, g2, by omega, by simp, ?_, ?_, ((unhide hb0).alloc hs _).trans (hap.fr.below (fun i hi => by rw [hi]; exact hg) (by simp; omega))⟩
          · rw [unhide hpt, if_pos rfl]; exact unhide hown2
          · rcases hap.lies with e | e
            · omega
            · simp at e; omega
        case measure => simp [intOf]; omega
      · go_wp2_with fail
        go_roundw
        case rel => exact ⟨j + 1, g, by omega, by simp, by rw [unhide hpt, if_neg c]; exact unhide hO0, hg, unhide hb0⟩
        case measure => simp [intOf]; omega
    · obtain rfl : j = A.length := by omega
      rw [List.take_length] at hO' ⊢
      replace hb := hide hb
      go_wp2_with fail
      go_ret
      exact ⟨_, g, rfl, hg, unhide hO', unhide hb⟩
end Go.Proofs.YtoenjdnccgmhoaaGreatDoor
namespace Go.Proofs.YtoenjdnccgmhoaaGreatDoor
open Go.ChangeShapes Go.WideShapes Go.ChangeAt Go.RowKit
set_option linter.unusedSimpArgs false
set_option linter.unusedVariables false
set_option maxRecDepth 10000
attribute [local go_sem, local simp] over_const setCell_drewN alloc_drewN Over.cell Over.frozen lt_s1 lt_s2 lt_s3 le_s0 le_s1 le_s2 le_s3 eq_s0 eq_s1 eq_s2 qe_s0
theorem RfIs.put {w w1 : World} {p g g' : Nat} {Ft : Nat → Prop} {S W : Int} {A A' : List Int} {v v' : Value} (h : RfIs w p Ft S W A) (hv : w.cell? ⟨p, 2, none⟩ = some v) (hFg : Ft g) (hgp : g = p → v = nilV) (hf : FrS (· = g) w w1) (hnil : v = nilV → Below w.heap.size w w1) (hI : Inv S W A')
    (hown : Own w1 v' g' A') (hg : g' = g ∨ w.heap.size ≤ g') (hk : g' = g → v = nilV → v' = nilV) :
    w1.cell? ⟨p, 2, none⟩ = some v ∧ w1.frozen? ⟨p, 2, none⟩ = false ∧ ∃ Ft', RfIs (w1.setCell ⟨p, 2, none⟩ v') p Ft' S W A' ∧ Step Ft Ft' w (w1.setCell ⟨p, 2, none⟩ v') := by
  have hb : w1.heap[p]? = w.heap[p]? := by
    by_cases e : g = p
    · exact (hnil (hgp e)).block p h.pl
    · exact hf.block p h.pl (fun x => e x.symm)
  have q0 := (World.cell?_of_block (w := w) (a := ⟨p, 0, none⟩) hb).trans h.c0
  have q1 := (World.cell?_of_block (w := w) (a := ⟨p, 1, none⟩) hb).trans h.c1
  have q2 := (World.cell?_of_block (w := w) (a := ⟨p, 2, none⟩) hb).trans hv
  have qf := (World.frozen?_of_block (w := w) (a := ⟨p, 2, none⟩) hb).trans h.f2
  have hs := hf.size
  have hpl := h.pl
  have hgl := hown.lt
  refine ⟨q2, qf, fun b => Ft b ∨ b = g', ⟨hI, by rw [World.size_setCell]; omega, .inl h.fp, ?_, (World.cell?_setCell_other _ _ _ _ (by simp)).trans q0, (World.cell?_setCell_other _ _ _ _ (by simp)).trans q1, ⟨v', g', World.cell?_setCell_same _ _ _ q2, ?_, .inr rfl, fun e => ?_⟩, by rw [World.frozen?_setCell]; exact qf⟩, ?_, ?_⟩
  · rintro b (hb' | rfl)
    · rw [World.size_setCell]; have := h.lt b hb'; omega
    · rw [World.size_setCell]; exact hgl
  · by_cases e : g' = p
    · have e1 : g' = g := by rcases hg with hg | hg; exact hg; omega
      have e2 := hk e1 (hgp (by omega))
      subst e2
      rw [own_nilV hown]
      exact own_nil (by rw [World.size_setCell]; exact hgl)
    · exact hown.carry (Below.heap_setCell _ _ _ _ e)
  · have e1 : g' = g := by rcases hg with hg | hg; exact hg; omega
    exact hk e1 (hgp (by omega))
  · exact ((hf.mono (fun i _ hi => by rw [hi]; exact hFg)).setCell (.inl h.fp) v')
  · rintro b (hb' | rfl)
    · exact .inl hb'
    · rcases hg with rfl | hg
      · exact .inl hFg
      · exact .inr hg
theorem RfIs.putNew {w w1 : World} {p g' : Nat} {Ft : Nat → Prop} {S W : Int} {A A' : List Int} {v' : Value} (h : RfIs w p Ft S W A) (hb : Below w.heap.size w w1) (hI : Inv S W A') (hown : Own w1 v' g' A') (hg : w.heap.size ≤ g') :
    (∃ v, w1.cell? ⟨p, 2, none⟩ = some v) ∧ w1.frozen? ⟨p, 2, none⟩ = false ∧ ∃ Ft', RfIs (w1.setCell ⟨p, 2, none⟩ v') p Ft' S W A' ∧ Step Ft Ft' w (w1.setCell ⟨p, 2, none⟩ v') := by
  obtain ⟨v, g, h1, h2, h3, h4⟩ := h.c2
  obtain ⟨a, b, c⟩ := h.put h1 h3 h4 (FrS.of_below hb) (fun _ => hb) hI hown (.inr hg) (fun e => by have := h2.lt; omega)
  exact ⟨⟨v, a⟩, b, c⟩
theorem belA' (w : World) (o : Obj) : Below w.heap.size w (w.alloc o) := (Below.refl _ _).alloc (Nat.le_refl _) _
theorem RfIs.view {w : World} {p : Nat} {Ft : Nat → Prop} {S W : Int} {A : List Int} (h : RfIs w p Ft S W A) : ∃ ao cap g, w.cell? ⟨p, 2, none⟩ = some (.slice ao A.length cap) ∧ Hid (View w (.slice ao A.length cap) g A) := by
  obtain ⟨v, g, h1, h2, _⟩ := h.c2
  have h3 := h2.view
  obtain ⟨ao, cap, rfl, _⟩ := h2
  exact ⟨ao, cap, g, h1, h3⟩
set_option maxHeartbeats 2000000 in
theorem rAdd_c (p : Nat) (Ft : Nat → Prop) (S W x : Int) (A : List Int) (w : World) (h : RfIs w p Ft S W A) (hx : x ≤ 9223372036854775807) : Calls Tryz.prog 96 #[ptr p, .int .i64 x] w fun e w' => e = .returned (.bool (okAdd S W A x)) ∧ ∃ Ft', RfIs w' p Ft' S W (nxAdd S W A x) ∧ Step Ft Ft' w w' := by
  have hh := hide h
  have c1 := h.c1
  have hpl := h.pl
  by_cases x0 : x < 0
  · have e1 : okAdd S W A x = false := by simp [okAdd]; omega
    have e2 : nxAdd S W A x = A := by simp [nxAdd, e1]
    rw [e1, e2]
    clear h
    go_enter Tryz.func96, Tryz.ntmps96
    go_wp2_with fail
    refine wp_region_noPanic ?_
    refine wp_region_held_drew (S := (fun w' => w' = w.drew)) (by kernel_rfl) ?_ (fun hHeld => ?_)
    · rfl
    refine hTk 0 5 hHeld ?_
    refine hVl 1 6 (.bool true) hHeld (fun wz hSw => ?_) ?_
    · try dsimp only at hSw
      go_simp; try simp [x0]
    refine hTk 2 7 hHeld ?_
    refine hSk 3 8 hHeld ?_
    refine hSk 4 9 hHeld ?_
    refine hSk 5 10 hHeld ?_
    refine hTk 6 11 hHeld ?_
    refine hTk 7 12 hHeld ?_
    refine hSk 8 13 hHeld ?_
    refine hSk 9 14 hHeld ?_
    refine hSk 10 15 hHeld ?_
    refine hSk 11 16 hHeld ?_
    refine hSk 12 17 hHeld ?_
    refine hSk 13 18 hHeld ?_
    refine hSk 14 19 hHeld ?_
    refine hSk 15 20 hHeld ?_
    refine hSk 16 21 hHeld ?_
    refine hTk 17 22 hHeld ?_
    refine wpAnyH_done (by kernel_rfl) (NoPanic.normal ?_) _
    clear hHeld
    go_wp2_with fail
    go_ret
    exact ⟨rfl, Ft, (unhide hh).drew, Step.of_below (Below.refl _ _).drew⟩
  by_cases xa : x ∈ A
  · have e1 : okAdd S W A x = false := by simp [okAdd, xa]
    have e2 : nxAdd S W A x = A := by simp [nxAdd, e1]
    have e3 : decide (x ∈ A) = true := by simpa using xa
    rw [e1, e2]
    clear h xa
    go_enter Tryz.func96, Tryz.ntmps96
    go_wp2_with fail
    refine wp_region_noPanic ?_
    refine wp_region_held_drew (S := (fun w' => w' = w.drew)) (by kernel_rfl) ?_ (fun hHeld => ?_)
    · rfl
    refine hTk 0 5 hHeld ?_
    refine hVl 1 6 (.bool false) hHeld (fun wz hSw => ?_) ?_
    · try dsimp only at hSw
      go_simp; try simp [x0]
    refine hTk 2 7 hHeld ?_
    refine hTk 3 8 hHeld ?_
    refine hTk 4 9 hHeld ?_
    refine hNo 5 fun K hK => ?_
    go_simp; go_at_call 95; refine (rHas_c p Ft S W x A w.drew (unhide hh).drew).mono ?_; rw [e3]; rintro e w' ⟨rfl, hw'⟩; rw [hw']; clear hw' w'
    refine hK.out _ _ ?_ fun hHeld => ?_
    · exact rfl
    clear hK K
    try simp only [Act.put, za, zb, zc]
    refine hTk 6 11 hHeld ?_
    refine hTk 7 12 hHeld ?_
    refine hSk 8 13 hHeld ?_
    refine hSk 9 14 hHeld ?_
    refine hSk 10 15 hHeld ?_
    refine hSk 11 16 hHeld ?_
    refine hSk 12 17 hHeld ?_
    refine hSk 13 18 hHeld ?_
    refine hSk 14 19 hHeld ?_
    refine hSk 15 20 hHeld ?_
    refine hSk 16 21 hHeld ?_
    refine hTk 17 22 hHeld ?_
    refine wpAnyH_done (by kernel_rfl) (NoPanic.normal ?_) _
    clear hHeld
    go_wp2_with fail
    go_ret
    exact ⟨rfl, Ft, (unhide hh).drew, Step.of_below (Below.refl _ _).drew⟩
  have e3 : decide (x ∈ A) = false := by simpa using xa
  obtain ⟨n, hn⟩ : ∃ n : Nat, Hid ((part S A (modZ x S)).length = n) := ⟨_, rfl⟩
  have hlen := h.inv.len
  by_cases hfl : W ≤ (n : Int)
  · have e1 : okAdd S W A x = false := by simp [okAdd, fullA, hn.out, hfl]
    have e2 : nxAdd S W A x = A := by simp [nxAdd, e1]
    rw [e1, e2]
    clear h xa
    go_enter Tryz.func96, Tryz.ntmps96
    go_wp2_with fail
    refine wp_region_noPanic ?_
    refine wp_region_held_drew (S := (fun w' => w'.cell? ⟨p, 1, none⟩ = some (.int .i64 W))) (by kernel_rfl) ?_ (fun hHeld => ?_)
    · exact c1
    refine hTk 0 5 hHeld ?_
    refine hVl 1 6 (.bool false) hHeld (fun wz hSw => ?_) ?_
    · try dsimp only at hSw
      go_simp; try simp [x0]
    refine hTk 2 7 hHeld ?_
    refine hTk 3 8 hHeld ?_
    refine hTk 4 9 hHeld ?_
    refine hNo 5 fun K hK => ?_
    go_simp; go_at_call 95; refine (rHas_c p Ft S W x A w.drew (unhide hh).drew).mono ?_; rw [e3]; rintro e w' ⟨rfl, hw'⟩; rw [hw']; clear hw' w'
    refine hK.out _ _ ?_ fun hHeld => ?_
    · exact c1
    clear hK K
    try simp only [Act.put, za, zb, zc]
    refine hTk 6 11 hHeld ?_
    refine hTk 7 12 hHeld ?_
    refine hTk 8 13 hHeld ?_
    refine hTk 9 14 hHeld ?_
    refine hTk 12 17 hHeld ?_
    refine hTk 13 18 hHeld ?_
    refine hTk 14 19 hHeld ?_
    refine hTk 15 20 hHeld ?_
    refine hand_call (i := 10) rfl (by kernel_rfl) ?_
    intro o ho
    simp at ho
    subst ho
    intro K hK
    go_simp
    go_at_call 134
    refine (mates_c p Ft S W x A w.drew (unhide hh).drew).mono ?_
    rintro e w1 ⟨v1, g1, rfl, hg1, hO1, hb1⟩
    obtain ⟨ao1, cap1, rfl, -⟩ := hO1
    rw [hn.out]
    have hB1 : Below w.heap.size w w1 := ((Below.refl _ _).drew).trans hb1
    refine hK.out _ _ ?_ (fun hHeld => ?_)
    · exact (hB1.cell (p := ⟨p, 1, none⟩) hpl).trans c1
    clear hK K hb1 hg1
    replace hB1 := hide hB1
    try simp only [Act.put, List.setIfInBounds_toArray, List.set_cons_zero, List.set_cons_succ]
    refine hTk 11 16 hHeld ?_
    refine hVl 16 21 (.bool true) hHeld (fun wz hSw => ?_) ?_
    · try dsimp only at hSw
      go_simp; try simp [hfl]
    refine hTk 17 22 hHeld ?_
    refine wpAnyH_done (by kernel_rfl) (NoPanic.normal ?_) _
    clear hHeld
    go_wp2_with fail
    go_ret
    exact ⟨rfl, Ft, (unhide hh).below (unhide hB1), Step.of_below (unhide hB1)⟩
  · have hfl' : fullA S W A x = false := by simp [fullA, hn.out]; omega
    have e1 : okAdd S W A x = true := by simp [okAdd, hfl', xa]; omega
    have e2 : nxAdd S W A x = A ++ [x] := by simp [nxAdd, e1]
    have hI := hide (h.inv.add hx e1)
    rw [e1, e2]
    clear h xa hfl'
    go_enter Tryz.func96, Tryz.ntmps96
    go_wp2_with fail
    refine wp_region_noPanic ?_
    refine wp_region_held_drew (S := (fun w' => w'.cell? ⟨p, 1, none⟩ = some (.int .i64 W))) (by kernel_rfl) ?_ (fun hHeld => ?_)
    · exact c1
    refine hTk 0 5 hHeld ?_
    refine hVl 1 6 (.bool false) hHeld (fun wz hSw => ?_) ?_
    · try dsimp only at hSw
      go_simp; try simp [x0]
    refine hTk 2 7 hHeld ?_
    refine hTk 3 8 hHeld ?_
    refine hTk 4 9 hHeld ?_
    refine hNo 5 fun K hK => ?_
    go_simp; go_at_call 95; refine (rHas_c p Ft S W x A w.drew (unhide hh).drew).mono ?_; rw [e3]; rintro e w' ⟨rfl, hw'⟩; rw [hw']; clear hw' w'
    refine hK.out _ _ ?_ fun hHeld => ?_
    · exact c1
    clear hK K
    try simp only [Act.put, za, zb, zc]
    refine hTk 6 11 hHeld ?_
    refine hTk 7 12 hHeld ?_
    refine hTk 8 13 hHeld ?_
    refine hTk 9 14 hHeld ?_
    refine hTk 12 17 hHeld ?_
    refine hTk 13 18 hHeld ?_
    refine hTk 14 19 hHeld ?_
    refine hTk 15 20 hHeld ?_
    refine hand_call (i := 10) rfl (by kernel_rfl) ?_
    intro o ho
    simp at ho
    subst ho
    intro K hK
    go_simp
    go_at_call 134
    refine (mates_c p Ft S W x A w.drew (unhide hh).drew).mono ?_
    rintro e w1 ⟨v1, g1, rfl, hg1, hO1, hb1⟩
    obtain ⟨ao1, cap1, rfl, -⟩ := hO1
    rw [hn.out]
    have hB1 : Below w.heap.size w w1 := ((Below.refl _ _).drew).trans hb1
    refine hK.out _ _ ?_ (fun hHeld => ?_)
    · exact (hB1.cell (p := ⟨p, 1, none⟩) hpl).trans c1
    clear hK K hb1 hg1
    have hh1 := hide ((unhide hh).below hB1)
    replace hB1 := hide hB1
    try simp only [Act.put, List.setIfInBounds_toArray, List.set_cons_zero, List.set_cons_succ]
    refine hTk 11 16 hHeld ?_
    refine hVl 16 21 (.bool false) hHeld (fun wz hSw => ?_) ?_
    · try dsimp only at hSw
      go_simp; try simp [hfl]
    refine hTk 17 22 hHeld ?_
    refine wpAnyH_done (by kernel_rfl) (NoPanic.normal ?_) _
    clear hHeld
    clear c1 hpl hh
    obtain ⟨ao, cap, g, c2, hV⟩ := (unhide hh1).view
    have hpl1 := (unhide hh1).pl
    have tok1 : True := trivial
    go_wp2_with (first | (at_builtin; have _t := tok1; refine wpList_app rfl _ _ rfl rfl rfl (own_empty _ _) ((unhide hV).alloc _) (by simp; omega) A.length (by simp) ?_; intro ao2 cap2 w2 g2 hown2 hap2; clear tok1; have hb2 : Below w1.heap.size w1 w2 := ((belA' w1 _).trans (hap2.fr.below (fun i hi => by rw [hi]; exact Nat.le_refl _) (by simp))); have hg2 : w1.heap.size ≤ g2 := (by have := hap2.lies; simp at this; omega); rw [List.nil_append] at hown2; replace hown2 := hide hown2; clear hap2; replace hb2 := hide hb2) | (at_builtin; refine wpList_app rfl _ _ rfl rfl rfl ((unhide hown2).alloc _) (view_one w2 x) (by simp; omega) (A.length + 1) (by simp) ?_; intro ao3 cap3 w3 g3 hown3 hap3; obtain ⟨⟨vo, q1⟩, q2, hfin⟩ := (unhide hh1).putNew ((unhide hb2).trans (((belA' w2 _).mono (unhide hb2).size).trans (hap3.fr.below (fun i hi => by rw [hi]; exact hg2) (by have := (unhide hb2).size; simp; omega)))) (unhide hI) hown3 (by have := hap3.lies; have h5 := (unhide hb2).size; simp at this; omega); replace hfin := hide hfin; clear hown3 hap3))
    go_ret
    obtain ⟨Ft', f1, f2⟩ := unhide hfin
    exact ⟨rfl, Ft', f1, (Step.of_below (unhide hB1)).trans f2⟩
end Go.Proofs.YtoenjdnccgmhoaaGreatDoor
namespace Go.Proofs.YtoenjdnccgmhoaaGreatDoor
open Go.ChangeShapes Go.WideShapes Go.ChangeAt Go.RowKit
set_option linter.unusedSimpArgs false
set_option linter.unusedVariables false
set_option maxRecDepth 10000
attribute [local go_sem, local simp] over_const setCell_drewN alloc_drewN Over.cell Over.frozen lt_s1 lt_s2 lt_s3 le_s0 le_s1 le_s2 le_s3 eq_s0 eq_s1 eq_s2 qe_s0
theorem view_take {w : World} {g o cap k : Nat} {L : List Int} (hk : k ≤ L.length) (hle : L.length ≤ cap) (hmx : cap ≤ maxLen) (hg : g < w.heap.size) (hc : ∀ j, j < L.length → w.cell? ⟨g, o + j, none⟩ = (ints L)[j]?) :
    View w (.slice (some ⟨g, o, none⟩) k cap) g (L.take k) := by
  have hl : (L.take k).length = k := by rw [List.length_take]; omega
  refine ⟨_, cap, by rw [hl], by omega, hmx, .inr ⟨o, rfl, hg, fun j hj => ?_⟩⟩
  rw [hl] at hj
  rw [hc j (by omega), ints_take L k, List.getElem?_take, if_pos hj]
theorem view_drop {w : World} {g o cap j : Nat} {L : List Int} (hj : j ≤ L.length) (hle : L.length ≤ cap) (hmx : cap ≤ maxLen) (hg : g < w.heap.size) (hc : ∀ j, j < L.length → w.cell? ⟨g, o + j, none⟩ = (ints L)[j]?) :
    ∃ A, (if cap = j then some (⟨g, o, none⟩ : Addr) else some ⟨g, o + j, none⟩) = A ∧ View w (.slice A (L.length - j) (cap - j)) g (L.drop j) := by
  have hl : (L.drop j).length = L.length - j := by rw [List.length_drop]
  refine ⟨_, rfl, _, cap - j, by rw [hl], by omega, by omega, ?_⟩
  by_cases e : L.drop j = []
  · exact .inl e
  · have : L.length - j ≠ 0 := by intro h; rw [← hl] at h; exact e (List.eq_nil_of_length_eq_zero h)
    refine .inr ⟨o + j, by rw [if_neg (by omega)], hg, fun i hi => ?_⟩
    rw [hl] at hi
    rw [Nat.add_assoc, hc _ (by omega), ints_drop L j, List.getElem?_drop]
theorem take_drop_erase (L : List Int) (x : Int) (k : Nat) (hk : idxF L x = k) (hx : x ∈ L) : L.take k ++ L.drop (k + 1) = L.erase x := by
  rw [← idxF_erase L x hx, hk, Int.toNat_natCast, List.eraseIdx_eq_take_drop_succ]
set_option maxHeartbeats 2000000 in
theorem rRemove_c (p : Nat) (Ft : Nat → Prop) (S W x : Int) (A : List Int) (w : World) (h : RfIs w p Ft S W A) : Calls Tryz.prog 133 #[ptr p, .int .i64 x] w fun e w' => e = .returned (.bool (okRem A x)) ∧ ∃ Ft', RfIs w' p Ft' S W (A.erase x) ∧ Step Ft Ft' w w' := by
  have hh := hide h
  have hlen := h.inv.len
  have hI := hide (h.inv.rem x)
  obtain ⟨i, hi⟩ : ∃ i, Hid (idxF A x = i) := ⟨_, rfl⟩
  by_cases xa : x ∈ A
  · have e1 : okRem A x = true := by simp [okRem, xa]
    rw [e1]
    have hbd := idxF_bd A x
    have hne : ¬ idxF A x = -1 := fun e => (idxF_neg A x).1 e xa
    rw [hi.out] at hbd hne
    obtain ⟨k, rfl⟩ : ∃ k : Nat, i = k := ⟨i.toNat, by omega⟩
    have hk : k < A.length := by omega
    have her := hide (take_drop_erase A x k hi.out xa)
    obtain ⟨j, hj⟩ : ∃ j : Nat, Hid (k + 1 = j) := ⟨_, rfl⟩
    have hjl : j ≤ A.length := by have := hj.out; omega
    have hwr : IntKind.i64.wrap ((k : Int) + 1) = (j : Int) := by have := hj.out; rw [IntKind.wrap_i64]; omega
    obtain ⟨v, g, c2, hO, hFg, hgp⟩ := h.c2
    obtain ⟨ao, cap, rfl, hlc, hmx, hg, hw⟩ := hO
    rcases hw with ⟨_, rfl⟩ | ⟨o, rfl, hc, hsp⟩
    · omega
    have hV1 := hide (view_take (w := w) (k := k) (by omega) hlc hmx hg hc)
    obtain ⟨D, hD, hV2⟩ := view_drop (w := w) (j := j) hjl hlc hmx hg hc
    replace hV2 := hide hV2
    have hmx' : cap ≤ 9223372036854775807 := by unfold maxLen at hmx; omega
    have n0 : ¬ cap = 0 := by omega
    have m1 : (k : Int) ≤ cap := by omega
    have m2 : (j : Int) ≤ A.length := by omega
    have hl1 : Hid ((A.take k).length = k) := by rw [List.length_take]; show min k A.length = k; omega
    have hl2 : Hid ((A.drop j).length = A.length - j) := by rw [List.length_drop]; rfl
    have hpl := hide h.pl
    have c2' := hide c2
    clear h hc hsp hgp xa hbd hne
    go_enter Tryz.func133, Tryz.ntmps133
    go_wp2_with (go_at_call 135; refine (find_c p Ft S W x A _ (unhide hh)).mono ?_; rw [hi.out]; rintro e w' ⟨rfl, hw'⟩; rw [hw']; clear hw' w')
    go_wp2_with fail
    refine wp_region_noPanic ?_
    refine last_begin 19 (fun w' => w'.cell? ⟨p, 2, none⟩ = some (.slice (some ⟨g, o, none⟩) A.length cap)) (by kernel_rfl) ?_ fun hHeld => ?_
    · exact c2
    refine lTk 0 11 hHeld ?_
    refine lTk 2 13 hHeld ?_
    refine lTk 3 14 hHeld ?_
    refine lTk 4 15 hHeld ?_
    refine lTk 5 16 hHeld ?_
    refine lTk 6 17 hHeld ?_
    refine lTk 7 18 hHeld ?_
    refine lTk 9 20 hHeld ?_
    refine lTk 10 21 hHeld ?_
    refine lTk 11 22 hHeld ?_
    refine lTk 12 23 hHeld ?_
    refine lTk 13 24 hHeld ?_
    refine lTk 14 25 hHeld ?_
    refine lTk 15 26 hHeld ?_
    refine lNo 1 fun K hK => ?_
    go_simp
    refine hK.out _ _ (fun _ => ?_) fun hHeld0 => ?_
    · exact ((Below.refl w.heap.size w).drew.alloc (Nat.le_refl _) _).cell (p := ⟨p, 2, none⟩) (unhide hpl) |>.trans (unhide c2')
    clear hK K
    replace hHeld := hHeld0 (by decide)
    clear hHeld0
    try simp only [Act.put, za, zb, zc]
    refine last_call (i := 8) rfl (by kernel_rfl) ?_
    intro o8 ho
    simp at ho
    subst ho
    intro K hK
    refine wp_app (.tmp 12) (.tmp 18) rfl rfl rfl (own_empty w.drew _) ((unhide hV1).carry (fun _ hq => Below.heap_alloc w.drew _ _ hq)) (by rw [hl1.out]; simp; omega) k (by rw [hl1.out]; simp) ?_
    intro ao1 cap1 w1 g1 hown1 hap1
    have hB1 : Below w.heap.size w w1 := (((Below.refl w.heap.size w).drew).alloc (Nat.le_refl _) _).trans (hap1.fr.below (fun i hi => by rw [hi]; exact Nat.le_refl _) (by simp))
    have hg1 : w.heap.size ≤ g1 := by have := hap1.lies; simp at this; omega
    have q1 : w1.cell? ⟨p, 2, none⟩ = some (.slice (some ⟨g, o, none⟩) A.length cap) := (hB1.cell (p := ⟨p, 2, none⟩) (unhide hpl)).trans (unhide c2')
    rw [List.nil_append] at hown1
    replace hown1 := hide hown1
    replace hB1 := hide hB1
    clear hap1
    refine hK.out _ _ (fun _ => ?_) (fun hHeld0 => ?_)
    · exact q1
    clear hK K
    replace hHeld := hHeld0 (by decide)
    clear hHeld0
    try simp only [Act.put, List.setIfInBounds_toArray, List.set_cons_zero, List.set_cons_succ]
    refine last_call (i := 16) rfl (by kernel_rfl) ?_
    intro o16 ho
    simp at ho
    subst ho
    intro K hK
    refine wp_app (.tmp 19) (.tmp 26) rfl rfl rfl (unhide hown1) ((unhide hV2).below (unhide hB1)) (by rw [hl1.out, hl2.out]; omega) (A.length - 1) (by have := hj.out; rw [hl1.out, hl2.out]; omega) ?_
    intro ao2 cap2 w2 g2 hown2 hap2
    have hB2 : Below w.heap.size w w2 := (unhide hB1).trans (hap2.fr.below (fun i hi => by rw [hi]; exact hg1) (unhide hB1).size)
    have hg2 : w.heap.size ≤ g2 := by have := hap2.lies; have := (unhide hB1).size; omega
    have he := her.out
    rw [hj.out] at he
    rw [he] at hown2
    obtain ⟨⟨vo, z1⟩, z2, hfin⟩ := (unhide hh).putNew hB2 (unhide hI) hown2 hg2
    have q2 : w2.cell? ⟨p, 2, none⟩ = some (.slice (some ⟨g, o, none⟩) A.length cap) := (hB2.cell (p := ⟨p, 2, none⟩) (unhide hpl)).trans (unhide c2')
    replace hfin := hide hfin
    clear hown2 hap2 hB2 he
    refine hK.out _ _ (fun _ => ?_) (fun hHeld0 => ?_)
    · exact q2
    clear hK K
    replace hHeld := hHeld0 (by decide)
    clear hHeld0
    try simp only [Act.put, List.setIfInBounds_toArray, List.set_cons_zero, List.set_cons_succ]
    refine lNo 17 fun K hK => ?_
    go_simp
    refine hK.out _ _ (fun _ => ?_) fun hHeld0 => ?_
    · exact q2
    clear hK K
    replace hHeld := hHeld0 (by decide)
    clear hHeld0
    try simp only [Act.put, za, zb, zc]
    refine lTk 18 29 hHeld ?_
    refine lNo 19 fun K hK => ?_
    go_simp
    refine hK.out _ _ (fun h => absurd rfl h) fun _ => ?_
    clear hK K
    try simp only [Act.put, za, zb, zc]
    refine last_done (by kernel_rfl) (NoPanic.normal ?_) _
    clear hHeld
    go_wp2_with fail
    go_ret
    obtain ⟨Ft', f1, f2⟩ := unhide hfin
    exact ⟨rfl, Ft', f1, f2⟩
  · have e1 : okRem A x = false := by simp [okRem, xa]
    have e2 : A.erase x = A := List.erase_of_not_mem xa
    have e3 := (idxF_neg A x).2 xa
    rw [hi.out] at e3
    subst e3
    rw [e1, e2]
    clear h xa
    go_enter Tryz.func133, Tryz.ntmps133
    go_wp2_with (go_at_call 135; refine (find_c p Ft S W x A _ (unhide hh)).mono ?_; rw [hi.out]; rintro e w' ⟨rfl, hw'⟩; rw [hw']; clear hw' w')
    go_ret
    exact ⟨rfl, Ft, unhide hh, Step.refl _ _⟩
end Go.Proofs.YtoenjdnccgmhoaaGreatDoor
namespace Go.Proofs.YtoenjdnccgmhoaaGreatDoor
open Go.ChangeShapes Go.WideShapes Go.ChangeAt Go.RowKit
set_option linter.unusedSimpArgs false
set_option linter.unusedVariables false
set_option maxRecDepth 10000
attribute [local go_sem, local simp] over_const setCell_drewN alloc_drewN Over.cell Over.frozen lt_s1 lt_s2 lt_s3 le_s0 le_s1 le_s2 le_s3 eq_s0 eq_s1 eq_s2 qe_s0
set_option maxHeartbeats 2000000 in
theorem rUse_c (p : Nat) (Ft : Nat → Prop) (S W x : Int) (A : List Int) (w : World) (h : RfIs w p Ft S W A) : Calls Tryz.prog 91 #[ptr p, .int .i64 x] w fun e w' => e = .returned (.bool (okRem A x)) ∧ ∃ Ft', RfIs w' p Ft' S W (nxUse A x) ∧ Step Ft Ft' w w' := by
  have hh := hide h
  have hI := hide (h.inv.nxUse x)
  have hlen := h.inv.len
  obtain ⟨q, hq⟩ : ∃ q, Hid (okRem A x = q) := ⟨_, rfl⟩
  rw [hq.out]
  clear h
  cases q
  case false =>
    have xa : x ∉ A := by simpa [okRem] using hq.out
    have e2 : nxUse A x = A := by simp [nxUse, xa]
    have e3 : A.erase x = A := List.erase_of_not_mem xa
    rw [e2]
    clear xa
    go_enter Tryz.func91, Tryz.ntmps91
    go_wp2_with (go_at_call 133; refine (rRemove_c p Ft S W x A w (unhide hh)).mono ?_; rw [hq.out, e3]; rintro e w' ⟨rfl, hfin⟩; replace hfin := hide hfin)
    go_ret
    exact ⟨rfl, unhide hfin⟩
  case true =>
    have xa : x ∈ A := by simpa [okRem] using hq.out
    have e2 : nxUse A x = A.erase x ++ [x] := by simp [nxUse, xa]
    have hl1 : (A.erase x).length ≤ 1024 := Nat.le_trans List.length_erase_le hlen
    rw [e2] at hI ⊢
    obtain ⟨B, hB⟩ : ∃ B, Hid (A.erase x = B) := ⟨_, rfl⟩
    rw [hB.out] at hI hl1 ⊢
    clear xa e2
    go_enter Tryz.func91, Tryz.ntmps91
    go_wp2_with fail
    go_at_call 133
    refine (rRemove_c p Ft S W x A w (unhide hh)).mono ?_
    rw [hq.out, hB.out]
    rintro e w1 ⟨rfl, F1, hn1, st1⟩
    obtain ⟨v, g, c2, hO, hFg, hgp⟩ := hn1.c2
    have hO' := hide hO
    obtain ⟨ao, cap, rfl, -⟩ := hO
    replace hn1 := hide hn1
    replace st1 := hide st1
    replace hgp := hide hgp
    go_wp2_with (at_builtin; refine wpList_app rfl _ _ rfl rfl rfl ((unhide hO').alloc _) (view_one w1 x) (by simp; omega) (B.length + 1) (by simp) ?_; intro ao3 cap3 w3 g3 hown3 hap3; obtain ⟨q1, q2, hfin⟩ := (unhide hn1).put c2 hFg (unhide hgp) (((FrS.refl _ w1).alloc _).trans hap3.fr (fun i hi => .inl hi)) (fun e => (belA' w1 _).trans ((hap3.nil e).mono (by simp))) (unhide hI) hown3 (by rcases hap3.lies with e | e; exact .inl e; simp at e; exact .inr (by omega)) hap3.keep; replace hfin := hide hfin; clear hown3 hap3)
    go_ret
    obtain ⟨Ft', f1, f2⟩ := unhide hfin
    exact ⟨rfl, Ft', f1, (unhide st1).trans f2⟩
set_option maxHeartbeats 2000000 in
theorem rVictim_c (p : Nat) (Ft : Nat → Prop) (S W x q : Int) (A : List Int) (w : World) (h : RfIs w p Ft S W A) : Calls Tryz.prog 94 #[ptr p, .int .i64 x, .int .i64 q] w fun e w' => e = .returned (.tuple #[.int .i64 (vicA S W A x q).1, .bool (vicA S W A x q).2]) ∧ Below w.heap.size w w' := by
  have hh := hide h
  have hpl := h.pl
  have hc1 := h.c1
  have hpln := h.inv.plen (modZ x S)
  obtain ⟨r, hr⟩ : ∃ r, Hid (vicA S W A x q = r) := ⟨_, rfl⟩
  rw [hr.out]
  obtain ⟨L, hL⟩ : ∃ L, Hid (part S A (modZ x S) = L) := ⟨_, rfl⟩
  rw [hL.out] at hpln
  have hr' := hr.out
  have hfd : fullA S W A x = decide (W ≤ (L.length : Int)) := by rw [fullA, hL.out]
  unfold vicA at hr'
  rw [hfd, hL.out] at hr'
  replace hr' := hide hr'
  obtain ⟨had, hhad⟩ : ∃ b, decide (x ∈ A) = b := ⟨_, rfl⟩
  have hmem : x ∈ A ↔ had = true := by rw [← hhad]; simp
  replace hmem := hide hmem
  clear h hfd
  go_enter Tryz.func94, Tryz.ntmps94
  go_wp2_with fail
  go_at_call 134
  refine (mates_c p Ft S W x A w (unhide hh)).mono ?_
  rw [hL.out]
  rintro e w1 ⟨v1, g1, rfl, hg1, hO1, hb1⟩
  have hV := hide hO1.view
  obtain ⟨ao, cap, rfl, -⟩ := hO1
  have hh1 := hide ((unhide hh).below hb1)
  have d1 : w1.cell? ⟨p, 1, none⟩ = some (.int .i64 W) := (hb1.cell (p := ⟨p, 1, none⟩) hpl).trans hc1
  replace hb1 := hide hb1
  clear hc1 hh hg1
  by_cases x0 : x < 0
  · obtain rfl : r = (-1, false) := by have := hr'.out; rw [if_pos x0] at this; exact this.symm
    go_wp2_with fail
    go_returns
    exact ⟨rfl, unhide hb1⟩
  cases had
  case true =>
    obtain rfl : r = (-1, true) := by have := hr'.out; rw [if_neg x0, if_pos (.inl (hmem.out.2 rfl))] at this; exact this.symm
    go_wp2_with (go_at_call 95; refine (rHas_c p Ft S W x A w1 (unhide hh1)).mono ?_; rw [hhad]; rintro e w' ⟨rfl, hw'⟩; rw [hw']; clear hw' w')
    go_returns
    exact ⟨rfl, unhide hb1⟩
  case false =>
    by_cases hfl : W ≤ (L.length : Int)
    · have hfn : Hid (firstNot L q = r) := by have := hr'.out; rw [if_neg x0, if_neg (by simp [hmem.out, hfl])] at this; exact this
      have hfl' : ¬ (L.length : Int) < W := by omega
      clear hr'
      go_wp2_with (go_at_call 95; refine (rHas_c p Ft S W x A w1 (unhide hh1)).mono ?_; rw [hhad]; rintro e w' ⟨rfl, hw'⟩; rw [hw']; clear hw' w')
      go_loopw [9] (fun i wr => ∃ j : Nat, j ≤ L.length ∧ i = .int .i64 j ∧ wr = w1 ∧ Hid (firstNot (L.drop j) q = r)) (fun i _ => L.length - (intOf i).toNat)
      case atStart => exact ⟨0, Nat.zero_le _, rfl, rfl, hfn⟩
      case round =>
        obtain ⟨j, hj, rfl, hwr, ha⟩ := hrel
        rw [hwr]
        clear hwr d1
        by_cases hlt : j < L.length
        · obtain ⟨-, -, -, hc⟩ := view_at (unhide hV) rfl
          obtain ⟨o, rfl, hb, hcell⟩ := hc j hlt
          obtain ⟨y, hy⟩ : ∃ y, L[j] = y := ⟨_, rfl⟩
          rw [hy] at hcell
          have ha' := ha.out
          rw [firstNot_drop hlt, hy] at ha'
          have hlt' : (j : Int) < L.length := by omega
          clear ha hc hy
          by_cases c : y = q
          · subst c
            rw [if_pos rfl] at ha'
            replace ha' := hide ha'
            go_wp2_with fail
            go_roundw
            case rel => exact ⟨j + 1, by omega, by simp, trivial, unhide ha'⟩
            case measure => simp [intOf]; omega
          · rw [if_neg c] at ha'
            obtain rfl : r = (y, true) := ha'.symm
            clear ha'
            go_wp2_with fail
            go_returns
            exact ⟨rfl, unhide hb1⟩
        · obtain rfl : j = L.length := by omega
          have ha' := ha.out
          rw [firstNot_end (Nat.le_refl _)] at ha'
          obtain rfl : r = (-1, false) := ha'.symm
          clear ha' ha
          go_wp2_with fail
          go_returns
          exact ⟨rfl, unhide hb1⟩
    · obtain rfl : r = (-1, true) := by have := hr'.out; rw [if_neg x0, if_pos (.inr (by simpa using hfl))] at this; exact this.symm
      have hfl' : (L.length : Int) < W := by omega
      go_wp2_with (go_at_call 95; refine (rHas_c p Ft S W x A w1 (unhide hh1)).mono ?_; rw [hhad]; rintro e w' ⟨rfl, hw'⟩; rw [hw']; clear hw' w')
      go_returns
      exact ⟨rfl, unhide hb1⟩
end Go.Proofs.YtoenjdnccgmhoaaGreatDoor
