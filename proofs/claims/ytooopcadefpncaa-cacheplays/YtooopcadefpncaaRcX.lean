/- The document's cache (jetonref09) in memory, and the contracts of all its calls (layer 9): RcMath, RcA to RcF as one text. -/
import Derived.Test.YtooopcadefpncaaCacMath2
import Derived.Test.YtooopcadefpncaaLinO
import Derived.Test.YtooopcadefpncaaCacF
import Derived.Test.YtooopcadefpncaaCacE
import Derived.Test.YtooopcadefpncaaCacT
import Derived.Test.YtooopcadefpncaaCacA
import Derived.Test.YtooopcadefpncaaRef02j
import Derived.Test.YtooopcadefpncaaRef02b
import Derived.Test.YtooopcadefpncaaPermDo
namespace Go.Proofs.Ytooopcadefpncaa
open Go.RowKit

def findL : List Ln → Int → Bun
  | [], _ => bun0
  | l :: r, x => if l.b = x then l.t else findL r x

def othersL (M : List Ln) (x : Int) : List Ln := M.filter fun l => decide (l.b ≠ x)
def setL (M : List Ln) (x : Int) (b : Bun) : List Ln := othersL M x ++ if 0 < b.n then [⟨x, b⟩] else []
def lineA (A : List Int) (x : Int) (b : Bun) : List Int := if 0 < b.n then A else A.erase x

theorem findL_append (M : List Ln) (l : Ln) (x : Int) (h : ∀ m ∈ M, m.b ≠ l.b) : findL (M ++ [l]) x = if x = l.b then l.t else findL M x := by
  induction M with
  | nil =>
    simp only [List.nil_append, findL]
    by_cases e : l.b = x
    · simp [e]
    · simp [e, Ne.symm e]
  | cons m r ih =>
    have h1 := h m (by simp)
    simp only [List.cons_append, findL]
    rw [ih (fun m' hm => h m' (by simp [hm]))]
    by_cases e : m.b = x
    · subst e; simp [h1]
    · simp [e]

theorem findL_others (M : List Ln) (x y : Int) : findL (othersL M x) y = if y = x then bun0 else findL M y := by
  induction M with
  | nil => simp [othersL, findL]
  | cons m r ih =>
    simp only [othersL, List.filter_cons] at ih ⊢
    by_cases e : m.b = x
    · simp only [e, ne_eq, not_true_eq_false, decide_false, Bool.false_eq_true, if_false]
      rw [ih]
      by_cases c : y = x
      · simp [c]
      · simp [c, findL, e, Ne.symm c]
    · simp only [e, ne_eq, not_false_eq_true, decide_true, if_true, findL]
      rw [ih]
      by_cases c : m.b = y
      · subst c; simp [e]
      · simp [c]

theorem mem_others {M : List Ln} {x : Int} : ∀ m ∈ othersL M x, m.b ≠ x := fun m hm => by simpa using (List.mem_filter.1 hm).2

theorem findL_set (M : List Ln) (x : Int) (b : Bun) (hb : ¬ 0 < b.n → b = bun0) (y : Int) : findL (setL M x b) y = updT (findL M) x b y := by
  unfold setL
  by_cases c : 0 < b.n
  · rw [if_pos c, findL_append (othersL M x) ⟨x, b⟩ y (fun m hm => mem_others m hm), findL_others]
    simp only [updT]
    split <;> rfl
  · rw [if_neg c, List.append_nil, findL_others, hb c]
    simp only [updT]

theorem others_len (M : List Ln) (x : Int) : (othersL M x).length ≤ M.length := List.length_filter_le _ _
theorem setL_len (M : List Ln) (x : Int) (b : Bun) : (setL M x b).length ≤ M.length + 1 := by
  have := others_len M x
  unfold setL
  split <;> simp <;> omega
theorem setL_none_len (M : List Ln) (x : Int) : (setL M x bun0).length ≤ M.length := by
  have := others_len M x
  simpa [setL] using this

theorem findL_at (M : List Ln) (x : Int) (j : Nat) (hj : j < M.length) (h : ∀ i (hi : i < M.length), i < j → M[i].b ≠ x) (e : M[j].b = x) : findL M x = M[j].t := by
  induction M generalizing j with
  | nil => simp at hj
  | cons m r ih =>
    cases j with
    | zero => simp at e; simp [findL, e]
    | succ j =>
      have h0 := h 0 (by simp) (by omega)
      simp at h0
      simp only [findL, if_neg h0, List.getElem_cons_succ]
      exact ih j (by simpa using hj) (fun i hi hij => h (i + 1) (by simpa using hi) (by omega)) (by simpa using e)

theorem findL_none (M : List Ln) (x : Int) (h : ∀ i (hi : i < M.length), M[i].b ≠ x) : findL M x = bun0 := by
  induction M with
  | nil => rfl
  | cons m r ih =>
    have h0 := h 0 (by simp)
    simp at h0
    simp only [findL, if_neg h0]
    exact ih (fun i hi => h (i + 1) (by simpa using hi))

theorem others_take {M : List Ln} {x : Int} {j : Nat} (h : j < M.length) : othersL (M.take (j + 1)) x = if M[j].b = x then othersL (M.take j) x else othersL (M.take j) x ++ [M[j]] := by
  rw [List.take_succ_eq_append_getElem h]
  unfold othersL
  rw [List.filter_append]
  by_cases e : M[j].b = x
  · simp [e]
  · simp [e]

/-- The list, and the function that it stands for. -/
structure RelM (M : List Ln) (C : Ca) (K : Nat) : Prop where
  t : ∀ x, findL M x = C.T x
  len : M.length ≤ K

theorem RelM.set {M : List Ln} {C : Ca} {K : Nat} (h : RelM M C K) {x : Int} {b : Bun} (hb : okB b) (A' : List Int) : RelM (setL M x b) ⟨A', updT C.T x b⟩ (K + 1) :=
  ⟨fun y => by rw [findL_set M x b (fun c => ok_zero hb (by have := hb.1; omega))]; simp only [updT, h.t], Nat.le_trans (setL_len M x b) (by have := h.len; omega)⟩
theorem RelM.none {M : List Ln} {C : Ca} {K : Nat} (h : RelM M C K) (x : Int) (A' : List Int) : RelM (setL M x bun0) ⟨A', updT C.T x bun0⟩ K :=
  ⟨fun y => by rw [findL_set M x bun0 (fun _ => rfl)]; simp only [updT, h.t], Nat.le_trans (setL_none_len M x) h.len⟩
theorem RelM.lines {M : List Ln} {C : Ca} {K : Nat} (h : RelM M C K) (A' : List Int) : RelM M ⟨A', C.T⟩ K := ⟨h.t, h.len⟩
theorem RelM.mono {M : List Ln} {C : Ca} {K K' : Nat} (h : RelM M C K) (hk : K ≤ K') : RelM M C K' := ⟨h.t, Nat.le_trans h.len hk⟩
end Go.Proofs.Ytooopcadefpncaa

namespace Go.Proofs.Ytooopcadefpncaa
open Go.ChangeShapes Go.WideShapes Go.ChangeAt Go.RowKit
set_option linter.unusedSimpArgs false
set_option linter.unusedVariables false
set_option maxRecDepth 10000

attribute [local go_sem, local simp] over_const setCell_drewN alloc_drewN Over.cell Over.frozen lt_s1 lt_s2 lt_s3 le_s0 le_s1 le_s2 le_s3 eq_s0 eq_s1 eq_s2 qe_s0

/-- The document's cache in block c: lines in block p (all of them in Fr), the tokens of each in a list. -/
structure RcAt (w : World) (c p : Nat) (Fr Ft : Nat → Prop) (S W : Int) (A : List Int) (M : List Ln) : Prop where
  c0 : w.cell? ⟨c, 0, none⟩ = some (ptr p)
  f1 : w.frozen? ⟨c, 1, none⟩ = false
  rf : RfIs w p Fr S W A
  sub : ∀ b, Fr b → Ft b
  nc : ¬ Fr c
  tk : ∃ v g, w.cell? ⟨c, 1, none⟩ = some v ∧ OwnL w v g M ∧ Ft g ∧ ¬ Fr g ∧ (g = c → v = .slice none 0 0)
  fc : Ft c
  lt : ∀ b, Ft b → b < w.heap.size

theorem RcAt.carry {w w' : World} {c p : Nat} {Fr Ft : Nat → Prop} {S W : Int} {A : List Int} {M : List Ln} (h : RcAt w c p Fr Ft S W A M) (hb : ∀ b, Ft b → b < w.heap.size → w'.heap[b]? = w.heap[b]?) : RcAt w' c p Fr Ft S W A M := by
  obtain ⟨v, g, h1, h2, h3, h4, h5⟩ := h.tk
  have ec := hb c h.fc (h.lt c h.fc)
  exact ⟨keep_cell ec h.c0, keep_frozen ec h.f1, h.rf.carry (fun b hf hl => hb b (h.sub b hf) hl), h.sub, h.nc, ⟨v, g, keep_cell ec h1, h2.carry (hb g h3 h2.lt), h3, h4, h5⟩, h.fc, fun b hf => block_lt (h.lt b hf) (hb b hf (h.lt b hf))⟩
theorem RcAt.below {w w' : World} {c p : Nat} {Fr Ft : Nat → Prop} {S W : Int} {A : List Int} {M : List Ln} (h : RcAt w c p Fr Ft S W A M) (hf : Below w.heap.size w w') : RcAt w' c p Fr Ft S W A M := h.carry fun b _ hl => hf.block b hl
theorem RcAt.fr {w w' : World} {c p : Nat} {Fr Ft F : Nat → Prop} {S W : Int} {A : List Int} {M : List Ln} (h : RcAt w c p Fr Ft S W A M) (hf : FrS F w w') (hd : ∀ b, Ft b → b < w.heap.size → ¬ F b) : RcAt w' c p Fr Ft S W A M := h.carry fun b hb hl => hf.block b hl (hd b hb hl)

/-- The lines have changed. -/
theorem RcAt.lines {w wz w' : World} {c p : Nat} {Fr Fr' Ft : Nat → Prop} {S W : Int} {A A' : List Int} {M : List Ln} (h : RcAt w c p Fr Ft S W A M) (hz : Below w.heap.size w wz) (hn : RfIs w' p Fr' S W A') (hs : Step Fr Fr' wz w') :
    ∃ Ft', RcAt w' c p Fr' Ft' S W A' M ∧ Step Ft Ft' w w' := by
  obtain ⟨v, g, h1, h2, h3, h4, h5⟩ := h.tk
  have hcl := h.lt c h.fc
  have s1 := hz.size
  have kc := (hs.fr.block c (by omega) h.nc).trans (hz.block c hcl)
  have kg := (hs.fr.block g (by have := h2.lt; omega) h4).trans (hz.block g h2.lt)
  refine ⟨fun b => Ft b ∨ Fr' b, ⟨keep_cell kc h.c0, keep_frozen kc h.f1, hn, fun b hb => .inr hb, fun e => ?_, ⟨v, g, keep_cell kc h1, h2.carry kg, .inl h3, fun e => ?_, h5⟩, .inl h.fc, fun b hb => ?_⟩, ⟨(FrS.of_below hz).trans hs.fr (fun i hi => .inl (h.sub i hi)), fun b hb => ?_⟩⟩
  · rcases hs.new c e with e | e
    · exact h.nc e
    · omega
  · rcases hs.new g e with e | e
    · exact h4 e
    · have := h2.lt; omega
  · rcases hb with hb | hb
    · have := h.lt b hb; have := hs.fr.size; omega
    · exact hn.lt b hb
  · rcases hb with hb | hb
    · exact .inl hb
    · rcases hs.new b hb with e | e
      · exact .inl (h.sub b e)
      · exact .inr (by omega)

/-- A new list, stored. -/
theorem RcAt.put {w w1 : World} {c p g' : Nat} {Fr Ft : Nat → Prop} {S W : Int} {A : List Int} {M M' : List Ln} {v' : Value} (h : RcAt w c p Fr Ft S W A M) (hb : Below w.heap.size w w1) (hown : OwnL w1 v' g' M') (hg : w.heap.size ≤ g') :
    (∃ v, w1.cell? ⟨c, 1, none⟩ = some v) ∧ w1.frozen? ⟨c, 1, none⟩ = false ∧ ∃ Ft', RcAt (w1.setCell ⟨c, 1, none⟩ v') c p Fr Ft' S W A M' ∧ Step Ft Ft' w (w1.setCell ⟨c, 1, none⟩ v') := by
  obtain ⟨v, g, h1, h2, h3, h4, h5⟩ := h.tk
  have hcl := h.lt c h.fc
  have kc := hb.block c hcl
  have q1 := keep_cell kc h1
  have q0 := keep_cell kc h.c0
  have qf := keep_frozen kc h.f1
  have hs := hb.size
  have hgl := hown.lt
  refine ⟨⟨v, q1⟩, qf, fun b => Ft b ∨ b = g', ⟨(World.cell?_setCell_other _ _ _ _ (by simp)).trans q0, by rw [World.frozen?_setCell]; exact qf, ?_, fun b hb => .inl (h.sub b hb), h.nc, ⟨v', g', World.cell?_setCell_same _ _ _ q1, hown.carry (Below.heap_setCell _ _ _ _ (by dsimp only; omega)), .inr rfl, fun e => by have := h.lt _ (h.sub _ e); omega, fun e => by omega⟩, .inl h.fc, ?_⟩, ⟨(FrS.of_below hb).setCell (.inl h.fc) v', ?_⟩⟩
  · refine (h.rf.below hb).carry (fun b hf hl => Below.heap_setCell _ _ _ _ (fun e => h.nc ?_))
    dsimp only at e
    exact e ▸ hf
  · rintro b (hb' | rfl)
    · rw [World.size_setCell]; have := h.lt b hb'; omega
    · rw [World.size_setCell]; exact hgl
  · rintro b (hb' | rfl)
    · exact .inl hb'
    · exact .inr hg

/-- A list that lies apart, stored. -/
theorem RcAt.store {w0 w : World} {c p g' : Nat} {Fr Ft0 Ft : Nat → Prop} {S W : Int} {A : List Int} {M M' : List Ln} {v' : Value} (h : RcAt w c p Fr Ft S W A M) (hown : OwnL w v' g' M') (hg : ¬ Ft g') (h0 : Ft0 c) (hs : Step Ft0 Ft w0 w) (hg0 : w0.heap.size ≤ g') :
    ∃ Ft', RcAt (w.setCell ⟨c, 1, none⟩ v') c p Fr Ft' S W A M' ∧ Step Ft0 Ft' w0 (w.setCell ⟨c, 1, none⟩ v') := by
  obtain ⟨v, g, h1, h2, h3, h4, h5⟩ := h.tk
  have hgl := hown.lt
  have hgc : g' ≠ c := fun e => hg (e ▸ h.fc)
  refine ⟨fun b => Ft b ∨ b = g', ⟨(World.cell?_setCell_other _ _ _ _ (by simp)).trans h.c0, by rw [World.frozen?_setCell]; exact h.f1, ?_, fun b hb => .inl (h.sub b hb), h.nc, ⟨v', g', World.cell?_setCell_same _ _ _ h1, hown.carry (Below.heap_setCell _ _ _ _ (by dsimp only; exact hgc)), .inr rfl, fun e => hg (h.sub _ e), fun e => absurd e hgc⟩, .inl h.fc, ?_⟩, ⟨hs.fr.setCell (.inl h0) v', ?_⟩⟩
  · refine h.rf.carry (fun b hf hl => Below.heap_setCell _ _ _ _ (fun e => h.nc ?_))
    dsimp only at e
    exact e ▸ hf
  · rintro b (hb' | rfl)
    · rw [World.size_setCell]; exact h.lt b hb'
    · rw [World.size_setCell]; exact hgl
  · rintro b (hb' | rfl)
    · exact hs.new b hb'
    · exact .inr hg0

set_option maxHeartbeats 1000000 in
theorem rcNew_c (s t : Int) (w : World) : Calls Try.prog 13 #[.int .i64 s, .int .i64 t] w fun e w' => ∃ c p Fr Ft, e = .returned (ptr c) ∧ RcAt w' c p Fr Ft (clampZ s 1 64) (clampZ t 1 16) [] [] ∧ Below w.heap.size w w' ∧ ∀ b, Ft b → w.heap.size ≤ b := by
  go_enter Try.func13, Try.ntmps13
  go_wp2_with (go_at_call 30; refine (rNew_c s t w).mono ?_; rintro e w1 ⟨p, Fr, rfl, hn, hb, hF⟩; replace hn := hide hn; replace hb := hide hb; replace hF := hide hF)
  go_ret
  have hn0 := unhide hn
  have s1 := (unhide hb).size
  have hl := hn0.lt
  refine ⟨w1.heap.size, p, Fr, fun b => b = w1.heap.size ∨ Fr b, rfl, ⟨by simp, by simp, hn0.alloc _, fun b hb => .inr hb, fun e => ?_, ⟨_, w1.heap.size, by simp, own_nilL (by simp), .inl rfl, fun e => ?_, fun _ => rfl⟩, .inl rfl, fun b hb => ?_⟩, (unhide hb).alloc s1 _, fun b hb => ?_⟩
  · have := hl _ e; omega
  · have := hl _ e; omega
  · simp; rcases hb with hb | hb
    · omega
    · have := hl b hb; omega
  · rcases hb with hb | hb
    · omega
    · exact unhide hF b hb

set_option maxHeartbeats 1000000 in
theorem rcGet_c (c p : Nat) (Fr Ft : Nat → Prop) (S W x : Int) (A : List Int) (M : List Ln) (w : World) (h : RcAt w c p Fr Ft S W A M) (hM : M.length ≤ 100000) (r : Bun) (hr : Hid (findL M x = r)) : Calls Try.prog 21 #[ptr c, .int .i64 x] w fun e w' => e = .returned (.agg #[.int .i64 r.n, .bool r.o, .bool r.h, .int .i64 r.d]) ∧ Below w.heap.size w w' := by
  obtain ⟨v, g, c1, hO, -, -, -⟩ := h.tk
  have hcl := h.lt c h.fc
  have hv := hide hO.view
  obtain ⟨ao, cap, rfl, -⟩ := hO
  clear h
  go_enter Try.func21, Try.ntmps21
  go_wp2_with fail
  have hz0 := bun_new w 31
  have hbz : Below w.heap.size w (w.alloc (.cells #[.int .i64 0, .bool false, .bool false, .int .i64 0] 31)) := (Below.refl _ _).alloc (Nat.le_refl _) _
  obtain ⟨w0, hw0⟩ : ∃ w0, w.alloc (.cells #[.int .i64 0, .bool false, .bool false, .int .i64 0] 31) = w0 := ⟨_, rfl⟩
  rw [hw0] at hz0 hbz ⊢
  clear hw0
  have d1 := keep_cell (hbz.block c hcl) c1
  have hcl0 : c < w0.heap.size := Nat.lt_of_lt_of_le hcl hbz.size
  have hv0 := hide ((unhide hv).below hbz)
  obtain ⟨y5, y0, y1, y2, y3, z0, z1, z2, z3⟩ := hz0
  replace hbz := hide hbz
  clear hv c1
  go_loopw [5] (fun i wr => ∃ j : Nat, j ≤ M.length ∧ i = .int .i64 j ∧ wr = w0 ∧ Hid (∀ i (hi : i < M.length), i < j → M[i].b ≠ x)) (fun i _ => M.length - (intOf i).toNat)
  case atStart => exact ⟨0, Nat.zero_le _, rfl, rfl, fun i _ hi => absurd hi (Nat.not_lt_zero _)⟩
  case round =>
    obtain ⟨j, hj, rfl, hwr, ha⟩ := hrel
    rw [hwr]
    clear hwr
    by_cases hlt : j < M.length
    · obtain ⟨-, -, -, hc⟩ := view_atL (unhide hv0) rfl
      obtain ⟨o, rfl, hb, e0, e1, e2, e3, e4⟩ := hc j hlt
      have hfind : Hid (M[j].b = x → findL M x = M[j].t) := fun e => findL_at M x j hlt (fun i hi hij => ha.out i hi hij) e
      obtain ⟨l, hl⟩ : ∃ l, Hid (M[j] = l) := ⟨_, hide rfl⟩
      rw [hl.out] at e0 e1 e2 e3 e4 hfind
      have hlt' : (j : Int) < M.length := by omega
      clear hc
      by_cases e : l.b = x
      · have hr2 : l.t = r := by rw [← hr.out]; exact (unhide hfind e).symm
        subst hr2
        have ee : decide (l.b = x) = true ∧ (l.b == x) = true := by simp [e]
        obtain ⟨ee1, ee2⟩ := ee
        clear e
        go_wp2_with fail
        refine bodyPost_ret (by simp [results, Try.results21, go_sem, *]; done) rfl ⟨rfl, ?_⟩
        have hq : ∀ v0 v1 v2 v3, Below w.heap.size w ((((w0.setCell ⟨w.heap.size, 0, none⟩ v0).setCell ⟨w.heap.size, 1, none⟩ v1).setCell ⟨w.heap.size, 2, none⟩ v2).setCell ⟨w.heap.size, 3, none⟩ v3) := fun v0 v1 v2 v3 => ((((unhide hbz).setCell (by simp) v0).setCell (by simp) v1).setCell (by simp) v2).setCell (by simp) v3
        exact hq _ _ _ _
      · have ee : decide (l.b = x) = false ∧ (l.b == x) = false := by simp [e]
        obtain ⟨ee1, ee2⟩ := ee
        have e' := hide e
        clear e
        go_wp2_with fail
        go_roundw
        case rel =>
          refine ⟨j + 1, by omega, by simp, trivial, fun i hi hij => ?_⟩
          by_cases e : i = j
          · subst e; rw [hl.out]; exact unhide e'
          · exact ha.out i hi (by omega)
        case measure => simp [intOf]; omega
    · obtain rfl : j = M.length := by omega
      have hr2 : bun0 = r := by rw [← hr.out]; exact (findL_none M x (fun i hi => ha.out i hi hi)).symm
      subst hr2
      go_wp2_with fail
      refine bodyPost_ret (by simp [results, Try.results21, go_sem, *]; done) rfl ⟨rfl, ?_⟩
      have hq : ∀ v0 v1 v2 v3, Below w.heap.size w ((((w0.setCell ⟨w.heap.size, 0, none⟩ v0).setCell ⟨w.heap.size, 1, none⟩ v1).setCell ⟨w.heap.size, 2, none⟩ v2).setCell ⟨w.heap.size, 3, none⟩ v3) := fun v0 v1 v2 v3 => ((((unhide hbz).setCell (by simp) v0).setCell (by simp) v1).setCell (by simp) v2).setCell (by simp) v3
      exact hq _ _ _ _
end Go.Proofs.Ytooopcadefpncaa

namespace Go.Proofs.Ytooopcadefpncaa
open Go.ChangeShapes Go.WideShapes Go.ChangeAt Go.RowKit
set_option linter.unusedSimpArgs false
set_option linter.unusedVariables false
set_option maxRecDepth 10000

attribute [local go_sem, local simp] over_const setCell_drewN alloc_drewN Over.cell Over.frozen lt_s1 lt_s2 lt_s3 le_s0 le_s1 le_s2 le_s3 eq_s0 eq_s1 eq_s2 qe_s0

set_option maxHeartbeats 2000000 in
theorem rcSet_c (c p : Nat) (Fr Ft : Nat → Prop) (S W x : Int) (b : Bun) (A : List Int) (M : List Ln) (w : World) (h : RcAt w c p Fr Ft S W A M) (hM : M.length ≤ 100000) (A' : List Int) (M' : List Ln) (hA : Hid (lineA A x b = A')) (hM' : Hid (setL M x b = M')) :
    Calls Try.prog 35 #[ptr c, .int .i64 x, .agg #[.int .i64 b.n, .bool b.o, .bool b.h, .int .i64 b.d]] w fun e w' => e = .returned (.tuple #[]) ∧ ∃ Fr' Ft', RcAt w' c p Fr' Ft' S W A' M' ∧ Step Ft Ft' w w' := by
  obtain ⟨v, gM, c1, hO, -, -, -⟩ := h.tk
  have hcl := h.lt c h.fc
  have c0 := h.c0
  have hH := hide h
  have hv := hide hO.view
  obtain ⟨ao, cap, rfl, -⟩ := hO
  clear h
  go_enter Try.func35, Try.ntmps35
  go_wp2_with fail
  have hbx : BunAt (w.alloc (.cells #[.int .i64 b.n, .bool b.o, .bool b.h, .int .i64 b.d] 31)) w.heap.size b := ⟨by simp, by simp [go_sem], by simp [go_sem], by simp [go_sem], by simp [go_sem], by simp [go_sem], by simp [go_sem], by simp [go_sem], by simp [go_sem]⟩
  have hb0 : Below w.heap.size w (w.alloc (.cells #[.int .i64 b.n, .bool b.o, .bool b.h, .int .i64 b.d] 31)) := belA0 _ _
  obtain ⟨w0, hw0⟩ : ∃ w0, w.alloc (.cells #[.int .i64 b.n, .bool b.o, .bool b.h, .int .i64 b.d] 31) = w0 := ⟨_, rfl⟩
  have hsz : Hid (w0.heap.size = w.heap.size + 1) := by rw [← hw0]; simp [Hid]
  rw [hw0] at hbx hb0 ⊢
  clear hw0
  have hs0 : w.heap.size < w0.heap.size := hbx.lt
  replace hbx := hide hbx
  replace hb0 := hide hb0
  go_loopw [6, 7] (fun out i wr => ∃ j g : Nat, j ≤ M.length ∧ i = .int .i64 j ∧ OwnL wr out g (othersL (M.take j) x) ∧ w0.heap.size ≤ g ∧ Below w0.heap.size w0 wr) (fun _ i _ => M.length - (intOf i).toNat)
  case atStart => exact ⟨0, w0.heap.size, Nat.zero_le _, rfl, by have := own_emptyL w0 (.cells #[] 37); rw [unhide hsz] at this ⊢; simpa [othersL] using this, Nat.le_refl _, belA0 _ _⟩
  case round =>
    obtain ⟨j, g, hj, rfl, hO, hg, hb⟩ := hrel
    have hbw := (unhide hb0).trans (hb.mono (by omega))
    have d1 := keep_cell (hbw.block c hcl) c1
    have d0 := keep_cell (hbw.block c hcl) c0
    have hbx' := (unhide hbx).below hb
    have hV := hide ((unhide hv).below hbw)
    have hO' := hide hO
    obtain ⟨ao', cap', rfl, -⟩ := hO
    have hl1 : (othersL (M.take j) x).length ≤ 100000 := by
      have h1 := others_len (M.take j) x
      rw [List.length_take] at h1
      omega
    have hs1 := hb.size
    by_cases hlt : j < M.length
    · obtain ⟨-, -, -, hc⟩ := view_atL (unhide hV) rfl
      obtain ⟨o, rfl, hbA, e0, e1, e2, e3, e4⟩ := hc j hlt
      have hot := others_take (x := x) hlt
      obtain ⟨l, hl⟩ : ∃ l, Hid (M[j] = l) := ⟨_, hide rfl⟩
      rw [hl.out] at e0 e1 e2 e3 e4 hot
      replace hot := hide hot
      have hlt' : (j : Int) < M.length := by omega
      obtain ⟨P, hP⟩ : ∃ P, Hid (othersL (M.take j) x = P) := ⟨_, rfl⟩
      rw [hP.out] at hO' hl1 hot ⊢
      replace hb := hide hb
      clear hc hbx' hbw d0
      by_cases e : l.b = x
      · have ee : decide (l.b = x) = true ∧ (l.b == x) = true := by simp [e]
        obtain ⟨ee1, ee2⟩ := ee
        have e' := hide e
        clear e
        go_wp2_with fail
        go_roundw
        case rel => exact ⟨j + 1, g, by omega, by simp, by rw [unhide hot, if_pos (unhide e')]; exact unhide hO', hg, unhide hb⟩
        case measure => simp [intOf]; omega
      · have ee : decide (l.b = x) = false ∧ (l.b == x) = false := by simp [e]
        obtain ⟨ee1, ee2⟩ := ee
        have e' := hide e
        clear e
        go_wp2_with (at_builtin; refine wpList_appL rfl _ _ rfl rfl rfl ((unhide hO').alloc _) (view_oneL wr l) (by simp; omega) (P.length + 1) (by simp) ?_; intro ao2 cap2 w2 g2 hown2 hap2; replace hown2 := hide hown2; replace hap2 := hide hap2; go_frame)
        go_roundw
        case rel =>
          have hap := unhide hap2
          refine ⟨j + 1, g2, by omega, by simp, ?_, ?_, ((unhide hb).alloc hs1 _).trans (hap.fr.below (fun i hi => by rw [hi]; exact hg) (by simp; omega))⟩
          · rw [unhide hot, if_neg (unhide e')]; exact unhide hown2
          · rcases hap.lies with e | e
            · omega
            · simp at e; omega
        case measure => simp [intOf]; omega
    · obtain rfl : j = M.length := by omega
      rw [List.take_length] at hO' hl1 ⊢
      obtain ⟨P, hP⟩ : ∃ P, Hid (othersL M x = P) := ⟨_, rfl⟩
      rw [hP.out] at hO' hl1 ⊢
      have hMM := hM'.out
      have hAA := hA.out
      rw [setL, hP.out] at hMM
      rw [lineA] at hAA
      obtain ⟨y5, y0, y1, y2, y3, -, -, -, -⟩ := hbx'
      replace hb := hide hb
      have hbw' := hide hbw
      clear hbw hlt
      by_cases cb : 0 < b.n
      · rw [if_pos cb] at hMM hAA
        subst hMM
        subst hAA
        go_wp2_with (at_builtin; refine wpList_appL rfl _ _ rfl rfl rfl ((unhide hO').alloc _) (view_oneL wr ⟨x, b⟩) (by simp; omega) (P.length + 1) (by simp) ?_; intro ao2 cap2 w2 g2 hown2 hap2; have hB2 : Below w.heap.size w w2 := (((unhide hbw').alloc (unhide hbw').size _).trans (hap2.fr.below (fun i hi => by rw [hi]; omega) (by have := (unhide hbw').size; simp; omega))); obtain ⟨⟨vo, q1⟩, q2, hfin⟩ := (unhide hH).put hB2 hown2 (by have := hap2.lies; have h5 := (unhide hbw').size; simp at this; omega); replace hfin := hide hfin; clear hown2 hap2 hB2)
        refine bodyPost_end (v := .tuple #[]) (by simp [results, Try.results35]) rfl ⟨rfl, ?_⟩
        obtain ⟨Ft', f1, f2⟩ := unhide hfin
        exact ⟨Fr, Ft', f1, f2⟩
      · rw [if_neg cb, List.append_nil] at hMM
        rw [if_neg cb] at hAA
        subst hMM
        subst hAA
        go_wp2_with fail
        go_at_call 57
        refine (rRemove_c p Fr S W x A wr (((unhide hH).below (unhide hbw')).rf)).mono ?_
        rintro e w2 ⟨rfl, Fr2, hn2, hs2⟩
        obtain ⟨Ft2, hr2, hst2⟩ := ((unhide hH).below (unhide hbw')).lines (Below.refl _ _) hn2 hs2
        have hO2 := (unhide hO').fr hs2.fr (fun e => by have := (unhide hH).lt _ ((unhide hH).sub _ e); omega)
        have hgn : ∀ b, Ft2 b → b ≠ g := fun b hb' e => by
          rcases hst2.new b hb' with h1 | h1
          · have := (unhide hH).lt b h1; omega
          · have := (unhide hO').lt; omega
        replace hr2 := hide hr2
        replace hst2 := hide hst2
        replace hO2 := hide hO2
        replace hgn := hide hgn
        clear y5 y0 y1 y2 y3 hn2 hs2
        obtain ⟨vz, gz, q1, -, -, -, -⟩ := (unhide hr2).tk
        have q2 := (unhide hr2).f1
        have hcl2 := (unhide hr2).lt c (unhide hr2).fc
        go_wp2_with fail
        refine bodyPost_end (v := .tuple #[]) (by simp [results, Try.results35]) rfl ⟨rfl, ?_⟩
        obtain ⟨Ft3, k1, k2⟩ := (unhide hr2).store (unhide hO2) (fun e => unhide hgn g e rfl) (unhide hH).fc ((Step.of_below (unhide hbw')).trans (unhide hst2)) (by omega)
        exact ⟨Fr2, Ft3, k1, k2⟩
end Go.Proofs.Ytooopcadefpncaa

namespace Go.Proofs.Ytooopcadefpncaa
open Go.ChangeShapes Go.WideShapes Go.ChangeAt Go.RowKit
set_option linter.unusedSimpArgs false
set_option linter.unusedVariables false
set_option maxRecDepth 10000

attribute [local go_sem, local simp] over_const setCell_drewN alloc_drewN Over.cell Over.frozen lt_s1 lt_s2 lt_s3 le_s0 le_s1 le_s2 le_s3 eq_s0 eq_s1 eq_s2 qe_s0

/-- The document's cache in block c. -/
structure RcIs (w : World) (c : Nat) (Ft : Nat → Prop) (S W N : Int) (K : Nat) (C : Ca) : Prop where
  inv : CInv S W N C
  at' : ∃ p Fr M, RcAt w c p Fr Ft S W C.A M ∧ RelM M C K

theorem RcIs.fc {w : World} {c : Nat} {Ft : Nat → Prop} {S W N : Int} {K : Nat} {C : Ca} (h : RcIs w c Ft S W N K C) : Ft c := by obtain ⟨p, Fr, M, h1, _⟩ := h.at'; exact h1.fc
theorem RcIs.lt {w : World} {c : Nat} {Ft : Nat → Prop} {S W N : Int} {K : Nat} {C : Ca} (h : RcIs w c Ft S W N K C) : ∀ b, Ft b → b < w.heap.size := by obtain ⟨p, Fr, M, h1, _⟩ := h.at'; exact h1.lt
theorem RcIs.carry {w w' : World} {c : Nat} {Ft : Nat → Prop} {S W N : Int} {K : Nat} {C : Ca} (h : RcIs w c Ft S W N K C) (hb : ∀ b, Ft b → b < w.heap.size → w'.heap[b]? = w.heap[b]?) : RcIs w' c Ft S W N K C := by
  obtain ⟨p, Fr, M, h1, h2⟩ := h.at'
  exact ⟨h.inv, p, Fr, M, h1.carry hb, h2⟩
theorem RcIs.below {w w' : World} {c : Nat} {Ft : Nat → Prop} {S W N : Int} {K : Nat} {C : Ca} (h : RcIs w c Ft S W N K C) (hf : Below w.heap.size w w') : RcIs w' c Ft S W N K C := h.carry fun b _ hl => hf.block b hl
theorem RcIs.fr {w w' : World} {c : Nat} {Ft F : Nat → Prop} {S W N : Int} {K : Nat} {C : Ca} (h : RcIs w c Ft S W N K C) (hf : FrS F w w') (hd : ∀ b, Ft b → b < w.heap.size → ¬ F b) : RcIs w' c Ft S W N K C := h.carry fun b hb hl => hf.block b hl (hd b hb hl)
theorem RcIs.mono {w : World} {c : Nat} {Ft : Nat → Prop} {S W N N' : Int} {K K' : Nat} {C : Ca} (h : RcIs w c Ft S W N K C) (hN : N ≤ N') (hK : K ≤ K') : RcIs w c Ft S W N' K' C := by
  obtain ⟨p, Fr, M, h1, h2⟩ := h.at'
  exact ⟨h.inv.mono hN, p, Fr, M, h1, h2.mono hK⟩

/-- Behind a write into a block of one's own. -/
theorem RcIs.fin {w w0 w' : World} {c B : Nat} {Ft Ft2 : Nat → Prop} {S W N : Int} {K : Nat} {C : Ca} (h : RcIs w0 c Ft2 S W N K C ∧ Step Ft Ft2 w w0 ∧ ¬ Ft2 B) (hw : w.heap.size ≤ B) (hf : FrS (· = B) w0 w') : ∃ Ft', RcIs w' c Ft' S W N K C ∧ Step Ft Ft' w w' := by
  obtain ⟨h1, h2, h3⟩ := h
  refine ⟨Ft2, h1.carry (fun b hb hl => hf.block b hl (fun e => h3 (e ▸ hb))), ⟨h2.fr.trans hf (fun i hi => .inr (by omega)), h2.new⟩⟩

theorem lineA_pos {A : List Int} {x : Int} {b : Bun} (h : 0 < b.n) : lineA A x b = A := by simp [lineA, h]
theorem lineA_none (A : List Int) (x : Int) : lineA A x bun0 = A.erase x := by simp [lineA]

set_option maxHeartbeats 2000000 in
theorem rcTake_c (c : Nat) (Ft : Nat → Prop) (S W N x n : Int) (K : Nat) (o d : Bool) (C : Ca) (w : World) (h : RcIs w c Ft S W N K C) (hN : N ≤ 9223372036854775807) (hK : K ≤ 100000) (g : Bun) (C' : Ca) (hg : Hid (givenB (C.T x) n o d = g)) (hC : Hid (nxTk C x n o = C')) :
    Calls Try.prog 17 #[ptr c, .int .i64 x, .int .i64 n, .bool o, .bool d] w fun e w' => e = .returned (.agg #[.int .i64 g.n, .bool g.o, .bool g.h, .int .i64 g.d]) ∧ ∃ Ft', RcIs w' c Ft' S W N (K + 1) C' ∧ Step Ft Ft' w w' := by
  have hI' := h.inv.tk x n o
  rw [hC.out] at hI'
  replace hI' := hide hI'
  obtain ⟨p, Fr, M, hA, hR⟩ := h.at'
  have hlt : ∀ b, Ft b → b < w.heap.size := h.lt
  have hz1 := h.inv.le x
  have hzk := hide (h.inv.ok x)
  have hM := hR.len
  obtain ⟨z, hz⟩ : ∃ z, Hid (C.T x = z) := ⟨_, rfl⟩
  obtain ⟨s, hs⟩ : ∃ s, Hid (restB z n o = s) := ⟨_, rfl⟩
  have hfz : Hid (findL M x = z) := (hR.t x).trans hz.out
  rw [hz.out] at hz1 hzk hg
  have hsk := (restB_ok (unhide hzk) n o)
  rw [hs.out] at hsk
  have hCC : Hid (C' = ⟨lineA C.A x s, updT C.T x s⟩) := by
    rw [← hC.out, nxTk, hz.out, hs.out, lineA]
    have := hsk.1.1
    by_cases e : s.n = 0
    · rw [if_pos e, if_neg (by omega)]; rfl
    · rw [if_neg e, if_pos (by omega)]; rfl
  have hrel := hide (hR.set (x := x) hsk.1 (lineA C.A x s))
  have hH := hide hA
  clear h hA hR hC hsk
  go_enter Try.func17, Try.ntmps17
  go_wp2_with (first | (go_at_call 21; refine (rcGet_c c p Fr Ft S W x C.A M _ ((unhide hH).below (by repeat' first | with_reducible exact Below.refl _ _ | with_reducible refine Below.setCell ?_ ?_ _ | with_reducible refine Below.alloc ?_ ?_ _ | with_reducible refine Below.drew ?_ | with_reducible refine belowN ?_ _ | with_reducible refine Over.go _ ?_ ?_ | with_reducible exact Nat.le_refl _ | with_reducible refine Over.sz _ _ ?_ | with_reducible refine le_alloc ?_ | with_reducible refine le_setCell ?_ | with_reducible refine le_drewN ?_ | with_reducible refine le_drew ?_ | omega | (dsimp only; omega))) (by omega) z hfz).mono ?_; rintro e w' ⟨rfl, hb⟩; obtain ⟨x1, rfl⟩ := over hb; clear hb; have f1 := x1.up (b := w.heap.size) (by first | omega | (simp only [World.size_alloc]; omega) | (simp; done) | (simp; omega))) | (go_at_call 27; refine (refSplit_any z.n z.o z.h z.d n o d _ (by omega) (unhide hzk) g s hg hs).mono ?_; rintro e w' ⟨rfl, hb⟩; obtain ⟨x2, rfl⟩ := over2 hb; clear hb; have g1 := x2.up (b := w.heap.size) (by first | omega | (simp only [World.size_alloc]; omega) | (simp; done) | (simp; omega))))
  go_at_call 35
  refine (rcSet_c c p Fr Ft S W x s C.A M _ ((unhide hH).below (by repeat' first | with_reducible exact Below.refl _ _ | with_reducible refine Below.setCell ?_ ?_ _ | with_reducible refine Below.alloc ?_ ?_ _ | with_reducible refine Below.drew ?_ | with_reducible refine belowN ?_ _ | with_reducible refine Over.go _ ?_ ?_ | with_reducible exact Nat.le_refl _ | with_reducible refine Over.sz _ _ ?_ | with_reducible refine le_alloc ?_ | with_reducible refine le_setCell ?_ | with_reducible refine le_drewN ?_ | with_reducible refine le_drew ?_ | omega | (dsimp only; omega))) (by omega) _ _ rfl rfl).mono ?_
  rintro e w3 ⟨rfl, Fr3, Ft3, hn3, hs3⟩
  obtain ⟨k1, k2, k3⟩ := hs3.keep (b := w.heap.size) (fun e => by have := hlt _ e; omega) (by first | (simp; done) | (simp; omega))
  obtain ⟨a1, a2, a3⟩ := hs3.keep (b := x2.w.heap.size) (fun e => by have := hlt _ e; omega) (by first | (simp; done) | (simp; omega))
  have y : BunAt w3 w.heap.size bun0 := ⟨k3, keep_cell k1 (by simp [go_sem, *]), keep_cell k1 (by simp [go_sem, *]), keep_cell k1 (by simp [go_sem, *]), keep_cell k1 (by simp [go_sem, *]), keep_frozen k1 (by simp [go_sem, *]), keep_frozen k1 (by simp [go_sem, *]), keep_frozen k1 (by simp [go_sem, *]), keep_frozen k1 (by simp [go_sem, *])⟩
  have u : BunAt w3 x2.w.heap.size g := ⟨a3, keep_cell a1 (by simp [go_sem, *]), keep_cell a1 (by simp [go_sem, *]), keep_cell a1 (by simp [go_sem, *]), keep_cell a1 (by simp [go_sem, *]), keep_frozen a1 (by simp [go_sem, *]), keep_frozen a1 (by simp [go_sem, *]), keep_frozen a1 (by simp [go_sem, *]), keep_frozen a1 (by simp [go_sem, *])⟩
  have hrc : RcIs w3 c Ft3 S W N (K + 1) C' := ⟨unhide hI', p, Fr3, _, by rw [unhide hCC]; exact hn3, by rw [unhide hCC]; exact unhide hrel⟩
  have hfin : Hid (RcIs w3 c Ft3 S W N (K + 1) C' ∧ Step Ft Ft3 w w3 ∧ ¬ Ft3 w.heap.size) := ⟨hrc, (Step.of_below (by repeat' first | with_reducible exact Below.refl _ _ | with_reducible refine Below.setCell ?_ ?_ _ | with_reducible refine Below.alloc ?_ ?_ _ | with_reducible refine Below.drew ?_ | with_reducible refine belowN ?_ _ | with_reducible refine Over.go _ ?_ ?_ | with_reducible exact Nat.le_refl _ | with_reducible refine Over.sz _ _ ?_ | with_reducible refine le_alloc ?_ | with_reducible refine le_setCell ?_ | with_reducible refine le_drewN ?_ | with_reducible refine le_drew ?_ | omega | (dsimp only; omega))).trans hs3, k2⟩
  obtain ⟨y5, y0, y1, y2, y3, z0, z1, z2, z3⟩ := y
  obtain ⟨u5, u0, u1, u2, u3, -, -, -, -⟩ := u
  clear hn3 hs3 k1 k2 k3 a1 a2 a3 hrc
  go_wp2_with fail
  refine bodyPost_ret (by simp [results, Try.results17, go_sem, *]; done) rfl ⟨rfl, ?_⟩
  refine RcIs.fin (unhide hfin) (by omega) ?_
  repeat' first | with_reducible exact FrS.refl _ _ | refine FrS.wr ?_ _
end Go.Proofs.Ytooopcadefpncaa

namespace Go.Proofs.Ytooopcadefpncaa
open Go.ChangeShapes Go.WideShapes Go.ChangeAt Go.RowKit
set_option linter.unusedSimpArgs false
set_option linter.unusedVariables false
set_option maxRecDepth 10000

attribute [local go_sem, local simp] over_const setCell_drewN alloc_drewN Over.cell Over.frozen lt_s1 lt_s2 lt_s3 le_s0 le_s1 le_s2 le_s3 eq_s0 eq_s1 eq_s2 qe_s0

set_option maxHeartbeats 2000000 in
theorem rcAll_c (c : Nat) (Ft : Nat → Prop) (S W N : Int) (K : Nat) (C : Ca) (w : World) (h : RcIs w c Ft S W N K C) (hK : K ≤ 100000) : Calls Try.prog 24 #[ptr c] w fun e w' => ∃ v g, e = .returned v ∧ w.heap.size ≤ g ∧ OwnL w' v g (allC C) ∧ Below w.heap.size w w' := by
  have hlen := h.inv.inv.len
  obtain ⟨p, Fr, M, hA, hR⟩ := h.at'
  have hM := hR.len
  have hT : Hid (∀ x, findL M x = C.T x) := hR.t
  have c0 := hA.c0
  have hcl := hA.lt c hA.fc
  have hH := hide hA
  have hll := listA_len C.A
  clear h hA hR
  go_enter Try.func24, Try.ntmps24
  go_wp2_with fail
  go_at_call 45
  refine (rList_c p Fr S W C.A _ ((unhide hH).below (belA0 _ _)).rf).mono ?_
  rintro e w1 ⟨v1, g1, rfl, hg1, hO1, hb1⟩
  have hB1 : Below w.heap.size w w1 := (belA0 w _).trans (hb1.mono (by simp))
  have hE1 : OwnL w1 (.slice (some ⟨w.heap.size, 0, none⟩) 0 0) w.heap.size [] := (own_emptyL w (.cells #[] 37)).below hb1
  have hne : w.heap.size ≠ g1 := by simp at hg1; omega
  have hV1 := hide hO1.view
  have hgl := hO1.lt
  obtain ⟨ao1, cap1, rfl, -⟩ := hO1
  obtain ⟨n, hn⟩ : ∃ n, (listA C.A).length = n := ⟨_, rfl⟩
  rw [hn] at hll hV1 ⊢
  replace hn := hide hn
  replace hb1 := hide hB1
  replace hll := hide hll
  replace hE1 := hide hE1
  have hn1 : n ≤ 1024 := by have := unhide hll; omega
  clear c0 hB1 hg1
  go_wp2_with fail
  go_loopw [3, 5] (fun out i wr => ∃ j g : Nat, j ≤ n ∧ i = .int .i64 j ∧ OwnL wr out g ((allC C).take j) ∧ w.heap.size ≤ g ∧ g ≠ g1 ∧ View wr (.slice ao1 n cap1) g1 (listA C.A) ∧ g1 < wr.heap.size ∧ Below w.heap.size w wr) (fun _ i _ => n - (intOf i).toNat)
  case atStart => exact ⟨0, w.heap.size, Nat.zero_le _, rfl, unhide hE1, Nat.le_refl _, hne, unhide hV1, hgl, unhide hb1⟩
  case round =>
    obtain ⟨j, g, hj, rfl, hO, hg, hgn, hV, hg1l, hb⟩ := hrel
    have hO' := hide hO
    obtain ⟨ao, cap, rfl, -⟩ := hO
    have hl1 : ((allC C).take j).length = j := by rw [List.length_take, allC_len, ← listA_len, unhide hn]; omega
    rw [hl1] at hO' ⊢
    by_cases hlt : j < n
    · obtain ⟨-, -, -, hc⟩ := view_at hV rfl
      have hlt2 : j < (listA C.A).length := by rw [unhide hn]; exact hlt
      have htk := hide (allC_take hlt2)
      obtain ⟨o, rfl, hbA, hcell⟩ := hc j hlt2
      generalize (listA C.A)[j] = y at hcell htk
      have hlt' : (j : Int) < n := by omega
      obtain ⟨z, hz⟩ : ∃ z, Hid (C.T y = z) := ⟨_, rfl⟩
      have hfz : Hid (findL M y = z) := (unhide hT y).trans hz.out
      rw [hz.out] at htk
      replace hV := hide hV
      replace hb := hide hb
      replace hl1 := hide hl1
      clear hc hV1 hb1 hE1
      go_wp2_with fail
      refine wp_region_noPanic ?_
      refine wp_region_held_drew (S := (fun w' => w'.cell? ⟨g1, o + j, none⟩ = some (.int .i64 y))) (by kernel_rfl) ?_ (fun hHeld => ?_)
      · exact hcell
      have hO2 : Hid (OwnL wr.drew (.slice ao j cap) g ((allC C).take j)) := (unhide hO').carry rfl
      have hV2 : Hid (View wr.drew (.slice (some ⟨g1, o, none⟩) n cap1) g1 (listA C.A)) := (unhide hV).carry (fun _ _ => rfl)
      have hb2 : Hid (Below w.heap.size w wr.drew) := (unhide hb).drew
      have hg2l : g1 < wr.drew.heap.size := hg1l
      obtain ⟨w2, hw2⟩ : ∃ w2, wr.drew = w2 := ⟨_, rfl⟩
      rw [hw2] at hO2 hV2 hb2 hg2l hHeld ⊢
      clear hw2 hO' hV hb hcell hbA
      refine hand_take (i := 0) (d := some 18) (v := ?_) rfl (by kernel_rfl) (by kernel_rfl) (by kernel_rfl) (fun _ _ _ h => h) ?_ hHeld ?_
      rotate_left
      · intro o ho
        simp at ho
        subst ho
        intro wz hSw
        try dsimp only at hSw
        go_simp
        try with_reducible rfl
      try simp only [Act.put, List.setIfInBounds_toArray, List.set_cons_zero, List.set_cons_succ]
      refine hand_take (i := 1) (d := some 19) (v := ?_) rfl (by kernel_rfl) (by kernel_rfl) (by kernel_rfl) (fun _ _ _ h => h) ?_ hHeld ?_
      rotate_left
      · intro o ho
        simp at ho
        subst ho
        intro wz hSw
        try dsimp only at hSw
        go_simp
        try with_reducible rfl
      try simp only [Act.put, List.setIfInBounds_toArray, List.set_cons_zero, List.set_cons_succ]
      refine hand_take (i := 2) (d := some 20) (v := ?_) rfl (by kernel_rfl) (by kernel_rfl) (by kernel_rfl) (fun _ _ _ h => h) ?_ hHeld ?_
      rotate_left
      · intro o ho
        simp at ho
        subst ho
        intro wz hSw
        try dsimp only at hSw
        go_simp
        try with_reducible rfl
      try simp only [Act.put, List.setIfInBounds_toArray, List.set_cons_zero, List.set_cons_succ]
      refine hand_take (i := 3) (d := some 21) (v := ?_) rfl (by kernel_rfl) (by kernel_rfl) (by kernel_rfl) (fun _ _ _ h => h) ?_ hHeld ?_
      rotate_left
      · intro o ho
        simp at ho
        subst ho
        intro wz hSw
        try dsimp only at hSw
        go_simp
        try with_reducible rfl
      try simp only [Act.put, List.setIfInBounds_toArray, List.set_cons_zero, List.set_cons_succ]
      refine hand_take (i := 4) (d := some 22) (v := ?_) rfl (by kernel_rfl) (by kernel_rfl) (by kernel_rfl) (fun _ _ _ h => h) ?_ hHeld ?_
      rotate_left
      · intro o ho
        simp at ho
        subst ho
        intro wz hSw
        try dsimp only at hSw
        go_simp
        try with_reducible rfl
      try simp only [Act.put, List.setIfInBounds_toArray, List.set_cons_zero, List.set_cons_succ]
      refine hand_take (i := 5) (d := some 23) (v := ?_) rfl (by kernel_rfl) (by kernel_rfl) (by kernel_rfl) (fun _ _ _ h => h) ?_ hHeld ?_
      rotate_left
      · intro o ho
        simp at ho
        subst ho
        intro wz hSw
        try dsimp only at hSw
        go_simp
        try with_reducible rfl
      try simp only [Act.put, List.setIfInBounds_toArray, List.set_cons_zero, List.set_cons_succ]
      refine hand_take (i := 6) (d := some 24) (v := ?_) rfl (by kernel_rfl) (by kernel_rfl) (by kernel_rfl) (fun _ _ _ h => h) ?_ hHeld ?_
      rotate_left
      · intro o ho
        simp at ho
        subst ho
        intro wz hSw
        try dsimp only at hSw
        go_simp
        try with_reducible rfl
      try simp only [Act.put, List.setIfInBounds_toArray, List.set_cons_zero, List.set_cons_succ]
      refine hand_take (i := 7) (d := some 25) (v := ?_) rfl (by kernel_rfl) (by kernel_rfl) (by kernel_rfl) (fun _ _ _ h => h) ?_ hHeld ?_
      rotate_left
      · intro o ho
        simp at ho
        subst ho
        intro wz hSw
        try dsimp only at hSw
        go_simp
        try with_reducible rfl
      try simp only [Act.put, List.setIfInBounds_toArray, List.set_cons_zero, List.set_cons_succ]
      refine hand_take (i := 8) (d := some 26) (v := ?_) rfl (by kernel_rfl) (by kernel_rfl) (by kernel_rfl) (fun _ _ _ h => h) ?_ hHeld ?_
      rotate_left
      · intro o ho
        simp at ho
        subst ho
        intro wz hSw
        try dsimp only at hSw
        go_simp
        try with_reducible rfl
      try simp only [Act.put, List.setIfInBounds_toArray, List.set_cons_zero, List.set_cons_succ]
      refine hand_take (i := 9) (d := some 27) (v := ?_) rfl (by kernel_rfl) (by kernel_rfl) (by kernel_rfl) (fun _ _ _ h => h) ?_ hHeld ?_
      rotate_left
      · intro o ho
        simp at ho
        subst ho
        intro wz hSw
        try dsimp only at hSw
        go_simp
        try with_reducible rfl
      try simp only [Act.put, List.setIfInBounds_toArray, List.set_cons_zero, List.set_cons_succ]
      refine hand_call (i := 10) rfl (by kernel_rfl) ?_
      intro o ho
      simp at ho
      subst ho
      intro K hK
      go_simp
      go_at_call 21
      refine (rcGet_c c p Fr Ft S W y C.A M w2 ((unhide hH).below (unhide hb2)) (by omega) z hfz).mono ?_
      rintro e w3 ⟨rfl, hb3⟩
      have hO3 := hide ((unhide hO2).below hb3)
      have hV3 := hide ((unhide hV2).below hb3)
      have hg3l : g1 < w3.heap.size := Nat.lt_of_lt_of_le hg2l hb3.size
      have hb3' := hide ((unhide hb2).trans (hb3.mono (unhide hb2).size))
      have hcell3 : w3.cell? ⟨g1, o + j, none⟩ = some (.int .i64 y) := keep_cell (hb3.block g1 hg2l) hHeld
      clear hb3 hO2 hV2 hb2
      refine hK.out _ _ ?_ (fun hHeld => ?_)
      · exact hcell3
      clear hK K
      try simp only [Act.put, List.setIfInBounds_toArray, List.set_cons_zero, List.set_cons_succ]
      refine hand_take (i := 11) (d := some 29) (v := ?_) rfl (by kernel_rfl) (by kernel_rfl) (by kernel_rfl) (fun _ _ _ h => h) ?_ hHeld ?_
      rotate_left
      · intro o ho
        simp at ho
        subst ho
        intro wz hSw
        try dsimp only at hSw
        go_simp
        try with_reducible rfl
      try simp only [Act.put, List.setIfInBounds_toArray, List.set_cons_zero, List.set_cons_succ]
      refine hand_call (i := 12) rfl (by kernel_rfl) ?_
      intro o ho
      simp at ho
      subst ho
      intro K hK
      go_simp
      have hO4 := hide ((unhide hO3).alloc (.cells #[.int .i64 y, .int .i64 z.n, .bool z.o, .bool z.h, .int .i64 z.d] 37))
      have hV4 := hide ((unhide hV3).alloc (.cells #[.int .i64 y, .int .i64 z.n, .bool z.o, .bool z.h, .int .i64 z.d] 37))
      have hb4 := hide ((unhide hb3').alloc (unhide hb3').size (.cells #[.int .i64 y, .int .i64 z.n, .bool z.o, .bool z.h, .int .i64 z.d] 37))
      have hs4 := view_oneL w3 ⟨y, z⟩
      have hcell4 : (w3.alloc (.cells #[.int .i64 y, .int .i64 z.n, .bool z.o, .bool z.h, .int .i64 z.d] 37)).cell? ⟨g1, o + j, none⟩ = some (.int .i64 y) := keep_cell (Below.heap_alloc _ _ _ hg3l) hcell3
      have hg4l : g1 < (w3.alloc (.cells #[.int .i64 y, .int .i64 z.n, .bool z.o, .bool z.h, .int .i64 z.d] 37)).heap.size := by simp; omega
      have hgg : Hid (w3.heap.size ≠ g1) := by unfold Hid; omega
      obtain ⟨w4, hw4⟩ : ∃ w4, w3.alloc (.cells #[.int .i64 y, .int .i64 z.n, .bool z.o, .bool z.h, .int .i64 z.d] 37) = w4 := ⟨_, rfl⟩
      rw [hw4] at hO4 hV4 hb4 hs4 hcell4 hg4l ⊢
      clear hw4 hO3 hV3 hb3' hcell3
      refine hK.out _ _ ?_ (fun hHeld => ?_)
      · exact hcell4
      clear hK K
      try simp only [Act.put, List.setIfInBounds_toArray, List.set_cons_zero, List.set_cons_succ]
      refine hand_call (i := 13) rfl (by kernel_rfl) ?_
      intro o9 ho
      simp at ho
      subst ho
      intro K' hK'
      refine wp_appL (.tmp 18) (.tmp 30) rfl rfl rfl (unhide hO4) hs4 (by have := unhide hl1; simp only [List.length_singleton]; omega) (j + 1) (by have := unhide hl1; simp only [List.length_singleton]; omega) ?_
      intro ao2 cap2 w5 g2 hown2 hap2
      have hg5 : w5.heap[g1]? = w4.heap[g1]? := hap2.fr.block g1 hg4l (fun e => hgn e.symm)
      have hcell5 := keep_cell hg5 hcell4
      have hV5 := hide ((unhide hV4).carry (w' := w5) (fun _ _ => hg5))
      have hs5 := hap2.fr.size
      have hg5l : g1 < w5.heap.size := by omega
      have hb5 := hide ((unhide hb4).trans (hap2.fr.below (fun i hi => by rw [hi]; exact hg) (unhide hb4).size))
      have hl5 : g2 = g ∨ w4.heap.size ≤ g2 := hap2.lies
      have hg2w : w.heap.size ≤ g2 ∧ g2 ≠ g1 := by have := (unhide hb4).size; omega
      replace hown2 := hide hown2
      clear hap2 hO4 hV4 hb4 hs4 hl5
      refine hK'.out _ _ ?_ (fun hHeld => ?_)
      · exact hcell5
      clear hK' K'
      try simp only [Act.put, List.setIfInBounds_toArray, List.set_cons_zero, List.set_cons_succ]
      refine hand_take (i := 14) (d := some 3) (v := ?_) rfl (by kernel_rfl) (by kernel_rfl) (by kernel_rfl) (fun _ _ _ h => h) ?_ hHeld ?_
      rotate_left
      · intro o ho
        simp at ho
        subst ho
        intro wz hSw
        try dsimp only at hSw
        go_simp
        try with_reducible rfl
      try simp only [Act.put, List.setIfInBounds_toArray, List.set_cons_zero, List.set_cons_succ]
      refine wpAnyH_done (by kernel_rfl) (NoPanic.normal ?_) _
      clear hHeld
      go_wp2_with fail
      go_roundw
      case rel => exact ⟨j + 1, g2, by omega, by simp, by rw [unhide htk]; exact unhide hown2, hg2w.1, hg2w.2, unhide hV5, hg5l, unhide hb5⟩
      case measure => simp [intOf]; omega
    · obtain rfl : j = n := by omega
      rw [List.take_of_length_le (by rw [allC_len, ← listA_len, unhide hn]; exact Nat.le_refl _)] at hO'
      replace hb := hide hb
      clear hV hV1 hb1
      go_wp2_with fail
      go_ret
      exact ⟨_, g, rfl, hg, unhide hO', unhide hb⟩
end Go.Proofs.Ytooopcadefpncaa

namespace Go.Proofs.Ytooopcadefpncaa
open Go.ChangeShapes Go.WideShapes Go.ChangeAt Go.RowKit
set_option linter.unusedSimpArgs false
set_option linter.unusedVariables false
set_option maxRecDepth 10000

attribute [local go_sem, local simp] over_const setCell_drewN alloc_drewN Over.cell Over.frozen lt_s1 lt_s2 lt_s3 le_s0 le_s1 le_s2 le_s3 eq_s0 eq_s1 eq_s2 qe_s0

abbrev setN (w : World) (B : Nat) (l : Ln) : World := ((((w.setCell ⟨B, 0, none⟩ (.int .i64 l.b)).setCell ⟨B, 1, none⟩ (.int .i64 l.t.n)).setCell ⟨B, 2, none⟩ (.bool l.t.o)).setCell ⟨B, 3, none⟩ (.bool l.t.h)).setCell ⟨B, 4, none⟩ (.int .i64 l.t.d)
theorem set_ln {w : World} {B : Nat} {l0 : Ln} (h : LnAt w B l0) (l : Ln) : LnAt (setN w B l) B l ∧ FrS (· = B) w (setN w B l) := by
  obtain ⟨y5, y0, y1, y2, y3, y4, z0, z1, z2, z3, z4⟩ := h
  refine ⟨⟨by simp; exact y5, by simp [go_sem, *], by simp [go_sem, *], by simp [go_sem, *], by simp [go_sem, *], by simp [go_sem, *], by simp [go_sem, *], by simp [go_sem, *], by simp [go_sem, *], by simp [go_sem, *], by simp [go_sem, *]⟩, ?_⟩
  repeat' first | with_reducible exact FrS.refl _ _ | refine FrS.wr ?_ _

/-- The document's cache within a call of Absorb: its two boxes lie apart. -/
structure AbEnv (w wr : World) (c p : Nat) (Fr F0 Ft : Nat → Prop) (S W : Int) (A : List Int) (M : List Ln) (b : Bun) : Prop where
  rc : RcAt wr c p Fr Ft S W A M
  st : Step F0 Ft w wr
  bx : BunAt wr w.heap.size b
  y : LnAt wr (w.heap.size + 1) ln0
  n0 : ¬ Ft w.heap.size
  n1 : ¬ Ft (w.heap.size + 1)

section
variable {w wr wz w' : World} {c p : Nat} {Fr Fr' F0 Ft Ft' : Nat → Prop} {S W : Int} {A A' : List Int} {M M' : List Ln} {b : Bun}
theorem AbEnv.below (h : AbEnv w wr c p Fr F0 Ft S W A M b) (hb : Below wr.heap.size wr w') : AbEnv w w' c p Fr F0 Ft S W A M b := ⟨h.rc.below hb, h.st.trans (Step.of_below hb), h.bx.below hb, h.y.below hb, h.n0, h.n1⟩
theorem AbEnv.set (h : AbEnv w wr c p Fr F0 Ft S W A M b) (hn : RcAt w' c p Fr' Ft' S W A' M') (hs : Step Ft Ft' wr w') : AbEnv w w' c p Fr' F0 Ft' S W A' M' b := by
  obtain ⟨k1, k2, k3⟩ := hs.keep h.n0 h.bx.lt
  obtain ⟨a1, a2, a3⟩ := hs.keep h.n1 h.y.lt
  exact ⟨hn, h.st.trans hs, h.bx.carry k1, h.y.carry a1, k2, a2⟩
theorem AbEnv.lines (h : AbEnv w wr c p Fr F0 Ft S W A M b) (hz : Below wr.heap.size wr wz) (hn : RfIs w' p Fr' S W A') (hs : Step Fr Fr' wz w') : ∃ Ft', AbEnv w w' c p Fr' F0 Ft' S W A' M b ∧ Step Ft Ft' wr w' := by
  obtain ⟨Ft', h1, h2⟩ := h.rc.lines hz hn hs
  exact ⟨Ft', h.set h1 h2, h2⟩
/-- A write into a block apart. -/
theorem AbEnv.write {B : Nat} (h : AbEnv w wr c p Fr F0 Ft S W A M b) (hB : ¬ Ft B) (hw : w.heap.size + 2 ≤ B) (hf : FrS (· = B) wr w') : AbEnv w w' c p Fr F0 Ft S W A M b := by
  refine ⟨h.rc.fr hf (fun i hi _ e => hB (e ▸ hi)), ⟨h.st.fr.trans hf (fun i hi => .inr (by omega)), h.st.new⟩, h.bx.fr hf (by omega), h.y.carry (hf.block _ h.y.lt (by omega)), h.n0, h.n1⟩
/-- The call's end. -/
theorem AbEnv.fin {N : Int} {K : Nat} {C' : Ca} (h : AbEnv w wr c p Fr F0 Ft S W A M b) (hI : CInv S W N C') (hA : C'.A = A) (hR : RelM M C' K) (hf : FrS (· = w.heap.size + 1) wr w') : ∃ Ft', RcIs w' c Ft' S W N K C' ∧ Step F0 Ft' w w' :=
  RcIs.fin ⟨⟨hI, p, Fr, M, by rw [hA]; exact h.rc, hR⟩, h.st, h.n1⟩ (by omega) hf
end

set_option maxHeartbeats 4000000 in
theorem rcAbsorb_c (c : Nat) (Ft : Nat → Prop) (S W N L x q : Int) (K : Nat) (C : Ca) (b : Bun) (w : World) (h : RcIs w c Ft S W N K C) (hx : I64 x) (hb : okB b) (hL : b.n ≤ L) (hNL : N + L ≤ 9223372036854775807) (hK : K ≤ 99999) (r : Ln) (ok : Bool) (C' : Ca) (hg : Hid (goAb S W C x b q = (r, ok))) (hC : Hid (nxAb S W C x b q = C')) :
    Calls Try.prog 15 #[ptr c, .int .i64 x, .agg #[.int .i64 b.n, .bool b.o, .bool b.h, .int .i64 b.d], .int .i64 q] w fun e w' => e = .returned (.tuple #[.agg #[.int .i64 r.b, .int .i64 r.t.n, .bool r.t.o, .bool r.t.h, .int .i64 r.t.d], .bool ok]) ∧ ∃ Ft', RcIs w' c Ft' S W (N + L) (K + 1) C' ∧ Step Ft Ft' w w' := by
  have hI' := h.inv.ab (x := x) (q := q) hb hL hx.2
  rw [hC.out] at hI'
  replace hI' := hide hI'
  have hI := hide h.inv
  have hn0 := h.inv.n0
  have hb0 := hb.1
  have hz1 := h.inv.le x
  have hz0 := (h.inv.ok x).1
  obtain ⟨p, Fr, M, hA, hR⟩ := h.at'
  have hM := hR.len
  have hlt := hA.lt
  have c0 := hA.c0
  have hcl := hA.lt c hA.fc
  have hE0 : AbEnv w ((w.alloc (.cells #[.int .i64 b.n, .bool b.o, .bool b.h, .int .i64 b.d] 31)).alloc (.cells #[.int .i64 0, .int .i64 0, .bool false, .bool false, .int .i64 0] 37)) c p Fr Ft Ft S W C.A M b :=
    ⟨(hA.below (belA0 _ _)).below (belA0 _ _), (Step.of_below (belA0 _ _)).trans (Step.of_below (belA0 _ _)), ⟨by simp, by simp [go_sem], by simp [go_sem], by simp [go_sem], by simp [go_sem], by simp [go_sem], by simp [go_sem], by simp [go_sem], by simp [go_sem]⟩, ⟨by simp, by simp [go_sem], by simp [go_sem], by simp [go_sem], by simp [go_sem], by simp [go_sem], by simp [go_sem], by simp [go_sem], by simp [go_sem], by simp [go_sem], by simp [go_sem]⟩, fun e => by have := hlt _ e; omega, fun e => by have := hlt _ e; omega⟩
  have hRH := hide hR
  obtain ⟨z, hz⟩ : ∃ z, Hid (C.T x = z) := ⟨_, rfl⟩
  rw [hz.out] at hz1 hz0
  have hzk : Hid (z.h = false → z.d = 0) := by have := (h.inv.ok x).2.2.2; rw [hz.out] at this; exact this
  have hfz : Hid (findL M x = z) := (hR.t x).trans hz.out
  clear h hA hR hlt
  replace hE0 := hide hE0
  by_cases hb1 : b.n < 1
  · have hg1 := hg.out
    have hC1 := hC.out
    simp only [goAb, hb1, if_pos, Prod.mk.injEq] at hg1
    simp only [nxAb, hb1, if_pos] at hC1
    obtain ⟨rfl, rfl⟩ := hg1
    subst hC1
    clear hg hC
    go_enter Try.func15, Try.ntmps15
    go_wp2_with fail
    go_returns
    refine ⟨rfl, (unhide hE0).fin (unhide hI') rfl ((unhide hRH).mono (by omega)) (FrS.refl _ _)⟩
  by_cases hxA : x ∈ C.A
  · have hrem : Hid (okRem C.A x = true) := by simp [Hid, okRem, hxA]
    have hg1 := hg.out
    have hC1 := hC.out
    simp only [goAb, hb1, if_neg, if_pos hxA, Prod.mk.injEq, not_false_eq_true] at hg1
    simp only [nxAb, hb1, if_neg, if_pos hxA, not_false_eq_true] at hC1
    obtain ⟨rfl, rfl⟩ := hg1
    subst hC1
    clear hg hC hxA
    obtain ⟨j, hj⟩ : ∃ j, Hid (joinB z b = j) := ⟨_, rfl⟩
    rw [hz.out, hj.out] at hI' ⊢
    have hjn : Hid (0 < j.n) := by have := joinB_n z b; rw [hj.out] at this; unfold Hid; omega
    have hjk : Hid (okB j) := by have h1 := (unhide hI').ok x; simp only [updT_same] at h1; exact h1
    go_enter Try.func15, Try.ntmps15
    go_wp2_with fail
    obtain ⟨w0, hw0⟩ : ∃ w0, (w.alloc (.cells #[.int .i64 b.n, .bool b.o, .bool b.h, .int .i64 b.d] 31)).alloc (.cells #[.int .i64 0, .int .i64 0, .bool false, .bool false, .int .i64 0] 37) = w0 := ⟨_, rfl⟩
    rw [hw0] at hE0 ⊢
    clear hw0 c0
    go_at_call 34
    refine (rUse_c p Fr S W x C.A w0 (unhide hE0).rc.rf).mono ?_
    rw [hrem.out]
    rintro e w1 ⟨rfl, Fr1, hn1, hs1⟩
    obtain ⟨Ft1, hE1, -⟩ := (unhide hE0).lines (Below.refl _ _) hn1 hs1
    clear hn1 hs1 hE0
    obtain ⟨-, y0, y1, y2, y3, -, -, -, -⟩ := id hE1.bx
    replace hE1 := hide hE1
    go_wp2_with fail
    refine wp_region_noPanic ?_
    refine wp_region_held_drew (S := (fun w' => w'.cell? ⟨w.heap.size, 0, none⟩ = some (.int .i64 b.n) ∧ w'.cell? ⟨w.heap.size, 1, none⟩ = some (.bool b.o) ∧ w'.cell? ⟨w.heap.size, 2, none⟩ = some (.bool b.h) ∧ w'.cell? ⟨w.heap.size, 3, none⟩ = some (.int .i64 b.d))) (by kernel_rfl) ?_ (fun hHeld => ?_)
    · exact ⟨y0, y1, y2, y3⟩
    have hE2 := hide ((unhide hE1).below ((Below.refl w1.heap.size w1).drew))
    obtain ⟨w2, hw2⟩ : ∃ w2, w1.drew = w2 := ⟨_, rfl⟩
    rw [hw2] at hHeld hE2 ⊢
    clear hw2 hE1 y0 y1 y2 y3
    refine hand_take (i := 0) (d := some 24) (v := ?_) rfl (by kernel_rfl) (by kernel_rfl) (by kernel_rfl) (fun _ _ _ h => h) ?_ hHeld ?_
    rotate_left
    · intro o ho
      simp at ho
      subst ho
      intro wz hSw
      try dsimp only at hSw
      go_simp
      try with_reducible rfl
    try simp only [Act.put, List.setIfInBounds_toArray, List.set_cons_zero, List.set_cons_succ]
    refine hand_take (i := 1) (d := some 25) (v := ?_) rfl (by kernel_rfl) (by kernel_rfl) (by kernel_rfl) (fun _ _ _ h => h) ?_ hHeld ?_
    rotate_left
    · intro o ho
      simp at ho
      subst ho
      intro wz hSw
      try dsimp only at hSw
      go_simp
      try with_reducible rfl
    try simp only [Act.put, List.setIfInBounds_toArray, List.set_cons_zero, List.set_cons_succ]
    refine hand_take (i := 2) (d := some 26) (v := ?_) rfl (by kernel_rfl) (by kernel_rfl) (by kernel_rfl) (fun _ _ _ h => h) ?_ hHeld ?_
    rotate_left
    · intro o ho
      simp at ho
      subst ho
      intro wz hSw
      try dsimp only at hSw
      go_simp
      try with_reducible rfl
    try simp only [Act.put, List.setIfInBounds_toArray, List.set_cons_zero, List.set_cons_succ]
    refine hand_take (i := 3) (d := some 27) (v := ?_) rfl (by kernel_rfl) (by kernel_rfl) (by kernel_rfl) (fun _ _ _ h => h) ?_ hHeld ?_
    rotate_left
    · intro o ho
      simp at ho
      subst ho
      intro wz hSw
      try dsimp only at hSw
      go_simp
      try with_reducible rfl
    try simp only [Act.put, List.setIfInBounds_toArray, List.set_cons_zero, List.set_cons_succ]
    refine hand_take (i := 5) (d := some 29) (v := ?_) rfl (by kernel_rfl) (by kernel_rfl) (by kernel_rfl) (fun _ _ _ h => h) ?_ hHeld ?_
    rotate_left
    · intro o ho
      simp at ho
      subst ho
      intro wz hSw
      try dsimp only at hSw
      go_simp
      try with_reducible rfl
    try simp only [Act.put, List.setIfInBounds_toArray, List.set_cons_zero, List.set_cons_succ]
    refine hand_call (i := 4) rfl (by kernel_rfl) ?_
    intro o ho
    simp at ho
    subst ho
    intro K hK
    go_simp
    go_at_call 21
    refine (rcGet_c c p Fr1 Ft1 S W x _ M w2 (unhide hE2).rc (by omega) z hfz).mono ?_
    rintro e w3 ⟨rfl, hb3⟩
    have hE3 := hide ((unhide hE2).below hb3)
    clear hb3 hE2
    refine hK.out _ _ ?_ (fun hHeld => ?_)
    · exact ⟨(unhide hE3).bx.c0, (unhide hE3).bx.c1, (unhide hE3).bx.c2, (unhide hE3).bx.c3⟩
    clear hK K
    try simp only [Act.put, List.setIfInBounds_toArray, List.set_cons_zero, List.set_cons_succ]
    refine hand_call (i := 6) rfl (by kernel_rfl) ?_
    intro o ho
    simp at ho
    subst ho
    intro K hK
    go_simp
    go_at_call 36
    refine (refJoin_any z.n z.o z.h z.d b.n b.o b.h b.d w3 (by omega) (by omega) (unhide hzk) j hj).mono ?_
    rintro e w4 ⟨rfl, hb4⟩
    have hE4 := hide ((unhide hE3).below hb4)
    clear hb4 hE3
    refine hK.out _ _ ?_ (fun hHeld => ?_)
    · exact ⟨(unhide hE4).bx.c0, (unhide hE4).bx.c1, (unhide hE4).bx.c2, (unhide hE4).bx.c3⟩
    clear hK K
    try simp only [Act.put, List.setIfInBounds_toArray, List.set_cons_zero, List.set_cons_succ]
    refine hand_call (i := 7) rfl (by kernel_rfl) ?_
    intro o ho
    simp at ho
    subst ho
    intro K hK
    go_simp
    go_at_call 35
    refine (rcSet_c c p Fr1 Ft1 S W x j _ M w4 (unhide hE4).rc (by omega) _ _ (lineA_pos (unhide hjn)) rfl).mono ?_
    rintro e w5 ⟨rfl, Fr5, Ft5, hn5, hs5⟩
    have hE5 := (unhide hE4).set hn5 hs5
    clear hn5 hs5 hE4
    refine hK.out _ _ ?_ (fun hHeld => ?_)
    · exact ⟨hE5.bx.c0, hE5.bx.c1, hE5.bx.c2, hE5.bx.c3⟩
    clear hK K
    try simp only [Act.put, List.setIfInBounds_toArray, List.set_cons_zero, List.set_cons_succ]
    refine wpAnyH_done (by kernel_rfl) (NoPanic.normal ?_) _
    clear hHeld
    obtain ⟨y5, y0, y1, y2, y3, y4, z0, z1, z2, z3, z4⟩ := id hE5.y
    replace hE5 := hide hE5
    go_wp2_with fail
    refine bodyPost_ret (by simp [results, Try.results15, go_sem, *]; done) rfl ⟨rfl, ?_⟩
    refine (unhide hE5).fin (unhide hI') rfl ((unhide hRH).set (unhide hjk) _) ?_
    repeat' first | with_reducible exact FrS.refl _ _ | refine FrS.wr ?_ _
  · have hrem : Hid (okRem C.A x = false) := by simp [Hid, okRem, hxA]
    have hnx : Hid (nxUse C.A x = C.A) := by simp [Hid, nxUse, hxA]
    have hg1 := hg.out
    have hC1 := hC.out
    obtain ⟨⟨v, may⟩, hv⟩ : ∃ z, Hid (vicA S W C.A x q = z) := ⟨_, rfl⟩
    rcases vic_cases (unhide hI).inv hxA hv.out with ⟨rfl, rfl, _⟩ | ⟨rfl, rfl, h2⟩ | ⟨rfl, h2, h3, h4, h5⟩
    · simp [goAb, hb1, hxA, hv.out] at hg1
      simp [nxAb, hb1, hxA, hv.out] at hC1
      obtain ⟨rfl, rfl⟩ := hg1
      subst hC1
      clear hg hC hxA
      go_enter Try.func15, Try.ntmps15
      go_wp2_with fail
      obtain ⟨w0, hw0⟩ : ∃ w0, (w.alloc (.cells #[.int .i64 b.n, .bool b.o, .bool b.h, .int .i64 b.d] 31)).alloc (.cells #[.int .i64 0, .int .i64 0, .bool false, .bool false, .int .i64 0] 37) = w0 := ⟨_, rfl⟩
      rw [hw0] at hE0 ⊢
      clear hw0 c0
      go_at_call 34
      refine (rUse_c p Fr S W x C.A w0 (unhide hE0).rc.rf).mono ?_
      rw [hrem.out, hnx.out]
      rintro e w1 ⟨rfl, Fr1, hn1, hs1⟩
      obtain ⟨Ft1, hE1, -⟩ := (unhide hE0).lines (Below.refl _ _) hn1 hs1
      clear hn1 hs1 hE0
      have c1 := hE1.rc.c0
      have hcl1 := hE1.rc.lt c hE1.rc.fc
      replace hE1 := hide hE1
      go_wp2_with fail
      go_at_call 37
      refine (rVictim_c p Fr1 S W x q C.A w1 (unhide hE1).rc.rf).mono ?_
      rw [hv.out]
      rintro e w2 ⟨rfl, hb2⟩
      have hE2 := (unhide hE1).below hb2
      clear hb2 hE1 c1
      obtain ⟨-, x0, x1, x2, x3, -, -, -, -⟩ := id hE2.bx
      obtain ⟨y5, y0, y1, y2, y3, y4, z0, z1, z2, z3, z4⟩ := id hE2.y
      replace hE2 := hide hE2
      go_wp2_with fail
      refine bodyPost_ret (by simp [results, Try.results15, go_sem, *]; done) rfl ⟨rfl, ?_⟩
      refine (unhide hE2).fin (unhide hI') rfl ((unhide hRH).mono (by omega)) ?_
      repeat' first | with_reducible exact FrS.refl _ _ | refine FrS.wr ?_ _
    · simp [goAb, hb1, hxA, hv.out] at hg1
      simp [nxAb, hb1, hxA, hv.out] at hC1
      obtain ⟨rfl, rfl⟩ := hg1
      subst hC1
      clear hg hC
      have hno : Hid (decide ((-1 : Int) ∈ C.A) = false) := by
        have : (-1 : Int) ∉ C.A := fun e => by have := (unhide hI).inv.pos _ e; omega
        simp [Hid, this]
      replace h2 := hide h2
      clear hxA
      go_enter Try.func15, Try.ntmps15
      go_wp2_with fail
      obtain ⟨w0, hw0⟩ : ∃ w0, (w.alloc (.cells #[.int .i64 b.n, .bool b.o, .bool b.h, .int .i64 b.d] 31)).alloc (.cells #[.int .i64 0, .int .i64 0, .bool false, .bool false, .int .i64 0] 37) = w0 := ⟨_, rfl⟩
      rw [hw0] at hE0 ⊢
      clear hw0 c0
      go_at_call 34
      refine (rUse_c p Fr S W x C.A w0 (unhide hE0).rc.rf).mono ?_
      rw [hrem.out, hnx.out]
      rintro e w1 ⟨rfl, Fr1, hn1, hs1⟩
      obtain ⟨Ft1, hE1, -⟩ := (unhide hE0).lines (Below.refl _ _) hn1 hs1
      clear hn1 hs1 hE0
      have c1 := hE1.rc.c0
      have hcl1 := hE1.rc.lt c hE1.rc.fc
      replace hE1 := hide hE1
      go_wp2_with fail
      go_at_call 37
      refine (rVictim_c p Fr1 S W x q C.A w1 (unhide hE1).rc.rf).mono ?_
      rw [hv.out]
      rintro e w2 ⟨rfl, hb2⟩
      have hE2 := (unhide hE1).below hb2
      clear hb2 hE1 c1
      have c2 := hE2.rc.c0
      have hcl2 := hE2.rc.lt c hE2.rc.fc
      replace hE2 := hide hE2
      go_wp2_with fail
      go_at_call 38
      refine (rHas_c p Fr1 S W (-1) C.A _ ((unhide hE2).below (belA0 _ _)).rc.rf).mono ?_
      rw [hno.out]
      rintro e w' ⟨rfl, rfl⟩
      have hE3 := hide ((unhide hE2).below (belA0 w2 (.cells #[.int .i64 0, .int .i64 0, .bool false, .bool false, .int .i64 0] 37)))
      go_wp2_with fail
      go_at_call 39
      refine (rAdd_c p Fr1 S W x C.A _ (unhide hE3).rc.rf hx.2).mono ?_
      have hna : nxAdd S W C.A x = C.A ++ [x] := by have := unhide h2; simp [nxAdd, this]
      rw [unhide h2, hna]
      clear hna
      rintro e w4 ⟨rfl, Fr4, hn4, hs4⟩
      obtain ⟨Ft4, hE4, hst4⟩ := (unhide hE3).lines (Below.refl _ _) hn4 hs4
      have hB : ¬ Ft1 w2.heap.size := fun e => by have := (unhide hE2).rc.lt _ e; omega
      obtain ⟨k1, k2, k3⟩ := hst4.keep (b := w2.heap.size) hB (by simp)
      have u : LnAt w4 w2.heap.size ln0 := ⟨k3, keep_cell k1 (by simp [go_sem]), keep_cell k1 (by simp [go_sem]), keep_cell k1 (by simp [go_sem]), keep_cell k1 (by simp [go_sem]), keep_cell k1 (by simp [go_sem]), keep_frozen k1 (by simp [go_sem]), keep_frozen k1 (by simp [go_sem]), keep_frozen k1 (by simp [go_sem]), keep_frozen k1 (by simp [go_sem]), keep_frozen k1 (by simp [go_sem])⟩
      clear hn4 hs4 hst4 hE3 hE2 c2 hcl2 k1
      obtain ⟨-, x0, x1, x2, x3, -, -, -, -⟩ := id hE4.bx
      have hE5 := hide hE4
      replace u := hide u
      go_wp2_with fail
      go_at_call 35
      refine (rcSet_c c p Fr4 Ft4 S W x b (C.A ++ [x]) M _ (unhide hE5).rc (by omega) _ _ (lineA_pos (by omega)) rfl).mono ?_
      rintro e w6 ⟨rfl, Fr6, Ft6, hn6, hs6⟩
      have hE6 := (unhide hE5).set hn6 hs6
      obtain ⟨k1, -, -⟩ := hs6.keep (b := w2.heap.size) k2 (unhide u).lt
      replace u := (unhide u).carry k1
      obtain ⟨-, u0, u1, u2, u3, u4, -⟩ := u
      obtain ⟨y5, y0, y1, y2, y3, y4, z0, z1, z2, z3, z4⟩ := id hE6.y
      replace hE6 := hide hE6
      clear hn6 hs6 hE5 x0 x1 x2 x3 k1
      go_wp2_with fail
      refine bodyPost_ret (by simp [results, Try.results15, go_sem, *]; done) rfl ⟨rfl, ?_⟩
      refine (unhide hE6).fin (unhide hI') rfl ((unhide hRH).set hb _) ?_
      repeat' first | with_reducible exact FrS.refl _ _ | refine FrS.wr ?_ _
    · have hvlt : ¬ v < 0 := by omega
      simp [goAb, hb1, hxA, hv.out, hvlt] at hg1
      simp [nxAb, hb1, hxA, hv.out, hvlt] at hC1
      obtain ⟨rfl, rfl⟩ := hg1
      subst hC1
      clear hg hC
      have hyes : Hid (decide (v ∈ C.A) = true) := by simp [Hid, h3]
      obtain ⟨u9, hu9⟩ : ∃ u9, Hid (C.T v = u9) := ⟨_, rfl⟩
      have hfu : Hid (findL M v = u9) := ((unhide hRH).t v).trans hu9.out
      rw [hu9.out]
      replace h5 := hide h5
      clear hxA h3 h4 hvlt
      go_enter Try.func15, Try.ntmps15
      go_wp2_with fail
      obtain ⟨w0, hw0⟩ : ∃ w0, (w.alloc (.cells #[.int .i64 b.n, .bool b.o, .bool b.h, .int .i64 b.d] 31)).alloc (.cells #[.int .i64 0, .int .i64 0, .bool false, .bool false, .int .i64 0] 37) = w0 := ⟨_, rfl⟩
      rw [hw0] at hE0 ⊢
      clear hw0 c0
      go_at_call 34
      refine (rUse_c p Fr S W x C.A w0 (unhide hE0).rc.rf).mono ?_
      rw [hrem.out, hnx.out]
      rintro e w1 ⟨rfl, Fr1, hn1, hs1⟩
      obtain ⟨Ft1, hE1, -⟩ := (unhide hE0).lines (Below.refl _ _) hn1 hs1
      clear hn1 hs1 hE0
      have c1 := hE1.rc.c0
      have hcl1 := hE1.rc.lt c hE1.rc.fc
      replace hE1 := hide hE1
      go_wp2_with fail
      go_at_call 37
      refine (rVictim_c p Fr1 S W x q C.A w1 (unhide hE1).rc.rf).mono ?_
      rw [hv.out]
      rintro e w2 ⟨rfl, hb2⟩
      have hE2 := (unhide hE1).below hb2
      clear hb2 hE1 c1
      have hsz2 : w.heap.size + 1 < w2.heap.size := hE2.y.lt
      have c2 := hE2.rc.c0
      have hcl2 := hE2.rc.lt c hE2.rc.fc
      replace hE2 := hide hE2
      go_wp2_with fail
      go_at_call 38
      refine (rHas_c p Fr1 S W v C.A _ ((unhide hE2).below (belA0 _ _)).rc.rf).mono ?_
      rw [hyes.out]
      rintro e w' ⟨rfl, rfl⟩
      have hE3 := hide ((unhide hE2).below (belA0 w2 (.cells #[.int .i64 0, .int .i64 0, .bool false, .bool false, .int .i64 0] 37)))
      go_wp2_with fail
      go_at_call 21
      refine (rcGet_c c p Fr1 Ft1 S W v C.A M _ (unhide hE3).rc (by omega) u9 hfu).mono ?_
      rintro e w4 ⟨rfl, hb4⟩
      have hE4 := hide ((unhide hE3).below hb4)
      have hB : ¬ Ft1 w2.heap.size := fun e => by have := (unhide hE2).rc.lt _ e; omega
      have kk := hb4.block w2.heap.size (by simp)
      have u : LnAt w4 w2.heap.size ln0 := ⟨block_lt (by simp) kk, keep_cell kk (by simp [go_sem]), keep_cell kk (by simp [go_sem]), keep_cell kk (by simp [go_sem]), keep_cell kk (by simp [go_sem]), keep_cell kk (by simp [go_sem]), keep_frozen kk (by simp [go_sem]), keep_frozen kk (by simp [go_sem]), keep_frozen kk (by simp [go_sem]), keep_frozen kk (by simp [go_sem]), keep_frozen kk (by simp [go_sem])⟩
      obtain ⟨q5, q0, q1, q2, q3, q4, g0, g1, g2, g3, g4⟩ := id u
      clear hb4 hE3 hE2 c2 hcl2 kk
      go_wp2_with fail
      obtain ⟨w5, hw5⟩ : ∃ w5, setN w4 w2.heap.size ⟨v, u9⟩ = w5 := ⟨_, rfl⟩
      obtain ⟨u5, hf5⟩ := set_ln u ⟨v, u9⟩
      rw [hw5] at u5 hf5
      dsimp only [setN] at hw5
      rw [hw5]
      have hE5 := (unhide hE4).write hB (by omega) hf5
      have u := hide u5
      have hM6 := setL_none_len M v
      replace hE5 := hide hE5
      clear hw5 hf5 u5 hE4 q5 q0 q1 q2 q3 q4 g0 g1 g2 g3 g4
      go_wp2_with fail
      go_at_call 35
      refine (rcSet_c c p Fr1 Ft1 S W v bun0 C.A M w5 (unhide hE5).rc (by omega) _ _ (lineA_none _ _) rfl).mono ?_
      rintro e w6 ⟨rfl, Fr6, Ft6, hn6, hs6⟩
      have hE6 := (unhide hE5).set hn6 hs6
      obtain ⟨k1, k2, k3⟩ := hs6.keep (b := w2.heap.size) hB (unhide u).lt
      replace u := hide ((unhide u).carry k1)
      have c6 := hE6.rc.c0
      have hcl6 := hE6.rc.lt c hE6.rc.fc
      replace hE6 := hide hE6
      clear hn6 hs6 hE5 k1 k3
      go_wp2_with fail
      go_at_call 39
      refine (rAdd_c p Fr6 S W x (C.A.erase v) _ (unhide hE6).rc.rf hx.2).mono ?_
      have hna : nxAdd S W (C.A.erase v) x = C.A.erase v ++ [x] := by have := unhide h5; simp [nxAdd, this]
      rw [unhide h5, hna]
      clear hna
      rintro e w7 ⟨rfl, Fr7, hn7, hs7⟩
      obtain ⟨Ft7, hE7, hst7⟩ := (unhide hE6).lines (Below.refl _ _) hn7 hs7
      obtain ⟨k1, k2, k3⟩ := hst7.keep (b := w2.heap.size) k2 (unhide u).lt
      replace u := (unhide u).carry k1
      clear hn7 hs7 hst7 hE6 c6 hcl6 k1
      obtain ⟨-, x0, x1, x2, x3, -, -, -, -⟩ := id hE7.bx
      have hE5 := hide hE7
      replace u := hide u
      go_wp2_with fail
      go_at_call 35
      refine (rcSet_c c p Fr7 Ft7 S W x b (C.A.erase v ++ [x]) (setL M v bun0) _ (unhide hE5).rc (by omega) _ _ (lineA_pos (by omega)) rfl).mono ?_
      rintro e w6 ⟨rfl, Fr6, Ft6, hn6, hs6⟩
      have hE6 := (unhide hE5).set hn6 hs6
      obtain ⟨k1, -, -⟩ := hs6.keep (b := w2.heap.size) k2 (unhide u).lt
      replace u := (unhide u).carry k1
      obtain ⟨-, u0, u1, u2, u3, u4, -⟩ := u
      obtain ⟨y5, y0, y1, y2, y3, y4, z0, z1, z2, z3, z4⟩ := id hE6.y
      replace hE6 := hide hE6
      clear hn6 hs6 hE5 x0 x1 x2 x3 k1
      go_wp2_with fail
      refine bodyPost_ret (by simp [results, Try.results15, go_sem, *]; done) rfl ⟨rfl, ?_⟩
      refine (unhide hE6).fin (unhide hI') rfl (((unhide hRH).none v (C.A.erase v)).set hb _) ?_
      repeat' first | with_reducible exact FrS.refl _ _ | refine FrS.wr ?_ _
end Go.Proofs.Ytooopcadefpncaa

namespace Go.Proofs.Ytooopcadefpncaa
open Go.ChangeShapes Go.WideShapes Go.ChangeAt Go.RowKit
set_option linter.unusedSimpArgs false
set_option linter.unusedVariables false
set_option maxRecDepth 10000

attribute [local go_sem, local simp] over_const setCell_drewN alloc_drewN Over.cell Over.frozen lt_s1 lt_s2 lt_s3 le_s0 le_s1 le_s2 le_s3 eq_s0 eq_s1 eq_s2 qe_s0

set_option maxHeartbeats 2000000 in
theorem rcDo_c (c : Nat) (Ft : Nat → Prop) (S W N x : Int) (Kn : Nat) (wr : Bool) (v t : Int) (C : Ca) (w : World) (h : RcIs w c Ft S W N Kn C) (hK : Kn ≤ 99999) (q : Bool) (r : Int) (C' : Ca) (hq : Hid (okDo C x wr t = q)) (hr : Hid (valDo C x wr v t = r)) (hC : Hid (nxDo C x wr v t = C')) :
    Calls Try.prog 19 #[ptr c, .agg #[.int .i64 x, .bool wr, .int .i64 v], .int .i64 t] w fun e w' => e = .returned (.tuple #[.int .i64 r, .bool q]) ∧ ∃ Ft', RcIs w' c Ft' S W N (Kn + 1) C' ∧ Step Ft Ft' w w' := by
  have hI' := h.inv.dx x wr v t
  rw [hC.out] at hI'
  replace hI' := hide hI'
  have hlt : ∀ b, Ft b → b < w.heap.size := h.lt
  obtain ⟨z, hz⟩ : ∃ z, Hid (C.T x = z) := ⟨_, rfl⟩
  have hmem : Hid (q = true → 0 < z.n) := fun e => by have h1 := (okDo_mem h.inv (hq.out.trans e)).2.1; rw [hz.out] at h1; omega
  obtain ⟨p, Fr, M, hA, hR⟩ := h.at'
  have hM := hR.len
  have hfz : Hid (findL M x = z) := (hR.t x).trans hz.out
  replace hR := hide hR
  have hH := hide hA
  clear h hA
  obtain ⟨d', hd⟩ : ∃ d', Hid (datDo C x wr v t = d') := ⟨_, rfl⟩
  have hq1 : Hid (canB wr z.n z.h t = q) := by have := hq.out; rw [okDo, hz.out] at this; exact this
  have hd1 : Hid ((if (q && wr) = true then v else z.d) = d') := by have := hd.out; rw [datDo, hz.out, hq.out] at this; exact this
  have hr1 : Hid ((if q = true then d' else 0) = r) := by have := hr.out; rw [valDo, hd.out, hq.out] at this; exact this
  have hC1 := hC.out
  rw [nxDo, hq.out, hz.out, hd.out] at hC1
  replace hC1 := hide hC1
  clear hq hr hC
  go_enter Try.func19, Try.ntmps19
  go_wp2_with fail
  have ho0 := op_new w x wr v 33
  have hB0 : Below w.heap.size w (w.alloc (.cells #[.int .i64 x, .bool wr, .int .i64 v] 33)) := (Below.refl _ _).alloc (Nat.le_refl _) _
  obtain ⟨wb, hwb⟩ : ∃ wb, (w.alloc (.cells #[.int .i64 x, .bool wr, .int .i64 v] 33)) = wb := ⟨_, rfl⟩
  rw [hwb] at ho0 hB0 ⊢
  clear hwb
  obtain ⟨-, o0, o1, o2⟩ := id ho0
  go_wp2_with fail
  refine wp_region_noPanic ?_
  refine wp_region_held_drew (S := (fun w' => w'.cell? ⟨w.heap.size, 0, none⟩ = some (.int .i64 x) ∧ w'.cell? ⟨w.heap.size, 1, none⟩ = some (.bool wr) ∧ w'.cell? ⟨w.heap.size, 2, none⟩ = some (.int .i64 v))) (by kernel_rfl) ?_ (fun hHeld => ?_)
  · exact ⟨o0, o1, o2⟩
  have ho1 : OpAt wb.drew w.heap.size x wr v := ho0.carry rfl
  have hB1 : Below w.heap.size w wb.drew := hB0.drew
  obtain ⟨wd, hwd⟩ : ∃ wd, wb.drew = wd := ⟨_, rfl⟩
  rw [hwd] at hHeld ho1 hB1 ⊢
  clear hwd ho0 hB0 o0 o1 o2
  refine hand_take (i := 0) (d := some 12) (v := ?_) rfl (by kernel_rfl) (by kernel_rfl) (by kernel_rfl) (fun _ _ _ h => h) ?_ hHeld ?_
  rotate_left
  · intro o ho
    simp at ho
    subst ho
    intro wz hSw
    try dsimp only at hSw
    go_simp
    try with_reducible rfl
  try simp only [Act.put, List.setIfInBounds_toArray, List.set_cons_zero, List.set_cons_succ]
  refine hand_take (i := 1) (d := some 13) (v := ?_) rfl (by kernel_rfl) (by kernel_rfl) (by kernel_rfl) (fun _ _ _ h => h) ?_ hHeld ?_
  rotate_left
  · intro o ho
    simp at ho
    subst ho
    intro wz hSw
    try dsimp only at hSw
    go_simp
    try with_reducible rfl
  try simp only [Act.put, List.setIfInBounds_toArray, List.set_cons_zero, List.set_cons_succ]
  refine hand_take (i := 2) (d := some 14) (v := ?_) rfl (by kernel_rfl) (by kernel_rfl) (by kernel_rfl) (fun _ _ _ h => h) ?_ hHeld ?_
  rotate_left
  · intro o ho
    simp at ho
    subst ho
    intro wz hSw
    try dsimp only at hSw
    go_simp
    try with_reducible rfl
  try simp only [Act.put, List.setIfInBounds_toArray, List.set_cons_zero, List.set_cons_succ]
  refine hand_take (i := 3) (d := some 15) (v := ?_) rfl (by kernel_rfl) (by kernel_rfl) (by kernel_rfl) (fun _ _ _ h => h) ?_ hHeld ?_
  rotate_left
  · intro o ho
    simp at ho
    subst ho
    intro wz hSw
    try dsimp only at hSw
    go_simp
    try with_reducible rfl
  try simp only [Act.put, List.setIfInBounds_toArray, List.set_cons_zero, List.set_cons_succ]
  refine hand_take (i := 5) (d := some 17) (v := ?_) rfl (by kernel_rfl) (by kernel_rfl) (by kernel_rfl) (fun _ _ _ h => h) ?_ hHeld ?_
  rotate_left
  · intro o ho
    simp at ho
    subst ho
    intro wz hSw
    try dsimp only at hSw
    go_simp
    try with_reducible rfl
  try simp only [Act.put, List.setIfInBounds_toArray, List.set_cons_zero, List.set_cons_succ]
  refine hand_two (i := 4) (j := 11) rfl rfl (by kernel_rfl) ?_ ?_
  · intro o ho
    simp at ho
    subst ho
    intro K hK
    go_simp
    go_at_call 21
    refine (rcGet_c c p Fr Ft S W x C.A M wd ((unhide hH).below hB1) (by omega) z hfz).mono ?_
    rintro e w1 ⟨rfl, hb⟩
    have ho2 := ho1.below hb
    have hB2 := hB1.trans (hb.mono hB1.size)
    clear hb
    refine hK.out _ _ ?_ (fun hHeld => ?_)
    · exact ⟨ho2.c0, ho2.c1, ho2.c2⟩
    clear hK K
    try simp only [Act.put, List.setIfInBounds_toArray, List.set_cons_zero, List.set_cons_succ]
    refine hand_two (i := 6) (j := 11) rfl rfl (by kernel_rfl) ?_ ?_
    · intro o ho
      simp at ho
      subst ho
      intro K hK
      go_simp
      go_at_call 43
      refine (refDo_c x wr v z.n z.o z.h z.d t w1 q hq1 d' r hd1 hr1).mono ?_
      rintro e w2 ⟨rfl, hb⟩
      have ho3 := ho2.below hb
      have hB3 := hB2.trans (hb.mono hB2.size)
      clear hb
      refine hK.out _ _ ?_ (fun hHeld => ?_)
      · exact ⟨ho3.c0, ho3.c1, ho3.c2⟩
      clear hK K
      try simp only [Act.put, List.setIfInBounds_toArray, List.set_cons_zero, List.set_cons_succ]
      refine hand_take (i := 7) (d := some 11) (v := ?_) rfl (by kernel_rfl) (by kernel_rfl) (by kernel_rfl) (fun _ _ _ h => h) ?_ hHeld ?_
      rotate_left
      · intro o ho
        simp at ho
        subst ho
        intro wz hSw
        try dsimp only at hSw
        go_simp
        try with_reducible rfl
      try simp only [Act.put, List.setIfInBounds_toArray, List.set_cons_zero, List.set_cons_succ]
      refine hand_take (i := 8) (d := some 19) (v := ?_) rfl (by kernel_rfl) (by kernel_rfl) (by kernel_rfl) (fun _ _ _ h => h) ?_ hHeld ?_
      rotate_left
      · intro o ho
        simp at ho
        subst ho
        intro wz hSw
        try dsimp only at hSw
        go_simp
        try with_reducible rfl
      try simp only [Act.put, List.setIfInBounds_toArray, List.set_cons_zero, List.set_cons_succ]
      refine hand_take (i := 9) (d := some 20) (v := ?_) rfl (by kernel_rfl) (by kernel_rfl) (by kernel_rfl) (fun _ _ _ h => h) ?_ hHeld ?_
      rotate_left
      · intro o ho
        simp at ho
        subst ho
        intro wz hSw
        try dsimp only at hSw
        go_simp
        try with_reducible rfl
      try simp only [Act.put, List.setIfInBounds_toArray, List.set_cons_zero, List.set_cons_succ]
      refine hand_take (i := 10) (d := some 21) (v := ?_) rfl (by kernel_rfl) (by kernel_rfl) (by kernel_rfl) (fun _ _ _ h => h) ?_ hHeld ?_
      rotate_left
      · intro o ho
        simp at ho
        subst ho
        intro wz hSw
        try dsimp only at hSw
        go_simp
        try with_reducible rfl
      try simp only [Act.put, List.setIfInBounds_toArray, List.set_cons_zero, List.set_cons_succ]
      refine hand_call (i := 11) rfl (by kernel_rfl) ?_
      intro o ho
      simp at ho
      subst ho
      intro K hK
      go_simp
      have ho4 := ho3.below (belA0 w2 (.cells #[.int .i64 0, .bool false, .bool false, .int .i64 0] 31))
      have hB4 := hB3.alloc hB3.size (.cells #[.int .i64 0, .bool false, .bool false, .int .i64 0] 31)
      have hy := bun_new w2 31
      have hn : w.heap.size < w2.heap.size := ho3.lt
      obtain ⟨B, eB⟩ : ∃ B, w2.heap.size = B := ⟨_, rfl⟩
      obtain ⟨w4, hw4⟩ : ∃ w4, w2.alloc (.cells #[.int .i64 0, .bool false, .bool false, .int .i64 0] 31) = w4 := ⟨_, rfl⟩
      rw [hw4] at ho4 hB4 hy ⊢
      rw [eB] at hy hn ⊢
      clear hw4 eB ho3 hB3
      refine hK.out _ _ ?_ (fun hHeld => ?_)
      · exact ⟨ho4.c0, ho4.c1, ho4.c2⟩
      clear hK K
      try simp only [Act.put, List.setIfInBounds_toArray, List.set_cons_zero, List.set_cons_succ]
      obtain ⟨y5, y0, y1, y2, y3, z0, z1, z2, z3⟩ := id hy
      refine hand_call (i := 12) rfl (by kernel_rfl) ?_
      intro o ho
      simp at ho
      subst ho
      intro K hK
      go_simp
      clear y5 y0 y1 y2 y3 z0 z1 z2 z3
      obtain ⟨w6, hw6⟩ : ∃ w6, setB w4 B ⟨z.n, z.o, z.h, d'⟩ = w6 := ⟨_, rfl⟩
      have M9 : DoMid w w6 B x wr v ⟨z.n, z.o, z.h, d'⟩ := by rw [← hw6]; exact DoMid.of hB4 ho4 hy hn _
      dsimp only [setB] at hw6
      rw [hw6]
      clear hw6
      refine hK.out _ _ ?_ (fun hHeld => ?_)
      · exact ⟨M9.op.c0, M9.op.c1, M9.op.c2⟩
      clear hK K
      try simp only [Act.put, List.setIfInBounds_toArray, List.set_cons_zero, List.set_cons_succ]
      refine hand_take (i := 13) (d := some 9) (v := ?_) rfl (by kernel_rfl) (by kernel_rfl) (by kernel_rfl) (fun _ _ _ h => h) ?_ hHeld ?_
      rotate_left
      · intro o ho
        simp at ho
        subst ho
        intro wz hSw
        try dsimp only at hSw
        go_simp
        try with_reducible rfl
      try simp only [Act.put, List.setIfInBounds_toArray, List.set_cons_zero, List.set_cons_succ]
      refine hand_take (i := 14) (d := some 10) (v := ?_) rfl (by kernel_rfl) (by kernel_rfl) (by kernel_rfl) (fun _ _ _ h => h) ?_ hHeld ?_
      rotate_left
      · intro o ho
        simp at ho
        subst ho
        intro wz hSw
        try dsimp only at hSw
        go_simp
        try with_reducible rfl
      try simp only [Act.put, List.setIfInBounds_toArray, List.set_cons_zero, List.set_cons_succ]
      refine wpAnyH_done (by kernel_rfl) (NoPanic.normal ?_) _
      clear hHeld
      obtain ⟨M1, ⟨ol, o0, o1, o2⟩, hy, hn⟩ := M9
      obtain ⟨y5, y0, y1, y2, y3, -, -, -, -⟩ := id hy
      replace M1 := hide M1
      replace hy := hide hy
      cases q
      · go_wp2_with fail
        refine bodyPost_ret (by simp [results, Try.results19, go_sem, *]; done) rfl ⟨rfl, ?_⟩
        obtain rfl : C = C' := by have := hC1.out; simpa using this
        exact ⟨Ft, ⟨unhide hI', p, Fr, M, (unhide hH).below (unhide M1), (unhide hR).mono (by omega)⟩, Step.of_below (unhide M1)⟩
      · obtain rfl : (⟨nxUse C.A x, updT C.T x ⟨z.n, z.o, z.h, d'⟩⟩ : Ca) = C' := by have := hC1.out; simpa using this
        have hzn : 0 < (⟨z.n, z.o, z.h, d'⟩ : Bun).n := unhide hmem rfl
        have hbk : Hid (okB ⟨z.n, z.o, z.h, d'⟩) := by have h1 := (unhide hI').ok x; simp only [updT_same] at h1; exact h1
        replace hzn := hide hzn
        go_wp2_with fail
        go_at_call 35
        refine (rcSet_c c p Fr Ft S W x ⟨z.n, z.o, z.h, d'⟩ C.A M w6 ((unhide hH).below (unhide M1)) (by omega) _ _ (lineA_pos (unhide hzn)) rfl).mono ?_
        rintro e w7 ⟨rfl, Fr7, Ft7, hn7, hs7⟩
        obtain ⟨a1, a2, a3⟩ := hs7.keep (b := w.heap.size) (fun e => by have := hlt _ e; omega) ol
        have q0 : w7.cell? ⟨c, 0, none⟩ = some (ptr p) := hn7.c0
        have hcl7 := hn7.lt c hn7.fc
        have q1 : w7.cell? ⟨w.heap.size, 0, none⟩ = some (.int .i64 x) := keep_cell a1 o0
        replace hn7 := hide hn7
        replace hs7 := hide hs7
        clear a1 o0 o1 o2 y0 y1 y2 y3
        go_wp2_with fail
        refine wp_region_noPanic ?_
        refine wp_region_held_drew (S := (fun w' => w'.cell? ⟨c, 0, none⟩ = some (ptr p) ∧ w'.cell? ⟨w.heap.size, 0, none⟩ = some (.int .i64 x))) (by kernel_rfl) ?_ (fun hHeld => ?_)
        · exact ⟨q0, q1⟩
        refine hand_take (i := 0) (d := some 28) (v := ?_) rfl (by kernel_rfl) (by kernel_rfl) (by kernel_rfl) (fun _ _ _ h => h) ?_ hHeld ?_
        rotate_left
        · intro o ho
          simp at ho
          subst ho
          intro wz hSw
          try dsimp only at hSw
          go_simp
          try with_reducible rfl
        try simp only [Act.put, List.setIfInBounds_toArray, List.set_cons_zero, List.set_cons_succ]
        refine hand_take (i := 1) (d := some 29) (v := ?_) rfl (by kernel_rfl) (by kernel_rfl) (by kernel_rfl) (fun _ _ _ h => h) ?_ hHeld ?_
        rotate_left
        · intro o ho
          simp at ho
          subst ho
          intro wz hSw
          try dsimp only at hSw
          go_simp
          try with_reducible rfl
        try simp only [Act.put, List.setIfInBounds_toArray, List.set_cons_zero, List.set_cons_succ]
        refine hand_take (i := 2) (d := some 30) (v := ?_) rfl (by kernel_rfl) (by kernel_rfl) (by kernel_rfl) (fun _ _ _ h => h) ?_ hHeld ?_
        rotate_left
        · intro o ho
          simp at ho
          subst ho
          intro wz hSw
          try dsimp only at hSw
          go_simp
          try with_reducible rfl
        try simp only [Act.put, List.setIfInBounds_toArray, List.set_cons_zero, List.set_cons_succ]
        refine hand_take (i := 3) (d := some 31) (v := ?_) rfl (by kernel_rfl) (by kernel_rfl) (by kernel_rfl) (fun _ _ _ h => h) ?_ hHeld ?_
        rotate_left
        · intro o ho
          simp at ho
          subst ho
          intro wz hSw
          try dsimp only at hSw
          go_simp
          try with_reducible rfl
        try simp only [Act.put, List.setIfInBounds_toArray, List.set_cons_zero, List.set_cons_succ]
        refine hand_take (i := 4) (d := some 32) (v := ?_) rfl (by kernel_rfl) (by kernel_rfl) (by kernel_rfl) (fun _ _ _ h => h) ?_ hHeld ?_
        rotate_left
        · intro o ho
          simp at ho
          subst ho
          intro wz hSw
          try dsimp only at hSw
          go_simp
          try with_reducible rfl
        try simp only [Act.put, List.setIfInBounds_toArray, List.set_cons_zero, List.set_cons_succ]
        refine hand_take (i := 5) (d := some 33) (v := ?_) rfl (by kernel_rfl) (by kernel_rfl) (by kernel_rfl) (fun _ _ _ h => h) ?_ hHeld ?_
        rotate_left
        · intro o ho
          simp at ho
          subst ho
          intro wz hSw
          try dsimp only at hSw
          go_simp
          try with_reducible rfl
        try simp only [Act.put, List.setIfInBounds_toArray, List.set_cons_zero, List.set_cons_succ]
        refine hand_call (i := 6) rfl (by kernel_rfl) ?_
        intro o ho
        simp at ho
        subst ho
        intro K hK
        go_simp
        go_at_call 34
        refine (rUse_c p Fr7 S W x C.A w7.drew ((unhide hn7).rf.drew)).mono ?_
        rintro e w8 ⟨rfl, Fr8, hn8, hs8⟩
        obtain ⟨Ft8, hn9, hs9⟩ := (unhide hn7).lines (Below.refl _ _).drew hn8 hs8
        obtain ⟨a1, -, -⟩ := hs9.keep (b := w.heap.size) a2 a3
        have q02 := hn9.c0
        have q12 := keep_cell a1 q1
        have hfin : Hid (∃ Ft', RcIs w8 c Ft' S W N (Kn + 1) ⟨nxUse C.A x, updT C.T x ⟨z.n, z.o, z.h, d'⟩⟩ ∧ Step Ft Ft' w w8) := ⟨Ft8, ⟨unhide hI', p, Fr8, _, hn9, (unhide hR).set (unhide hbk) _⟩, ((Step.of_below (unhide M1)).trans (unhide hs7)).trans hs9⟩
        clear hn8 hs8 hn9 hs9 a1
        refine hK.out _ _ ?_ (fun hHeld => ?_)
        · exact ⟨q02, q12⟩
        clear hK K
        try simp only [Act.put, List.setIfInBounds_toArray, List.set_cons_zero, List.set_cons_succ]
        refine wpAnyH_done (by kernel_rfl) (NoPanic.normal ?_) _
        clear hHeld
        go_wp2_with fail
        refine bodyPost_ret (by simp [results, Try.results19, go_sem, *]; done) rfl ⟨rfl, ?_⟩
        exact unhide hfin
    · intro o ho
      simp at ho
      subst ho
      intro K hK
      go_simp
      have ho3 := ho2.below (belA0 w1 (.cells #[.int .i64 0, .bool false, .bool false, .int .i64 0] 31))
      have hB3 := hB2.alloc hB2.size (.cells #[.int .i64 0, .bool false, .bool false, .int .i64 0] 31)
      have hy := bun_new w1 31
      have hn : w.heap.size < w1.heap.size := ho2.lt
      obtain ⟨B, eB⟩ : ∃ B, w1.heap.size = B := ⟨_, rfl⟩
      obtain ⟨w4, hw4⟩ : ∃ w4, w1.alloc (.cells #[.int .i64 0, .bool false, .bool false, .int .i64 0] 31) = w4 := ⟨_, rfl⟩
      rw [hw4] at ho3 hB3 hy ⊢
      rw [eB] at hy hn ⊢
      clear hw4 eB ho2 hB2
      refine hK.out _ _ ?_ (fun hHeld => ?_)
      · exact ⟨ho3.c0, ho3.c1, ho3.c2⟩
      clear hK K
      try simp only [Act.put, List.setIfInBounds_toArray, List.set_cons_zero, List.set_cons_succ]
      refine hand_call (i := 6) rfl (by kernel_rfl) ?_
      intro o ho
      simp at ho
      subst ho
      intro K hK
      go_simp
      go_at_call 43
      refine (refDo_c x wr v z.n z.o z.h z.d t w4 q hq1 d' r hd1 hr1).mono ?_
      rintro e w5 ⟨rfl, hb⟩
      have ho5 := ho3.below hb
      have hB5 := hB3.trans (hb.mono hB3.size)
      replace hy := hy.below hb
      clear hb
      refine hK.out _ _ ?_ (fun hHeld => ?_)
      · exact ⟨ho5.c0, ho5.c1, ho5.c2⟩
      clear hK K
      try simp only [Act.put, List.setIfInBounds_toArray, List.set_cons_zero, List.set_cons_succ]
      refine hand_take (i := 7) (d := some 11) (v := ?_) rfl (by kernel_rfl) (by kernel_rfl) (by kernel_rfl) (fun _ _ _ h => h) ?_ hHeld ?_
      rotate_left
      · intro o ho
        simp at ho
        subst ho
        intro wz hSw
        try dsimp only at hSw
        go_simp
        try with_reducible rfl
      try simp only [Act.put, List.setIfInBounds_toArray, List.set_cons_zero, List.set_cons_succ]
      refine hand_take (i := 8) (d := some 19) (v := ?_) rfl (by kernel_rfl) (by kernel_rfl) (by kernel_rfl) (fun _ _ _ h => h) ?_ hHeld ?_
      rotate_left
      · intro o ho
        simp at ho
        subst ho
        intro wz hSw
        try dsimp only at hSw
        go_simp
        try with_reducible rfl
      try simp only [Act.put, List.setIfInBounds_toArray, List.set_cons_zero, List.set_cons_succ]
      refine hand_take (i := 9) (d := some 20) (v := ?_) rfl (by kernel_rfl) (by kernel_rfl) (by kernel_rfl) (fun _ _ _ h => h) ?_ hHeld ?_
      rotate_left
      · intro o ho
        simp at ho
        subst ho
        intro wz hSw
        try dsimp only at hSw
        go_simp
        try with_reducible rfl
      try simp only [Act.put, List.setIfInBounds_toArray, List.set_cons_zero, List.set_cons_succ]
      refine hand_take (i := 10) (d := some 21) (v := ?_) rfl (by kernel_rfl) (by kernel_rfl) (by kernel_rfl) (fun _ _ _ h => h) ?_ hHeld ?_
      rotate_left
      · intro o ho
        simp at ho
        subst ho
        intro wz hSw
        try dsimp only at hSw
        go_simp
        try with_reducible rfl
      try simp only [Act.put, List.setIfInBounds_toArray, List.set_cons_zero, List.set_cons_succ]
      obtain ⟨y5, y0, y1, y2, y3, z0, z1, z2, z3⟩ := id hy
      refine hand_call (i := 12) rfl (by kernel_rfl) ?_
      intro o ho
      simp at ho
      subst ho
      intro K hK
      go_simp
      clear y5 y0 y1 y2 y3 z0 z1 z2 z3
      obtain ⟨w6, hw6⟩ : ∃ w6, setB w5 B ⟨z.n, z.o, z.h, d'⟩ = w6 := ⟨_, rfl⟩
      have M9 : DoMid w w6 B x wr v ⟨z.n, z.o, z.h, d'⟩ := by rw [← hw6]; exact DoMid.of hB5 ho5 hy hn _
      dsimp only [setB] at hw6
      rw [hw6]
      clear hw6
      refine hK.out _ _ ?_ (fun hHeld => ?_)
      · exact ⟨M9.op.c0, M9.op.c1, M9.op.c2⟩
      clear hK K
      try simp only [Act.put, List.setIfInBounds_toArray, List.set_cons_zero, List.set_cons_succ]
      refine hand_take (i := 13) (d := some 9) (v := ?_) rfl (by kernel_rfl) (by kernel_rfl) (by kernel_rfl) (fun _ _ _ h => h) ?_ hHeld ?_
      rotate_left
      · intro o ho
        simp at ho
        subst ho
        intro wz hSw
        try dsimp only at hSw
        go_simp
        try with_reducible rfl
      try simp only [Act.put, List.setIfInBounds_toArray, List.set_cons_zero, List.set_cons_succ]
      refine hand_take (i := 14) (d := some 10) (v := ?_) rfl (by kernel_rfl) (by kernel_rfl) (by kernel_rfl) (fun _ _ _ h => h) ?_ hHeld ?_
      rotate_left
      · intro o ho
        simp at ho
        subst ho
        intro wz hSw
        try dsimp only at hSw
        go_simp
        try with_reducible rfl
      try simp only [Act.put, List.setIfInBounds_toArray, List.set_cons_zero, List.set_cons_succ]
      refine wpAnyH_done (by kernel_rfl) (NoPanic.normal ?_) _
      clear hHeld
      obtain ⟨M1, ⟨ol, o0, o1, o2⟩, hy, hn⟩ := M9
      obtain ⟨y5, y0, y1, y2, y3, -, -, -, -⟩ := id hy
      replace M1 := hide M1
      replace hy := hide hy
      cases q
      · go_wp2_with fail
        refine bodyPost_ret (by simp [results, Try.results19, go_sem, *]; done) rfl ⟨rfl, ?_⟩
        obtain rfl : C = C' := by have := hC1.out; simpa using this
        exact ⟨Ft, ⟨unhide hI', p, Fr, M, (unhide hH).below (unhide M1), (unhide hR).mono (by omega)⟩, Step.of_below (unhide M1)⟩
      · obtain rfl : (⟨nxUse C.A x, updT C.T x ⟨z.n, z.o, z.h, d'⟩⟩ : Ca) = C' := by have := hC1.out; simpa using this
        have hzn : 0 < (⟨z.n, z.o, z.h, d'⟩ : Bun).n := unhide hmem rfl
        have hbk : Hid (okB ⟨z.n, z.o, z.h, d'⟩) := by have h1 := (unhide hI').ok x; simp only [updT_same] at h1; exact h1
        replace hzn := hide hzn
        go_wp2_with fail
        go_at_call 35
        refine (rcSet_c c p Fr Ft S W x ⟨z.n, z.o, z.h, d'⟩ C.A M w6 ((unhide hH).below (unhide M1)) (by omega) _ _ (lineA_pos (unhide hzn)) rfl).mono ?_
        rintro e w7 ⟨rfl, Fr7, Ft7, hn7, hs7⟩
        obtain ⟨a1, a2, a3⟩ := hs7.keep (b := w.heap.size) (fun e => by have := hlt _ e; omega) ol
        have q0 : w7.cell? ⟨c, 0, none⟩ = some (ptr p) := hn7.c0
        have hcl7 := hn7.lt c hn7.fc
        have q1 : w7.cell? ⟨w.heap.size, 0, none⟩ = some (.int .i64 x) := keep_cell a1 o0
        replace hn7 := hide hn7
        replace hs7 := hide hs7
        clear a1 o0 o1 o2 y0 y1 y2 y3
        go_wp2_with fail
        refine wp_region_noPanic ?_
        refine wp_region_held_drew (S := (fun w' => w'.cell? ⟨c, 0, none⟩ = some (ptr p) ∧ w'.cell? ⟨w.heap.size, 0, none⟩ = some (.int .i64 x))) (by kernel_rfl) ?_ (fun hHeld => ?_)
        · exact ⟨q0, q1⟩
        refine hand_take (i := 0) (d := some 28) (v := ?_) rfl (by kernel_rfl) (by kernel_rfl) (by kernel_rfl) (fun _ _ _ h => h) ?_ hHeld ?_
        rotate_left
        · intro o ho
          simp at ho
          subst ho
          intro wz hSw
          try dsimp only at hSw
          go_simp
          try with_reducible rfl
        try simp only [Act.put, List.setIfInBounds_toArray, List.set_cons_zero, List.set_cons_succ]
        refine hand_take (i := 1) (d := some 29) (v := ?_) rfl (by kernel_rfl) (by kernel_rfl) (by kernel_rfl) (fun _ _ _ h => h) ?_ hHeld ?_
        rotate_left
        · intro o ho
          simp at ho
          subst ho
          intro wz hSw
          try dsimp only at hSw
          go_simp
          try with_reducible rfl
        try simp only [Act.put, List.setIfInBounds_toArray, List.set_cons_zero, List.set_cons_succ]
        refine hand_take (i := 2) (d := some 30) (v := ?_) rfl (by kernel_rfl) (by kernel_rfl) (by kernel_rfl) (fun _ _ _ h => h) ?_ hHeld ?_
        rotate_left
        · intro o ho
          simp at ho
          subst ho
          intro wz hSw
          try dsimp only at hSw
          go_simp
          try with_reducible rfl
        try simp only [Act.put, List.setIfInBounds_toArray, List.set_cons_zero, List.set_cons_succ]
        refine hand_take (i := 3) (d := some 31) (v := ?_) rfl (by kernel_rfl) (by kernel_rfl) (by kernel_rfl) (fun _ _ _ h => h) ?_ hHeld ?_
        rotate_left
        · intro o ho
          simp at ho
          subst ho
          intro wz hSw
          try dsimp only at hSw
          go_simp
          try with_reducible rfl
        try simp only [Act.put, List.setIfInBounds_toArray, List.set_cons_zero, List.set_cons_succ]
        refine hand_take (i := 4) (d := some 32) (v := ?_) rfl (by kernel_rfl) (by kernel_rfl) (by kernel_rfl) (fun _ _ _ h => h) ?_ hHeld ?_
        rotate_left
        · intro o ho
          simp at ho
          subst ho
          intro wz hSw
          try dsimp only at hSw
          go_simp
          try with_reducible rfl
        try simp only [Act.put, List.setIfInBounds_toArray, List.set_cons_zero, List.set_cons_succ]
        refine hand_take (i := 5) (d := some 33) (v := ?_) rfl (by kernel_rfl) (by kernel_rfl) (by kernel_rfl) (fun _ _ _ h => h) ?_ hHeld ?_
        rotate_left
        · intro o ho
          simp at ho
          subst ho
          intro wz hSw
          try dsimp only at hSw
          go_simp
          try with_reducible rfl
        try simp only [Act.put, List.setIfInBounds_toArray, List.set_cons_zero, List.set_cons_succ]
        refine hand_call (i := 6) rfl (by kernel_rfl) ?_
        intro o ho
        simp at ho
        subst ho
        intro K hK
        go_simp
        go_at_call 34
        refine (rUse_c p Fr7 S W x C.A w7.drew ((unhide hn7).rf.drew)).mono ?_
        rintro e w8 ⟨rfl, Fr8, hn8, hs8⟩
        obtain ⟨Ft8, hn9, hs9⟩ := (unhide hn7).lines (Below.refl _ _).drew hn8 hs8
        obtain ⟨a1, -, -⟩ := hs9.keep (b := w.heap.size) a2 a3
        have q02 := hn9.c0
        have q12 := keep_cell a1 q1
        have hfin : Hid (∃ Ft', RcIs w8 c Ft' S W N (Kn + 1) ⟨nxUse C.A x, updT C.T x ⟨z.n, z.o, z.h, d'⟩⟩ ∧ Step Ft Ft' w w8) := ⟨Ft8, ⟨unhide hI', p, Fr8, _, hn9, (unhide hR).set (unhide hbk) _⟩, ((Step.of_below (unhide M1)).trans (unhide hs7)).trans hs9⟩
        clear hn8 hs8 hn9 hs9 a1
        refine hK.out _ _ ?_ (fun hHeld => ?_)
        · exact ⟨q02, q12⟩
        clear hK K
        try simp only [Act.put, List.setIfInBounds_toArray, List.set_cons_zero, List.set_cons_succ]
        refine wpAnyH_done (by kernel_rfl) (NoPanic.normal ?_) _
        clear hHeld
        go_wp2_with fail
        refine bodyPost_ret (by simp [results, Try.results19, go_sem, *]; done) rfl ⟨rfl, ?_⟩
        exact unhide hfin
  · intro o ho
    simp at ho
    subst ho
    intro K hK
    go_simp
    have ho2 := ho1.below (belA0 wd (.cells #[.int .i64 0, .bool false, .bool false, .int .i64 0] 31))
    have hB2 := hB1.alloc hB1.size (.cells #[.int .i64 0, .bool false, .bool false, .int .i64 0] 31)
    have hy := bun_new wd 31
    have hn : w.heap.size < wd.heap.size := ho1.lt
    obtain ⟨B, eB⟩ : ∃ B, wd.heap.size = B := ⟨_, rfl⟩
    obtain ⟨w1, hw1⟩ : ∃ w1, wd.alloc (.cells #[.int .i64 0, .bool false, .bool false, .int .i64 0] 31) = w1 := ⟨_, rfl⟩
    rw [hw1] at ho2 hB2 hy ⊢
    rw [eB] at hy hn ⊢
    clear hw1 eB ho1 hB1
    refine hK.out _ _ ?_ (fun hHeld => ?_)
    · exact ⟨ho2.c0, ho2.c1, ho2.c2⟩
    clear hK K
    try simp only [Act.put, List.setIfInBounds_toArray, List.set_cons_zero, List.set_cons_succ]
    refine hand_call (i := 4) rfl (by kernel_rfl) ?_
    intro o ho
    simp at ho
    subst ho
    intro K hK
    go_simp
    go_at_call 21
    refine (rcGet_c c p Fr Ft S W x C.A M w1 ((unhide hH).below hB2) (by omega) z hfz).mono ?_
    rintro e w4 ⟨rfl, hb⟩
    have ho3 := ho2.below hb
    have hB3 := hB2.trans (hb.mono hB2.size)
    replace hy := hy.below hb
    clear hb
    refine hK.out _ _ ?_ (fun hHeld => ?_)
    · exact ⟨ho3.c0, ho3.c1, ho3.c2⟩
    clear hK K
    try simp only [Act.put, List.setIfInBounds_toArray, List.set_cons_zero, List.set_cons_succ]
    refine hand_call (i := 6) rfl (by kernel_rfl) ?_
    intro o ho
    simp at ho
    subst ho
    intro K hK
    go_simp
    go_at_call 43
    refine (refDo_c x wr v z.n z.o z.h z.d t w4 q hq1 d' r hd1 hr1).mono ?_
    rintro e w5 ⟨rfl, hb⟩
    have ho5 := ho3.below hb
    have hB5 := hB3.trans (hb.mono hB3.size)
    replace hy := hy.below hb
    clear hb
    refine hK.out _ _ ?_ (fun hHeld => ?_)
    · exact ⟨ho5.c0, ho5.c1, ho5.c2⟩
    clear hK K
    try simp only [Act.put, List.setIfInBounds_toArray, List.set_cons_zero, List.set_cons_succ]
    refine hand_take (i := 7) (d := some 11) (v := ?_) rfl (by kernel_rfl) (by kernel_rfl) (by kernel_rfl) (fun _ _ _ h => h) ?_ hHeld ?_
    rotate_left
    · intro o ho
      simp at ho
      subst ho
      intro wz hSw
      try dsimp only at hSw
      go_simp
      try with_reducible rfl
    try simp only [Act.put, List.setIfInBounds_toArray, List.set_cons_zero, List.set_cons_succ]
    refine hand_take (i := 8) (d := some 19) (v := ?_) rfl (by kernel_rfl) (by kernel_rfl) (by kernel_rfl) (fun _ _ _ h => h) ?_ hHeld ?_
    rotate_left
    · intro o ho
      simp at ho
      subst ho
      intro wz hSw
      try dsimp only at hSw
      go_simp
      try with_reducible rfl
    try simp only [Act.put, List.setIfInBounds_toArray, List.set_cons_zero, List.set_cons_succ]
    refine hand_take (i := 9) (d := some 20) (v := ?_) rfl (by kernel_rfl) (by kernel_rfl) (by kernel_rfl) (fun _ _ _ h => h) ?_ hHeld ?_
    rotate_left
    · intro o ho
      simp at ho
      subst ho
      intro wz hSw
      try dsimp only at hSw
      go_simp
      try with_reducible rfl
    try simp only [Act.put, List.setIfInBounds_toArray, List.set_cons_zero, List.set_cons_succ]
    refine hand_take (i := 10) (d := some 21) (v := ?_) rfl (by kernel_rfl) (by kernel_rfl) (by kernel_rfl) (fun _ _ _ h => h) ?_ hHeld ?_
    rotate_left
    · intro o ho
      simp at ho
      subst ho
      intro wz hSw
      try dsimp only at hSw
      go_simp
      try with_reducible rfl
    try simp only [Act.put, List.setIfInBounds_toArray, List.set_cons_zero, List.set_cons_succ]
    obtain ⟨y5, y0, y1, y2, y3, z0, z1, z2, z3⟩ := id hy
    refine hand_call (i := 12) rfl (by kernel_rfl) ?_
    intro o ho
    simp at ho
    subst ho
    intro K hK
    go_simp
    clear y5 y0 y1 y2 y3 z0 z1 z2 z3
    obtain ⟨w6, hw6⟩ : ∃ w6, setB w5 B ⟨z.n, z.o, z.h, d'⟩ = w6 := ⟨_, rfl⟩
    have M9 : DoMid w w6 B x wr v ⟨z.n, z.o, z.h, d'⟩ := by rw [← hw6]; exact DoMid.of hB5 ho5 hy hn _
    dsimp only [setB] at hw6
    rw [hw6]
    clear hw6
    refine hK.out _ _ ?_ (fun hHeld => ?_)
    · exact ⟨M9.op.c0, M9.op.c1, M9.op.c2⟩
    clear hK K
    try simp only [Act.put, List.setIfInBounds_toArray, List.set_cons_zero, List.set_cons_succ]
    refine hand_take (i := 13) (d := some 9) (v := ?_) rfl (by kernel_rfl) (by kernel_rfl) (by kernel_rfl) (fun _ _ _ h => h) ?_ hHeld ?_
    rotate_left
    · intro o ho
      simp at ho
      subst ho
      intro wz hSw
      try dsimp only at hSw
      go_simp
      try with_reducible rfl
    try simp only [Act.put, List.setIfInBounds_toArray, List.set_cons_zero, List.set_cons_succ]
    refine hand_take (i := 14) (d := some 10) (v := ?_) rfl (by kernel_rfl) (by kernel_rfl) (by kernel_rfl) (fun _ _ _ h => h) ?_ hHeld ?_
    rotate_left
    · intro o ho
      simp at ho
      subst ho
      intro wz hSw
      try dsimp only at hSw
      go_simp
      try with_reducible rfl
    try simp only [Act.put, List.setIfInBounds_toArray, List.set_cons_zero, List.set_cons_succ]
    refine wpAnyH_done (by kernel_rfl) (NoPanic.normal ?_) _
    clear hHeld
    obtain ⟨M1, ⟨ol, o0, o1, o2⟩, hy, hn⟩ := M9
    obtain ⟨y5, y0, y1, y2, y3, -, -, -, -⟩ := id hy
    replace M1 := hide M1
    replace hy := hide hy
    cases q
    · go_wp2_with fail
      refine bodyPost_ret (by simp [results, Try.results19, go_sem, *]; done) rfl ⟨rfl, ?_⟩
      obtain rfl : C = C' := by have := hC1.out; simpa using this
      exact ⟨Ft, ⟨unhide hI', p, Fr, M, (unhide hH).below (unhide M1), (unhide hR).mono (by omega)⟩, Step.of_below (unhide M1)⟩
    · obtain rfl : (⟨nxUse C.A x, updT C.T x ⟨z.n, z.o, z.h, d'⟩⟩ : Ca) = C' := by have := hC1.out; simpa using this
      have hzn : 0 < (⟨z.n, z.o, z.h, d'⟩ : Bun).n := unhide hmem rfl
      have hbk : Hid (okB ⟨z.n, z.o, z.h, d'⟩) := by have h1 := (unhide hI').ok x; simp only [updT_same] at h1; exact h1
      replace hzn := hide hzn
      go_wp2_with fail
      go_at_call 35
      refine (rcSet_c c p Fr Ft S W x ⟨z.n, z.o, z.h, d'⟩ C.A M w6 ((unhide hH).below (unhide M1)) (by omega) _ _ (lineA_pos (unhide hzn)) rfl).mono ?_
      rintro e w7 ⟨rfl, Fr7, Ft7, hn7, hs7⟩
      obtain ⟨a1, a2, a3⟩ := hs7.keep (b := w.heap.size) (fun e => by have := hlt _ e; omega) ol
      have q0 : w7.cell? ⟨c, 0, none⟩ = some (ptr p) := hn7.c0
      have hcl7 := hn7.lt c hn7.fc
      have q1 : w7.cell? ⟨w.heap.size, 0, none⟩ = some (.int .i64 x) := keep_cell a1 o0
      replace hn7 := hide hn7
      replace hs7 := hide hs7
      clear a1 o0 o1 o2 y0 y1 y2 y3
      go_wp2_with fail
      refine wp_region_noPanic ?_
      refine wp_region_held_drew (S := (fun w' => w'.cell? ⟨c, 0, none⟩ = some (ptr p) ∧ w'.cell? ⟨w.heap.size, 0, none⟩ = some (.int .i64 x))) (by kernel_rfl) ?_ (fun hHeld => ?_)
      · exact ⟨q0, q1⟩
      refine hand_take (i := 0) (d := some 28) (v := ?_) rfl (by kernel_rfl) (by kernel_rfl) (by kernel_rfl) (fun _ _ _ h => h) ?_ hHeld ?_
      rotate_left
      · intro o ho
        simp at ho
        subst ho
        intro wz hSw
        try dsimp only at hSw
        go_simp
        try with_reducible rfl
      try simp only [Act.put, List.setIfInBounds_toArray, List.set_cons_zero, List.set_cons_succ]
      refine hand_take (i := 1) (d := some 29) (v := ?_) rfl (by kernel_rfl) (by kernel_rfl) (by kernel_rfl) (fun _ _ _ h => h) ?_ hHeld ?_
      rotate_left
      · intro o ho
        simp at ho
        subst ho
        intro wz hSw
        try dsimp only at hSw
        go_simp
        try with_reducible rfl
      try simp only [Act.put, List.setIfInBounds_toArray, List.set_cons_zero, List.set_cons_succ]
      refine hand_take (i := 2) (d := some 30) (v := ?_) rfl (by kernel_rfl) (by kernel_rfl) (by kernel_rfl) (fun _ _ _ h => h) ?_ hHeld ?_
      rotate_left
      · intro o ho
        simp at ho
        subst ho
        intro wz hSw
        try dsimp only at hSw
        go_simp
        try with_reducible rfl
      try simp only [Act.put, List.setIfInBounds_toArray, List.set_cons_zero, List.set_cons_succ]
      refine hand_take (i := 3) (d := some 31) (v := ?_) rfl (by kernel_rfl) (by kernel_rfl) (by kernel_rfl) (fun _ _ _ h => h) ?_ hHeld ?_
      rotate_left
      · intro o ho
        simp at ho
        subst ho
        intro wz hSw
        try dsimp only at hSw
        go_simp
        try with_reducible rfl
      try simp only [Act.put, List.setIfInBounds_toArray, List.set_cons_zero, List.set_cons_succ]
      refine hand_take (i := 4) (d := some 32) (v := ?_) rfl (by kernel_rfl) (by kernel_rfl) (by kernel_rfl) (fun _ _ _ h => h) ?_ hHeld ?_
      rotate_left
      · intro o ho
        simp at ho
        subst ho
        intro wz hSw
        try dsimp only at hSw
        go_simp
        try with_reducible rfl
      try simp only [Act.put, List.setIfInBounds_toArray, List.set_cons_zero, List.set_cons_succ]
      refine hand_take (i := 5) (d := some 33) (v := ?_) rfl (by kernel_rfl) (by kernel_rfl) (by kernel_rfl) (fun _ _ _ h => h) ?_ hHeld ?_
      rotate_left
      · intro o ho
        simp at ho
        subst ho
        intro wz hSw
        try dsimp only at hSw
        go_simp
        try with_reducible rfl
      try simp only [Act.put, List.setIfInBounds_toArray, List.set_cons_zero, List.set_cons_succ]
      refine hand_call (i := 6) rfl (by kernel_rfl) ?_
      intro o ho
      simp at ho
      subst ho
      intro K hK
      go_simp
      go_at_call 34
      refine (rUse_c p Fr7 S W x C.A w7.drew ((unhide hn7).rf.drew)).mono ?_
      rintro e w8 ⟨rfl, Fr8, hn8, hs8⟩
      obtain ⟨Ft8, hn9, hs9⟩ := (unhide hn7).lines (Below.refl _ _).drew hn8 hs8
      obtain ⟨a1, -, -⟩ := hs9.keep (b := w.heap.size) a2 a3
      have q02 := hn9.c0
      have q12 := keep_cell a1 q1
      have hfin : Hid (∃ Ft', RcIs w8 c Ft' S W N (Kn + 1) ⟨nxUse C.A x, updT C.T x ⟨z.n, z.o, z.h, d'⟩⟩ ∧ Step Ft Ft' w w8) := ⟨Ft8, ⟨unhide hI', p, Fr8, _, hn9, (unhide hR).set (unhide hbk) _⟩, ((Step.of_below (unhide M1)).trans (unhide hs7)).trans hs9⟩
      clear hn8 hs8 hn9 hs9 a1
      refine hK.out _ _ ?_ (fun hHeld => ?_)
      · exact ⟨q02, q12⟩
      clear hK K
      try simp only [Act.put, List.setIfInBounds_toArray, List.set_cons_zero, List.set_cons_succ]
      refine wpAnyH_done (by kernel_rfl) (NoPanic.normal ?_) _
      clear hHeld
      go_wp2_with fail
      refine bodyPost_ret (by simp [results, Try.results19, go_sem, *]; done) rfl ⟨rfl, ?_⟩
      exact unhide hfin
end Go.Proofs.Ytooopcadefpncaa
