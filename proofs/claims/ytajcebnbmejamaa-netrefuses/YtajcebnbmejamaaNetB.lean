/- Nets in memory; the contracts of New, List, Copy, has, Drops, Send (layer 6). -/
import Derived.Test.YtajcebnbmejamaaNetA
namespace Go.Proofs.Ytajcebnbmejamaa
open Go.ChangeShapes Go.WideShapes Go.ChangeAt Go.RowKit
set_option linter.unusedSimpArgs false
set_option linter.unusedVariables false

attribute [local go_sem, local simp] over_const setCell_drewN alloc_drewN Over.cell Over.frozen lt_s1 lt_s2 lt_s3 le_s0 le_s1 le_s2 le_s3 eq_s0 eq_s1 eq_s2 qe_s0

/-- A net in block p, its letters in block g (p itself where there is no array). -/
structure NetIs (w : World) (p g : Nat) (R : Int) (L : List Lt) : Prop where
  pl : p < w.heap.size
  r0 : 0 ≤ R
  r1 : R ≤ 65536
  le : (L.length : Int) ≤ R
  c0 : w.cell? ⟨p, 0, none⟩ = some (.int .i64 R)
  c1 : ∃ v, w.cell? ⟨p, 1, none⟩ = some v ∧ Own w v g L ∧ (g = p → v = .slice none 0 0)
  f1 : w.frozen? ⟨p, 1, none⟩ = false

theorem NetIs.gl {w : World} {p g : Nat} {R : Int} {L : List Lt} (h : NetIs w p g R L) : g < w.heap.size := by
  obtain ⟨_, _, ⟨_, _, _, _, _, h, _⟩, _⟩ := h.c1; exact h

theorem NetIs.carry {w w' : World} {p g : Nat} {R : Int} {L : List Lt} (h : NetIs w p g R L) (ep : w'.heap[p]? = w.heap[p]?) (eg : w'.heap[g]? = w.heap[g]?) : NetIs w' p g R L := by
  obtain ⟨v, h1, h2, h3⟩ := h.c1
  refine ⟨?_, h.r0, h.r1, h.le, (World.cell?_of_block (w := w) ep).trans h.c0, ⟨v, (World.cell?_of_block (w := w) ep).trans h1, h2.carry eg, h3⟩, (World.frozen?_of_block (w := w) ep).trans h.f1⟩
  rw [Array.getElem?_eq_getElem h.pl] at ep
  exact (Array.getElem?_eq_some_iff.1 ep).1

theorem NetIs.fr {w w' : World} {p g p' g' : Nat} {R : Int} {L : List Lt} (h : NetIs w p g R L) (hf : Fr p' g' w w') (h1 : p ≠ p') (h2 : p ≠ g') (h3 : g ≠ p') (h4 : g ≠ g') : NetIs w' p g R L :=
  h.carry (hf.block p h.pl h1 h2) (hf.block g h.gl h3 h4)
theorem NetIs.below {w w' : World} {p g : Nat} {R : Int} {L : List Lt} (h : NetIs w p g R L) (hf : Below w.heap.size w w') : NetIs w' p g R L := h.carry (hf.block p h.pl) (hf.block g h.gl)
theorem NetIs.alloc {w : World} {p g : Nat} {R : Int} {L : List Lt} (h : NetIs w p g R L) (o : Obj) : NetIs (w.alloc o) p g R L := h.carry (Below.heap_alloc _ _ _ h.pl) (Below.heap_alloc _ _ _ h.gl)
theorem NetIs.drew {w : World} {p g : Nat} {R : Int} {L : List Lt} (h : NetIs w p g R L) : NetIs w.drew p g R L := h.carry rfl rfl
theorem NetIs.drewN {w : World} {p g : Nat} {R : Int} {L : List Lt} (h : NetIs w p g R L) (n : Nat) : NetIs (w.drewN n) p g R L := h.carry rfl rfl
theorem NetIs.len {w : World} {p g : Nat} {R : Int} {L : List Lt} (h : NetIs w p g R L) : L.length ≤ 65536 := by have := h.le; have := h.r1; omega

def roomZ (r : Int) : Int := if r < 0 then 0 else if 65536 < r then 65536 else r

abbrev ptr (p : Nat) : Value := .pointer (some ⟨p, 0, none⟩)

set_option maxHeartbeats 1000000 in
theorem new_c (r : Int) (w : World) : Calls Try.prog 11 #[.int .i64 r] w fun e w' => e = .returned (ptr w.heap.size) ∧ NetIs w' w.heap.size w.heap.size (roomZ r) [] ∧ Below w.heap.size w w' := by
  obtain ⟨R, hR, h0, h1⟩ : ∃ R, roomZ r = R ∧ 0 ≤ R ∧ R ≤ 65536 := ⟨_, rfl, by unfold roomZ; split <;> (try split) <;> omega, by unfold roomZ; split <;> (try split) <;> omega⟩
  rw [hR]
  have e : (r < 0 ∧ R = 0) ∨ (0 ≤ r ∧ r ≤ 65536 ∧ R = r) ∨ (65536 < r ∧ R = 65536) := by unfold roomZ at hR; split at hR <;> (try split at hR) <;> omega
  clear hR
  rcases e with ⟨e1, rfl⟩ | ⟨e1, e2, rfl⟩ | ⟨e1, rfl⟩
  all_goals
    go_enter Try.func11, Try.ntmps11
    go_wp2
    all_goals
      go_ret
      refine ⟨rfl, ⟨by simp, by omega, by omega, by simp; try omega, ?_, ⟨.slice none 0 0, by simp, ⟨none, 0, rfl, Nat.le_refl _, Nat.zero_le _, by simp, .inl ⟨rfl, rfl⟩⟩, fun _ => rfl⟩, by simp⟩, (Below.refl _ _).alloc (Nat.le_refl _) _⟩
      simp
      try omega

set_option maxHeartbeats 1000000 in
theorem list_c (p g : Nat) (R : Int) (L : List Lt) (w : World) (h : NetIs w p g R L) : Calls Try.prog 21 #[ptr p] w fun e w' => ∃ ao cap, e = .returned (.slice ao L.length cap) ∧ CloneP w w' ao cap L := by
  have hl := h.len
  obtain ⟨v, h1, h2, h3⟩ := h.c1
  have hv := hide h2.view
  obtain ⟨ao, cap, rfl, _⟩ := h2
  clear h3
  go_enter Try.func21, Try.ntmps21
  go_wp2_with (go_at_call 26; refine (clone_c _ g L _ (unhide hv) (by omega)).mono ?_; rintro e w' ⟨ao', cap', rfl, hc⟩; replace hc := hide hc)
  go_ret
  exact ⟨ao', cap', rfl, unhide hc⟩
set_option maxHeartbeats 2000000 in
theorem copy_c (p g : Nat) (R : Int) (L : List Lt) (w : World) (h : NetIs w p g R L) : Calls Try.prog 19 #[ptr p] w fun e w' => ∃ p' g', e = .returned (ptr p') ∧ NetIs w' p' g' R L ∧ w.heap.size ≤ p' ∧ w.heap.size ≤ g' ∧ Below w.heap.size w w' := by
  have hl := h.len
  obtain ⟨v, h1, h2, h3⟩ := h.c1
  have hv := hide h2.view
  have hpl := hide h.pl
  have hc0 := h.c0
  have hh := hide h
  obtain ⟨ao, cap, rfl, _⟩ := h2
  clear h3 h
  go_enter Try.func19, Try.ntmps19
  go_wp2_with fail
  go_region_held3 (fun w' => w'.cell? ⟨p, 0, none⟩ = some (.int .i64 R) ∧ w'.cell? ⟨p, 1, none⟩ = some (.slice ao L.length cap)) (simp [go_sem, *]) (first | (go_at_call 26; refine (clone_c _ g L w.drew ((unhide hv).carry fun _ _ => rfl) (by omega)).mono ?_; rintro e w1 ⟨ao', cap', rfl, hc⟩; have k0 : w1.cell? ⟨p, 0, none⟩ = some (.int .i64 R) := (hc.1.cell (p := ⟨p, 0, none⟩) (unhide hpl)).trans hc0; have k1 : w1.cell? ⟨p, 1, none⟩ = some (.slice ao L.length cap) := (hc.1.cell (p := ⟨p, 1, none⟩) (unhide hpl)).trans h1; have hpw : p < w1.heap.size := Nat.lt_of_lt_of_le (unhide hpl) hc.1.size; replace hc := hide hc))
  go_wp2_with fail
  go_ret
  obtain ⟨hb, hc⟩ := unhide hc
  have hs := hb.size
  simp at hs
  have hB : Below w.heap.size w w1 := ((Below.refl _ _).drew).trans hb
  have := (unhide hh).le
  have r0 := (unhide hh).r0
  have r1 := (unhide hh).r1
  rcases hc with ⟨rfl, rfl, rfl⟩ | ⟨g', hg, hown⟩
  · exact ⟨w1.heap.size, w1.heap.size, rfl, ⟨by simp, r0, r1, by simpa using r0, by simp, ⟨.slice none 0 0, by simp, ⟨none, 0, rfl, Nat.le_refl _, Nat.zero_le _, by simp, .inl ⟨rfl, rfl⟩⟩, fun _ => rfl⟩, by simp⟩, hs, hs, hB.alloc hs _⟩
  · have hgl : g' < w1.heap.size := by obtain ⟨_, _, _, _, _, h, _⟩ := hown; exact h
    exact ⟨w1.heap.size, g', rfl, ⟨by simp, r0, r1, this, by simp, ⟨_, by simp, hown.alloc _, fun e => by omega⟩, by simp⟩, hs, hg, hB.alloc hs _⟩

def okT (L : List Lt) (i : Int) : Bool := decide (0 ≤ i) && decide (i < L.length)
def okS (R : Int) (L M : List Lt) : Bool := decide ((L.length : Int) + M.length ≤ R)
def nxS (R : Int) (L M : List Lt) : List Lt := if okS R L M = true then L ++ M else L

theorem okT_t {L : List Lt} {i : Int} (h : 0 ≤ i) (h' : i < L.length) : okT L i = true := by simp [okT]; omega
theorem okT_f {L : List Lt} {i : Int} (h : i < 0 ∨ L.length ≤ i) : okT L i = false := by simp [okT]; omega

set_option maxHeartbeats 1000000 in
theorem has_c (p g : Nat) (R i : Int) (L : List Lt) (w : World) (h : NetIs w p g R L) : Calls Try.prog 23 #[ptr p, .int .i64 i] w fun e w' => e = .returned (.bool (okT L i)) ∧ w' = w := by
  have hl := h.len
  obtain ⟨v, h1, h2, h3⟩ := h.c1
  obtain ⟨ao, cap, rfl, _⟩ := h2
  clear h3 h
  obtain ⟨q, hq⟩ : ∃ q, okT L i = q := ⟨_, rfl⟩
  rw [hq]
  rcases (show (i < 0 ∧ q = false) ∨ (0 ≤ i ∧ i < L.length ∧ q = true) ∨ (0 ≤ i ∧ (L.length : Int) ≤ i ∧ q = false) by
    by_cases c1 : i < 0
    · exact .inl ⟨c1, by rw [← hq]; exact okT_f (.inl c1)⟩
    · by_cases c2 : i < L.length
      · exact .inr (.inl ⟨by omega, c2, by rw [← hq]; exact okT_t (by omega) c2⟩)
      · exact .inr (.inr ⟨by omega, by omega, by rw [← hq]; exact okT_f (.inr (by omega))⟩)) with ⟨c1, rfl⟩ | ⟨c1, c2, rfl⟩ | ⟨c1, c2, rfl⟩
  all_goals
    clear hq
    go_enter Try.func23, Try.ntmps23
    go_wp2
    all_goals (go_ret; first | exact ⟨rfl, rfl⟩ | (simp; omega))

set_option maxHeartbeats 1000000 in
theorem drops_c (l : Lt) (w : World) : Calls Try.prog 25 #[letV l] w fun e w' => e = .returned (.bool (decide (l.k = 2))) ∧ Below w.heap.size w w' := by
  unfold letV
  by_cases c : l.k = 2
  all_goals
    simp only [c]
    go_enter Try.func25, Try.ntmps25
    go_wp2
    all_goals
      go_ret
      exact ⟨by simp [c], (Below.refl _ _).alloc (Nat.le_refl _) _⟩

theorem View.lt {w : World} {v : Value} {b : Nat} {L : List Lt} (h : View w v b L) (hn : L ≠ []) : b < w.heap.size := by
  obtain ⟨_, _, _, _, _, h | ⟨_, _, h, _⟩⟩ := h
  · exact absurd h hn
  · exact h

/-- A new value of a net's letters, stored. -/
theorem net_put {w w' : World} {p g g' : Nat} {R : Int} {L L' : List Lt} {v' : Value} (h : NetIs w p g R L) (hfr : Fr g g w w') (hnil : g = p → Below w.heap.size w w') (hown : Own w' v' g' L') (hg' : g' = g ∨ w.heap.size ≤ g')
    (hk : g' = g → g = p → v' = .slice none 0 0) (hle : (L'.length : Int) ≤ R) :
    (∃ v, w'.cell? ⟨p, 1, none⟩ = some v ∧ w.cell? ⟨p, 1, none⟩ = some v) ∧ w'.frozen? ⟨p, 1, none⟩ = false ∧ NetIs (w'.setCell ⟨p, 1, none⟩ v') p g' R L' ∧ Fr p g w (w'.setCell ⟨p, 1, none⟩ v') ∧ (g' = g ∨ w.heap.size ≤ g') := by
  obtain ⟨v, h1, h2, h3⟩ := h.c1
  have hb : w'.heap[p]? = w.heap[p]? := by
    by_cases e : g = p
    · exact (hnil e).block p h.pl
    · exact hfr.block p h.pl (fun x => e x.symm) (fun x => e x.symm)
  have q0 := (World.cell?_of_block (w := w) (a := ⟨p, 0, none⟩) hb).trans h.c0
  have q1 := (World.cell?_of_block (w := w) (a := ⟨p, 1, none⟩) hb).trans h1
  have q2 := (World.frozen?_of_block (w := w) (a := ⟨p, 1, none⟩) hb).trans h.f1
  have hs := hfr.size
  have hpl := h.pl
  have hgl : g' < w'.heap.size := by obtain ⟨_, _, _, _, _, h, _⟩ := hown; exact h
  refine ⟨⟨v, q1, h1⟩, q2, ⟨by rw [World.size_setCell]; omega, h.r0, h.r1, hle, (World.cell?_setCell_other _ _ _ _ (by simp)).trans q0, ⟨v', World.cell?_setCell_same _ _ _ q1, ?_, fun e => hk (by omega) (by omega)⟩, by rw [World.frozen?_setCell]; exact q2⟩, ?_, hg'⟩
  · by_cases e : g' = p
    · have e2 := hk (by omega) (by omega)
      subst e2
      obtain ⟨ao, cap, e3, h4, h5, h6, h7⟩ := hown
      obtain ⟨rfl, _, rfl⟩ : ao = none ∧ L'.length = 0 ∧ cap = 0 := by simpa [eq_comm] using e3
      exact ⟨none, 0, e3, h4, h5, by simpa using h6, .inl ⟨rfl, rfl⟩⟩
    · exact hown.carry (Below.heap_setCell _ _ _ _ e)
  · exact ⟨hfr.os, hfr.tape, hfr.output, by simpa using hs, fun k hk h1 h2 => (Below.heap_setCell _ _ _ _ h1).trans (hfr.block k hk h2 h2)⟩

theorem net_put2 {w w' : World} {p g g' : Nat} {R : Int} {L L' : List Lt} {v' : Value} (h : NetIs w p g R L) (hb : Below w.heap.size w w') (hown : Own w' v' g' L') (hg' : w.heap.size ≤ g') (hle : (L'.length : Int) ≤ R) :
    (∃ v, w'.cell? ⟨p, 1, none⟩ = some v ∧ w.cell? ⟨p, 1, none⟩ = some v) ∧ w'.frozen? ⟨p, 1, none⟩ = false ∧ NetIs (w'.setCell ⟨p, 1, none⟩ v') p g' R L' ∧ Fr p g w (w'.setCell ⟨p, 1, none⟩ v') ∧ (g' = g ∨ w.heap.size ≤ g') :=
  net_put h (Fr.of_below hb) (fun _ => hb) hown (.inr hg') (fun e _ => by have := h.gl; omega) hle

set_option maxHeartbeats 2000000 in
theorem send_c (p g b : Nat) (R : Int) (L M : List Lt) (x : Value) (w : World) (h : NetIs w p g R L) (hx : View w x b M) : Calls Try.prog 13 #[ptr p, x] w fun e w' => e = .returned (.bool (okS R L M)) ∧ ∃ g', NetIs w' p g' R (nxS R L M) ∧ Fr p g w w' ∧ (g' = g ∨ w.heap.size ≤ g') := by
  have hl := h.len
  have hh := hide h
  have hX := hide hx
  obtain ⟨v, h1, h2, h3⟩ := h.c1
  have hv := hide h2
  have h3' := hide h3
  have hc0 := h.c0
  have r0 := h.r0
  have r1 := h.r1
  have hf := h.f1
  have hpl := hide h.pl
  obtain ⟨ao, cap, rfl, _⟩ := h2
  obtain ⟨aox, capx, rfl, hx1, hx2, _⟩ := hx
  clear h3 h
  unfold maxLen at hx2
  by_cases c : R - (L.length : Int) < (M.length : Int)
  · have e : okS R L M = false := by simp [okS]; omega
    have e2 : nxS R L M = L := by simp [nxS, e]
    rw [e, e2]
    go_enter Try.func13, Try.ntmps13
    go_wp2_with fail
    go_quiet (fail)
    go_wp2_with fail
    all_goals
      go_ret
      exact ⟨rfl, g, (unhide hh).drewN _, Fr.of_below (belowN (Below.refl _ _) _), .inl rfl⟩
  · have e : okS R L M = true := by simp [okS]; omega
    have e2 : nxS R L M = L ++ M := by simp [nxS, e]
    rw [e, e2]
    have hlm : (L.length : Int) + M.length ≤ R := by omega
    go_enter Try.func13, Try.ntmps13
    go_wp2_with fail
    go_quiet (fail)
    go_wp2_with (at_builtin; refine wpList_app rfl _ _ rfl rfl rfl ((unhide hv).carry rfl) ((unhide hX).carry fun _ _ => rfl) (by omega) (L.length + M.length) rfl ?_; intro ao' cap' w' g' hown hap; obtain ⟨⟨v1, q1, _⟩, q2, hn⟩ := net_put ((unhide hh).drewN _) hap.fr (fun e => hap.nil (unhide h3' e)) hown hap.lies (fun e e' => hap.keep e (unhide h3' e')) (by simp; omega); replace hn := hide hn; clear hown hap)
    go_ret
    obtain ⟨k1, k2, k3⟩ := unhide hn
    exact ⟨rfl, g', k1, (Fr.of_below (belowN (Below.refl _ _) _)).trans k2 (.inl rfl) (.inr (.inl rfl)), k3⟩
end Go.Proofs.Ytajcebnbmejamaa
