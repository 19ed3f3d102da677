/- The contracts of the document's Deactivate, Activate (layer 11). -/
import Derived.Test.YtgaabbnfjapcjaaRtB
namespace Go.Proofs.Ytgaabbnfjapcjaa
open Go.ChangeShapes Go.WideShapes Go.ChangeAt Go.RowKit
set_option linter.unusedSimpArgs false
set_option linter.unusedVariables false
set_option maxRecDepth 10000

attribute [local go_sem, local simp] over_const setCell_drewN alloc_drewN Over.cell Over.frozen lt_s1 lt_s2 lt_s3 le_s0 le_s1 le_s2 le_s3 eq_s0 eq_s1 eq_s2 qe_s0

theorem belA1 (w : World) (o : Obj) : Below w.heap.size w (w.alloc o) := (Below.refl _ _).alloc (Nat.le_refl _) _

/-- A new list of requests, stored. -/
theorem RtIs.put0 {w w1 : World} {p g1 g2 g' : Nat} {On On' Off : List At} {ao : Option Addr} {cap : Nat} (h : RtIs w p g1 g2 On Off) (hb : Below w.heap.size w w1) (hown : OwnA w1 (.slice ao On'.length cap) g' On') (hg : w.heap.size ≤ g') :
    (∃ v, w1.cell? ⟨p, 0, none⟩ = some v) ∧ w1.frozen? ⟨p, 0, none⟩ = false ∧ RtIs (w1.setCell ⟨p, 0, none⟩ (.slice ao On'.length cap)) p g' g2 On' Off ∧ FrS (· = p) w (w1.setCell ⟨p, 0, none⟩ (.slice ao On'.length cap)) := by
  have h1 := h.below hb
  have hpl := h.lt
  obtain ⟨a1, c1, q1, v1⟩ := h1.c0
  obtain ⟨a2, c2, q2, v2⟩ := h1.c1
  have hs : FrS (· = p) w1 (w1.setCell ⟨p, 0, none⟩ (.slice ao On'.length cap)) := (FrS.refl (· = p) w1).setCell (q := ⟨p, 0, none⟩) (.inl rfl) _
  refine ⟨⟨_, q1⟩, h1.f0, ⟨by rw [World.size_setCell]; exact h1.lt, ⟨ao, cap, World.cell?_setCell_same _ _ _ q1, (hown.fr hs (by omega)).view⟩, ⟨a2, c2, (World.cell?_setCell_other _ _ _ _ (by simp)).trans q2, v2.fr hs (fun hn => h.n2 hn)⟩, by rw [World.frozen?_setCell]; exact h1.f0, by rw [World.frozen?_setCell]; exact h1.f1, fun _ => by omega, h.n2⟩, (FrS.of_below hb).trans hs (fun _ e => .inl e)⟩

/-- A new list of ends, stored. -/
theorem RtIs.put1 {w w1 : World} {p g1 g2 g' : Nat} {On Off' Off : List At} {ao : Option Addr} {cap : Nat} (h : RtIs w p g1 g2 On Off) (hb : Below w.heap.size w w1) (hown : OwnA w1 (.slice ao Off'.length cap) g' Off') (hg : w.heap.size ≤ g') :
    (∃ v, w1.cell? ⟨p, 1, none⟩ = some v) ∧ w1.frozen? ⟨p, 1, none⟩ = false ∧ RtIs (w1.setCell ⟨p, 1, none⟩ (.slice ao Off'.length cap)) p g1 g' On Off' ∧ FrS (· = p) w (w1.setCell ⟨p, 1, none⟩ (.slice ao Off'.length cap)) := by
  have h1 := h.below hb
  have hpl := h.lt
  obtain ⟨a1, c1, q1, v1⟩ := h1.c0
  obtain ⟨a2, c2, q2, v2⟩ := h1.c1
  have hs : FrS (· = p) w1 (w1.setCell ⟨p, 1, none⟩ (.slice ao Off'.length cap)) := (FrS.refl (· = p) w1).setCell (q := ⟨p, 1, none⟩) (.inl rfl) _
  refine ⟨⟨_, q2⟩, h1.f1, ⟨by rw [World.size_setCell]; exact h1.lt, ⟨a1, c1, (World.cell?_setCell_other _ _ _ _ (by simp)).trans q1, v1.fr hs (fun hn => h.n1 hn)⟩, ⟨ao, cap, World.cell?_setCell_same _ _ _ q2, (hown.fr hs (by omega)).view⟩, by rw [World.frozen?_setCell]; exact h1.f0, by rw [World.frozen?_setCell]; exact h1.f1, h.n1, fun _ => by omega⟩, (FrS.of_below hb).trans hs (fun _ e => .inl e)⟩

set_option maxHeartbeats 2000000 in
theorem rDeactivate_c (p g1 g2 : Nat) (On Off : List At) (b s : Int) (w : World) (h : RtIs w p g1 g2 On Off) (hl : Off.length ≤ 1000) : Calls Try.prog 13 #[ptr p, .int .i64 b, .int .i64 s] w fun e w' => e = .returned (.tuple #[]) ∧ ∃ g', RtIs w' p g1 g' On (Off ++ [⟨b, 0, s⟩]) ∧ (Off ++ [(⟨b, 0, s⟩ : At)] ≠ [] → w.heap.size ≤ g') ∧ FrS (· = p) w w' := by
  have hpl := h.lt
  have hH := hide h
  obtain ⟨ao, cap, q0, hV⟩ := h.c1
  replace hV := hide hV
  obtain ⟨n, hn⟩ : ∃ n, Hid (Off.length = n) := ⟨_, rfl⟩
  have hn' : n ≤ 1000 := by have := hn.out; omega
  rw [hn.out] at q0 hV
  have l1 : Hid (([] : List At).length + Off.length ≤ 1000000) := hide (by simp; omega)
  have l2 : Hid (([] : List At).length + Off.length = n) := hide (by simpa using hn.out)
  have l3 : Hid (Off.length + [(⟨b, 0, s⟩ : At)].length ≤ 1000000) := hide (by simp; omega)
  have l4 : Hid (Off.length + [(⟨b, 0, s⟩ : At)].length = n + 1) := hide (by simpa using hn.out)
  have l5 : Hid ((Off ++ [(⟨b, 0, s⟩ : At)]).length = n + 1) := hide (by simpa using hn.out)
  clear h hl
  have tok1 : True := trivial
  go_enter Try.func13, Try.ntmps13
  go_wp2_with (first | (at_builtin; have _t := tok1; refine wpList_appA rfl _ _ rfl rfl rfl (own_emptyA _ _) (hV.out.alloc _) l1.out n l2.out ?_; intro ao2 cap2 w2 g2' hown2 hap2; clear tok1; have hb2 : Below w.heap.size w w2 := ((belA1 w _).trans (hap2.fr.below (fun i hi => by rw [hi]; exact Nat.le_refl _) (by simp))); have hg2 : w.heap.size ≤ g2' := (by have := hap2.lies; simp at this; omega); rw [List.nil_append] at hown2; replace hown2 := hide hown2; clear hap2; replace hb2 := hide hb2) | (at_builtin; refine wpList_appA rfl _ _ rfl rfl rfl (hown2.out.alloc _) (view_oneA w2 ⟨b, 0, s⟩) l3.out (n + 1) l4.out ?_; intro ao3 cap3 w3 g3 hown3 hap3; have hB3 := (hb2.out.trans (((belA1 w2 _).mono hb2.out.size).trans (hap3.fr.below (fun i hi => by rw [hi]; exact hg2) (by have := hb2.out.size; simp; omega)))); have hg3 : w.heap.size ≤ g3 := (by have h9 := hap3.lies; have h8 := hb2.out.size; simp only [World.size_alloc] at h9; omega); rw [← l5.out] at hown3; obtain ⟨⟨vo, q1⟩, q2, hfin⟩ := hH.out.put1 hB3 hown3 hg3; rw [l5.out] at hfin; replace hfin := hide hfin; clear hown3 hap3 hB3))
  refine bodyPost_end (v := .tuple #[]) (by simp [results, Try.results13]) rfl ⟨rfl, g3, hfin.out.1, fun _ => hg3, hfin.out.2⟩
end Go.Proofs.Ytgaabbnfjapcjaa
