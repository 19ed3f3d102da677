/- The contract of package cache's place (layer 9). -/
import Derived.Test.YtooopcadefpncaaCacB
namespace Go.Proofs.Ytooopcadefpncaa
open Go.ChangeShapes Go.WideShapes Go.ChangeAt Go.RowKit
set_option linter.unusedSimpArgs false
set_option linter.unusedVariables false
set_option maxRecDepth 10000

attribute [local go_sem, local simp] over_const setCell_drewN alloc_drewN Over.cell Over.frozen lt_s1 lt_s2 lt_s3 le_s0 le_s1 le_s2 le_s3 eq_s0 eq_s1 eq_s2 qe_s0

set_option maxHeartbeats 2000000 in
theorem place_c (p t : Nat) (Ft : Nat → Prop) (S W x q : Int) (C : Ca) (b : Bun) (w : World) (h : HdIs w p t Ft S W C.A C.A C.T) (hx : I64 x) (hxA : x ∉ C.A) (hb : ¬ b.n < 1) (r : Ln) (ok : Bool) (C' : Ca) (hg : Hid (goAb S W C x b q = (r, ok))) (hC : Hid (nxAb S W C x b q = C')) :
    Calls Try.prog 33 #[.agg #[ptr p, .map (some t)], .int .i64 x, .agg #[.int .i64 b.n, .bool b.o, .bool b.h, .int .i64 b.d], .int .i64 q] w fun e w' => e = .returned (.tuple #[.agg #[.int .i64 r.b, .int .i64 r.t.n, .bool r.t.o, .bool r.t.h, .int .i64 r.t.d], .bool ok]) ∧ ∃ Ft', HdIs w' p t Ft' S W C'.A C'.A C'.T ∧ Step Ft Ft' w w' := by
  have hH := hide h
  have hI := h.inv
  have hlt : ∀ b, Ft b → b < w.heap.size := h.lt
  obtain ⟨Fl, hl, hFl, hnt⟩ := h.ln
  obtain ⟨D, hD⟩ := h.tk
  have htl := h.lt t h.ft
  replace hl := hide hl
  have hg1 := hg.out
  have hC1 := hC.out
  clear hg hC h
  obtain ⟨⟨v, may⟩, hv⟩ : ∃ z, Hid (vicA S W C.A x q = z) := ⟨_, rfl⟩
  rcases vic_cases hI hxA hv.out with ⟨rfl, rfl, _⟩ | ⟨rfl, rfl, h2⟩ | ⟨rfl, h2, h3, h4, h5⟩
  · simp [goAb, hb, hxA, hv.out] at hg1
    simp [nxAb, hb, hxA, hv.out] at hC1
    obtain ⟨rfl, rfl⟩ := hg1
    subst hC1
    clear hb hxA
    go_enter Try.func33, Try.ntmps33
    go_wp2_with (go_at_call 55; refine (victim_c p Fl S W x q C.A _ ((((unhide hl).alloc _).alloc _).alloc _)).mono ?_; rw [hv.out]; rintro e w' ⟨rfl, n, rfl⟩)
    go_returns
    refine ⟨rfl, (unhide hH).quiet ?_⟩
    repeat' first | with_reducible exact Below.refl _ _ | with_reducible refine Below.setCell ?_ ?_ _ | with_reducible refine Below.alloc ?_ ?_ _ | with_reducible refine Below.drew ?_ | with_reducible refine belowN ?_ _ | with_reducible refine Over.go _ ?_ ?_ | with_reducible exact Nat.le_refl _ | with_reducible refine Over.sz _ _ ?_ | with_reducible refine le_alloc ?_ | with_reducible refine le_setCell ?_ | with_reducible refine le_drewN ?_ | with_reducible refine le_drew ?_ | omega | (dsimp only; omega)
  · simp [goAb, hb, hxA, hv.out] at hg1
    simp [nxAb, hb, hxA, hv.out] at hC1
    obtain ⟨rfl, rfl⟩ := hg1
    subst hC1
    clear hb hxA
    replace h2 := hide h2
    go_enter Try.func33, Try.ntmps33
    go_wp2_with (go_at_call 55; refine (victim_c p Fl S W x q C.A _ ((((unhide hl).alloc _).alloc _).alloc _)).mono ?_; rw [hv.out]; rintro e w' ⟨rfl, n, rfl⟩)
    go_at_call 56
    refine (enter_c p t Ft S W x C.A C.T b _ ((unhide hH).below (by repeat' first | with_reducible exact Below.refl _ _ | with_reducible refine Below.setCell ?_ ?_ _ | with_reducible refine Below.alloc ?_ ?_ _ | with_reducible refine Below.drew ?_ | with_reducible refine belowN ?_ _ | with_reducible refine Over.go _ ?_ ?_ | with_reducible exact Nat.le_refl _ | with_reducible refine Over.sz _ _ ?_ | with_reducible refine le_alloc ?_ | with_reducible refine le_setCell ?_ | with_reducible refine le_drewN ?_ | with_reducible refine le_drew ?_ | omega | (dsimp only; omega))) hx (unhide h2)).mono ?_
    rintro e w2 ⟨rfl, Ft2, hn2, hs2⟩
    obtain ⟨k1, k2, k3⟩ := hs2.keep (b := w.heap.size + 1 + 1) (fun e => by have := hlt _ e; omega) (by first | (simp; done) | (simp; omega))
    have y : LnAt w2 (w.heap.size + 1 + 1) ln0 := ⟨k3, keep_cell k1 (by simp [go_sem]), keep_cell k1 (by simp [go_sem]), keep_cell k1 (by simp [go_sem]), keep_cell k1 (by simp [go_sem]), keep_cell k1 (by simp [go_sem]), keep_frozen k1 (by simp [go_sem]), keep_frozen k1 (by simp [go_sem]), keep_frozen k1 (by simp [go_sem]), keep_frozen k1 (by simp [go_sem]), keep_frozen k1 (by simp [go_sem])⟩
    have hfin : Hid (HdIs w2 p t Ft2 S W (C.A ++ [x]) (C.A ++ [x]) (updT C.T x b) ∧ Step Ft Ft2 w w2 ∧ ¬ Ft2 (w.heap.size + 1 + 1)) := ⟨hn2, (Step.of_below (by repeat' first | with_reducible exact Below.refl _ _ | with_reducible refine Below.setCell ?_ ?_ _ | with_reducible refine Below.alloc ?_ ?_ _ | with_reducible refine Below.drew ?_ | with_reducible refine belowN ?_ _ | with_reducible refine Over.go _ ?_ ?_ | with_reducible exact Nat.le_refl _ | with_reducible refine Over.sz _ _ ?_ | with_reducible refine le_alloc ?_ | with_reducible refine le_setCell ?_ | with_reducible refine le_drewN ?_ | with_reducible refine le_drew ?_ | omega | (dsimp only; omega))).trans hs2, k2⟩
    obtain ⟨y5, y0, y1, y2, y3, y4, z0, z1, z2, z3, z4⟩ := y
    clear hn2 hs2 k1 k2 k3
    go_wp2_with fail
    refine bodyPost_ret (by simp [results, Try.results33, go_sem, *]; done) rfl ⟨rfl, ?_⟩
    refine HdIs.fin (unhide hfin) (by omega) ?_
    repeat' first | with_reducible exact FrS.refl _ _ | refine FrS.wr ?_ _
  · have hvlt : ¬ v < 0 := by omega
    simp [goAb, hb, hxA, hv.out, hvlt] at hg1
    simp [nxAb, hb, hxA, hv.out, hvlt] at hC1
    obtain ⟨rfl, rfl⟩ := hg1
    subst hC1
    have hv64 : I64 v := by have := hI.pos v h3; unfold I64; omega
    clear hb hxA
    have hlk := hide (hD.look hv64)
    replace h5 := hide h5
    clear hD h3 h4
    obtain ⟨z, hz⟩ : ∃ z, Hid (C.T v = z) := ⟨_, rfl⟩
    rw [hz.out] at hlk ⊢
    go_enter Try.func33, Try.ntmps33
    go_wp2_with (first | (go_at_call 55; refine (victim_c p Fl S W x q C.A _ ((((unhide hl).alloc _).alloc _).alloc _)).mono ?_; rw [hv.out]; rintro e w' ⟨rfl, n, rfl⟩) | (at_lookup; refine wpList_look rfl (.tmp 35) (.tmp 36) rfl rfl rfl (unhide hlk _ ((Below.block (B := w.heap.size) (by repeat' first | with_reducible exact Below.refl _ _ | with_reducible refine Below.setCell ?_ ?_ _ | with_reducible refine Below.alloc ?_ ?_ _ | with_reducible refine Below.drew ?_ | with_reducible refine belowN ?_ _ | with_reducible refine Over.go _ ?_ ?_ | with_reducible exact Nat.le_refl _ | with_reducible refine Over.sz _ _ ?_ | with_reducible refine le_alloc ?_ | with_reducible refine le_setCell ?_ | with_reducible refine le_drewN ?_ | with_reducible refine le_drew ?_ | omega | (dsimp only; omega)) t htl))) ?_))
    go_at_call 41
    refine (leave_c p t Ft S W v C.A C.T _ ((unhide hH).below (by repeat' first | with_reducible exact Below.refl _ _ | with_reducible refine Below.setCell ?_ ?_ _ | with_reducible refine Below.alloc ?_ ?_ _ | with_reducible refine Below.drew ?_ | with_reducible refine belowN ?_ _ | with_reducible refine Over.go _ ?_ ?_ | with_reducible exact Nat.le_refl _ | with_reducible refine Over.sz _ _ ?_ | with_reducible refine le_alloc ?_ | with_reducible refine le_setCell ?_ | with_reducible refine le_drewN ?_ | with_reducible refine le_drew ?_ | omega | (dsimp only; omega))) hv64).mono ?_
    rintro e w2 ⟨rfl, Ft2, hn2, hs2⟩
    obtain ⟨k1, k2, k3⟩ := hs2.keep (b := w.heap.size) (fun e => by have := hlt _ e; omega) (by first | (simp; done) | (simp; omega))
    obtain ⟨a1, a2, a3⟩ := hs2.keep (b := w.heap.size + 1) (fun e => by have := hlt _ e; omega) (by first | (simp; done) | (simp; omega))
    obtain ⟨b1, b2, b3⟩ := hs2.keep (b := w.heap.size + 1 + 1) (fun e => by have := hlt _ e; omega) (by first | (simp; done) | (simp; omega))
    obtain ⟨c1, c2, c3⟩ := hs2.keep (b := w.heap.size + 1 + 1 + 1) (fun e => by have := hlt _ e; omega) (by first | (simp; done) | (simp; omega))
    have q0 : w2.cell? ⟨w.heap.size, 0, none⟩ = some (ptr p) := keep_cell k1 (by simp [go_sem])
    have q1 : w2.cell? ⟨w.heap.size, 1, none⟩ = some (.map (some t)) := keep_cell k1 (by simp [go_sem])
    have u0 : w2.cell? ⟨w.heap.size + 1, 0, none⟩ = some (.int .i64 b.n) := keep_cell a1 (by simp [go_sem])
    have u1 : w2.cell? ⟨w.heap.size + 1, 1, none⟩ = some (.bool b.o) := keep_cell a1 (by simp [go_sem])
    have u2 : w2.cell? ⟨w.heap.size + 1, 2, none⟩ = some (.bool b.h) := keep_cell a1 (by simp [go_sem])
    have u3 : w2.cell? ⟨w.heap.size + 1, 3, none⟩ = some (.int .i64 b.d) := keep_cell a1 (by simp [go_sem])
    have y : Hid (LnAt w2 (w.heap.size + 1 + 1) ln0) := ⟨b3, keep_cell b1 (by simp [go_sem]), keep_cell b1 (by simp [go_sem]), keep_cell b1 (by simp [go_sem]), keep_cell b1 (by simp [go_sem]), keep_cell b1 (by simp [go_sem]), keep_frozen b1 (by simp [go_sem]), keep_frozen b1 (by simp [go_sem]), keep_frozen b1 (by simp [go_sem]), keep_frozen b1 (by simp [go_sem]), keep_frozen b1 (by simp [go_sem])⟩
    have y' : Hid (LnAt w2 (w.heap.size + 1 + 1 + 1) ⟨v, z⟩) := ⟨c3, keep_cell c1 (by simp [go_sem]), keep_cell c1 (by simp [go_sem]), keep_cell c1 (by simp [go_sem]), keep_cell c1 (by simp [go_sem]), keep_cell c1 (by simp [go_sem]), keep_frozen c1 (by simp [go_sem]), keep_frozen c1 (by simp [go_sem]), keep_frozen c1 (by simp [go_sem]), keep_frozen c1 (by simp [go_sem]), keep_frozen c1 (by simp [go_sem])⟩
    have hfin : Hid (HdIs w2 p t Ft2 S W (C.A.erase v) (C.A.erase v) (updT C.T v bun0) ∧ Step Ft Ft2 w w2 ∧ ¬ Ft2 (w.heap.size + 1 + 1) ∧ ¬ Ft2 (w.heap.size + 1 + 1 + 1)) := ⟨hn2, (Step.of_below (by repeat' first | with_reducible exact Below.refl _ _ | with_reducible refine Below.setCell ?_ ?_ _ | with_reducible refine Below.alloc ?_ ?_ _ | with_reducible refine Below.drew ?_ | with_reducible refine belowN ?_ _ | with_reducible refine Over.go _ ?_ ?_ | with_reducible exact Nat.le_refl _ | with_reducible refine Over.sz _ _ ?_ | with_reducible refine le_alloc ?_ | with_reducible refine le_setCell ?_ | with_reducible refine le_drewN ?_ | with_reducible refine le_drew ?_ | omega | (dsimp only; omega))).trans hs2, b2, c2⟩
    clear hn2 hs2 k1 k2 k3 a1 a2 a3 b1 b2 b3 c1 c2 c3
    go_wp2_with fail
    go_at_call 56
    refine (enter_c p t Ft2 S W x (C.A.erase v) (updT C.T v bun0) b w2 (unhide hfin).1 hx (unhide h5)).mono ?_
    rintro e w3 ⟨rfl, Ft3, hn3, hs3⟩
    obtain ⟨b1, b2, b3⟩ := hs3.keep (b := w.heap.size + 1 + 1) (unhide hfin).2.2.1 (unhide y).lt
    obtain ⟨c1, c2, c3⟩ := hs3.keep (b := w.heap.size + 1 + 1 + 1) (unhide hfin).2.2.2 (unhide y').lt
    obtain ⟨y5, y0, y1, y2, y3, y4, z0, z1, z2, z3, z4⟩ := (unhide y).carry b1
    obtain ⟨-, v0, v1, v2, v3, v4, -⟩ := (unhide y').carry c1
    have hfin3 : Hid (HdIs w3 p t Ft3 S W (C.A.erase v ++ [x]) (C.A.erase v ++ [x]) (updT (updT C.T v bun0) x b) ∧ Step Ft Ft3 w w3 ∧ ¬ Ft3 (w.heap.size + 1 + 1)) := ⟨hn3, (unhide hfin).2.1.trans hs3, b2⟩
    clear hn3 hs3 hfin y y' q0 q1 u0 u1 u2 u3 b1 b2 b3 c1 c2 c3
    go_wp2_with fail
    refine bodyPost_ret (by simp [results, Try.results33, go_sem, *]; done) rfl ⟨rfl, ?_⟩
    refine HdIs.fin (unhide hfin3) (by omega) ?_
    repeat' first | with_reducible exact FrS.refl _ _ | refine FrS.wr ?_ _
end Go.Proofs.Ytooopcadefpncaa
