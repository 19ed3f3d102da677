/- The contracts of the document's answer on nets (jetonref06): Take (layer 6). -/
import Derived.Test.YtajcebnbmejamaaNetH
import Derived.Deep.CutRange
namespace Go.Proofs.Ytajcebnbmejamaa
open Go.ChangeShapes Go.WideShapes Go.ChangeAt Go.RowKit
set_option linter.unusedSimpArgs false
set_option linter.unusedVariables false

attribute [local go_sem, local simp] over_const setCell_drewN alloc_drewN Over.cell Over.frozen lt_s1 lt_s2 lt_s3 le_s0 le_s1 le_s2 le_s3 eq_s0 eq_s1 eq_s2 qe_s0

theorem view_take {w : World} {g o cap k : Nat} {L : List Lt} (hk : k ≤ L.length) (hle : L.length ≤ cap) (hmx : cap ≤ maxLen) (hg : g < w.heap.size) (hc : ∀ j, j < L.length * 11 → w.cell? ⟨g, o + j, none⟩ = (flat L)[j]?) :
    View w (.slice (some ⟨g, o, none⟩) k cap) g (L.take k) := by
  have hl : (L.take k).length = k := by rw [List.length_take]; omega
  refine ⟨_, cap, by rw [hl], by omega, hmx, .inr ⟨o, rfl, hg, fun j hj => ?_⟩⟩
  rw [hl] at hj
  rw [hc j (by omega), flat_take L k hk, List.getElem?_take, if_pos hj]

theorem view_drop {w : World} {g o cap j : Nat} {L : List Lt} (hj : j ≤ L.length) (hle : L.length ≤ cap) (hmx : cap ≤ maxLen) (hg : g < w.heap.size) (hc : ∀ j, j < L.length * 11 → w.cell? ⟨g, o + j, none⟩ = (flat L)[j]?) :
    ∃ A, (if cap = j then some (⟨g, o, none⟩ : Addr) else some ⟨g, o + j * 11, none⟩) = A ∧ View w (.slice A (L.length - j) (cap - j)) g (L.drop j) := by
  have hl : (L.drop j).length = L.length - j := by rw [List.length_drop]
  refine ⟨_, rfl, _, cap - j, by rw [hl], by omega, by omega, ?_⟩
  by_cases e : L.drop j = []
  · exact .inl e
  · have : L.length - j ≠ 0 := by intro h; rw [← hl] at h; exact e (List.eq_nil_of_length_eq_zero h)
    refine .inr ⟨o + j * 11, by rw [if_neg (by omega)], hg, fun i hi => ?_⟩
    rw [hl] at hi
    rw [Nat.add_assoc, hc _ (by omega), flat_drop L j hj, List.getElem?_drop]

theorem own_emp {V : World} {N : Nat} (h : N < V.heap.size) : Own V (.slice (some ⟨N, 0, none⟩) 0 0) N [] :=
  ⟨_, 0, rfl, Nat.le_refl _, Nat.zero_le _, h, .inr ⟨0, rfl, fun j hj => by simp at hj, fun j hj => by simp at hj⟩⟩

abbrev zObj : Obj := .cells #[.int .i64 0, .int .i64 0, .int .i64 0, .int .i64 0, .int .i64 0, .int .i64 0, .bool false, .int .i64 0, .bool false, .bool false, .int .i64 0] 37
abbrev lObj (l : Lt) : Obj := .cells #[.int .i64 l.k, .int .i64 l.a, .int .i64 l.b, .int .i64 l.q, .int .i64 l.s, .int .i64 l.w, .bool l.r, .int .i64 l.n, .bool l.o, .bool l.h, .int .i64 l.d] 37

set_option maxHeartbeats 1000000 in
theorem rtake_c (p g : Nat) (R i : Int) (L : List Lt) (w : World) (h : NetIs w p g R L) : Calls Try.prog 16 #[ptr p, .int .i64 i] w fun e w' => e = .returned (.tuple #[letV (leT L i), .bool (okT L i)]) ∧ ∃ g', NetIs w' p g' R (nxT L i) ∧ Fr p g w w' ∧ (g' = g ∨ w.heap.size ≤ g') := by
  have hl := h.len
  have hh := hide h
  have hpl := h.pl
  have hgl := h.gl
  have hle' := h.le
  by_cases c : okT L i = true
  · obtain ⟨c1, c2⟩ : 0 ≤ i ∧ i < L.length := by simpa [okT] using c
    obtain ⟨k, rfl⟩ : ∃ k : Nat, i = k := ⟨i.toNat, by omega⟩
    have hk : k < L.length := by omega
    obtain ⟨l, hlk⟩ : ∃ l, L[k] = l := ⟨_, rfl⟩
    have e1 : leT L k = l := by simp [leT, c, hk, hlk]
    obtain ⟨j, hj⟩ : ∃ j, k + 1 = j := ⟨_, rfl⟩
    have e2 : nxT L k = L.take k ++ L.drop j := by simp [nxT, c, List.eraseIdx_eq_take_drop_succ, hj]
    rw [e1, e2, c]
    obtain ⟨v, h1, h2, h3⟩ := h.c1
    have hf := h.f1
    obtain ⟨ao, cap, rfl, hlc, hmx, hg, hw⟩ := h2
    rcases hw with ⟨rfl, rfl⟩ | ⟨o, rfl, hc, hsp⟩
    · omega
    obtain ⟨d0, d1, d2, d3, d4, d5, d6, d7, d8, d9, d10⟩ := own_let rfl hc hk l hlk
    have hV1 := hide (view_take (k := k) (by omega) hlc hmx hg hc)
    obtain ⟨A, hA, hV2⟩ := view_drop (j := j) (by omega) hlc hmx hg hc
    replace hV2 := hide hV2
    have hmx' : cap ≤ 9223372036854775807 := by unfold maxLen at hmx; omega
    have n0 : ¬ cap = 0 := by omega
    have m1 : (k : Int) ≤ cap := by omega
    have m2 : (j : Int) ≤ L.length := by omega
    have hwr : IntKind.i64.wrap ((k : Int) + 1) = j := by rw [IntKind.wrap_i64]; omega
    have hl1 : Hid ((L.take k).length = k) := by rw [List.length_take]; show min k L.length = k; omega
    have hl2 : Hid ((L.drop j).length = L.length - j) := by rw [List.length_drop]; rfl
    have hJ := hide hj
    clear h hc hsp h3 e1 e2 hlk hj
    go_enter Try.func16, Try.ntmps16
    go_upto_region 4 with fail
    obtain ⟨Wt, hWt⟩ : ∃ Wt, (w.alloc zObj).alloc (lObj l) = Wt := ⟨_, rfl⟩
    rw [hWt]
    have hsz : Wt.heap.size = w.heap.size + 1 + 1 := by rw [← hWt]; simp
    have hT : NetIs Wt p g R L := by rw [← hWt]; exact ((unhide hh).alloc _).alloc _
    have hBt : Hid (Below w.heap.size w Wt) := by rw [← hWt]; exact ((Below.refl _ _).alloc (Nat.le_refl _) _).alloc (by simp) _
    have hb1 : Hid (Wt.heap[w.heap.size + 1]? = some (lObj l)) := by rw [← hWt]; exact alloc_at1 w _ _
    have hb0 : Hid (Wt.heap[w.heap.size]? = some zObj) := by rw [← hWt]; exact alloc_at10 w _ _
    have k1 : Wt.cell? ⟨p, 1, none⟩ = some (.slice (some ⟨g, o, none⟩) L.length cap) := ((unhide hBt).cell (p := ⟨p, 1, none⟩) hpl).trans h1
    have kf : Wt.frozen? ⟨p, 1, none⟩ = false := hT.f1
    replace hT := hide hT
    replace hV1 : Hid (View Wt (.slice (some ⟨g, o, none⟩) k cap) g (L.take k)) := (unhide hV1).below (unhide hBt)
    replace hV2 : Hid (View Wt (.slice A (L.length - j) (cap - j)) g (L.drop j)) := (unhide hV2).below (unhide hBt)
    clear hWt h1 hf d0 d1 d2 d3 d4 d5 d6 d7 d8 d9 d10
    go_cut [] from 7 to 45 (fun wc => ∃ g2, NetIs wc p g2 R (L.take k ++ L.drop j) ∧ w.heap.size + 1 + 1 ≤ g2 ∧ Fr p g Wt wc ∧ wc.heap[w.heap.size + 1]? = some (lObj l) ∧ wc.heap[w.heap.size]? = some zObj)
    case first =>
     go_region_law (first
      | (refine step_app rfl (.tmp 27) (.tmp 33) rfl (by first | (simp [Act.eval, Act.put]; done) | (simp [Act.eval, Act.put]; rfl)) (by first | (simp [Act.eval, Act.put]; done) | (simp [Act.eval, Act.put]; rfl)) (own_emp (N := w.heap.size + 1 + 1) (by simp [hsz])) (View.carry (unhide hV1) (fun _ hq => by first | exact Below.heap_alloc _ _ _ hq | rfl)) (by rw [hl1.out]; simp; omega) k (by rw [hl1.out]; simp) ?_; intro ao1 cap1 w1 g1 hown1 hap1; have hB1 : Below (w.heap.size + 1 + 1) Wt w1 := Below.trans (by repeat' first | with_reducible exact Below.refl _ _ | with_reducible refine Below.drew ?_ | with_reducible refine Below.alloc ?_ ?_ _ | (simp [hsz]; done)) (hap1.fr.below (Nat.le_refl _) (Nat.le_refl _) (by simp [hsz])); have q1 : w1.cell? ⟨p, 1, none⟩ = some (.slice (some ⟨g, o, none⟩) L.length cap) := (hB1.cell (p := ⟨p, 1, none⟩) (by simp; omega)).trans k1; have hg1 : w.heap.size + 1 + 1 ≤ g1 := (by have := hap1.lies; simp [hsz] at this; omega); clear hap1; replace hown1 := hide hown1; replace hB1 := hide hB1)
      | (refine step_app rfl (.tmp 34) (.tmp 41) rfl (by first | (simp [Act.eval, Act.put]; done) | (simp [Act.eval, Act.put]; rfl)) (by first | (simp [Act.eval, Act.put, hA]; done) | (simp [Act.eval, Act.put, hA]; rfl)) (unhide hown1) ((unhide hV2).below ((unhide hB1).mono (by omega))) (by rw [List.nil_append, hl1.out, hl2.out]; omega) (L.length - 1) (by have := hJ.out; rw [List.nil_append, hl1.out, hl2.out]; omega) ?_; intro ao2 cap2 w2 g2 hown2 hap2; have hB2 : Below (w.heap.size + 1 + 1) Wt w2 := (unhide hB1).trans (hap2.fr.below hg1 hg1 (by have := (unhide hB1).size; omega)); obtain ⟨⟨v1, q5, _⟩, q6, hn⟩ := net_put2 (unhide hT) (hB2.mono (by omega)) hown2 (by have := hap2.lies; have := (unhide hB1).size; omega) (by have := hJ.out; rw [List.nil_append, List.length_append, hl1.out, hl2.out]; omega); have hg2 : w.heap.size + 1 + 1 ≤ g2 := (by have := hap2.lies; have := (unhide hB1).size; omega); replace hn := hide hn; replace hB2 := hide hB2; clear hown2 hap2))
     all_goals
       go_wp2_with fail
       go_meet
       obtain ⟨n1, n2, n3⟩ := unhide hn
       refine ⟨g2, n1, by omega, n2, ?_, ?_⟩
       · exact ((Below.heap_setCell _ _ _ _ (by dsimp only; omega)).trans ((unhide hB2).block _ (by omega))).trans (unhide hb1)
       · exact ((Below.heap_setCell _ _ _ _ (by dsimp only; omega)).trans ((unhide hB2).block _ (by omega))).trans (unhide hb0)
    case rest =>
     obtain ⟨g2, n1, n2, n3, n4, n5⟩ := hcut
     obtain ⟨b0, b1, b2, b3, b4, b5, b6, b7, b8, b9, b10, bf⟩ := box_let (w := wc) (b := w.heap.size + 1) l n4
     obtain ⟨z0, z1, z2, z3, z4, z5, z6, z7, z8, z9, z10, zf⟩ := box_zero (w := wc) (b := w.heap.size) n5
     replace n1 := hide n1
     replace n3 := hide n3
     clear n4 n5
     go_wp2_with fail
     refine bodyPost_ret (by simp [letV, results, Try.results16, go_sem, *]; done) rfl ⟨rfl, g2, ?_, ?_, .inr (by omega)⟩
     · repeat' first | with_reducible exact unhide n1 | with_reducible refine NetIs.setCell ?_ ?_ ?_ _ | (dsimp only; omega)
     · have F : Fr p g w wc := (Fr.of_below (unhide hBt)).trans (unhide n3) (.inl rfl) (.inr (.inl rfl))
       repeat' first | with_reducible exact F | with_reducible refine Fr.setCell ?_ ?_ _ | (right; right; dsimp only; omega)
  · replace c : okT L i = false := by simpa using c
    have e1 : leT L i = zeroL := by simp [leT, c]
    have e2 : nxT L i = L := by simp [nxT, c]
    rw [e1, e2, c]
    have c' : i < 0 ∨ (0 ≤ i ∧ (L.length : Int) ≤ i) := by simp [okT] at c; omega
    obtain ⟨v, h1, h2, h3⟩ := h.c1
    obtain ⟨ao, cap, rfl, hlc, hmx, hg, hw⟩ := h2
    clear h h3 hw
    rcases c' with c' | ⟨c', c''⟩
    all_goals
      go_enter Try.func16, Try.ntmps16
      go_wp2_with fail
      refine bodyPost_ret (by simp [letV, zeroL, results, Try.results16, go_sem, *]; done) rfl ⟨rfl, g, ?_, ?_, .inl rfl⟩
      · repeat' first | with_reducible exact (unhide hh).alloc _ | with_reducible refine NetIs.setCell ?_ ?_ ?_ _ | (dsimp only; omega)
      · repeat' first | with_reducible exact (Fr.refl _ _ _).alloc _ | with_reducible refine Fr.setCell ?_ ?_ _ | (right; right; dsimp only; omega)
end Go.Proofs.Ytajcebnbmejamaa
