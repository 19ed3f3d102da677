/- The contracts of package net's remove, Take, Drop (layer 6). -/
import Derived.Test.YtajcebnbmejamaaNetD
namespace Go.Proofs.Ytajcebnbmejamaa
open Go.ChangeShapes Go.WideShapes Go.ChangeAt Go.RowKit
set_option linter.unusedSimpArgs false
set_option linter.unusedVariables false

attribute [local go_sem, local simp] over_const setCell_drewN alloc_drewN Over.cell Over.frozen lt_s1 lt_s2 lt_s3 le_s0 le_s1 le_s2 le_s3 eq_s0 eq_s1 eq_s2 qe_s0

theorem len_erase {L : List Lt} {k : Nat} (hk : k < L.length) : (L.eraseIdx k).length = L.length - 1 := by rw [List.length_eraseIdx]; simp [hk]

set_option maxHeartbeats 4000000 in
theorem remove_c (p g k : Nat) (R : Int) (L : List Lt) (w : World) (h : NetIs w p g R L) (hk : k < L.length) : Calls Try.prog 24 #[ptr p, .int .i64 k] w fun e w' => e = .returned (.tuple #[]) ∧ NetIs w' p g R (L.eraseIdx k) ∧ Fr p g w w' := by
  have hl := h.len
  have hh := hide h
  have hle := h.le
  obtain ⟨v, h1, h2, h3⟩ := h.c1
  have hv := hide h2
  have h3' := hide h3
  have hpl := hide h.pl
  obtain ⟨ao, cap, rfl, hlc, hmx, hg, hw⟩ := h2
  have hel := len_erase hk
  rcases hw with ⟨rfl, rfl⟩ | ⟨o, rfl, hc, hsp⟩
  · omega
  have hgp : g ≠ p := by intro e; have := h3 e; cases this
  clear h3 h
  have hmx' : cap ≤ 9223372036854775807 := by unfold maxLen at hmx; omega
  by_cases c : (k : Int) < (L.length : Int) / 2
  · have hk2 : k < L.length / 2 := by omega
    have hOwn := hide (own_front (w := w.drew) hk hlc hmx hg hc hsp)
    have hput := hide (net_put (w := w.drew) (unhide hh).drew (setCells_fr g (flat (L.take k)) (o + 11) w.drew) (fun e => absurd e hgp) (unhide hOwn) (.inl rfl) (fun _ e => absurd e hgp) (by rw [hel]; omega))
    have n1 : ¬ cap = 1 := by omega
    have n0 : ¬ cap = 0 := by omega
    have m1 : (1 : Int) ≤ L.length := by omega
    have m2 : (k : Int) ≤ cap := by omega
    obtain ⟨news, hnews⟩ : ∃ news, flat (L.take k) = news := ⟨_, rfl⟩
    have hln : Hid (news.length = Nat.min k (L.length - 1) * 11) := by rw [← hnews, flat_length, List.length_take, show Nat.min k (L.length - 1) = k from Nat.min_eq_left (by omega), Nat.min_eq_left (by omega)]; rfl
    have hs1 : Hid (∀ j u, news[j]? = some u → w.drew.cell? ((⟨g, o, none⟩ : Addr).add j) = some u) := by
      intro j u hu
      rw [← hnews, flat_take L k (by omega)] at hu
      have hj := (List.getElem?_eq_some_iff.1 hu).1
      rw [List.length_take] at hj
      rw [List.getElem?_take, if_pos (by omega)] at hu
      rw [Addr.add_lit]
      exact (hc j (by omega)).trans hu
    have hs2 : Hid (∀ j, j < news.length → (w.drew.cell? ⟨g, o + 11 + j, none⟩).isSome = true ∧ w.drew.frozen? ⟨g, o + 11 + j, none⟩ = false) := by
      intro j hj
      rw [unhide hln, show Nat.min k (L.length - 1) = k from Nat.min_eq_left (by omega)] at hj
      rw [Nat.add_assoc]
      exact hsp _ (by omega)
    have hs3 : Hid (∀ u ∈ news, u.oneCell' = true) := by rw [← hnews]; exact flat_one _
    rw [hnews] at hput
    obtain ⟨W1, hW⟩ : ∃ W1, Hid (W1 = w.drew.setCells g (o + 11) news) := ⟨_, rfl⟩
    rw [← hW.out] at hput
    obtain ⟨⟨v1, q1, q0⟩, q2, q3, q4, _⟩ := unhide hput
    obtain rfl : v1 = .slice (some ⟨g, o, none⟩) L.length cap := Option.some.inj (q0.symm.trans h1)
    have q3 := hide q3
    have q4 := hide q4
    clear hc hsp hOwn hput hnews q0
    go_enter Try.func24, Try.ntmps24
    go_wp2_with fail
    go_region_law (refine step_cpy rfl (.tmp 16) (.tmp 22) rfl (by simp [Act.eval, Act.put]; rfl) (by simp [Act.eval, Act.put]; rfl) news hln.out hs1.out hs2.out hs3.out ?_; rw [← hW.out])
    all_goals go_wp2_with fail
    all_goals go_returns
    all_goals exact ⟨rfl, unhide q3, (Fr.of_below ((Below.refl _ _).drew)).trans (unhide q4) (.inl rfl) (.inr (.inl rfl))⟩
  · have hdel := hide (delete_c g o cap k (k + 1) L w rfl hk hlc hmx hl hg hc hsp)
    clear hc hsp
    go_enter Try.func24, Try.ntmps24
    go_wp2_with (go_at_call 27; refine (unhide hdel).mono ?_; rintro e w1 ⟨rfl, hown, hfr⟩; obtain ⟨⟨v1, q1, q0⟩, q2, q3, q4, _⟩ := net_put (unhide hh) hfr (fun e => absurd e hgp) hown (.inl rfl) (fun _ e => absurd e hgp) (by rw [hel]; omega); replace q3 := hide q3; replace q4 := hide q4; clear q0 hown hfr)
    go_returns
    exact ⟨rfl, unhide q3, unhide q4⟩

def leT (L : List Lt) (i : Int) : Lt := if okT L i = true then L.getD i.toNat zeroL else zeroL
def nxT (L : List Lt) (i : Int) : List Lt := if okT L i = true then L.eraseIdx i.toNat else L
def okD (L : List Lt) (i : Int) : Bool := okT L i && decide ((leT L i).k = 2)
def nxD (L : List Lt) (i : Int) : List Lt := if okD L i = true then L.eraseIdx i.toNat else L

/-- A letter's cells, as they lie. -/
theorem own_let {w : World} {g o n : Nat} {L : List Lt} (hn : n = L.length * 11) (hc : ∀ j, j < n → w.cell? ⟨g, o + j, none⟩ = (flat L)[j]?) {k : Nat} (hk : k < L.length) (l : Lt) (hl : L[k] = l) :
    w.cell? ⟨g, o + k * 11, none⟩ = some (.int .i64 l.k) ∧ w.cell? ⟨g, o + k * 11 + 1, none⟩ = some (.int .i64 l.a) ∧ w.cell? ⟨g, o + k * 11 + 2, none⟩ = some (.int .i64 l.b) ∧ w.cell? ⟨g, o + k * 11 + 3, none⟩ = some (.int .i64 l.q) ∧ w.cell? ⟨g, o + k * 11 + 4, none⟩ = some (.int .i64 l.s) ∧ w.cell? ⟨g, o + k * 11 + 5, none⟩ = some (.int .i64 l.w) ∧
    w.cell? ⟨g, o + k * 11 + 6, none⟩ = some (.bool l.r) ∧ w.cell? ⟨g, o + k * 11 + 7, none⟩ = some (.int .i64 l.n) ∧ w.cell? ⟨g, o + k * 11 + 8, none⟩ = some (.bool l.o) ∧ w.cell? ⟨g, o + k * 11 + 9, none⟩ = some (.bool l.h) ∧ w.cell? ⟨g, o + k * 11 + 10, none⟩ = some (.int .i64 l.d) := by
  have h : ∀ c, c < 11 → w.cell? ⟨g, o + k * 11 + c, none⟩ = (letC l)[c]? := by
    intro c h11
    rw [Nat.add_assoc, hc _ (by omega), flat_at L k c hk h11, hl]
  exact ⟨h 0 (by omega), h 1 (by omega), h 2 (by omega), h 3 (by omega), h 4 (by omega), h 5 (by omega), h 6 (by omega), h 7 (by omega), h 8 (by omega), h 9 (by omega), h 10 (by omega)⟩

theorem box_let {w : World} {b : Nat} {t : TypeId} (l : Lt) (h : w.heap[b]? = some (.cells #[.int .i64 l.k, .int .i64 l.a, .int .i64 l.b, .int .i64 l.q, .int .i64 l.s, .int .i64 l.w, .bool l.r, .int .i64 l.n, .bool l.o, .bool l.h, .int .i64 l.d] t (0, 0))) :
    w.cell? ⟨b, 0, none⟩ = some (.int .i64 l.k) ∧ w.cell? ⟨b, 1, none⟩ = some (.int .i64 l.a) ∧ w.cell? ⟨b, 2, none⟩ = some (.int .i64 l.b) ∧ w.cell? ⟨b, 3, none⟩ = some (.int .i64 l.q) ∧ w.cell? ⟨b, 4, none⟩ = some (.int .i64 l.s) ∧ w.cell? ⟨b, 5, none⟩ = some (.int .i64 l.w) ∧
    w.cell? ⟨b, 6, none⟩ = some (.bool l.r) ∧ w.cell? ⟨b, 7, none⟩ = some (.int .i64 l.n) ∧ w.cell? ⟨b, 8, none⟩ = some (.bool l.o) ∧ w.cell? ⟨b, 9, none⟩ = some (.bool l.h) ∧ w.cell? ⟨b, 10, none⟩ = some (.int .i64 l.d) ∧ ∀ j, w.frozen? ⟨b, j, none⟩ = false := by
  have hc := fun j => cell_of_row w b j _ _ _ h
  exact ⟨hc 0, hc 1, hc 2, hc 3, hc 4, hc 5, hc 6, hc 7, hc 8, hc 9, hc 10, fun j => by simp [World.frozen?, h]⟩

theorem box_zero {w : World} {b : Nat} {t : TypeId} (h : w.heap[b]? = some (.cells #[.int .i64 0, .int .i64 0, .int .i64 0, .int .i64 0, .int .i64 0, .int .i64 0, .bool false, .int .i64 0, .bool false, .bool false, .int .i64 0] t (0, 0))) :
    w.cell? ⟨b, 0, none⟩ = some (.int .i64 0) ∧ w.cell? ⟨b, 1, none⟩ = some (.int .i64 0) ∧ w.cell? ⟨b, 2, none⟩ = some (.int .i64 0) ∧ w.cell? ⟨b, 3, none⟩ = some (.int .i64 0) ∧ w.cell? ⟨b, 4, none⟩ = some (.int .i64 0) ∧ w.cell? ⟨b, 5, none⟩ = some (.int .i64 0) ∧
    w.cell? ⟨b, 6, none⟩ = some (.bool false) ∧ w.cell? ⟨b, 7, none⟩ = some (.int .i64 0) ∧ w.cell? ⟨b, 8, none⟩ = some (.bool false) ∧ w.cell? ⟨b, 9, none⟩ = some (.bool false) ∧ w.cell? ⟨b, 10, none⟩ = some (.int .i64 0) ∧ ∀ j, w.frozen? ⟨b, j, none⟩ = false := box_let zeroL h

theorem alloc_at0 (w : World) (o : Obj) : (w.alloc o).heap[w.heap.size]? = some o := heap_alloc_new w o
theorem alloc_at1 (w : World) (o1 o2 : Obj) : ((w.alloc o1).alloc o2).heap[w.heap.size + 1]? = some o2 := by have h := heap_alloc_new (w.alloc o1) o2; rwa [World.size_alloc] at h
theorem alloc_at10 (w : World) (o1 o2 : Obj) : ((w.alloc o1).alloc o2).heap[w.heap.size]? = some o1 := (Below.heap_alloc _ _ _ (by simp)).trans (heap_alloc_new w o1)

theorem NetIs.setCell {w : World} {p g : Nat} {R : Int} {L : List Lt} (h : NetIs w p g R L) {q : Addr} (h1 : p ≠ q.block) (h2 : g ≠ q.block) (u : Value) : NetIs (w.setCell q u) p g R L :=
  h.carry (Below.heap_setCell _ _ _ _ h1) (Below.heap_setCell _ _ _ _ h2)

set_option maxHeartbeats 400000 in
theorem take_c (p g : Nat) (R i : Int) (L : List Lt) (w : World) (h : NetIs w p g R L) : Calls Try.prog 15 #[ptr p, .int .i64 i] w fun e w' => e = .returned (.tuple #[letV (leT L i), .bool (okT L i)]) ∧ NetIs w' p g R (nxT L i) ∧ Fr p g w w' := by
  have hl := h.len
  have hh := hide h
  have hpl := h.pl
  have hgl := h.gl
  by_cases c : okT L i = true
  · obtain ⟨c1, c2⟩ : 0 ≤ i ∧ i < L.length := by simpa [okT] using c
    obtain ⟨k, rfl⟩ : ∃ k : Nat, i = k := ⟨i.toNat, by omega⟩
    have hk : k < L.length := by omega
    obtain ⟨l, hlk⟩ : ∃ l, L[k] = l := ⟨_, rfl⟩
    have e1 : leT L k = l := by simp [leT, c, hk, hlk]
    have e2 : nxT L k = L.eraseIdx k := by simp [nxT, c]
    rw [e1, e2, c]
    obtain ⟨v, h1, h2, h3⟩ := h.c1
    obtain ⟨ao, cap, rfl, hlc, hmx, hg, hw⟩ := h2
    rcases hw with ⟨rfl, rfl⟩ | ⟨o, rfl, hc, hsp⟩
    · omega
    obtain ⟨d0, d1, d2, d3, d4, d5, d6, d7, d8, d9, d10⟩ := own_let rfl hc hk l hlk
    have hmx' : cap ≤ 9223372036854775807 := by unfold maxLen at hmx; omega
    clear h hc hsp h3 e1 e2 hlk
    go_enter Try.func15, Try.ntmps15
    go_wp2_with (first | (go_at_call 23; refine (has_c p g R k L _ ((unhide hh).alloc _)).mono ?_; rw [c]; rintro e w' ⟨rfl, rfl⟩) | (go_at_call 24; refine (remove_c p g k R L _ (((unhide hh).alloc _).alloc _) hk).mono ?_; rintro e w1 ⟨rfl, hn, hfr⟩; obtain ⟨b0, b1, b2, b3, b4, b5, b6, b7, b8, b9, b10, bf⟩ := box_let (w := w1) (b := w.heap.size + 1) l ((hfr.block (w.heap.size + 1) (by simp) (by omega) (by omega)).trans (alloc_at1 w _ _)); obtain ⟨z0, z1, z2, z3, z4, z5, z6, z7, z8, z9, z10, zf⟩ := box_zero (w := w1) (b := w.heap.size) ((hfr.block w.heap.size (by simp) (by omega) (by omega)).trans (alloc_at10 w _ _)); have hsz : w.heap.size + 1 + 1 ≤ w1.heap.size := (by have := hfr.size; simpa using this); replace hn := hide hn; replace hfr := hide hfr))
    refine bodyPost_ret (by simp [letV, results, Try.results15, go_sem, *]; done) rfl ⟨rfl, ?_, ?_⟩
    · repeat' first | with_reducible exact unhide hn | with_reducible refine NetIs.setCell ?_ ?_ ?_ _ | (dsimp only; omega)
    · have F : Fr p g w w1 := (((Fr.refl p g w).alloc _).alloc _).trans (unhide hfr) (.inl rfl) (.inr (.inl rfl))
      repeat' first | with_reducible exact F | with_reducible refine Fr.setCell ?_ ?_ _ | (right; right; dsimp only; omega)
  · replace c : okT L i = false := by simpa using c
    have e1 : leT L i = zeroL := by simp [leT, c]
    have e2 : nxT L i = L := by simp [nxT, c]
    rw [e1, e2, c]
    clear h
    go_enter Try.func15, Try.ntmps15
    go_wp2_with (go_at_call 23; refine (has_c p g R i L _ ((unhide hh).alloc _)).mono ?_; rw [c]; rintro e w' ⟨rfl, rfl⟩)
    refine bodyPost_ret (by simp [letV, zeroL, results, Try.results15, go_sem, *]; done) rfl ⟨rfl, ?_, ?_⟩
    · repeat' first | with_reducible exact (unhide hh).alloc _ | with_reducible refine NetIs.setCell ?_ ?_ ?_ _ | (dsimp only; omega)
    · repeat' first | with_reducible exact (Fr.refl _ _ _).alloc _ | with_reducible refine Fr.setCell ?_ ?_ _ | (right; right; dsimp only; omega)
end Go.Proofs.Ytajcebnbmejamaa
