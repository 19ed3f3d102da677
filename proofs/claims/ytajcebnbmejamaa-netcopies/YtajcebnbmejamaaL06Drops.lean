/- The walk of NetDrops: it returns true; no old memory turns. -/
import Derived.Test.YtajcebnbmejamaaL06Order
import Derived.Test.YtajcebnbmejamaaNetI
import Derived.Deep.CutRange
namespace Go.Proofs.Ytajcebnbmejamaa
open Go.ChangeShapes Go.WideShapes Go.ChangeAt Go.RowKit
set_option linter.unusedSimpArgs false
set_option linter.unusedVariables false

attribute [local go_sem, local simp] over_const setCell_drewN alloc_drewN Over.cell Over.frozen lt_s1 lt_s2 lt_s3 le_s0 le_s1 le_s2 le_s3 eq_s0 eq_s1 eq_s2 qe_s0

theorem wpList_app_w {w : World} {ops : Array Oper} {o : Oper} {a : Act} {Q : Exit → Act → World → Prop} {rest : List Oper} (hw : Region.wanted o (yielded ops a.tmps) = true) (s x : Operand) (ho : o.op = .call { callee := .builtin .append, args := #[s, x], argTypes := #[29, 29] })
    {v xv : Value} {g b : Nat} {L M : List Lt} (hs : a.eval s = v) (hx : a.eval x = xv) (hv : Own w v g L) (hxv : View w xv b M) (hle : L.length + M.length ≤ 1000000) (n : Nat) (hn : L.length + M.length = n)
    (h : ∀ ao cap w' g', Own w' (.slice ao n cap) g' (L ++ M) → AppP w w' v (.slice ao n cap) g g' → wpList Try.prog ops Q rest (a.put o.dst (.slice ao n cap)) w') : wpList Try.prog ops Q (o :: rest) a w :=
  BigFrame.wpList_want hw fun _ hK => wp_app s x ho hs hx hv hxv hle n hn fun ao cap w' g' h2 h3 => hK _ _ (h ao cap w' g' h2 h3)

theorem CloneP.view {w w' : World} {ao : Option Addr} {cap : Nat} {L : List Lt} (h : CloneP w w' ao cap L) : ∃ b, View w' (.slice ao L.length cap) b L ∧ (L ≠ [] → w.heap.size ≤ b ∧ b < w'.heap.size) := by
  obtain ⟨_, ⟨rfl, rfl, rfl⟩ | ⟨g, h1, h2⟩⟩ := h
  · exact ⟨0, view_nil _ _, fun h => absurd rfl h⟩
  · exact ⟨g, h2.view, fun _ => ⟨h1, by obtain ⟨_, _, _, _, _, h, _⟩ := h2; exact h⟩⟩

/-- What List answers, by a number of its own. -/
theorem list_v (p g : Nat) (R : Int) (L : List Lt) (w : World) (h : NetIs w p g R L) (n : Nat) (hn : L.length = n) : Calls Try.prog 21 #[ptr p] w fun e w' => ∃ ao cap b, e = .returned (.slice ao n cap) ∧ View w' (.slice ao n cap) b L ∧ (L ≠ [] → w.heap.size ≤ b ∧ b < w'.heap.size) ∧ Below w.heap.size w w' := by
  subst hn
  refine (list_c p g R L w h).mono ?_
  rintro e w' ⟨ao, cap, rfl, hc⟩
  obtain ⟨b, h1, h2⟩ := hc.view
  exact ⟨ao, cap, b, rfl, h1, h2, hc.1⟩

set_option maxHeartbeats 1000000 in
theorem NetDrops_walk (v : Value) (b : Nat) (L : List Lt) (i : Int) (w : World) (hv : View w v b L) : Calls Try.prog 5 #[v, .int .i64 i] w fun e w' => e = .returned (.bool true) ∧ Below w.heap.size w w' := by
  have hV := hide hv
  obtain ⟨ao, cap, rfl, hlc, hmx, _⟩ := hv
  have hmx' : cap ≤ 9223372036854775807 := by unfold maxLen at hmx; omega
  by_cases c : (100 : Int) < L.length
  · go_enter Try.func5, Try.ntmps5
    go_wp2_with fail
    go_at_call 9
    refine (awake6_any _).mono ?_
    rintro e w1 ⟨rfl, hb1⟩
    replace hb1 := hide hb1
    go_wp2_with fail
    go_at_call 9
    refine (awake6_any _).mono ?_
    rintro e w2 ⟨rfl, hb2⟩
    replace hb2 := hide hb2
    go_wp2_with fail
    go_ret
    exact ⟨rfl, (unhide hb1).trans ((unhide hb2).mono (unhide hb1).size)⟩
  · obtain ⟨R, hR⟩ : ∃ R : Int, roomZ L.length = R := ⟨_, rfl⟩
    have hR' : R = L.length := by rw [← hR]; unfold roomZ; split <;> (try split) <;> omega
    have eS : Hid (okS R [] L = true) := by show _ = true; simp [okS]; omega
    have eN : Hid (nxS R [] L = L) := by show _ = L; simp [nxS, eS.out]
    go_enter Try.func5, Try.ntmps5
    go_wp2_with fail
    go_at_call 9
    refine (awake6_any _).mono ?_
    rintro e w1 ⟨rfl, hb1⟩
    have s1 := hb1.size
    replace hb1 := hide hb1
    go_wp2_with fail
    go_at_call 11
    refine (new_c _ _).mono ?_
    rw [hR]
    rintro e w2 ⟨rfl, hn2, hb2⟩
    have l2 := hn2.pl
    have hB : Below w.heap.size w w2 := (unhide hb1).trans (hb2.mono s1)
    clear hb1 hb2
    replace hn2 := hide hn2
    replace hB := hide hB
    replace hR' := hide hR'
    clear hR
    go_wp2_with (first | (at_builtin; refine wpList_app_w (by simp [Region.wanted, yielded]; done) _ _ rfl rfl rfl (own_empty _ _) (((unhide hV).carry (fun _ hq => (unhide hB).block _ hq)).alloc _) (by simp; omega) L.length (by simp) ?_; intro ao1 cap1 w3 g3 hown3 hap3; have hf3 : Below w2.heap.size w2 w3 := ((Below.refl _ _).alloc (Nat.le_refl _) _).trans (hap3.fr.below (Nat.le_refl _) (Nat.le_refl _) (by simp)); rw [List.nil_append] at hown3; replace hown3 := hide hown3; replace hf3 := hide hf3; clear hap3) | (go_at_call 13; refine (send_c w1.heap.size w1.heap.size g3 R [] L _ _ ((unhide hn2).below (unhide hf3)) (unhide hown3).view).mono ?_; rw [eS.out, eN.out]; rintro e w4 ⟨rfl, g4, hn4, hf4, hg4⟩; have hB4 : Below w.heap.size w w4 := (((unhide hB).trans ((unhide hf3).mono (by omega))).trans (hf4.below s1 s1 (by have := (unhide hf3).size; omega))); have l4 : w1.heap.size < w4.heap.size := hn4.pl; have l5 : g4 < w4.heap.size := hn4.gl; have l6 : w.heap.size ≤ g4 := (by have := (unhide hf3).size; omega); clear hf4 hn2 hB hown3 hf3; replace hn4 := hide hn4; replace hB4 := hide hB4))
    go_at_call 17
    refine (drop_c w1.heap.size g4 R i L _ (unhide hn4)).mono ?_
    by_cases ct : okT L i = true
    · obtain ⟨c1, c2⟩ : 0 ≤ i ∧ i < L.length := by simpa [okT] using ct
      obtain ⟨k, rfl⟩ : ∃ k : Nat, i = k := ⟨i.toNat, by omega⟩
      have hk : k < L.length := by omega
      obtain ⟨l, hl⟩ : ∃ l, L[k] = l := ⟨_, rfl⟩
      have e1 : leT L k = l := by simp [leT, ct, hk, hl]
      obtain ⟨j, hj⟩ : ∃ j, k + 1 = j := ⟨_, rfl⟩
      obtain ⟨o, rfl, hbl, hc⟩ := view_let (unhide hV) rfl hk
      obtain ⟨d0, _⟩ := own_let (w := w) rfl hc hk l hl
      have hV1 := hide (view_take (k := k) (by omega) hlc hmx hbl hc)
      obtain ⟨A, hA, hV2⟩ := view_drop (j := j) (by omega) hlc hmx hbl hc
      replace hV2 := hide hV2
      have n0 : ¬ cap = 0 := by omega
      have m1 : (k : Int) ≤ cap := by omega
      have m2 : (j : Int) ≤ L.length := by omega
      have hwr : IntKind.i64.wrap ((k : Int) + 1) = j := by rw [IntKind.wrap_i64]; omega
      have hl1 : Hid ((L.take k).length = k) := by rw [List.length_take]; show min k L.length = k; omega
      have hl2 : Hid ((L.drop j).length = L.length - j) := by rw [List.length_drop]; rfl
      have hE : Hid (L.eraseIdx k = L.take k ++ L.drop j) := by rw [List.eraseIdx_eq_take_drop_succ, hj]; rfl
      have hJ := hide hj
      clear hc hl hj
      obtain ⟨q, hq⟩ : ∃ q, decide (l.k = 2) = q := ⟨_, rfl⟩
      have e3 : okD L k = q := by simp [okD, ct, e1, hq]
      have e2 : nxD L k = if q = true then L.eraseIdx k else L := by simp [nxD, e3]
      rw [e2, e3]
      clear e1 e2 e3
      cases q
      case true =>
        have q1 : l.k = 2 := by simpa using hq
        rw [q1] at d0
        rw [if_pos rfl, hE.out]
        rintro e w5 ⟨rfl, hn5, hf5⟩
        have hB5 : Below w.heap.size w w5 := (unhide hB4).trans (hf5.below s1 l6 (by omega))
        have s5 := hB5.size
        have d1 : w5.cell? ⟨b, o + k * 11, none⟩ = some (.int .i64 2) := (hB5.cell (p := ⟨b, o + k * 11, none⟩) hbl).trans d0
        clear hn4 hB4 hf5 hq q1 d0
        replace hn5 := hide hn5
        replace hB5 := hide hB5
        go_wp2_with fail
        go_region_law (first
          | (refine step_app rfl (.tmp 48) (.tmp 51) rfl (by first | (simp [Act.eval, Act.put]; done) | (simp [Act.eval, Act.put]; rfl)) (by first | (simp [Act.eval, Act.put]; done) | (simp [Act.eval, Act.put]; rfl)) (own_emp (N := w5.heap.size) (by simp)) (View.carry (w := w) (unhide hV1) (fun _ hq => by first | exact ((Below.heap_alloc _ _ _ (by have := (unhide hB5).size; omega)).trans ((unhide hB5).block _ hq)))) (by rw [hl1.out]; simp; omega) k (by rw [hl1.out]; simp) ?_; intro ao6 cap6 w6 g6 hown6 hap6; have hB6 : Below w5.heap.size w5 w6 := Below.trans (by repeat' first | with_reducible exact Below.refl _ _ | with_reducible refine Below.drew ?_ | with_reducible refine Below.alloc ?_ ?_ _ | (simp; done)) (hap6.fr.below (Nat.le_refl _) (Nat.le_refl _) (by simp)); have hg6 : w5.heap.size ≤ g6 := (by have := hap6.lies; simp at this; omega); clear hap6; replace hown6 := hide hown6; replace hB6 := hide hB6)
          | (refine step_app rfl (.tmp 52) (.tmp 56) rfl (by first | (simp [Act.eval, Act.put]; done) | (simp [Act.eval, Act.put]; rfl)) (by first | (simp [Act.eval, Act.put, hA]; done) | (simp [Act.eval, Act.put, hA]; rfl)) (unhide hown6) (((unhide hV2).below (unhide hB5)).below (unhide hB6)) (by rw [List.nil_append, hl1.out, hl2.out]; omega) (L.length - 1) (by have := hJ.out; rw [List.nil_append, hl1.out, hl2.out]; omega) ?_; intro ao7 cap7 w7 g7 hown7 hap7; have hB7 : Below w5.heap.size w5 w7 := (unhide hB6).trans (hap7.fr.below hg6 hg6 (unhide hB6).size); rw [List.nil_append] at hown7; have d2 : w7.cell? ⟨b, o + k * 11, none⟩ = some (.int .i64 2) := (hB7.cell (p := ⟨b, o + k * 11, none⟩) (show b < w5.heap.size by omega)).trans d1; have v7 := hide (hown7.view); have h7s := hB7.size; replace hB7 := hide hB7; clear hown7 hap7 hown6 hB6))
        go_wp2_with (first | (go_at_call 21; refine (list_v w1.heap.size g4 R (L.take k ++ L.drop j) _ ((unhide hn5).below (unhide hB7)) (L.length - 1) (by have := hJ.out; rw [List.length_append, hl1.out, hl2.out]; omega)).mono ?_; rintro e w8 ⟨ao8, cap8, b8, rfl, v8, _, hB8⟩; replace v8 := hide v8; replace hB8 := hide hB8) | (go_at_call 20; refine (same_c _ _ b8 g7 (L.take k ++ L.drop j) _ (unhide v8) ((unhide v7).below (unhide hB8))).mono ?_; rintro e w9 ⟨rfl, n9, rfl⟩))
        go_ret
        exact ⟨rfl, belowN (((unhide hB5).trans ((unhide hB7).mono s5)).trans ((unhide hB8).mono (by omega))) _⟩
      case false =>
        have q1 : ¬ l.k = 2 := by simpa using hq
        have q2 : (l.k == 2) = false := by simp [q1]
        rw [if_neg (by simp)]
        rintro e w5 ⟨rfl, hn5, hf5⟩
        have hB5 : Below w.heap.size w w5 := (unhide hB4).trans (hf5.below s1 l6 (by omega))
        have s5 := hB5.size
        have d1 : w5.cell? ⟨b, o + k * 11, none⟩ = some (.int .i64 l.k) := (hB5.cell (p := ⟨b, o + k * 11, none⟩) hbl).trans d0
        clear hn4 hB4 hf5 d0
        replace hn5 := hide hn5
        replace hB5 := hide hB5
        go_wp2_with fail
        go_region_law (first
          | (refine step_app rfl (.tmp 48) (.tmp 51) rfl (by first | (simp [Act.eval, Act.put]; done) | (simp [Act.eval, Act.put]; rfl)) (by first | (simp [Act.eval, Act.put]; done) | (simp [Act.eval, Act.put]; rfl)) (own_emp (N := w5.heap.size) (by simp)) (View.carry (w := w) (unhide hV1) (fun _ hq => by first | exact ((Below.heap_alloc _ _ _ (by have := (unhide hB5).size; omega)).trans ((unhide hB5).block _ hq)))) (by rw [hl1.out]; simp; omega) k (by rw [hl1.out]; simp) ?_; intro ao6 cap6 w6 g6 hown6 hap6; have hB6 : Below w5.heap.size w5 w6 := Below.trans (by repeat' first | with_reducible exact Below.refl _ _ | with_reducible refine Below.drew ?_ | with_reducible refine Below.alloc ?_ ?_ _ | (simp; done)) (hap6.fr.below (Nat.le_refl _) (Nat.le_refl _) (by simp)); have hg6 : w5.heap.size ≤ g6 := (by have := hap6.lies; simp at this; omega); clear hap6; replace hown6 := hide hown6; replace hB6 := hide hB6)
          | (refine step_app rfl (.tmp 52) (.tmp 56) rfl (by first | (simp [Act.eval, Act.put]; done) | (simp [Act.eval, Act.put]; rfl)) (by first | (simp [Act.eval, Act.put, hA]; done) | (simp [Act.eval, Act.put, hA]; rfl)) (unhide hown6) (((unhide hV2).below (unhide hB5)).below (unhide hB6)) (by rw [List.nil_append, hl1.out, hl2.out]; omega) (L.length - 1) (by have := hJ.out; rw [List.nil_append, hl1.out, hl2.out]; omega) ?_; intro ao7 cap7 w7 g7 hown7 hap7; have hB7 : Below w5.heap.size w5 w7 := (unhide hB6).trans (hap7.fr.below hg6 hg6 (unhide hB6).size); rw [List.nil_append] at hown7; have d2 : w7.cell? ⟨b, o + k * 11, none⟩ = some (.int .i64 l.k) := (hB7.cell (p := ⟨b, o + k * 11, none⟩) (show b < w5.heap.size by omega)).trans d1; have v7 := hide (hown7.view); have h7s := hB7.size; replace hB7 := hide hB7; clear hown7 hap7 hown6 hB6))
        go_wp2_with (first | (go_at_call 21; refine (list_v w1.heap.size g4 R L _ ((unhide hn5).below (unhide hB7)) L.length rfl).mono ?_; rintro e w8 ⟨ao8, cap8, b8, rfl, v8, _, hB8⟩; replace v8 := hide v8; replace hB8 := hide hB8) | (go_at_call 20; refine (same_c _ _ b8 b L _ (unhide v8) ((((unhide hV).below (unhide hB5)).below (unhide hB7)).below (unhide hB8))).mono ?_; rintro e w9 ⟨rfl, n9, rfl⟩))
        go_ret
        exact ⟨rfl, belowN (((unhide hB5).trans ((unhide hB7).mono s5)).trans ((unhide hB8).mono (by omega))) _⟩
    · replace ct : okT L i = false := by simpa using ct
      have e1 : okD L i = false := by simp [okD, ct]
      have e2 : nxD L i = L := by simp [nxD, e1]
      rw [e1, e2]
      have c' : i < 0 ∨ (0 ≤ i ∧ (L.length : Int) ≤ i) := by simp [okT] at ct; omega
      rintro e w5 ⟨rfl, hn5, hf5⟩
      have hB5 : Below w.heap.size w w5 := (unhide hB4).trans (hf5.below s1 l6 (by omega))
      have s5 := hB5.size
      clear hn4 hB4 hf5 e1 e2
      replace hn5 := hide hn5
      replace hB5 := hide hB5
      rcases c' with c' | ⟨c', c''⟩
      all_goals
        go_wp2_with (first | (go_at_call 21; refine (list_v w1.heap.size g4 R L _ (unhide hn5) L.length rfl).mono ?_; rintro e w8 ⟨ao8, cap8, b8, rfl, v8, _, hB8⟩; replace v8 := hide v8; replace hB8 := hide hB8) | (go_at_call 20; refine (same_c _ _ b8 b L _ (unhide v8) (((unhide hV).below (unhide hB5)).below (unhide hB8))).mono ?_; rintro e w9 ⟨rfl, n9, rfl⟩))
        go_ret
        exact ⟨rfl, belowN ((unhide hB5).trans ((unhide hB8).mono s5)) _⟩
end Go.Proofs.Ytajcebnbmejamaa
