/- The walk of NetPlays: it returns true; no old memory turns. -/
import Derived.Test.YtajcebnbmejamaaL06Sums
import Derived.Test.YtajcebnbmejamaaHand
import Derived.Deep.CutRange
namespace Go.Proofs.Ytajcebnbmejamaa
open Go.ChangeShapes Go.WideShapes Go.ChangeAt Go.RowKit
set_option linter.unusedSimpArgs false
set_option linter.unusedVariables false

attribute [local go_sem, local simp] over_const setCell_drewN alloc_drewN Over.cell Over.frozen lt_s1 lt_s2 lt_s3 le_s0 le_s1 le_s2 le_s3 eq_s0 eq_s1 eq_s2 qe_s0

abbrev aObj (k i : Int) (s : Value) : Obj := .cells #[.int .i64 k, .int .i64 i, s] 31

/-- Two nets of the same letters, apart from each other, from block B on. -/
structure Two (B : Nat) (w : World) (p g q h : Nat) (R : Int) (L : List Lt) : Prop where
  n : NetIs w p g R L
  m : NetIs w q h R L
  bp : B ≤ p
  bg : B ≤ g
  bq : B ≤ q
  bh : B ≤ h
  pq : p ≠ q
  ph : p ≠ h
  gq : g ≠ q
  gh : g ≠ h

theorem Two.below {B : Nat} {w w' : World} {p g q h : Nat} {R : Int} {L : List Lt} (t : Two B w p g q h R L) (hb : Below w.heap.size w w') : Two B w' p g q h R L := { t with n := t.n.below hb, m := t.m.below hb }
theorem Two.alloc {B : Nat} {w : World} {p g q h : Nat} {R : Int} {L : List Lt} (t : Two B w p g q h R L) (o : Obj) : Two B (w.alloc o) p g q h R L := { t with n := t.n.alloc o, m := t.m.alloc o }
theorem Two.drew {B : Nat} {w : World} {p g q h : Nat} {R : Int} {L : List Lt} (t : Two B w p g q h R L) : Two B w.drew p g q h R L := { t with n := t.n.drew, m := t.m.drew }
theorem Two.drewN {B : Nat} {w : World} {p g q h : Nat} {R : Int} {L : List Lt} (t : Two B w p g q h R L) (n : Nat) : Two B (w.drewN n) p g q h R L := { t with n := t.n.drewN n, m := t.m.drewN n }

/-- First the one, then the other becomes what it becomes. -/
theorem Two.both {B : Nat} {w w1 w2 w3 : World} {p g q h g' h' : Nat} {R : Int} {L L' : List Lt} (t : Two B w p g q h R L) (n1 : NetIs w1 p g' R L') (f1 : Fr p g w w1) (e1 : g' = g ∨ w.heap.size ≤ g') (a : Below w1.heap.size w1 w2) (n2 : NetIs w3 q h' R L') (f2 : Fr q h w2 w3) (e2 : h' = h ∨ w2.heap.size ≤ h') (hB : B ≤ w.heap.size) : Two B w3 p g' q h' R L' := by
  have l1 := t.n.pl
  have l2 := t.n.gl
  have l3 := t.m.pl
  have l4 := t.m.gl
  have l5 := n1.gl
  have s1 := f1.size
  have s2 := a.size
  have b1 := t.bp
  have b2 := t.bg
  have b3 := t.bq
  have b4 := t.bh
  have x1 := t.pq
  have x2 := t.ph
  have x3 := t.gq
  have x4 := t.gh
  exact { n := (n1.below a).fr f2 (by omega) (by omega) (by omega) (by omega), m := n2, bp := b1, bg := by omega, bq := b3, bh := by omega, pq := x1, ph := by omega, gq := by omega, gh := by omega }

/-- The other one, while the first is written. -/
theorem Two.other {B : Nat} {w w1 : World} {p g q h : Nat} {R : Int} {L : List Lt} (t : Two B w p g q h R L) (f1 : Fr p g w w1) : NetIs w1 q h R L := t.m.fr f1 (fun e => t.pq e.symm) (fun e => t.gq e.symm) (fun e => t.ph e.symm) (fun e => t.gh e.symm)

set_option maxHeartbeats 4000000 in
set_option maxRecDepth 100000 in
theorem NetPlays_walk (r : Int) (v : Value) (A : List ActD) (w : World) (h : ActsAt w.heap.size w v A) : Calls Try.prog 3 #[.int .i64 r, v] w fun e w' => e = .returned (.bool true) ∧ Below w.heap.size w w' := by
  have hA := hide h
  obtain ⟨ao, cap, rfl, hlc, hmx, _⟩ := h
  have hmx' : cap ≤ 9223372036854775807 := by unfold maxLen at hmx; omega
  go_enter Try.func3, Try.ntmps3
  go_wp2_with fail
  go_at_call 9
  refine (awake6_any _).mono ?_
  rintro e w1 ⟨rfl, hb1⟩
  have s1 := hb1.size
  have hA1 : Hid (ActsAt w.heap.size w1 (.slice ao A.length cap) A) := (unhide hA).below hb1
  replace hb1 := hide hb1
  go_wp2_with fail
  go_at_call 10
  refine (great_c w.heap.size _ A _ (unhide hA1) s1).mono ?_
  rintro e w2 ⟨q, rfl, hb2, hq⟩
  have s2 := hb2.size
  have hB2 : Below w.heap.size w w2 := (unhide hb1).trans (hb2.mono s1)
  clear hb1 hb2 hA1
  cases q
  case true =>
    clear hq
    replace hB2 := hide hB2
    go_wp2_with fail
    go_at_call 9
    refine (awake6_any _).mono ?_
    rintro e w3 ⟨rfl, hb3⟩
    replace hb3 := hide hb3
    go_wp2_with fail
    go_ret
    exact ⟨rfl, (unhide hB2).trans ((unhide hb3).mono (by omega))⟩
  case false =>
    obtain ⟨h200, h50⟩ := hq rfl
    replace hB2 := hide hB2
    replace h50 := hide h50
    clear hq
    obtain ⟨R, hR⟩ : ∃ R, roomZ r = R := ⟨_, rfl⟩
    obtain ⟨q, hqq⟩ : ∃ q, w2.heap.size = q := ⟨_, rfl⟩
    go_wp2_with fail
    go_at_call 11
    refine (new_c r _).mono ?_
    rw [hR, hqq]
    rintro e w3 ⟨rfl, hn3, hb3⟩
    have l3 := hn3.pl
    have hB3 : Below w.heap.size w w3 := (unhide hB2).trans (hb3.mono (by omega))
    clear hB2 hb3
    replace hn3 := hide hn3
    replace hB3 := hide hB3
    obtain ⟨Qm, hQm⟩ : ∃ Qm, w3.heap.size = Qm := ⟨_, rfl⟩
    go_wp2_with fail
    go_at_call 12
    refine (rnew_c r _).mono ?_
    rw [hR, hQm]
    rintro e w4 ⟨rfl, hm4, hb4⟩
    have l4 := hm4.pl
    have hB4 : Below w.heap.size w w4 := (unhide hB3).trans (hb4.mono (by omega))
    have hT : Two w.heap.size w4 q q Qm Qm R [] := { n := (unhide hn3).below (by rw [hQm]; exact hb4), m := hm4, bp := by omega, bg := by omega, bq := by omega, bh := by omega, pq := by omega, ph := by omega, gq := by omega, gh := by omega }
    clear hB3 hb4 hm4 hn3 hR
    have hqw : w.heap.size ≤ q := by omega
    have hQw : w.heap.size ≤ Qm := by omega
    clear hqq hQm
    replace hT := hide hT
    replace hB4 := hide hB4
    go_wp2_with fail
    go_loopw [5, 29] (fun nn i wr => ∃ (j p g h : Nat) (L : List Lt), j ≤ A.length ∧ i = .int .i64 j ∧ nn = ptr p ∧ Two w.heap.size wr p g Qm h R L ∧ Below w.heap.size w wr) (fun _ i _ => A.length - (intOf i).toNat)
    case atStart => exact ⟨0, q, q, Qm, [], Nat.zero_le _, rfl, rfl, unhide hT, unhide hB4⟩
    case round =>
      clear hT hB4
      obtain ⟨j, p, g, h, L, hj, rfl, rfl, ht, hb⟩ := hrel
      have lp := ht.n.pl
      have lg := ht.n.gl
      have lq := ht.m.pl
      have lh := ht.m.gl
      have ll := ht.n.len
      have bp := ht.bp
      have bg := ht.bg
      have bh := ht.bh
      have sz := hb.size
      by_cases hlt : j < A.length
      · obtain ⟨ba, o, aoj, capj, rfl, hl, c0, c1, c2, hv, h7, h8, h9⟩ := acts_row (unhide hA) hb hlt
        have hm50 := unhide h50 j hlt
        generalize A[j] = a at c0 c1 c2 hv h7 h9 hm50
        obtain ⟨k, i, va, bm, M⟩ := a
        dsimp only at c0 c1 c2 hv h7 h9 hm50
        have hlt' : (j : Int) < A.length := by omega
        replace hb := hide hb
        replace ht := hide ht
        replace hv := hide hv
        replace h9 := hide h9
        by_cases k1 : k = 1
        · subst k1
          obtain ⟨W0, hW0⟩ : ∃ W0, wr.alloc (aObj 1 i (.slice aoj M.length capj)) = W0 := ⟨_, rfl⟩
          have hs0 : W0.heap.size = wr.heap.size + 1 := by rw [← hW0]; simp
          have y2 : W0.cell? ⟨wr.heap.size, 2, none⟩ = some (.slice aoj M.length capj) := by rw [← hW0]; simp
          have ht0 : Hid (Two w.heap.size W0 p g Qm h R L) := by rw [← hW0]; exact (unhide ht).alloc _
          have hb0 : Hid (Below w.heap.size w W0) := by rw [← hW0]; exact (unhide hb).alloc sz _
          have hv0 : Hid (View W0 (.slice aoj M.length capj) bm M) := by rw [← hW0]; exact (unhide hv).alloc _
          replace hW0 := hide hW0
          clear ht hb hv
          obtain ⟨N, hN⟩ : ∃ N, Hid (nxS R L M = N) := ⟨_, rfl⟩
          obtain ⟨ok, hok⟩ : ∃ ok, Hid (okS R L M = ok) := ⟨_, rfl⟩
          go_upto_region 11 with fail
          rw [hW0.out]
          refine wp_region_noPanic ?_
          refine wp_region_held_drew (S := (fun wx : World => wx.cell? ⟨wr.heap.size, 2, none⟩ = some (.slice aoj M.length capj))) (by kernel_rfl) ?_ (fun hHeld => ?_)
          · exact y2
          refine hand_take (i := 0) (d := some 37) (v := ?_) rfl (by kernel_rfl) (by kernel_rfl) (by kernel_rfl) (fun _ _ _ h => h) ?_ hHeld ?_
          rotate_left
          · intro o ho
            simp at ho
            subst ho
            intro wz hSw
            try dsimp only at hSw
            go_simp
            try with_reducible rfl
          try simp only [Act.put, List.setIfInBounds_toArray, List.set_cons_zero, List.set_cons_succ]
          refine hand_take (i := 2) (d := some 39) (v := ?_) rfl (by kernel_rfl) (by kernel_rfl) (by kernel_rfl) (fun _ _ _ h => h) ?_ hHeld ?_
          rotate_left
          · intro o ho
            simp at ho
            subst ho
            intro wz hSw
            try dsimp only at hSw
            go_simp
            try with_reducible rfl
          try simp only [Act.put, List.setIfInBounds_toArray, List.set_cons_zero, List.set_cons_succ]
          refine hand_take (i := 3) (d := some 40) (v := ?_) rfl (by kernel_rfl) (by kernel_rfl) (by kernel_rfl) (fun _ _ _ h => h) ?_ hHeld ?_
          rotate_left
          · intro o ho
            simp at ho
            subst ho
            intro wz hSw
            try dsimp only at hSw
            go_simp
            try with_reducible rfl
          try simp only [Act.put, List.setIfInBounds_toArray, List.set_cons_zero, List.set_cons_succ]
          refine hand_take (i := 6) (d := some 43) (v := ?_) rfl (by kernel_rfl) (by kernel_rfl) (by kernel_rfl) (fun _ _ _ h => h) ?_ hHeld ?_
          rotate_left
          · intro o ho
            simp at ho
            subst ho
            intro wz hSw
            try dsimp only at hSw
            go_simp
            try with_reducible rfl
          try simp only [Act.put, List.setIfInBounds_toArray, List.set_cons_zero, List.set_cons_succ]
          refine hand_take (i := 7) (d := some 44) (v := ?_) rfl (by kernel_rfl) (by kernel_rfl) (by kernel_rfl) (fun _ _ _ h => h) ?_ hHeld ?_
          rotate_left
          · intro o ho
            simp at ho
            subst ho
            intro wz hSw
            try dsimp only at hSw
            go_simp
            try with_reducible rfl
          try simp only [Act.put, List.setIfInBounds_toArray, List.set_cons_zero, List.set_cons_succ]
          refine hand_take (i := 8) (d := some 45) (v := ?_) rfl (by kernel_rfl) (by kernel_rfl) (by kernel_rfl) (fun _ _ _ h => h) ?_ hHeld ?_
          rotate_left
          · intro o ho
            simp at ho
            subst ho
            intro wz hSw
            try dsimp only at hSw
            go_simp
            try with_reducible rfl
          try simp only [Act.put, List.setIfInBounds_toArray, List.set_cons_zero, List.set_cons_succ]
          refine hand_call (i := 1) rfl (by kernel_rfl) ?_
          intro o ho
          simp at ho
          subst ho
          intro K hK
          go_simp
          refine hK.out _ _ ?_ (fun hHeld => ?_)
          · exact (((Below.refl W0.heap.size W0).alloc (Nat.le_refl _) _).drew.cell (p := ⟨wr.heap.size, 2, none⟩) (show wr.heap.size < W0.heap.size by omega)).trans y2
          clear hK K
          try simp only [Act.put, List.setIfInBounds_toArray, List.set_cons_zero, List.set_cons_succ]
          refine hand_call (i := 4) rfl (by kernel_rfl) ?_
          intro o ho
          simp at ho
          subst ho
          intro K hK
          refine wp_app (.tmp 38) (.tmp 40) rfl rfl rfl (own_emp (N := wr.heap.size + 1) (by simp [hs0])) ((unhide hv0).carry (fun _ hq => Below.heap_alloc _ _ _ hq)) (by simp; omega) M.length (by simp) ?_
          intro aoa capa wA ga howna hapa
          have hBa : Below W0.heap.size W0 wA := (((Below.refl W0.heap.size W0).alloc (Nat.le_refl _) (.cells #[] 37)).drew).trans (hapa.fr.below (by omega) (by omega) (by simp))
          have ya : wA.cell? ⟨wr.heap.size, 2, none⟩ = some (.slice aoj M.length capj) := (hBa.cell (p := ⟨wr.heap.size, 2, none⟩) (show wr.heap.size < W0.heap.size by omega)).trans y2
          have hta := hide ((unhide ht0).below hBa)
          have hva := hide ((unhide hv0).below hBa)
          have hba : Below w.heap.size w wA := (unhide hb0).trans (hBa.mono (by omega))
          have sa := hBa.size
          rw [List.nil_append] at howna
          replace howna := hide howna
          replace hba := hide hba
          clear hapa hBa ht0 hv0 hb0 hHeld y2
          refine hK.out _ _ ?_ (fun hHeld => ?_)
          · exact ya
          clear hK K
          try simp only [Act.put, List.setIfInBounds_toArray, List.set_cons_zero, List.set_cons_succ]
          refine hand_call (i := 5) rfl (by kernel_rfl) ?_
          intro o ho
          simp at ho
          subst ho
          intro K hK
          go_simp
          go_at_call 13
          refine (send_c p g ga R L M _ _ (unhide hta).n (unhide howna).view).mono ?_
          rw [hok.out, hN.out]
          rintro e wS ⟨rfl, g4, n1, f1, e1⟩
          have sS := f1.size
          have yS : wS.cell? ⟨wr.heap.size, 2, none⟩ = some (.slice aoj M.length capj) := (f1.cell (by omega) (by omega) (by omega)).trans ya
          have hmS := hide ((unhide hta).other f1)
          have hvS := hide ((unhide hva).fr f1 (fun hne => by have := unhide h9 hne; omega))
          have hbS : Below w.heap.size w wS := (unhide hba).trans (f1.below bp bg (by omega))
          replace n1 := hide n1
          replace f1 := hide f1
          replace hbS := hide hbS
          clear hva hba hHeld ya howna
          refine hK.out _ _ ?_ (fun hHeld => ?_)
          · exact yS
          clear hK K
          try simp only [Act.put, List.setIfInBounds_toArray, List.set_cons_zero, List.set_cons_succ]
          refine hand_call (i := 9) rfl (by kernel_rfl) ?_
          intro o ho
          simp at ho
          subst ho
          intro K hK
          go_simp
          go_at_call 14
          refine (rsend_c Qm h bm R L M _ _ (unhide hmS) (unhide hvS) (by omega)).mono ?_
          rw [hok.out, hN.out]
          rintro e wT ⟨rfl, h5, n2, f2, e2⟩
          have sT := f2.size
          have yT : wT.cell? ⟨wr.heap.size, 2, none⟩ = some (.slice aoj M.length capj) := (f2.cell (by omega) (by omega) (by omega)).trans yS
          have htx := hide ((unhide hta).both (unhide n1) (unhide f1) e1 (Below.refl _ _) n2 f2 e2 (by omega))
          have hBx : Below w.heap.size w wT := (unhide hbS).trans (f2.below hQw bh (by omega))
          replace hBx := hide hBx
          clear hvS hbS hHeld yS n1 f1 n2 f2 hta hmS
          refine hK.out _ _ ?_ (fun hHeld => ?_)
          · exact yT
          clear hK K
          try simp only [Act.put, List.setIfInBounds_toArray, List.set_cons_zero, List.set_cons_succ]
          refine hand_take (i := 10) (d := some 47) (v := ?_) rfl (by kernel_rfl) (by kernel_rfl) (by kernel_rfl) (fun _ _ _ h => h) ?_ hHeld ?_
          rotate_left
          · intro o ho
            simp at ho
            subst ho
            intro wz hSw
            try dsimp only at hSw
            go_simp
            try with_reducible rfl
          try simp only [Act.put, List.setIfInBounds_toArray, List.set_cons_zero, List.set_cons_succ]
          refine wpAnyH_done (by kernel_rfl) (NoPanic.normal ?_) _
          clear hHeld
          obtain ⟨vmv, hm1, hmo, _⟩ := (unhide htx).m.c1
          have vm := hide hmo.view
          obtain ⟨aom, capm, rfl, _⟩ := hmo
          go_wp2_with fail
          refine wp_region_noPanic ?_
          refine wp_region_held_drew (S := (fun wx : World => wx.cell? ⟨Qm, 1, none⟩ = some (.slice aom (N).length capm))) (by kernel_rfl) ?_ (fun hHeld => ?_)
          · exact hm1
          refine hand_take (i := 0) (d := some 95) (v := ?_) rfl (by kernel_rfl) (by kernel_rfl) (by kernel_rfl) (fun _ _ _ h => h) ?_ hHeld ?_
          rotate_left
          · intro o ho
            simp at ho
            subst ho
            intro wz hSw
            try dsimp only at hSw
            go_simp
            try with_reducible rfl
          try simp only [Act.put, List.setIfInBounds_toArray, List.set_cons_zero, List.set_cons_succ]
          refine hand_take (i := 2) (d := some 97) (v := ?_) rfl (by kernel_rfl) (by kernel_rfl) (by kernel_rfl) (fun _ _ _ h => h) ?_ hHeld ?_
          rotate_left
          · intro o ho
            simp at ho
            subst ho
            intro wz hSw
            try dsimp only at hSw
            go_simp
            try with_reducible rfl
          try simp only [Act.put, List.setIfInBounds_toArray, List.set_cons_zero, List.set_cons_succ]
          refine hand_take (i := 3) (d := some 98) (v := ?_) rfl (by kernel_rfl) (by kernel_rfl) (by kernel_rfl) (fun _ _ _ h => h) ?_ hHeld ?_
          rotate_left
          · intro o ho
            simp at ho
            subst ho
            intro wz hSw
            try dsimp only at hSw
            go_simp
            try with_reducible rfl
          try simp only [Act.put, List.setIfInBounds_toArray, List.set_cons_zero, List.set_cons_succ]
          refine hand_take (i := 4) (d := some 99) (v := ?_) rfl (by kernel_rfl) (by kernel_rfl) (by kernel_rfl) (fun _ _ _ h => h) ?_ hHeld ?_
          rotate_left
          · intro o ho
            simp at ho
            subst ho
            intro wz hSw
            try dsimp only at hSw
            go_simp
            try with_reducible rfl
          try simp only [Act.put, List.setIfInBounds_toArray, List.set_cons_zero, List.set_cons_succ]
          refine hand_take (i := 5) (d := some 100) (v := ?_) rfl (by kernel_rfl) (by kernel_rfl) (by kernel_rfl) (fun _ _ _ h => h) ?_ hHeld ?_
          rotate_left
          · intro o ho
            simp at ho
            subst ho
            intro wz hSw
            try dsimp only at hSw
            go_simp
            try with_reducible rfl
          try simp only [Act.put, List.setIfInBounds_toArray, List.set_cons_zero, List.set_cons_succ]
          refine hand_call (i := 1) rfl (by kernel_rfl) ?_
          intro o ho
          simp at ho
          subst ho
          intro K hK
          go_simp
          go_at_call 21
          refine (list_v p g4 R (N) _ (by first | exact (unhide htx).n | exact (unhide htx).n.drew) (N).length rfl).mono ?_
          rintro e wl ⟨aol, capl, bl, rfl, vl, _, hBl⟩
          have htl := hide (Two.below (w := wT.drew) (unhide htx).drew hBl)
          have hml : wl.cell? ⟨Qm, 1, none⟩ = some (.slice aom (N).length capm) := (hBl.cell (p := ⟨Qm, 1, none⟩) (unhide htx).m.pl).trans hm1
          have vml := hide (View.below (w := wT.drew) ((unhide vm).carry fun _ _ => rfl) hBl)
          have hBL : Below w.heap.size w wl := ((unhide hBx).drew).trans (hBl.mono (unhide hBx).size)
          clear hBl hHeld hBx htx vm hm1
          replace hBL := hide hBL
          replace vl := hide vl
          refine hK.out _ _ ?_ (fun hHeld => ?_)
          · exact hml
          clear hK K
          try simp only [Act.put, List.setIfInBounds_toArray, List.set_cons_zero, List.set_cons_succ]
          refine hand_call (i := 6) rfl (by kernel_rfl) ?_
          intro o ho
          simp at ho
          subst ho
          intro K hK
          go_simp
          go_at_call 20
          refine (same_c _ _ bl h5 (N) _ (unhide vl) (unhide vml)).mono ?_
          rintro e wm ⟨rfl, nm, hwm⟩
          have htm : Hid (Two w.heap.size wm p g4 Qm h5 R (N)) := by rw [hwm]; exact (unhide htl).drewN nm
          have hBm : Hid (Below w.heap.size w wm) := by rw [hwm]; exact belowN (unhide hBL) nm
          have hmm : wm.cell? ⟨Qm, 1, none⟩ = some (.slice aom (N).length capm) := by rw [hwm]; exact hml
          clear hwm hHeld hml htl hBL vl vml
          refine hK.out _ _ ?_ (fun hHeld => ?_)
          · exact hmm
          clear hK K
          try simp only [Act.put, List.setIfInBounds_toArray, List.set_cons_zero, List.set_cons_succ]
          refine hand_take (i := 7) (d := some 102) (v := ?_) rfl (by kernel_rfl) (by kernel_rfl) (by kernel_rfl) (fun _ _ _ h => h) ?_ hHeld ?_
          rotate_left
          · intro o ho
            simp at ho
            subst ho
            intro wz hSw
            try dsimp only at hSw
            go_simp
            try with_reducible rfl
          try simp only [Act.put, List.setIfInBounds_toArray, List.set_cons_zero, List.set_cons_succ]
          refine wpAnyH_done (by kernel_rfl) (NoPanic.normal ?_) _
          clear hHeld
          go_wp2_with fail
          go_roundw
          case rel => exact ⟨j + 1, p, g4, h5, N, by omega, by simp, rfl, unhide htm, unhide hBm⟩
          case measure => simp [intOf]; omega
        · by_cases k2 : k = 2
          · subst k2
            obtain ⟨l, hl9⟩ : ∃ l, Hid (leT L i = l) := ⟨_, rfl⟩
            obtain ⟨N, hN⟩ : ∃ N, Hid (nxT L i = N) := ⟨_, rfl⟩
            obtain ⟨ok, hok⟩ : ∃ ok, Hid (okT L i = ok) := ⟨_, rfl⟩
            go_wp2_with fail
            go_at_call 15
            refine (take_c p g R i L _ ((unhide ht).alloc _).n).mono ?_
            rw [hok.out, hN.out, hl9.out]
            simp only [letV]
            rintro e w5 ⟨rfl, n1, f1⟩
            have s5 := f1.size
            simp only [World.size_alloc] at s5
            obtain ⟨_, y1, _⟩ := box_act (w := w5) (b := wr.heap.size) ((f1.block wr.heap.size (by simp) (by omega) (by omega)).trans (alloc_at0 wr _))
            have hmS := hide (((unhide ht).alloc _).other f1)
            have hb5 : Below w.heap.size w w5 := ((unhide hb).alloc sz _).trans (f1.below bp bg (by simp; omega))
            have u5 : wr.heap.size < w5.heap.size := by omega
            replace n1 := hide n1
            replace f1 := hide f1
            replace hb5 := hide hb5
            go_wp2_with fail
            go_at_call 16
            refine (rtake_c Qm h R i L _ ((unhide hmS).alloc _)).mono ?_
            rw [hok.out, hN.out, hl9.out]
            simp only [letV]
            rintro e w6 ⟨rfl, h6, n2, f2, e2⟩
            have s6 := f2.size
            simp only [World.size_alloc] at s6
            obtain ⟨a0, a1, a2, a3, a4, a5, a6, a7, a8, a9, a10, _⟩ := box_let (w := w6) (b := w5.heap.size) l ((f2.block w5.heap.size (by simp) (by omega) (by omega)).trans (alloc_at0 w5 _))
            have htx := hide ((((unhide ht).alloc _).both (unhide n1) (unhide f1) (.inl rfl) ((Below.refl _ _).alloc (Nat.le_refl _) _) n2 f2 e2 (by simp; omega)).alloc (lObj l))
            have hBx : Below w.heap.size w (w6.alloc (lObj l)) := ((((unhide hb5).alloc (by omega) _).trans (f2.below hQw bh (by simp; omega))).alloc (by omega) _)
            have u6 : w5.heap.size < w6.heap.size := by omega
            replace hBx := hide hBx
            clear n1 f1 hb5 n2 f2 hmS ht hb hv y1
            have hbb : (ok != ok) = false := by simp
            obtain ⟨vmv, hm1, hmo, _⟩ := (unhide htx).m.c1
            have vm := hide hmo.view
            obtain ⟨aom, capm, rfl, _⟩ := hmo
            go_wp2_with fail
            refine wp_region_noPanic ?_
            refine wp_region_held_drew (S := (fun wx : World => wx.cell? ⟨Qm, 1, none⟩ = some (.slice aom (N).length capm))) (by kernel_rfl) ?_ (fun hHeld => ?_)
            · exact hm1
            refine hand_take (i := 0) (d := some 95) (v := ?_) rfl (by kernel_rfl) (by kernel_rfl) (by kernel_rfl) (fun _ _ _ h => h) ?_ hHeld ?_
            rotate_left
            · intro o ho
              simp at ho
              subst ho
              intro wz hSw
              try dsimp only at hSw
              go_simp
              try with_reducible rfl
            try simp only [Act.put, List.setIfInBounds_toArray, List.set_cons_zero, List.set_cons_succ]
            refine hand_take (i := 2) (d := some 97) (v := ?_) rfl (by kernel_rfl) (by kernel_rfl) (by kernel_rfl) (fun _ _ _ h => h) ?_ hHeld ?_
            rotate_left
            · intro o ho
              simp at ho
              subst ho
              intro wz hSw
              try dsimp only at hSw
              go_simp
              try with_reducible rfl
            try simp only [Act.put, List.setIfInBounds_toArray, List.set_cons_zero, List.set_cons_succ]
            refine hand_take (i := 3) (d := some 98) (v := ?_) rfl (by kernel_rfl) (by kernel_rfl) (by kernel_rfl) (fun _ _ _ h => h) ?_ hHeld ?_
            rotate_left
            · intro o ho
              simp at ho
              subst ho
              intro wz hSw
              try dsimp only at hSw
              go_simp
              try with_reducible rfl
            try simp only [Act.put, List.setIfInBounds_toArray, List.set_cons_zero, List.set_cons_succ]
            refine hand_take (i := 4) (d := some 99) (v := ?_) rfl (by kernel_rfl) (by kernel_rfl) (by kernel_rfl) (fun _ _ _ h => h) ?_ hHeld ?_
            rotate_left
            · intro o ho
              simp at ho
              subst ho
              intro wz hSw
              try dsimp only at hSw
              go_simp
              try with_reducible rfl
            try simp only [Act.put, List.setIfInBounds_toArray, List.set_cons_zero, List.set_cons_succ]
            refine hand_take (i := 5) (d := some 100) (v := ?_) rfl (by kernel_rfl) (by kernel_rfl) (by kernel_rfl) (fun _ _ _ h => h) ?_ hHeld ?_
            rotate_left
            · intro o ho
              simp at ho
              subst ho
              intro wz hSw
              try dsimp only at hSw
              go_simp
              try with_reducible rfl
            try simp only [Act.put, List.setIfInBounds_toArray, List.set_cons_zero, List.set_cons_succ]
            refine hand_call (i := 1) rfl (by kernel_rfl) ?_
            intro o ho
            simp at ho
            subst ho
            intro K hK
            go_simp
            go_at_call 21
            refine (list_v p g R (N) _ (by first | exact (unhide htx).n | exact (unhide htx).n.drew) (N).length rfl).mono ?_
            rintro e wl ⟨aol, capl, bl, rfl, vl, _, hBl⟩
            have htl := hide (Two.below (w := (w6.alloc (lObj l)).drew) (unhide htx).drew hBl)
            have hml : wl.cell? ⟨Qm, 1, none⟩ = some (.slice aom (N).length capm) := (hBl.cell (p := ⟨Qm, 1, none⟩) (unhide htx).m.pl).trans hm1
            have vml := hide (View.below (w := (w6.alloc (lObj l)).drew) ((unhide vm).carry fun _ _ => rfl) hBl)
            have hBL : Below w.heap.size w wl := ((unhide hBx).drew).trans (hBl.mono (unhide hBx).size)
            clear hBl hHeld hBx htx vm hm1
            replace hBL := hide hBL
            replace vl := hide vl
            refine hK.out _ _ ?_ (fun hHeld => ?_)
            · exact hml
            clear hK K
            try simp only [Act.put, List.setIfInBounds_toArray, List.set_cons_zero, List.set_cons_succ]
            refine hand_call (i := 6) rfl (by kernel_rfl) ?_
            intro o ho
            simp at ho
            subst ho
            intro K hK
            go_simp
            go_at_call 20
            refine (same_c _ _ bl h6 (N) _ (unhide vl) (unhide vml)).mono ?_
            rintro e wm ⟨rfl, nm, hwm⟩
            have htm : Hid (Two w.heap.size wm p g Qm h6 R (N)) := by rw [hwm]; exact (unhide htl).drewN nm
            have hBm : Hid (Below w.heap.size w wm) := by rw [hwm]; exact belowN (unhide hBL) nm
            have hmm : wm.cell? ⟨Qm, 1, none⟩ = some (.slice aom (N).length capm) := by rw [hwm]; exact hml
            clear hwm hHeld hml htl hBL vl vml
            refine hK.out _ _ ?_ (fun hHeld => ?_)
            · exact hmm
            clear hK K
            try simp only [Act.put, List.setIfInBounds_toArray, List.set_cons_zero, List.set_cons_succ]
            refine hand_take (i := 7) (d := some 102) (v := ?_) rfl (by kernel_rfl) (by kernel_rfl) (by kernel_rfl) (fun _ _ _ h => h) ?_ hHeld ?_
            rotate_left
            · intro o ho
              simp at ho
              subst ho
              intro wz hSw
              try dsimp only at hSw
              go_simp
              try with_reducible rfl
            try simp only [Act.put, List.setIfInBounds_toArray, List.set_cons_zero, List.set_cons_succ]
            refine wpAnyH_done (by kernel_rfl) (NoPanic.normal ?_) _
            clear hHeld
            go_wp2_with fail
            go_roundw
            case rel => exact ⟨j + 1, p, g, h6, N, by omega, by simp, rfl, unhide htm, unhide hBm⟩
            case measure => simp [intOf]; omega
          · by_cases k3 : k = 3
            · subst k3
              obtain ⟨W0, hW0⟩ : ∃ W0, wr.alloc (aObj 3 i (.slice aoj M.length capj)) = W0 := ⟨_, rfl⟩
              have hs0 : W0.heap.size = wr.heap.size + 1 := by rw [← hW0]; simp
              have y1 : W0.cell? ⟨wr.heap.size, 1, none⟩ = some (.int .i64 i) := by rw [← hW0]; simp
              have ht0 : Hid (Two w.heap.size W0 p g Qm h R L) := by rw [← hW0]; exact (unhide ht).alloc _
              have hb0 : Hid (Below w.heap.size w W0) := by rw [← hW0]; exact (unhide hb).alloc sz _
              replace hW0 := hide hW0
              clear ht hb hv
              obtain ⟨N, hN⟩ : ∃ N, Hid (nxD L i = N) := ⟨_, rfl⟩
              obtain ⟨ok, hok⟩ : ∃ ok, Hid (okD L i = ok) := ⟨_, rfl⟩
              go_upto_region 19 with fail
              rw [hW0.out]
              refine wp_region_noPanic ?_
              refine wp_region_held_drew (S := (fun wx : World => wx.cell? ⟨wr.heap.size, 1, none⟩ = some (.int .i64 i))) (by kernel_rfl) ?_ (fun hHeld => ?_)
              · exact y1
              refine hand_take (i := 0) (d := some 74) (v := ?_) rfl (by kernel_rfl) (by kernel_rfl) (by kernel_rfl) (fun _ _ _ h => h) ?_ hHeld ?_
              rotate_left
              · intro o ho
                simp at ho
                subst ho
                intro wz hSw
                try dsimp only at hSw
                go_simp
                try with_reducible rfl
              try simp only [Act.put, List.setIfInBounds_toArray, List.set_cons_zero, List.set_cons_succ]
              refine hand_take (i := 1) (d := some 75) (v := ?_) rfl (by kernel_rfl) (by kernel_rfl) (by kernel_rfl) (fun _ _ _ h => h) ?_ hHeld ?_
              rotate_left
              · intro o ho
                simp at ho
                subst ho
                intro wz hSw
                try dsimp only at hSw
                go_simp
                try with_reducible rfl
              try simp only [Act.put, List.setIfInBounds_toArray, List.set_cons_zero, List.set_cons_succ]
              refine hand_take (i := 2) (d := some 76) (v := ?_) rfl (by kernel_rfl) (by kernel_rfl) (by kernel_rfl) (fun _ _ _ h => h) ?_ hHeld ?_
              rotate_left
              · intro o ho
                simp at ho
                subst ho
                intro wz hSw
                try dsimp only at hSw
                go_simp
                try with_reducible rfl
              try simp only [Act.put, List.setIfInBounds_toArray, List.set_cons_zero, List.set_cons_succ]
              refine hand_take (i := 4) (d := some 78) (v := ?_) rfl (by kernel_rfl) (by kernel_rfl) (by kernel_rfl) (fun _ _ _ h => h) ?_ hHeld ?_
              rotate_left
              · intro o ho
                simp at ho
                subst ho
                intro wz hSw
                try dsimp only at hSw
                go_simp
                try with_reducible rfl
              try simp only [Act.put, List.setIfInBounds_toArray, List.set_cons_zero, List.set_cons_succ]
              refine hand_take (i := 5) (d := some 79) (v := ?_) rfl (by kernel_rfl) (by kernel_rfl) (by kernel_rfl) (fun _ _ _ h => h) ?_ hHeld ?_
              rotate_left
              · intro o ho
                simp at ho
                subst ho
                intro wz hSw
                try dsimp only at hSw
                go_simp
                try with_reducible rfl
              try simp only [Act.put, List.setIfInBounds_toArray, List.set_cons_zero, List.set_cons_succ]
              refine hand_take (i := 6) (d := some 80) (v := ?_) rfl (by kernel_rfl) (by kernel_rfl) (by kernel_rfl) (fun _ _ _ h => h) ?_ hHeld ?_
              rotate_left
              · intro o ho
                simp at ho
                subst ho
                intro wz hSw
                try dsimp only at hSw
                go_simp
                try with_reducible rfl
              try simp only [Act.put, List.setIfInBounds_toArray, List.set_cons_zero, List.set_cons_succ]
              refine hand_call (i := 3) rfl (by kernel_rfl) ?_
              intro o ho
              simp at ho
              subst ho
              intro K hK
              go_simp
              go_at_call 17
              refine (drop_c p g R i L _ (unhide ht0).n.drew).mono ?_
              rw [hok.out, hN.out]
              rintro e wS ⟨rfl, n1, f1⟩
              have sS := f1.size
              simp only [World.size_drew, hs0] at sS
              have yS : wS.cell? ⟨wr.heap.size, 1, none⟩ = some (.int .i64 i) := (f1.cell (show wr.heap.size < W0.heap.size by omega) (by omega) (by omega)).trans y1
              have hmS := hide ((unhide ht0).drew.other f1)
              have hbS : Below w.heap.size w wS := ((unhide hb0).drew).trans (f1.below bp bg (show w.heap.size ≤ W0.heap.size by omega))
              replace n1 := hide n1
              replace f1 := hide f1
              replace hbS := hide hbS
              clear hb0 hHeld y1
              refine hK.out _ _ ?_ (fun hHeld => ?_)
              · exact yS
              clear hK K
              try simp only [Act.put, List.setIfInBounds_toArray, List.set_cons_zero, List.set_cons_succ]
              refine hand_call (i := 7) rfl (by kernel_rfl) ?_
              intro o ho
              simp at ho
              subst ho
              intro K hK
              go_simp
              go_at_call 18
              refine (rdrop_c Qm h R i L _ (unhide hmS)).mono ?_
              rw [hok.out, hN.out]
              rintro e wT ⟨rfl, h5, n2, f2, e2⟩
              have sT := f2.size
              have yT : wT.cell? ⟨wr.heap.size, 1, none⟩ = some (.int .i64 i) := (f2.cell (by omega) (by omega) (by omega)).trans yS
              have htx := hide ((unhide ht0).drew.both (unhide n1) (unhide f1) (.inl rfl) (Below.refl _ _) n2 f2 e2 (show w.heap.size ≤ W0.heap.size by omega))
              have hBx : Below w.heap.size w wT := (unhide hbS).trans (f2.below hQw bh (by omega))
              replace hBx := hide hBx
              clear hbS hHeld yS n1 f1 n2 f2 ht0 hmS
              refine hK.out _ _ ?_ (fun hHeld => ?_)
              · exact yT
              clear hK K
              try simp only [Act.put, List.setIfInBounds_toArray, List.set_cons_zero, List.set_cons_succ]
              refine hand_take (i := 8) (d := some 82) (v := ?_) rfl (by kernel_rfl) (by kernel_rfl) (by kernel_rfl) (fun _ _ _ h => h) ?_ hHeld ?_
              rotate_left
              · intro o ho
                simp at ho
                subst ho
                intro wz hSw
                try dsimp only at hSw
                go_simp
                try with_reducible rfl
              try simp only [Act.put, List.setIfInBounds_toArray, List.set_cons_zero, List.set_cons_succ]
              refine wpAnyH_done (by kernel_rfl) (NoPanic.normal ?_) _
              clear hHeld
              obtain ⟨vmv, hm1, hmo, _⟩ := (unhide htx).m.c1
              have vm := hide hmo.view
              obtain ⟨aom, capm, rfl, _⟩ := hmo
              go_wp2_with fail
              refine wp_region_noPanic ?_
              refine wp_region_held_drew (S := (fun wx : World => wx.cell? ⟨Qm, 1, none⟩ = some (.slice aom (N).length capm))) (by kernel_rfl) ?_ (fun hHeld => ?_)
              · exact hm1
              refine hand_take (i := 0) (d := some 95) (v := ?_) rfl (by kernel_rfl) (by kernel_rfl) (by kernel_rfl) (fun _ _ _ h => h) ?_ hHeld ?_
              rotate_left
              · intro o ho
                simp at ho
                subst ho
                intro wz hSw
                try dsimp only at hSw
                go_simp
                try with_reducible rfl
              try simp only [Act.put, List.setIfInBounds_toArray, List.set_cons_zero, List.set_cons_succ]
              refine hand_take (i := 2) (d := some 97) (v := ?_) rfl (by kernel_rfl) (by kernel_rfl) (by kernel_rfl) (fun _ _ _ h => h) ?_ hHeld ?_
              rotate_left
              · intro o ho
                simp at ho
                subst ho
                intro wz hSw
                try dsimp only at hSw
                go_simp
                try with_reducible rfl
              try simp only [Act.put, List.setIfInBounds_toArray, List.set_cons_zero, List.set_cons_succ]
              refine hand_take (i := 3) (d := some 98) (v := ?_) rfl (by kernel_rfl) (by kernel_rfl) (by kernel_rfl) (fun _ _ _ h => h) ?_ hHeld ?_
              rotate_left
              · intro o ho
                simp at ho
                subst ho
                intro wz hSw
                try dsimp only at hSw
                go_simp
                try with_reducible rfl
              try simp only [Act.put, List.setIfInBounds_toArray, List.set_cons_zero, List.set_cons_succ]
              refine hand_take (i := 4) (d := some 99) (v := ?_) rfl (by kernel_rfl) (by kernel_rfl) (by kernel_rfl) (fun _ _ _ h => h) ?_ hHeld ?_
              rotate_left
              · intro o ho
                simp at ho
                subst ho
                intro wz hSw
                try dsimp only at hSw
                go_simp
                try with_reducible rfl
              try simp only [Act.put, List.setIfInBounds_toArray, List.set_cons_zero, List.set_cons_succ]
              refine hand_take (i := 5) (d := some 100) (v := ?_) rfl (by kernel_rfl) (by kernel_rfl) (by kernel_rfl) (fun _ _ _ h => h) ?_ hHeld ?_
              rotate_left
              · intro o ho
                simp at ho
                subst ho
                intro wz hSw
                try dsimp only at hSw
                go_simp
                try with_reducible rfl
              try simp only [Act.put, List.setIfInBounds_toArray, List.set_cons_zero, List.set_cons_succ]
              refine hand_call (i := 1) rfl (by kernel_rfl) ?_
              intro o ho
              simp at ho
              subst ho
              intro K hK
              go_simp
              go_at_call 21
              refine (list_v p g R (N) _ (by first | exact (unhide htx).n | exact (unhide htx).n.drew) (N).length rfl).mono ?_
              rintro e wl ⟨aol, capl, bl, rfl, vl, _, hBl⟩
              have htl := hide (Two.below (w := wT.drew) (unhide htx).drew hBl)
              have hml : wl.cell? ⟨Qm, 1, none⟩ = some (.slice aom (N).length capm) := (hBl.cell (p := ⟨Qm, 1, none⟩) (unhide htx).m.pl).trans hm1
              have vml := hide (View.below (w := wT.drew) ((unhide vm).carry fun _ _ => rfl) hBl)
              have hBL : Below w.heap.size w wl := ((unhide hBx).drew).trans (hBl.mono (unhide hBx).size)
              clear hBl hHeld hBx htx vm hm1
              replace hBL := hide hBL
              replace vl := hide vl
              refine hK.out _ _ ?_ (fun hHeld => ?_)
              · exact hml
              clear hK K
              try simp only [Act.put, List.setIfInBounds_toArray, List.set_cons_zero, List.set_cons_succ]
              refine hand_call (i := 6) rfl (by kernel_rfl) ?_
              intro o ho
              simp at ho
              subst ho
              intro K hK
              go_simp
              go_at_call 20
              refine (same_c _ _ bl h5 (N) _ (unhide vl) (unhide vml)).mono ?_
              rintro e wm ⟨rfl, nm, hwm⟩
              have htm : Hid (Two w.heap.size wm p g Qm h5 R (N)) := by rw [hwm]; exact (unhide htl).drewN nm
              have hBm : Hid (Below w.heap.size w wm) := by rw [hwm]; exact belowN (unhide hBL) nm
              have hmm : wm.cell? ⟨Qm, 1, none⟩ = some (.slice aom (N).length capm) := by rw [hwm]; exact hml
              clear hwm hHeld hml htl hBL vl vml
              refine hK.out _ _ ?_ (fun hHeld => ?_)
              · exact hmm
              clear hK K
              try simp only [Act.put, List.setIfInBounds_toArray, List.set_cons_zero, List.set_cons_succ]
              refine hand_take (i := 7) (d := some 102) (v := ?_) rfl (by kernel_rfl) (by kernel_rfl) (by kernel_rfl) (fun _ _ _ h => h) ?_ hHeld ?_
              rotate_left
              · intro o ho
                simp at ho
                subst ho
                intro wz hSw
                try dsimp only at hSw
                go_simp
                try with_reducible rfl
              try simp only [Act.put, List.setIfInBounds_toArray, List.set_cons_zero, List.set_cons_succ]
              refine wpAnyH_done (by kernel_rfl) (NoPanic.normal ?_) _
              clear hHeld
              go_wp2_with fail
              go_roundw
              case rel => exact ⟨j + 1, p, g, h5, N, by omega, by simp, rfl, unhide htm, unhide hBm⟩
              case measure => simp [intOf]; omega
            · by_cases k4 : k = 4
              · subst k4
                go_wp2_with fail
                go_at_call 19
                refine (copy_c p g R L _ ((unhide ht).alloc _).n).mono ?_
                rintro e w5 ⟨p5, g5, rfl, n5, hp5, hg5, hB5⟩
                have s5 := hB5.size
                simp only [World.size_alloc] at s5 hp5 hg5
                have t5 := hide (((unhide ht).alloc _).below hB5)
                have hb5 : Below w.heap.size w w5 := ((unhide hb).alloc sz _).trans (hB5.mono (by simp; omega))
                have l5 := n5.pl
                have m5 := n5.gl
                replace n5 := hide n5
                replace hb5 := hide hb5
                clear hB5 ht hb
                go_wp2_with fail
                go_at_call 15
                refine (take_c p5 g5 R 0 L _ (unhide n5)).mono ?_
                simp only [letV]
                rintro e w6 ⟨rfl, _, f6⟩
                have s6 := f6.size
                have hn6 := hide ((unhide t5).n.fr f6 (by omega) (by omega) (by omega) (by omega))
                have hm6 := hide ((unhide t5).m.fr f6 (by omega) (by omega) (by omega) (by omega))
                have hb6 : Below w.heap.size w w6 := (unhide hb5).trans (f6.below (by omega) (by omega) (by omega))
                replace hb6 := hide hb6
                clear f6 t5 hb5 n5
                go_wp2_with fail
                go_at_call 19
                refine (copy_c p g R L _ (unhide hn6)).mono ?_
                rintro e w7 ⟨p7, g7, rfl, n7, hp7, hg7, hB7⟩
                have s7 := hB7.size
                have htx : Hid (Two w.heap.size w7 p7 g7 Qm h R L) := { n := n7, m := (unhide hm6).below hB7, bp := by omega, bg := by omega, bq := by omega, bh := bh, pq := by omega, ph := by omega, gq := by omega, gh := by omega }
                have hBx : Below w.heap.size w w7 := (unhide hb6).trans (hB7.mono (by omega))
                replace hBx := hide hBx
                clear hn6 hm6 hb6 n7 hB7 hv
                obtain ⟨vmv, hm1, hmo, _⟩ := (unhide htx).m.c1
                have vm := hide hmo.view
                obtain ⟨aom, capm, rfl, _⟩ := hmo
                go_wp2_with fail
                refine wp_region_noPanic ?_
                refine wp_region_held_drew (S := (fun wx : World => wx.cell? ⟨Qm, 1, none⟩ = some (.slice aom (L).length capm))) (by kernel_rfl) ?_ (fun hHeld => ?_)
                · exact hm1
                refine hand_take (i := 0) (d := some 95) (v := ?_) rfl (by kernel_rfl) (by kernel_rfl) (by kernel_rfl) (fun _ _ _ h => h) ?_ hHeld ?_
                rotate_left
                · intro o ho
                  simp at ho
                  subst ho
                  intro wz hSw
                  try dsimp only at hSw
                  go_simp
                  try with_reducible rfl
                try simp only [Act.put, List.setIfInBounds_toArray, List.set_cons_zero, List.set_cons_succ]
                refine hand_take (i := 2) (d := some 97) (v := ?_) rfl (by kernel_rfl) (by kernel_rfl) (by kernel_rfl) (fun _ _ _ h => h) ?_ hHeld ?_
                rotate_left
                · intro o ho
                  simp at ho
                  subst ho
                  intro wz hSw
                  try dsimp only at hSw
                  go_simp
                  try with_reducible rfl
                try simp only [Act.put, List.setIfInBounds_toArray, List.set_cons_zero, List.set_cons_succ]
                refine hand_take (i := 3) (d := some 98) (v := ?_) rfl (by kernel_rfl) (by kernel_rfl) (by kernel_rfl) (fun _ _ _ h => h) ?_ hHeld ?_
                rotate_left
                · intro o ho
                  simp at ho
                  subst ho
                  intro wz hSw
                  try dsimp only at hSw
                  go_simp
                  try with_reducible rfl
                try simp only [Act.put, List.setIfInBounds_toArray, List.set_cons_zero, List.set_cons_succ]
                refine hand_take (i := 4) (d := some 99) (v := ?_) rfl (by kernel_rfl) (by kernel_rfl) (by kernel_rfl) (fun _ _ _ h => h) ?_ hHeld ?_
                rotate_left
                · intro o ho
                  simp at ho
                  subst ho
                  intro wz hSw
                  try dsimp only at hSw
                  go_simp
                  try with_reducible rfl
                try simp only [Act.put, List.setIfInBounds_toArray, List.set_cons_zero, List.set_cons_succ]
                refine hand_take (i := 5) (d := some 100) (v := ?_) rfl (by kernel_rfl) (by kernel_rfl) (by kernel_rfl) (fun _ _ _ h => h) ?_ hHeld ?_
                rotate_left
                · intro o ho
                  simp at ho
                  subst ho
                  intro wz hSw
                  try dsimp only at hSw
                  go_simp
                  try with_reducible rfl
                try simp only [Act.put, List.setIfInBounds_toArray, List.set_cons_zero, List.set_cons_succ]
                refine hand_call (i := 1) rfl (by kernel_rfl) ?_
                intro o ho
                simp at ho
                subst ho
                intro K hK
                go_simp
                go_at_call 21
                refine (list_v p7 g7 R (L) _ (by first | exact (unhide htx).n | exact (unhide htx).n.drew) (L).length rfl).mono ?_
                rintro e wl ⟨aol, capl, bl, rfl, vl, _, hBl⟩
                have htl := hide (Two.below (w := w7.drew) (unhide htx).drew hBl)
                have hml : wl.cell? ⟨Qm, 1, none⟩ = some (.slice aom (L).length capm) := (hBl.cell (p := ⟨Qm, 1, none⟩) (unhide htx).m.pl).trans hm1
                have vml := hide (View.below (w := w7.drew) ((unhide vm).carry fun _ _ => rfl) hBl)
                have hBL : Below w.heap.size w wl := ((unhide hBx).drew).trans (hBl.mono (unhide hBx).size)
                clear hBl hHeld hBx htx vm hm1
                replace hBL := hide hBL
                replace vl := hide vl
                refine hK.out _ _ ?_ (fun hHeld => ?_)
                · exact hml
                clear hK K
                try simp only [Act.put, List.setIfInBounds_toArray, List.set_cons_zero, List.set_cons_succ]
                refine hand_call (i := 6) rfl (by kernel_rfl) ?_
                intro o ho
                simp at ho
                subst ho
                intro K hK
                go_simp
                go_at_call 20
                refine (same_c _ _ bl h (L) _ (unhide vl) (unhide vml)).mono ?_
                rintro e wm ⟨rfl, nm, hwm⟩
                have htm : Hid (Two w.heap.size wm p7 g7 Qm h R (L)) := by rw [hwm]; exact (unhide htl).drewN nm
                have hBm : Hid (Below w.heap.size w wm) := by rw [hwm]; exact belowN (unhide hBL) nm
                have hmm : wm.cell? ⟨Qm, 1, none⟩ = some (.slice aom (L).length capm) := by rw [hwm]; exact hml
                clear hwm hHeld hml htl hBL vl vml
                refine hK.out _ _ ?_ (fun hHeld => ?_)
                · exact hmm
                clear hK K
                try simp only [Act.put, List.setIfInBounds_toArray, List.set_cons_zero, List.set_cons_succ]
                refine hand_take (i := 7) (d := some 102) (v := ?_) rfl (by kernel_rfl) (by kernel_rfl) (by kernel_rfl) (fun _ _ _ h => h) ?_ hHeld ?_
                rotate_left
                · intro o ho
                  simp at ho
                  subst ho
                  intro wz hSw
                  try dsimp only at hSw
                  go_simp
                  try with_reducible rfl
                try simp only [Act.put, List.setIfInBounds_toArray, List.set_cons_zero, List.set_cons_succ]
                refine wpAnyH_done (by kernel_rfl) (NoPanic.normal ?_) _
                clear hHeld
                go_wp2_with fail
                go_roundw
                case rel => exact ⟨j + 1, p7, g7, h, L, by omega, by simp, rfl, unhide htm, unhide hBm⟩
                case measure => simp [intOf]; omega
              · have q1 : (k == 1) = false := by simp [k1]
                have q2 : (k == 2) = false := by simp [k2]
                have q3 : (k == 3) = false := by simp [k3]
                have q4 : (k == 4) = false := by simp [k4]
                have r1 : decide (k = 1) = false := by simp [k1]
                have r2 : decide (k = 2) = false := by simp [k2]
                have r3 : decide (k = 3) = false := by simp [k3]
                have r4 : decide (k = 4) = false := by simp [k4]
                have htx := hide ((unhide ht).alloc (aObj k i (.slice aoj M.length capj)))
                have hBx := hide ((unhide hb).alloc sz (aObj k i (.slice aoj M.length capj)))
                clear hv ht hb
                obtain ⟨vmv, hm1, hmo, _⟩ := (unhide htx).m.c1
                have vm := hide hmo.view
                obtain ⟨aom, capm, rfl, _⟩ := hmo
                go_wp2_with fail
                refine wp_region_noPanic ?_
                refine wp_region_held_drew (S := (fun wx : World => wx.cell? ⟨Qm, 1, none⟩ = some (.slice aom (L).length capm))) (by kernel_rfl) ?_ (fun hHeld => ?_)
                · exact hm1
                refine hand_take (i := 0) (d := some 95) (v := ?_) rfl (by kernel_rfl) (by kernel_rfl) (by kernel_rfl) (fun _ _ _ h => h) ?_ hHeld ?_
                rotate_left
                · intro o ho
                  simp at ho
                  subst ho
                  intro wz hSw
                  try dsimp only at hSw
                  go_simp
                  try with_reducible rfl
                try simp only [Act.put, List.setIfInBounds_toArray, List.set_cons_zero, List.set_cons_succ]
                refine hand_take (i := 2) (d := some 97) (v := ?_) rfl (by kernel_rfl) (by kernel_rfl) (by kernel_rfl) (fun _ _ _ h => h) ?_ hHeld ?_
                rotate_left
                · intro o ho
                  simp at ho
                  subst ho
                  intro wz hSw
                  try dsimp only at hSw
                  go_simp
                  try with_reducible rfl
                try simp only [Act.put, List.setIfInBounds_toArray, List.set_cons_zero, List.set_cons_succ]
                refine hand_take (i := 3) (d := some 98) (v := ?_) rfl (by kernel_rfl) (by kernel_rfl) (by kernel_rfl) (fun _ _ _ h => h) ?_ hHeld ?_
                rotate_left
                · intro o ho
                  simp at ho
                  subst ho
                  intro wz hSw
                  try dsimp only at hSw
                  go_simp
                  try with_reducible rfl
                try simp only [Act.put, List.setIfInBounds_toArray, List.set_cons_zero, List.set_cons_succ]
                refine hand_take (i := 4) (d := some 99) (v := ?_) rfl (by kernel_rfl) (by kernel_rfl) (by kernel_rfl) (fun _ _ _ h => h) ?_ hHeld ?_
                rotate_left
                · intro o ho
                  simp at ho
                  subst ho
                  intro wz hSw
                  try dsimp only at hSw
                  go_simp
                  try with_reducible rfl
                try simp only [Act.put, List.setIfInBounds_toArray, List.set_cons_zero, List.set_cons_succ]
                refine hand_take (i := 5) (d := some 100) (v := ?_) rfl (by kernel_rfl) (by kernel_rfl) (by kernel_rfl) (fun _ _ _ h => h) ?_ hHeld ?_
                rotate_left
                · intro o ho
                  simp at ho
                  subst ho
                  intro wz hSw
                  try dsimp only at hSw
                  go_simp
                  try with_reducible rfl
                try simp only [Act.put, List.setIfInBounds_toArray, List.set_cons_zero, List.set_cons_succ]
                refine hand_call (i := 1) rfl (by kernel_rfl) ?_
                intro o ho
                simp at ho
                subst ho
                intro K hK
                go_simp
                go_at_call 21
                refine (list_v p g R (L) _ (by first | exact (unhide htx).n | exact (unhide htx).n.drew) (L).length rfl).mono ?_
                rintro e wl ⟨aol, capl, bl, rfl, vl, _, hBl⟩
                have htl := hide (Two.below (w := (wr.alloc (aObj k i (.slice aoj M.length capj))).drew) (unhide htx).drew hBl)
                have hml : wl.cell? ⟨Qm, 1, none⟩ = some (.slice aom (L).length capm) := (hBl.cell (p := ⟨Qm, 1, none⟩) (unhide htx).m.pl).trans hm1
                have vml := hide (View.below (w := (wr.alloc (aObj k i (.slice aoj M.length capj))).drew) ((unhide vm).carry fun _ _ => rfl) hBl)
                have hBL : Below w.heap.size w wl := ((unhide hBx).drew).trans (hBl.mono (unhide hBx).size)
                clear hBl hHeld hBx htx vm hm1
                replace hBL := hide hBL
                replace vl := hide vl
                refine hK.out _ _ ?_ (fun hHeld => ?_)
                · exact hml
                clear hK K
                try simp only [Act.put, List.setIfInBounds_toArray, List.set_cons_zero, List.set_cons_succ]
                refine hand_call (i := 6) rfl (by kernel_rfl) ?_
                intro o ho
                simp at ho
                subst ho
                intro K hK
                go_simp
                go_at_call 20
                refine (same_c _ _ bl h (L) _ (unhide vl) (unhide vml)).mono ?_
                rintro e wm ⟨rfl, nm, hwm⟩
                have htm : Hid (Two w.heap.size wm p g Qm h R (L)) := by rw [hwm]; exact (unhide htl).drewN nm
                have hBm : Hid (Below w.heap.size w wm) := by rw [hwm]; exact belowN (unhide hBL) nm
                have hmm : wm.cell? ⟨Qm, 1, none⟩ = some (.slice aom (L).length capm) := by rw [hwm]; exact hml
                clear hwm hHeld hml htl hBL vl vml
                refine hK.out _ _ ?_ (fun hHeld => ?_)
                · exact hmm
                clear hK K
                try simp only [Act.put, List.setIfInBounds_toArray, List.set_cons_zero, List.set_cons_succ]
                refine hand_take (i := 7) (d := some 102) (v := ?_) rfl (by kernel_rfl) (by kernel_rfl) (by kernel_rfl) (fun _ _ _ h => h) ?_ hHeld ?_
                rotate_left
                · intro o ho
                  simp at ho
                  subst ho
                  intro wz hSw
                  try dsimp only at hSw
                  go_simp
                  try with_reducible rfl
                try simp only [Act.put, List.setIfInBounds_toArray, List.set_cons_zero, List.set_cons_succ]
                refine wpAnyH_done (by kernel_rfl) (NoPanic.normal ?_) _
                clear hHeld
                go_wp2_with fail
                go_roundw
                case rel => exact ⟨j + 1, p, g, h, L, by omega, by simp, rfl, unhide htm, unhide hBm⟩
                case measure => simp [intOf]; omega
      · replace hb := hide hb
        replace ht := hide ht
        go_wp2_with fail
        go_ret
        exact ⟨rfl, unhide hb⟩
end Go.Proofs.Ytajcebnbmejamaa
