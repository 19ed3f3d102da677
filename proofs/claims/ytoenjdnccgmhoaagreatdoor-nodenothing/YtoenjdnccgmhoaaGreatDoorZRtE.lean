/- layer 15: RtE, put together. -/
import Derived.Test.YtoenjdnccgmhoaaGreatDoorZRtC
namespace Go.Proofs.YtoenjdnccgmhoaaGreatDoor
open Go.ChangeShapes Go.WideShapes Go.ChangeAt Go.RowKit
set_option linter.unusedSimpArgs false
set_option linter.unusedVariables false
set_option maxRecDepth 10000
attribute [local go_sem, local simp] over_const setCell_drewN alloc_drewN Over.cell Over.frozen lt_s1 lt_s2 lt_s3 le_s0 le_s1 le_s2 le_s3 eq_s0 eq_s1 eq_s2 qe_s0
theorem own_cellsA {w : World} {g o cap n : Nat} {L : List At} (h : OwnA w (.slice (some ⟨g, o, none⟩) n cap) g L) : n = L.length ∧ L.length ≤ cap ∧ cap ≤ maxLen ∧ g < w.heap.size ∧ (∀ j, j < L.length * 3 → w.cell? ⟨g, o + j, none⟩ = (flatAt L)[j]?) ∧ ∀ j, j < cap * 3 → (w.cell? ⟨g, o + j, none⟩).isSome = true ∧ w.frozen? ⟨g, o + j, none⟩ = false := by
  obtain ⟨ao, cap', e, h1, h2, h3, h4⟩ := h
  simp only [Value.slice.injEq] at e
  obtain ⟨rfl, rfl, rfl⟩ := e
  rcases h4 with ⟨h, _⟩ | ⟨o', e, h5, h6⟩
  · cases h
  · simp only [Option.some.injEq, Addr.mk.injEq, true_and, and_true] at e
    subst e
    exact ⟨rfl, h1, h2, h3, h5, h6⟩
theorem own_takeA {w : World} {g o cap n k : Nat} {L : List At} (h : OwnA w (.slice (some ⟨g, o, none⟩) n cap) g L) (hk : k ≤ L.length) : OwnA w (.slice (some ⟨g, o, none⟩) k cap) g (L.take k) := by
  obtain ⟨_, h1, h2, h3, h4, h5⟩ := own_cellsA h
  have hl : (L.take k).length = k := by rw [List.length_take]; omega
  refine ⟨_, cap, by rw [hl], by omega, h2, h3, .inr ⟨o, rfl, fun j hj => ?_, h5⟩⟩
  rw [hl] at hj
  rw [h4 j (by omega), flatAt_take L k hk, List.getElem?_take, if_pos hj]
theorem own_dropA {w : World} {g o cap n k : Nat} {L : List At} (h : OwnA w (.slice (some ⟨g, o, none⟩) n cap) g L) (hk : k < L.length) : ViewA w (.slice (some ⟨g, o + k * 3, none⟩) (L.length - k) (cap - k)) g (L.drop k) := by
  obtain ⟨_, h1, h2, h3, h4, h5⟩ := own_cellsA h
  have hl : (L.drop k).length = L.length - k := List.length_drop
  refine ⟨_, cap - k, by rw [hl], by omega, by omega, .inr ⟨o + k * 3, rfl, h3, fun j hj => ?_⟩⟩
  rw [hl] at hj
  rw [Nat.add_assoc, h4 _ (by omega), flatAt_drop L k (by omega), List.getElem?_drop]
theorem own_someA {w : World} {v : Value} {g : Nat} {L : List At} (h : OwnA w v g L) (hn : L ≠ []) : ∃ o cap, v = .slice (some ⟨g, o, none⟩) L.length cap := by
  obtain ⟨ao, cap, rfl, h1, _, _, ⟨_, rfl⟩ | ⟨o, rfl, _⟩⟩ := h
  · exact absurd (List.eq_nil_of_length_eq_zero (by omega)) hn
  · exact ⟨o, cap, rfl⟩
theorem own_rowA {w : World} {g o cap n : Nat} {L : List At} (h : OwnA w (.slice (some ⟨g, o, none⟩) n cap) g L) {j : Nat} (hj : j < L.length) : w.cell? ⟨g, o + j * 3, none⟩ = some (.int .i64 L[j].b) := by
  obtain ⟨-, -, -, k⟩ := view_atA h.view rfl
  obtain ⟨o', e, _, h1, _, _⟩ := k j hj
  simp only [Option.some.injEq, Addr.mk.injEq, true_and, and_true] at e
  subst e
  exact h1
structure LsMid (w wr : World) (out : Value) (g : Nat) (L : List At) : Prop where
  own : OwnA wr out g L
  lo : w.heap.size ≤ g
  b : Below w.heap.size w wr
  sl : ∃ o cap, out = .slice (some ⟨g, o, none⟩) L.length cap
theorem LsMid.next {w wr w2 : World} {out : Value} {g : Nat} {L : List At} (h : LsMid w wr out g L) (hb : Below wr.heap.size wr w2) : LsMid w w2 out g L := ⟨h.own.below hb, h.lo, h.b.trans (hb.mono h.b.size), h.sl⟩
set_option maxHeartbeats 4000000 in
set_option maxRecDepth 100000 in
theorem rtList_c (p g1 g2 : Nat) (On Off : List At) (w : World) (h : RtIs w p g1 g2 On Off) (hl : On.length ≤ 1000) : Calls Tryz.prog 65 #[ptr p] w fun e w' => ∃ v, e = .returned v ∧ ∃ g, OwnA w' v g (dL On Off On) ∧ w.heap.size ≤ g ∧ Below w.heap.size w w' := by
  have hpl := h.lt
  replace h := hide h
  obtain ⟨ao, cap, q0, hV⟩ := h.out.c0
  replace hV := hide hV
  go_enter Tryz.func65, Tryz.ntmps65
  go_wp2_with fail
  go_loopw [3, 4] (fun out i wr => ∃ j g : Nat, j ≤ On.length ∧ i = .int .i64 j ∧ LsMid w wr out g (dL On Off (On.take j))) (fun _ i _ => On.length - (intOf i).toNat)
  case atStart => exact ⟨0, w.heap.size, Nat.zero_le _, rfl, own_emptyA w _, Nat.le_refl _, belA1 _ _, ⟨0, 0, rfl⟩⟩
  case round =>
    obtain ⟨j, g, hj, rfl, hM⟩ := hrel
    have q1 : wr.cell? ⟨p, 0, none⟩ = some (.slice ao On.length cap) := keep_cell (hM.b.block p hpl) q0
    have hV1 := hide (hV.out.below hM.b)
    have hR1 := hide (h.out.below hM.b)
    have hOl : (dL On Off (On.take j)).length ≤ 1000 := by have := dL_len (On := On) (Off := Off) (On.take j); rw [List.length_take] at this; omega
    obtain ⟨O, hO⟩ : ∃ O, dL On Off (On.take j) = O := ⟨_, rfl⟩
    by_cases hlt : j < On.length
    · have hst := hide (dL_take (On := On) (Off := Off) hlt)
      obtain ⟨-, -, -, k⟩ := view_atA hV1.out rfl
      obtain ⟨o, rfl, gl, d0, d1, d2⟩ := k j hlt
      have hlt' : (j : Int) < On.length := by omega
      obtain ⟨x, hx⟩ : ∃ x, On[j] = x := ⟨_, rfl⟩
      rw [hx] at d0 d1 d2 hst
      rw [hO] at hst hM hOl
      obtain ⟨oO, cap', rfl⟩ := hM.sl
      obtain ⟨-, hOc, hOm, -⟩ := own_cellsA hM.own
      have hpr : p < wr.heap.size := hR1.out.lt
      replace hM := hide hM
      obtain ⟨a, ha⟩ : ∃ a, Hid (dA On Off x.b = a) := ⟨_, rfl⟩
      obtain ⟨is, his⟩ : ∃ is, Hid (decide (0 < a.s) = is) := ⟨_, rfl⟩
      obtain ⟨kp, hkp⟩ : ∃ kp, Hid (keepD On Off x = kp) := ⟨_, rfl⟩
      have hkp' : Hid ((is && eqA a x) = kp) := hide (by rw [← hkp.out, ← his.out, ← ha.out]; rfl)
      clear k hx hV1 hO
      go_wp2_with fail
      go_at_call 41
      refine (rActive_c p g1 g2 On Off x.b wr hR1.out a ha is his).mono ?_
      rintro e w1 ⟨rfl, hb1⟩
      have q2 : w1.cell? ⟨p, 0, none⟩ = some (.slice (some ⟨g1, o, none⟩) On.length cap) := keep_cell (hb1.block p hpr) q1
      have d3 : w1.cell? ⟨g1, o + j * 3, none⟩ = some (.int .i64 x.b) := keep_cell (hb1.block g1 gl) d0
      have d4 : w1.cell? ⟨g1, o + j * 3 + 1, none⟩ = some (.int .i64 x.n) := keep_cell (hb1.block g1 gl) d1
      have d5 : w1.cell? ⟨g1, o + j * 3 + 2, none⟩ = some (.int .i64 x.s) := keep_cell (hb1.block g1 gl) d2
      have s1 := hb1.size
      have gl1 : g1 < w1.heap.size := by omega
      have hp1 : p < w1.heap.size := by omega
      replace hb1 := hide hb1
      clear q1 d0 d1 d2 hR1
      cases is
      · obtain rfl : kp = false := by rw [← hkp'.out]; rfl
        go_wp2_with fail
        refine wp_region_noPanic ?_
        refine wp_region_held_drew (S := (fun w' => True)) (by kernel_rfl) ?_ (fun hHeld => ?_)
        · trivial
        refine hTk 0 32 hHeld ?_
        refine hVl 1 33 (.bool true) hHeld (fun wz hSw => ?_) ?_
        · try dsimp only at hSw
          go_simp
        refine hTk 2 34 hHeld ?_
        refine hSk 3 35 hHeld ?_
        refine hSk 4 36 hHeld ?_
        refine hSk 5 37 hHeld ?_
        refine hSk 6 38 hHeld ?_
        refine hSk 7 39 hHeld ?_
        refine hSk 8 40 hHeld ?_
        refine hSk 9 41 hHeld ?_
        refine hSk 10 42 hHeld ?_
        refine hSk 11 43 hHeld ?_
        refine hTk 12 44 hHeld ?_
        refine wpAnyH_done (by kernel_rfl) (NoPanic.normal ?_) _
        clear hHeld
        have M2 := hide (hM.out.next ((hb1.out.trans ((belA1 w1 (atwO a)).mono hb1.out.size)).drew))
        go_wp2_with fail
        clear hM
        go_roundw
        case rel => exact ⟨j + 1, g, by omega, by simp, by rw [hst.out]; unfold stL; rw [if_neg (by rw [hkp.out]; decide)]; exact M2.out⟩
        case measure => simp [intOf]; omega
      by_cases c : a = x
      · obtain rfl : kp = true := by rw [← hkp'.out, eqA_iff.2 c]; rfl
        subst c
        go_wp2_with fail
        refine wp_region_noPanic ?_
        refine wp_region_held_drew (S := (fun w' => w'.cell? ⟨p, 0, none⟩ = some (.slice (some ⟨g1, o, none⟩) On.length cap) ∧ w'.cell? ⟨g1, o + j * 3, none⟩ = some (.int .i64 a.b) ∧ w'.cell? ⟨g1, o + j * 3 + 1, none⟩ = some (.int .i64 a.n) ∧ w'.cell? ⟨g1, o + j * 3 + 2, none⟩ = some (.int .i64 a.s) ∧ w'.cell? ⟨w1.heap.size, 0, none⟩ = some (.int .i64 a.b) ∧ w'.cell? ⟨w1.heap.size, 1, none⟩ = some (.int .i64 a.n) ∧ w'.cell? ⟨w1.heap.size, 2, none⟩ = some (.int .i64 a.s))) (by kernel_rfl) ?_ (fun hHeld => ?_)
        · exact ⟨by simp [go_sem, *], by simp [go_sem, *], by simp [go_sem, *], by simp [go_sem, *], by simp [go_sem], by simp [go_sem], by simp [go_sem]⟩
        refine hTk 0 32 hHeld ?_
        refine hVl 1 33 (.bool false) hHeld (fun wz hSw => ?_) ?_
        · try dsimp only at hSw
          go_simp
        refine hTk 2 34 hHeld ?_
        refine hTk 3 35 hHeld ?_
        refine hTk 4 36 hHeld ?_
        refine hTk 5 37 hHeld ?_
        refine hTk 6 38 hHeld ?_
        refine hTk 7 39 hHeld ?_
        refine hTk 8 40 hHeld ?_
        refine hTk 9 41 hHeld ?_
        refine hTk 10 42 hHeld ?_
        refine hVl 11 43 (.bool false) hHeld (fun wz hSw => ?_) ?_
        · try dsimp only at hSw
          go_simp; try simp
        refine hTk 12 44 hHeld ?_
        refine wpAnyH_done (by kernel_rfl) (NoPanic.normal ?_) _
        clear hHeld
        go_wp2_with fail
        refine name_world ?_
        intro wo hwo
        have hwo' : (w1.alloc (atwO a)).drew = wo := hwo
        have Mo : Hid (LsMid w wo (.slice (some ⟨g, oO, none⟩) O.length cap') g O) := hide (by rw [← hwo']; exact hM.out.next ((hb1.out.trans ((belA1 w1 (atwO a)).mono hb1.out.size)).drew))
        have y0 : wo.cell? ⟨w1.heap.size, 0, none⟩ = some (.int .i64 a.b) := by rw [← hwo']; exact (atw_new w1 a).c0
        have y1 : wo.cell? ⟨w1.heap.size, 1, none⟩ = some (.int .i64 a.n) := by rw [← hwo']; exact (atw_new w1 a).c1
        have y2 : wo.cell? ⟨w1.heap.size, 2, none⟩ = some (.int .i64 a.s) := by rw [← hwo']; exact (atw_new w1 a).c2
        have yl : w1.heap.size < wo.heap.size := by rw [← hwo']; show w1.heap.size < (w1.alloc (atwO a)).heap.size; simp
        have hgw : g < w1.heap.size := by have := hM.out.own.lt; omega
        obtain ⟨P, hP⟩ : ∃ P, Hid (posA O a.b = P) := ⟨_, rfl⟩
        have hPl : P ≤ O.length := by rw [← hP.out]; exact posA_le O a.b
        have hPlt := hide (posA_lt O a.b)
        have hPat := hide (posA_at O a.b)
        rw [hP.out] at hPlt
        have hins : Hid (O.take P ++ [a] ++ O.drop P = dL On Off (On.take (j + 1))) := hide (by rw [hst.out, ← hP.out]; unfold stL; rw [if_pos hkp.out])
        clear hwo hwo' hM q2 d3 d4 d5 hb1 hst hkp hkp' his ha
        go_loopw [7] (fun kv wq => ∃ kk n : Nat, kk ≤ P ∧ kv = .int .i64 kk ∧ wq = wo.drewN n) (fun kv _ => P - (intOf kv).toNat)
        case atStart => exact ⟨0, 0, Nat.zero_le _, rfl, rfl⟩
        case round =>
          obtain ⟨kk, n, hkk, rfl, hwq⟩ := hrel
          rw [hwq]
          clear hwq
          have hmx' : cap' ≤ 9223372036854775807 := by unfold maxLen at hOm; omega
          by_cases hk : kk < P
          · have hkl : kk < O.length := by omega
            have hkl' : (kk : Int) < O.length := by omega
            have hz := own_rowA Mo.out.own hkl
            have hza := hPlt.out kk hkl hk
            obtain ⟨z, hzz⟩ : ∃ z, O[kk].b = z := ⟨_, rfl⟩
            rw [hzz] at hz hza
            clear hzz
            go_wp2_with fail
            refine wp_region_noPanic ?_
            refine wp_region_held_drew (S := (fun w' => w'.cell? ⟨g, oO + kk * 3, none⟩ = some (.int .i64 z) ∧ w'.cell? ⟨w1.heap.size, 0, none⟩ = some (.int .i64 a.b))) (by kernel_rfl) ?_ (fun hHeld => ?_)
            · exact ⟨hz, y0⟩
            refine hTk 0 45 hHeld ?_
            refine hTk 1 46 hHeld ?_
            refine hTk 2 47 hHeld ?_
            refine hVl 3 48 (.bool true) hHeld (fun wz hSw => ?_) ?_
            · try dsimp only at hSw
              go_simp; try simp [hkl]
            refine hTk 4 49 hHeld ?_
            refine hTk 5 50 hHeld ?_
            refine hTk 6 51 hHeld ?_
            refine hTk 7 52 hHeld ?_
            refine hTk 8 53 hHeld ?_
            refine hTk 9 54 hHeld ?_
            refine hTk 10 55 hHeld ?_
            refine hTk 11 56 hHeld ?_
            refine hVl 12 57 (.bool true) hHeld (fun wz hSw => ?_) ?_
            · try dsimp only at hSw
              go_simp; try simp [hza]
            refine hTk 13 58 hHeld ?_
            refine wpAnyH_done (by kernel_rfl) (NoPanic.normal ?_) _
            clear hHeld
            go_wp2_with fail
            go_roundw
            case rel => exact ⟨kk + 1, n + 1, by omega, by simp, rfl⟩
            case measure => simp [intOf]; omega
          · obtain rfl : kk = P := by omega
            by_cases hkl : kk < O.length
            · have hkl' : (kk : Int) < O.length := by omega
              have hz := own_rowA Mo.out.own hkl
              have hza : ¬ O[kk].b < a.b := by have := hPat.out (by rw [hP.out]; exact hkl); simp only [hP.out] at this; exact this
              obtain ⟨z, hzz⟩ : ∃ z, O[kk].b = z := ⟨_, rfl⟩
              rw [hzz] at hz hza
              clear hzz
              go_wp2_with fail
              refine wp_region_noPanic ?_
              refine wp_region_held_drew (S := (fun w' => w'.cell? ⟨g, oO + kk * 3, none⟩ = some (.int .i64 z) ∧ w'.cell? ⟨w1.heap.size, 0, none⟩ = some (.int .i64 a.b))) (by kernel_rfl) ?_ (fun hHeld => ?_)
              · exact ⟨hz, y0⟩
              obtain ⟨w0, hw0⟩ : ∃ w0, (wo.drewN n).drew = w0 := ⟨_, rfl⟩
              have M0 : Hid (LsMid w w0 (.slice (some ⟨g, oO, none⟩) O.length cap') g O) := by rw [← hw0]; exact hide (Mo.out.next (belowN (Below.refl _ _) _).drew)
              have x0 : w0.cell? ⟨w1.heap.size, 0, none⟩ = some (.int .i64 a.b) := by rw [← hw0]; exact y0
              have x1 : w0.cell? ⟨w1.heap.size, 1, none⟩ = some (.int .i64 a.n) := by rw [← hw0]; exact y1
              have x2 : w0.cell? ⟨w1.heap.size, 2, none⟩ = some (.int .i64 a.s) := by rw [← hw0]; exact y2
              have xl : w1.heap.size < w0.heap.size := by rw [← hw0]; exact yl
              rw [hw0] at hHeld ⊢
              clear hw0
              refine hTk 0 45 hHeld ?_
              refine hTk 1 46 hHeld ?_
              refine hTk 2 47 hHeld ?_
              refine hVl 3 48 (.bool true) hHeld (fun wz hSw => ?_) ?_
              · try dsimp only at hSw
                go_simp; try simp [hkl]
              refine hTk 4 49 hHeld ?_
              refine hTk 5 50 hHeld ?_
              refine hTk 6 51 hHeld ?_
              refine hTk 7 52 hHeld ?_
              refine hTk 8 53 hHeld ?_
              refine hTk 9 54 hHeld ?_
              refine hTk 10 55 hHeld ?_
              refine hTk 11 56 hHeld ?_
              refine hVl 12 57 (.bool false) hHeld (fun wz hSw => ?_) ?_
              · try dsimp only at hSw
                go_simp; try simp [hza]
              refine hTk 13 58 hHeld ?_
              refine wpAnyH_done (by kernel_rfl) (NoPanic.normal ?_) _
              clear hHeld
              clear hz
              have hV2 := hide (own_dropA M0.out.own hkl)
              have hld : Hid ((O.drop kk).length = O.length - kk) := hide List.length_drop
              have hins2 := hins
              have hT0 := hide (own_takeA (k := kk) M0.out.own hPl)
              have hlt0 : Hid ((O.take kk).length = kk) := hide (by rw [List.length_take]; omega)
              have m1 : (kk : Int) ≤ O.length := by omega
              have m2 : (kk : Int) ≤ cap' := by omega
              go_wp2_with (at_builtin; refine wpList_appA rfl _ _ rfl rfl rfl (own_emptyA _ _) (ViewA.alloc hV2.out _) (by rw [hld.out]; simp; try omega) (O.length - kk) (by rw [hld.out]; simp) ?_; intro ao2 cap2 w2 gr hown2 hap2; have hb2 : Below w0.heap.size w0 w2 := ((belA1 w0 _).trans (hap2.fr.below (fun i hi => by rw [hi]; exact Nat.le_refl _) (by simp))); have hg2 : w0.heap.size ≤ gr := (by have h9 := hap2.lies; simp only [World.size_alloc] at h9; omega); rw [List.nil_append] at hown2; replace hown2 := hide hown2; replace hb2 := hide hb2; clear hap2)
              have hT2 := hide (hT0.out.below hb2.out)
              have hgl : g < w0.heap.size := M0.out.own.lt
              have hgo := M0.out.lo
              have z0 : w2.cell? ⟨w1.heap.size, 0, none⟩ = some (.int .i64 a.b) := keep_cell (hb2.out.block _ xl) x0
              have z1 : w2.cell? ⟨w1.heap.size, 1, none⟩ = some (.int .i64 a.n) := keep_cell (hb2.out.block _ xl) x1
              have z2 : w2.cell? ⟨w1.heap.size, 2, none⟩ = some (.int .i64 a.s) := keep_cell (hb2.out.block _ xl) x2
              have hB2 : Hid (Below w.heap.size w w2) := hide (M0.out.b.trans (hb2.out.mono M0.out.b.size))
              have hs2 := hb2.out.size
              have hs0 := M0.out.b.size
              clear hb2 hT0 hV2 M0 x0 x1 x2
              go_wp2_with fail
              refine wp_region_noPanic ?_
              refine wp_region_held_drew (S := (fun w' => w'.cell? ⟨w1.heap.size, 0, none⟩ = some (.int .i64 a.b) ∧ w'.cell? ⟨w1.heap.size, 1, none⟩ = some (.int .i64 a.n) ∧ w'.cell? ⟨w1.heap.size, 2, none⟩ = some (.int .i64 a.s))) (by kernel_rfl) ?_ (fun hHeld => ?_)
              · exact ⟨z0, z1, z2⟩
              refine hTk 0 66 hHeld ?_
              refine hTk 1 67 hHeld ?_
              refine hTk 2 68 hHeld ?_
              refine hTk 3 69 hHeld ?_
              refine hTk 6 72 hHeld ?_
              have b3 : Hid (Below w2.heap.size w2 (w2.drew.alloc (atwO a))) := hide ((Below.refl _ _).drew.alloc (Nat.le_refl _) _)
              have hx2 : w1.heap.size < w2.heap.size := by omega
              refine hNo 4 fun K hK => ?_
              go_simp
              refine hK.out _ _ ?_ fun hHeld => ?_
              · exact ⟨keep_cell (b3.out.block _ hx2) z0, keep_cell (b3.out.block _ hx2) z1, keep_cell (b3.out.block _ hx2) z2⟩
              clear hK K
              try simp only [Act.put, za, zb, zc]
              refine hand_call (i := 5) rfl (by kernel_rfl) ?_
              intro o11 ho
              simp at ho
              subst ho
              intro K hK
              refine wp_appA (.tmp 68) (.tmp 70) rfl rfl rfl (hT2.out.below b3.out) (view_oneA w2.drew a) (by rw [hlt0.out]; simp; omega) (kk + 1) (by rw [hlt0.out]; simp) ?_
              intro ao3 cap3 w3 g3 hown3 hap3
              have hB3 : Below w.heap.size w w3 := ((hB2.out.drew).alloc hB2.out.size _).trans (hap3.fr.below (fun i hi => by rw [hi]; exact hgo) (by simp; omega))
              have h9' : g3 = g ∨ w2.heap.size + 1 ≤ g3 := by have h9 := hap3.lies; simpa using h9
              have hg3 : w.heap.size ≤ g3 := by omega
              have hrl := hown2.out.lt
              have hV3 : ViewA w3 (.slice ao2 (O.length - kk) cap2) gr (O.drop kk) := (hown2.out.view.below b3.out).fr hap3.fr (fun _ => by show ¬ gr = g; omega)
              have kx := hap3.fr.block w1.heap.size (by simp; omega) (by show ¬ w1.heap.size = g; omega)
              have u0 : w3.cell? ⟨w1.heap.size, 0, none⟩ = some (.int .i64 a.b) := keep_cell kx (keep_cell (b3.out.block _ hx2) z0)
              have u1 : w3.cell? ⟨w1.heap.size, 1, none⟩ = some (.int .i64 a.n) := keep_cell kx (keep_cell (b3.out.block _ hx2) z1)
              have u2 : w3.cell? ⟨w1.heap.size, 2, none⟩ = some (.int .i64 a.s) := keep_cell kx (keep_cell (b3.out.block _ hx2) z2)
              have hs3' : w2.heap.size + 1 ≤ w3.heap.size := by have h8 := hap3.fr.size; simpa using h8
              replace hV3 := hide hV3
              replace hown3 := hide hown3
              replace hB3 := hide hB3
              refine hK.out _ _ ?_ (fun hHeld => ?_)
              · exact ⟨u0, u1, u2⟩
              clear hK K hap3 kx
              try simp only [Act.put, List.setIfInBounds_toArray, List.set_cons_zero, List.set_cons_succ]
              refine hand_call (i := 7) rfl (by kernel_rfl) ?_
              intro o13 ho
              simp at ho
              subst ho
              intro K hK
              refine wp_appA (.tmp 71) (.tmp 72) rfl rfl rfl hown3.out hV3.out (by rw [List.length_append, hlt0.out, hld.out]; first | omega | (simp; done) | (simp; omega)) (O.length + 1) (by rw [List.length_append, hlt0.out, hld.out]; first | omega | (simp; done) | (simp; omega)) ?_
              intro ao4 cap4 w4 g4 hown4 hap4
              have hB4 : Below w.heap.size w w4 := hB3.out.trans (hap4.fr.below (fun i hi => by rw [hi]; exact hg3) hB3.out.size)
              have hg4 : w.heap.size ≤ g4 := by rcases hap4.lies with e | e; omega; have := hB3.out.size; omega
              rw [hins2.out] at hown4
              have hne4 : dL On Off (On.take (j + 1)) ≠ [] := by rw [← hins.out]; simp
              obtain ⟨o5, cap5, e5⟩ := own_someA hown4 hne4
              have M4 : Hid (LsMid w w4 (.slice ao4 (O.length + 1) cap4) g4 (dL On Off (On.take (j + 1)))) := hide ⟨hown4, hg4, hB4, ⟨o5, cap5, e5⟩⟩
              have kx : w4.heap[w1.heap.size]? = w3.heap[w1.heap.size]? := hap4.fr.block w1.heap.size (by omega) (by show ¬ w1.heap.size = g3; omega)
              refine hK.out _ _ ?_ (fun hHeld => ?_)
              · exact ⟨keep_cell kx u0, keep_cell kx u1, keep_cell kx u2⟩
              clear hK K hap4 hown4 e5 kx
              try simp only [Act.put, List.setIfInBounds_toArray, List.set_cons_zero, List.set_cons_succ]
              refine hTk 8 3 hHeld ?_
              refine wpAnyH_done (by kernel_rfl) (NoPanic.normal ?_) _
              clear hHeld
              go_wp2_with fail
              go_roundw
              case rel => exact ⟨j + 1, g4, by omega, by simp, M4.out⟩
              case measure => simp [intOf]; omega
            · have hz0 : O.length - kk = 0 := by omega
              have hkO' : ¬ (kk : Int) < O.length := by omega
              by_cases hcp : cap' = kk
              · obtain hcp' := hcp.symm
                subst hcp'
                clear hcp
                go_wp2_with fail
                refine wp_region_noPanic ?_
                refine wp_region_held_drew (S := (fun w' => w'.cell? ⟨w1.heap.size, 0, none⟩ = some (.int .i64 a.b))) (by kernel_rfl) ?_ (fun hHeld => ?_)
                · exact y0
                obtain ⟨w0, hw0⟩ : ∃ w0, (wo.drewN n).drew = w0 := ⟨_, rfl⟩
                have M0 : Hid (LsMid w w0 (.slice (some ⟨g, oO, none⟩) O.length kk) g O) := by rw [← hw0]; exact hide (Mo.out.next (belowN (Below.refl _ _) _).drew)
                have x0 : w0.cell? ⟨w1.heap.size, 0, none⟩ = some (.int .i64 a.b) := by rw [← hw0]; exact y0
                have x1 : w0.cell? ⟨w1.heap.size, 1, none⟩ = some (.int .i64 a.n) := by rw [← hw0]; exact y1
                have x2 : w0.cell? ⟨w1.heap.size, 2, none⟩ = some (.int .i64 a.s) := by rw [← hw0]; exact y2
                have xl : w1.heap.size < w0.heap.size := by rw [← hw0]; exact yl
                rw [hw0] at hHeld ⊢
                clear hw0
                refine hTk 0 45 hHeld ?_
                refine hTk 1 46 hHeld ?_
                refine hTk 2 47 hHeld ?_
                refine hVl 3 48 (.bool false) hHeld (fun wz hSw => ?_) ?_
                · try dsimp only at hSw
                  go_simp; try simp [hkl]
                refine hTk 4 49 hHeld ?_
                refine hSk 5 50 hHeld ?_
                refine hSk 6 51 hHeld ?_
                refine hSk 7 52 hHeld ?_
                refine hSk 8 53 hHeld ?_
                refine hSk 9 54 hHeld ?_
                refine hSk 10 55 hHeld ?_
                refine hSk 11 56 hHeld ?_
                refine hSk 12 57 hHeld ?_
                refine hTk 13 58 hHeld ?_
                refine wpAnyH_done (by kernel_rfl) (NoPanic.normal ?_) _
                clear hHeld
                obtain ⟨M, hM⟩ : ∃ M : List At, Hid (M = []) := ⟨_, rfl⟩
                have hld : Hid (M.length = 0) := hide (by rw [hM.out]; rfl)
                have hins2 : Hid (O.take kk ++ [a] ++ M = dL On Off (On.take (j + 1))) := hide (by have := hins.out; rw [List.drop_eq_nil_of_le (by omega)] at this; rw [hM.out]; exact this)
                have hV2 : Hid (∀ (ao : Option Addr) (c : Nat), c ≤ 9223372036854775807 → ViewA w0 (.slice ao 0 c) g M) := hide (fun ao c hc => by rw [hM.out]; exact ⟨ao, c, rfl, Nat.zero_le _, by unfold maxLen; omega, .inl rfl⟩)
                have hT0 := hide (own_takeA (k := kk) M0.out.own hPl)
                have hlt0 : Hid ((O.take kk).length = kk) := hide (by rw [List.length_take]; omega)
                have m1 : (kk : Int) ≤ O.length := by omega
                have m2 : (kk : Int) ≤ kk := by omega
                go_wp2_with (at_builtin; refine wpList_appA rfl _ _ rfl rfl rfl (own_emptyA _ _) (ViewA.alloc (hV2.out _ _ (by omega)) _) (by rw [hld.out]; simp; try omega) (0) (by rw [hld.out]; simp) ?_; intro ao2 cap2 w2 gr hown2 hap2; have hb2 : Below w0.heap.size w0 w2 := ((belA1 w0 _).trans (hap2.fr.below (fun i hi => by rw [hi]; exact Nat.le_refl _) (by simp))); have hg2 : w0.heap.size ≤ gr := (by have h9 := hap2.lies; simp only [World.size_alloc] at h9; omega); rw [List.nil_append] at hown2; replace hown2 := hide hown2; replace hb2 := hide hb2; clear hap2)
                have hT2 := hide (hT0.out.below hb2.out)
                have hgl : g < w0.heap.size := M0.out.own.lt
                have hgo := M0.out.lo
                have z0 : w2.cell? ⟨w1.heap.size, 0, none⟩ = some (.int .i64 a.b) := keep_cell (hb2.out.block _ xl) x0
                have z1 : w2.cell? ⟨w1.heap.size, 1, none⟩ = some (.int .i64 a.n) := keep_cell (hb2.out.block _ xl) x1
                have z2 : w2.cell? ⟨w1.heap.size, 2, none⟩ = some (.int .i64 a.s) := keep_cell (hb2.out.block _ xl) x2
                have hB2 : Hid (Below w.heap.size w w2) := hide (M0.out.b.trans (hb2.out.mono M0.out.b.size))
                have hs2 := hb2.out.size
                have hs0 := M0.out.b.size
                clear hb2 hT0 hV2 M0 x0 x1 x2
                go_wp2_with fail
                refine wp_region_noPanic ?_
                refine wp_region_held_drew (S := (fun w' => w'.cell? ⟨w1.heap.size, 0, none⟩ = some (.int .i64 a.b) ∧ w'.cell? ⟨w1.heap.size, 1, none⟩ = some (.int .i64 a.n) ∧ w'.cell? ⟨w1.heap.size, 2, none⟩ = some (.int .i64 a.s))) (by kernel_rfl) ?_ (fun hHeld => ?_)
                · exact ⟨z0, z1, z2⟩
                refine hTk 0 66 hHeld ?_
                refine hTk 1 67 hHeld ?_
                refine hTk 2 68 hHeld ?_
                refine hTk 3 69 hHeld ?_
                refine hTk 6 72 hHeld ?_
                have b3 : Hid (Below w2.heap.size w2 (w2.drew.alloc (atwO a))) := hide ((Below.refl _ _).drew.alloc (Nat.le_refl _) _)
                have hx2 : w1.heap.size < w2.heap.size := by omega
                refine hNo 4 fun K hK => ?_
                go_simp
                refine hK.out _ _ ?_ fun hHeld => ?_
                · exact ⟨keep_cell (b3.out.block _ hx2) z0, keep_cell (b3.out.block _ hx2) z1, keep_cell (b3.out.block _ hx2) z2⟩
                clear hK K
                try simp only [Act.put, za, zb, zc]
                refine hand_call (i := 5) rfl (by kernel_rfl) ?_
                intro o11 ho
                simp at ho
                subst ho
                intro K hK
                refine wp_appA (.tmp 68) (.tmp 70) rfl rfl rfl (hT2.out.below b3.out) (view_oneA w2.drew a) (by rw [hlt0.out]; simp; omega) (kk + 1) (by rw [hlt0.out]; simp) ?_
                intro ao3 cap3 w3 g3 hown3 hap3
                have hB3 : Below w.heap.size w w3 := ((hB2.out.drew).alloc hB2.out.size _).trans (hap3.fr.below (fun i hi => by rw [hi]; exact hgo) (by simp; omega))
                have h9' : g3 = g ∨ w2.heap.size + 1 ≤ g3 := by have h9 := hap3.lies; simpa using h9
                have hg3 : w.heap.size ≤ g3 := by omega
                have hrl := hown2.out.lt
                have hV3 : ViewA w3 (.slice ao2 (0) cap2) gr (M) := (hown2.out.view.below b3.out).fr hap3.fr (fun _ => by show ¬ gr = g; omega)
                have kx := hap3.fr.block w1.heap.size (by simp; omega) (by show ¬ w1.heap.size = g; omega)
                have u0 : w3.cell? ⟨w1.heap.size, 0, none⟩ = some (.int .i64 a.b) := keep_cell kx (keep_cell (b3.out.block _ hx2) z0)
                have u1 : w3.cell? ⟨w1.heap.size, 1, none⟩ = some (.int .i64 a.n) := keep_cell kx (keep_cell (b3.out.block _ hx2) z1)
                have u2 : w3.cell? ⟨w1.heap.size, 2, none⟩ = some (.int .i64 a.s) := keep_cell kx (keep_cell (b3.out.block _ hx2) z2)
                have hs3' : w2.heap.size + 1 ≤ w3.heap.size := by have h8 := hap3.fr.size; simpa using h8
                replace hV3 := hide hV3
                replace hown3 := hide hown3
                replace hB3 := hide hB3
                refine hK.out _ _ ?_ (fun hHeld => ?_)
                · exact ⟨u0, u1, u2⟩
                clear hK K hap3 kx
                try simp only [Act.put, List.setIfInBounds_toArray, List.set_cons_zero, List.set_cons_succ]
                refine hand_call (i := 7) rfl (by kernel_rfl) ?_
                intro o13 ho
                simp at ho
                subst ho
                intro K hK
                refine wp_appA (.tmp 71) (.tmp 72) rfl rfl rfl hown3.out hV3.out (by rw [List.length_append, hlt0.out, hld.out]; first | omega | (simp; done) | (simp; omega)) (O.length + 1) (by rw [List.length_append, hlt0.out, hld.out]; first | omega | (simp; done) | (simp; omega)) ?_
                intro ao4 cap4 w4 g4 hown4 hap4
                have hB4 : Below w.heap.size w w4 := hB3.out.trans (hap4.fr.below (fun i hi => by rw [hi]; exact hg3) hB3.out.size)
                have hg4 : w.heap.size ≤ g4 := by rcases hap4.lies with e | e; omega; have := hB3.out.size; omega
                rw [hins2.out] at hown4
                have hne4 : dL On Off (On.take (j + 1)) ≠ [] := by rw [← hins.out]; simp
                obtain ⟨o5, cap5, e5⟩ := own_someA hown4 hne4
                have M4 : Hid (LsMid w w4 (.slice ao4 (O.length + 1) cap4) g4 (dL On Off (On.take (j + 1)))) := hide ⟨hown4, hg4, hB4, ⟨o5, cap5, e5⟩⟩
                have kx : w4.heap[w1.heap.size]? = w3.heap[w1.heap.size]? := hap4.fr.block w1.heap.size (by omega) (by show ¬ w1.heap.size = g3; omega)
                refine hK.out _ _ ?_ (fun hHeld => ?_)
                · exact ⟨keep_cell kx u0, keep_cell kx u1, keep_cell kx u2⟩
                clear hK K hap4 hown4 e5 kx
                try simp only [Act.put, List.setIfInBounds_toArray, List.set_cons_zero, List.set_cons_succ]
                refine hTk 8 3 hHeld ?_
                refine wpAnyH_done (by kernel_rfl) (NoPanic.normal ?_) _
                clear hHeld
                go_wp2_with fail
                go_roundw
                case rel => exact ⟨j + 1, g4, by omega, by simp, M4.out⟩
                case measure => simp [intOf]; omega
              · skip
                go_wp2_with fail
                refine wp_region_noPanic ?_
                refine wp_region_held_drew (S := (fun w' => w'.cell? ⟨w1.heap.size, 0, none⟩ = some (.int .i64 a.b))) (by kernel_rfl) ?_ (fun hHeld => ?_)
                · exact y0
                obtain ⟨w0, hw0⟩ : ∃ w0, (wo.drewN n).drew = w0 := ⟨_, rfl⟩
                have M0 : Hid (LsMid w w0 (.slice (some ⟨g, oO, none⟩) O.length cap') g O) := by rw [← hw0]; exact hide (Mo.out.next (belowN (Below.refl _ _) _).drew)
                have x0 : w0.cell? ⟨w1.heap.size, 0, none⟩ = some (.int .i64 a.b) := by rw [← hw0]; exact y0
                have x1 : w0.cell? ⟨w1.heap.size, 1, none⟩ = some (.int .i64 a.n) := by rw [← hw0]; exact y1
                have x2 : w0.cell? ⟨w1.heap.size, 2, none⟩ = some (.int .i64 a.s) := by rw [← hw0]; exact y2
                have xl : w1.heap.size < w0.heap.size := by rw [← hw0]; exact yl
                rw [hw0] at hHeld ⊢
                clear hw0
                refine hTk 0 45 hHeld ?_
                refine hTk 1 46 hHeld ?_
                refine hTk 2 47 hHeld ?_
                refine hVl 3 48 (.bool false) hHeld (fun wz hSw => ?_) ?_
                · try dsimp only at hSw
                  go_simp; try simp [hkl]
                refine hTk 4 49 hHeld ?_
                refine hSk 5 50 hHeld ?_
                refine hSk 6 51 hHeld ?_
                refine hSk 7 52 hHeld ?_
                refine hSk 8 53 hHeld ?_
                refine hSk 9 54 hHeld ?_
                refine hSk 10 55 hHeld ?_
                refine hSk 11 56 hHeld ?_
                refine hSk 12 57 hHeld ?_
                refine hTk 13 58 hHeld ?_
                refine wpAnyH_done (by kernel_rfl) (NoPanic.normal ?_) _
                clear hHeld
                obtain ⟨M, hM⟩ : ∃ M : List At, Hid (M = []) := ⟨_, rfl⟩
                have hld : Hid (M.length = 0) := hide (by rw [hM.out]; rfl)
                have hins2 : Hid (O.take kk ++ [a] ++ M = dL On Off (On.take (j + 1))) := hide (by have := hins.out; rw [List.drop_eq_nil_of_le (by omega)] at this; rw [hM.out]; exact this)
                have hV2 : Hid (∀ (ao : Option Addr) (c : Nat), c ≤ 9223372036854775807 → ViewA w0 (.slice ao 0 c) g M) := hide (fun ao c hc => by rw [hM.out]; exact ⟨ao, c, rfl, Nat.zero_le _, by unfold maxLen; omega, .inl rfl⟩)
                have hT0 := hide (own_takeA (k := kk) M0.out.own hPl)
                have hlt0 : Hid ((O.take kk).length = kk) := hide (by rw [List.length_take]; omega)
                have m1 : (kk : Int) ≤ O.length := by omega
                have m2 : (kk : Int) ≤ cap' := by omega
                go_wp2_with (at_builtin; refine wpList_appA rfl _ _ rfl rfl rfl (own_emptyA _ _) (ViewA.alloc (hV2.out _ _ (by omega)) _) (by rw [hld.out]; simp; try omega) (0) (by rw [hld.out]; simp) ?_; intro ao2 cap2 w2 gr hown2 hap2; have hb2 : Below w0.heap.size w0 w2 := ((belA1 w0 _).trans (hap2.fr.below (fun i hi => by rw [hi]; exact Nat.le_refl _) (by simp))); have hg2 : w0.heap.size ≤ gr := (by have h9 := hap2.lies; simp only [World.size_alloc] at h9; omega); rw [List.nil_append] at hown2; replace hown2 := hide hown2; replace hb2 := hide hb2; clear hap2)
                have hT2 := hide (hT0.out.below hb2.out)
                have hgl : g < w0.heap.size := M0.out.own.lt
                have hgo := M0.out.lo
                have z0 : w2.cell? ⟨w1.heap.size, 0, none⟩ = some (.int .i64 a.b) := keep_cell (hb2.out.block _ xl) x0
                have z1 : w2.cell? ⟨w1.heap.size, 1, none⟩ = some (.int .i64 a.n) := keep_cell (hb2.out.block _ xl) x1
                have z2 : w2.cell? ⟨w1.heap.size, 2, none⟩ = some (.int .i64 a.s) := keep_cell (hb2.out.block _ xl) x2
                have hB2 : Hid (Below w.heap.size w w2) := hide (M0.out.b.trans (hb2.out.mono M0.out.b.size))
                have hs2 := hb2.out.size
                have hs0 := M0.out.b.size
                clear hb2 hT0 hV2 M0 x0 x1 x2
                go_wp2_with fail
                refine wp_region_noPanic ?_
                refine wp_region_held_drew (S := (fun w' => w'.cell? ⟨w1.heap.size, 0, none⟩ = some (.int .i64 a.b) ∧ w'.cell? ⟨w1.heap.size, 1, none⟩ = some (.int .i64 a.n) ∧ w'.cell? ⟨w1.heap.size, 2, none⟩ = some (.int .i64 a.s))) (by kernel_rfl) ?_ (fun hHeld => ?_)
                · exact ⟨z0, z1, z2⟩
                refine hTk 0 66 hHeld ?_
                refine hTk 1 67 hHeld ?_
                refine hTk 2 68 hHeld ?_
                refine hTk 3 69 hHeld ?_
                refine hTk 6 72 hHeld ?_
                have b3 : Hid (Below w2.heap.size w2 (w2.drew.alloc (atwO a))) := hide ((Below.refl _ _).drew.alloc (Nat.le_refl _) _)
                have hx2 : w1.heap.size < w2.heap.size := by omega
                refine hNo 4 fun K hK => ?_
                go_simp
                refine hK.out _ _ ?_ fun hHeld => ?_
                · exact ⟨keep_cell (b3.out.block _ hx2) z0, keep_cell (b3.out.block _ hx2) z1, keep_cell (b3.out.block _ hx2) z2⟩
                clear hK K
                try simp only [Act.put, za, zb, zc]
                refine hand_call (i := 5) rfl (by kernel_rfl) ?_
                intro o11 ho
                simp at ho
                subst ho
                intro K hK
                refine wp_appA (.tmp 68) (.tmp 70) rfl rfl rfl (hT2.out.below b3.out) (view_oneA w2.drew a) (by rw [hlt0.out]; simp; omega) (kk + 1) (by rw [hlt0.out]; simp) ?_
                intro ao3 cap3 w3 g3 hown3 hap3
                have hB3 : Below w.heap.size w w3 := ((hB2.out.drew).alloc hB2.out.size _).trans (hap3.fr.below (fun i hi => by rw [hi]; exact hgo) (by simp; omega))
                have h9' : g3 = g ∨ w2.heap.size + 1 ≤ g3 := by have h9 := hap3.lies; simpa using h9
                have hg3 : w.heap.size ≤ g3 := by omega
                have hrl := hown2.out.lt
                have hV3 : ViewA w3 (.slice ao2 (0) cap2) gr (M) := (hown2.out.view.below b3.out).fr hap3.fr (fun _ => by show ¬ gr = g; omega)
                have kx := hap3.fr.block w1.heap.size (by simp; omega) (by show ¬ w1.heap.size = g; omega)
                have u0 : w3.cell? ⟨w1.heap.size, 0, none⟩ = some (.int .i64 a.b) := keep_cell kx (keep_cell (b3.out.block _ hx2) z0)
                have u1 : w3.cell? ⟨w1.heap.size, 1, none⟩ = some (.int .i64 a.n) := keep_cell kx (keep_cell (b3.out.block _ hx2) z1)
                have u2 : w3.cell? ⟨w1.heap.size, 2, none⟩ = some (.int .i64 a.s) := keep_cell kx (keep_cell (b3.out.block _ hx2) z2)
                have hs3' : w2.heap.size + 1 ≤ w3.heap.size := by have h8 := hap3.fr.size; simpa using h8
                replace hV3 := hide hV3
                replace hown3 := hide hown3
                replace hB3 := hide hB3
                refine hK.out _ _ ?_ (fun hHeld => ?_)
                · exact ⟨u0, u1, u2⟩
                clear hK K hap3 kx
                try simp only [Act.put, List.setIfInBounds_toArray, List.set_cons_zero, List.set_cons_succ]
                refine hand_call (i := 7) rfl (by kernel_rfl) ?_
                intro o13 ho
                simp at ho
                subst ho
                intro K hK
                refine wp_appA (.tmp 71) (.tmp 72) rfl rfl rfl hown3.out hV3.out (by rw [List.length_append, hlt0.out, hld.out]; first | omega | (simp; done) | (simp; omega)) (O.length + 1) (by rw [List.length_append, hlt0.out, hld.out]; first | omega | (simp; done) | (simp; omega)) ?_
                intro ao4 cap4 w4 g4 hown4 hap4
                have hB4 : Below w.heap.size w w4 := hB3.out.trans (hap4.fr.below (fun i hi => by rw [hi]; exact hg3) hB3.out.size)
                have hg4 : w.heap.size ≤ g4 := by rcases hap4.lies with e | e; omega; have := hB3.out.size; omega
                rw [hins2.out] at hown4
                have hne4 : dL On Off (On.take (j + 1)) ≠ [] := by rw [← hins.out]; simp
                obtain ⟨o5, cap5, e5⟩ := own_someA hown4 hne4
                have M4 : Hid (LsMid w w4 (.slice ao4 (O.length + 1) cap4) g4 (dL On Off (On.take (j + 1)))) := hide ⟨hown4, hg4, hB4, ⟨o5, cap5, e5⟩⟩
                have kx : w4.heap[w1.heap.size]? = w3.heap[w1.heap.size]? := hap4.fr.block w1.heap.size (by omega) (by show ¬ w1.heap.size = g3; omega)
                refine hK.out _ _ ?_ (fun hHeld => ?_)
                · exact ⟨keep_cell kx u0, keep_cell kx u1, keep_cell kx u2⟩
                clear hK K hap4 hown4 e5 kx
                try simp only [Act.put, List.setIfInBounds_toArray, List.set_cons_zero, List.set_cons_succ]
                refine hTk 8 3 hHeld ?_
                refine wpAnyH_done (by kernel_rfl) (NoPanic.normal ?_) _
                clear hHeld
                go_wp2_with fail
                go_roundw
                case rel => exact ⟨j + 1, g4, by omega, by simp, M4.out⟩
                case measure => simp [intOf]; omega
      · have he : eqA a x = false := by cases e : eqA a x; rfl; exact absurd (eqA_iff.1 e) c
        obtain rfl : kp = false := by rw [← hkp'.out, he]; rfl
        have hne : ¬ (a.b = x.b ∧ a.n = x.n ∧ a.s = x.s) := by simpa [eqA] using he
        go_wp2_with fail
        refine wp_region_noPanic ?_
        refine wp_region_held_drew (S := (fun w' => w'.cell? ⟨p, 0, none⟩ = some (.slice (some ⟨g1, o, none⟩) On.length cap) ∧ w'.cell? ⟨g1, o + j * 3, none⟩ = some (.int .i64 x.b) ∧ w'.cell? ⟨g1, o + j * 3 + 1, none⟩ = some (.int .i64 x.n) ∧ w'.cell? ⟨g1, o + j * 3 + 2, none⟩ = some (.int .i64 x.s) ∧ w'.cell? ⟨w1.heap.size, 0, none⟩ = some (.int .i64 a.b) ∧ w'.cell? ⟨w1.heap.size, 1, none⟩ = some (.int .i64 a.n) ∧ w'.cell? ⟨w1.heap.size, 2, none⟩ = some (.int .i64 a.s))) (by kernel_rfl) ?_ (fun hHeld => ?_)
        · exact ⟨by simp [go_sem, *], by simp [go_sem, *], by simp [go_sem, *], by simp [go_sem, *], by simp [go_sem], by simp [go_sem], by simp [go_sem]⟩
        refine hTk 0 32 hHeld ?_
        refine hVl 1 33 (.bool false) hHeld (fun wz hSw => ?_) ?_
        · try dsimp only at hSw
          go_simp
        refine hTk 2 34 hHeld ?_
        refine hTk 3 35 hHeld ?_
        refine hTk 4 36 hHeld ?_
        refine hTk 5 37 hHeld ?_
        refine hTk 6 38 hHeld ?_
        refine hTk 7 39 hHeld ?_
        refine hTk 8 40 hHeld ?_
        refine hTk 9 41 hHeld ?_
        refine hTk 10 42 hHeld ?_
        refine hVl 11 43 (.bool true) hHeld (fun wz hSw => ?_) ?_
        · try dsimp only at hSw
          go_simp; intro h1 h2 h3; exact hne ⟨h1, h2, h3⟩
        refine hTk 12 44 hHeld ?_
        refine wpAnyH_done (by kernel_rfl) (NoPanic.normal ?_) _
        clear hHeld
        have M2 := hide (hM.out.next ((hb1.out.trans ((belA1 w1 (atwO a)).mono hb1.out.size)).drew))
        go_wp2_with fail
        clear hM
        go_roundw
        case rel => exact ⟨j + 1, g, by omega, by simp, by rw [hst.out]; unfold stL; rw [if_neg (by rw [hkp.out]; decide)]; exact M2.out⟩
        case measure => simp [intOf]; omega
    · obtain rfl : j = On.length := by omega
      rw [List.take_length] at hM
      obtain ⟨oO, cap', rfl⟩ := hM.sl
      replace hM := hide hM
      clear hV1 hR1
      go_wp2_with fail
      go_ret
      exact ⟨_, rfl, g, hM.out.own, hM.out.lo, hM.out.b⟩
end Go.Proofs.YtoenjdnccgmhoaaGreatDoor
