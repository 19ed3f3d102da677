/- layer 15: LinO, put together. -/
import Derived.Test.YtoenjdnccgmhoaaGreatDoorB21
namespace Go.Proofs.YtoenjdnccgmhoaaGreatDoor
open Go.ChangeShapes Go.WideShapes Go.ChangeAt Go.RowKit
set_option linter.unusedSimpArgs false
set_option linter.unusedVariables false
set_option maxRecDepth 10000
attribute [local go_sem, local simp] over_const setCell_drewN alloc_drewN Over.cell Over.frozen lt_s1 lt_s2 lt_s3 le_s0 le_s1 le_s2 le_s3 eq_s0 eq_s1 eq_s2 qe_s0
theorem own_some {w : World} {v : Value} {g : Nat} {L : List Int} (h : Own w v g L) (hn : L ≠ []) : ∃ o cap, v = .slice (some ⟨g, o, none⟩) L.length cap := by
  obtain ⟨ao, cap, rfl, h1, _, _, ⟨_, rfl⟩ | ⟨o, rfl, _⟩⟩ := h
  · exact absurd (List.eq_nil_of_length_eq_zero (by omega)) hn
  · exact ⟨o, cap, rfl⟩
theorem own_cells {w : World} {g o cap n : Nat} {L : List Int} (h : Own w (.slice (some ⟨g, o, none⟩) n cap) g L) : n = L.length ∧ L.length ≤ cap ∧ cap ≤ maxLen ∧ g < w.heap.size ∧ (∀ j, j < L.length → w.cell? ⟨g, o + j, none⟩ = (ints L)[j]?) ∧ ∀ j, j < cap → (w.cell? ⟨g, o + j, none⟩).isSome = true ∧ w.frozen? ⟨g, o + j, none⟩ = false := by
  obtain ⟨ao, cap', e, h1, h2, h3, h4⟩ := h
  simp only [Value.slice.injEq] at e
  obtain ⟨rfl, rfl, rfl⟩ := e
  rcases h4 with ⟨h, _⟩ | ⟨o', e, h5, h6⟩
  · cases h
  · simp only [Option.some.injEq, Addr.mk.injEq, true_and, and_true] at e
    subst e
    exact ⟨rfl, h1, h2, h3, h5, h6⟩
theorem own_take {w : World} {g o cap n k : Nat} {L : List Int} (h : Own w (.slice (some ⟨g, o, none⟩) n cap) g L) (hk : k ≤ L.length) : Own w (.slice (some ⟨g, o, none⟩) k cap) g (L.take k) := by
  obtain ⟨_, h1, h2, h3, h4, h5⟩ := own_cells h
  have hl : (L.take k).length = k := by rw [List.length_take]; omega
  refine ⟨_, cap, by rw [hl], by omega, h2, h3, .inr ⟨o, rfl, fun j hj => ?_, h5⟩⟩
  rw [hl] at hj
  rw [h4 j (by omega), ints_take, List.getElem?_take, if_pos hj]
theorem own_drop {w : World} {g o cap n j : Nat} {L : List Int} (h : Own w (.slice (some ⟨g, o, none⟩) n cap) g L) (hj : j ≤ L.length) :
    ∃ A, (if cap = j then some (⟨g, o, none⟩ : Addr) else some ⟨g, o + j, none⟩) = A ∧ View w (.slice A (L.length - j) (cap - j)) g (L.drop j) := by
  obtain ⟨_, h1, h2, h3, h4, h5⟩ := own_cells h
  exact view_drop hj h1 h2 h3 h4
theorem ins_list {A : List Int} {j k : Nat} (hj : j < A.length) (hk : k ≤ (listA (A.take j)).length) (h1 : ∀ i (hi : i < (listA (A.take j)).length), i < k → (listA (A.take j))[i] < A[j]) (h2 : ∀ hk : k < (listA (A.take j)).length, ¬ (listA (A.take j))[k] < A[j]) :
    (listA (A.take j)).take k ++ [A[j]] ++ (listA (A.take j)).drop k = listA (A.take (j + 1)) := by
  have hp := listA_perm (A.take j)
  have hs := listA_sorted (A.take j)
  generalize listA (A.take j) = O at hp hs h1 h2 hk ⊢
  have hperm : (O.take k ++ [A[j]] ++ O.drop k).Perm (listA (A.take (j + 1))) := by
    refine List.Perm.trans ?_ (listA_perm _).symm
    rw [List.take_succ_eq_append_getElem hj]
    have e1 : (O.take k ++ [A[j]] ++ O.drop k).Perm (O.take k ++ O.drop k ++ [A[j]]) := by
      rw [List.append_assoc, List.append_assoc]
      exact List.Perm.append_left _ List.perm_append_comm
    rw [List.take_append_drop] at e1
    exact e1.trans (hp.append_right _)
  refine hperm.eq_of_pairwise (le := fun x y : Int => x ≤ y) (fun a b _ _ h1 h2 => by omega) ?_ (listA_sorted _)
  have hlow : ∀ a ∈ O.take k, a < A[j] := by
    intro a ha
    obtain ⟨i, hi, rfl⟩ := List.mem_iff_getElem.1 ha
    rw [List.length_take] at hi
    rw [List.getElem_take]
    exact h1 i (by omega) (by omega)
  have hhigh : ∀ b ∈ O.drop k, A[j] ≤ b := by
    intro b hb
    obtain ⟨i, hi, rfl⟩ := List.mem_iff_getElem.1 hb
    rw [List.length_drop] at hi
    rw [List.getElem_drop]
    have h3 := h2 (by omega)
    have h4 : O[k]'(by omega) ≤ O[k + i]'(by omega) := by
      by_cases e : i = 0
      · subst e; simp
      · exact List.pairwise_iff_getElem.1 hs k (k + i) (by omega) (by omega) (by omega)
    omega
  rw [List.append_assoc, List.pairwise_append, List.singleton_append, List.pairwise_cons]
  refine ⟨hs.sublist (List.take_sublist _ _), ⟨hhigh, hs.sublist (List.drop_sublist _ _)⟩, fun a ha b hb => ?_⟩
  have := hlow a ha
  rcases List.mem_cons.1 hb with rfl | hb
  · omega
  · have := hhigh b hb; omega
set_option maxHeartbeats 4000000 in
set_option maxRecDepth 100000 in
theorem rList_c (p : Nat) (Ft : Nat → Prop) (S W : Int) (A : List Int) (w : World) (h : RfIs w p Ft S W A) : Calls Tryz.prog 111 #[ptr p] w fun e w' => ∃ v g, e = .returned v ∧ w.heap.size ≤ g ∧ Own w' v g (listA A) ∧ Below w.heap.size w w' := by
  have hlen := h.inv.len
  have hpl := h.pl
  obtain ⟨ao, cap, gA, c2, hV⟩ := h.view
  clear h
  go_enter Tryz.func111, Tryz.ntmps111
  go_wp2_with fail
  go_loopw [3, 4] (fun out i wr => ∃ j g : Nat, j ≤ A.length ∧ i = .int .i64 j ∧ Own wr out g (listA (A.take j)) ∧ w.heap.size ≤ g ∧ Below w.heap.size w wr ∧ ∃ o n cap, out = .slice (some ⟨g, o, none⟩) n cap) (fun _ i _ => A.length - (intOf i).toNat)
  case atStart => exact ⟨0, w.heap.size, Nat.zero_le _, rfl, by simpa [listA] using own_empty w _, Nat.le_refl _, belA' _ _, ⟨0, 0, 0, rfl⟩⟩
  case round =>
    obtain ⟨j, g, hj, rfl, hO, hg, hb, oO, nO, cap', rfl⟩ := hrel
    obtain ⟨rfl, hOc, hOm, -⟩ := own_cells hO
    have c2r : wr.cell? ⟨p, 2, none⟩ = some (.slice ao A.length cap) := (hb.cell (p := ⟨p, 2, none⟩) hpl).trans c2
    have hOl := listA_len (A.take j)
    rw [List.length_take] at hOl
    have hmx' : cap' ≤ 9223372036854775807 := by unfold maxLen at hOm; omega
    by_cases hlt : j < A.length
    · obtain ⟨-, -, -, hc⟩ := view_at (unhide hV) rfl
      obtain ⟨o, rfl, hbA, hcell⟩ := hc j hlt
      have hins := fun kk => ins_list (k := kk) hlt
      obtain ⟨y, hy⟩ : ∃ y, Hid (A[j] = y) := ⟨_, hide rfl⟩
      rw [hy.out] at hcell hins
      have cyr : wr.cell? ⟨gA, o + j, none⟩ = some (.int .i64 y) := (hb.cell (p := ⟨gA, o + j, none⟩) hbA).trans hcell
      have hlt' : (j : Int) < A.length := by omega
      obtain ⟨O, hOd⟩ : ∃ O, Hid (listA (A.take j) = O) := ⟨_, rfl⟩
      have hO' := hide hO
      rw [hOd.out] at hO' hOl hOc hins ⊢
      replace hins := hide hins
      have hOle : O.length ≤ 1024 := by omega
      replace hOl := hide hOl
      have hb' := hide hb
      clear hc hb hO
      obtain ⟨wo, hwo⟩ : ∃ wo, wo = wr := ⟨_, rfl⟩
      subst hwo
      go_wp2_with fail
      go_loopw [5] (fun kv wq => ∃ kk n : Nat, kk ≤ O.length ∧ kv = .int .i64 kk ∧ wq = wo.drewN n ∧ Hid (∀ i (hi : i < O.length), i < kk → O[i] < y)) (fun kv _ => O.length - (intOf kv).toNat)
      case atStart => exact ⟨0, 0, Nat.zero_le _, rfl, rfl, fun i _ hi => absurd hi (Nat.not_lt_zero _)⟩
      case round =>
        obtain ⟨kk, n, hkk, rfl, hwq, hlow⟩ := hrel
        rw [hwq]
        clear hwq
        by_cases hkl : kk < O.length
        · obtain ⟨-, -, -, hcO⟩ := view_at (unhide hO').view rfl
          obtain ⟨oo, e, hbO, hcz⟩ := hcO kk hkl
          simp only [Option.some.injEq, Addr.mk.injEq, true_and, and_true] at e
          subst e
          obtain ⟨z, hz⟩ : ∃ z, Hid (O[kk] = z) := ⟨_, hide rfl⟩
          rw [hz.out] at hcz
          have hkl' : (kk : Int) < O.length := by omega
          clear hcO
          by_cases c : z < y
          · go_wp2_with fail
            refine wp_region_noPanic ?_
            refine wp_region_held_drew (S := fun w' => w'.cell? ⟨p, 2, none⟩ = some (.slice (some ⟨gA, o, none⟩) A.length cap) ∧ w'.cell? ⟨gA, o + j, none⟩ = some (.int .i64 y) ∧ w'.cell? ⟨g, oO + kk, none⟩ = some (.int .i64 z)) (by kernel_rfl) ?_ (fun hHeld => ?_)
            · exact ⟨c2r, cyr, hcz⟩
            obtain ⟨w0, hw0⟩ : ∃ w0, (wo.drewN n).drew = w0 := ⟨_, rfl⟩
            have hb0 : Hid (Below w.heap.size w w0) := by rw [← hw0]; exact (belowN (unhide hb') _).drew
            have hO0 : Hid (Own w0 (.slice (some ⟨g, oO, none⟩) O.length cap') g O) := by rw [← hw0]; exact (unhide hO').carry rfl
            have d2 : w0.cell? ⟨p, 2, none⟩ = some (.slice (some ⟨gA, o, none⟩) A.length cap) := by rw [← hw0]; exact c2r
            have dy : w0.cell? ⟨gA, o + j, none⟩ = some (.int .i64 y) := by rw [← hw0]; exact cyr
            have hw1 : Hid (w0 = wo.drewN (n + 1)) := by rw [← hw0]; exact rfl
            rw [hw0] at hHeld ⊢
            clear hw0
            refine hTk 0 17 hHeld ?_
            refine hTk 1 18 hHeld ?_
            refine hTk 2 19 hHeld ?_
            refine hVl 3 20 (.bool true) hHeld (fun wz hSw => ?_) ?_
            · try dsimp only at hSw
              go_simp; try simp [hkl]
            refine hTk 4 21 hHeld ?_
            refine hTk 5 22 hHeld ?_
            refine hTk 6 23 hHeld ?_
            refine hTk 7 24 hHeld ?_
            refine hTk 8 25 hHeld ?_
            refine hTk 9 26 hHeld ?_
            refine hTk 10 27 hHeld ?_
            refine hTk 11 28 hHeld ?_
            refine hTk 12 29 hHeld ?_
            refine hTk 13 30 hHeld ?_
            refine hTk 14 31 hHeld ?_
            refine hTk 15 32 hHeld ?_
            refine hVl 16 33 (.bool true) hHeld (fun wz hSw => ?_) ?_
            · try dsimp only at hSw
              go_simp; try simp [c]
            refine hTk 17 34 hHeld ?_
            refine wpAnyH_done (by kernel_rfl) (NoPanic.normal ?_) _
            clear hHeld
            go_wp2_with fail
            go_roundw
            case rel =>
              refine ⟨kk + 1, n + 1, by omega, by simp, unhide hw1, fun i hi hik => ?_⟩
              by_cases e : i = kk
              · subst e; rw [hz.out]; exact c
              · exact hlow.out i hi (by omega)
            case measure => simp [intOf]; omega
          · have hins := (unhide hins) kk hkk (fun i hi => hlow.out i hi) (fun _ => by rw [hz.out]; omega)
            go_wp2_with fail
            refine wp_region_noPanic ?_
            refine wp_region_held_drew (S := fun w' => w'.cell? ⟨p, 2, none⟩ = some (.slice (some ⟨gA, o, none⟩) A.length cap) ∧ w'.cell? ⟨gA, o + j, none⟩ = some (.int .i64 y) ∧ w'.cell? ⟨g, oO + kk, none⟩ = some (.int .i64 z)) (by kernel_rfl) ?_ (fun hHeld => ?_)
            · exact ⟨c2r, cyr, hcz⟩
            obtain ⟨w0, hw0⟩ : ∃ w0, (wo.drewN n).drew = w0 := ⟨_, rfl⟩
            have hb0 : Hid (Below w.heap.size w w0) := by rw [← hw0]; exact (belowN (unhide hb') _).drew
            have hO0 : Hid (Own w0 (.slice (some ⟨g, oO, none⟩) O.length cap') g O) := by rw [← hw0]; exact (unhide hO').carry rfl
            have d2 : w0.cell? ⟨p, 2, none⟩ = some (.slice (some ⟨gA, o, none⟩) A.length cap) := by rw [← hw0]; exact c2r
            have dy : w0.cell? ⟨gA, o + j, none⟩ = some (.int .i64 y) := by rw [← hw0]; exact cyr
            have hw1 : Hid (w0 = wo.drewN (n + 1)) := by rw [← hw0]; exact rfl
            rw [hw0] at hHeld ⊢
            clear hw0
            refine hTk 0 17 hHeld ?_
            refine hTk 1 18 hHeld ?_
            refine hTk 2 19 hHeld ?_
            refine hVl 3 20 (.bool true) hHeld (fun wz hSw => ?_) ?_
            · try dsimp only at hSw
              go_simp; try simp [hkl]
            refine hTk 4 21 hHeld ?_
            refine hTk 5 22 hHeld ?_
            refine hTk 6 23 hHeld ?_
            refine hTk 7 24 hHeld ?_
            refine hTk 8 25 hHeld ?_
            refine hTk 9 26 hHeld ?_
            refine hTk 10 27 hHeld ?_
            refine hTk 11 28 hHeld ?_
            refine hTk 12 29 hHeld ?_
            refine hTk 13 30 hHeld ?_
            refine hTk 14 31 hHeld ?_
            refine hTk 15 32 hHeld ?_
            refine hVl 16 33 (.bool false) hHeld (fun wz hSw => ?_) ?_
            · try dsimp only at hSw
              go_simp; try simp [c]
            refine hTk 17 34 hHeld ?_
            refine wpAnyH_done (by kernel_rfl) (NoPanic.normal ?_) _
            clear hHeld
            clear hcz hw1
            have hs0 := (unhide hb0).size
            obtain ⟨D, hD, hV2⟩ := own_drop (j := kk) (unhide hO0) hkk
            rw [if_neg (by omega)] at hD
            subst hD
            obtain ⟨M, hM⟩ : ∃ M, Hid (O.drop kk = M) := ⟨_, rfl⟩
            have hld : Hid (M.length = O.length - kk) := by rw [← hM.out, List.length_drop]; rfl
            rw [hM.out] at hV2 hins
            replace hV2 := hide hV2
            have hT0 := hide (own_take (k := kk) (unhide hO0) hkk)
            have hlt0 : Hid ((O.take kk).length = kk) := by rw [List.length_take]; show min kk O.length = kk; omega
            have m1 : (kk : Int) ≤ O.length := by omega
            have m2 : (kk : Int) ≤ cap' := by omega
            go_wp2_with (at_builtin; refine wpList_app rfl _ _ rfl rfl rfl (own_empty _ _) ((unhide hV2).alloc _) (by rw [hld.out]; simp; try omega) (O.length - kk) (by rw [hld.out]; simp) ?_; intro ao2 cap2 w2 g2 hown2 hap2; have hb2 : Below w0.heap.size w0 w2 := ((belA' w0 _).trans (hap2.fr.below (fun i hi => by rw [hi]; exact Nat.le_refl _) (by simp))); have hg2 : w0.heap.size ≤ g2 := (by have := hap2.lies; simp at this; omega); rw [List.nil_append] at hown2; replace hown2 := hide hown2; clear hap2)
            have hT2 := hide ((unhide hT0).below hb2)
            have hgl : g < w0.heap.size := (unhide hO0).lt
            have f2 : w2.cell? ⟨p, 2, none⟩ = some (.slice (some ⟨gA, o, none⟩) A.length cap) := (hb2.cell (p := ⟨p, 2, none⟩) (show p < w0.heap.size by omega)).trans d2
            have fy : w2.cell? ⟨gA, o + j, none⟩ = some (.int .i64 y) := (hb2.cell (p := ⟨gA, o + j, none⟩) (show gA < w0.heap.size by omega)).trans dy
            have hB2 : Hid (Below w.heap.size w w2) := (unhide hb0).trans (hb2.mono hs0)
            have hs2 := hb2.size
            clear hb2 hT0 hV2 hO0 hb0 d2 dy
            refine wp_region_noPanic ?_
            refine wp_region_held_drew (S := fun w' => w'.cell? ⟨p, 2, none⟩ = some (.slice (some ⟨gA, o, none⟩) A.length cap) ∧ w'.cell? ⟨gA, o + j, none⟩ = some (.int .i64 y)) (by kernel_rfl) ?_ (fun hHeld => ?_)
            · exact ⟨f2, fy⟩
            refine hTk 0 42 hHeld ?_
            refine hTk 1 43 hHeld ?_
            refine hTk 2 44 hHeld ?_
            refine hTk 3 45 hHeld ?_
            refine hTk 4 46 hHeld ?_
            refine hTk 5 47 hHeld ?_
            refine hTk 6 48 hHeld ?_
            refine hTk 7 49 hHeld ?_
            refine hTk 8 50 hHeld ?_
            refine hTk 9 51 hHeld ?_
            refine hTk 12 54 hHeld ?_
            refine hNo 10 fun K hK => ?_
            go_simp
            refine hK.out _ _ ?_ fun hHeld => ?_
            · exact ⟨((Below.refl w2.heap.size w2).drew.alloc (Nat.le_refl _) _).cell (p := ⟨p, 2, none⟩) (show p < w2.heap.size by omega) |>.trans f2, ((Below.refl w2.heap.size w2).drew.alloc (Nat.le_refl _) _).cell (p := ⟨gA, o + j, none⟩) (show gA < w2.heap.size by omega) |>.trans fy⟩
            clear hK K
            try simp only [Act.put, za, zb, zc]
            refine hand_call (i := 11) rfl (by kernel_rfl) ?_
            intro o11 ho
            simp at ho
            subst ho
            intro K hK
            refine wp_app (.tmp 44) (.tmp 52) rfl rfl rfl (((unhide hT2).carry (w' := w2.drew) rfl).alloc _) (view_one w2.drew y) (by rw [hlt0.out]; simp; omega) (kk + 1) (by rw [hlt0.out]; simp) ?_
            intro ao3 cap3 w3 g3 hown3 hap3
            have hB3 : Below w.heap.size w w3 := (((unhide hB2).drew).alloc (by have := (unhide hB2).size; simpa using this) _).trans (hap3.fr.below (fun i hi => by rw [hi]; exact hg) (by have := (unhide hB2).size; simp; omega))
            have hg3 : w.heap.size ≤ g3 := by rcases hap3.lies with e | e; omega; simp at e; omega
            have hV3 : View w3 (.slice ao2 (O.length - kk) cap2) g2 M := ((((unhide hown2).view.carry (w' := w2.drew) fun _ _ => rfl).alloc _)).fr hap3.fr (fun _ => show ¬ g2 = g by omega)
            have h3 := hap3.fr.size
            simp at h3
            have hne3 : M ≠ [] → g2 ≠ g3 := fun _ => by
              have := (unhide hown2).lt
              rcases hap3.lies with e | e
              · omega
              · simp at e; omega
            replace hV3 := hide hV3
            replace hown3 := hide hown3
            replace hB3 := hide hB3
            refine hK.out _ _ ?_ (fun hHeld => ?_)
            · exact ⟨((unhide hB3).cell (p := ⟨p, 2, none⟩) hpl).trans c2, ((unhide hB3).cell (p := ⟨gA, o + j, none⟩) hbA).trans hcell⟩
            clear hK K hap3
            try simp only [Act.put, List.setIfInBounds_toArray, List.set_cons_zero, List.set_cons_succ]
            refine hand_call (i := 13) rfl (by kernel_rfl) ?_
            intro o13 ho
            simp at ho
            subst ho
            intro K hK
            refine wp_app (.tmp 53) (.tmp 54) rfl rfl rfl (unhide hown3) (unhide hV3) (by rw [List.length_append, hlt0.out, hld.out]; first | omega | (simp; done) | (simp; omega)) (O.length + 1) (by rw [List.length_append, hlt0.out, hld.out]; first | omega | (simp; done) | (simp; omega)) ?_
            intro ao4 cap4 w4 g4 hown4 hap4
            have hB4 : Below w.heap.size w w4 := (unhide hB3).trans (hap4.fr.below (fun i hi => by rw [hi]; exact hg3) (unhide hB3).size)
            have hg4 : w.heap.size ≤ g4 := by rcases hap4.lies with e | e; omega; have := (unhide hB3).size; omega
            have hO4 := hown4
            rw [hins] at hO4
            replace hO4 := hide hO4
            replace hB4 := hide hB4
            refine hK.out _ _ ?_ (fun hHeld => ?_)
            · exact ⟨((unhide hB4).cell (p := ⟨p, 2, none⟩) hpl).trans c2, ((unhide hB4).cell (p := ⟨gA, o + j, none⟩) hbA).trans hcell⟩
            clear hK K hap4 hown4
            try simp only [Act.put, List.setIfInBounds_toArray, List.set_cons_zero, List.set_cons_succ]
            refine hTk 14 3 hHeld ?_
            refine wpAnyH_done (by kernel_rfl) (NoPanic.normal ?_) _
            clear hHeld
            go_wp2_with fail
            go_roundw
            case rel =>
              obtain ⟨o5, cap5, e5⟩ := own_some (unhide hO4) (by intro e; have := congrArg List.length e; rw [listA_len, List.length_take, List.length_nil] at this; omega)
              exact ⟨j + 1, g4, by omega, by simp, unhide hO4, hg4, unhide hB4, ⟨o5, _, cap5, e5⟩⟩
            case measure => simp [intOf]; omega
        · obtain rfl : kk = O.length := by omega
          have hins := (unhide hins) O.length hkk (fun i hi => hlow.out i hi) (fun h => absurd h hkl)
          by_cases hcp : cap' = O.length
          · subst hcp
            go_wp2_with fail
            refine wp_region_noPanic ?_
            refine wp_region_held_drew (S := fun w' => w'.cell? ⟨p, 2, none⟩ = some (.slice (some ⟨gA, o, none⟩) A.length cap) ∧ w'.cell? ⟨gA, o + j, none⟩ = some (.int .i64 y)) (by kernel_rfl) ?_ (fun hHeld => ?_)
            · exact ⟨c2r, cyr⟩
            obtain ⟨w0, hw0⟩ : ∃ w0, (wo.drewN n).drew = w0 := ⟨_, rfl⟩
            have hb0 : Hid (Below w.heap.size w w0) := by rw [← hw0]; exact (belowN (unhide hb') _).drew
            have hO0 : Hid (Own w0 (.slice (some ⟨g, oO, none⟩) O.length O.length) g O) := by rw [← hw0]; exact (unhide hO').carry rfl
            have d2 : w0.cell? ⟨p, 2, none⟩ = some (.slice (some ⟨gA, o, none⟩) A.length cap) := by rw [← hw0]; exact c2r
            have dy : w0.cell? ⟨gA, o + j, none⟩ = some (.int .i64 y) := by rw [← hw0]; exact cyr
            have hw1 : Hid (w0 = wo.drewN (n + 1)) := by rw [← hw0]; exact rfl
            rw [hw0] at hHeld ⊢
            clear hw0
            refine hTk 0 17 hHeld ?_
            refine hTk 1 18 hHeld ?_
            refine hTk 2 19 hHeld ?_
            refine hVl 3 20 (.bool false) hHeld (fun wz hSw => ?_) ?_
            · try dsimp only at hSw
              go_simp; try simp
            refine hTk 4 21 hHeld ?_
            refine hSk 5 22 hHeld ?_
            refine hSk 6 23 hHeld ?_
            refine hSk 7 24 hHeld ?_
            refine hSk 8 25 hHeld ?_
            refine hSk 9 26 hHeld ?_
            refine hSk 10 27 hHeld ?_
            refine hSk 11 28 hHeld ?_
            refine hSk 12 29 hHeld ?_
            refine hSk 13 30 hHeld ?_
            refine hSk 14 31 hHeld ?_
            refine hSk 15 32 hHeld ?_
            refine hSk 16 33 hHeld ?_
            refine hTk 17 34 hHeld ?_
            refine wpAnyH_done (by kernel_rfl) (NoPanic.normal ?_) _
            clear hHeld
            clear hw1
            have hs0 := (unhide hb0).size
            obtain ⟨M, hM⟩ : ∃ M : List Int, Hid (M = []) := ⟨_, rfl⟩
            have hV2 : Hid (∀ (ao : Option Addr) (c : Nat), c ≤ 9223372036854775807 → View w0 (.slice ao 0 c) g M) := fun ao c hc => by rw [hM.out]; exact ⟨ao, c, rfl, Nat.zero_le _, by unfold maxLen; omega, .inl rfl⟩
            have hld : Hid (M.length = 0) := by rw [hM.out]; rfl
            replace hins : O.take O.length ++ [y] ++ M = listA (A.take (j + 1)) := by rw [hM.out]; rw [List.drop_eq_nil_of_le (Nat.le_refl _)] at hins; exact hins
            have hT0 := hide (own_take (k := O.length) (unhide hO0) hkk)
            have hlt0 : Hid ((O.take O.length).length = O.length) := by rw [List.length_take]; show min O.length O.length = O.length; omega
            have m1 : (O.length : Int) ≤ O.length := by omega
            have m2 : (O.length : Int) ≤ O.length := by omega
            go_wp2_with (at_builtin; refine wpList_app rfl _ _ rfl rfl rfl (own_empty _ _) ((unhide hV2 _ _ (by omega)).alloc _) (by rw [hld.out]; simp; try omega) (0) (by rw [hld.out]; simp) ?_; intro ao2 cap2 w2 g2 hown2 hap2; have hb2 : Below w0.heap.size w0 w2 := ((belA' w0 _).trans (hap2.fr.below (fun i hi => by rw [hi]; exact Nat.le_refl _) (by simp))); have hg2 : w0.heap.size ≤ g2 := (by have := hap2.lies; simp at this; omega); rw [List.nil_append] at hown2; replace hown2 := hide hown2; clear hap2)
            have hT2 := hide ((unhide hT0).below hb2)
            have hgl : g < w0.heap.size := (unhide hO0).lt
            have f2 : w2.cell? ⟨p, 2, none⟩ = some (.slice (some ⟨gA, o, none⟩) A.length cap) := (hb2.cell (p := ⟨p, 2, none⟩) (show p < w0.heap.size by omega)).trans d2
            have fy : w2.cell? ⟨gA, o + j, none⟩ = some (.int .i64 y) := (hb2.cell (p := ⟨gA, o + j, none⟩) (show gA < w0.heap.size by omega)).trans dy
            have hB2 : Hid (Below w.heap.size w w2) := (unhide hb0).trans (hb2.mono hs0)
            have hs2 := hb2.size
            clear hb2 hT0 hV2 hO0 hb0 d2 dy
            refine wp_region_noPanic ?_
            refine wp_region_held_drew (S := fun w' => w'.cell? ⟨p, 2, none⟩ = some (.slice (some ⟨gA, o, none⟩) A.length cap) ∧ w'.cell? ⟨gA, o + j, none⟩ = some (.int .i64 y)) (by kernel_rfl) ?_ (fun hHeld => ?_)
            · exact ⟨f2, fy⟩
            refine hTk 0 42 hHeld ?_
            refine hTk 1 43 hHeld ?_
            refine hTk 2 44 hHeld ?_
            refine hTk 3 45 hHeld ?_
            refine hTk 4 46 hHeld ?_
            refine hTk 5 47 hHeld ?_
            refine hTk 6 48 hHeld ?_
            refine hTk 7 49 hHeld ?_
            refine hTk 8 50 hHeld ?_
            refine hTk 9 51 hHeld ?_
            refine hTk 12 54 hHeld ?_
            refine hNo 10 fun K hK => ?_
            go_simp
            refine hK.out _ _ ?_ fun hHeld => ?_
            · exact ⟨((Below.refl w2.heap.size w2).drew.alloc (Nat.le_refl _) _).cell (p := ⟨p, 2, none⟩) (show p < w2.heap.size by omega) |>.trans f2, ((Below.refl w2.heap.size w2).drew.alloc (Nat.le_refl _) _).cell (p := ⟨gA, o + j, none⟩) (show gA < w2.heap.size by omega) |>.trans fy⟩
            clear hK K
            try simp only [Act.put, za, zb, zc]
            refine hand_call (i := 11) rfl (by kernel_rfl) ?_
            intro o11 ho
            simp at ho
            subst ho
            intro K hK
            refine wp_app (.tmp 44) (.tmp 52) rfl rfl rfl (((unhide hT2).carry (w' := w2.drew) rfl).alloc _) (view_one w2.drew y) (by rw [hlt0.out]; simp; omega) (O.length + 1) (by rw [hlt0.out]; simp) ?_
            intro ao3 cap3 w3 g3 hown3 hap3
            have hB3 : Below w.heap.size w w3 := (((unhide hB2).drew).alloc (by have := (unhide hB2).size; simpa using this) _).trans (hap3.fr.below (fun i hi => by rw [hi]; exact hg) (by have := (unhide hB2).size; simp; omega))
            have hg3 : w.heap.size ≤ g3 := by rcases hap3.lies with e | e; omega; simp at e; omega
            have hV3 : View w3 (.slice ao2 (0) cap2) g2 M := ((((unhide hown2).view.carry (w' := w2.drew) fun _ _ => rfl).alloc _)).fr hap3.fr (fun _ => show ¬ g2 = g by omega)
            have h3 := hap3.fr.size
            simp at h3
            have hne3 : M ≠ [] → g2 ≠ g3 := fun _ => by
              have := (unhide hown2).lt
              rcases hap3.lies with e | e
              · omega
              · simp at e; omega
            replace hV3 := hide hV3
            replace hown3 := hide hown3
            replace hB3 := hide hB3
            refine hK.out _ _ ?_ (fun hHeld => ?_)
            · exact ⟨((unhide hB3).cell (p := ⟨p, 2, none⟩) hpl).trans c2, ((unhide hB3).cell (p := ⟨gA, o + j, none⟩) hbA).trans hcell⟩
            clear hK K hap3
            try simp only [Act.put, List.setIfInBounds_toArray, List.set_cons_zero, List.set_cons_succ]
            refine hand_call (i := 13) rfl (by kernel_rfl) ?_
            intro o13 ho
            simp at ho
            subst ho
            intro K hK
            refine wp_app (.tmp 53) (.tmp 54) rfl rfl rfl (unhide hown3) (unhide hV3) (by rw [List.length_append, hlt0.out, hld.out]; first | omega | (simp; done) | (simp; omega)) (O.length + 1) (by rw [List.length_append, hlt0.out, hld.out]; first | omega | (simp; done) | (simp; omega)) ?_
            intro ao4 cap4 w4 g4 hown4 hap4
            have hB4 : Below w.heap.size w w4 := (unhide hB3).trans (hap4.fr.below (fun i hi => by rw [hi]; exact hg3) (unhide hB3).size)
            have hg4 : w.heap.size ≤ g4 := by rcases hap4.lies with e | e; omega; have := (unhide hB3).size; omega
            have hO4 := hown4
            rw [hins] at hO4
            replace hO4 := hide hO4
            replace hB4 := hide hB4
            refine hK.out _ _ ?_ (fun hHeld => ?_)
            · exact ⟨((unhide hB4).cell (p := ⟨p, 2, none⟩) hpl).trans c2, ((unhide hB4).cell (p := ⟨gA, o + j, none⟩) hbA).trans hcell⟩
            clear hK K hap4 hown4
            try simp only [Act.put, List.setIfInBounds_toArray, List.set_cons_zero, List.set_cons_succ]
            refine hTk 14 3 hHeld ?_
            refine wpAnyH_done (by kernel_rfl) (NoPanic.normal ?_) _
            clear hHeld
            go_wp2_with fail
            go_roundw
            case rel =>
              obtain ⟨o5, cap5, e5⟩ := own_some (unhide hO4) (by intro e; have := congrArg List.length e; rw [listA_len, List.length_take, List.length_nil] at this; omega)
              exact ⟨j + 1, g4, by omega, by simp, unhide hO4, hg4, unhide hB4, ⟨o5, _, cap5, e5⟩⟩
            case measure => simp [intOf]; omega
          · go_wp2_with fail
            refine wp_region_noPanic ?_
            refine wp_region_held_drew (S := fun w' => w'.cell? ⟨p, 2, none⟩ = some (.slice (some ⟨gA, o, none⟩) A.length cap) ∧ w'.cell? ⟨gA, o + j, none⟩ = some (.int .i64 y)) (by kernel_rfl) ?_ (fun hHeld => ?_)
            · exact ⟨c2r, cyr⟩
            obtain ⟨w0, hw0⟩ : ∃ w0, (wo.drewN n).drew = w0 := ⟨_, rfl⟩
            have hb0 : Hid (Below w.heap.size w w0) := by rw [← hw0]; exact (belowN (unhide hb') _).drew
            have hO0 : Hid (Own w0 (.slice (some ⟨g, oO, none⟩) O.length cap') g O) := by rw [← hw0]; exact (unhide hO').carry rfl
            have d2 : w0.cell? ⟨p, 2, none⟩ = some (.slice (some ⟨gA, o, none⟩) A.length cap) := by rw [← hw0]; exact c2r
            have dy : w0.cell? ⟨gA, o + j, none⟩ = some (.int .i64 y) := by rw [← hw0]; exact cyr
            have hw1 : Hid (w0 = wo.drewN (n + 1)) := by rw [← hw0]; exact rfl
            rw [hw0] at hHeld ⊢
            clear hw0
            refine hTk 0 17 hHeld ?_
            refine hTk 1 18 hHeld ?_
            refine hTk 2 19 hHeld ?_
            refine hVl 3 20 (.bool false) hHeld (fun wz hSw => ?_) ?_
            · try dsimp only at hSw
              go_simp; try simp
            refine hTk 4 21 hHeld ?_
            refine hSk 5 22 hHeld ?_
            refine hSk 6 23 hHeld ?_
            refine hSk 7 24 hHeld ?_
            refine hSk 8 25 hHeld ?_
            refine hSk 9 26 hHeld ?_
            refine hSk 10 27 hHeld ?_
            refine hSk 11 28 hHeld ?_
            refine hSk 12 29 hHeld ?_
            refine hSk 13 30 hHeld ?_
            refine hSk 14 31 hHeld ?_
            refine hSk 15 32 hHeld ?_
            refine hSk 16 33 hHeld ?_
            refine hTk 17 34 hHeld ?_
            refine wpAnyH_done (by kernel_rfl) (NoPanic.normal ?_) _
            clear hHeld
            clear hw1
            have hs0 := (unhide hb0).size
            obtain ⟨M, hM⟩ : ∃ M : List Int, Hid (M = []) := ⟨_, rfl⟩
            have hV2 : Hid (∀ (ao : Option Addr) (c : Nat), c ≤ 9223372036854775807 → View w0 (.slice ao 0 c) g M) := fun ao c hc => by rw [hM.out]; exact ⟨ao, c, rfl, Nat.zero_le _, by unfold maxLen; omega, .inl rfl⟩
            have hld : Hid (M.length = 0) := by rw [hM.out]; rfl
            replace hins : O.take O.length ++ [y] ++ M = listA (A.take (j + 1)) := by rw [hM.out]; rw [List.drop_eq_nil_of_le (Nat.le_refl _)] at hins; exact hins
            have hT0 := hide (own_take (k := O.length) (unhide hO0) hkk)
            have hlt0 : Hid ((O.take O.length).length = O.length) := by rw [List.length_take]; show min O.length O.length = O.length; omega
            have m1 : (O.length : Int) ≤ O.length := by omega
            have m2 : (O.length : Int) ≤ cap' := by omega
            go_wp2_with (at_builtin; refine wpList_app rfl _ _ rfl rfl rfl (own_empty _ _) ((unhide hV2 _ _ (by omega)).alloc _) (by rw [hld.out]; simp; try omega) (0) (by rw [hld.out]; simp) ?_; intro ao2 cap2 w2 g2 hown2 hap2; have hb2 : Below w0.heap.size w0 w2 := ((belA' w0 _).trans (hap2.fr.below (fun i hi => by rw [hi]; exact Nat.le_refl _) (by simp))); have hg2 : w0.heap.size ≤ g2 := (by have := hap2.lies; simp at this; omega); rw [List.nil_append] at hown2; replace hown2 := hide hown2; clear hap2)
            have hT2 := hide ((unhide hT0).below hb2)
            have hgl : g < w0.heap.size := (unhide hO0).lt
            have f2 : w2.cell? ⟨p, 2, none⟩ = some (.slice (some ⟨gA, o, none⟩) A.length cap) := (hb2.cell (p := ⟨p, 2, none⟩) (show p < w0.heap.size by omega)).trans d2
            have fy : w2.cell? ⟨gA, o + j, none⟩ = some (.int .i64 y) := (hb2.cell (p := ⟨gA, o + j, none⟩) (show gA < w0.heap.size by omega)).trans dy
            have hB2 : Hid (Below w.heap.size w w2) := (unhide hb0).trans (hb2.mono hs0)
            have hs2 := hb2.size
            clear hb2 hT0 hV2 hO0 hb0 d2 dy
            refine wp_region_noPanic ?_
            refine wp_region_held_drew (S := fun w' => w'.cell? ⟨p, 2, none⟩ = some (.slice (some ⟨gA, o, none⟩) A.length cap) ∧ w'.cell? ⟨gA, o + j, none⟩ = some (.int .i64 y)) (by kernel_rfl) ?_ (fun hHeld => ?_)
            · exact ⟨f2, fy⟩
            refine hTk 0 42 hHeld ?_
            refine hTk 1 43 hHeld ?_
            refine hTk 2 44 hHeld ?_
            refine hTk 3 45 hHeld ?_
            refine hTk 4 46 hHeld ?_
            refine hTk 5 47 hHeld ?_
            refine hTk 6 48 hHeld ?_
            refine hTk 7 49 hHeld ?_
            refine hTk 8 50 hHeld ?_
            refine hTk 9 51 hHeld ?_
            refine hTk 12 54 hHeld ?_
            refine hNo 10 fun K hK => ?_
            go_simp
            refine hK.out _ _ ?_ fun hHeld => ?_
            · exact ⟨((Below.refl w2.heap.size w2).drew.alloc (Nat.le_refl _) _).cell (p := ⟨p, 2, none⟩) (show p < w2.heap.size by omega) |>.trans f2, ((Below.refl w2.heap.size w2).drew.alloc (Nat.le_refl _) _).cell (p := ⟨gA, o + j, none⟩) (show gA < w2.heap.size by omega) |>.trans fy⟩
            clear hK K
            try simp only [Act.put, za, zb, zc]
            refine hand_call (i := 11) rfl (by kernel_rfl) ?_
            intro o11 ho
            simp at ho
            subst ho
            intro K hK
            refine wp_app (.tmp 44) (.tmp 52) rfl rfl rfl (((unhide hT2).carry (w' := w2.drew) rfl).alloc _) (view_one w2.drew y) (by rw [hlt0.out]; simp; omega) (O.length + 1) (by rw [hlt0.out]; simp) ?_
            intro ao3 cap3 w3 g3 hown3 hap3
            have hB3 : Below w.heap.size w w3 := (((unhide hB2).drew).alloc (by have := (unhide hB2).size; simpa using this) _).trans (hap3.fr.below (fun i hi => by rw [hi]; exact hg) (by have := (unhide hB2).size; simp; omega))
            have hg3 : w.heap.size ≤ g3 := by rcases hap3.lies with e | e; omega; simp at e; omega
            have hV3 : View w3 (.slice ao2 (0) cap2) g2 M := ((((unhide hown2).view.carry (w' := w2.drew) fun _ _ => rfl).alloc _)).fr hap3.fr (fun _ => show ¬ g2 = g by omega)
            have h3 := hap3.fr.size
            simp at h3
            have hne3 : M ≠ [] → g2 ≠ g3 := fun _ => by
              have := (unhide hown2).lt
              rcases hap3.lies with e | e
              · omega
              · simp at e; omega
            replace hV3 := hide hV3
            replace hown3 := hide hown3
            replace hB3 := hide hB3
            refine hK.out _ _ ?_ (fun hHeld => ?_)
            · exact ⟨((unhide hB3).cell (p := ⟨p, 2, none⟩) hpl).trans c2, ((unhide hB3).cell (p := ⟨gA, o + j, none⟩) hbA).trans hcell⟩
            clear hK K hap3
            try simp only [Act.put, List.setIfInBounds_toArray, List.set_cons_zero, List.set_cons_succ]
            refine hand_call (i := 13) rfl (by kernel_rfl) ?_
            intro o13 ho
            simp at ho
            subst ho
            intro K hK
            refine wp_app (.tmp 53) (.tmp 54) rfl rfl rfl (unhide hown3) (unhide hV3) (by rw [List.length_append, hlt0.out, hld.out]; first | omega | (simp; done) | (simp; omega)) (O.length + 1) (by rw [List.length_append, hlt0.out, hld.out]; first | omega | (simp; done) | (simp; omega)) ?_
            intro ao4 cap4 w4 g4 hown4 hap4
            have hB4 : Below w.heap.size w w4 := (unhide hB3).trans (hap4.fr.below (fun i hi => by rw [hi]; exact hg3) (unhide hB3).size)
            have hg4 : w.heap.size ≤ g4 := by rcases hap4.lies with e | e; omega; have := (unhide hB3).size; omega
            have hO4 := hown4
            rw [hins] at hO4
            replace hO4 := hide hO4
            replace hB4 := hide hB4
            refine hK.out _ _ ?_ (fun hHeld => ?_)
            · exact ⟨((unhide hB4).cell (p := ⟨p, 2, none⟩) hpl).trans c2, ((unhide hB4).cell (p := ⟨gA, o + j, none⟩) hbA).trans hcell⟩
            clear hK K hap4 hown4
            try simp only [Act.put, List.setIfInBounds_toArray, List.set_cons_zero, List.set_cons_succ]
            refine hTk 14 3 hHeld ?_
            refine wpAnyH_done (by kernel_rfl) (NoPanic.normal ?_) _
            clear hHeld
            go_wp2_with fail
            go_roundw
            case rel =>
              obtain ⟨o5, cap5, e5⟩ := own_some (unhide hO4) (by intro e; have := congrArg List.length e; rw [listA_len, List.length_take, List.length_nil] at this; omega)
              exact ⟨j + 1, g4, by omega, by simp, unhide hO4, hg4, unhide hB4, ⟨o5, _, cap5, e5⟩⟩
            case measure => simp [intOf]; omega
    · obtain rfl : j = A.length := by omega
      rw [List.take_length] at hO ⊢
      replace hO := hide hO
      replace hb := hide hb
      go_wp2_with fail
      go_ret
      exact ⟨_, g, rfl, hg, unhide hO, unhide hb⟩
end Go.Proofs.YtoenjdnccgmhoaaGreatDoor
