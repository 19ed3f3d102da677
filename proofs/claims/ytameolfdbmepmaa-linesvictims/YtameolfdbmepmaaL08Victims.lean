/- The walk of LinesVictims: it returns true; no old memory turns. -/
import Derived.Test.YtameolfdbmepmaaLaw08b
namespace Go.Proofs.Ytameolfdbmepmaa
open Go.ChangeShapes Go.WideShapes Go.ChangeAt Go.RowKit
set_option linter.unusedSimpArgs false
set_option linter.unusedVariables false

attribute [local go_sem, local simp] over_const setCell_drewN alloc_drewN Over.cell Over.frozen lt_s1 lt_s2 lt_s3 le_s0 le_s1 le_s2 le_s3 eq_s0 eq_s1 eq_s2 qe_s0

theorem firstNot_spec (L : List Int) (q : Int) : ((firstNot L q).2 = true → (firstNot L q).1 ∈ L ∧ (firstNot L q).1 ≠ q) ∧ ((firstNot L q).2 = false → (firstNot L q).1 = -1 ∧ ∀ y ∈ L, y = q) := by
  induction L with
  | nil => simp [firstNot]
  | cons y r ih =>
    simp only [firstNot]
    split
    · rename_i c
      refine ⟨fun h => ⟨List.mem_cons_of_mem _ (ih.1 h).1, (ih.1 h).2⟩, fun h => ⟨(ih.2 h).1, fun z hz => ?_⟩⟩
      rcases List.mem_cons.1 hz with rfl | hz
      · exact c
      · exact (ih.2 h).2 z hz
    · rename_i c
      exact ⟨fun _ => ⟨by simp, c⟩, fun h => by simp at h⟩

theorem vic_law {S W : Int} {L : List Int} (hI : Inv S W L) {x q : Int} {v : Int} {ok : Bool} (hr : vicA S W L x q = (v, ok)) :
    (ok = false → v = -1 ∧ decide (x ∈ L) = false ∧ okAdd S W L x = false ∧ (x < 0 ∨ decide (q ∈ L) = true)) ∧ (ok = true → decide (x ∈ L) = true → v = -1) ∧ (ok = true → decide (x ∈ L) = false → okAdd S W L x = true → v = -1) ∧
    (ok = true → decide (x ∈ L) = false → okAdd S W L x = false → v ≠ q ∧ okRem L v = true ∧ okAdd S W (L.erase v) x = true) := by
  unfold vicA at hr
  by_cases c0 : x < 0
  · simp only [if_pos c0, Prod.mk.injEq] at hr
    obtain ⟨rfl, rfl⟩ := hr
    have hx : x ∉ L := fun h => by have := (hI.pos x h).1; omega
    refine ⟨fun _ => ⟨rfl, by simpa using hx, by simp [okAdd]; omega, .inl c0⟩, fun h => ?_, fun h => ?_, fun h => ?_⟩ <;> cases h
  simp only [if_neg c0] at hr
  by_cases c1 : x ∈ L ∨ fullA S W L x = false
  · simp only [if_pos c1, Prod.mk.injEq] at hr
    obtain ⟨rfl, rfl⟩ := hr
    refine ⟨fun h => (by cases h), fun _ _ => rfl, fun _ _ _ => rfl, fun _ h1 h2 => ?_⟩
    simp at h1
    rcases c1 with c1 | c1
    · exact absurd c1 h1
    · simp [okAdd, h1, c1] at h2
      omega
  simp only [if_neg c1] at hr
  have hx : x ∉ L := fun h => c1 (.inl h)
  have hfull : fullA S W L x = true := by
    cases h : fullA S W L x
    · exact absurd (.inr h) c1
    · rfl
  have hno : okAdd S W L x = false := by simp [okAdd, hfull]
  have hsp := firstNot_spec (part S L (modZ x S)) q
  rw [hr] at hsp
  dsimp only at hsp
  refine ⟨fun h => ?_, fun _ h => ?_, fun _ _ h => ?_, fun h _ _ => ?_⟩
  · obtain ⟨h1, h2⟩ := hsp.2 h
    refine ⟨h1, by simpa using hx, hno, .inr ?_⟩
    obtain ⟨P, hP⟩ : ∃ P, part S L (modZ x S) = P := ⟨_, rfl⟩
    cases P with
    | nil =>
      simp [fullA, hP] at hfull
      have := hI.w0
      omega
    | cons y r =>
      have hy : y ∈ part S L (modZ x S) := by rw [hP]; simp
      have := h2 y hy
      subst this
      simpa using (mem_part'.1 hy).1
  · simp at h; exact absurd h hx
  · rw [hno] at h; cases h
  · obtain ⟨h1, h2⟩ := hsp.1 h
    have hv := mem_part'.1 h1
    refine ⟨h2, by simpa [okRem] using hv.1, ?_⟩
    have hx' : x ∉ L.erase v := fun e => hx (List.mem_of_mem_erase e)
    have hl : (part S (L.erase v) (modZ x S)).length = (part S L (modZ x S)).length - 1 := by
      rw [← hv.2, part_erase_same, List.length_erase_of_mem (mem_part.2 hv.1)]
    have hp := List.length_pos_of_mem h1
    have hrm := hI.room (modZ x S)
    simp [okAdd, fullA, hx', hl]
    omega

set_option maxHeartbeats 2000000 in
theorem LinesVictims_walk (s t x u : Int) (v : Value) (A : List (Int × Int)) (w : World) (h : ActsAt w.heap.size w v A) (hx : x ≤ 9223372036854775807) : Calls Try.prog 4 #[.agg #[.int .i64 s, .int .i64 t], v, .agg #[.int .i64 x, .int .i64 u]] w fun e w' => e = .returned (.bool true) ∧ Below w.heap.size w w' := by
  have hA := hide h
  obtain ⟨ao, cap, rfl, hlc, hmx, _⟩ := h
  have hmx' : A.length ≤ 9223372036854775807 := by unfold maxLen at hmx; omega
  clear hmx
  go_enter Try.func4, Try.ntmps4
  go_wp2_with fail
  go_at_call 9
  refine (awake8_any _).mono ?_
  rintro e w1 ⟨rfl, hb1⟩
  obtain ⟨B1, B2, hB1, hs1⟩ := boxes hb1
  clear hb1
  by_cases c : 200 < (A.length : Int)
  · replace hB1 := hide hB1
    clear B1 B2
    go_wp2_with fail
    go_at_call 9
    refine (awake8_any _).mono ?_
    rintro e w3 ⟨rfl, hb3⟩
    replace hb3 := hide hb3
    go_wp2_with fail
    go_ret
    exact ⟨rfl, (unhide hB1).trans ((unhide hb3).mono (by omega))⟩
  obtain ⟨_, q0, q1⟩ := B1
  replace B2 := hide B2
  go_wp2_with fail
  go_at_call 10
  refine (new_c s t _).mono ?_
  obtain ⟨S, hS⟩ : ∃ S, Hid (clampZ s 1 64 = S) := ⟨_, rfl⟩
  obtain ⟨W, hW⟩ : ∃ W, Hid (clampZ t 1 16 = W) := ⟨_, rfl⟩
  rw [hS.out, hW.out]
  rintro e w2 ⟨p, F, rfl, hn, hb2, hF⟩
  have hE := hide (Env.first (unhide B2) hB1 hs1 hn hb2 hF)
  clear hb2 hB1 q0 q1 hn B2 hF
  go_wp2_with fail
  go_loopw [30] (fun i wr => ∃ (j : Nat) (F : Nat → Prop) (L : List Int), j ≤ A.length ∧ i = .int .i64 j ∧ Env w wr p F S W L x u) (fun i _ => A.length - (intOf i).toNat)
  case atStart => exact ⟨0, F, [], Nat.zero_le _, rfl, unhide hE⟩
  case round =>
    obtain ⟨j, G, L, hj, rfl, hE2⟩ := hrel
    clear hE
    by_cases hlt : j < A.length
    · have hlt' : (j : Int) < A.length := by omega
      obtain ⟨b, o, rfl, hbB, hbl, a0, a1, a2⟩ := acts_row ((unhide hA).below hE2.bel) hlt
      generalize A[j] = a at a0 a1 a2
      obtain ⟨k, bl⟩ := a
      dsimp only at a0 a1 a2
      replace hE2 := hide hE2
      go_wp2_with fail
      go_at_call 12
      refine (add_c p G S W bl L _ ((unhide hE2).n.alloc _) a2).mono ?_
      rintro e w3 ⟨rfl, G', hn3, st3⟩
      have hE3 := hide ((unhide hE2).step (belA _ _) hn3 st3)
      have hbox := (((box_new wr k bl _).fr st3.fr (fun e => by have := (unhide hE2).n.lt _ e; omega)) : Box w3 wr.heap.size k bl)
      obtain ⟨-, y0, y1⟩ := hbox
      clear hn3 st3 hE2
      by_cases ck : k = 2
      · subst ck
        go_wp2_with fail
        go_at_call 14
        refine (use_c p G' S W bl _ w3 (unhide hE3).n a2).mono ?_
        rintro e w4 ⟨rfl, G4, hn4, st4⟩
        have hE4 := hide ((unhide hE3).step (Below.refl _ _) hn4 st4)
        clear hn4 st4 hE3 y0 y1
        go_wp2_with fail
        go_roundw
        case rel => exact ⟨j + 1, G4, _, by omega, by simp, unhide hE4⟩
        case measure => simp [intOf]; omega
      · go_wp2_with fail
        go_roundw
        case rel => exact ⟨j + 1, G', _, by omega, by simp, unhide hE3⟩
        case measure => simp [intOf]; omega
    · obtain rfl : j = A.length := by omega
      obtain ⟨-, x0, x1⟩ := hE2.box
      have hI := hide hE2.n.inv
      replace hE2 := hide hE2
      clear hlt
      obtain ⟨⟨v, ok⟩, hvv⟩ : ∃ b, Hid (vicA S W L x u = b) := ⟨_, rfl⟩
      obtain ⟨had, hhad⟩ : ∃ q, Hid (decide (x ∈ L) = q) := ⟨_, rfl⟩
      obtain ⟨oa, hoa⟩ : ∃ q, Hid (okAdd S W L x = q) := ⟨_, rfl⟩
      obtain ⟨k1, k2, k3, k4⟩ := vic_law (unhide hI) hvv.out
      rw [hhad.out] at k1 k2 k3 k4
      rw [hoa.out] at k1 k3 k4
      go_wp2_with fail
      go_at_call 20
      refine (has_c p G S W x L wr (unhide hE2).n).mono ?_
      rw [hhad.out]
      rintro e w3 ⟨rfl, n3, rfl⟩
      go_wp2_with fail
      go_at_call 18
      refine (victim_c p G S W x u L _ ((unhide hE2).n.drewN _)).mono ?_
      rw [hvv.out]
      rintro e w4 ⟨rfl, n4, rfl⟩
      cases ok
      case false =>
        obtain ⟨rfl, rfl, rfl, k5⟩ := k1 rfl
        clear k1 k2 k3 k4
        replace k5 := hide k5
        go_wp2_with fail
        go_at_call 12
        refine (add_c p G S W x L _ ((unhide hE2).n.drewN _) hx).mono ?_
        rw [hoa.out, show nxAdd S W L x = L by simp [nxAdd, hoa.out]]
        rintro e w5 ⟨rfl, G5, hn5, st5⟩
        have hE5 := (unhide hE2).step (belD _ _) hn5 st5
        clear hn5 st5 hE2 x0 x1
        obtain ⟨-, x0, x1⟩ := hE5.box
        replace hE5 := hide hE5
        by_cases c0 : x < 0
        · go_wp2_with fail
          go_ret
          exact ⟨rfl, (unhide hE5).bel⟩
        · have hq : decide (u ∈ L) = true := (unhide k5).resolve_left c0
          go_wp2_with fail
          go_at_call 20
          refine (has_c p G5 S W u L w5 (unhide hE5).n).mono ?_
          rw [hq]
          rintro e w6 ⟨rfl, n6, rfl⟩
          go_wp2_with fail
          go_ret
          exact ⟨rfl, belowN (unhide hE5).bel _⟩
      case true =>
        cases had
        case true =>
          obtain rfl := k2 rfl rfl
          clear k1 k2 k3 k4
          go_wp2_with fail
          go_ret
          exact ⟨rfl, belowN (unhide hE2).bel _⟩
        case false =>
          cases oa
          case true =>
            obtain rfl := k3 rfl rfl rfl
            clear k1 k2 k3 k4
            go_wp2_with fail
            go_at_call 12
            refine (add_c p G S W x L _ ((unhide hE2).n.drewN _) hx).mono ?_
            rw [hoa.out]
            rintro e w5 ⟨rfl, G5, hn5, st5⟩
            have hE5 := hide ((unhide hE2).step (belD _ _) hn5 st5)
            clear hn5 st5 hE2 x0 x1
            go_wp2_with fail
            go_ret
            exact ⟨rfl, (unhide hE5).bel⟩
          case false =>
            obtain ⟨k5, k6, k7⟩ := k4 rfl rfl rfl
            clear k1 k2 k3 k4
            replace k6 := hide k6
            replace k7 := hide k7
            go_wp2_with fail
            go_at_call 12
            refine (add_c p G S W x L _ ((unhide hE2).n.drewN _) hx).mono ?_
            rw [hoa.out, show nxAdd S W L x = L by simp [nxAdd, hoa.out]]
            rintro e w5 ⟨rfl, G5, hn5, st5⟩
            have hE5 := (unhide hE2).step (belD _ _) hn5 st5
            clear hn5 st5 hE2 x0 x1
            obtain ⟨-, x0, x1⟩ := hE5.box
            replace hE5 := hide hE5
            go_wp2_with fail
            go_at_call 16
            refine (remove_c p G5 S W v L w5 (unhide hE5).n).mono ?_
            rw [k6.out]
            rintro e w6 ⟨rfl, G6, hn6, st6⟩
            have hE6 := (unhide hE5).step (Below.refl _ _) hn6 st6
            clear hn6 st6 hE5 x0 x1
            obtain ⟨-, x0, x1⟩ := hE6.box
            replace hE6 := hide hE6
            go_wp2_with fail
            go_at_call 12
            refine (add_c p G6 S W x _ w6 (unhide hE6).n hx).mono ?_
            rw [k7.out]
            rintro e w7 ⟨rfl, G7, hn7, st7⟩
            have hE7 := hide ((unhide hE6).step (Below.refl _ _) hn7 st7)
            clear hn7 st7 hE6 x0 x1
            go_wp2_with fail
            go_ret
            exact ⟨by simp [k5], (unhide hE7).bel⟩
end Go.Proofs.Ytameolfdbmepmaa
