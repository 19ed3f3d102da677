/- The walk of LinesUse: it returns true; no old memory turns. -/
import Derived.Test.YtameolfdbmepmaaLaw08b
namespace Go.Proofs.Ytameolfdbmepmaa
open Go.ChangeShapes Go.WideShapes Go.ChangeAt Go.RowKit
set_option linter.unusedSimpArgs false
set_option linter.unusedVariables false

attribute [local go_sem, local simp] over_const setCell_drewN alloc_drewN Over.cell Over.frozen lt_s1 lt_s2 lt_s3 le_s0 le_s1 le_s2 le_s3 eq_s0 eq_s1 eq_s2 qe_s0

theorem firstNot_head {y q : Int} {r : List Int} (h : y ≠ q) : firstNot (y :: r) q = (y, true) := by simp [firstNot, h]

theorem firstNot_no {L : List Int} {q : Int} (h : q ∉ L) : firstNot L q = firstNot L (-1) ∨ -1 ∈ L := by
  cases L with
  | nil => left; rfl
  | cons y r =>
    by_cases c : y = -1
    · right; simp [c]
    · left
      rw [firstNot_head c, firstNot_head (fun e => h (by simp [e]))]

theorem mem_use {A : List Int} {x u : Int} (hn : A.Nodup) (hu : u ∈ A) : x ∈ nxUse A u ↔ x ∈ A := by
  simp only [nxUse, if_pos hu, List.mem_append, List.mem_singleton, hn.mem_erase_iff]
  constructor
  · rintro (⟨_, h⟩ | rfl)
    · exact h
    · exact hu
  · intro h
    by_cases e : x = u
    · exact .inr e
    · exact .inl ⟨e, h⟩

theorem part_use_same {S : Int} {A : List Int} {u : Int} (hu : u ∈ A) : part S (nxUse A u) (modZ u S) = (part S A (modZ u S)).erase u ++ [u] := by
  simp only [nxUse, if_pos hu]
  rw [part_append, part_erase_same, part_one_same]

theorem part_use_other {S k : Int} {A : List Int} {u : Int} (hu : u ∈ A) (h : k ≠ modZ u S) : part S (nxUse A u) k = part S A k := by
  simp only [nxUse, if_pos hu]
  rw [part_append, part_erase_other h, part_one_other h, List.append_nil]

theorem full_use {S W : Int} {A : List Int} {x u : Int} (hu : u ∈ A) : fullA S W (nxUse A u) x = fullA S W A x := by
  by_cases c : modZ x S = modZ u S
  · have h1 : (part S (nxUse A u) (modZ x S)).length = (part S A (modZ x S)).length := by
      have h2 := List.length_pos_of_mem ((mem_part (S := S)).2 hu)
      rw [c, part_use_same hu, List.length_append, List.length_erase_of_mem (mem_part.2 hu)]
      simp
      omega
    simp only [fullA, h1]
  · simp only [fullA, part_use_other hu c]

theorem use_law {S W : Int} {A : List Int} (hI : Inv S W A) {x u : Int} (hu : u ∈ A) (b a o : Int × Bool) (hb : vicA S W A x (-1) = b) (ha : vicA S W (nxUse A u) x (-1) = a) (ho : vicA S W (nxUse A u) x u = o) :
    (b.1 ≠ u → a.1 = b.1) ∧ (b.1 = u → a.2 = true ∧ ((o.2 = true ∧ a.1 = o.1) ∨ (o.2 = false ∧ a.1 = b.1))) := by
  have hu0 := (hI.pos u hu).1
  unfold vicA at hb ha ho
  rw [full_use hu] at ha ho
  simp only [mem_use hI.nodup hu] at ha ho
  by_cases c0 : x < 0
  · simp only [if_pos c0] at hb ha ho
    subst hb ha
    exact ⟨fun _ => rfl, fun e => by simp at e; omega⟩
  simp only [if_neg c0] at hb ha ho
  by_cases c1 : x ∈ A ∨ fullA S W A x = false
  · simp only [if_pos c1] at hb ha ho
    subst hb ha
    exact ⟨fun _ => rfl, fun e => by simp at e; omega⟩
  simp only [if_neg c1] at hb ha ho
  have hfull : fullA S W A x = true := by
    cases h : fullA S W A x
    · exact absurd (.inr h) c1
    · rfl
  obtain ⟨P, hP⟩ : ∃ P, part S A (modZ x S) = P := ⟨_, rfl⟩
  have hPn : ∀ y ∈ P, 0 ≤ y := fun y hy => by rw [← hP] at hy; exact (hI.pos y (mem_part'.1 hy).1).1
  have hPk : ∀ y ∈ P, modZ y S = modZ x S := fun y hy => by rw [← hP] at hy; exact (mem_part'.1 hy).2
  have hPd : P.Nodup := by rw [← hP]; exact hI.nodup.filter _
  rw [hP] at hb
  cases P with
  | nil =>
    simp [fullA, hP] at hfull
    have := hI.w0
    omega
  | cons y r =>
    have hy0 := hPn y (by simp)
    rw [firstNot_head (by omega)] at hb
    subst hb
    dsimp only
    by_cases ck : modZ x S = modZ u S
    · have e1 : part S (nxUse A u) (modZ x S) = (y :: r).erase u ++ [u] := by rw [ck, part_use_same hu, ← ck, hP]
      rw [e1] at ha ho
      by_cases cy : y = u
      · subst cy
        rw [List.erase_cons_head] at ha ho
        refine ⟨fun h => absurd rfl h, fun _ => ?_⟩
        cases r with
        | nil =>
          rw [List.nil_append, firstNot_head (by omega)] at ha
          simp [firstNot] at ho
          subst ha ho
          exact ⟨rfl, .inr ⟨rfl, rfl⟩⟩
        | cons z r' =>
          have hz0 := hPn z (by simp)
          have hzy : z ≠ y := by
            intro e
            subst e
            simp at hPd
          rw [List.cons_append, firstNot_head (by omega)] at ha
          rw [List.cons_append, firstNot_head hzy] at ho
          subst ha ho
          exact ⟨rfl, .inl ⟨rfl, rfl⟩⟩
      · rw [List.erase_cons_tail (by simpa using cy), List.cons_append, firstNot_head (by omega)] at ha
        subst ha
        exact ⟨fun _ => rfl, fun e => absurd e cy⟩
    · rw [part_use_other hu ck, hP, firstNot_head (by omega)] at ha
      subst ha
      refine ⟨fun _ => rfl, fun e => ?_⟩
      have := hPk y (by simp)
      rw [e] at this
      exact absurd this.symm ck

set_option maxHeartbeats 2000000 in
theorem LinesUse_walk (s t x u : Int) (v : Value) (A : List (Int × Int)) (w : World) (h : ActsAt w.heap.size w v A) (hu : u ≤ 9223372036854775807) : Calls Try.prog 7 #[.agg #[.int .i64 s, .int .i64 t], v, .agg #[.int .i64 x, .int .i64 u]] w fun e w' => e = .returned (.bool true) ∧ Below w.heap.size w w' := by
  have hA := hide h
  obtain ⟨ao, cap, rfl, hlc, hmx, _⟩ := h
  have hmx' : A.length ≤ 9223372036854775807 := by unfold maxLen at hmx; omega
  clear hmx
  go_enter Try.func7, Try.ntmps7
  go_wp2_with fail
  go_at_call 9
  refine (awake8_any _).mono ?_
  rintro e w1 ⟨rfl, hb1⟩
  obtain ⟨B1, B2, hB1, hs1⟩ := boxes hb1
  clear hb1
  by_cases c : 200 < (A.length : Int)
  · replace hB1 := hide hB1
    clear B1 B2
    go_wp2_with fail
    go_at_call 9
    refine (awake8_any _).mono ?_
    rintro e w3 ⟨rfl, hb3⟩
    replace hb3 := hide hb3
    go_wp2_with fail
    go_ret
    exact ⟨rfl, (unhide hB1).trans ((unhide hb3).mono (by omega))⟩
  obtain ⟨_, q0, q1⟩ := B1
  replace B2 := hide B2
  go_wp2_with fail
  go_at_call 10
  refine (new_c s t _).mono ?_
  obtain ⟨S, hS⟩ : ∃ S, Hid (clampZ s 1 64 = S) := ⟨_, rfl⟩
  obtain ⟨W, hW⟩ : ∃ W, Hid (clampZ t 1 16 = W) := ⟨_, rfl⟩
  rw [hS.out, hW.out]
  rintro e w2 ⟨p, F, rfl, hn, hb2, hF⟩
  have hE := hide (Env.first (unhide B2) hB1 hs1 hn hb2 hF)
  clear hb2 hB1 q0 q1 hn B2 hF
  go_wp2_with fail
  go_loopw [33] (fun i wr => ∃ (j : Nat) (F : Nat → Prop) (L : List Int), j ≤ A.length ∧ i = .int .i64 j ∧ Env w wr p F S W L x u) (fun i _ => A.length - (intOf i).toNat)
  case atStart => exact ⟨0, F, [], Nat.zero_le _, rfl, unhide hE⟩
  case round =>
    obtain ⟨j, G, L, hj, rfl, hE2⟩ := hrel
    clear hE
    by_cases hlt : j < A.length
    · have hlt' : (j : Int) < A.length := by omega
      obtain ⟨b, o, rfl, hbB, hbl, a0, a1, a2⟩ := acts_row ((unhide hA).below hE2.bel) hlt
      generalize A[j] = a at a0 a1 a2
      obtain ⟨k, bl⟩ := a
      dsimp only at a0 a1 a2
      replace hE2 := hide hE2
      go_wp2_with fail
      go_at_call 12
      refine (add_c p G S W bl L _ ((unhide hE2).n.alloc _) a2).mono ?_
      rintro e w3 ⟨rfl, G', hn3, st3⟩
      have hE3 := hide ((unhide hE2).step (belA _ _) hn3 st3)
      clear hn3 st3 hE2
      go_wp2_with fail
      go_roundw
      case rel => exact ⟨j + 1, G', _, by omega, by simp, unhide hE3⟩
      case measure => simp [intOf]; omega
    · obtain rfl : j = A.length := by omega
      obtain ⟨-, x0, x1⟩ := hE2.box
      have hI := hide hE2.n.inv
      replace hE2 := hide hE2
      clear hlt
      obtain ⟨⟨b1, b2⟩, hbv⟩ : ∃ b, Hid (vicA S W L x (-1) = b) := ⟨_, rfl⟩
      go_wp2_with fail
      go_at_call 18
      refine (victim_c p G S W x (-1) L wr (unhide hE2).n).mono ?_
      rw [hbv.out]
      rintro e w3 ⟨rfl, n3, rfl⟩
      go_wp2_with fail
      go_at_call 14
      obtain ⟨q, hq⟩ : ∃ q, Hid (okRem L u = q) := ⟨_, rfl⟩
      refine (use_c p G S W u L _ ((unhide hE2).n.drewN _) hu).mono ?_
      rw [hq.out]
      rintro e w4 ⟨rfl, G4, hn4, st4⟩
      have hE4 := (unhide hE2).step (belD _ _) hn4 st4
      clear hn4 st4 hE2 x0 x1
      obtain ⟨-, x0, x1⟩ := hE4.box
      replace hE4 := hide hE4
      cases q
      case false =>
        have hnu : u ∉ L := by simpa [okRem] using hq.out
        have e1 : decide (u ∈ nxUse L u) = false := by simp [nxUse, hnu]
        clear hnu
        go_wp2_with fail
        go_at_call 20
        refine (has_c p G4 S W u _ w4 (unhide hE4).n).mono ?_
        rw [e1]
        rintro e w5 ⟨rfl, n5, rfl⟩
        go_wp2_with fail
        go_ret
        exact ⟨rfl, belowN (unhide hE4).bel _⟩
      case true =>
        have hmu : u ∈ L := by simpa [okRem] using hq.out
        obtain ⟨⟨a1, a2⟩, hav⟩ : ∃ b, Hid (vicA S W (nxUse L u) x (-1) = b) := ⟨_, rfl⟩
        obtain ⟨⟨o1, o2⟩, hov⟩ : ∃ b, Hid (vicA S W (nxUse L u) x u = b) := ⟨_, rfl⟩
        obtain ⟨k1, k2⟩ := use_law (unhide hI) hmu _ _ _ hbv.out hav.out hov.out
        dsimp only at k1 k2
        clear hmu
        by_cases cb : b1 = u
        · obtain ⟨rfl, k3⟩ := k2 cb
          clear k1 k2
          subst cb
          rcases k3 with ⟨rfl, rfl⟩ | ⟨rfl, rfl⟩
          all_goals
            go_wp2_with fail
            go_at_call 18
            refine (victim_c p G4 S W x (-1) _ w4 (unhide hE4).n).mono ?_
            rw [hav.out]
            rintro e w5 ⟨rfl, n5, rfl⟩
            go_wp2_with fail
            go_at_call 18
            refine (victim_c p G4 S W x _ _ _ ((unhide hE4).n.drewN _)).mono ?_
            rw [hov.out]
            rintro e w6 ⟨rfl, n6, rfl⟩
            go_wp2_with fail
            go_ret
            exact ⟨rfl, belowN (unhide hE4).bel _⟩
        · obtain rfl := k1 cb
          clear k1 k2
          go_wp2_with fail
          go_at_call 18
          refine (victim_c p G4 S W x (-1) _ w4 (unhide hE4).n).mono ?_
          rw [hav.out]
          rintro e w5 ⟨rfl, n5, rfl⟩
          go_wp2_with fail
          go_ret
          exact ⟨rfl, belowN (unhide hE4).bel _⟩
end Go.Proofs.Ytameolfdbmepmaa
