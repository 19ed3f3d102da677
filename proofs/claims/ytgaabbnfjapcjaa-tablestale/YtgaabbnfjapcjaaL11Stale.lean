/- The walk of TableStale: it returns true; no old memory turns (layer 11). -/
import Derived.Test.YtgaabbnfjapcjaaTell11
namespace Go.Proofs.Ytgaabbnfjapcjaa
open Go.ChangeShapes Go.WideShapes Go.ChangeAt Go.RowKit
set_option linter.unusedSimpArgs false
set_option linter.unusedVariables false
set_option maxRecDepth 10000

attribute [local go_sem, local simp] over_const setCell_drewN alloc_drewN Over.cell Over.frozen lt_s1 lt_s2 lt_s3 le_s0 le_s1 le_s2 le_s3 eq_s0 eq_s1 eq_s2 qe_s0

theorem stale_dea (T : Tb) (b s : Int) : s ≤ (nxD T b s).O b := by
  unfold nxD
  split
  · assumption
  · exact Int.le_of_eq (updO_same T.O b s).symm
theorem over_grows (T : Tb) (x : Ac) (k : Int) : T.O k ≤ (nxT T x).O k := by
  unfold nxT
  split
  · unfold nxA
    split <;> exact Int.le_refl _
  · unfold nxD
    split
    · exact Int.le_refl _
    · show T.O k ≤ updO T.O x.a.b x.a.s k
      by_cases e : k = x.a.b
      · rw [e, updO_same]; omega
      · rw [updO_other _ _ e]; exact Int.le_refl _
theorem stale_get {N : Nat} {T : Tb} (h : TInv N T) {k s : Int} (hs : s ≤ T.O k) (hh : hasA T.A k = true) : s < (getA T.A k).s ∧ (getA T.A k).b = k := by
  obtain ⟨h1, h2⟩ := getA_mem hh
  have := h.ov _ h1
  rw [h2] at this
  exact ⟨by omega, h2⟩


set_option maxHeartbeats 2000000 in
theorem TableStale_walk (v : Value) (A : List Ac) (block seq : Int) (hb : I64 block) (w : World) (h : ActsAt w.heap.size w v A) : Calls Try.prog 4 #[v, .int .i64 block, .int .i64 seq] w fun e w' => e = .returned (.bool true) ∧ Below w.heap.size w w' := by
  have hA := hide h
  obtain ⟨ao, cap, rfl, hlc, hmx, _⟩ := h
  have hmx' : A.length ≤ 9223372036854775807 := by unfold maxLen at hmx; omega
  clear hmx
  go_enter Try.func4, Try.ntmps4
  go_wp2_with fail
  go_at_call 8
  refine (awake11_any _).mono ?_
  rintro e w1 ⟨rfl, hB1⟩
  replace hB1 := hide hB1
  by_cases ca : 200 < (A.length : Int)
  · go_wp2_with fail
    go_at_call 8
    refine (awake11_any _).mono ?_
    rintro e w9 ⟨rfl, hb9⟩
    replace hb9 := hide hb9
    go_wp2_with fail
    go_ret
    exact ⟨rfl, (unhide hB1).trans ((unhide hb9).mono (unhide hB1).size)⟩
  · go_wp2_with fail
    go_at_call 9
    refine (tNew_c w1).mono ?_
    rintro e w2 ⟨c, rfl, t, o, n2, hc2, ht2, ho2, hb2⟩
    have E2 := hide (TEnv.first (unhide hB1) n2 hc2 ht2 ho2 hb2)
    clear n2 hb2 hB1 hc2 ht2 ho2
    go_wp2_with fail
    go_at_call 12
    refine (tDeactivate_c c t o 0 tb0 block seq w2 (unhide E2).n hb (by decide)).mono ?_
    rintro e w3 ⟨rfl, n3, f3⟩
    have E3 := hide ((unhide E2).step (Below.refl _ _) n3 f3)
    clear n3 f3 E2
    go_wp2_with fail
    go_loopw [29] (fun i wr => ∃ (j : Nat) (T : Tb), j ≤ A.length ∧ i = .int .i64 j ∧ TEnv w wr c t o (1 + j) T ∧ Hid (seq ≤ T.O block)) (fun i _ => A.length - (intOf i).toNat)
    case atStart => exact ⟨0, _, Nat.zero_le _, rfl, unhide E3, hide (stale_dea _ _ _)⟩
    case round =>
      obtain ⟨j, T1, hj, rfl, E1, ho1⟩ := hrel
      clear E3
      by_cases hlt : j < A.length
      · have hlt' : (j : Int) < A.length := by omega
        obtain ⟨b, o', rfl, hbB, hbl, hi, r0, r1, r2, r3⟩ := acts_row ((unhide hA).below E1.bel) hlt
        generalize A[j] = x at r0 r1 r2 r3 hi
        obtain ⟨k, a⟩ := x
        have ht1 := E1.n.tl
        have ho1' := E1.n.ol
        replace E1 := hide E1
        replace hi := hide hi
        by_cases k1 : k = 1
        · subst k1
          obtain ⟨ok, hok⟩ : ∃ ok, Hid (okA T1 a = ok) := ⟨_, rfl⟩
          go_wp2_with fail
          go_at_call 10
          refine (tActivate_c c t o _ T1 a _ ((unhide E1).n.alloc (actsO ⟨1, a⟩)) (unhide hi) (by omega) ok hok).mono ?_
          rintro e w3 ⟨rfl, h3, f3⟩
          obtain ⟨T2, hT2⟩ : ∃ T2, Hid (nxT T1 ⟨1, a⟩ = T2) := ⟨_, rfl⟩
          have h4 : TbIs w3 c t o (1 + (j + 1)) T2 := by rw [← hT2.out]; exact h3
          have E3 := hide ((unhide E1).step (belA _ (actsO ⟨1, a⟩)) h4 f3)
          have ho3 : Hid (seq ≤ T2.O block) := hide (by rw [← hT2.out]; exact Int.le_trans ho1.out (over_grows _ _ _))
          have hget := hide (fun hh => stale_get h4.inv ho3.out hh)
          clear h3 f3 h4 E1 ho1
          obtain ⟨g, hg⟩ : ∃ g, Hid (getA T2.A block = g) := ⟨_, rfl⟩
          obtain ⟨is, his⟩ : ∃ is, Hid (hasA T2.A block = is) := ⟨_, rfl⟩
          rw [hg.out, his.out] at hget
          go_wp2_with fail
          go_at_call 15
          refine (tActive_c c t o _ T2 block w3 (unhide E3).n hb g hg is his).mono ?_
          rintro e w5 ⟨rfl, hb5⟩
          obtain ⟨gb, gn, gs⟩ := g
          have E6 := hide (((unhide E3).quiet hb5).quiet (belA w5 (atsO ⟨gb, gn, gs⟩)))
          clear hb5 E3
          cases is
          · go_wp2_with fail
            go_roundw
            case rel => exact ⟨j + 1, T2, by omega, by simp, unhide E6, ho3⟩
            case measure => simp [intOf]; omega
          · obtain ⟨h7, h8⟩ := (unhide hget) rfl
            dsimp only at h7 h8
            subst h8
            go_wp2_with fail
            go_roundw
            case rel => exact ⟨j + 1, T2, by omega, by simp, unhide E6, ho3⟩
            case measure => simp [intOf]; omega
        · have k1' : decide (k = 1) = false ∧ (k == 1) = false := ⟨by simpa using k1, by simpa using k1⟩
          replace k1 := hide k1
          go_wp2_with fail
          go_at_call 12
          refine (tDeactivate_c c t o _ T1 a.b a.s _ ((unhide E1).n.alloc (actsO ⟨k, a⟩)) (unhide hi) (by omega)).mono ?_
          rintro e w3 ⟨rfl, h3, f3⟩
          obtain ⟨T2, hT2⟩ : ∃ T2, Hid (nxT T1 ⟨k, a⟩ = T2) := ⟨_, rfl⟩
          have h4 : TbIs w3 c t o (1 + (j + 1)) T2 := by rw [← hT2.out]; unfold nxT; rw [if_neg (unhide k1)]; exact h3
          have E3 := hide ((unhide E1).step (belA _ (actsO ⟨k, a⟩)) h4 f3)
          have ho3 : Hid (seq ≤ T2.O block) := hide (by rw [← hT2.out]; exact Int.le_trans ho1.out (over_grows _ _ _))
          have hget := hide (fun hh => stale_get h4.inv ho3.out hh)
          clear h3 f3 h4 E1 ho1
          obtain ⟨g, hg⟩ : ∃ g, Hid (getA T2.A block = g) := ⟨_, rfl⟩
          obtain ⟨is, his⟩ : ∃ is, Hid (hasA T2.A block = is) := ⟨_, rfl⟩
          rw [hg.out, his.out] at hget
          go_wp2_with fail
          go_at_call 15
          refine (tActive_c c t o _ T2 block w3 (unhide E3).n hb g hg is his).mono ?_
          rintro e w5 ⟨rfl, hb5⟩
          obtain ⟨gb, gn, gs⟩ := g
          have E6 := hide (((unhide E3).quiet hb5).quiet (belA w5 (atsO ⟨gb, gn, gs⟩)))
          clear hb5 E3
          cases is
          · go_wp2_with fail
            go_roundw
            case rel => exact ⟨j + 1, T2, by omega, by simp, unhide E6, ho3⟩
            case measure => simp [intOf]; omega
          · obtain ⟨h7, h8⟩ := (unhide hget) rfl
            dsimp only at h7 h8
            subst h8
            go_wp2_with fail
            go_roundw
            case rel => exact ⟨j + 1, T2, by omega, by simp, unhide E6, ho3⟩
            case measure => simp [intOf]; omega
      · obtain rfl : j = A.length := by omega
        replace E1 := hide E1
        go_wp2_with fail
        go_ret
        exact ⟨rfl, (unhide E1).bel⟩
end Go.Proofs.Ytgaabbnfjapcjaa
