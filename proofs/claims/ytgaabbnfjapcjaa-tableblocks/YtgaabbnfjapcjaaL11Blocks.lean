/- The walk of TableBlocks: it returns true; no old memory turns (layer 11). -/
import Derived.Test.YtgaabbnfjapcjaaTell11
import Derived.LaidEqlPtr
namespace Go.Proofs.Ytgaabbnfjapcjaa
open Go.ChangeShapes Go.WideShapes Go.ChangeAt Go.RowKit
set_option linter.unusedSimpArgs false
set_option linter.unusedVariables false
set_option maxRecDepth 10000

attribute [local go_sem, local simp] over_const setCell_drewN alloc_drewN Over.cell Over.frozen lt_s1 lt_s2 lt_s3 le_s0 le_s1 le_s2 le_s3 eq_s0 eq_s1 eq_s2 qe_s0

/-- Two tables that know the same of block k. -/
def Al (T U : Tb) (k : Int) : Prop := T.O k = U.O k ∧ getA T.A k = getA U.A k

theorem al_act {T U : Tb} {k : Int} (h : Al T U k) (a : At) (e : a.b = k) : Al (nxA T a) (nxA U a) k := by
  obtain ⟨h1, h2⟩ := h
  subst e
  have ho : okA T a = okA U a := by unfold okA; rw [h1, h2]
  unfold nxA
  rw [ho]
  split
  · exact ⟨h1, by rw [getA_ins, getA_ins, if_pos rfl, if_pos rfl]⟩
  · exact ⟨h1, h2⟩
theorem al_act' {T U : Tb} {k : Int} (h : Al T U k) (a : At) (e : a.b ≠ k) : Al (nxA T a) U k := by
  obtain ⟨h1, h2⟩ := h
  unfold nxA
  split
  · exact ⟨h1, by rw [getA_ins, if_neg (fun h => e h.symm)]; exact h2⟩
  · exact ⟨h1, h2⟩
theorem al_dea {T U : Tb} {k b : Int} (h : Al T U k) (s : Int) (e : b = k) : Al (nxD T b s) (nxD U b s) k := by
  obtain ⟨h1, h2⟩ := h
  subst e
  unfold nxD
  rw [h1, h2]
  split
  · exact ⟨h1, h2⟩
  · refine ⟨by show updO _ _ _ _ = updO _ _ _ _; rw [updO_same, updO_same], ?_⟩
    dsimp only
    split
    · rw [getA_del, getA_del, if_pos rfl, if_pos rfl]
    · exact h2
theorem al_dea' {T U : Tb} {k b : Int} (h : Al T U k) (s : Int) (e : b ≠ k) : Al (nxD T b s) U k := by
  obtain ⟨h1, h2⟩ := h
  unfold nxD
  split
  · exact ⟨h1, h2⟩
  · refine ⟨by show updO _ _ _ _ = _; rw [updO_other _ _ (fun h => e h.symm)]; exact h1, ?_⟩
    dsimp only
    split
    · rw [getA_del, if_neg (fun h => e h.symm)]; exact h2
    · exact h2
theorem al_has {N M : Nat} {T U : Tb} {k : Int} (h : Al T U k) (hT : TInv N T) (hU : TInv M U) : hasA T.A k = hasA U.A k := by
  rw [seq_pos hT, seq_pos hU, h.2]

theorem infoT : ∃ j, Try.prog.info? 49 = some j ∧ j.size ≠ 0 := by
  have h : (Try.prog.info? 49).map (fun i => decide (i.size ≠ 0)) = some true := by kernel_rfl
  cases e : Try.prog.info? 49 with
  | none => rw [e] at h; cases h
  | some j => rw [e] at h; exact ⟨j, rfl, by simpa using h⟩
theorem eql_same (w : World) (c : Nat) : (binOp .eql 24 (ptr c) (ptr c)).run Try.prog w = .ok (.bool true) w := by
  obtain ⟨j, h, _⟩ := infoT
  exact run_eql_ptr_same w _ Try.underlying24 h
theorem eql_other {w : World} {c t o N c' t' o' N' : Nat} {T T' : Tb} (h : TbIs w c t o N T) (h' : TbIs w c' t' o' N' T') (hne : c ≠ c') : (binOp .eql 24 (ptr c) (ptr c')).run Try.prog w = .ok (.bool false) w := by
  obtain ⟨j, hj, hs⟩ := infoT
  exact run_eql_ptr_other w Try.underlying24 hj hs (fun e => hne (by cases e; rfl)) h.ob h'.ob


abbrev litO (c c' : Nat) : Obj := .cells #[ptr c, ptr c'] 24

set_option maxHeartbeats 2000000 in
theorem TableBlocks_walk (v : Value) (A : List Ac) (block : Int) (hb : I64 block) (w : World) (h : ActsAt w.heap.size w v A) : Calls Try.prog 6 #[v, .int .i64 block] w fun e w' => e = .returned (.bool true) ∧ Below w.heap.size w w' := by
  have hA := hide h
  obtain ⟨ao, cap, rfl, hlc, hmx, _⟩ := h
  have hmx' : A.length ≤ 9223372036854775807 := by unfold maxLen at hmx; omega
  clear hmx
  go_enter Try.func6, Try.ntmps6
  go_wp2_with fail
  go_at_call 8
  refine (awake11_any _).mono ?_
  rintro e w1 ⟨rfl, hB1⟩
  replace hB1 := hide hB1
  by_cases ca : 200 < (A.length : Int)
  · go_wp2_with fail
    go_at_call 8
    refine (awake11_any _).mono ?_
    rintro e w9 ⟨rfl, hb9⟩
    replace hb9 := hide hb9
    go_wp2_with fail
    go_ret
    exact ⟨rfl, (unhide hB1).trans ((unhide hb9).mono (unhide hB1).size)⟩
  · go_wp2_with fail
    go_at_call 9
    refine (tNew_c w1).mono ?_
    rintro e w2 ⟨c, rfl, t, o, n2, hc2, ht2, ho2, hb2⟩
    have E2 := hide (TEnv.first (unhide hB1) n2 hc2 ht2 ho2 hb2)
    have lc := n2.lt
    have lt := n2.tl
    have lo := n2.ol
    clear n2 hb2 hB1 hc2 ht2 ho2
    go_wp2_with fail
    go_at_call 9
    refine (tNew_c w2).mono ?_
    rintro e w3 ⟨c', rfl, t', o', n3, hc3, ht3, ho3, hb3⟩
    have E3 := hide ((unhide E2).quiet hb3)
    have F3 := hide (TEnv.first (unhide E2).bel n3 hc3 ht3 ho3 hb3)
    clear n3 hb3 E2
    have ncc : ¬ c = c' := by omega
    have ncc' : (c == c') = false := by simpa using ncc
    go_wp2_with fail
    go_loopw [33] (fun i wr => ∃ (j : Nat) (T U : Tb), j ≤ A.length ∧ i = .int .i64 j ∧ TEnv w wr c t o j T ∧ TEnv w wr c' t' o' j U ∧ Hid (Al T U block)) (fun i _ => A.length - (intOf i).toNat)
    case atStart => exact ⟨0, _, _, Nat.zero_le _, rfl, unhide E3, unhide F3, hide ⟨rfl, rfl⟩⟩
    case round =>
      obtain ⟨j, T1, U1, hj, rfl, E1, F1, al1⟩ := hrel
      clear E3 F3
      by_cases hlt : j < A.length
      · have hlt' : (j : Int) < A.length := by omega
        obtain ⟨b, o1, rfl, hbB, hbl, hi, r0, r1, r2, r3⟩ := acts_row ((unhide hA).below E1.bel) hlt
        generalize A[j] = x at r0 r1 r2 r3 hi
        obtain ⟨k, a⟩ := x
        have c1 := E1.n.lt
        have t1 := E1.n.tl
        have o1' := E1.n.ol
        have c1' := F1.n.lt
        have t1' := F1.n.tl
        have o1'' := F1.n.ol
        have E0 := hide ((E1.quiet (belA wr (actsO ⟨k, a⟩))).quiet (belA _ (litO c c')))
        have F0 := hide ((F1.quiet (belA wr (actsO ⟨k, a⟩))).quiet (belA _ (litO c c')))
        have q0 := eql_other (unhide E0).n (unhide F0).n ncc
        have q1 := eql_same
        replace hi := hide hi
        clear E1 F1
        by_cases k1 : k = 1
        · subst k1
          obtain ⟨ok, hok⟩ : ∃ ok, Hid (okA T1 a = ok) := ⟨_, rfl⟩
          go_wp2_with fail
          refine wp_loop_rounds 3 ?_
          rw [rounds_succ]
          go_wp2_with fail
          go_at_call 10
          refine (tActivate_c c t o _ T1 a _ (unhide E0).n (unhide hi) (by omega) ok hok).mono ?_
          rintro e w3 ⟨rfl, h3, f3⟩
          have E3 := hide ((unhide E0).step (Below.refl _ _) h3 f3)
          have F3 : Hid (TEnv w w3 c' t' o' j U1) := hide ⟨(unhide F0).n.fr f3 (by omega) (by omega) (by omega), (unhide F0).c0, (unhide F0).t0, (unhide F0).o0, (unhide E3).bel⟩
          have m3 := f3.block wr.heap.size (by first | (simp; done) | (simp; omega)) (by omega)
          have l3 := f3.block (wr.heap.size + 1) (by simp) (by omega)
          obtain ⟨y9, y0, y1, y2, y3⟩ := (((acts_new wr ⟨1, a⟩).carry (Below.heap_alloc _ (litO c c') _ (by simp))).carry m3)
          have z1 : w3.cell? ⟨wr.heap.size + 1, 1, none⟩ = some (ptr c') := keep_cell l3 (by simp [go_sem])
          have z9 : wr.heap.size + 1 < w3.heap.size := by have := f3.size; simp at this; omega
          have c3 := (unhide F3).n.lt
          have t3 := (unhide F3).n.tl
          have o3 := (unhide F3).n.ol
          clear h3 f3 m3 l3 E0 F0
          by_cases e : a.b = block
          · have e' : decide (a.b = block) = true ∧ (a.b == block) = true ∧ (a.b != block) = false := ⟨by simpa using e, by simpa using e, by simpa using e⟩
            replace e := hide e
            obtain ⟨ok2, hok2⟩ : ∃ ok2, Hid (okA U1 a = ok2) := ⟨_, rfl⟩
            go_wp2_with fail
            rw [rounds_succ]
            go_wp2_with fail
            go_at_call 10
            refine (tActivate_c c' t' o' _ U1 a _ (unhide F3).n (unhide hi) (by omega) ok2 hok2).mono ?_
            rintro e w4 ⟨rfl, h4, f4⟩
            have F4 := hide ((unhide F3).step (Below.refl _ _) h4 f4)
            have E4 : Hid (TEnv w w4 c t o (j + 1) (nxA T1 a)) := hide ⟨(unhide E3).n.fr f4 (by omega) (by omega) (by omega), (unhide E3).c0, (unhide E3).t0, (unhide E3).o0, (unhide F4).bel⟩
            have q4 := f4.block (wr.heap.size + 1) z9 (by omega)
            replace z1 := keep_cell q4 z1
            replace z9 := block_lt z9 q4
            clear h4 f4 E3 F3 q4 y0 y1 y2 y3 y9
            have hal := hide (al_act al1.out a e.out)
            go_wp2_with fail
            rw [rounds_succ]
            obtain ⟨g, hg⟩ : ∃ g, Hid (getA (nxA T1 a).A block = g) := ⟨_, rfl⟩
            obtain ⟨is, his⟩ : ∃ is, Hid (hasA (nxA T1 a).A block = is) := ⟨_, rfl⟩
            have hg' : Hid (getA (nxA U1 a).A block = g) := hide (by rw [← hal.out.2]; exact hg.out)
            have his' : Hid (hasA (nxA U1 a).A block = is) := hide (by rw [← al_has hal.out (unhide E4).n.inv (unhide F4).n.inv]; exact his.out)
            go_wp2_with fail
            go_at_call 15
            refine (tActive_c c t o _ (nxA T1 a) block _ (unhide E4).n hb g hg is his).mono ?_
            rintro e w5 ⟨rfl, hb5⟩
            have E6 := hide (((unhide E4).quiet hb5).quiet (belA w5 (atsO g)))
            have F6 := hide (((unhide F4).quiet hb5).quiet (belA w5 (atsO g)))
            have n5 := hide (ats_new w5 g)
            clear hb5 E4 F4
            go_wp2_with fail
            go_at_call 15
            refine (tActive_c c' t' o' _ (nxA U1 a) block _ (unhide F6).n hb g hg' is his').mono ?_
            rintro e w7 ⟨rfl, hb7⟩
            have E8 := hide (((unhide E6).quiet hb7).quiet (belA w7 (atsO g)))
            have F8 := hide (((unhide F6).quiet hb7).quiet (belA w7 (atsO g)))
            obtain ⟨y9, y0, y1, y2⟩ := (unhide n5).below hb7
            clear hb7 E6 F6 n5
            go_wp2_with fail
            go_roundw
            case rel => exact ⟨j + 1, (nxA T1 a), (nxA U1 a), by omega, by simp, (unhide E8).mono (by omega), (unhide F8).mono (by omega), hal⟩
            case measure => simp [intOf]; omega
          · have e' : decide (a.b = block) = false ∧ (a.b == block) = false ∧ (a.b != block) = true := ⟨by simpa using e, by simpa using e, by simpa using e⟩
            have hal := hide (al_act' al1.out a e)
            replace e := hide e
            go_wp2_with fail
            rw [rounds_succ]
            go_wp2_with fail
            rw [rounds_succ]
            have E4 := E3
            have F4 := F3
            clear E3 F3
            obtain ⟨g, hg⟩ : ∃ g, Hid (getA (nxA T1 a).A block = g) := ⟨_, rfl⟩
            obtain ⟨is, his⟩ : ∃ is, Hid (hasA (nxA T1 a).A block = is) := ⟨_, rfl⟩
            have hg' : Hid (getA U1.A block = g) := hide (by rw [← hal.out.2]; exact hg.out)
            have his' : Hid (hasA U1.A block = is) := hide (by rw [← al_has hal.out (unhide E4).n.inv (unhide F4).n.inv]; exact his.out)
            go_wp2_with fail
            go_at_call 15
            refine (tActive_c c t o _ (nxA T1 a) block _ (unhide E4).n hb g hg is his).mono ?_
            rintro e w5 ⟨rfl, hb5⟩
            have E6 := hide (((unhide E4).quiet hb5).quiet (belA w5 (atsO g)))
            have F6 := hide (((unhide F4).quiet hb5).quiet (belA w5 (atsO g)))
            have n5 := hide (ats_new w5 g)
            clear hb5 E4 F4
            go_wp2_with fail
            go_at_call 15
            refine (tActive_c c' t' o' _ U1 block _ (unhide F6).n hb g hg' is his').mono ?_
            rintro e w7 ⟨rfl, hb7⟩
            have E8 := hide (((unhide E6).quiet hb7).quiet (belA w7 (atsO g)))
            have F8 := hide (((unhide F6).quiet hb7).quiet (belA w7 (atsO g)))
            obtain ⟨y9, y0, y1, y2⟩ := (unhide n5).below hb7
            clear hb7 E6 F6 n5
            go_wp2_with fail
            go_roundw
            case rel => exact ⟨j + 1, (nxA T1 a), U1, by omega, by simp, (unhide E8).mono (by omega), (unhide F8).mono (by omega), hal⟩
            case measure => simp [intOf]; omega
        · have k1' : decide (k = 1) = false ∧ (k == 1) = false := ⟨by simpa using k1, by simpa using k1⟩
          replace k1 := hide k1
          go_wp2_with fail
          refine wp_loop_rounds 3 ?_
          rw [rounds_succ]
          go_wp2_with fail
          go_at_call 12
          refine (tDeactivate_c c t o _ T1 a.b a.s _ (unhide E0).n (unhide hi) (by omega)).mono ?_
          rintro e w3 ⟨rfl, h3, f3⟩
          have E3 := hide ((unhide E0).step (Below.refl _ _) h3 f3)
          have F3 : Hid (TEnv w w3 c' t' o' j U1) := hide ⟨(unhide F0).n.fr f3 (by omega) (by omega) (by omega), (unhide F0).c0, (unhide F0).t0, (unhide F0).o0, (unhide E3).bel⟩
          have m3 := f3.block wr.heap.size (by first | (simp; done) | (simp; omega)) (by omega)
          have l3 := f3.block (wr.heap.size + 1) (by simp) (by omega)
          obtain ⟨y9, y0, y1, y2, y3⟩ := (((acts_new wr ⟨k, a⟩).carry (Below.heap_alloc _ (litO c c') _ (by simp))).carry m3)
          have z1 : w3.cell? ⟨wr.heap.size + 1, 1, none⟩ = some (ptr c') := keep_cell l3 (by simp [go_sem])
          have z9 : wr.heap.size + 1 < w3.heap.size := by have := f3.size; simp at this; omega
          have c3 := (unhide F3).n.lt
          have t3 := (unhide F3).n.tl
          have o3 := (unhide F3).n.ol
          clear h3 f3 m3 l3 E0 F0
          by_cases e : a.b = block
          · have e' : decide (a.b = block) = true ∧ (a.b == block) = true ∧ (a.b != block) = false := ⟨by simpa using e, by simpa using e, by simpa using e⟩
            have hal := hide (al_dea al1.out a.s e)
            replace e := hide e
            go_wp2_with fail
            rw [rounds_succ]
            go_wp2_with fail
            go_at_call 12
            refine (tDeactivate_c c' t' o' _ U1 a.b a.s _ (unhide F3).n (unhide hi) (by omega)).mono ?_
            rintro e w4 ⟨rfl, h4, f4⟩
            have F4 := hide ((unhide F3).step (Below.refl _ _) h4 f4)
            have E4 : Hid (TEnv w w4 c t o (j + 1) (nxD T1 a.b a.s)) := hide ⟨(unhide E3).n.fr f4 (by omega) (by omega) (by omega), (unhide E3).c0, (unhide E3).t0, (unhide E3).o0, (unhide F4).bel⟩
            have q4 := f4.block (wr.heap.size + 1) z9 (by omega)
            replace z1 := keep_cell q4 z1
            replace z9 := block_lt z9 q4
            clear h4 f4 E3 F3 q4 y0 y1 y2 y3 y9
            go_wp2_with fail
            rw [rounds_succ]
            obtain ⟨g, hg⟩ : ∃ g, Hid (getA (nxD T1 a.b a.s).A block = g) := ⟨_, rfl⟩
            obtain ⟨is, his⟩ : ∃ is, Hid (hasA (nxD T1 a.b a.s).A block = is) := ⟨_, rfl⟩
            have hg' : Hid (getA (nxD U1 a.b a.s).A block = g) := hide (by rw [← hal.out.2]; exact hg.out)
            have his' : Hid (hasA (nxD U1 a.b a.s).A block = is) := hide (by rw [← al_has hal.out (unhide E4).n.inv (unhide F4).n.inv]; exact his.out)
            go_wp2_with fail
            go_at_call 15
            refine (tActive_c c t o _ (nxD T1 a.b a.s) block _ (unhide E4).n hb g hg is his).mono ?_
            rintro e w5 ⟨rfl, hb5⟩
            have E6 := hide (((unhide E4).quiet hb5).quiet (belA w5 (atsO g)))
            have F6 := hide (((unhide F4).quiet hb5).quiet (belA w5 (atsO g)))
            have n5 := hide (ats_new w5 g)
            clear hb5 E4 F4
            go_wp2_with fail
            go_at_call 15
            refine (tActive_c c' t' o' _ (nxD U1 a.b a.s) block _ (unhide F6).n hb g hg' is his').mono ?_
            rintro e w7 ⟨rfl, hb7⟩
            have E8 := hide (((unhide E6).quiet hb7).quiet (belA w7 (atsO g)))
            have F8 := hide (((unhide F6).quiet hb7).quiet (belA w7 (atsO g)))
            obtain ⟨y9, y0, y1, y2⟩ := (unhide n5).below hb7
            clear hb7 E6 F6 n5
            go_wp2_with fail
            go_roundw
            case rel => exact ⟨j + 1, (nxD T1 a.b a.s), (nxD U1 a.b a.s), by omega, by simp, (unhide E8).mono (by omega), (unhide F8).mono (by omega), hal⟩
            case measure => simp [intOf]; omega
          · have e' : decide (a.b = block) = false ∧ (a.b == block) = false ∧ (a.b != block) = true := ⟨by simpa using e, by simpa using e, by simpa using e⟩
            have hal := hide (al_dea' al1.out a.s e)
            replace e := hide e
            go_wp2_with fail
            rw [rounds_succ]
            go_wp2_with fail
            rw [rounds_succ]
            have E4 := E3
            have F4 := F3
            clear E3 F3
            obtain ⟨g, hg⟩ : ∃ g, Hid (getA (nxD T1 a.b a.s).A block = g) := ⟨_, rfl⟩
            obtain ⟨is, his⟩ : ∃ is, Hid (hasA (nxD T1 a.b a.s).A block = is) := ⟨_, rfl⟩
            have hg' : Hid (getA U1.A block = g) := hide (by rw [← hal.out.2]; exact hg.out)
            have his' : Hid (hasA U1.A block = is) := hide (by rw [← al_has hal.out (unhide E4).n.inv (unhide F4).n.inv]; exact his.out)
            go_wp2_with fail
            go_at_call 15
            refine (tActive_c c t o _ (nxD T1 a.b a.s) block _ (unhide E4).n hb g hg is his).mono ?_
            rintro e w5 ⟨rfl, hb5⟩
            have E6 := hide (((unhide E4).quiet hb5).quiet (belA w5 (atsO g)))
            have F6 := hide (((unhide F4).quiet hb5).quiet (belA w5 (atsO g)))
            have n5 := hide (ats_new w5 g)
            clear hb5 E4 F4
            go_wp2_with fail
            go_at_call 15
            refine (tActive_c c' t' o' _ U1 block _ (unhide F6).n hb g hg' is his').mono ?_
            rintro e w7 ⟨rfl, hb7⟩
            have E8 := hide (((unhide E6).quiet hb7).quiet (belA w7 (atsO g)))
            have F8 := hide (((unhide F6).quiet hb7).quiet (belA w7 (atsO g)))
            obtain ⟨y9, y0, y1, y2⟩ := (unhide n5).below hb7
            clear hb7 E6 F6 n5
            go_wp2_with fail
            go_roundw
            case rel => exact ⟨j + 1, (nxD T1 a.b a.s), U1, by omega, by simp, (unhide E8).mono (by omega), (unhide F8).mono (by omega), hal⟩
            case measure => simp [intOf]; omega
      · obtain rfl : j = A.length := by omega
        replace E1 := hide E1
        go_wp2_with fail
        go_ret
        exact ⟨rfl, (unhide E1).bel⟩
end Go.Proofs.Ytgaabbnfjapcjaa
