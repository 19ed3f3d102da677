/- The walk of TableOne: it returns true; no old memory turns (layer 11). -/
import Derived.Test.YtgaabbnfjapcjaaLaw11
namespace Go.Proofs.Ytgaabbnfjapcjaa
open Go.ChangeShapes Go.WideShapes Go.ChangeAt Go.RowKit
set_option linter.unusedSimpArgs false
set_option linter.unusedVariables false
set_option maxRecDepth 10000

attribute [local go_sem, local simp] over_const setCell_drewN alloc_drewN Over.cell Over.frozen lt_s1 lt_s2 lt_s3 le_s0 le_s1 le_s2 le_s3 eq_s0 eq_s1 eq_s2 qe_s0

/-- The numbers of the active ones, by blocks, in a map of the law's own. -/
def BestIs (w : World) (m : Nat) (T : Tb) : Prop := MpIs w m (.int .i64 0) (T.A.map At.b) (fun k => .int .i64 (getA T.A k).s)

theorem best_put {w : World} {m N : Nat} {T : Tb} (h : BestIs w m T) (a : At) (ha : I64 a.b) (hI : TInv N (nxA T a)) (hN : N ≤ 2000) (hok : okA T a = true) :
    ∃ w2, (Instr.mapUpdate 42 (.map (some m)) (.int .i64 a.b) (.int .i64 a.s)).run Try.prog w = .ok () w2 ∧ BestIs w2 m (nxA T a) ∧ FrS (· = m) w w2 := by
  have hn : nxA T a = ⟨insA T.A a, T.O⟩ := by unfold nxA; rw [if_pos hok]
  have hl := hI.len
  rw [hn] at hl ⊢
  obtain ⟨w2, h1, h2, h3⟩ := mp_put h Try.underlying42 ha (.int .i64 a.s) (K' := (insA T.A a).map At.b) (keys_ins T.A a) (by rw [List.length_map]; exact Nat.le_trans hl hN)
  refine ⟨w2, h1, h2.alike (fun _ => Iff.rfl) (fun k => ?_), h3⟩
  show Value.int .i64 (getA (insA T.A a) k).s = _
  rw [getA_ins]
  unfold updV
  by_cases c : k = a.b <;> simp [c]

theorem best_len {w : World} {m : Nat} {T : Tb} (h : BestIs w m T) (hs : Sr T.A) (n : Nat) (hn : T.A.length = n) : ∀ ty, (Builtin.len_ #[42] ty #[.map (some m)]).run Try.prog w = .ok (.int .i64 n) w := by
  intro ty
  obtain ⟨D, h1, h2, h3⟩ := h
  have hp := (keys_perm h1 h2 (sr_keys hs)).length_eq
  rw [h1.len Try.underlying42 ty]
  have : Maps.size D = n := by
    rw [List.length_map, hn] at hp
    obtain ⟨es, rfl, _⟩ := h1.entries law
    rw [Maps.size_eq, hp]
    simp [intKeys]
  rw [this]

theorem BestIs.block {w w' : World} {m : Nat} {T : Tb} (h : BestIs w m T) (e : w'.heap[m]? = w.heap[m]?) : BestIs w' m T := MpIs.carry h e

theorem ok_zero {T : Tb} (h : ∀ b, T.O b = 0) (a : At) : okA T a = decide (1 ≤ a.s ∧ (getA T.A a.b).s < a.s) := by
  unfold okA
  rw [h]
  congr 1
theorem over_act (T : Tb) (a : At) : (nxA T a).O = T.O := by unfold nxA; split <;> rfl
theorem pred_row {A : List At} (hs : Sr A) {j : Nat} (h0 : 0 < j) (hj : j < A.length) : A[j - 1].b < A[j].b := List.pairwise_iff_getElem.1 hs _ _ (by omega) hj (by omega)


set_option maxHeartbeats 2000000 in
theorem TableOne_walk (v : Value) (A : List At) (w : World) (h : AtsAt w.heap.size w v A) : Calls Try.prog 5 #[v] w fun e w' => e = .returned (.bool true) ∧ Below w.heap.size w w' := by
  have hA := hide h
  obtain ⟨ao, cap, rfl, hlc, hmx, _⟩ := h
  have hmx' : A.length ≤ 9223372036854775807 := by unfold maxLen at hmx; omega
  clear hmx
  have hmm := @run_makeMap Try.prog
  go_enter Try.func5, Try.ntmps5
  go_wp2_with fail
  go_at_call 8
  refine (awake11_any _).mono ?_
  rintro e w1 ⟨rfl, hB1⟩
  replace hB1 := hide hB1
  by_cases ca : 200 < (A.length : Int)
  · go_wp2_with fail
    go_at_call 8
    refine (awake11_any _).mono ?_
    rintro e w9 ⟨rfl, hb9⟩
    replace hb9 := hide hb9
    go_wp2_with fail
    go_ret
    exact ⟨rfl, (unhide hB1).trans ((unhide hb9).mono (unhide hB1).size)⟩
  · go_wp2_with fail
    go_at_call 9
    refine (tNew_c w1).mono ?_
    rintro e w2 ⟨c, rfl, t, o, n2, hc2, ht2, ho2, hb2⟩
    have E2 := hide (TEnv.first (unhide hB1) n2 hc2 ht2 ho2 hb2)
    have lc := n2.lt
    have lt := n2.tl
    have lo := n2.ol
    clear n2 hb2 hB1 hc2 ht2 ho2
    have hm0 : (w2.alloc (.map #[] 0)).ownsMap (H := Value) Try.prog 3 heldR w2.heap.size 0 (.map []) := World.ownsMap_made _ _ _ _
    have B2 : Hid (BestIs (w2.alloc (.map #[] 0)) w2.heap.size tb0) := hide (mp_new _ hm0)
    have E2' := hide ((unhide E2).quiet (belA w2 (.map #[] 0)))
    have hw2 := (unhide E2).bel.size
    obtain ⟨m, hm⟩ : ∃ m, Hid (w2.heap.size = m) := ⟨_, rfl⟩
    go_wp2_with fail
    rw [hm.out] at B2 lc lt lo hw2 ⊢
    clear hm0 E2
    go_loopw [25] (fun i wr => ∃ (j : Nat) (T : Tb), j ≤ A.length ∧ i = .int .i64 j ∧ TEnv w wr c t o j T ∧ Hid (∀ b, T.O b = 0) ∧ BestIs wr m T) (fun i _ => A.length - (intOf i).toNat)
    case atStart => exact ⟨0, _, Nat.zero_le _, rfl, unhide E2', hide (fun _ => rfl), unhide B2⟩
    case round =>
      obtain ⟨j, T1, hj, rfl, E1, hO, B1⟩ := hrel
      clear E2' B2
      by_cases hlt : j < A.length
      · have hlt' : (j : Int) < A.length := by omega
        obtain ⟨b, o1, rfl, hbB, hbl, hi, r0, r1, r2⟩ := ats_row ((unhide hA).below E1.bel) hlt
        generalize A[j] = a at r0 r1 r2 hi
        have hml : m < wr.heap.size := MpIs.lt B1
        replace E1 := hide E1
        replace B1 := hide B1
        replace hi := hide hi
        obtain ⟨g, hg⟩ : ∃ g, Hid (getA T1.A a.b = g) := ⟨_, rfl⟩
        by_cases p1 : 1 ≤ a.s
        · by_cases p2 : g.s < a.s
          · have hok : Hid (okA T1 a = true) := hide (by rw [ok_zero hO.out a, hg.out]; exact decide_eq_true ⟨p1, p2⟩)
            go_wp2_with fail
            go_at_call 10
            refine (tActivate_c c t o _ T1 a _ ((unhide E1).n.alloc (atsO a)) (unhide hi) (by omega) true hok).mono ?_
            rintro e w3 ⟨rfl, h3, f3⟩
            have E3 := hide ((unhide E1).step (belA _ (atsO a)) h3 f3)
            obtain ⟨y9, y0, y1, y2⟩ := (ats_new wr a).fr f3 (by omega)
            have hb3 := f3.block m (by first | (simp; done) | (simp; omega)) (by omega)
            have B3 := hide (((unhide B1).block (Below.heap_alloc _ (atsO a) _ hml)).block hb3)
            have l3 := (MpIs.look (unhide B3) Try.underlying42 zeroIE hi.out) w3 rfl
            try dsimp only at l3
            rw [hg.out] at l3
            obtain ⟨w4, hrun, B4, f4⟩ := best_put (unhide B3) a hi.out h3.inv (by omega) hok.out
            have E4 : Hid (TEnv w w4 c t o (j + 1) (nxA T1 a)) := hide ⟨(unhide E3).n.fr f4 (by omega) (by omega) (by omega), (unhide E3).c0, (unhide E3).t0, (unhide E3).o0, (unhide E3).bel.trans (f4.below (fun i hi => by omega) (unhide E3).bel.size)⟩
            have hO4 : Hid (∀ b, (nxA T1 a).O b = 0) := hide (by rw [over_act]; exact hO.out)
            replace hrun := hide hrun
            replace B4 := hide B4
            clear h3 f3 E1 B1 hb3 E3 B3 f4
            go_wp2_with (at_mapUpdate; refine wpList_upd rfl (.tmp 47) (.tmp 49) (.tmp 51) rfl rfl rfl rfl (unhide hrun) ?_)
            go_roundw
            case rel => exact ⟨j + 1, _, by omega, by simp, unhide E4, hO4, unhide B4⟩
            case measure => simp [intOf]; omega
          · have hok : Hid (okA T1 a = false) := hide (by rw [ok_zero hO.out a, hg.out]; exact decide_eq_false (by omega))
            have hn : Hid (nxA T1 a = T1) := hide (by unfold nxA; rw [if_neg (by rw [hok.out]; decide)])
            go_wp2_with fail
            go_at_call 10
            refine (tActivate_c c t o _ T1 a _ ((unhide E1).n.alloc (atsO a)) (unhide hi) (by omega) false hok).mono ?_
            rintro e w3 ⟨rfl, h3, f3⟩
            rw [hn.out] at h3
            have E3 := hide ((unhide E1).step (belA _ (atsO a)) h3 f3)
            obtain ⟨y9, y0, y1, y2⟩ := (ats_new wr a).fr f3 (by omega)
            have hb3 := f3.block m (by first | (simp; done) | (simp; omega)) (by omega)
            have B3 := hide (((unhide B1).block (Below.heap_alloc _ (atsO a) _ hml)).block hb3)
            have l3 := (MpIs.look (unhide B3) Try.underlying42 zeroIE hi.out) w3 rfl
            try dsimp only at l3
            rw [hg.out] at l3
            clear h3 f3 E1 B1 hb3
            go_wp2_with fail
            go_roundw
            case rel => exact ⟨j + 1, T1, by omega, by simp, unhide E3, hO, unhide B3⟩
            case measure => simp [intOf]; omega
        · have hok : Hid (okA T1 a = false) := hide (by rw [ok_zero hO.out a, hg.out]; exact decide_eq_false (by omega))
          have hn : Hid (nxA T1 a = T1) := hide (by unfold nxA; rw [if_neg (by rw [hok.out]; decide)])
          go_wp2_with fail
          go_at_call 10
          refine (tActivate_c c t o _ T1 a _ ((unhide E1).n.alloc (atsO a)) (unhide hi) (by omega) false hok).mono ?_
          rintro e w3 ⟨rfl, h3, f3⟩
          rw [hn.out] at h3
          have E3 := hide ((unhide E1).step (belA _ (atsO a)) h3 f3)
          obtain ⟨y9, y0, y1, y2⟩ := (ats_new wr a).fr f3 (by omega)
          have hb3 := f3.block m (by first | (simp; done) | (simp; omega)) (by omega)
          have B3 := hide (((unhide B1).block (Below.heap_alloc _ (atsO a) _ hml)).block hb3)
          have l3 := (MpIs.look (unhide B3) Try.underlying42 zeroIE hi.out) w3 rfl
          try dsimp only at l3
          rw [hg.out] at l3
          clear h3 f3 E1 B1 hb3
          go_wp2_with fail
          go_roundw
          case rel => exact ⟨j + 1, T1, by omega, by simp, unhide E3, hO, unhide B3⟩
          case measure => simp [intOf]; omega
      · obtain rfl : j = A.length := by omega
        have hsr := hide E1.n.inv.sr
        have hrng := hide E1.n.inv.rng
        obtain ⟨n, hn⟩ : ∃ n, Hid (T1.A.length = n) := ⟨_, rfl⟩
        have hml : m < wr.heap.size := MpIs.lt B1
        have hn200 : n ≤ 200 := by have := E1.n.inv.len; have := hn.out; omega
        replace E1 := hide E1
        replace B1 := hide B1
        go_wp2_with fail
        go_at_call 18
        refine (tList_c c t o _ T1 wr (unhide E1).n (by omega)).mono ?_
        rintro e w5 ⟨vl, rfl, gl, hl, hgl, hb5⟩
        have E5 := hide ((unhide E1).quiet hb5)
        have B5 := (unhide B1).block (hb5.block m hml)
        have hlen := best_len B5 hsr.out n hn.out
        obtain ⟨aol, capl, e, hlcap, hmxl, _⟩ := id hl.view
        rw [hn.out] at e hlcap
        subst e
        have hmxl' : n ≤ 9223372036854775807 := by omega
        clear hmxl
        replace B5 := hide B5
        replace hl := hide hl.view
        have hgl' := hgl
        clear hb5 E1 B1
        go_wp2_with fail
        go_loopw [62] (fun i wr => ∃ j : Nat, j ≤ n ∧ i = .int .i64 j ∧ Below w5.heap.size w5 wr) (fun i _ => n - (intOf i).toNat)
        case atStart => exact ⟨0, Nat.zero_le _, rfl, Below.refl _ _⟩
        case round =>
          obtain ⟨j, hj, rfl, hb6⟩ := hrel
          by_cases hlt2 : j < n
          · have hja : j < T1.A.length := by have := hn.out; omega
            have hlt2' : (j : Int) < n := by omega
            have hV := (unhide hl).below hb6
            obtain ⟨-, -, -, k⟩ := view_atA hV rfl
            obtain ⟨ol, rfl, gll, d0, d1, d2⟩ := k j hja
            have hmem : T1.A[j] ∈ T1.A := List.getElem_mem hja
            have hget := getA_of_mem hsr.out hmem
            have hi := hide (hrng.out _ hmem)
            have hpr := hide (fun h0 => pred_row hsr.out (j := j) h0 hja)
            obtain ⟨a, ha⟩ : ∃ a, T1.A[j] = a := ⟨_, rfl⟩
            rw [ha] at d0 d1 d2 hget hi hpr
            have hm5 : m < w5.heap.size := MpIs.lt B5.out
            have l5 : Hid (∀ w', w'.heap[m]? = w5.heap[m]? → (Instr.lookup 42 (.map (some m)) (.int .i64 a.b) false).run Try.prog w' = .ok (.int .i64 a.s) w') := by
              have := MpIs.look B5.out Try.underlying42 zeroIE hi.out
              try dsimp only at this
              rw [hget] at this
              exact this
            have s6 := hb6.size
            have hb7 : Hid (Below w5.heap.size w5 (wr.alloc (atsO a)).drew) := hide ((hb6.alloc s6 _).drew)
            have l6 := (unhide l5) (wr.alloc (atsO a)).drew ((unhide hb7).block m hm5)
            replace hb6 := hide hb6
            replace ha := hide ha
            clear hmem hget hV
            by_cases h0 : j = 0
            · subst h0
              simp only [Nat.zero_mul, Nat.add_zero] at d0 d1 d2
              clear k
              go_wp2_with fail
              refine wp_region_noPanic ?_
              refine wp_region_held_drew (S := (fun w' => w'.cell? ⟨wr.heap.size, 0, none⟩ = some (.int .i64 a.b) ∧ w'.cell? ⟨wr.heap.size, 2, none⟩ = some (.int .i64 a.s) ∧ (Instr.lookup 42 (.map (some m)) (.int .i64 a.b) false).run Try.prog w' = .ok (.int .i64 a.s) w')) (by kernel_rfl) ?_ (fun hHeld => ?_)
              · exact ⟨by simp [go_sem], by simp [go_sem], l6⟩
              refine hand_take (i := 0) (d := some 67) (v := ?_) rfl (by kernel_rfl) (by kernel_rfl) (by kernel_rfl) (fun _ _ _ h => h) ?_ hHeld ?_
              rotate_left
              · intro o ho
                simp at ho
                subst ho
                intro wz hSw
                try dsimp only at hSw
                go_simp
                try with_reducible rfl
              try simp only [Act.put, List.setIfInBounds_toArray, List.set_cons_zero, List.set_cons_succ]
              refine hand_take (i := 1) (d := some 68) (v := ?_) rfl (by kernel_rfl) (by kernel_rfl) (by kernel_rfl) (fun _ _ _ h => h) ?_ hHeld ?_
              rotate_left
              · intro o ho
                simp at ho
                subst ho
                intro wz hSw
                try dsimp only at hSw
                go_simp
                try with_reducible rfl
              try simp only [Act.put, List.setIfInBounds_toArray, List.set_cons_zero, List.set_cons_succ]
              refine hand_take (i := 2) (d := some 69) (v := ?_) rfl (by kernel_rfl) (by kernel_rfl) (by kernel_rfl) (fun _ _ _ h => h) ?_ hHeld ?_
              rotate_left
              · intro o ho
                simp at ho
                subst ho
                intro wz hSw
                try dsimp only at hSw
                go_simp
                try with_reducible rfl
              try simp only [Act.put, List.setIfInBounds_toArray, List.set_cons_zero, List.set_cons_succ]
              refine hand_take (i := 3) (d := some 70) (v := ?_) rfl (by kernel_rfl) (by kernel_rfl) (by kernel_rfl) (fun _ _ _ h => h) ?_ hHeld ?_
              rotate_left
              · intro o ho
                simp at ho
                subst ho
                intro wz hSw
                try dsimp only at hSw
                go_simp
                try with_reducible rfl
              try simp only [Act.put, List.setIfInBounds_toArray, List.set_cons_zero, List.set_cons_succ]
              refine hand_take (i := 4) (d := some 71) (v := ?_) rfl (by kernel_rfl) (by kernel_rfl) (by kernel_rfl) (fun _ _ _ h => h) ?_ hHeld ?_
              rotate_left
              · intro o ho
                simp at ho
                subst ho
                intro wz hSw
                try dsimp only at hSw
                go_simp
                try with_reducible rfl
              try simp only [Act.put, List.setIfInBounds_toArray, List.set_cons_zero, List.set_cons_succ]
              refine hand_take (i := 5) (d := some 72) (v := ?_) rfl (by kernel_rfl) (by kernel_rfl) (by kernel_rfl) (fun _ _ _ h => h) ?_ hHeld ?_
              rotate_left
              · intro o ho
                simp at ho
                subst ho
                intro wz hSw
                try dsimp only at hSw
                go_simp
                try with_reducible rfl
              try simp only [Act.put, List.setIfInBounds_toArray, List.set_cons_zero, List.set_cons_succ]
              refine hand_take (i := 6) (d := some 73) (v := .bool false) rfl (by kernel_rfl) (by kernel_rfl) (by kernel_rfl) (fun _ _ _ h => h) ?_ hHeld ?_
              · intro o ho
                simp at ho
                subst ho
                intro wz hSw
                try dsimp only at hSw
                go_simp; try simp
              try simp only [Act.put, List.setIfInBounds_toArray, List.set_cons_zero, List.set_cons_succ]
              refine hand_take (i := 7) (d := some 74) (v := ?_) rfl (by kernel_rfl) (by kernel_rfl) (by kernel_rfl) (fun _ _ _ h => h) ?_ hHeld ?_
              rotate_left
              · intro o ho
                simp at ho
                subst ho
                intro wz hSw
                try dsimp only at hSw
                go_simp
                try with_reducible rfl
              try simp only [Act.put, List.setIfInBounds_toArray, List.set_cons_zero, List.set_cons_succ]
              refine hand_take (i := 8) (d := some 75) (v := ?_) rfl (by kernel_rfl) (by kernel_rfl) (by kernel_rfl) (fun _ _ _ h => h) ?_ hHeld ?_
              rotate_left
              · intro o ho
                simp at ho
                subst ho
                intro wz hSw
                try dsimp only at hSw
                go_simp
                try with_reducible rfl
              try simp only [Act.put, List.setIfInBounds_toArray, List.set_cons_zero, List.set_cons_succ]
              refine hand_take (i := 9) (d := some 76) (v := .bool false) rfl (by kernel_rfl) (by kernel_rfl) (by kernel_rfl) (fun _ _ _ h => h) ?_ hHeld ?_
              · intro o ho
                simp at ho
                subst ho
                intro wz hSw
                try dsimp only at hSw
                go_simp; try simp
              try simp only [Act.put, List.setIfInBounds_toArray, List.set_cons_zero, List.set_cons_succ]
              refine hand_take (i := 10) (d := some 77) (v := ?_) rfl (by kernel_rfl) (by kernel_rfl) (by kernel_rfl) (fun _ _ _ h => h) ?_ hHeld ?_
              rotate_left
              · intro o ho
                simp at ho
                subst ho
                intro wz hSw
                try dsimp only at hSw
                go_simp
                try with_reducible rfl
              try simp only [Act.put, List.setIfInBounds_toArray, List.set_cons_zero, List.set_cons_succ]
              refine hand_skip (i := 11) (d := some 78) rfl (by kernel_rfl) (by kernel_rfl) (by kernel_rfl) (fun _ _ _ h => h) hHeld ?_
              try simp only [Act.put, List.setIfInBounds_toArray, List.set_cons_zero, List.set_cons_succ]
              refine hand_skip (i := 12) (d := some 79) rfl (by kernel_rfl) (by kernel_rfl) (by kernel_rfl) (fun _ _ _ h => h) hHeld ?_
              try simp only [Act.put, List.setIfInBounds_toArray, List.set_cons_zero, List.set_cons_succ]
              refine hand_skip (i := 13) (d := some 80) rfl (by kernel_rfl) (by kernel_rfl) (by kernel_rfl) (fun _ _ _ h => h) hHeld ?_
              try simp only [Act.put, List.setIfInBounds_toArray, List.set_cons_zero, List.set_cons_succ]
              refine hand_skip (i := 14) (d := some 81) rfl (by kernel_rfl) (by kernel_rfl) (by kernel_rfl) (fun _ _ _ h => h) hHeld ?_
              try simp only [Act.put, List.setIfInBounds_toArray, List.set_cons_zero, List.set_cons_succ]
              refine hand_skip (i := 15) (d := some 82) rfl (by kernel_rfl) (by kernel_rfl) (by kernel_rfl) (fun _ _ _ h => h) hHeld ?_
              try simp only [Act.put, List.setIfInBounds_toArray, List.set_cons_zero, List.set_cons_succ]
              refine hand_skip (i := 16) (d := some 83) rfl (by kernel_rfl) (by kernel_rfl) (by kernel_rfl) (fun _ _ _ h => h) hHeld ?_
              try simp only [Act.put, List.setIfInBounds_toArray, List.set_cons_zero, List.set_cons_succ]
              refine hand_skip (i := 17) (d := some 84) rfl (by kernel_rfl) (by kernel_rfl) (by kernel_rfl) (fun _ _ _ h => h) hHeld ?_
              try simp only [Act.put, List.setIfInBounds_toArray, List.set_cons_zero, List.set_cons_succ]
              refine hand_skip (i := 18) (d := some 85) rfl (by kernel_rfl) (by kernel_rfl) (by kernel_rfl) (fun _ _ _ h => h) hHeld ?_
              try simp only [Act.put, List.setIfInBounds_toArray, List.set_cons_zero, List.set_cons_succ]
              refine hand_skip (i := 19) (d := some 86) rfl (by kernel_rfl) (by kernel_rfl) (by kernel_rfl) (fun _ _ _ h => h) hHeld ?_
              try simp only [Act.put, List.setIfInBounds_toArray, List.set_cons_zero, List.set_cons_succ]
              refine hand_take (i := 20) (d := some 87) (v := ?_) rfl (by kernel_rfl) (by kernel_rfl) (by kernel_rfl) (fun _ _ _ h => h) ?_ hHeld ?_
              rotate_left
              · intro o ho
                simp at ho
                subst ho
                intro wz hSw
                try dsimp only at hSw
                go_simp
                try with_reducible rfl
              try simp only [Act.put, List.setIfInBounds_toArray, List.set_cons_zero, List.set_cons_succ]
              refine hand_take (i := 21) (d := some 88) (v := ?_) rfl (by kernel_rfl) (by kernel_rfl) (by kernel_rfl) (fun _ _ _ h => h) ?_ hHeld ?_
              rotate_left
              · intro o ho
                simp at ho
                subst ho
                intro wz hSw
                try dsimp only at hSw
                go_simp
                try with_reducible rfl
              try simp only [Act.put, List.setIfInBounds_toArray, List.set_cons_zero, List.set_cons_succ]
              refine wpAnyH_done (by kernel_rfl) (NoPanic.normal ?_) _
              clear hHeld
              go_wp2_with fail
              go_roundw
              case rel => exact ⟨1, by omega, by simp, unhide hb7⟩
              case measure => simp [intOf]; omega
            · obtain ⟨p, rfl⟩ : ∃ p, j = p + 1 := ⟨j - 1, by omega⟩
              obtain ⟨ol2, e2, -, f0, -, -⟩ := k p (by omega)
              obtain rfl : ol = ol2 := by simpa using e2
              have hlt3 := (unhide hpr) (by omega)
              simp only [Nat.add_sub_cancel] at hlt3
              obtain ⟨q, hq⟩ : ∃ q, T1.A[p].b = q := ⟨_, rfl⟩
              rw [hq] at f0 hlt3
              clear e2 k hq
              have hwp : IntKind.i64.wrap (p : Int) = p := by rw [IntKind.wrap_i64]; omega
              have hpn : (p : Int) < n := by omega
              go_wp2_with fail
              refine wp_region_noPanic ?_
              refine wp_region_held_drew (S := (fun w' => w'.cell? ⟨wr.heap.size, 0, none⟩ = some (.int .i64 a.b) ∧ w'.cell? ⟨wr.heap.size, 2, none⟩ = some (.int .i64 a.s) ∧ w'.cell? ⟨gl, ol + p * 3, none⟩ = some (.int .i64 q) ∧ (Instr.lookup 42 (.map (some m)) (.int .i64 a.b) false).run Try.prog w' = .ok (.int .i64 a.s) w')) (by kernel_rfl) ?_ (fun hHeld => ?_)
              · exact ⟨by simp [go_sem], by simp [go_sem], by simp [go_sem, *], l6⟩
              refine hand_take (i := 0) (d := some 67) (v := ?_) rfl (by kernel_rfl) (by kernel_rfl) (by kernel_rfl) (fun _ _ _ h => h) ?_ hHeld ?_
              rotate_left
              · intro o ho
                simp at ho
                subst ho
                intro wz hSw
                try dsimp only at hSw
                go_simp
                try with_reducible rfl
              try simp only [Act.put, List.setIfInBounds_toArray, List.set_cons_zero, List.set_cons_succ]
              refine hand_take (i := 1) (d := some 68) (v := ?_) rfl (by kernel_rfl) (by kernel_rfl) (by kernel_rfl) (fun _ _ _ h => h) ?_ hHeld ?_
              rotate_left
              · intro o ho
                simp at ho
                subst ho
                intro wz hSw
                try dsimp only at hSw
                go_simp
                try with_reducible rfl
              try simp only [Act.put, List.setIfInBounds_toArray, List.set_cons_zero, List.set_cons_succ]
              refine hand_take (i := 2) (d := some 69) (v := ?_) rfl (by kernel_rfl) (by kernel_rfl) (by kernel_rfl) (fun _ _ _ h => h) ?_ hHeld ?_
              rotate_left
              · intro o ho
                simp at ho
                subst ho
                intro wz hSw
                try dsimp only at hSw
                go_simp
                try with_reducible rfl
              try simp only [Act.put, List.setIfInBounds_toArray, List.set_cons_zero, List.set_cons_succ]
              refine hand_take (i := 3) (d := some 70) (v := ?_) rfl (by kernel_rfl) (by kernel_rfl) (by kernel_rfl) (fun _ _ _ h => h) ?_ hHeld ?_
              rotate_left
              · intro o ho
                simp at ho
                subst ho
                intro wz hSw
                try dsimp only at hSw
                go_simp
                try with_reducible rfl
              try simp only [Act.put, List.setIfInBounds_toArray, List.set_cons_zero, List.set_cons_succ]
              refine hand_take (i := 4) (d := some 71) (v := ?_) rfl (by kernel_rfl) (by kernel_rfl) (by kernel_rfl) (fun _ _ _ h => h) ?_ hHeld ?_
              rotate_left
              · intro o ho
                simp at ho
                subst ho
                intro wz hSw
                try dsimp only at hSw
                go_simp
                try with_reducible rfl
              try simp only [Act.put, List.setIfInBounds_toArray, List.set_cons_zero, List.set_cons_succ]
              refine hand_take (i := 5) (d := some 72) (v := ?_) rfl (by kernel_rfl) (by kernel_rfl) (by kernel_rfl) (fun _ _ _ h => h) ?_ hHeld ?_
              rotate_left
              · intro o ho
                simp at ho
                subst ho
                intro wz hSw
                try dsimp only at hSw
                go_simp
                try with_reducible rfl
              try simp only [Act.put, List.setIfInBounds_toArray, List.set_cons_zero, List.set_cons_succ]
              refine hand_take (i := 6) (d := some 73) (v := .bool false) rfl (by kernel_rfl) (by kernel_rfl) (by kernel_rfl) (fun _ _ _ h => h) ?_ hHeld ?_
              · intro o ho
                simp at ho
                subst ho
                intro wz hSw
                try dsimp only at hSw
                go_simp; try simp
              try simp only [Act.put, List.setIfInBounds_toArray, List.set_cons_zero, List.set_cons_succ]
              refine hand_take (i := 7) (d := some 74) (v := ?_) rfl (by kernel_rfl) (by kernel_rfl) (by kernel_rfl) (fun _ _ _ h => h) ?_ hHeld ?_
              rotate_left
              · intro o ho
                simp at ho
                subst ho
                intro wz hSw
                try dsimp only at hSw
                go_simp
                try with_reducible rfl
              try simp only [Act.put, List.setIfInBounds_toArray, List.set_cons_zero, List.set_cons_succ]
              refine hand_take (i := 8) (d := some 75) (v := ?_) rfl (by kernel_rfl) (by kernel_rfl) (by kernel_rfl) (fun _ _ _ h => h) ?_ hHeld ?_
              rotate_left
              · intro o ho
                simp at ho
                subst ho
                intro wz hSw
                try dsimp only at hSw
                go_simp
                try with_reducible rfl
              try simp only [Act.put, List.setIfInBounds_toArray, List.set_cons_zero, List.set_cons_succ]
              refine hand_take (i := 9) (d := some 76) (v := .bool true) rfl (by kernel_rfl) (by kernel_rfl) (by kernel_rfl) (fun _ _ _ h => h) ?_ hHeld ?_
              · intro o ho
                simp at ho
                subst ho
                intro wz hSw
                try dsimp only at hSw
                go_simp; try simp; try omega
              try simp only [Act.put, List.setIfInBounds_toArray, List.set_cons_zero, List.set_cons_succ]
              refine hand_take (i := 10) (d := some 77) (v := ?_) rfl (by kernel_rfl) (by kernel_rfl) (by kernel_rfl) (fun _ _ _ h => h) ?_ hHeld ?_
              rotate_left
              · intro o ho
                simp at ho
                subst ho
                intro wz hSw
                try dsimp only at hSw
                go_simp
                try with_reducible rfl
              try simp only [Act.put, List.setIfInBounds_toArray, List.set_cons_zero, List.set_cons_succ]
              refine hand_take (i := 11) (d := some 78) (v := ?_) rfl (by kernel_rfl) (by kernel_rfl) (by kernel_rfl) (fun _ _ _ h => h) ?_ hHeld ?_
              rotate_left
              · intro o ho
                simp at ho
                subst ho
                intro wz hSw
                try dsimp only at hSw
                go_simp
                try with_reducible rfl
              try simp only [Act.put, List.setIfInBounds_toArray, List.set_cons_zero, List.set_cons_succ]
              refine hand_take (i := 12) (d := some 79) (v := ?_) rfl (by kernel_rfl) (by kernel_rfl) (by kernel_rfl) (fun _ _ _ h => h) ?_ hHeld ?_
              rotate_left
              · intro o ho
                simp at ho
                subst ho
                intro wz hSw
                try dsimp only at hSw
                go_simp
                try with_reducible rfl
              try simp only [Act.put, List.setIfInBounds_toArray, List.set_cons_zero, List.set_cons_succ]
              refine hand_take (i := 13) (d := some 80) (v := .int .i64 (p : Int)) rfl (by kernel_rfl) (by kernel_rfl) (by kernel_rfl) (fun _ _ _ h => h) ?_ hHeld ?_
              · intro o ho
                simp at ho
                subst ho
                intro wz hSw
                try dsimp only at hSw
                go_simp; try simp [hwp]
              try simp only [Act.put, List.setIfInBounds_toArray, List.set_cons_zero, List.set_cons_succ]
              refine hand_take (i := 14) (d := some 81) (v := ?_) rfl (by kernel_rfl) (by kernel_rfl) (by kernel_rfl) (fun _ _ _ h => h) ?_ hHeld ?_
              rotate_left
              · intro o ho
                simp at ho
                subst ho
                intro wz hSw
                try dsimp only at hSw
                go_simp
                try with_reducible rfl
              try simp only [Act.put, List.setIfInBounds_toArray, List.set_cons_zero, List.set_cons_succ]
              refine hand_take (i := 15) (d := some 82) (v := ?_) rfl (by kernel_rfl) (by kernel_rfl) (by kernel_rfl) (fun _ _ _ h => h) ?_ hHeld ?_
              rotate_left
              · intro o ho
                simp at ho
                subst ho
                intro wz hSw
                try dsimp only at hSw
                go_simp
                try with_reducible rfl
              try simp only [Act.put, List.setIfInBounds_toArray, List.set_cons_zero, List.set_cons_succ]
              refine hand_take (i := 16) (d := some 83) (v := ?_) rfl (by kernel_rfl) (by kernel_rfl) (by kernel_rfl) (fun _ _ _ h => h) ?_ hHeld ?_
              rotate_left
              · intro o ho
                simp at ho
                subst ho
                intro wz hSw
                try dsimp only at hSw
                go_simp
                try with_reducible rfl
              try simp only [Act.put, List.setIfInBounds_toArray, List.set_cons_zero, List.set_cons_succ]
              refine hand_take (i := 17) (d := some 84) (v := ?_) rfl (by kernel_rfl) (by kernel_rfl) (by kernel_rfl) (fun _ _ _ h => h) ?_ hHeld ?_
              rotate_left
              · intro o ho
                simp at ho
                subst ho
                intro wz hSw
                try dsimp only at hSw
                go_simp
                try with_reducible rfl
              try simp only [Act.put, List.setIfInBounds_toArray, List.set_cons_zero, List.set_cons_succ]
              refine hand_take (i := 18) (d := some 85) (v := ?_) rfl (by kernel_rfl) (by kernel_rfl) (by kernel_rfl) (fun _ _ _ h => h) ?_ hHeld ?_
              rotate_left
              · intro o ho
                simp at ho
                subst ho
                intro wz hSw
                try dsimp only at hSw
                go_simp
                try with_reducible rfl
              try simp only [Act.put, List.setIfInBounds_toArray, List.set_cons_zero, List.set_cons_succ]
              refine hand_take (i := 19) (d := some 86) (v := .bool false) rfl (by kernel_rfl) (by kernel_rfl) (by kernel_rfl) (fun _ _ _ h => h) ?_ hHeld ?_
              · intro o ho
                simp at ho
                subst ho
                intro wz hSw
                try dsimp only at hSw
                go_simp; try simp; try omega
              try simp only [Act.put, List.setIfInBounds_toArray, List.set_cons_zero, List.set_cons_succ]
              refine hand_take (i := 20) (d := some 87) (v := ?_) rfl (by kernel_rfl) (by kernel_rfl) (by kernel_rfl) (fun _ _ _ h => h) ?_ hHeld ?_
              rotate_left
              · intro o ho
                simp at ho
                subst ho
                intro wz hSw
                try dsimp only at hSw
                go_simp
                try with_reducible rfl
              try simp only [Act.put, List.setIfInBounds_toArray, List.set_cons_zero, List.set_cons_succ]
              refine hand_take (i := 21) (d := some 88) (v := ?_) rfl (by kernel_rfl) (by kernel_rfl) (by kernel_rfl) (fun _ _ _ h => h) ?_ hHeld ?_
              rotate_left
              · intro o ho
                simp at ho
                subst ho
                intro wz hSw
                try dsimp only at hSw
                go_simp
                try with_reducible rfl
              try simp only [Act.put, List.setIfInBounds_toArray, List.set_cons_zero, List.set_cons_succ]
              refine wpAnyH_done (by kernel_rfl) (NoPanic.normal ?_) _
              clear hHeld
              go_wp2_with fail
              go_roundw
              case rel => exact ⟨p + 1 + 1, by omega, by simp, unhide hb7⟩
              case measure => simp [intOf]; omega
          · obtain rfl : j = n := by omega
            replace hb6 := hide hb6
            go_wp2_with fail
            go_ret
            exact ⟨rfl, ((unhide E5).quiet (unhide hb6)).bel⟩
end Go.Proofs.Ytgaabbnfjapcjaa
