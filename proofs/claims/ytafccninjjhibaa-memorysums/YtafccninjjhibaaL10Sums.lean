/- The walk of MemorySums: it returns true; no old memory turns. Written by wip/gen10l.py. -/
import Derived.Test.YtafccninjjhibaaLaw10
namespace Go.Proofs.Ytafccninjjhibaa
open Go.ChangeShapes Go.WideShapes Go.ChangeAt Go.RowKit
set_option linter.unusedSimpArgs false
set_option linter.unusedVariables false
set_option maxRecDepth 10000

attribute [local go_sem, local simp] over_const setCell_drewN alloc_drewN Over.cell Over.frozen lt_s1 lt_s2 lt_s3 le_s0 le_s1 le_s2 le_s3 eq_s0 eq_s1 eq_s2 qe_s0

def cntM (t : Int) (L : List Bun) (x : Int) : Int := if hasM L x = true then (getM L x).n else t

theorem hasM_len {L M : List Bun} (h : M.length = L.length) (x : Int) : hasM M x = hasM L x := by unfold hasM; rw [h]
theorem getM_set (L : List Bun) (j : Nat) (r : Bun) (hj : j < L.length) (x : Int) : getM (L.set j r) x = if x = j then r else getM L x := by
  have hl : (L.set j r).length = L.length := by simp
  by_cases c : hasM L x = true
  · obtain ⟨i, rfl, hi⟩ := hasM_at c
    rw [getM_nat (by omega), getM_nat hi, List.getElem_set]
    by_cases e : j = i
    · rw [if_pos e, if_pos (by omega)]
    · rw [if_neg e, if_neg (by omega)]
  · have c' : hasM L x = false := by simpa using c
    rw [getM_out (by rw [hasM_len hl]; exact c'), getM_out c', if_neg]
    intro e
    rw [e, hasM_nat hj] at c'
    cases c'
theorem cnt_put (t : Int) (L : List Bun) (y x : Int) (b : Bun) : cntM t (putM L y b) x = cntM t L x + (if hasM L y = true ∧ y = x then b.n else 0) := by
  unfold cntM
  rw [hasM_len (putM_len L y b) x]
  by_cases c : hasM L y = true
  · obtain ⟨j, rfl, hj⟩ := hasM_at c
    rw [putM_nat hj, getM_set _ _ _ hj]
    by_cases e : (j : Int) = x
    · subst e
      rw [if_pos c, if_pos rfl, if_pos c, if_pos ⟨c, rfl⟩, joinB_n, getM_nat hj]
    · rw [if_neg (show ¬ x = (j : Int) from fun h => e h.symm), if_neg (show ¬ (hasM L (j : Int) = true ∧ (j : Int) = x) from fun h => e h.2), Int.add_zero]
  · rw [putM_out (by simpa using c), if_neg (show ¬ (hasM L y = true ∧ y = x) from fun h => c h.1), Int.add_zero]
theorem cnt_tak (t : Int) (L : List Bun) (y x c : Int) (o d : Bool) (h : okB (getM L y)) : cntM t (takM L y c o) x = cntM t L x - (if y = x then (givenB (getM L y) c o d).n else 0) := by
  unfold cntM
  rw [hasM_len (takM_len L y c o) x]
  by_cases e : hasM L y = true
  · obtain ⟨j, rfl, hj⟩ := hasM_at e
    rw [takM_nat hj, getM_set _ _ _ hj]
    by_cases f : (j : Int) = x
    · subst f
      rw [if_pos e, if_pos rfl, if_pos e, if_pos rfl]
      rw [getM_nat hj] at h ⊢
      generalize L[j] = z at h ⊢
      obtain ⟨n, b, u, v⟩ := z
      have := parts_math n b u v c o d h _ _ rfl rfl
      have h2 := this.2.2.1
      simp only
      omega
    · rw [if_neg (show ¬ x = (j : Int) from fun h => f h.symm), if_neg f, Int.sub_zero]
  · have e' : hasM L y = false := by simpa using e
    rw [takM_out e', getM_out e', given_zero]
    simp
theorem cnt_bd {t : Int} {L : List Bun} {N : Int} (h : MInv N L) (h0 : 0 ≤ t) (h1 : t ≤ N) (x : Int) : 0 ≤ cntM t L x ∧ cntM t L x ≤ N := by
  unfold cntM
  split
  · have := h.get (by omega) x; exact ⟨this.1.1, this.2⟩
  · exact ⟨h0, h1⟩
theorem cnt_new {s t : Int} (h0 : 1 ≤ t) (x : Int) : cntM t (newM s t) x = t := by
  unfold cntM
  split
  · rename_i c
    obtain ⟨j, rfl, hj⟩ := hasM_at c
    rw [getM_nat hj]
    have : (newM s t)[j] = fullB t 0 := List.eq_of_mem_replicate (List.getElem_mem hj)
    rw [this, fullB, if_neg (by omega)]
  · rfl

/-- A row of rows that may be written, whatever stands there. -/
structure RoomB (w : World) (g n : Nat) : Prop where
  lt : g < w.heap.size
  at' : ∀ j, j < n * 4 → (w.cell? ⟨g, j, none⟩).isSome = true ∧ w.frozen? ⟨g, j, none⟩ = false
theorem RoomB.of {w : World} {g n : Nat} {L : List Bun} (h : OwnB w (slB g n) g L) : RoomB w g n := by
  refine ⟨h.lt, fun j hj => ?_⟩
  obtain ⟨ao, cap, e, h1, h2, h3, h4⟩ := h
  simp only [slB, Value.slice.injEq] at e
  obtain ⟨rfl, -, rfl⟩ := e
  rcases h4 with ⟨h4, -⟩ | ⟨o, e, h5, h6⟩
  · cases h4
  · obtain rfl : o = 0 := by simp at e; exact e.symm
    have := h6 j hj
    rw [Nat.zero_add] at this
    exact this
theorem RoomB.set {w : World} {g n : Nat} (h : RoomB w g n) (k : Nat) (u : Value) : RoomB (w.setCell ⟨g, k, none⟩ u) g n :=
  ⟨by simpa using h.lt, fun j hj => ⟨World.isSome_setCells g [u] k w ⟨g, j, none⟩ (h.at' j hj).1, (World.frozen?_setCells g [u] k w ⟨g, j, none⟩).trans (h.at' j hj).2⟩⟩
theorem Box.fr {w w' : World} {b : Nat} {s t : Int} {F : Nat → Prop} (h : Box w b s t) (hf : FrS F w w') (hn : ¬ F b) : Box w' b s t := h.carry (hf.block b h.lt hn)

set_option maxHeartbeats 2000000 in
theorem MemorySums_walk (s t : Int) (v : Value) (A : List Ac) (x : Int) (w : World) (h : ActsAt w.heap.size w v A) : Calls Try.prog 4 #[.agg #[.int .i64 s, .int .i64 t], v, .int .i64 x] w fun e w' => e = .returned (.bool true) ∧ Below w.heap.size w w' := by
  have hfld := field_n
  have hA := hide h
  obtain ⟨ao, cap, rfl, hlc, hmx, _⟩ := h
  have hmx' : A.length ≤ 9223372036854775807 := by unfold maxLen at hmx; omega
  clear hmx
  go_enter Try.func4, Try.ntmps4
  go_wp2_with fail
  go_at_call 8
  refine (awake10_any _).mono ?_
  rintro e w1 ⟨rfl, hb1⟩
  obtain ⟨X1, hB1, hs1⟩ := box1 hb1
  clear hb1
  replace X1 := hide X1
  go_wp2_with fail
  go_at_call 9
  refine (right_c _ A w1 ((unhide hA).below hB1).up).mono ?_
  rintro e w2 ⟨q, rfl, hb2, hq⟩
  have X2 := (unhide X1).below hb2
  have hB2 := hide (hB1.trans (hb2.mono hB1.size))
  clear hB1 hb2 hs1 X1
  cases q
  · clear X2
    go_wp2_with fail
    go_at_call 8
    refine (awake10_any _).mono ?_
    rintro e w9 ⟨rfl, hb9⟩
    replace hb9 := hide hb9
    go_wp2_with fail
    go_ret
    exact ⟨rfl, (unhide hB2).trans ((unhide hb9).mono (unhide hB2).size)⟩
  have hf : Hid (Fine A) := hq rfl
  have hlen : A.length ≤ 200 := hf.out.1
  clear hq
  obtain ⟨q4, q0, q1⟩ := id X2
  replace X2 := hide X2
  by_cases c0 : s < 1
  · clear hf
    go_wp2_with fail
    go_at_call 8
    refine (awake10_any _).mono ?_
    rintro e w9 ⟨rfl, hb9⟩
    replace hb9 := hide hb9
    go_wp2_with fail
    go_ret
    exact ⟨rfl, (unhide hB2).trans ((unhide hb9).mono (unhide hB2).size)⟩
  by_cases c1 : 64 < s
  · clear hf
    go_wp2_with fail
    go_at_call 8
    refine (awake10_any _).mono ?_
    rintro e w9 ⟨rfl, hb9⟩
    replace hb9 := hide hb9
    go_wp2_with fail
    go_ret
    exact ⟨rfl, (unhide hB2).trans ((unhide hb9).mono (unhide hB2).size)⟩
  by_cases c2 : t < 1
  · clear hf
    go_wp2_with fail
    go_at_call 8
    refine (awake10_any _).mono ?_
    rintro e w9 ⟨rfl, hb9⟩
    replace hb9 := hide hb9
    go_wp2_with fail
    go_ret
    exact ⟨rfl, (unhide hB2).trans ((unhide hb9).mono (unhide hB2).size)⟩
  by_cases c3 : 1048576 < t
  · clear hf
    go_wp2_with fail
    go_at_call 8
    refine (awake10_any _).mono ?_
    rintro e w9 ⟨rfl, hb9⟩
    replace hb9 := hide hb9
    go_wp2_with fail
    go_ret
    exact ⟨rfl, (unhide hB2).trans ((unhide hb9).mono (unhide hB2).size)⟩
  obtain ⟨L0, hL0⟩ : ∃ L0, Hid (newM s t = L0) := ⟨_, rfl⟩
  have hLs : (L0.length : Int) = s := by have := (newM_len s t).1; rw [hL0.out] at this; rw [this]; unfold clampZ; rw [if_neg (by omega), if_neg (by omega)]
  obtain ⟨m, hm⟩ : ∃ m, Hid (L0.length = m) := ⟨_, rfl⟩
  rw [hm.out] at hLs
  have hct : Hid (cntM t L0 x = t) := by rw [← hL0.out]; exact cnt_new (by omega) x
  go_wp2_with fail
  go_at_call 10
  refine (mNew_c s t 1048576 _ (by omega) (by decide)).mono ?_
  rw [hL0.out]
  rintro e w3 ⟨p, g, rfl, h3, hp3, hg3, hb3⟩
  have E3 := hide (MEnv.first (unhide hB2) h3 hp3 hg3 hb3)
  have X3 := (unhide X2).below hb3
  have hgx : w.heap.size < g := by omega
  obtain ⟨-, q0', q1'⟩ := id X3
  replace X3 := hide X3
  clear h3 hp3 hg3 hb3 q0 q1 X2 hB2 q4
  go_wp2_with fail
  clear q0' q1'
  go_loopw [8, 53] (fun nv iv wr => ∃ (j : Nat) (L : List Bun), j ≤ A.length ∧ iv = .int .i64 j ∧ nv = .int .i64 (cntM t L x) ∧ MEnv w wr p g (((j : Int) + 1) * 1048576) L ∧ Box wr w.heap.size s t ∧ Hid (L.length = m)) (fun _ iv _ => A.length - (intOf iv).toNat)
  case atStart => exact ⟨0, L0, Nat.zero_le _, rfl, by rw [hct.out], by simpa using unhide E3, unhide X3, hm⟩
  case round =>
    obtain ⟨j, L, hj, rfl, rfl, E4, X4, hm4⟩ := hrel
    clear E3 X3 hm hct
    have hm := hm4
    clear hm4
    by_cases hlt : j < A.length
    · have hlt' : (j : Int) < A.length := by omega
      obtain ⟨b, o, rfl, hbB, hbl, r0, r1, r2, r3, r4, r5, r6, r7, r8⟩ := acts_row ((unhide hA).below E4.bel) hlt
      obtain ⟨hok, hle⟩ := hf.out.2 _ (List.getElem_mem hlt)
      generalize A[j] = a at r0 r1 r2 r3 r4 r5 r6 r7 r8 hok hle
      replace hok := hide hok
      have hgl4 := E4.n.gl
      have hxl4 := X4.lt
      have hbd := cnt_bd (N := ((j : Int) + 1) * 1048576) (t := t) E4.n.inv (by omega) (by omega) x
      have hgok := hide (MInv.get (N := ((j : Int) + 1) * 1048576) E4.n.inv (by omega) a.bl).1
      obtain ⟨n0, hn0⟩ : ∃ n0, Hid (cntM t L x = n0) := ⟨_, rfl⟩
      rw [hn0.out] at hbd ⊢
      obtain ⟨hb0, hb1⟩ := hbd
      have hok0 := (unhide hok).1
      replace E4 := hide E4
      replace X4 := hide X4
      by_cases k1 : a.k = 1
      · obtain ⟨kk1, kk2⟩ : decide (a.k = 1) = true ∧ (a.k == 1) = true := by simp [k1]
        obtain ⟨kk3, kk4⟩ : decide (a.k = 2) = false ∧ (a.k == 2) = false := by simp [k1]
        clear k1
        obtain ⟨q, hq⟩ : ∃ q, Hid (hasM L a.bl = q) := ⟨_, rfl⟩
        have hcp := cnt_put t L a.bl x a.t
        obtain ⟨L1, hL1⟩ : ∃ L1, Hid (putM L a.bl a.t = L1) := ⟨_, rfl⟩
        obtain ⟨c9, hc9⟩ : ∃ c9, Hid (cntM t L1 x = c9) := ⟨_, rfl⟩
        rw [hL1.out, hc9.out, hn0.out, hq.out] at hcp
        replace hcp := hide hcp
        go_wp2_with fail
        go_at_call 13
        refine (mPut_c p g _ 1048576 a.bl a.t L _ ((unhide E4).n.alloc (acO a)) (unhide hok) hle (by omega) q hq L1 hL1).mono ?_
        rintro e w7 ⟨rfl, h7, f7⟩
        have E9 := hide (((unhide E4).step (belA wr (acO a)) h7 f7).mono (N' := ((j : Int) + 2) * 1048576) (by omega))
        have y7 := (ac_new wr a).fr f7 (by omega)
        have X9 := hide (((unhide X4).below (belA wr (acO a))).fr f7 (by omega))
        clear h7 f7 E4 X4 r0 r1 r2 r3 r4 r5 r6 r7 r8
        obtain ⟨-, r0, r1, r2, r3, r4, r5, r6, r7, r8⟩ := y7
        cases q
        · have e9 : n0 = c9 := by have := hcp.out; simpa using this.symm
          subst e9
          have hn9 : Hid (L1.length = m) := by unfold Hid; (rw [← hL1.out, putM_len]); exact hm.out
          go_wp2_with fail
          go_at_call 17
          refine (mAll_c p g _ L1 _ (unhide E9).n m hn9).mono ?_
          rintro e w10 ⟨rfl, hO10, hb10⟩
          have R10 := hide (RoomB.of hO10)
          have E10 := hide ((unhide E9).quiet hb10)
          have X10 := hide ((unhide X9).below hb10)
          have hp9 := (unhide E9).n.pl
          have hg9 := (unhide E9).n.gl
          have hx9 := (unhide X9).lt
          have hw9 := (unhide E9).bel.size
          obtain ⟨ga, hga⟩ : ∃ ga, ga = w7.heap.size := ⟨_, rfl⟩
          rw [← hga] at R10 hp9 hg9 hx9 hw9 ⊢
          replace hga := hide hga
          clear hO10 hb10 E9 X9
          go_wp2_with fail
          go_loopw [104] (fun i2 wi => ∃ i : Nat, i ≤ m ∧ i2 = .int .i64 i ∧ RoomB wi ga m ∧ MEnv w wi p g (((j : Int) + 2) * 1048576) L1 ∧ Box wi w.heap.size s t) (fun i2 _ => m - (intOf i2).toNat)
          case atStart => exact ⟨0, Nat.zero_le _, rfl, unhide R10, unhide E10, unhide X10⟩
          case round =>
            obtain ⟨i, hi, rfl, R11, E11, X11⟩ := hrel
            clear R10 E10 X10
            by_cases hil : i < m
            · have hil' : (i : Int) < m := by omega
              obtain ⟨cs, cf⟩ := R11.at' (i * 4) (by omega)
              obtain ⟨cv, hcv⟩ := Option.isSome_iff_exists.1 cs
              have R12 := hide (R11.set (i * 4) (.int .i64 (-1)))
              have f12 := (FrS.refl (· = ga) wr).setCell (q := ⟨ga, i * 4, none⟩) (.inl rfl) (.int .i64 (-1))
              have E12 : Hid (MEnv w (wr.setCell ⟨ga, i * 4, none⟩ (.int .i64 (-1))) p g (((j : Int) + 2) * 1048576) L1) := ⟨E11.n.fr f12 (by omega) (by omega), E11.p0, E11.g0, E11.bel.trans (f12.below (fun i hi => by omega) E11.bel.size)⟩
              have X12 := hide (X11.fr f12 (by omega))
              clear R11 E11 X11 f12 cs
              go_wp2_with fail
              go_roundw
              case rel => exact ⟨i + 1, by omega, by simp, unhide R12, unhide E12, unhide X12⟩
              case measure => simp [intOf]; omega
            · obtain rfl : i = m := by omega
              replace E11 := hide E11
              replace X11 := hide X11
              clear R11
              go_wp2_with fail
              go_roundw
              case rel => exact ⟨j + 1, L1, by omega, by simp, by rw [hc9.out], (unhide E11).mono (by omega), unhide X11, hn9⟩
              case measure => simp [intOf]; omega
        · by_cases e : a.bl = x
          · obtain ⟨ee1, ee2⟩ : decide (a.bl = x) = true ∧ (a.bl == x) = true := by simp [e]
            have e9 : n0 + a.t.n = c9 := by have := hcp.out; simp [e] at this; exact this.symm
            clear e
            have hwr : IntKind.i64.wrap (n0 + a.t.n) = c9 := by rw [← e9]; exact wrap_in (by omega) (by omega)
            replace e9 := hide e9
            have hn9 : Hid (L1.length = m) := by unfold Hid; (rw [← hL1.out, putM_len]); exact hm.out
            go_wp2_with fail
            go_at_call 17
            refine (mAll_c p g _ L1 _ (unhide E9).n m hn9).mono ?_
            rintro e w10 ⟨rfl, hO10, hb10⟩
            have R10 := hide (RoomB.of hO10)
            have E10 := hide ((unhide E9).quiet hb10)
            have X10 := hide ((unhide X9).below hb10)
            have hp9 := (unhide E9).n.pl
            have hg9 := (unhide E9).n.gl
            have hx9 := (unhide X9).lt
            have hw9 := (unhide E9).bel.size
            obtain ⟨ga, hga⟩ : ∃ ga, ga = w7.heap.size := ⟨_, rfl⟩
            rw [← hga] at R10 hp9 hg9 hx9 hw9 ⊢
            replace hga := hide hga
            clear hO10 hb10 E9 X9
            go_wp2_with fail
            go_loopw [104] (fun i2 wi => ∃ i : Nat, i ≤ m ∧ i2 = .int .i64 i ∧ RoomB wi ga m ∧ MEnv w wi p g (((j : Int) + 2) * 1048576) L1 ∧ Box wi w.heap.size s t) (fun i2 _ => m - (intOf i2).toNat)
            case atStart => exact ⟨0, Nat.zero_le _, rfl, unhide R10, unhide E10, unhide X10⟩
            case round =>
              obtain ⟨i, hi, rfl, R11, E11, X11⟩ := hrel
              clear R10 E10 X10
              by_cases hil : i < m
              · have hil' : (i : Int) < m := by omega
                obtain ⟨cs, cf⟩ := R11.at' (i * 4) (by omega)
                obtain ⟨cv, hcv⟩ := Option.isSome_iff_exists.1 cs
                have R12 := hide (R11.set (i * 4) (.int .i64 (-1)))
                have f12 := (FrS.refl (· = ga) wr).setCell (q := ⟨ga, i * 4, none⟩) (.inl rfl) (.int .i64 (-1))
                have E12 : Hid (MEnv w (wr.setCell ⟨ga, i * 4, none⟩ (.int .i64 (-1))) p g (((j : Int) + 2) * 1048576) L1) := ⟨E11.n.fr f12 (by omega) (by omega), E11.p0, E11.g0, E11.bel.trans (f12.below (fun i hi => by omega) E11.bel.size)⟩
                have X12 := hide (X11.fr f12 (by omega))
                clear R11 E11 X11 f12 cs
                go_wp2_with fail
                go_roundw
                case rel => exact ⟨i + 1, by omega, by simp, unhide R12, unhide E12, unhide X12⟩
                case measure => simp [intOf]; omega
              · obtain rfl : i = m := by omega
                replace E11 := hide E11
                replace X11 := hide X11
                clear R11
                go_wp2_with fail
                go_roundw
                case rel => exact ⟨j + 1, L1, by omega, by simp, by rw [hc9.out], (unhide E11).mono (by omega), unhide X11, hn9⟩
                case measure => simp [intOf]; omega
          · obtain ⟨ee1, ee2⟩ : decide (a.bl = x) = false ∧ (a.bl == x) = false := by simp [e]
            have e9 : n0 = c9 := by have := hcp.out; simp [e] at this; exact this.symm
            subst e9
            clear e
            have hn9 : Hid (L1.length = m) := by unfold Hid; (rw [← hL1.out, putM_len]); exact hm.out
            go_wp2_with fail
            go_at_call 17
            refine (mAll_c p g _ L1 _ (unhide E9).n m hn9).mono ?_
            rintro e w10 ⟨rfl, hO10, hb10⟩
            have R10 := hide (RoomB.of hO10)
            have E10 := hide ((unhide E9).quiet hb10)
            have X10 := hide ((unhide X9).below hb10)
            have hp9 := (unhide E9).n.pl
            have hg9 := (unhide E9).n.gl
            have hx9 := (unhide X9).lt
            have hw9 := (unhide E9).bel.size
            obtain ⟨ga, hga⟩ : ∃ ga, ga = w7.heap.size := ⟨_, rfl⟩
            rw [← hga] at R10 hp9 hg9 hx9 hw9 ⊢
            replace hga := hide hga
            clear hO10 hb10 E9 X9
            go_wp2_with fail
            go_loopw [104] (fun i2 wi => ∃ i : Nat, i ≤ m ∧ i2 = .int .i64 i ∧ RoomB wi ga m ∧ MEnv w wi p g (((j : Int) + 2) * 1048576) L1 ∧ Box wi w.heap.size s t) (fun i2 _ => m - (intOf i2).toNat)
            case atStart => exact ⟨0, Nat.zero_le _, rfl, unhide R10, unhide E10, unhide X10⟩
            case round =>
              obtain ⟨i, hi, rfl, R11, E11, X11⟩ := hrel
              clear R10 E10 X10
              by_cases hil : i < m
              · have hil' : (i : Int) < m := by omega
                obtain ⟨cs, cf⟩ := R11.at' (i * 4) (by omega)
                obtain ⟨cv, hcv⟩ := Option.isSome_iff_exists.1 cs
                have R12 := hide (R11.set (i * 4) (.int .i64 (-1)))
                have f12 := (FrS.refl (· = ga) wr).setCell (q := ⟨ga, i * 4, none⟩) (.inl rfl) (.int .i64 (-1))
                have E12 : Hid (MEnv w (wr.setCell ⟨ga, i * 4, none⟩ (.int .i64 (-1))) p g (((j : Int) + 2) * 1048576) L1) := ⟨E11.n.fr f12 (by omega) (by omega), E11.p0, E11.g0, E11.bel.trans (f12.below (fun i hi => by omega) E11.bel.size)⟩
                have X12 := hide (X11.fr f12 (by omega))
                clear R11 E11 X11 f12 cs
                go_wp2_with fail
                go_roundw
                case rel => exact ⟨i + 1, by omega, by simp, unhide R12, unhide E12, unhide X12⟩
                case measure => simp [intOf]; omega
              · obtain rfl : i = m := by omega
                replace E11 := hide E11
                replace X11 := hide X11
                clear R11
                go_wp2_with fail
                go_roundw
                case rel => exact ⟨j + 1, L1, by omega, by simp, by rw [hc9.out], (unhide E11).mono (by omega), unhide X11, hn9⟩
                case measure => simp [intOf]; omega
      · obtain ⟨kk1, kk2⟩ : decide (a.k = 1) = false ∧ (a.k == 1) = false := by simp [k1]
        clear k1
        by_cases k2 : a.k = 2
        · obtain ⟨kk3, kk4⟩ : decide (a.k = 2) = true ∧ (a.k == 2) = true := by simp [k2]
          clear k2
          have hcp := cnt_tak t L a.bl x a.ct a.o a.d (unhide hgok)
          obtain ⟨r, hr⟩ : ∃ r, Hid (givenB (getM L a.bl) a.ct a.o a.d = r) := ⟨_, rfl⟩
          obtain ⟨L1, hL1⟩ : ∃ L1, Hid (takM L a.bl a.ct a.o = L1) := ⟨_, rfl⟩
          obtain ⟨c9, hc9⟩ : ∃ c9, Hid (cntM t L1 x = c9) := ⟨_, rfl⟩
          rw [hL1.out, hc9.out, hn0.out, hr.out] at hcp
          have hcb := cnt_bd (N := ((j : Int) + 1) * 1048576) ((unhide E4).n.inv.tak a.bl a.ct a.o) (t := t) (by omega) (by omega) x
          rw [hL1.out, hc9.out] at hcb
          obtain ⟨hcb0, hcb1⟩ := hcb
          replace hcp := hide hcp
          go_wp2_with fail
          go_at_call 15
          refine (mTake_c p g _ a.bl a.ct a.o a.d L _ ((unhide E4).n.alloc (acO a)) (by omega) r hr L1 hL1).mono ?_
          rintro e w7 ⟨rfl, h7, f7⟩
          have E8 := ((unhide E4).step (belA wr (acO a)) h7 f7).mono (N' := ((j : Int) + 2) * 1048576) (by omega)
          have y7 := (ac_new wr a).fr f7 (by omega)
          have X8 := ((unhide X4).below (belA wr (acO a))).fr f7 (by omega)
          have y8 := y7.below (belA w7 (.cells #[.int .i64 r.n, .bool r.o, .bool r.h, .int .i64 r.d] 31))
          have E9 := hide (E8.quiet (belA w7 (.cells #[.int .i64 r.n, .bool r.o, .bool r.h, .int .i64 r.d] 31)))
          have X9 := hide (X8.below (belA w7 (.cells #[.int .i64 r.n, .bool r.o, .bool r.h, .int .i64 r.d] 31)))
          have hyl := y7.lt
          clear h7 f7 E4 X4 E8 X8 r0 r1 r2 r3 r4 r5 r6 r7 r8 y7
          obtain ⟨-, r0, r1, r2, r3, r4, r5, r6, r7, r8⟩ := y8
          by_cases e : a.bl = x
          · obtain ⟨ee1, ee2⟩ : decide (a.bl = x) = true ∧ (a.bl == x) = true := by simp [e]
            have e9 : n0 - r.n = c9 := by have := hcp.out; simp [e] at this; exact this.symm
            clear e
            have hwr : IntKind.i64.wrap (n0 - r.n) = c9 := by rw [e9]; exact wrap_in (by omega) (by omega)
            replace e9 := hide e9
            have hn9 : Hid (L1.length = m) := by unfold Hid; (rw [← hL1.out, takM_len]); exact hm.out
            go_wp2_with fail
            go_at_call 17
            refine (mAll_c p g _ L1 _ (unhide E9).n m hn9).mono ?_
            rintro e w10 ⟨rfl, hO10, hb10⟩
            have R10 := hide (RoomB.of hO10)
            have E10 := hide ((unhide E9).quiet hb10)
            have X10 := hide ((unhide X9).below hb10)
            have hp9 := (unhide E9).n.pl
            have hg9 := (unhide E9).n.gl
            have hx9 := (unhide X9).lt
            have hw9 := (unhide E9).bel.size
            obtain ⟨ga, hga⟩ : ∃ ga, ga = (w7.alloc (.cells #[.int .i64 r.n, .bool r.o, .bool r.h, .int .i64 r.d] 31)).heap.size := ⟨_, rfl⟩
            rw [← hga] at R10 hp9 hg9 hx9 hw9 ⊢
            replace hga := hide hga
            clear hO10 hb10 E9 X9
            go_wp2_with fail
            go_loopw [104] (fun i2 wi => ∃ i : Nat, i ≤ m ∧ i2 = .int .i64 i ∧ RoomB wi ga m ∧ MEnv w wi p g (((j : Int) + 2) * 1048576) L1 ∧ Box wi w.heap.size s t) (fun i2 _ => m - (intOf i2).toNat)
            case atStart => exact ⟨0, Nat.zero_le _, rfl, unhide R10, unhide E10, unhide X10⟩
            case round =>
              obtain ⟨i, hi, rfl, R11, E11, X11⟩ := hrel
              clear R10 E10 X10
              by_cases hil : i < m
              · have hil' : (i : Int) < m := by omega
                obtain ⟨cs, cf⟩ := R11.at' (i * 4) (by omega)
                obtain ⟨cv, hcv⟩ := Option.isSome_iff_exists.1 cs
                have R12 := hide (R11.set (i * 4) (.int .i64 (-1)))
                have f12 := (FrS.refl (· = ga) wr).setCell (q := ⟨ga, i * 4, none⟩) (.inl rfl) (.int .i64 (-1))
                have E12 : Hid (MEnv w (wr.setCell ⟨ga, i * 4, none⟩ (.int .i64 (-1))) p g (((j : Int) + 2) * 1048576) L1) := ⟨E11.n.fr f12 (by omega) (by omega), E11.p0, E11.g0, E11.bel.trans (f12.below (fun i hi => by omega) E11.bel.size)⟩
                have X12 := hide (X11.fr f12 (by omega))
                clear R11 E11 X11 f12 cs
                go_wp2_with fail
                go_roundw
                case rel => exact ⟨i + 1, by omega, by simp, unhide R12, unhide E12, unhide X12⟩
                case measure => simp [intOf]; omega
              · obtain rfl : i = m := by omega
                replace E11 := hide E11
                replace X11 := hide X11
                clear R11
                go_wp2_with fail
                go_roundw
                case rel => exact ⟨j + 1, L1, by omega, by simp, by rw [hc9.out], (unhide E11).mono (by omega), unhide X11, hn9⟩
                case measure => simp [intOf]; omega
          · obtain ⟨ee1, ee2⟩ : decide (a.bl = x) = false ∧ (a.bl == x) = false := by simp [e]
            have e9 : n0 = c9 := by have := hcp.out; simp [e] at this; exact this.symm
            subst e9
            clear e
            have hn9 : Hid (L1.length = m) := by unfold Hid; (rw [← hL1.out, takM_len]); exact hm.out
            go_wp2_with fail
            go_at_call 17
            refine (mAll_c p g _ L1 _ (unhide E9).n m hn9).mono ?_
            rintro e w10 ⟨rfl, hO10, hb10⟩
            have R10 := hide (RoomB.of hO10)
            have E10 := hide ((unhide E9).quiet hb10)
            have X10 := hide ((unhide X9).below hb10)
            have hp9 := (unhide E9).n.pl
            have hg9 := (unhide E9).n.gl
            have hx9 := (unhide X9).lt
            have hw9 := (unhide E9).bel.size
            obtain ⟨ga, hga⟩ : ∃ ga, ga = (w7.alloc (.cells #[.int .i64 r.n, .bool r.o, .bool r.h, .int .i64 r.d] 31)).heap.size := ⟨_, rfl⟩
            rw [← hga] at R10 hp9 hg9 hx9 hw9 ⊢
            replace hga := hide hga
            clear hO10 hb10 E9 X9
            go_wp2_with fail
            go_loopw [104] (fun i2 wi => ∃ i : Nat, i ≤ m ∧ i2 = .int .i64 i ∧ RoomB wi ga m ∧ MEnv w wi p g (((j : Int) + 2) * 1048576) L1 ∧ Box wi w.heap.size s t) (fun i2 _ => m - (intOf i2).toNat)
            case atStart => exact ⟨0, Nat.zero_le _, rfl, unhide R10, unhide E10, unhide X10⟩
            case round =>
              obtain ⟨i, hi, rfl, R11, E11, X11⟩ := hrel
              clear R10 E10 X10
              by_cases hil : i < m
              · have hil' : (i : Int) < m := by omega
                obtain ⟨cs, cf⟩ := R11.at' (i * 4) (by omega)
                obtain ⟨cv, hcv⟩ := Option.isSome_iff_exists.1 cs
                have R12 := hide (R11.set (i * 4) (.int .i64 (-1)))
                have f12 := (FrS.refl (· = ga) wr).setCell (q := ⟨ga, i * 4, none⟩) (.inl rfl) (.int .i64 (-1))
                have E12 : Hid (MEnv w (wr.setCell ⟨ga, i * 4, none⟩ (.int .i64 (-1))) p g (((j : Int) + 2) * 1048576) L1) := ⟨E11.n.fr f12 (by omega) (by omega), E11.p0, E11.g0, E11.bel.trans (f12.below (fun i hi => by omega) E11.bel.size)⟩
                have X12 := hide (X11.fr f12 (by omega))
                clear R11 E11 X11 f12 cs
                go_wp2_with fail
                go_roundw
                case rel => exact ⟨i + 1, by omega, by simp, unhide R12, unhide E12, unhide X12⟩
                case measure => simp [intOf]; omega
              · obtain rfl : i = m := by omega
                replace E11 := hide E11
                replace X11 := hide X11
                clear R11
                go_wp2_with fail
                go_roundw
                case rel => exact ⟨j + 1, L1, by omega, by simp, by rw [hc9.out], (unhide E11).mono (by omega), unhide X11, hn9⟩
                case measure => simp [intOf]; omega
        · obtain ⟨kk3, kk4⟩ : decide (a.k = 2) = false ∧ (a.k == 2) = false := by simp [k2]
          clear k2
          have hc9 := hn0
          have E9 := hide (((unhide E4).quiet (belA wr (acO a))).mono (N' := ((j : Int) + 2) * 1048576) (by omega))
          have X9 := hide ((unhide X4).below (belA wr (acO a)))
          clear E4 X4
          have hn9 : Hid (L.length = m) := by unfold Hid; (skip); exact hm.out
          go_wp2_with fail
          go_at_call 17
          refine (mAll_c p g _ L _ (unhide E9).n m hn9).mono ?_
          rintro e w10 ⟨rfl, hO10, hb10⟩
          have R10 := hide (RoomB.of hO10)
          have E10 := hide ((unhide E9).quiet hb10)
          have X10 := hide ((unhide X9).below hb10)
          have hp9 := (unhide E9).n.pl
          have hg9 := (unhide E9).n.gl
          have hx9 := (unhide X9).lt
          have hw9 := (unhide E9).bel.size
          obtain ⟨ga, hga⟩ : ∃ ga, ga = (wr.alloc (acO a)).heap.size := ⟨_, rfl⟩
          rw [← hga] at R10 hp9 hg9 hx9 hw9 ⊢
          replace hga := hide hga
          clear hO10 hb10 E9 X9
          go_wp2_with fail
          go_loopw [104] (fun i2 wi => ∃ i : Nat, i ≤ m ∧ i2 = .int .i64 i ∧ RoomB wi ga m ∧ MEnv w wi p g (((j : Int) + 2) * 1048576) L ∧ Box wi w.heap.size s t) (fun i2 _ => m - (intOf i2).toNat)
          case atStart => exact ⟨0, Nat.zero_le _, rfl, unhide R10, unhide E10, unhide X10⟩
          case round =>
            obtain ⟨i, hi, rfl, R11, E11, X11⟩ := hrel
            clear R10 E10 X10
            by_cases hil : i < m
            · have hil' : (i : Int) < m := by omega
              obtain ⟨cs, cf⟩ := R11.at' (i * 4) (by omega)
              obtain ⟨cv, hcv⟩ := Option.isSome_iff_exists.1 cs
              have R12 := hide (R11.set (i * 4) (.int .i64 (-1)))
              have f12 := (FrS.refl (· = ga) wr).setCell (q := ⟨ga, i * 4, none⟩) (.inl rfl) (.int .i64 (-1))
              have E12 : Hid (MEnv w (wr.setCell ⟨ga, i * 4, none⟩ (.int .i64 (-1))) p g (((j : Int) + 2) * 1048576) L) := ⟨E11.n.fr f12 (by omega) (by omega), E11.p0, E11.g0, E11.bel.trans (f12.below (fun i hi => by omega) E11.bel.size)⟩
              have X12 := hide (X11.fr f12 (by omega))
              clear R11 E11 X11 f12 cs
              go_wp2_with fail
              go_roundw
              case rel => exact ⟨i + 1, by omega, by simp, unhide R12, unhide E12, unhide X12⟩
              case measure => simp [intOf]; omega
            · obtain rfl : i = m := by omega
              replace E11 := hide E11
              replace X11 := hide X11
              clear R11
              go_wp2_with fail
              go_roundw
              case rel => exact ⟨j + 1, L, by omega, by simp, by rw [hc9.out], (unhide E11).mono (by omega), unhide X11, hn9⟩
              case measure => simp [intOf]; omega
    · obtain rfl : j = A.length := by omega
      have hLx : hasM L x = true ↔ (0 ≤ x ∧ x < s) := by rw [hasM_iff, hm.out, hLs]
      obtain ⟨y, hy⟩ : ∃ y, Hid (getM L x = y) := ⟨_, rfl⟩
      obtain ⟨-, z0, z1⟩ := id X4
      replace E4 := hide E4
      replace X4 := hide X4
      clear hlt
      by_cases d0 : x < 0
      · obtain rfl : y = bun0 := by rw [← hy.out]; exact getM_out (by cases hz : hasM L x; rfl; have := hLx.1 hz; omega)
        clear hLx
        go_wp2_with fail
        go_at_call 18
        refine (mGet_c p g _ x L _ (unhide E4).n bun0 hy).mono ?_
        rintro e w5 ⟨rfl, hb5⟩
        have hfin := hide ((unhide E4).quiet hb5).bel
        clear hb5
        go_wp2_with fail
        go_ret
        exact ⟨rfl, unhide hfin⟩
      · by_cases d1 : x < s
        · have e9 : cntM t L x = y.n := by unfold cntM; rw [if_pos (hLx.2 (by omega)), hy.out]
          rw [e9]
          clear hLx e9
          go_wp2_with fail
          go_at_call 18
          refine (mGet_c p g _ x L _ (unhide E4).n y hy).mono ?_
          rintro e w5 ⟨rfl, hb5⟩
          have hfin := hide ((unhide E4).quiet hb5).bel
          clear hb5
          go_wp2_with fail
          go_ret
          exact ⟨rfl, unhide hfin⟩
        · obtain rfl : y = bun0 := by rw [← hy.out]; exact getM_out (by cases hz : hasM L x; rfl; have := hLx.1 hz; omega)
          clear hLx
          go_wp2_with fail
          go_at_call 18
          refine (mGet_c p g _ x L _ (unhide E4).n bun0 hy).mono ?_
          rintro e w5 ⟨rfl, hb5⟩
          have hfin := hide ((unhide E4).quiet hb5).bel
          clear hb5
          go_wp2_with fail
          go_ret
          exact ⟨rfl, unhide hfin⟩
end Go.Proofs.Ytafccninjjhibaa
