/- The walk of CacheSums: it returns true; no old memory turns. Written by wip/gen09s.py. -/
import Derived.Test.YtooopcadefpncaaLaw09
import Derived.Deep.DeepCutAuto
namespace Go.Proofs.Ytooopcadefpncaa
open Go.ChangeShapes Go.WideShapes Go.ChangeAt Go.RowKit
set_option linter.unusedSimpArgs false
set_option linter.unusedVariables false
set_option maxRecDepth 10000

attribute [local go_sem, local simp] over_const setCell_drewN alloc_drewN Over.cell Over.frozen lt_s1 lt_s2 lt_s3 le_s0 le_s1 le_s2 le_s3 eq_s0 eq_s1 eq_s2 qe_s0

theorem owner_c (n : Int) (o h : Bool) (d : Int) (w : World) (p : Int) (hp : Hid (ownI o = p)) : Calls Try.prog 25 #[.agg #[.int .i64 n, .bool o, .bool h, .int .i64 d]] w fun e w' => e = .returned (.int .i64 p) ∧ Below w.heap.size w w' := by
  obtain rfl := unhide hp
  cases o
  all_goals
    go_enter Try.func25, Try.ntmps25
    go_wp2
    go_ret
    exact ⟨rfl, (Below.refl _ _).alloc (Nat.le_refl _) _⟩

set_option maxHeartbeats 2000000 in
theorem CacheSums_walk (s t : Int) (v : Value) (A : List Ac) (x : Int) (hx : I64 x) (w : World) (h : ActsAt w.heap.size w v A) : Calls Try.prog 4 #[.agg #[.int .i64 s, .int .i64 t], v, .int .i64 x] w fun e w' => e = .returned (.bool true) ∧ Below w.heap.size w w' := by
  have hfld := field_n
  have hA := hide h
  obtain ⟨ao, cap, rfl, hlc, hmx, _⟩ := h
  have hmx' : A.length ≤ 9223372036854775807 := by unfold maxLen at hmx; omega
  clear hmx
  go_enter Try.func4, Try.ntmps4
  go_wp2_with fail
  go_at_call 10
  refine (awake9_any _).mono ?_
  rintro e w1 ⟨rfl, hb1⟩
  obtain ⟨X1, hB1, hs1⟩ := box1 hb1
  clear hb1
  replace X1 := hide X1
  go_wp2_with fail
  go_at_call 11
  refine (right_c _ A w1 ((unhide hA).below hB1).up).mono ?_
  rintro e w2 ⟨q, rfl, hb2, hq⟩
  replace X1 := (unhide X1).below hb2
  have hB2 := hB1.trans (hb2.mono hB1.size)
  clear hB1 hb2 hs1
  cases q
  · replace hB2 := hide hB2
    clear X1
    go_wp2_with fail
    go_at_call 10
    refine (awake9_any _).mono ?_
    rintro e w3 ⟨rfl, hb3⟩
    replace hb3 := hide hb3
    go_wp2_with fail
    go_ret
    exact ⟨rfl, (unhide hB2).trans ((unhide hb3).mono (unhide hB2).size)⟩
  have hf : Hid (Fine A) := hq rfl
  have hlen : A.length ≤ 200 := hf.out.1
  clear hq
  obtain ⟨-, q0, q1⟩ := X1
  replace hB2 := hide hB2
  obtain ⟨S, hS⟩ : ∃ S, Hid (clampZ s 1 64 = S) := ⟨_, rfl⟩
  obtain ⟨W, hW⟩ : ∃ W, Hid (clampZ t 1 16 = W) := ⟨_, rfl⟩
  go_wp2_with fail
  go_at_call 12
  refine (cNew_c s t _).mono ?_
  rw [hS.out, hW.out]
  rintro e w3 ⟨c, F, rfl, hn, hb3, hF⟩
  have hE := hide (CEnv.first (unhide hB2) hn hb3 hF)
  clear hb3 hB2 q0 q1 hn hF
  go_wp2_with fail
  go_loopw [8, 9, 10, 34] (fun n ow od i wr => ∃ (j : Nat) (F : Nat → Prop) (C : Ca) (m : Int) (u : Bool), j ≤ A.length ∧ i = .int .i64 j ∧ n = .int .i64 (C.T x).n ∧ ow = .int .i64 m ∧ od = .bool u ∧ (-j ≤ m ∧ m ≤ j) ∧ Hid (u = false → m = ownI (C.T x).o) ∧ CEnv w wr c F S W (j * 1048576) C) (fun _ _ _ i _ => A.length - (intOf i).toNat)
  case atStart => exact ⟨0, F, _, 0, false, Nat.zero_le _, rfl, rfl, rfl, rfl, ⟨by simp, by simp⟩, fun _ => rfl, by simpa using unhide hE⟩
  case round =>
    obtain ⟨j, G, C, m, u, hj, rfl, rfl, rfl, rfl, ⟨hmj0, hmj1⟩, hu, hE2⟩ := hrel
    clear hE
    by_cases hlt : j < A.length
    · have hlt' : (j : Int) < A.length := by omega
      obtain ⟨b, o, rfl, hbB, hbl, ⟨a1, a2⟩, r0, r1, r2, r3, r4, r5, r6, r7, r8, r9, r10, r11, r12⟩ := acts_row ((unhide hA).below hE2.bel) hlt
      obtain ⟨hok, hle⟩ := hf.out.2 _ (List.getElem_mem hlt)
      generalize A[j] = a at r0 r1 r2 r3 r4 r5 r6 r7 r8 r9 r10 r11 r12 a1 a2 hok hle
      replace hok := hide hok
      have hcl := hE2.n.lt
      have hI := hide hE2.n.inv
      replace hE2 := hide hE2
      have hm0 := ((unhide hI).ok x).1
      have hm1 := (unhide hI).le x
      have hm2 := (unhide hok).1
      obtain ⟨n0, hn0⟩ : ∃ n0, Hid ((C.T x).n = n0) := ⟨_, rfl⟩
      rw [hn0.out] at hm0 hm1 ⊢
      by_cases k1 : a.k = 1
      · obtain ⟨⟨r, ok⟩, hg⟩ : ∃ z, Hid (goAb S W C a.bl a.t a.pn = z) := ⟨_, rfl⟩
        obtain ⟨C', hC⟩ : ∃ C', Hid (nxAb S W C a.bl a.t a.pn = C') := ⟨_, rfl⟩
        obtain ⟨z, hz⟩ : ∃ z, Hid (C'.T x = z) := ⟨_, rfl⟩
        obtain ⟨hs1, hs2⟩ := sums_ab (unhide hI) (unhide hok) x hg.out hC.out (unhide hu)
        rw [hz.out, hn0.out] at hs1
        rw [hz.out] at hs2
        have hz0 := ((unhide hI).ab (x := a.bl) (q := a.pn) (unhide hok) hle a1.2).ok x
        have hz9 := ((unhide hI).ab (x := a.bl) (q := a.pn) (unhide hok) hle a1.2).le x
        rw [hC.out, hz.out] at hz0 hz9
        have hz00 := hz0.1
        obtain ⟨p1, hp1⟩ : ∃ p1, Hid (ownI a.t.o = p1) := ⟨_, rfl⟩
        obtain ⟨p2, hp2⟩ : ∃ p2, Hid (ownI r.t.o = p2) := ⟨_, rfl⟩
        have hpb1 := ownI_bd a.t.o
        have hpb2 := ownI_bd r.t.o
        rw [hp1.out] at hs2 hpb1
        rw [hp2.out] at hs2 hpb2
        replace hs1 := hide hs1
        replace hs2 := hide hs2
        clear hz0
        have kk1 : decide (a.k = 1) = true ∧ (a.k == 1) = true := by simp [k1]
        obtain ⟨kk1, kk2⟩ := kk1
        clear k1
        obtain ⟨u1, hu1⟩ : ∃ u1, Hid ((u || (decide (a.bl = x) && (a.t.o && decide (0 < m)))) = u1) := ⟨_, rfl⟩
        rw [hu1.out] at hs2
        go_upto_region 13 with fail
        go_cut [10] (fun od wx => od = .bool u1 ∧ wx = wr.alloc (acO a))
        case first =>
          cases u
          · by_cases e : a.bl = x
            · have ee : decide (a.bl = x) = true ∧ (a.bl == x) = true := by simp [e]
              obtain ⟨ee1, ee2⟩ := ee
              clear e
              cases ho : a.t.o
              · have : u1 = false := by rw [← hu1.out, ho]; simp
                subst this
                go_wp2_with fail
                go_meet
                simp [acO, ho]
              · by_cases hmp : 0 < m
                · have : u1 = true := by rw [← hu1.out, ho]; simp [ee1, hmp]
                  subst this
                  go_wp2_with fail
                  go_meet
                  simp [acO, ho]
                · have : u1 = false := by rw [← hu1.out, ho]; simp [hmp]
                  subst this
                  go_wp2_with fail
                  go_meet
                  simp [acO, ho]
            · have ee : decide (a.bl = x) = false ∧ (a.bl == x) = false := by simp [e]
              obtain ⟨ee1, ee2⟩ := ee
              have : u1 = false := by rw [← hu1.out, ee1]; simp
              subst this
              go_wp2_with fail
              go_meet
              exact ⟨rfl, rfl⟩
          · have : u1 = true := by rw [← hu1.out]; simp
            subst this
            go_wp2_with fail
            go_meet
            exact ⟨rfl, rfl⟩
        case rest =>
          obtain ⟨rfl, rfl⟩ := hcut
          by_cases e : a.bl = x
          · have ee : decide (a.bl = x) = true ∧ (a.bl == x) = true := by simp [e]
            obtain ⟨ee1, ee2⟩ := ee
            replace e := hide e
            skip
            have hwr1 : IntKind.i64.wrap (n0 + a.t.n) = n0 + a.t.n := wrap_in (by omega) (by omega)
            have hwr2 : IntKind.i64.wrap (m + p1) = m + p1 := wrap_in (by omega) (by omega)
            go_wp2_with fail
            go_at_call 25
            refine (owner_c a.t.n a.t.o a.t.h a.t.d _ p1 hp1).mono ?_
            rintro e w9 ⟨rfl, hb9⟩
            have hE3 := hide (((unhide hE2).quiet (belA wr (acO a))).quiet hb9)
            have hac := (ac_new wr a).below hb9
            obtain ⟨hal, y0, y1, y2, y3, y4, y5, y6, y7, y8, y9, y10, y11, y12⟩ := id hac
            replace hac := hide hac
            have hcl3 := (unhide hE3).n.lt
            have hcn : Hid (¬ G wr.heap.size) := fun e => by have := hcl _ e; omega
            clear hb9 hE2 r0 r1 r2 r3 r4 r5 r6 r7 r8 r9 r10 r11 r12
            go_wp2_with fail
            go_at_call 14
            refine (cAbsorb_c c G S W (j * 1048576) 1048576 a.bl a.pn C a.t _ (unhide hE3).n a1 (unhide hok) hle (by omega) r ok C' hg hC).mono ?_
            rintro e w4 ⟨rfl, G4, hn4, st4⟩
            have hE4 := (unhide hE3).step (Below.refl _ _) hn4 st4
            clear hal y0 y1 y2 y3 y4 y5 y6 y7 y8 y9 y10 y11 y12 hac hE3 hcl3
            have hE5 : Hid (CEnv w (w4.alloc (.cells #[.int .i64 r.b, .int .i64 r.t.n, .bool r.t.o, .bool r.t.h, .int .i64 r.t.d] 37)) c G4 S W ((j + 1 : Nat) * 1048576) C') := (hE4.quiet (belA _ _)).mono (by omega)
            clear hn4 st4 hE4 hcl
            by_cases e4 : ok = true ∧ r.b = x
            · have ee : ok = true ∧ decide (r.b = x) = true ∧ (r.b == x) = true := by simp [e4.1, e4.2]
              obtain ⟨rfl, ee3, ee4⟩ := ee
              have hz1 : z.n = n0 + a.t.n - r.t.n := by have := unhide hs1; rw [if_pos (unhide e), if_pos e4] at this; omega
              have hz2 : _ → m + p1 - p2 = ownI z.o := fun h => by have := unhide hs2 h; rw [if_pos (unhide e), if_pos e4] at this; omega
              clear e4
              have hwr3 : IntKind.i64.wrap (n0 + a.t.n - r.t.n) = z.n := by rw [hz1]; exact wrap_in (by omega) (by omega)
              have hwr4 : IntKind.i64.wrap (m + p1 - p2) = m + p1 - p2 := wrap_in (by omega) (by omega)
              replace hz1 := hide hz1
              replace hz2 := hide hz2
              clear hs1 hs2
              go_wp2_with fail
              go_at_call 25
              refine (owner_c r.t.n r.t.o r.t.h r.t.d _ p2 hp2).mono ?_
              rintro e w6 ⟨rfl, hb6⟩
              have hE6 := hide ((unhide hE5).quiet hb6)
              clear hb6 hE5
              have hm2b : -((j + 1 : Nat) : Int) ≤ m + p1 - p2 ∧ m + p1 - p2 ≤ ((j + 1 : Nat) : Int) := by omega
              have hu2 : Hid (u1 = false → m + p1 - p2 = ownI z.o) := unhide hz2
              clear hu
              cases u1
              · have hmo : Hid (m + p1 - p2 = ownI z.o) := unhide hu2 rfl
                have hdo : decide (m + p1 - p2 = 1) = z.o ∧ (m + p1 - p2 == 1) = z.o := by rw [unhide hmo]; cases z.o <;> simp [ownI]
                obtain ⟨hdo1, hdo2⟩ := hdo
                go_wp2_with fail
                go_at_call 20
                refine (cGet_c c G4 S W _ x C' _ (unhide hE6).n hx z hz).mono ?_
                rintro e w7 ⟨rfl, hb7⟩
                have hE7 := hide ((unhide hE6).quiet hb7)
                clear hb7
                go_wp2_with fail
                go_roundw
                case rel => exact ⟨j + 1, G4, C', m + p1 - p2, false, by omega, by simp, by first | (rw [hz.out]; done) | rw [hz.out, hz1], rfl, rfl, hm2b, fun _ => (by rw [hz.out]; exact unhide hmo), (unhide hE7).quiet (belA _ _)⟩
                case measure => simp [intOf]; omega
              · go_wp2_with fail
                go_at_call 20
                refine (cGet_c c G4 S W _ x C' _ (unhide hE6).n hx z hz).mono ?_
                rintro e w7 ⟨rfl, hb7⟩
                have hE7 := hide ((unhide hE6).quiet hb7)
                clear hb7
                go_wp2_with fail
                go_roundw
                case rel => exact ⟨j + 1, G4, C', m + p1 - p2, true, by omega, by simp, by first | (rw [hz.out]; done) | rw [hz.out, hz1], rfl, rfl, hm2b, fun h => (by cases h), (unhide hE7).quiet (belA _ _)⟩
                case measure => simp [intOf]; omega
            · have hz1 : z.n = n0 + a.t.n := by have := unhide hs1; rw [if_pos (unhide e), if_neg e4] at this; omega
              have hz2 : _ → m + p1 = ownI z.o := fun h => by have := unhide hs2 h; rw [if_pos (unhide e), if_neg e4] at this; omega
              have hm2b : -((j + 1 : Nat) : Int) ≤ m + p1 ∧ m + p1 ≤ ((j + 1 : Nat) : Int) := by omega
              have hE6 := hE5
              clear hE5
              replace hz2 := hide hz2
              clear hs1 hs2
              have hu2 : Hid (u1 = false → m + p1 = ownI z.o) := unhide hz2
              clear hu
              cases ok
              · clear e4
                cases u1
                · have hmo : Hid (m + p1 = ownI z.o) := unhide hu2 rfl
                  have hdo : decide (m + p1 = 1) = z.o ∧ (m + p1 == 1) = z.o := by rw [unhide hmo]; cases z.o <;> simp [ownI]
                  obtain ⟨hdo1, hdo2⟩ := hdo
                  go_wp2_with fail
                  go_at_call 20
                  refine (cGet_c c G4 S W _ x C' _ (unhide hE6).n hx z hz).mono ?_
                  rintro e w7 ⟨rfl, hb7⟩
                  have hE7 := hide ((unhide hE6).quiet hb7)
                  clear hb7
                  go_wp2_with fail
                  go_roundw
                  case rel => exact ⟨j + 1, G4, C', m + p1, false, by omega, by simp, by first | (rw [hz.out]; done) | rw [hz.out, hz1], rfl, rfl, hm2b, fun _ => (by rw [hz.out]; exact unhide hmo), (unhide hE7).quiet (belA _ _)⟩
                  case measure => simp [intOf]; omega
                · go_wp2_with fail
                  go_at_call 20
                  refine (cGet_c c G4 S W _ x C' _ (unhide hE6).n hx z hz).mono ?_
                  rintro e w7 ⟨rfl, hb7⟩
                  have hE7 := hide ((unhide hE6).quiet hb7)
                  clear hb7
                  go_wp2_with fail
                  go_roundw
                  case rel => exact ⟨j + 1, G4, C', m + p1, true, by omega, by simp, by first | (rw [hz.out]; done) | rw [hz.out, hz1], rfl, rfl, hm2b, fun h => (by cases h), (unhide hE7).quiet (belA _ _)⟩
                  case measure => simp [intOf]; omega
              · have ee : decide (r.b = x) = false ∧ (r.b == x) = false := by simpa using e4
                obtain ⟨ee3, ee4⟩ := ee
                clear e4
                cases u1
                · have hmo : Hid (m + p1 = ownI z.o) := unhide hu2 rfl
                  have hdo : decide (m + p1 = 1) = z.o ∧ (m + p1 == 1) = z.o := by rw [unhide hmo]; cases z.o <;> simp [ownI]
                  obtain ⟨hdo1, hdo2⟩ := hdo
                  go_wp2_with fail
                  go_at_call 20
                  refine (cGet_c c G4 S W _ x C' _ (unhide hE6).n hx z hz).mono ?_
                  rintro e w7 ⟨rfl, hb7⟩
                  have hE7 := hide ((unhide hE6).quiet hb7)
                  clear hb7
                  go_wp2_with fail
                  go_roundw
                  case rel => exact ⟨j + 1, G4, C', m + p1, false, by omega, by simp, by first | (rw [hz.out]; done) | rw [hz.out, hz1], rfl, rfl, hm2b, fun _ => (by rw [hz.out]; exact unhide hmo), (unhide hE7).quiet (belA _ _)⟩
                  case measure => simp [intOf]; omega
                · go_wp2_with fail
                  go_at_call 20
                  refine (cGet_c c G4 S W _ x C' _ (unhide hE6).n hx z hz).mono ?_
                  rintro e w7 ⟨rfl, hb7⟩
                  have hE7 := hide ((unhide hE6).quiet hb7)
                  clear hb7
                  go_wp2_with fail
                  go_roundw
                  case rel => exact ⟨j + 1, G4, C', m + p1, true, by omega, by simp, by first | (rw [hz.out]; done) | rw [hz.out, hz1], rfl, rfl, hm2b, fun h => (by cases h), (unhide hE7).quiet (belA _ _)⟩
                  case measure => simp [intOf]; omega
          · have ee : decide (a.bl = x) = false ∧ (a.bl == x) = false := by simp [e]
            obtain ⟨ee1, ee2⟩ := ee
            replace e := hide e
            skip
            go_wp2_with fail
            go_at_call 14
            refine (cAbsorb_c c G S W (j * 1048576) 1048576 a.bl a.pn C a.t _ ((unhide hE2).n.alloc _) a1 (unhide hok) hle (by omega) r ok C' hg hC).mono ?_
            rintro e w4 ⟨rfl, G4, hn4, st4⟩
            have hE4 := (unhide hE2).step (belA wr (acO a)) hn4 st4
            clear hE2 r0 r1 r2 r3 r4 r5 r6 r7 r8 r9 r10 r11 r12
            have hE5 : Hid (CEnv w (w4.alloc (.cells #[.int .i64 r.b, .int .i64 r.t.n, .bool r.t.o, .bool r.t.h, .int .i64 r.t.d] 37)) c G4 S W ((j + 1 : Nat) * 1048576) C') := (hE4.quiet (belA _ _)).mono (by omega)
            clear hn4 st4 hE4 hcl
            by_cases e4 : ok = true ∧ r.b = x
            · have ee : ok = true ∧ decide (r.b = x) = true ∧ (r.b == x) = true := by simp [e4.1, e4.2]
              obtain ⟨rfl, ee3, ee4⟩ := ee
              have hz1 : z.n = n0 - r.t.n := by have := unhide hs1; rw [if_neg (unhide e), if_pos e4] at this; omega
              have hz2 : _ → m - p2 = ownI z.o := fun h => by have := unhide hs2 h; rw [if_neg (unhide e), if_pos e4] at this; omega
              clear e4
              have hwr3 : IntKind.i64.wrap (n0 - r.t.n) = z.n := by rw [hz1]; exact wrap_in (by omega) (by omega)
              have hwr4 : IntKind.i64.wrap (m - p2) = m - p2 := wrap_in (by omega) (by omega)
              replace hz1 := hide hz1
              replace hz2 := hide hz2
              clear hs1 hs2
              go_wp2_with fail
              go_at_call 25
              refine (owner_c r.t.n r.t.o r.t.h r.t.d _ p2 hp2).mono ?_
              rintro e w6 ⟨rfl, hb6⟩
              have hE6 := hide ((unhide hE5).quiet hb6)
              clear hb6 hE5
              have hm2b : -((j + 1 : Nat) : Int) ≤ m - p2 ∧ m - p2 ≤ ((j + 1 : Nat) : Int) := by omega
              have hu2 : Hid (u1 = false → m - p2 = ownI z.o) := unhide hz2
              clear hu
              cases u1
              · have hmo : Hid (m - p2 = ownI z.o) := unhide hu2 rfl
                have hdo : decide (m - p2 = 1) = z.o ∧ (m - p2 == 1) = z.o := by rw [unhide hmo]; cases z.o <;> simp [ownI]
                obtain ⟨hdo1, hdo2⟩ := hdo
                go_wp2_with fail
                go_at_call 20
                refine (cGet_c c G4 S W _ x C' _ (unhide hE6).n hx z hz).mono ?_
                rintro e w7 ⟨rfl, hb7⟩
                have hE7 := hide ((unhide hE6).quiet hb7)
                clear hb7
                go_wp2_with fail
                go_roundw
                case rel => exact ⟨j + 1, G4, C', m - p2, false, by omega, by simp, by first | (rw [hz.out]; done) | rw [hz.out, hz1], rfl, rfl, hm2b, fun _ => (by rw [hz.out]; exact unhide hmo), (unhide hE7).quiet (belA _ _)⟩
                case measure => simp [intOf]; omega
              · go_wp2_with fail
                go_at_call 20
                refine (cGet_c c G4 S W _ x C' _ (unhide hE6).n hx z hz).mono ?_
                rintro e w7 ⟨rfl, hb7⟩
                have hE7 := hide ((unhide hE6).quiet hb7)
                clear hb7
                go_wp2_with fail
                go_roundw
                case rel => exact ⟨j + 1, G4, C', m - p2, true, by omega, by simp, by first | (rw [hz.out]; done) | rw [hz.out, hz1], rfl, rfl, hm2b, fun h => (by cases h), (unhide hE7).quiet (belA _ _)⟩
                case measure => simp [intOf]; omega
            · have hz1 : z.n = n0 := by have := unhide hs1; rw [if_neg (unhide e), if_neg e4] at this; omega
              have hz2 : _ → m = ownI z.o := fun h => by have := unhide hs2 h; rw [if_neg (unhide e), if_neg e4] at this; omega
              have hm2b : -((j + 1 : Nat) : Int) ≤ m ∧ m ≤ ((j + 1 : Nat) : Int) := by omega
              have hE6 := hE5
              clear hE5
              replace hz2 := hide hz2
              clear hs1 hs2
              have hu2 : Hid (u1 = false → m = ownI z.o) := unhide hz2
              clear hu
              cases ok
              · clear e4
                cases u1
                · have hmo : Hid (m = ownI z.o) := unhide hu2 rfl
                  have hdo : decide (m = 1) = z.o ∧ (m == 1) = z.o := by rw [unhide hmo]; cases z.o <;> simp [ownI]
                  obtain ⟨hdo1, hdo2⟩ := hdo
                  go_wp2_with fail
                  go_at_call 20
                  refine (cGet_c c G4 S W _ x C' _ (unhide hE6).n hx z hz).mono ?_
                  rintro e w7 ⟨rfl, hb7⟩
                  have hE7 := hide ((unhide hE6).quiet hb7)
                  clear hb7
                  go_wp2_with fail
                  go_roundw
                  case rel => exact ⟨j + 1, G4, C', m, false, by omega, by simp, by first | (rw [hz.out]; done) | rw [hz.out, hz1], rfl, rfl, hm2b, fun _ => (by rw [hz.out]; exact unhide hmo), (unhide hE7).quiet (belA _ _)⟩
                  case measure => simp [intOf]; omega
                · go_wp2_with fail
                  go_at_call 20
                  refine (cGet_c c G4 S W _ x C' _ (unhide hE6).n hx z hz).mono ?_
                  rintro e w7 ⟨rfl, hb7⟩
                  have hE7 := hide ((unhide hE6).quiet hb7)
                  clear hb7
                  go_wp2_with fail
                  go_roundw
                  case rel => exact ⟨j + 1, G4, C', m, true, by omega, by simp, by first | (rw [hz.out]; done) | rw [hz.out, hz1], rfl, rfl, hm2b, fun h => (by cases h), (unhide hE7).quiet (belA _ _)⟩
                  case measure => simp [intOf]; omega
              · have ee : decide (r.b = x) = false ∧ (r.b == x) = false := by simpa using e4
                obtain ⟨ee3, ee4⟩ := ee
                clear e4
                cases u1
                · have hmo : Hid (m = ownI z.o) := unhide hu2 rfl
                  have hdo : decide (m = 1) = z.o ∧ (m == 1) = z.o := by rw [unhide hmo]; cases z.o <;> simp [ownI]
                  obtain ⟨hdo1, hdo2⟩ := hdo
                  go_wp2_with fail
                  go_at_call 20
                  refine (cGet_c c G4 S W _ x C' _ (unhide hE6).n hx z hz).mono ?_
                  rintro e w7 ⟨rfl, hb7⟩
                  have hE7 := hide ((unhide hE6).quiet hb7)
                  clear hb7
                  go_wp2_with fail
                  go_roundw
                  case rel => exact ⟨j + 1, G4, C', m, false, by omega, by simp, by first | (rw [hz.out]; done) | rw [hz.out, hz1], rfl, rfl, hm2b, fun _ => (by rw [hz.out]; exact unhide hmo), (unhide hE7).quiet (belA _ _)⟩
                  case measure => simp [intOf]; omega
                · go_wp2_with fail
                  go_at_call 20
                  refine (cGet_c c G4 S W _ x C' _ (unhide hE6).n hx z hz).mono ?_
                  rintro e w7 ⟨rfl, hb7⟩
                  have hE7 := hide ((unhide hE6).quiet hb7)
                  clear hb7
                  go_wp2_with fail
                  go_roundw
                  case rel => exact ⟨j + 1, G4, C', m, true, by omega, by simp, by first | (rw [hz.out]; done) | rw [hz.out, hz1], rfl, rfl, hm2b, fun h => (by cases h), (unhide hE7).quiet (belA _ _)⟩
                  case measure => simp [intOf]; omega
      · have kk1 : decide (a.k = 1) = false ∧ (a.k == 1) = false := by simp [k1]
        obtain ⟨kk1, kk2⟩ := kk1
        clear k1
        by_cases k2 : a.k = 2
        · have kk3 : decide (a.k = 2) = true ∧ (a.k == 2) = true := by simp [k2]
          obtain ⟨kk3, kk4⟩ := kk3
          clear k2
          obtain ⟨g, hg⟩ : ∃ g, Hid (givenB (C.T a.bl) a.ct a.o a.d = g) := ⟨_, rfl⟩
          obtain ⟨C', hC⟩ : ∃ C', Hid (nxTk C a.bl a.ct a.o = C') := ⟨_, rfl⟩
          obtain ⟨z, hz⟩ : ∃ z, Hid (C'.T x = z) := ⟨_, rfl⟩
          obtain ⟨hs1, hs2⟩ := tk_sum (unhide hI) a.bl a.ct a.o a.d x hg.out
          rw [hC.out, hz.out, hn0.out] at hs1
          rw [hC.out, hz.out] at hs2
          have hz0 := (((unhide hI).tk a.bl a.ct a.o).ok x).1
          have hz9 := ((unhide hI).tk a.bl a.ct a.o).le x
          rw [hC.out, hz.out] at hz0 hz9
          obtain ⟨p2, hp2⟩ : ∃ p2, Hid (ownI g.o = p2) := ⟨_, rfl⟩
          have hpb2 := ownI_bd g.o
          rw [hp2.out] at hs2 hpb2
          replace hs1 := hide hs1
          replace hs2 := hide hs2
          go_wp2_with fail
          go_at_call 16
          refine (cTake_c c G S W (j * 1048576) a.bl a.ct a.o a.d C _ ((unhide hE2).n.alloc _) a1 (by omega) g C' hg hC).mono ?_
          rintro e w4 ⟨rfl, G4, hn4, st4⟩
          have hE4 := (unhide hE2).step (belA wr (acO a)) hn4 st4
          have hac := (ac_new wr a).fr st4.fr (fun e => by have := hcl _ e; omega)
          obtain ⟨hal, y0, y1, y2, y3, y4, y5, y6, y7, y8, y9, y10, y11, y12⟩ := hac
          have hE5 : Hid (CEnv w (w4.alloc (.cells #[.int .i64 g.n, .bool g.o, .bool g.h, .int .i64 g.d] 31)) c G4 S W ((j + 1 : Nat) * 1048576) C') := (hE4.quiet (belA _ _)).mono (by omega)
          clear hn4 st4 hE2 hE4 hcl r0 r1 r2 r3 r4 r5 r6 r7 r8 r9 r10 r11 r12
          by_cases e : a.bl = x
          · have ee : decide (a.bl = x) = true ∧ (a.bl == x) = true := by simp [e]
            obtain ⟨ee1, ee2⟩ := ee
            have hz1 : z.n = n0 - g.n := by have := unhide hs1; rw [if_pos e] at this; exact this
            have hz2 : ownI z.o = ownI (C.T x).o - p2 := by have := unhide hs2; rw [if_pos e] at this; exact this
            clear e hs1 hs2
            have hwr1 : IntKind.i64.wrap (n0 - g.n) = z.n := by rw [hz1]; exact wrap_in (by omega) (by omega)
            have hwr2 : IntKind.i64.wrap (m - p2) = m - p2 := wrap_in (by omega) (by omega)
            replace hz1 := hide hz1
            go_wp2_with fail
            go_at_call 25
            refine (owner_c g.n g.o g.h g.d _ p2 hp2).mono ?_
            rintro e w6 ⟨rfl, hb6⟩
            have hE6 := hide ((unhide hE5).quiet hb6)
            clear hb6 hE5
            clear y0 y1 y2 y3 y4 y5 y6 y7 y8 y9 y10 y11 y12 hal
            have hm2b : -((j + 1 : Nat) : Int) ≤ m - p2 ∧ m - p2 ≤ ((j + 1 : Nat) : Int) := by omega
            have hu2 : Hid (u = false → m - p2 = ownI z.o) := fun e => by have := unhide hu e; omega
            clear hu
            cases u
            · have hmo : Hid (m - p2 = ownI z.o) := unhide hu2 rfl
              have hdo : decide (m - p2 = 1) = z.o ∧ (m - p2 == 1) = z.o := by rw [unhide hmo]; cases z.o <;> simp [ownI]
              obtain ⟨hdo1, hdo2⟩ := hdo
              go_wp2_with fail
              go_at_call 20
              refine (cGet_c c G4 S W _ x C' _ (unhide hE6).n hx z hz).mono ?_
              rintro e w7 ⟨rfl, hb7⟩
              have hE7 := hide ((unhide hE6).quiet hb7)
              clear hb7
              go_wp2_with fail
              go_roundw
              case rel => exact ⟨j + 1, G4, C', m - p2, false, by omega, by simp, by first | (rw [hz.out]; done) | rw [hz.out, hz1], rfl, rfl, hm2b, fun _ => (by rw [hz.out]; exact unhide hmo), (unhide hE7).quiet (belA _ _)⟩
              case measure => simp [intOf]; omega
            · go_wp2_with fail
              go_at_call 20
              refine (cGet_c c G4 S W _ x C' _ (unhide hE6).n hx z hz).mono ?_
              rintro e w7 ⟨rfl, hb7⟩
              have hE7 := hide ((unhide hE6).quiet hb7)
              clear hb7
              go_wp2_with fail
              go_roundw
              case rel => exact ⟨j + 1, G4, C', m - p2, true, by omega, by simp, by first | (rw [hz.out]; done) | rw [hz.out, hz1], rfl, rfl, hm2b, fun h => (by cases h), (unhide hE7).quiet (belA _ _)⟩
              case measure => simp [intOf]; omega
          · have ee : decide (a.bl = x) = false ∧ (a.bl == x) = false := by simp [e]
            obtain ⟨ee1, ee2⟩ := ee
            have hz1 : n0 = z.n := by have := unhide hs1; rw [if_neg e] at this; omega
            have hz2 : ownI z.o = ownI (C.T x).o := by have := unhide hs2; rw [if_neg e] at this; omega
            clear e hs1 hs2
            have hE6 := hE5
            have hm2b : -((j + 1 : Nat) : Int) ≤ m ∧ m ≤ ((j + 1 : Nat) : Int) := by omega
            have hu2 : Hid (u = false → m = ownI z.o) := fun e => by have := unhide hu e; omega
            clear hE5 hu
            cases u
            · have hmo : Hid (m = ownI z.o) := unhide hu2 rfl
              have hdo : decide (m = 1) = z.o ∧ (m == 1) = z.o := by rw [unhide hmo]; cases z.o <;> simp [ownI]
              obtain ⟨hdo1, hdo2⟩ := hdo
              go_wp2_with fail
              go_at_call 20
              refine (cGet_c c G4 S W _ x C' _ (unhide hE6).n hx z hz).mono ?_
              rintro e w7 ⟨rfl, hb7⟩
              have hE7 := hide ((unhide hE6).quiet hb7)
              clear hb7
              go_wp2_with fail
              go_roundw
              case rel => exact ⟨j + 1, G4, C', m, false, by omega, by simp, by first | (rw [hz.out]; done) | rw [hz.out, hz1], rfl, rfl, hm2b, fun _ => (by rw [hz.out]; exact unhide hmo), (unhide hE7).quiet (belA _ _)⟩
              case measure => simp [intOf]; omega
            · go_wp2_with fail
              go_at_call 20
              refine (cGet_c c G4 S W _ x C' _ (unhide hE6).n hx z hz).mono ?_
              rintro e w7 ⟨rfl, hb7⟩
              have hE7 := hide ((unhide hE6).quiet hb7)
              clear hb7
              go_wp2_with fail
              go_roundw
              case rel => exact ⟨j + 1, G4, C', m, true, by omega, by simp, by first | (rw [hz.out]; done) | rw [hz.out, hz1], rfl, rfl, hm2b, fun h => (by cases h), (unhide hE7).quiet (belA _ _)⟩
              case measure => simp [intOf]; omega
        · have kk3 : decide (a.k = 2) = false ∧ (a.k == 2) = false := by simp [k2]
          obtain ⟨kk3, kk4⟩ := kk3
          clear k2
          by_cases k3 : a.k = 3
          · have kk5 : decide (a.k = 3) = true ∧ (a.k == 3) = true := by simp [k3]
            obtain ⟨kk5, kk6⟩ := kk5
            clear k3
            obtain ⟨qq, hq⟩ : ∃ qq, Hid (okDo C a.ob a.ow a.ct = qq) := ⟨_, rfl⟩
            obtain ⟨rr, hr⟩ : ∃ rr, Hid (valDo C a.ob a.ow a.ov a.ct = rr) := ⟨_, rfl⟩
            obtain ⟨C', hC⟩ : ∃ C', Hid (nxDo C a.ob a.ow a.ov a.ct = C') := ⟨_, rfl⟩
            obtain ⟨z, hz⟩ : ∃ z, Hid (C'.T x = z) := ⟨_, rfl⟩
            obtain ⟨hs1, hs2, -⟩ := dx_same C a.ob a.ow a.ov a.ct x
            rw [hC.out, hz.out, hn0.out] at hs1
            rw [hC.out, hz.out] at hs2
            replace hs2 := hide hs2
            go_wp2_with fail
            go_at_call 18
            refine (cDo_c c G S W (j * 1048576) a.ob a.ow a.ov a.ct C _ ((unhide hE2).n.alloc _) a2 qq rr C' hq hr hC).mono ?_
            rintro e w4 ⟨rfl, G4, hn4, st4⟩
            have hE6 : Hid (CEnv w w4 c G4 S W ((j + 1 : Nat) * 1048576) C') := ((unhide hE2).step (belA wr (acO a)) hn4 st4).mono (by omega)
            clear hn4 st4 hE2 hcl r0 r1 r2 r3 r4 r5 r6 r7 r8 r9 r10 r11 r12
            have hz1 : n0 = z.n := hs1.symm
            clear hs1
            have hm2b : -((j + 1 : Nat) : Int) ≤ m ∧ m ≤ ((j + 1 : Nat) : Int) := by omega
            have hu2 : Hid (u = false → m = ownI z.o) := fun e => by rw [unhide hs2]; exact unhide hu e
            clear hu
            cases u
            · have hmo : Hid (m = ownI z.o) := unhide hu2 rfl
              have hdo : decide (m = 1) = z.o ∧ (m == 1) = z.o := by rw [unhide hmo]; cases z.o <;> simp [ownI]
              obtain ⟨hdo1, hdo2⟩ := hdo
              go_wp2_with fail
              go_at_call 20
              refine (cGet_c c G4 S W _ x C' _ (unhide hE6).n hx z hz).mono ?_
              rintro e w7 ⟨rfl, hb7⟩
              have hE7 := hide ((unhide hE6).quiet hb7)
              clear hb7
              go_wp2_with fail
              go_roundw
              case rel => exact ⟨j + 1, G4, C', m, false, by omega, by simp, by first | (rw [hz.out]; done) | rw [hz.out, hz1], rfl, rfl, hm2b, fun _ => (by rw [hz.out]; exact unhide hmo), (unhide hE7).quiet (belA _ _)⟩
              case measure => simp [intOf]; omega
            · go_wp2_with fail
              go_at_call 20
              refine (cGet_c c G4 S W _ x C' _ (unhide hE6).n hx z hz).mono ?_
              rintro e w7 ⟨rfl, hb7⟩
              have hE7 := hide ((unhide hE6).quiet hb7)
              clear hb7
              go_wp2_with fail
              go_roundw
              case rel => exact ⟨j + 1, G4, C', m, true, by omega, by simp, by first | (rw [hz.out]; done) | rw [hz.out, hz1], rfl, rfl, hm2b, fun h => (by cases h), (unhide hE7).quiet (belA _ _)⟩
              case measure => simp [intOf]; omega
          · have kk5 : decide (a.k = 3) = false ∧ (a.k == 3) = false := by simp [k3]
            obtain ⟨kk5, kk6⟩ := kk5
            clear k3
            obtain ⟨C', hC⟩ : ∃ C', C = C' := ⟨_, rfl⟩
            obtain ⟨z, hz⟩ : ∃ z, Hid (C'.T x = z) := ⟨_, rfl⟩
            obtain ⟨G4, hG4⟩ : ∃ G4, G = G4 := ⟨_, rfl⟩
            subst hC
            subst hG4
            have hz1 : n0 = z.n := by rw [← hn0.out, hz.out]
            have hE6 : Hid (CEnv w (wr.alloc (acO a)) c G S W ((j + 1 : Nat) * 1048576) C) := ((unhide hE2).quiet (belA _ _)).mono (by omega)
            have hm2b : -((j + 1 : Nat) : Int) ≤ m ∧ m ≤ ((j + 1 : Nat) : Int) := by omega
            have hu2 : Hid (u = false → m = ownI z.o) := fun e => by rw [← hz.out]; exact unhide hu e
            clear hu hE2 hcl
            cases u
            · have hmo : Hid (m = ownI z.o) := unhide hu2 rfl
              have hdo : decide (m = 1) = z.o ∧ (m == 1) = z.o := by rw [unhide hmo]; cases z.o <;> simp [ownI]
              obtain ⟨hdo1, hdo2⟩ := hdo
              go_wp2_with fail
              go_at_call 20
              refine (cGet_c c G S W _ x C _ (unhide hE6).n hx z hz).mono ?_
              rintro e w7 ⟨rfl, hb7⟩
              have hE7 := hide ((unhide hE6).quiet hb7)
              clear hb7
              go_wp2_with fail
              go_roundw
              case rel => exact ⟨j + 1, G, C, m, false, by omega, by simp, by first | (rw [hz.out]; done) | rw [hz.out, hz1], rfl, rfl, hm2b, fun _ => (by rw [hz.out]; exact unhide hmo), (unhide hE7).quiet (belA _ _)⟩
              case measure => simp [intOf]; omega
            · go_wp2_with fail
              go_at_call 20
              refine (cGet_c c G S W _ x C _ (unhide hE6).n hx z hz).mono ?_
              rintro e w7 ⟨rfl, hb7⟩
              have hE7 := hide ((unhide hE6).quiet hb7)
              clear hb7
              go_wp2_with fail
              go_roundw
              case rel => exact ⟨j + 1, G, C, m, true, by omega, by simp, by first | (rw [hz.out]; done) | rw [hz.out, hz1], rfl, rfl, hm2b, fun h => (by cases h), (unhide hE7).quiet (belA _ _)⟩
              case measure => simp [intOf]; omega
    · obtain rfl : j = A.length := by omega
      have hb := hide hE2.bel
      clear hE2
      go_wp2_with fail
      go_ret
      exact ⟨rfl, unhide hb⟩
end Go.Proofs.Ytooopcadefpncaa
