/- The walk of TablePlays: it returns true; no old memory turns (layer 11). -/
import Derived.Test.YtgaabbnfjapcjaaLaw11
import Derived.Test.YtgaabbnfjapcjaaSameA
import Derived.Test.YtgaabbnfjapcjaaRtD
import Derived.Test.YtgaabbnfjapcjaaRtE
namespace Go.Proofs.Ytgaabbnfjapcjaa
open Go.ChangeShapes Go.WideShapes Go.ChangeAt Go.RowKit
set_option linter.unusedSimpArgs false
set_option linter.unusedVariables false
set_option maxRecDepth 10000

attribute [local go_sem, local simp] over_const setCell_drewN alloc_drewN Over.cell Over.frozen lt_s1 lt_s2 lt_s3 le_s0 le_s1 le_s2 le_s3 eq_s0 eq_s1 eq_s2 qe_s0

/-- The program's table and the document's, apart. -/
structure PMid (w wr : World) (c t o m g1 g2 N : Nat) (T : Tb) (On Off : List At) : Prop where
  e : TEnv w wr c t o N T
  r : RtIs wr m g1 g2 On Off
  m0 : w.heap.size ≤ m
  mc : m ≠ c
  mt : m ≠ t
  mo : m ≠ o
  a1 : On ≠ [] → g1 ≠ t ∧ g1 ≠ o ∧ g1 ≠ c
  a2 : Off ≠ [] → g2 ≠ t ∧ g2 ≠ o ∧ g2 ≠ c
  lo : On.length ≤ N
  lf : Off.length ≤ N

section
variable {w wr wz w3 w4 : World} {c t o c' t' o' m g1 g2 g' N N' : Nat} {T T' : Tb} {On Off : List At}
theorem PMid.quiet (h : PMid w wr c t o m g1 g2 N T On Off) (hb : Below wr.heap.size wr wz) : PMid w wz c t o m g1 g2 N T On Off :=
  ⟨h.e.quiet hb, h.r.below hb, h.m0, h.mc, h.mt, h.mo, h.a1, h.a2, h.lo, h.lf⟩
theorem PMid.prog (h : PMid w wr c t o m g1 g2 N T On Off) (hz : Below wr.heap.size wr wz) (hn : TbIs w3 c t o N' T') (hf : FrS (FT t o) wz w3) (hN : N ≤ N') : PMid w w3 c t o m g1 g2 N' T' On Off :=
  ⟨h.e.step hz hn hf, (h.r.below hz).fr hf (fun e => by have := h.mt; have := h.mo; rcases e with e | e <;> omega) (fun hn e => by have := h.a1 hn; rcases e with e | e <;> omega) (fun hn e => by have := h.a2 hn; rcases e with e | e <;> omega), h.m0, h.mc, h.mt, h.mo, h.a1, h.a2, Nat.le_trans h.lo hN, Nat.le_trans h.lf hN⟩
theorem PMid.on (h : PMid w w3 c t o m g1 g2 N T On Off) {a : At} (hr : RtIs w4 m g' g2 (On ++ [a]) Off) (hg : w3.heap.size ≤ g') (hf : FrS (· = m) w3 w4) (hl : On.length + 1 ≤ N) : PMid w w4 c t o m g' g2 N T (On ++ [a]) Off :=
  ⟨⟨h.e.n.fr hf (fun e => h.mc e.symm) (fun e => h.mt e.symm) (fun e => h.mo e.symm), h.e.c0, h.e.t0, h.e.o0, h.e.bel.trans (hf.below (fun i hi => by rw [hi]; exact h.m0) h.e.bel.size)⟩, hr, h.m0, h.mc, h.mt, h.mo, fun _ => by have := h.e.n.lt; have := h.e.n.tl; have := h.e.n.ol; omega, h.a2, by simpa using hl, h.lf⟩
theorem PMid.off (h : PMid w w3 c t o m g1 g2 N T On Off) {a : At} (hr : RtIs w4 m g1 g' On (Off ++ [a])) (hg : w3.heap.size ≤ g') (hf : FrS (· = m) w3 w4) (hl : Off.length + 1 ≤ N) : PMid w w4 c t o m g1 g' N T On (Off ++ [a]) :=
  ⟨⟨h.e.n.fr hf (fun e => h.mc e.symm) (fun e => h.mt e.symm) (fun e => h.mo e.symm), h.e.c0, h.e.t0, h.e.o0, h.e.bel.trans (hf.below (fun i hi => by rw [hi]; exact h.m0) h.e.bel.size)⟩, hr, h.m0, h.mc, h.mt, h.mo, h.a1, fun _ => by have := h.e.n.lt; have := h.e.n.tl; have := h.e.n.ol; omega, h.lo, by simpa using hl⟩
theorem PMid.copy (h : PMid w wr c t o m g1 g2 N T On Off) (hn : TbIs w3 c' t' o' N T) (hc : wr.heap.size ≤ c') (ht : wr.heap.size ≤ t') (ho : wr.heap.size ≤ o') (hb : Below wr.heap.size wr w3) : PMid w w3 c' t' o' m g1 g2 N T On Off :=
  ⟨TEnv.first h.e.bel hn hc ht ho hb, h.r.below hb, h.m0, by have := h.r.lt; omega, by have := h.r.lt; omega, by have := h.r.lt; omega, fun hn => by have := h.r.l1 hn; omega, fun hn => by have := h.r.l2 hn; omega, h.lo, h.lf⟩
/-- Another table, that is written, stands aside. -/
theorem PMid.aside (h : PMid w wr c' t' o' m g1 g2 N T On Off) (hb : Below w.heap.size w w3) (hf : FrS (FT t o) wr w3) (h1 : ¬ FT t o c') (h2 : ¬ FT t o t') (h3 : ¬ FT t o o') (h4 : ¬ FT t o m) (h5 : On ≠ [] → ¬ FT t o g1) (h6 : Off ≠ [] → ¬ FT t o g2) : PMid w w3 c' t' o' m g1 g2 N T On Off :=
  ⟨⟨h.e.n.fr hf h1 h2 h3, h.e.c0, h.e.t0, h.e.o0, hb⟩, h.r.fr hf h4 h5 h6, h.m0, h.mc, h.mt, h.mo, h.a1, h.a2, h.lo, h.lf⟩
end

abbrev rt0 : Obj := .cells #[.slice none 0 0, .slice none 0 0] 29
theorem rt_new (w : World) : RtIs (w.alloc rt0) w.heap.size w.heap.size w.heap.size [] [] :=
  ⟨by simp, ⟨none, 0, by simp [go_sem], view_nilA _ _⟩, ⟨none, 0, by simp [go_sem], view_nilA _ _⟩, by simp [go_sem], by simp [go_sem], fun h => absurd rfl h, fun h => absurd rfl h⟩

/-- Between two rounds. -/
def PRel (w wr : World) (m j : Nat) (tv : Value) : Prop := ∃ c t o g1 g2 N T On Off, tv = ptr c ∧ N ≤ j ∧ PMid w wr c t o m g1 g2 N T On Off ∧ Link N On Off T



set_option maxHeartbeats 4000000 in
theorem TablePlays_walk (v : Value) (A : List Ac) (ask : Int) (hk : I64 ask) (w : World) (h : ActsAt w.heap.size w v A) : Calls Try.prog 3 #[v, .int .i64 ask] w fun e w' => e = .returned (.bool true) ∧ Below w.heap.size w w' := by
  have hA := hide h
  obtain ⟨ao, cap, rfl, hlc, hmx, _⟩ := h
  have hmx' : A.length ≤ 9223372036854775807 := by unfold maxLen at hmx; omega
  clear hmx
  go_enter Try.func3, Try.ntmps3
  go_wp2_with fail
  go_at_call 8
  refine (awake11_any _).mono ?_
  rintro e w1 ⟨rfl, hB1⟩
  replace hB1 := hide hB1
  by_cases ca : 60 < (A.length : Int)
  · go_wp2_with fail
    go_at_call 8
    refine (awake11_any _).mono ?_
    rintro e w9 ⟨rfl, hb9⟩
    replace hb9 := hide hb9
    go_wp2_with fail
    go_ret
    exact ⟨rfl, (unhide hB1).trans ((unhide hb9).mono (unhide hB1).size)⟩
  · go_wp2_with fail
    go_at_call 9
    refine (tNew_c w1).mono ?_
    rintro e w2 ⟨c, rfl, t, o, n2, hc2, ht2, ho2, hb2⟩
    have E2 := TEnv.first (unhide hB1) n2 hc2 ht2 ho2 hb2
    have lc := n2.lt
    have lt := n2.tl
    have lo := n2.ol
    have P2 : Hid (PMid w (w2.alloc rt0) c t o w2.heap.size w2.heap.size w2.heap.size 0 tb0 [] []) := hide ⟨E2.quiet (belA _ _), rt_new w2, E2.bel.size, by omega, by omega, by omega, fun h => absurd rfl h, fun h => absurd rfl h, Nat.le_refl _, Nat.le_refl _⟩
    clear n2 hb2 hB1 hc2 ht2 ho2 E2
    obtain ⟨m, hm⟩ : ∃ m, Hid (w2.heap.size = m) := ⟨_, rfl⟩
    go_wp2_with fail
    rw [hm.out] at P2 ⊢
    clear lc lt lo
    go_loopw [5, 29] (fun tv i wr => ∃ j : Nat, j ≤ A.length ∧ i = .int .i64 j ∧ PRel w wr m j tv) (fun _ i _ => A.length - (intOf i).toNat)
    case atStart => exact ⟨0, Nat.zero_le _, rfl, _, _, _, _, _, _, _, _, _, rfl, Nat.le_refl _, P2.out, link_new⟩
    case round =>
      obtain ⟨j, hj, rfl, c, t, o, g1, g2, N, T, On, Off, rfl, hNj, P1, LK⟩ := hrel
      clear P2
      replace LK := hide LK
      by_cases hlt : j < A.length
      · have hlt' : (j : Int) < A.length := by omega
        obtain ⟨b, o1, rfl, hbB, hbl, hi, r0, r1, r2, r3⟩ := acts_row ((unhide hA).below P1.e.bel) hlt
        generalize A[j] = x at r0 r1 r2 r3 hi
        obtain ⟨k, a⟩ := x
        replace hi := hide hi
        have P3 := hide (P1.quiet (belA wr (actsO ⟨k, a⟩)))
        have n3 := hide (acts_new wr ⟨k, a⟩)
        have ht1 := P1.e.n.tl
        have ho1 := P1.e.n.ol
        have hm1 := P1.r.lt
        have hlf := P1.lf
        have hlo := P1.lo
        clear P1
        by_cases k1 : k = 1
        · subst k1
          obtain ⟨ok, hok⟩ : ∃ ok, Hid (okA T a = ok) := ⟨_, rfl⟩
          have hokd : Hid (okD On Off a = ok) := hide (by rw [LK.out.ok]; exact hok.out)
          cases ok
          · have LK5 := hide (LK.out.skip a hok.out)
            go_wp2_with fail
            refine wp_region_noPanic ?_
            refine wp_region_held_drew (S := (fun w' => w'.cell? ⟨wr.heap.size, 1, none⟩ = some (.int .i64 a.b) ∧ w'.cell? ⟨wr.heap.size, 2, none⟩ = some (.int .i64 a.n) ∧ w'.cell? ⟨wr.heap.size, 3, none⟩ = some (.int .i64 a.s))) (by kernel_rfl) ?_ (fun hHeld => ?_)
            · exact ⟨by simp [go_sem], by simp [go_sem], by simp [go_sem]⟩
            refine hand_take (i := 0) (d := some 37) (v := ?_) rfl (by kernel_rfl) (by kernel_rfl) (by kernel_rfl) (fun _ _ _ h => h) ?_ hHeld ?_
            rotate_left
            · intro o ho
              simp at ho
              subst ho
              intro wz hSw
              try dsimp only at hSw
              go_simp
              try with_reducible rfl
            try simp only [Act.put, List.setIfInBounds_toArray, List.set_cons_zero, List.set_cons_succ]
            refine hand_take (i := 1) (d := some 38) (v := ?_) rfl (by kernel_rfl) (by kernel_rfl) (by kernel_rfl) (fun _ _ _ h => h) ?_ hHeld ?_
            rotate_left
            · intro o ho
              simp at ho
              subst ho
              intro wz hSw
              try dsimp only at hSw
              go_simp
              try with_reducible rfl
            try simp only [Act.put, List.setIfInBounds_toArray, List.set_cons_zero, List.set_cons_succ]
            refine hand_take (i := 2) (d := some 39) (v := ?_) rfl (by kernel_rfl) (by kernel_rfl) (by kernel_rfl) (fun _ _ _ h => h) ?_ hHeld ?_
            rotate_left
            · intro o ho
              simp at ho
              subst ho
              intro wz hSw
              try dsimp only at hSw
              go_simp
              try with_reducible rfl
            try simp only [Act.put, List.setIfInBounds_toArray, List.set_cons_zero, List.set_cons_succ]
            refine hand_take (i := 4) (d := some 41) (v := ?_) rfl (by kernel_rfl) (by kernel_rfl) (by kernel_rfl) (fun _ _ _ h => h) ?_ hHeld ?_
            rotate_left
            · intro o ho
              simp at ho
              subst ho
              intro wz hSw
              try dsimp only at hSw
              go_simp
              try with_reducible rfl
            try simp only [Act.put, List.setIfInBounds_toArray, List.set_cons_zero, List.set_cons_succ]
            refine hand_take (i := 5) (d := some 42) (v := ?_) rfl (by kernel_rfl) (by kernel_rfl) (by kernel_rfl) (fun _ _ _ h => h) ?_ hHeld ?_
            rotate_left
            · intro o ho
              simp at ho
              subst ho
              intro wz hSw
              try dsimp only at hSw
              go_simp
              try with_reducible rfl
            try simp only [Act.put, List.setIfInBounds_toArray, List.set_cons_zero, List.set_cons_succ]
            refine hand_take (i := 6) (d := some 43) (v := ?_) rfl (by kernel_rfl) (by kernel_rfl) (by kernel_rfl) (fun _ _ _ h => h) ?_ hHeld ?_
            rotate_left
            · intro o ho
              simp at ho
              subst ho
              intro wz hSw
              try dsimp only at hSw
              go_simp
              try with_reducible rfl
            try simp only [Act.put, List.setIfInBounds_toArray, List.set_cons_zero, List.set_cons_succ]
            refine hand_call (i := 3) rfl (by kernel_rfl) ?_
            intro o ho
            simp at ho
            subst ho
            intro K hK
            go_simp
            go_at_call 10
            refine (tActivate_c c t o _ T a _ (P3.out.quiet (Below.refl _ _).drew).e.n hi.out (by omega) false hok).mono ?_
            rintro e w4 ⟨rfl, h4, f4⟩
            have P4 := hide (P3.out.prog (Below.refl _ _).drew h4 f4 (Nat.le_succ N))
            have k4 : w4.heap[wr.heap.size]? = (wr.alloc (actsO ⟨1, a⟩)).heap[wr.heap.size]? := f4.block wr.heap.size (by simp) (by omega)
            obtain ⟨y9, y0, y1, y2, y3⟩ := n3.out.carry k4
            refine hK.out _ _ ?_ (fun hHeld => ?_)
            · exact ⟨y1, y2, y3⟩
            clear hK K
            try simp only [Act.put, List.setIfInBounds_toArray, List.set_cons_zero, List.set_cons_succ]
            clear h4 f4 k4 P3 n3
            refine hand_call (i := 7) rfl (by kernel_rfl) ?_
            intro o ho
            simp at ho
            subst ho
            intro K hK
            go_simp
            go_at_call 11
            refine (rActivate_c m g1 g2 On Off a w4 P4.out.r (by have := P4.out.lo; omega) false hokd).mono ?_
            rintro e w5 ⟨rfl, hyes, hno⟩
            have hb5 := hno rfl; have P9 := hide (P4.out.quiet hb5)
            have k5 : w5.heap[wr.heap.size]? = w4.heap[wr.heap.size]? := hb5.block _ y9
            refine hK.out _ _ ?_ (fun hHeld => ?_)
            · exact ⟨keep_cell k5 y1, keep_cell k5 y2, keep_cell k5 y3⟩
            clear hK K
            try simp only [Act.put, List.setIfInBounds_toArray, List.set_cons_zero, List.set_cons_succ]
            clear k5 y0 y1 y2 y3 y9 P4 hyes hno
            refine hand_take (i := 8) (d := some 45) (v := .bool false) rfl (by kernel_rfl) (by kernel_rfl) (by kernel_rfl) (fun _ _ _ h => h) ?_ hHeld ?_
            · intro o ho
              simp at ho
              subst ho
              intro wz hSw
              try dsimp only at hSw
              go_simp; try simp
            try simp only [Act.put, List.setIfInBounds_toArray, List.set_cons_zero, List.set_cons_succ]
            refine wpAnyH_done (by kernel_rfl) (NoPanic.normal ?_) _
            clear hHeld
            clear LK hb5
            have LK := LK5
            clear LK5
            obtain ⟨g, hg⟩ : ∃ g, Hid (getA (nxA T a).A ask = g) := ⟨_, rfl⟩
            obtain ⟨is, his⟩ : ∃ is, Hid (hasA (nxA T a).A ask = is) := ⟨_, rfl⟩
            have hgd : Hid (dA On Off ask = g) := hide (by rw [LK.out.dA]; exact hg.out)
            have hisd : Hid (decide (0 < g.s) = is) := hide (by rw [← his.out, seq_pos LK.out.inv, hg.out])
            have hN0 : (N + 1) ≤ 60 := by omega
            go_wp2_with fail
            go_at_call 15
            refine (tActive_c c t o _ (nxA T a) ask _ P9.out.e.n hk g hg is his).mono ?_
            rintro e w21 ⟨rfl, hb21⟩
            have P21 := hide ((P9.out.quiet hb21).quiet (belA w21 (atsO g)))
            have n21 := hide (ats_new w21 g)
            clear hb21 P9
            go_wp2_with fail
            go_at_call 16
            refine (rActive_c m _ _ On Off ask _ P21.out.r g hgd is hisd).mono ?_
            rintro e w23 ⟨rfl, hb23⟩
            have P23 := hide ((P21.out.quiet hb23).quiet (belA w23 (atsO g)))
            obtain ⟨y9, y0, y1, y2⟩ := n21.out.below hb23
            clear hb23 P21 n21
            go_wp2_with fail
            go_at_call 18
            refine (tList_c c t o _ (nxA T a) _ P23.out.e.n (by omega)).mono ?_
            rintro e w24 ⟨v24, rfl, g24, l24, -, hb24⟩
            have P24 := hide (P23.out.quiet hb24)
            replace l24 := hide l24
            clear hb24 P23
            go_wp2_with fail
            go_at_call 19
            refine (rList_c m _ _ On Off _ P24.out.r (by have := P24.out.lo; omega)).mono ?_
            rintro e w25 ⟨v25, rfl, g25, l25, -, hb25⟩
            rw [LK.out.list] at l25
            have P25 := hide (P24.out.quiet hb25)
            have l26 := hide (l24.out.below hb25)
            replace l25 := hide l25
            clear hb25 P24 l24
            go_wp2_with fail
            go_at_call 17
            refine (sameA_c _ _ _ _ (nxA T a).A _ l26.out.view l25.out.view).mono ?_
            rintro e w27 ⟨rfl, nq, rfl⟩
            have P27 := hide (P25.out.quiet (belD w25 nq))
            clear P25 l26 l25
            go_wp2_with fail
            go_roundw
            case rel => exact ⟨j + 1, by omega, by simp, _, _, _, _, _, _, _, _, _, rfl, (by omega : (N + 1) ≤ j + 1), P27.out, LK.out⟩
            case measure => simp [intOf]; omega
          · have LK5 := hide (LK.out.act a hi.out hok.out)
            go_wp2_with fail
            refine wp_region_noPanic ?_
            refine wp_region_held_drew (S := (fun w' => w'.cell? ⟨wr.heap.size, 1, none⟩ = some (.int .i64 a.b) ∧ w'.cell? ⟨wr.heap.size, 2, none⟩ = some (.int .i64 a.n) ∧ w'.cell? ⟨wr.heap.size, 3, none⟩ = some (.int .i64 a.s))) (by kernel_rfl) ?_ (fun hHeld => ?_)
            · exact ⟨by simp [go_sem], by simp [go_sem], by simp [go_sem]⟩
            refine hand_take (i := 0) (d := some 37) (v := ?_) rfl (by kernel_rfl) (by kernel_rfl) (by kernel_rfl) (fun _ _ _ h => h) ?_ hHeld ?_
            rotate_left
            · intro o ho
              simp at ho
              subst ho
              intro wz hSw
              try dsimp only at hSw
              go_simp
              try with_reducible rfl
            try simp only [Act.put, List.setIfInBounds_toArray, List.set_cons_zero, List.set_cons_succ]
            refine hand_take (i := 1) (d := some 38) (v := ?_) rfl (by kernel_rfl) (by kernel_rfl) (by kernel_rfl) (fun _ _ _ h => h) ?_ hHeld ?_
            rotate_left
            · intro o ho
              simp at ho
              subst ho
              intro wz hSw
              try dsimp only at hSw
              go_simp
              try with_reducible rfl
            try simp only [Act.put, List.setIfInBounds_toArray, List.set_cons_zero, List.set_cons_succ]
            refine hand_take (i := 2) (d := some 39) (v := ?_) rfl (by kernel_rfl) (by kernel_rfl) (by kernel_rfl) (fun _ _ _ h => h) ?_ hHeld ?_
            rotate_left
            · intro o ho
              simp at ho
              subst ho
              intro wz hSw
              try dsimp only at hSw
              go_simp
              try with_reducible rfl
            try simp only [Act.put, List.setIfInBounds_toArray, List.set_cons_zero, List.set_cons_succ]
            refine hand_take (i := 4) (d := some 41) (v := ?_) rfl (by kernel_rfl) (by kernel_rfl) (by kernel_rfl) (fun _ _ _ h => h) ?_ hHeld ?_
            rotate_left
            · intro o ho
              simp at ho
              subst ho
              intro wz hSw
              try dsimp only at hSw
              go_simp
              try with_reducible rfl
            try simp only [Act.put, List.setIfInBounds_toArray, List.set_cons_zero, List.set_cons_succ]
            refine hand_take (i := 5) (d := some 42) (v := ?_) rfl (by kernel_rfl) (by kernel_rfl) (by kernel_rfl) (fun _ _ _ h => h) ?_ hHeld ?_
            rotate_left
            · intro o ho
              simp at ho
              subst ho
              intro wz hSw
              try dsimp only at hSw
              go_simp
              try with_reducible rfl
            try simp only [Act.put, List.setIfInBounds_toArray, List.set_cons_zero, List.set_cons_succ]
            refine hand_take (i := 6) (d := some 43) (v := ?_) rfl (by kernel_rfl) (by kernel_rfl) (by kernel_rfl) (fun _ _ _ h => h) ?_ hHeld ?_
            rotate_left
            · intro o ho
              simp at ho
              subst ho
              intro wz hSw
              try dsimp only at hSw
              go_simp
              try with_reducible rfl
            try simp only [Act.put, List.setIfInBounds_toArray, List.set_cons_zero, List.set_cons_succ]
            refine hand_call (i := 3) rfl (by kernel_rfl) ?_
            intro o ho
            simp at ho
            subst ho
            intro K hK
            go_simp
            go_at_call 10
            refine (tActivate_c c t o _ T a _ (P3.out.quiet (Below.refl _ _).drew).e.n hi.out (by omega) true hok).mono ?_
            rintro e w4 ⟨rfl, h4, f4⟩
            have P4 := hide (P3.out.prog (Below.refl _ _).drew h4 f4 (Nat.le_succ N))
            have k4 : w4.heap[wr.heap.size]? = (wr.alloc (actsO ⟨1, a⟩)).heap[wr.heap.size]? := f4.block wr.heap.size (by simp) (by omega)
            obtain ⟨y9, y0, y1, y2, y3⟩ := n3.out.carry k4
            refine hK.out _ _ ?_ (fun hHeld => ?_)
            · exact ⟨y1, y2, y3⟩
            clear hK K
            try simp only [Act.put, List.setIfInBounds_toArray, List.set_cons_zero, List.set_cons_succ]
            clear h4 f4 k4 P3 n3
            refine hand_call (i := 7) rfl (by kernel_rfl) ?_
            intro o ho
            simp at ho
            subst ho
            intro K hK
            go_simp
            go_at_call 11
            refine (rActivate_c m g1 g2 On Off a w4 P4.out.r (by have := P4.out.lo; omega) true hokd).mono ?_
            rintro e w5 ⟨rfl, hyes, hno⟩
            obtain ⟨g', hr5, hg5, f5⟩ := hyes rfl; have P9 := hide (P4.out.on hr5 hg5 f5 (by omega))
            have k5 : w5.heap[wr.heap.size]? = w4.heap[wr.heap.size]? := f5.block _ y9 (by omega)
            refine hK.out _ _ ?_ (fun hHeld => ?_)
            · exact ⟨keep_cell k5 y1, keep_cell k5 y2, keep_cell k5 y3⟩
            clear hK K
            try simp only [Act.put, List.setIfInBounds_toArray, List.set_cons_zero, List.set_cons_succ]
            clear k5 y0 y1 y2 y3 y9 P4 hyes hno
            refine hand_take (i := 8) (d := some 45) (v := .bool false) rfl (by kernel_rfl) (by kernel_rfl) (by kernel_rfl) (fun _ _ _ h => h) ?_ hHeld ?_
            · intro o ho
              simp at ho
              subst ho
              intro wz hSw
              try dsimp only at hSw
              go_simp; try simp
            try simp only [Act.put, List.setIfInBounds_toArray, List.set_cons_zero, List.set_cons_succ]
            refine wpAnyH_done (by kernel_rfl) (NoPanic.normal ?_) _
            clear hHeld
            clear LK hr5 f5
            have LK := LK5
            clear LK5
            obtain ⟨g, hg⟩ : ∃ g, Hid (getA (nxA T a).A ask = g) := ⟨_, rfl⟩
            obtain ⟨is, his⟩ : ∃ is, Hid (hasA (nxA T a).A ask = is) := ⟨_, rfl⟩
            have hgd : Hid (dA (On ++ [a]) Off ask = g) := hide (by rw [LK.out.dA]; exact hg.out)
            have hisd : Hid (decide (0 < g.s) = is) := hide (by rw [← his.out, seq_pos LK.out.inv, hg.out])
            have hN0 : (N + 1) ≤ 60 := by omega
            go_wp2_with fail
            go_at_call 15
            refine (tActive_c c t o _ (nxA T a) ask _ P9.out.e.n hk g hg is his).mono ?_
            rintro e w21 ⟨rfl, hb21⟩
            have P21 := hide ((P9.out.quiet hb21).quiet (belA w21 (atsO g)))
            have n21 := hide (ats_new w21 g)
            clear hb21 P9
            go_wp2_with fail
            go_at_call 16
            refine (rActive_c m _ _ (On ++ [a]) Off ask _ P21.out.r g hgd is hisd).mono ?_
            rintro e w23 ⟨rfl, hb23⟩
            have P23 := hide ((P21.out.quiet hb23).quiet (belA w23 (atsO g)))
            obtain ⟨y9, y0, y1, y2⟩ := n21.out.below hb23
            clear hb23 P21 n21
            go_wp2_with fail
            go_at_call 18
            refine (tList_c c t o _ (nxA T a) _ P23.out.e.n (by omega)).mono ?_
            rintro e w24 ⟨v24, rfl, g24, l24, -, hb24⟩
            have P24 := hide (P23.out.quiet hb24)
            replace l24 := hide l24
            clear hb24 P23
            go_wp2_with fail
            go_at_call 19
            refine (rList_c m _ _ (On ++ [a]) Off _ P24.out.r (by have := P24.out.lo; omega)).mono ?_
            rintro e w25 ⟨v25, rfl, g25, l25, -, hb25⟩
            rw [LK.out.list] at l25
            have P25 := hide (P24.out.quiet hb25)
            have l26 := hide (l24.out.below hb25)
            replace l25 := hide l25
            clear hb25 P24 l24
            go_wp2_with fail
            go_at_call 17
            refine (sameA_c _ _ _ _ (nxA T a).A _ l26.out.view l25.out.view).mono ?_
            rintro e w27 ⟨rfl, nq, rfl⟩
            have P27 := hide (P25.out.quiet (belD w25 nq))
            clear P25 l26 l25
            go_wp2_with fail
            go_roundw
            case rel => exact ⟨j + 1, by omega, by simp, _, _, _, _, _, _, _, _, _, rfl, (by omega : (N + 1) ≤ j + 1), P27.out, LK.out⟩
            case measure => simp [intOf]; omega
        by_cases k2 : k = 2
        · subst k2
          have LK5 := hide (LK.out.dea a.b a.s)
          clear k1
          go_wp2_with fail
          go_at_call 12
          refine (tDeactivate_c c t o _ T a.b a.s _ P3.out.e.n hi.out (by omega)).mono ?_
          rintro e w4 ⟨rfl, h4, f4⟩
          have P4 := hide (P3.out.prog (Below.refl _ _) h4 f4 (Nat.le_succ N))
          have k4 : w4.heap[wr.heap.size]? = (wr.alloc (actsO ⟨2, a⟩)).heap[wr.heap.size]? := f4.block wr.heap.size (by simp) (by omega)
          obtain ⟨y9, y0, y1, y2, y3⟩ := n3.out.carry k4
          clear h4 f4 k4 P3 n3
          go_wp2_with fail
          go_at_call 13
          refine (rDeactivate_c m g1 g2 On Off a.b a.s w4 P4.out.r (by have := P4.out.lf; omega)).mono ?_
          rintro e w5 ⟨rfl, g', hr5, hg5, f5⟩
          have P9 := hide (P4.out.off hr5 (hg5 (by simp)) f5 (by have := hlf; omega))
          clear LK hr5 f5 hg5 P4 y0 y1 y2 y3 y9
          have LK := LK5
          clear LK5
          obtain ⟨g, hg⟩ : ∃ g, Hid (getA (nxD T a.b a.s).A ask = g) := ⟨_, rfl⟩
          obtain ⟨is, his⟩ : ∃ is, Hid (hasA (nxD T a.b a.s).A ask = is) := ⟨_, rfl⟩
          have hgd : Hid (dA On (Off ++ [⟨a.b, 0, a.s⟩]) ask = g) := hide (by rw [LK.out.dA]; exact hg.out)
          have hisd : Hid (decide (0 < g.s) = is) := hide (by rw [← his.out, seq_pos LK.out.inv, hg.out])
          have hN0 : (N + 1) ≤ 60 := by omega
          go_wp2_with fail
          go_at_call 15
          refine (tActive_c c t o _ (nxD T a.b a.s) ask _ P9.out.e.n hk g hg is his).mono ?_
          rintro e w21 ⟨rfl, hb21⟩
          have P21 := hide ((P9.out.quiet hb21).quiet (belA w21 (atsO g)))
          have n21 := hide (ats_new w21 g)
          clear hb21 P9
          go_wp2_with fail
          go_at_call 16
          refine (rActive_c m _ _ On (Off ++ [⟨a.b, 0, a.s⟩]) ask _ P21.out.r g hgd is hisd).mono ?_
          rintro e w23 ⟨rfl, hb23⟩
          have P23 := hide ((P21.out.quiet hb23).quiet (belA w23 (atsO g)))
          obtain ⟨y9, y0, y1, y2⟩ := n21.out.below hb23
          clear hb23 P21 n21
          go_wp2_with fail
          go_at_call 18
          refine (tList_c c t o _ (nxD T a.b a.s) _ P23.out.e.n (by omega)).mono ?_
          rintro e w24 ⟨v24, rfl, g24, l24, -, hb24⟩
          have P24 := hide (P23.out.quiet hb24)
          replace l24 := hide l24
          clear hb24 P23
          go_wp2_with fail
          go_at_call 19
          refine (rList_c m _ _ On (Off ++ [⟨a.b, 0, a.s⟩]) _ P24.out.r (by have := P24.out.lo; omega)).mono ?_
          rintro e w25 ⟨v25, rfl, g25, l25, -, hb25⟩
          rw [LK.out.list] at l25
          have P25 := hide (P24.out.quiet hb25)
          have l26 := hide (l24.out.below hb25)
          replace l25 := hide l25
          clear hb25 P24 l24
          go_wp2_with fail
          go_at_call 17
          refine (sameA_c _ _ _ _ (nxD T a.b a.s).A _ l26.out.view l25.out.view).mono ?_
          rintro e w27 ⟨rfl, nq, rfl⟩
          have P27 := hide (P25.out.quiet (belD w25 nq))
          clear P25 l26 l25
          go_wp2_with fail
          go_roundw
          case rel => exact ⟨j + 1, by omega, by simp, _, _, _, _, _, _, _, _, _, rfl, (by omega : (N + 1) ≤ j + 1), P27.out, LK.out⟩
          case measure => simp [intOf]; omega
        by_cases k3 : k = 3
        · subst k3
          clear k1 k2
          go_wp2_with fail
          go_at_call 14
          refine (tCopy_c c t o _ T _ P3.out.e.n).mono ?_
          rintro e w4 ⟨c', rfl, t', o', n4, hc4, ht4, ho4, hb4⟩
          have Q4 := hide (P3.out.copy n4 hc4 ht4 ho4 hb4)
          have P4 := hide (P3.out.quiet hb4)
          rw [World.size_alloc] at hc4 ht4 ho4
          clear n4 hb4 P3 n3
          go_wp2_with fail
          go_at_call 12
          refine (tDeactivate_c c t o _ T ask 1099511627776 _ P4.out.e.n hk (by omega)).mono ?_
          rintro e w5 ⟨rfl, h5, f5⟩
          have P5 := hide (P4.out.prog (Below.refl _ _) h5 f5 (Nat.le_succ N))
          have Q5 := hide (Q4.out.aside P5.out.e.bel f5 (by omega) (by omega) (by omega) (by have := P4.out.mt; have := P4.out.mo; omega) (fun hn => by have := P4.out.a1 hn; omega) (fun hn => by have := P4.out.a2 hn; omega))
          clear h5 f5 P4 Q4
          obtain ⟨ok, hok⟩ : ∃ ok, Hid (okA (nxD T ask 1099511627776) ⟨ask, 0, 2199023255552⟩ = ok) := ⟨_, rfl⟩
          go_wp2_with fail
          go_at_call 10
          refine (tActivate_c c t o _ _ ⟨ask, 0, 2199023255552⟩ _ P5.out.e.n hk (by omega) ok hok).mono ?_
          rintro e w6 ⟨rfl, h6, f6⟩
          have P6 := hide (P5.out.prog (Below.refl _ _) h6 f6 (Nat.le_succ _))
          have P9 := hide (Q5.out.aside P6.out.e.bel f6 (by omega) (by omega) (by omega) (by have := P5.out.mt; have := P5.out.mo; omega) (fun hn => by have := P5.out.a1 hn; omega) (fun hn => by have := P5.out.a2 hn; omega))
          clear h6 f6 P5 Q5 P6
          obtain ⟨g, hg⟩ : ∃ g, Hid (getA T.A ask = g) := ⟨_, rfl⟩
          obtain ⟨is, his⟩ : ∃ is, Hid (hasA T.A ask = is) := ⟨_, rfl⟩
          have hgd : Hid (dA On Off ask = g) := hide (by rw [LK.out.dA]; exact hg.out)
          have hisd : Hid (decide (0 < g.s) = is) := hide (by rw [← his.out, seq_pos LK.out.inv, hg.out])
          have hN0 : N ≤ 60 := by omega
          go_wp2_with fail
          go_at_call 15
          refine (tActive_c c' t' o' _ T ask _ P9.out.e.n hk g hg is his).mono ?_
          rintro e w21 ⟨rfl, hb21⟩
          have P21 := hide ((P9.out.quiet hb21).quiet (belA w21 (atsO g)))
          have n21 := hide (ats_new w21 g)
          clear hb21 P9
          go_wp2_with fail
          go_at_call 16
          refine (rActive_c m _ _ On Off ask _ P21.out.r g hgd is hisd).mono ?_
          rintro e w23 ⟨rfl, hb23⟩
          have P23 := hide ((P21.out.quiet hb23).quiet (belA w23 (atsO g)))
          obtain ⟨y9, y0, y1, y2⟩ := n21.out.below hb23
          clear hb23 P21 n21
          go_wp2_with fail
          go_at_call 18
          refine (tList_c c' t' o' _ T _ P23.out.e.n (by omega)).mono ?_
          rintro e w24 ⟨v24, rfl, g24, l24, -, hb24⟩
          have P24 := hide (P23.out.quiet hb24)
          replace l24 := hide l24
          clear hb24 P23
          go_wp2_with fail
          go_at_call 19
          refine (rList_c m _ _ On Off _ P24.out.r (by have := P24.out.lo; omega)).mono ?_
          rintro e w25 ⟨v25, rfl, g25, l25, -, hb25⟩
          rw [LK.out.list] at l25
          have P25 := hide (P24.out.quiet hb25)
          have l26 := hide (l24.out.below hb25)
          replace l25 := hide l25
          clear hb25 P24 l24
          go_wp2_with fail
          go_at_call 17
          refine (sameA_c _ _ _ _ T.A _ l26.out.view l25.out.view).mono ?_
          rintro e w27 ⟨rfl, nq, rfl⟩
          have P27 := hide (P25.out.quiet (belD w25 nq))
          clear P25 l26 l25
          go_wp2_with fail
          go_roundw
          case rel => exact ⟨j + 1, by omega, by simp, _, _, _, _, _, _, _, _, _, rfl, (by omega : N ≤ j + 1), P27.out, LK.out⟩
          case measure => simp [intOf]; omega
        · have k1' : decide (k = 1) = false ∧ (k == 1) = false := ⟨by simpa using k1, by simpa using k1⟩
          have k2' : decide (k = 2) = false ∧ (k == 2) = false := ⟨by simpa using k2, by simpa using k2⟩
          have k3' : decide (k = 3) = false ∧ (k == 3) = false := ⟨by simpa using k3, by simpa using k3⟩
          have P9 := P3
          clear k1 k2 k3 P3 n3
          obtain ⟨g, hg⟩ : ∃ g, Hid (getA T.A ask = g) := ⟨_, rfl⟩
          obtain ⟨is, his⟩ : ∃ is, Hid (hasA T.A ask = is) := ⟨_, rfl⟩
          have hgd : Hid (dA On Off ask = g) := hide (by rw [LK.out.dA]; exact hg.out)
          have hisd : Hid (decide (0 < g.s) = is) := hide (by rw [← his.out, seq_pos LK.out.inv, hg.out])
          have hN0 : N ≤ 60 := by omega
          go_wp2_with fail
          go_at_call 15
          refine (tActive_c c t o _ T ask _ P9.out.e.n hk g hg is his).mono ?_
          rintro e w21 ⟨rfl, hb21⟩
          have P21 := hide ((P9.out.quiet hb21).quiet (belA w21 (atsO g)))
          have n21 := hide (ats_new w21 g)
          clear hb21 P9
          go_wp2_with fail
          go_at_call 16
          refine (rActive_c m _ _ On Off ask _ P21.out.r g hgd is hisd).mono ?_
          rintro e w23 ⟨rfl, hb23⟩
          have P23 := hide ((P21.out.quiet hb23).quiet (belA w23 (atsO g)))
          obtain ⟨y9, y0, y1, y2⟩ := n21.out.below hb23
          clear hb23 P21 n21
          go_wp2_with fail
          go_at_call 18
          refine (tList_c c t o _ T _ P23.out.e.n (by omega)).mono ?_
          rintro e w24 ⟨v24, rfl, g24, l24, -, hb24⟩
          have P24 := hide (P23.out.quiet hb24)
          replace l24 := hide l24
          clear hb24 P23
          go_wp2_with fail
          go_at_call 19
          refine (rList_c m _ _ On Off _ P24.out.r (by have := P24.out.lo; omega)).mono ?_
          rintro e w25 ⟨v25, rfl, g25, l25, -, hb25⟩
          rw [LK.out.list] at l25
          have P25 := hide (P24.out.quiet hb25)
          have l26 := hide (l24.out.below hb25)
          replace l25 := hide l25
          clear hb25 P24 l24
          go_wp2_with fail
          go_at_call 17
          refine (sameA_c _ _ _ _ T.A _ l26.out.view l25.out.view).mono ?_
          rintro e w27 ⟨rfl, nq, rfl⟩
          have P27 := hide (P25.out.quiet (belD w25 nq))
          clear P25 l26 l25
          go_wp2_with fail
          go_roundw
          case rel => exact ⟨j + 1, by omega, by simp, _, _, _, _, _, _, _, _, _, rfl, (by omega : N ≤ j + 1), P27.out, LK.out⟩
          case measure => simp [intOf]; omega
      · obtain rfl : j = A.length := by omega
        replace P1 := hide P1
        go_wp2_with fail
        go_ret
        exact ⟨rfl, P1.out.e.bel⟩
end Go.Proofs.Ytgaabbnfjapcjaa
