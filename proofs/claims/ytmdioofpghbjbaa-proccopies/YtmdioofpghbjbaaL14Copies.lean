/- The walk of ProcCopies: it returns true; no old memory turns (layer 14). -/
import Derived.Test.YtmdioofpghbjbaaTell14
import Derived.Test.YtmdioofpghbjbaaLinA
namespace Go.Proofs.Ytmdioofpghbjbaa
open Go.ChangeShapes Go.WideShapes Go.ChangeAt Go.RowKit
set_option linter.unusedSimpArgs false
set_option linter.unusedVariables false
set_option maxRecDepth 10000

attribute [local go_sem, local simp] over_const setCell_drewN alloc_drewN Over.cell Over.frozen lt_s1 lt_s2 lt_s3 le_s0 le_s1 le_s2 le_s3 eq_s0 eq_s1 eq_s2 qe_s0

theorem PEnv.asideF {w wr w3 : World} {p : Nat} {wa tr : Int} {P : Pm} {F : Nat → Prop} (h : PEnv w wr p wa tr P) (hf : FrS F wr w3) (hF : ∀ b, F b → w.heap.size ≤ b) (hp : ¬ F p) : PEnv w w3 p wa tr P :=
  ⟨h.n.fr hf hp, h.p0, h.bel.trans (hf.below (fun i hi => by have := hF i hi; omega) h.bel.size)⟩
theorem view_oneP (w : World) (x : Int) : View (w.alloc (.cells #[.int .i64 x] 3)) (.slice (some ⟨w.heap.size, 0, none⟩) 1 1) w.heap.size [x] :=
  ⟨_, 1, rfl, Nat.le_refl _, by decide, .inr ⟨0, rfl, by simp, fun j hj => by
    obtain rfl : j = 0 := by simpa using hj
    exact cell_of_row _ _ _ _ _ _ (heap_alloc_new w _)⟩⟩

/-- Where a list's array lies: nowhere yet (b, an old block, stands for that), or in a new one, apart from p and c. -/
structure Gd (s b p c : Nat) (v : Value) (g : Nat) : Prop where
  lies : g = b ∨ s ≤ g
  np : g ≠ p
  nc : g ≠ c
  nil : g = b → v = .slice none 0 0

theorem gd_app {s b p c : Nat} {W W' : World} {v v' : Value} {g g' : Nat} (hb : b < s) (hd : Gd s b p c v g) (hW : s ≤ W.heap.size) (hp : p < W.heap.size) (hc : c < W.heap.size) (hap : AppP W W' v v' g g') :
    Gd s b p c v' g' ∧ FrS (fun x => x = g ∧ s ≤ x) W W' ∧ (g' = g ∨ W.heap.size ≤ g') := by
  obtain ⟨h1, h2, h3, h4⟩ := hd
  refine ⟨⟨?_, ?_, ?_, ?_⟩, ?_, hap.lies⟩
  · rcases hap.lies with e | e
    · rw [e]; exact h1
    · exact .inr (by omega)
  · rcases hap.lies with e | e
    · rw [e]; exact h2
    · omega
  · rcases hap.lies with e | e
    · rw [e]; exact h3
    · omega
  · intro e
    rcases hap.lies with e' | e'
    · exact hap.keep e' (h4 (e'.symm.trans e))
    · rcases h1 with h1 | h1
      · exact hap.keep (by omega) (h4 h1)
      · omega
  · by_cases e : g = b
    · exact FrS.of_below (hap.nil (h4 e))
    · exact hap.fr.mono (fun i _ hi => ⟨hi, by rw [hi]; rcases h1 with h1 | h1; exact absurd h1 e; exact h1⟩)


set_option maxHeartbeats 2000000 in
theorem ProcCopies_walk (wa tr : Int) (v : Value) (A : List Ac) (w : World) (b1 : wa ≤ 9223372036854775807) (b2 : tr ≤ 9223372036854775807) (h1 : ActsAt w.heap.size w v A) : Calls Try.prog 7 #[.int .i64 wa, .int .i64 tr, v] w fun e w' => e = .returned (.bool true) ∧ Below w.heap.size w w' := by
  have hA := hide h1
  obtain ⟨ao, cap, rfl, hlc, hmx, -⟩ := h1
  have hma : A.length ≤ 9223372036854775807 := by unfold maxLen at hmx; omega
  clear hmx
  by_cases ca : 200 < (A.length : Int)
  · go_enter Try.func7, Try.ntmps7
    go_wp2_with (go_at_call 8; refine (awake14_any _).mono ?_; rintro e w' ⟨rfl, hb⟩; obtain ⟨x1, rfl⟩ := over hb; clear hb)
    go_ret
    refine ⟨rfl, ?_⟩
    repeat' first | with_reducible exact Below.refl _ _ | with_reducible refine Below.setCell ?_ ?_ _ | with_reducible refine Below.alloc ?_ ?_ _ | with_reducible refine Below.drew ?_ | with_reducible refine belowN ?_ _ | with_reducible refine Over.go _ ?_ ?_ | with_reducible exact Nat.le_refl _ | with_reducible refine Over.sz _ _ ?_ | with_reducible refine le_alloc ?_ | with_reducible refine le_setCell ?_ | with_reducible refine le_drewN ?_ | with_reducible refine le_drew ?_ | omega | (dsimp only; omega)
  by_cases hz : A.length = 0
  · obtain rfl : A = [] := List.eq_nil_of_length_eq_zero hz
    clear hA hz ca hlc hma
    by_cases hcz : cap = 0
    all_goals
      go_enter Try.func7, Try.ntmps7
      go_wp2_with fail
      go_at_call 8
      refine (awake14_any _).mono ?_
      rintro e w1 ⟨rfl, hb1⟩
      replace hb1 := hide hb1
      go_wp2_with fail
      go_at_call 9
      refine (pNew_c wa tr w1 b1 b2).mono ?_
      rintro e w2 ⟨p, rfl, hn2, hp2, hb2⟩
      have P2 := hide (PEnv.first hb1.out hn2 hp2 hb2)
      clear hn2 hp2 hb2 hb1
      go_wp2_with fail
      refine wp_loop_rounds 1 ?_
      rw [rounds_succ]
      go_wp2_with fail
      go_at_call 16
      refine (pCopy_c p wa tr pm0 w2 P2.out.n).mono ?_
      rintro e w6 ⟨c, rfl, hn6, hp6, hb6⟩
      have C6 := hide (PEnv.first P2.out.bel hn6 hp6 hb6)
      clear hn6 hp6 hb6 P2
      go_wp2_with fail
      refine wp_loop_rounds 1 ?_
      rw [rounds_succ]
      go_wp2_with fail
      refine wp_loop_rounds 1 ?_
      rw [rounds_succ]
      go_wp2_with fail
      refine wp_loop_rounds 1 ?_
      rw [rounds_succ]
      go_wp2_with fail
      go_ret
      exact ⟨rfl, C6.out.bel⟩
  · obtain ⟨b, o', rfl, hbB, -⟩ := acts_row hA.out (show 0 < A.length by omega)
    have dca : decide (200 < (A.length : Int)) = false := by simp; omega
    obtain ⟨h, hh⟩ : ∃ h, A.length / 2 = h := ⟨_, rfl⟩
    have hh2 : (A.length : Int) / 2 = h := by omega
    have hhn : h ≤ A.length := by omega
    obtain ⟨m, hm⟩ : ∃ m, A.length - h = m := ⟨_, rfl⟩
    have hhc : cap ≠ h ∧ (cap == h) = false ∧ decide (cap = h) = false := ⟨by omega, by simp; omega, by simp; omega⟩
    go_enter Try.func7, Try.ntmps7
    go_wp2_with fail
    go_at_call 8
    refine (awake14_any _).mono ?_
    rintro e w1 ⟨rfl, hb1⟩
    replace hb1 := hide hb1
    go_wp2_with fail
    go_at_call 9
    refine (pNew_c wa tr w1 b1 b2).mono ?_
    rintro e w2 ⟨p, rfl, hn2, hp2, hb2⟩
    have P2 := hide (PEnv.first hb1.out hn2 hp2 hb2)
    clear hn2 hp2 hb2 hb1
    go_wp2_with fail
    go_loopw [39] (fun i wr => ∃ j : Nat, j ≤ h ∧ i = .int .i64 j ∧ PEnv w wr p wa tr (playD wa tr pm0 (A.take j))) (fun i _ => h - (intOf i).toNat)
    case atStart => exact ⟨0, Nat.zero_le _, rfl, P2.out⟩
    case round =>
      clear P2
      obtain ⟨j, hj, rfl, P3⟩ := hrel
      replace P3 := hide P3
      by_cases hlt : j < h
      · have hlt' : (j : Int) < h := by omega
        have hkk := playD_k wa tr (A.take j) pm0
        have hpl := hide (playD_snoc wa tr pm0 A j (by omega))
        rw [List.length_take] at hkk
        obtain ⟨P, hP⟩ : ∃ P, playD wa tr pm0 (A.take j) = P := ⟨_, rfl⟩
        rw [hP] at P3 hkk hpl
        have hk : P.k < 100000 := by simp at hkk; omega
        clear hP hkk
        obtain ⟨b', o'', e', -, hbl, -, r0, r1, r2, r3⟩ := acts_row (hA.out.below P3.out.bel) (show j < A.length by omega)
        cases e'
        obtain ⟨y, hy⟩ : ∃ y, A[j]'(by omega) = y := ⟨_, rfl⟩
        rw [hy] at r0 r1 r2 r3 hpl
        obtain ⟨yk, yb, yw, yv⟩ := y
        clear hy
        dsimp only at r0 r1 r2 r3
        have P4 := hide (P3.out.quiet (belA wr (actsO ⟨yk, yb, yw, yv⟩)))
        clear P3
        go_wp2_with fail
        go_at_call 21
        refine (do_c p wa tr P ⟨yk, yb, yw, yv⟩ _ P4.out.n hk _ (hide rfl)).mono ?_
        rintro e w5 ⟨rfl, h5, f5⟩
        have P5 := hide (P4.out.step h5 f5)
        rw [← hpl.out] at P5
        clear h5 f5 P4
        go_wp2_with fail
        go_roundw
        case rel => exact ⟨j + 1, by omega, by simp, P5.out⟩
        case measure => simp [intOf]; omega
      · obtain rfl : j = h := by omega
        clear hlt hj
        obtain ⟨P, hP⟩ : ∃ P, Hid (playD wa tr pm0 (A.take j) = P) := ⟨_, rfl⟩
        rw [hP.out] at P3
        go_wp2_with fail
        go_at_call 16
        refine (pCopy_c p wa tr P wr P3.out.n).mono ?_
        rintro e w6 ⟨c, rfl, hn6, hp6, hb6⟩
        have C6 := hide (PEnv.first P3.out.bel hn6 hp6 hb6)
        have npc : p ≠ c := by have := P3.out.n.lt; omega
        have P6 := hide (P3.out.quiet hb6)
        clear hn6 hp6 hb6 P3
        go_wp2_with fail
        obtain ⟨B, hB⟩ : ∃ B, A.drop j = B := ⟨_, rfl⟩
        have hBm : B.length = m := by rw [← hB, List.length_drop]; exact hm
        have hBr : Hid (∀ q : Nat, B[q]? = A[j + q]?) := hide (by intro q; rw [← hB, List.getElem?_drop])
        have hk0 : Hid (P.k ≤ 200) := hide (by have := playD_k wa tr (A.take j) pm0; rw [hP.out, List.length_take] at this; simp at this; omega)
        replace hBm := hide hBm
        clear hB
        have hgd : Hid (Gd w.heap.size b p c (.slice none 0 0) b) := hide ⟨.inl rfl, by have := P6.out.p0; omega, by have := C6.out.p0; omega, fun _ => rfl⟩
        have hpc : Hid (w.heap.size ≤ p ∧ w.heap.size ≤ c) := hide ⟨P6.out.p0, C6.out.p0⟩
        have hO0 : Hid (Own w6 (.slice none 0 0) b []) := hide (own_nil (Nat.lt_of_lt_of_le hbB P6.out.bel.size))
        go_loopw [12, 55] (fun v i wr => ∃ (q g : Nat), q ≤ m ∧ i = .int .i64 q ∧ PEnv w wr p wa tr (playD wa tr P (B.take q)) ∧ PEnv w wr c wa tr P ∧ Own wr v g (saysD wa tr P (B.take q)) ∧ Gd w.heap.size b p c v g) (fun _ i _ => m - (intOf i).toNat)
        case atStart => exact ⟨0, b, Nat.zero_le _, rfl, P6.out, C6.out, hO0.out, hgd.out⟩
        case round =>
          clear P6 C6 hO0 hgd
          obtain ⟨q, g, hq, rfl, hE, hC, hO, hG⟩ := hrel
          replace hE := hide hE
          replace hC := hide hC
          replace hG := hide hG
          by_cases hlt : q < m
          · have hlt' : (q : Int) < m := by omega
            have hqB : q < B.length := by rw [hBm.out]; exact hlt
            have hjq : j + q < A.length := by omega
            have hkk := playD_k wa tr (B.take q) P
            have hpl := hide (playD_snoc wa tr P B q hqB)
            have hsy := hide (saysD_snoc wa tr P B q hqB)
            rw [List.length_take] at hkk
            obtain ⟨Q, hQ⟩ : ∃ Q, playD wa tr P (B.take q) = Q := ⟨_, rfl⟩
            rw [hQ] at hE hkk hpl hsy
            have hk : Q.k < 100000 := by have := hk0.out; have := Nat.min_le_left q B.length; omega
            clear hQ hkk
            replace hO := hide hO
            obtain ⟨b', o'', e', -, hbl, -, r0, r1, r2, r3⟩ := acts_row (hA.out.below hE.out.bel) hjq
            cases e'
            obtain ⟨y, hy⟩ : ∃ y, A[j + q] = y := ⟨_, rfl⟩
            have hyB : B[q] = y := by have := hBr.out q; rw [List.getElem?_eq_getElem hqB, List.getElem?_eq_getElem hjq, hy] at this; exact Option.some.inj this
            rw [hy] at r0 r1 r2 r3
            rw [hyB] at hpl hsy
            obtain ⟨yk, yb, yw, yv⟩ := y
            clear hy hyB
            dsimp only at r0 r1 r2 r3
            have eo : o' + (j + q) * 4 = o' + j * 4 + q * 4 := by omega
            rw [eo] at r0 r1 r2 r3
            clear eo
            have E4 := hide (hE.out.quiet (belA wr (actsO ⟨yk, yb, yw, yv⟩)))
            have C4 := hide (hC.out.quiet (belA wr (actsO ⟨yk, yb, yw, yv⟩)))
            have O4 := hide (hO.out.alloc (actsO ⟨yk, yb, yw, yv⟩))
            clear hE hC hO
            obtain ⟨r, hr⟩ : ∃ r, Hid (tellD wa tr Q ⟨yk, yb, yw, yv⟩ = r) := ⟨_, rfl⟩
            replace hsy : Hid (saysD wa tr P (B.take (q + 1)) = saysD wa tr P (B.take q) ++ [r]) := hide (by rw [hsy.out, hr.out])
            have hl : Hid ((saysD wa tr P (B.take q)).length + [r].length ≤ 1000000) := hide (by rw [saysD_len, List.length_take]; have := Nat.min_le_left q B.length; simp only [List.length_cons, List.length_nil]; omega)
            have hl2 : Hid ((saysD wa tr P (B.take q)).length + [r].length = q + 1) := hide (by rw [saysD_len, List.length_take, Nat.min_eq_left (by omega)]; rfl)
            go_wp2_with fail
            go_at_call 21
            refine (do_c p wa tr Q ⟨yk, yb, yw, yv⟩ _ E4.out.n hk r hr).mono ?_
            rintro e w5 ⟨rfl, h5, f5⟩
            have E5 := hide ((E4.out.step h5 f5).quiet (belA w5 (.cells #[.int .i64 r] 3)))
            rw [← hpl.out] at E5
            have C5 := hide ((C4.out.aside f5 hpc.out.1 npc.symm).quiet (belA w5 (.cells #[.int .i64 r] 3)))
            have O5 := hide (O4.out.fr f5 hG.out.np)
            clear h5 f5 E4 C4 O4
            go_wp2_with (at_builtin; refine wpList_app rfl _ _ rfl rfl rfl (O5.out.alloc _) (view_oneP _ _) hl.out (q + 1) hl2.out ?_; intro ao' cap' w7 g' hown hap; rw [← hsy.out] at hown; have O7 := hide hown; have GA := hide (gd_app hbB hG.out E5.out.bel.size E5.out.n.lt C5.out.n.lt hap); clear hown hap)
            have E7 := hide (E5.out.asideF GA.out.2.1 (fun _ h => h.2) (fun h => hG.out.np h.1.symm))
            have C7 := hide (C5.out.asideF GA.out.2.1 (fun _ h => h.2) (fun h => hG.out.nc h.1.symm))
            go_roundw
            case rel => exact ⟨q + 1, g', by omega, by simp, E7.out, C7.out, O7.out, GA.out.1⟩
            case measure => simp [intOf]; omega
          · obtain rfl : q = m := by omega
            have hBt : B.take q = B := List.take_of_length_le (by rw [hBm.out]; exact Nat.le_refl _)
            rw [hBt] at hO
            obtain ⟨L, hL⟩ : ∃ L, Hid (saysD wa tr P B = L) := ⟨_, rfl⟩
            have hLn : Hid (L.length = q) := hide (by rw [← hL.out, saysD_len, hBm.out])
            rw [hL.out] at hO
            obtain ⟨ao1, cap1, rfl, hlc1, -, -⟩ := id hO
            have hLn' := hLn.out
            rw [hLn'] at hO hlc1 ⊢
            clear hLn'
            replace hO := hide hO
            obtain ⟨P', hP'⟩ : ∃ P', playD wa tr P (B.take q) = P' := ⟨_, rfl⟩
            rw [hP'] at hE
            clear hP' hBt
            have hgd : Hid (Gd w.heap.size b p c (.slice none 0 0) b) := hide ⟨.inl rfl, by have := hpc.out.1; omega, by have := hpc.out.2; omega, fun _ => rfl⟩
            have hO0 : Hid (Own wr (.slice none 0 0) b []) := hide (own_nil (Nat.lt_of_lt_of_le hbB hE.out.bel.size))
            go_wp2_with fail
            go_loopw [13, 70] (fun v' i wr => ∃ (q' g' : Nat), q' ≤ q ∧ i = .int .i64 q' ∧ PEnv w wr p wa tr P' ∧ PEnv w wr c wa tr (playD wa tr P (B.take q')) ∧ Own wr (.slice ao1 q cap1) g L ∧ Own wr v' g' (saysD wa tr P (B.take q')) ∧ Gd w.heap.size b p c v' g' ∧ (g' = b ∨ g' ≠ g)) (fun _ i _ => q - (intOf i).toNat)
            case atStart => exact ⟨0, b, Nat.zero_le _, rfl, hE.out, hC.out, hO.out, hO0.out, hgd.out, .inl rfl⟩
            case round =>
              have hgc := hide hG.out.nc
              have hgl := hide hG.out.lies
              clear hE hC hO hO0 hgd hG hlt hq
              obtain ⟨q', g', hq, rfl, hF, hE, hO1, hO, hG, hgg⟩ := hrel
              replace hF := hide hF
              replace hE := hide hE
              replace hG := hide hG
              replace hO1 := hide hO1
              replace hgg := hide hgg
              by_cases hlt : q' < q
              · have hlt' : (q' : Int) < q := by omega
                have hqB : q' < B.length := by rw [hBm.out]; exact hlt
                have hjq : j + q' < A.length := by omega
                have hkk := playD_k wa tr (B.take q') P
                have hpl := hide (playD_snoc wa tr P B q' hqB)
                have hsy := hide (saysD_snoc wa tr P B q' hqB)
                rw [List.length_take] at hkk
                obtain ⟨Q, hQ⟩ : ∃ Q, playD wa tr P (B.take q') = Q := ⟨_, rfl⟩
                rw [hQ] at hE hkk hpl hsy
                have hk : Q.k < 100000 := by have := hk0.out; have := Nat.min_le_left q' B.length; omega
                clear hQ hkk
                replace hO := hide hO
                obtain ⟨b', o'', e', -, hbl, -, r0, r1, r2, r3⟩ := acts_row (hA.out.below hE.out.bel) hjq
                cases e'
                obtain ⟨y, hy⟩ : ∃ y, A[j + q'] = y := ⟨_, rfl⟩
                have hyB : B[q'] = y := by have := hBr.out q'; rw [List.getElem?_eq_getElem hqB, List.getElem?_eq_getElem hjq, hy] at this; exact Option.some.inj this
                rw [hy] at r0 r1 r2 r3
                rw [hyB] at hpl hsy
                obtain ⟨yk, yb, yw, yv⟩ := y
                clear hy hyB
                dsimp only at r0 r1 r2 r3
                have eo : o' + (j + q') * 4 = o' + j * 4 + q' * 4 := by omega
                rw [eo] at r0 r1 r2 r3
                clear eo
                have E4 := hide (hE.out.quiet (belA wr (actsO ⟨yk, yb, yw, yv⟩)))
                have F4 := hide (hF.out.quiet (belA wr (actsO ⟨yk, yb, yw, yv⟩)))
                have O4 := hide (hO.out.alloc (actsO ⟨yk, yb, yw, yv⟩))
                have W4 := hide (hO1.out.alloc (actsO ⟨yk, yb, yw, yv⟩))
                clear hE hF hO hO1
                obtain ⟨r, hr⟩ : ∃ r, Hid (tellD wa tr Q ⟨yk, yb, yw, yv⟩ = r) := ⟨_, rfl⟩
                replace hsy : Hid (saysD wa tr P (B.take (q' + 1)) = saysD wa tr P (B.take q') ++ [r]) := hide (by rw [hsy.out, hr.out])
                have hl : Hid ((saysD wa tr P (B.take q')).length + [r].length ≤ 1000000) := hide (by rw [saysD_len, List.length_take]; have := Nat.min_le_left q' B.length; simp only [List.length_cons, List.length_nil]; omega)
                have hl2 : Hid ((saysD wa tr P (B.take q')).length + [r].length = q' + 1) := hide (by rw [saysD_len, List.length_take, Nat.min_eq_left (by omega)]; rfl)
                go_wp2_with fail
                go_at_call 21
                refine (do_c c wa tr Q ⟨yk, yb, yw, yv⟩ _ E4.out.n hk r hr).mono ?_
                rintro e w5 ⟨rfl, h5, f5⟩
                have E5 := hide ((E4.out.step h5 f5).quiet (belA w5 (.cells #[.int .i64 r] 3)))
                rw [← hpl.out] at E5
                have F5 := hide ((F4.out.aside f5 hpc.out.2 npc).quiet (belA w5 (.cells #[.int .i64 r] 3)))
                have O5 := hide (O4.out.fr f5 hG.out.nc)
                have W5 := hide ((W4.out.fr f5 hgc.out).alloc (.cells #[.int .i64 r] 3))
                clear h5 f5 E4 F4 O4 W4
                go_wp2_with (at_builtin; refine wpList_app rfl _ _ rfl rfl rfl (O5.out.alloc _) (view_oneP _ _) hl.out (q' + 1) hl2.out ?_; intro ao' cap' w7 g'' hown hap; rw [← hsy.out] at hown; have O7 := hide hown; have GA := hide (gd_app hbB hG.out E5.out.bel.size F5.out.n.lt E5.out.n.lt hap); clear hown hap)
                have E7 := hide (E5.out.asideF GA.out.2.1 (fun _ h => h.2) (fun h => hG.out.nc h.1.symm))
                have F7 := hide (F5.out.asideF GA.out.2.1 (fun _ h => h.2) (fun h => hG.out.np h.1.symm))
                have W7 := hide (W5.out.fr GA.out.2.1 (fun h => by rcases hgg.out with e | e; have := h.1; have := h.2; omega; exact e h.1.symm))
                go_roundw
                case rel => exact ⟨q' + 1, g'', by omega, by simp, F7.out, E7.out, W7.out, O7.out, GA.out.1, by rcases GA.out.2.2 with e | e; rw [e]; exact hgg.out; exact .inr (by have := W5.out.lt; omega)⟩
                case measure => simp [intOf]; omega
              · obtain rfl : q' = q := by omega
                have hBt : B.take q' = B := List.take_of_length_le (by rw [hBm.out]; exact Nat.le_refl _)
                rw [hBt, hL.out] at hO
                obtain ⟨ao2, cap2, rfl, hlc2, -, -⟩ := id hO
                have hLn' := hLn.out
                rw [hLn'] at hO hlc2 ⊢
                have hB := hide hE.out.bel
                have hO' := hide hO
                clear hBt hE hF hG hgg hlt hq hO
                go_wp2_with fail
                go_loopw [83] (fun i wr => ∃ k : Nat, k ≤ q' ∧ i = .int .i64 k ∧ Below w.heap.size w wr ∧ Own wr (.slice ao1 q' cap1) g L ∧ Own wr (.slice ao2 q' cap2) g' L) (fun i _ => q' - (intOf i).toNat)
                case atStart => exact ⟨0, Nat.zero_le _, rfl, hB.out, hO1.out, hO'.out⟩
                case round =>
                  clear hB hO1 hO'
                  obtain ⟨k, hk, rfl, hB, hU, hV⟩ := hrel
                  replace hB := hide hB
                  by_cases hlt : k < q'
                  · have hlt' : (k : Int) < q' := by omega
                    obtain ⟨-, -, -, k1⟩ := view_at hU.view rfl
                    obtain ⟨-, -, -, k2⟩ := view_at hV.view rfl
                    obtain ⟨o1, rfl, l1, c1⟩ := k1 k (by rw [hLn.out]; exact hlt)
                    obtain ⟨o2, rfl, l2, c2⟩ := k2 k (by rw [hLn.out]; exact hlt)
                    clear k1 k2
                    obtain ⟨z, hz⟩ : ∃ z, L[k]'(by rw [hLn.out]; exact hlt) = z := ⟨_, rfl⟩
                    rw [hz] at c1 c2
                    clear hz hLn'
                    replace hU := hide hU
                    replace hV := hide hV
                    go_wp2_with fail
                    refine wp_region_noPanic ?_
                    refine wp_region_held_drew (S := (fun w' => w'.cell? ⟨g, o1 + k, none⟩ = some (.int .i64 z) ∧ w'.cell? ⟨g', o2 + k, none⟩ = some (.int .i64 z))) (by kernel_rfl) ?_ (fun hHeld => ?_)
                    · exact ⟨c1, c2⟩
                    refine hand_take (i := 0) (d := some 86) (v := ?_) rfl (by kernel_rfl) (by kernel_rfl) (by kernel_rfl) (fun _ _ _ h => h) ?_ hHeld ?_
                    rotate_left
                    · intro o ho
                      simp at ho
                      subst ho
                      intro wz hSw
                      try dsimp only at hSw
                      go_simp
                      try with_reducible rfl
                    try simp only [Act.put, List.setIfInBounds_toArray, List.set_cons_zero, List.set_cons_succ]
                    refine hand_take (i := 1) (d := some 87) (v := ?_) rfl (by kernel_rfl) (by kernel_rfl) (by kernel_rfl) (fun _ _ _ h => h) ?_ hHeld ?_
                    rotate_left
                    · intro o ho
                      simp at ho
                      subst ho
                      intro wz hSw
                      try dsimp only at hSw
                      go_simp
                      try with_reducible rfl
                    try simp only [Act.put, List.setIfInBounds_toArray, List.set_cons_zero, List.set_cons_succ]
                    refine hand_take (i := 2) (d := some 88) (v := ?_) rfl (by kernel_rfl) (by kernel_rfl) (by kernel_rfl) (fun _ _ _ h => h) ?_ hHeld ?_
                    rotate_left
                    · intro o ho
                      simp at ho
                      subst ho
                      intro wz hSw
                      try dsimp only at hSw
                      go_simp
                      try with_reducible rfl
                    try simp only [Act.put, List.setIfInBounds_toArray, List.set_cons_zero, List.set_cons_succ]
                    refine hand_take (i := 3) (d := some 89) (v := ?_) rfl (by kernel_rfl) (by kernel_rfl) (by kernel_rfl) (fun _ _ _ h => h) ?_ hHeld ?_
                    rotate_left
                    · intro o ho
                      simp at ho
                      subst ho
                      intro wz hSw
                      try dsimp only at hSw
                      go_simp
                      try with_reducible rfl
                    try simp only [Act.put, List.setIfInBounds_toArray, List.set_cons_zero, List.set_cons_succ]
                    refine hand_take (i := 4) (d := some 90) (v := ?_) rfl (by kernel_rfl) (by kernel_rfl) (by kernel_rfl) (fun _ _ _ h => h) ?_ hHeld ?_
                    rotate_left
                    · intro o ho
                      simp at ho
                      subst ho
                      intro wz hSw
                      try dsimp only at hSw
                      go_simp
                      try with_reducible rfl
                    try simp only [Act.put, List.setIfInBounds_toArray, List.set_cons_zero, List.set_cons_succ]
                    refine hand_take (i := 5) (d := some 91) (v := ?_) rfl (by kernel_rfl) (by kernel_rfl) (by kernel_rfl) (fun _ _ _ h => h) ?_ hHeld ?_
                    rotate_left
                    · intro o ho
                      simp at ho
                      subst ho
                      intro wz hSw
                      try dsimp only at hSw
                      go_simp
                      try with_reducible rfl
                    try simp only [Act.put, List.setIfInBounds_toArray, List.set_cons_zero, List.set_cons_succ]
                    refine hand_take (i := 6) (d := some 92) (v := ?_) rfl (by kernel_rfl) (by kernel_rfl) (by kernel_rfl) (fun _ _ _ h => h) ?_ hHeld ?_
                    rotate_left
                    · intro o ho
                      simp at ho
                      subst ho
                      intro wz hSw
                      try dsimp only at hSw
                      go_simp
                      try with_reducible rfl
                    try simp only [Act.put, List.setIfInBounds_toArray, List.set_cons_zero, List.set_cons_succ]
                    refine hand_take (i := 7) (d := some 93) (v := ?_) rfl (by kernel_rfl) (by kernel_rfl) (by kernel_rfl) (fun _ _ _ h => h) ?_ hHeld ?_
                    rotate_left
                    · intro o ho
                      simp at ho
                      subst ho
                      intro wz hSw
                      try dsimp only at hSw
                      go_simp
                      try with_reducible rfl
                    try simp only [Act.put, List.setIfInBounds_toArray, List.set_cons_zero, List.set_cons_succ]
                    refine hand_take (i := 8) (d := some 94) (v := ?_) rfl (by kernel_rfl) (by kernel_rfl) (by kernel_rfl) (fun _ _ _ h => h) ?_ hHeld ?_
                    rotate_left
                    · intro o ho
                      simp at ho
                      subst ho
                      intro wz hSw
                      try dsimp only at hSw
                      go_simp
                      try with_reducible rfl
                    try simp only [Act.put, List.setIfInBounds_toArray, List.set_cons_zero, List.set_cons_succ]
                    refine wpAnyH_done (by kernel_rfl) (NoPanic.normal ?_) _
                    clear hHeld
                    clear c1 c2 l1 l2
                    go_wp2_with fail
                    go_roundw
                    case rel => exact ⟨k + 1, by omega, by simp, hB.out.drew, hU.out.carry rfl, hV.out.carry rfl⟩
                    case measure => simp [intOf]; omega
                  · go_wp2_with fail
                    go_ret
                    exact ⟨rfl, hB.out⟩
end Go.Proofs.Ytmdioofpghbjbaa
