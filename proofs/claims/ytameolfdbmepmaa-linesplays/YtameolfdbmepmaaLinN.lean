/- The contracts of the document's Use, Victim (layer 8). -/
import Derived.Test.YtameolfdbmepmaaLinM
namespace Go.Proofs.Ytameolfdbmepmaa
open Go.ChangeShapes Go.WideShapes Go.ChangeAt Go.RowKit
set_option linter.unusedSimpArgs false
set_option linter.unusedVariables false

attribute [local go_sem, local simp] over_const setCell_drewN alloc_drewN Over.cell Over.frozen lt_s1 lt_s2 lt_s3 le_s0 le_s1 le_s2 le_s3 eq_s0 eq_s1 eq_s2 qe_s0

set_option maxHeartbeats 2000000 in
theorem rUse_c (p : Nat) (Ft : Nat → Prop) (S W x : Int) (A : List Int) (w : World) (h : RfIs w p Ft S W A) : Calls Try.prog 15 #[ptr p, .int .i64 x] w fun e w' => e = .returned (.bool (okRem A x)) ∧ ∃ Ft', RfIs w' p Ft' S W (nxUse A x) ∧ Step Ft Ft' w w' := by
  have hh := hide h
  have hI := hide (h.inv.nxUse x)
  have hlen := h.inv.len
  obtain ⟨q, hq⟩ : ∃ q, Hid (okRem A x = q) := ⟨_, rfl⟩
  rw [hq.out]
  clear h
  cases q
  case false =>
    have xa : x ∉ A := by simpa [okRem] using hq.out
    have e2 : nxUse A x = A := by simp [nxUse, xa]
    have e3 : A.erase x = A := List.erase_of_not_mem xa
    rw [e2]
    clear xa
    go_enter Try.func15, Try.ntmps15
    go_wp2_with (go_at_call 17; refine (rRemove_c p Ft S W x A w (unhide hh)).mono ?_; rw [hq.out, e3]; rintro e w' ⟨rfl, hfin⟩; replace hfin := hide hfin)
    go_ret
    exact ⟨rfl, unhide hfin⟩
  case true =>
    have xa : x ∈ A := by simpa [okRem] using hq.out
    have e2 : nxUse A x = A.erase x ++ [x] := by simp [nxUse, xa]
    have hl1 : (A.erase x).length ≤ 1024 := Nat.le_trans List.length_erase_le hlen
    rw [e2] at hI ⊢
    obtain ⟨B, hB⟩ : ∃ B, Hid (A.erase x = B) := ⟨_, rfl⟩
    rw [hB.out] at hI hl1 ⊢
    clear xa e2
    go_enter Try.func15, Try.ntmps15
    go_wp2_with fail
    go_at_call 17
    refine (rRemove_c p Ft S W x A w (unhide hh)).mono ?_
    rw [hq.out, hB.out]
    rintro e w1 ⟨rfl, F1, hn1, st1⟩
    obtain ⟨v, g, c2, hO, hFg, hgp⟩ := hn1.c2
    have hO' := hide hO
    obtain ⟨ao, cap, rfl, -⟩ := hO
    replace hn1 := hide hn1
    replace st1 := hide st1
    replace hgp := hide hgp
    go_wp2_with (at_builtin; refine wpList_app rfl _ _ rfl rfl rfl ((unhide hO').alloc _) (view_one w1 x) (by simp; omega) (B.length + 1) (by simp) ?_; intro ao3 cap3 w3 g3 hown3 hap3; obtain ⟨q1, q2, hfin⟩ := (unhide hn1).put c2 hFg (unhide hgp) (((FrS.refl _ w1).alloc _).trans hap3.fr (fun i hi => .inl hi)) (fun e => (belA' w1 _).trans ((hap3.nil e).mono (by simp))) (unhide hI) hown3 (by rcases hap3.lies with e | e; exact .inl e; simp at e; exact .inr (by omega)) hap3.keep; replace hfin := hide hfin; clear hown3 hap3)
    go_ret
    obtain ⟨Ft', f1, f2⟩ := unhide hfin
    exact ⟨rfl, Ft', f1, (unhide st1).trans f2⟩

set_option maxHeartbeats 2000000 in
theorem rVictim_c (p : Nat) (Ft : Nat → Prop) (S W x q : Int) (A : List Int) (w : World) (h : RfIs w p Ft S W A) : Calls Try.prog 19 #[ptr p, .int .i64 x, .int .i64 q] w fun e w' => e = .returned (.tuple #[.int .i64 (vicA S W A x q).1, .bool (vicA S W A x q).2]) ∧ Below w.heap.size w w' := by
  have hh := hide h
  have hpl := h.pl
  have hc1 := h.c1
  have hpln := h.inv.plen (modZ x S)
  obtain ⟨r, hr⟩ : ∃ r, Hid (vicA S W A x q = r) := ⟨_, rfl⟩
  rw [hr.out]
  obtain ⟨L, hL⟩ : ∃ L, Hid (part S A (modZ x S) = L) := ⟨_, rfl⟩
  rw [hL.out] at hpln
  have hr' := hr.out
  have hfd : fullA S W A x = decide (W ≤ (L.length : Int)) := by rw [fullA, hL.out]
  unfold vicA at hr'
  rw [hfd, hL.out] at hr'
  replace hr' := hide hr'
  obtain ⟨had, hhad⟩ : ∃ b, decide (x ∈ A) = b := ⟨_, rfl⟩
  have hmem : x ∈ A ↔ had = true := by rw [← hhad]; simp
  replace hmem := hide hmem
  clear h hfd
  go_enter Try.func19, Try.ntmps19
  go_wp2_with fail
  go_at_call 31
  refine (mates_c p Ft S W x A w (unhide hh)).mono ?_
  rw [hL.out]
  rintro e w1 ⟨v1, g1, rfl, hg1, hO1, hb1⟩
  have hV := hide hO1.view
  obtain ⟨ao, cap, rfl, -⟩ := hO1
  have hh1 := hide ((unhide hh).below hb1)
  have d1 : w1.cell? ⟨p, 1, none⟩ = some (.int .i64 W) := (hb1.cell (p := ⟨p, 1, none⟩) hpl).trans hc1
  replace hb1 := hide hb1
  clear hc1 hh hg1
  by_cases x0 : x < 0
  · obtain rfl : r = (-1, false) := by have := hr'.out; rw [if_pos x0] at this; exact this.symm
    go_wp2_with fail
    go_returns
    exact ⟨rfl, unhide hb1⟩
  cases had
  case true =>
    obtain rfl : r = (-1, true) := by have := hr'.out; rw [if_neg x0, if_pos (.inl (hmem.out.2 rfl))] at this; exact this.symm
    go_wp2_with (go_at_call 21; refine (rHas_c p Ft S W x A w1 (unhide hh1)).mono ?_; rw [hhad]; rintro e w' ⟨rfl, hw'⟩; rw [hw']; clear hw' w')
    go_returns
    exact ⟨rfl, unhide hb1⟩
  case false =>
    by_cases hfl : W ≤ (L.length : Int)
    · have hfn : Hid (firstNot L q = r) := by have := hr'.out; rw [if_neg x0, if_neg (by simp [hmem.out, hfl])] at this; exact this
      have hfl' : ¬ (L.length : Int) < W := by omega
      clear hr'
      go_wp2_with (go_at_call 21; refine (rHas_c p Ft S W x A w1 (unhide hh1)).mono ?_; rw [hhad]; rintro e w' ⟨rfl, hw'⟩; rw [hw']; clear hw' w')
      go_loopw [9] (fun i wr => ∃ j : Nat, j ≤ L.length ∧ i = .int .i64 j ∧ wr = w1 ∧ Hid (firstNot (L.drop j) q = r)) (fun i _ => L.length - (intOf i).toNat)
      case atStart => exact ⟨0, Nat.zero_le _, rfl, rfl, hfn⟩
      case round =>
        obtain ⟨j, hj, rfl, hwr, ha⟩ := hrel
        rw [hwr]
        clear hwr d1
        by_cases hlt : j < L.length
        · obtain ⟨-, -, -, hc⟩ := view_at (unhide hV) rfl
          obtain ⟨o, rfl, hb, hcell⟩ := hc j hlt
          obtain ⟨y, hy⟩ : ∃ y, L[j] = y := ⟨_, rfl⟩
          rw [hy] at hcell
          have ha' := ha.out
          rw [firstNot_drop hlt, hy] at ha'
          have hlt' : (j : Int) < L.length := by omega
          clear ha hc hy
          by_cases c : y = q
          · subst c
            rw [if_pos rfl] at ha'
            replace ha' := hide ha'
            go_wp2_with fail
            go_roundw
            case rel => exact ⟨j + 1, by omega, by simp, trivial, unhide ha'⟩
            case measure => simp [intOf]; omega
          · rw [if_neg c] at ha'
            obtain rfl : r = (y, true) := ha'.symm
            clear ha'
            go_wp2_with fail
            go_returns
            exact ⟨rfl, unhide hb1⟩
        · obtain rfl : j = L.length := by omega
          have ha' := ha.out
          rw [firstNot_end (Nat.le_refl _)] at ha'
          obtain rfl : r = (-1, false) := ha'.symm
          clear ha' ha
          go_wp2_with fail
          go_returns
          exact ⟨rfl, unhide hb1⟩
    · obtain rfl : r = (-1, true) := by have := hr'.out; rw [if_neg x0, if_pos (.inr (by simpa using hfl))] at this; exact this.symm
      have hfl' : (L.length : Int) < W := by omega
      go_wp2_with (go_at_call 21; refine (rHas_c p Ft S W x A w1 (unhide hh1)).mono ?_; rw [hhad]; rintro e w' ⟨rfl, hw'⟩; rw [hw']; clear hw' w')
      go_returns
      exact ⟨rfl, unhide hb1⟩
end Go.Proofs.Ytameolfdbmepmaa
