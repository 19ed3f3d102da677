/- The contract of tell: requests and ends, one after the other (layer 11). -/
import Derived.Test.YtgaabbnfjapcjaaLaw11
namespace Go.Proofs.Ytgaabbnfjapcjaa
open Go.ChangeShapes Go.WideShapes Go.ChangeAt Go.RowKit
set_option linter.unusedSimpArgs false
set_option linter.unusedVariables false
set_option maxRecDepth 10000

attribute [local go_sem, local simp] over_const setCell_drewN alloc_drewN Over.cell Over.frozen lt_s1 lt_s2 lt_s3 le_s0 le_s1 le_s2 le_s3 eq_s0 eq_s1 eq_s2 qe_s0

def nxT (T : Tb) (x : Ac) : Tb := if x.k = 1 then nxA T x.a else nxD T x.a.b x.a.s
def playT (T : Tb) (L : List Ac) : Tb := L.foldl nxT T
theorem playT_snoc (T : Tb) (L : List Ac) (j : Nat) (hj : j < L.length) : playT T (L.take (j + 1)) = nxT (playT T (L.take j)) L[j] := by
  have e : L.take (j + 1) = L.take j ++ [L[j]] := by rw [List.take_add_one, List.getElem?_eq_getElem hj]; rfl
  rw [e]
  simp only [playT, List.foldl_append, List.foldl_cons, List.foldl_nil]

set_option maxHeartbeats 1000000 in
theorem tell_c (c t o N B : Nat) (T : Tb) (v : Value) (A : List Ac) (w : World) (h : TbIs w c t o N T) (hA : ActsAt B w v A) (hBw : B ≤ w.heap.size) (hBt : B ≤ t) (hBo : B ≤ o) (hN : N + A.length ≤ 2000) : Calls Try.prog 20 #[ptr c, v] w fun e w' => e = .returned (.tuple #[]) ∧ TbIs w' c t o (N + A.length) (playT T A) ∧ FrS (FT t o) w w' := by
  replace hA := hide hA
  replace h := hide h
  obtain ⟨ao, cap, rfl, hlc, hmx, _⟩ := id (unhide hA)
  have hmx' : A.length ≤ 9223372036854775807 := by omega
  clear hmx
  go_enter Try.func20, Try.ntmps20
  go_wp2_with fail
  go_loopw [8] (fun i wr => ∃ j : Nat, j ≤ A.length ∧ i = .int .i64 j ∧ TbIs wr c t o (N + j) (playT T (A.take j)) ∧ FrS (FT t o) w wr) (fun i _ => A.length - (intOf i).toNat)
  case atStart => exact ⟨0, Nat.zero_le _, rfl, unhide h, FrS.refl _ _⟩
  case round =>
    obtain ⟨j, hj, rfl, h1, f1⟩ := hrel
    by_cases hlt : j < A.length
    · have hlt' : (j : Int) < A.length := by omega
      obtain ⟨b, o', rfl, hbB, hbl, hi, r0, r1, r2, r3⟩ := acts_row ((unhide hA).below (f1.below (B := B) (fun i hi => by rcases hi with hi | hi <;> omega) hBw)) hlt
      have hst := hide (playT_snoc T A j hlt)
      obtain ⟨x, hx⟩ : ∃ x, A[j] = x := ⟨_, rfl⟩
      rw [hx] at r0 r1 r2 r3 hi hst
      obtain ⟨k, a⟩ := x
      clear hx
      obtain ⟨T1, hT1⟩ : ∃ T1, playT T (A.take j) = T1 := ⟨_, rfl⟩
      rw [hT1] at h1 hst
      replace hT1 := hide hT1
      have ht1 := h1.tl
      have ho1 := h1.ol
      have E1 := hide (h1.alloc (actsO ⟨k, a⟩))
      have f1' := hide (f1.alloc (actsO ⟨k, a⟩))
      replace hi := hide hi
      clear h1 f1
      by_cases k1 : k = 1
      · subst k1
        obtain ⟨ok, hok⟩ : ∃ ok, Hid (okA T1 a = ok) := ⟨_, rfl⟩
        go_wp2_with fail
        go_at_call 10
        refine (tActivate_c c t o _ T1 a _ (unhide E1) (unhide hi) (by omega) ok hok).mono ?_
        rintro e w3 ⟨rfl, h3, f3⟩
        have h4 : Hid (TbIs w3 c t o (N + (j + 1)) (playT T (A.take (j + 1)))) := hide (by rw [hst.out]; exact h3)
        have f4 := hide ((unhide f1').trans f3 (fun _ h => .inl h))
        clear h3 f3 E1 f1'
        go_wp2_with fail
        go_roundw
        case rel => exact ⟨j + 1, by omega, by simp, unhide h4, unhide f4⟩
        case measure => simp [intOf]; omega
      · have k1' : decide (k = 1) = false ∧ (k == 1) = false := ⟨by simpa using k1, by simpa using k1⟩
        replace k1 := hide k1
        go_wp2_with fail
        go_at_call 12
        refine (tDeactivate_c c t o _ T1 a.b a.s _ (unhide E1) (unhide hi) (by omega)).mono ?_
        rintro e w3 ⟨rfl, h3, f3⟩
        have h4 : Hid (TbIs w3 c t o (N + (j + 1)) (playT T (A.take (j + 1)))) := hide (by rw [hst.out]; unfold nxT; rw [if_neg (unhide k1)]; exact h3)
        have f4 := hide ((unhide f1').trans f3 (fun _ h => .inl h))
        clear h3 f3 E1 f1'
        go_wp2_with fail
        go_roundw
        case rel => exact ⟨j + 1, by omega, by simp, unhide h4, unhide f4⟩
        case measure => simp [intOf]; omega
    · obtain rfl : j = A.length := by omega
      rw [List.take_length] at h1
      replace h1 := hide h1
      replace f1 := hide f1
      go_wp2_with fail
      refine bodyPost_end (v := .tuple #[]) (by simp [results, Try.results20]) rfl ⟨rfl, unhide h1, unhide f1⟩
end Go.Proofs.Ytgaabbnfjapcjaa
