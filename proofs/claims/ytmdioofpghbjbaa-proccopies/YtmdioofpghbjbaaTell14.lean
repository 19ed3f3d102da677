/- The contract of do: a call, and what it tells (layer 14). -/
import Derived.Test.YtmdioofpghbjbaaLaw14
import Derived.Test.YtmdioofpghbjbaaActs14
namespace Go.Proofs.Ytmdioofpghbjbaa
open Go.ChangeShapes Go.WideShapes Go.ChangeAt Go.RowKit
set_option linter.unusedSimpArgs false
set_option linter.unusedVariables false
set_option maxRecDepth 10000

attribute [local go_sem, local simp] over_const setCell_drewN alloc_drewN Over.cell Over.frozen lt_s1 lt_s2 lt_s3 le_s0 le_s1 le_s2 le_s3 eq_s0 eq_s1 eq_s2 qe_s0

def nxD (wa tr : Int) (P : Pm) (x : Ac) : Pm := if x.k = 1 then nxI wa P x.op else if x.k = 2 then nxF P else if x.k = 3 then nxT wa tr P else P
def tellD (wa tr : Int) (P : Pm) (x : Ac) : Int := if x.k = 2 then numF P else if x.k = 3 then doT wa tr P else pinP (nxD wa tr P x)
theorem nxD_k (wa tr : Int) (P : Pm) (x : Ac) : (nxD wa tr P x).k ≤ P.k + 1 := by
  have h1 := nxI_k wa P x.op
  have h2 := nxF_k P
  have h3 := nxT_k wa tr P
  unfold nxD
  split
  · omega
  · split
    · omega
    · split <;> omega

def playD (wa tr : Int) (P : Pm) (A : List Ac) : Pm := A.foldl (nxD wa tr) P
theorem playD_snoc (wa tr : Int) (P : Pm) (A : List Ac) (j : Nat) (hj : j < A.length) : playD wa tr P (A.take (j + 1)) = nxD wa tr (playD wa tr P (A.take j)) A[j] := by
  have e : A.take (j + 1) = A.take j ++ [A[j]] := by rw [List.take_add_one, List.getElem?_eq_getElem hj]; rfl
  rw [e]
  simp only [playD, List.foldl_append, List.foldl_cons, List.foldl_nil]
theorem playD_k (wa tr : Int) (A : List Ac) : ∀ P : Pm, (playD wa tr P A).k ≤ P.k + A.length := by
  induction A with
  | nil => intro P; simp [playD]
  | cons x A ih =>
    intro P
    have h1 := ih (nxD wa tr P x)
    have h2 := nxD_k wa tr P x
    simp only [playD, List.foldl_cons, List.length_cons] at h1 ⊢
    omega
/-- What all of them tell. -/
def saysD (wa tr : Int) : Pm → List Ac → List Int
  | _, [] => []
  | P, x :: A => tellD wa tr P x :: saysD wa tr (nxD wa tr P x) A
theorem saysD_len (wa tr : Int) (A : List Ac) : ∀ P : Pm, (saysD wa tr P A).length = A.length := by
  induction A with
  | nil => intro P; rfl
  | cons x A ih => intro P; simp [saysD, ih]
theorem saysD_app (wa tr : Int) (A B : List Ac) : ∀ P : Pm, saysD wa tr P (A ++ B) = saysD wa tr P A ++ saysD wa tr (playD wa tr P A) B := by
  induction A with
  | nil => intro P; rfl
  | cons x A ih => intro P; simp [saysD, ih, playD]
theorem saysD_snoc (wa tr : Int) (P : Pm) (A : List Ac) (j : Nat) (hj : j < A.length) : saysD wa tr P (A.take (j + 1)) = saysD wa tr P (A.take j) ++ [tellD wa tr (playD wa tr P (A.take j)) A[j]] := by
  have e : A.take (j + 1) = A.take j ++ [A[j]] := by rw [List.take_add_one, List.getElem?_eq_getElem hj]; rfl
  rw [e, saysD_app]
  rfl


set_option maxHeartbeats 1000000 in
theorem do_c (p : Nat) (wa tr : Int) (P : Pm) (x : Ac) (w : World) (h : PrIs w p wa tr P) (hk : P.k < 100000) (r : Int) (hr : Hid (tellD wa tr P x = r)) : Calls Try.prog 21 #[ptr p, .agg #[.int .i64 x.k, .int .i64 x.op.b, .bool x.op.w, .int .i64 x.op.v]] w fun e w' => e = .returned (.int .i64 r) ∧ PrIs w' p wa tr (nxD wa tr P x) ∧ FrS (· = p) w w' := by
  obtain ⟨k, ⟨b, ow, v⟩⟩ := x
  have hr' := hr.out
  clear hr
  have hB : Hid (Below w.heap.size w (w.alloc (.cells #[.int .i64 k, .int .i64 b, .bool ow, .int .i64 v] 34))) := hide (belA w _)
  have hH := hide (h.below hB.out)
  clear h
  by_cases k1 : k = 1
  · subst k1
    have hr2 : pinP (nxI wa P ⟨b, ow, v⟩) = r := hr'
    have hq : nxD wa tr P ⟨1, b, ow, v⟩ = nxI wa P ⟨b, ow, v⟩ := rfl
    rw [hq]
    replace hr2 := hide hr2
    clear hr' hq
    go_enter Try.func21, Try.ntmps21
    go_wp2_with fail
    go_at_call 10
    refine (pIss_c p wa tr P ⟨b, ow, v⟩ _ hH.out _ (hide rfl)).mono ?_
    rintro e w2 ⟨rfl, h2, f2⟩
    have H2 := hide h2
    have F2 := hide ((FrS.of_below (F := (· = p)) hB.out).trans f2 (fun _ e => .inl e))
    clear h2 f2
    go_wp2_with fail
    go_at_call 18
    refine (pPin_c p wa tr _ _ H2.out r (hide hr2.out)).mono ?_
    rintro e w' ⟨rfl, hw'⟩
    rw [hw']
    clear hw' w'
    go_wp2_with fail
    go_ret
    exact ⟨rfl, H2.out, F2.out⟩
  by_cases k2 : k = 2
  · subst k2
    have hr2 : numF P = r := hr'
    have hq : nxD wa tr P ⟨2, b, ow, v⟩ = nxF P := rfl
    rw [hq]
    replace hr2 := hide hr2
    clear hr' hq k1
    go_enter Try.func21, Try.ntmps21
    go_wp2_with fail
    go_at_call 12
    refine (pFin_c p wa tr P _ hH.out hk r hr2 _ (hide rfl)).mono ?_
    rintro e w2 ⟨rfl, h2, f2⟩
    have H2 := hide h2
    have F2 := hide ((FrS.of_below (F := (· = p)) hB.out).trans f2 (fun _ e => .inl e))
    clear h2 f2
    go_wp2_with fail
    go_ret
    exact ⟨rfl, H2.out, F2.out⟩
  by_cases k3 : k = 3
  · subst k3
    have hr2 : doT wa tr P = r := hr'
    have hq : nxD wa tr P ⟨3, b, ow, v⟩ = nxT wa tr P := rfl
    rw [hq]
    replace hr2 := hide hr2
    clear hr' hq k1 k2
    go_enter Try.func21, Try.ntmps21
    go_wp2_with fail
    go_at_call 14
    refine (pTick_c p wa tr P _ hH.out r hr2).mono ?_
    rintro e w2 ⟨rfl, h2, f2⟩
    have H2 := hide h2
    have F2 := hide ((FrS.of_below (F := (· = p)) hB.out).trans f2 (fun _ e => .inl e))
    clear h2 f2
    go_wp2_with fail
    go_ret
    exact ⟨rfl, H2.out, F2.out⟩
  · have hq : nxD wa tr P ⟨k, b, ow, v⟩ = P := by show (if k = 1 then _ else if k = 2 then _ else if k = 3 then _ else P) = P; rw [if_neg k1, if_neg k2, if_neg k3]
    have hr2 : pinP P = r := by rw [← hr']; show _ = (if k = 2 then _ else if k = 3 then _ else _); rw [if_neg k2, if_neg k3, hq]
    rw [hq]
    replace hr2 := hide hr2
    clear hr' hq
    have k1' : decide (k = 1) = false ∧ (k == 1) = false := ⟨by simpa using k1, by simpa using k1⟩
    replace k1 := hide k1
    have k2' : decide (k = 2) = false ∧ (k == 2) = false := ⟨by simpa using k2, by simpa using k2⟩
    replace k2 := hide k2
    have k3' : decide (k = 3) = false ∧ (k == 3) = false := ⟨by simpa using k3, by simpa using k3⟩
    replace k3 := hide k3
    go_enter Try.func21, Try.ntmps21
    go_wp2_with fail
    go_at_call 18
    refine (pPin_c p wa tr _ _ hH.out r (hide hr2.out)).mono ?_
    rintro e w' ⟨rfl, hw'⟩
    rw [hw']
    clear hw' w'
    go_wp2_with fail
    go_ret
    exact ⟨rfl, hH.out, FrS.of_below hB.out⟩
end Go.Proofs.Ytmdioofpghbjbaa
