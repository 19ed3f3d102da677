/- The contract of tell: calls, one after the other; two arbiters apart (layer 12). -/
import Derived.Test.YtlfdahcbkdiifaaLaw12
namespace Go.Proofs.Ytlfdahcbkdiifaa
open Go.ChangeShapes Go.WideShapes Go.ChangeAt Go.RowKit
set_option linter.unusedSimpArgs false
set_option linter.unusedVariables false
set_option maxRecDepth 10000

attribute [local go_sem, local simp] over_const setCell_drewN alloc_drewN Over.cell Over.frozen lt_s1 lt_s2 lt_s3 le_s0 le_s1 le_s2 le_s3 eq_s0 eq_s1 eq_s2 qe_s0

def nxTQ (N : Nat) (L : List Rq) (x : Ac) : List Rq := if x.k = 1 then nxAsk N L x.b x.n else if x.k = 2 ∨ x.k = 5 then nxDone L x.b x.s else nxAck N L x.b x.s x.n
def playQ (N : Nat) (L : List Rq) (A : List Ac) : List Rq := A.foldl (nxTQ N) L
theorem playQ_snoc (N : Nat) (L : List Rq) (A : List Ac) (j : Nat) (hj : j < A.length) : playQ N L (A.take (j + 1)) = nxTQ N (playQ N L (A.take j)) A[j] := by
  have e : A.take (j + 1) = A.take j ++ [A[j]] := by rw [List.take_add_one, List.getElem?_eq_getElem hj]; rfl
  rw [e]
  simp only [playQ, List.foldl_append, List.foldl_cons, List.foldl_nil]

/-- Two arbiters, apart. -/
structure Two (w wr : World) (p g N M : Nat) (L : List Rq) (F : Nat → Prop) (p' g' N' M' : Nat) (L' : List Rq) (F' : Nat → Prop) : Prop where
  a : AEnv w wr p g N M L F
  b : AEnv w wr p' g' N' M' L' F'
  dis : ∀ x, F x → ¬ F' x
  pa : ¬ F' p
  pb : ¬ F p'

section
variable {w wr w3 : World} {p g N M M2 p' g' N' M' : Nat} {L L2 L' : List Rq} {F F2 F' : Nat → Prop}
theorem Two.swap (h : Two w wr p g N M L F p' g' N' M' L' F') : Two w wr p' g' N' M' L' F' p g N M L F := ⟨h.b, h.a, fun x h1 h2 => h.dis x h2 h1, h.pb, h.pa⟩
theorem Two.quiet (h : Two w wr p g N M L F p' g' N' M' L' F') (hb : Below wr.heap.size wr w3) : Two w w3 p g N M L F p' g' N' M' L' F' := ⟨h.a.quiet hb, h.b.quiet hb, h.dis, h.pa, h.pb⟩
theorem Two.mono (h : Two w wr p g N M L F p' g' N' M' L' F') {K K' : Nat} (h1 : M ≤ K) (h2 : M' ≤ K') : Two w wr p g N K L F p' g' N' K' L' F' := ⟨h.a.mono h1, h.b.mono h2, h.dis, h.pa, h.pb⟩
theorem Two.step (h : Two w wr p g N M L F p' g' N' M' L' F') (hn : ArIs w3 p g N M2 L2 F2) (hs : Step F F2 wr w3) : Two w w3 p g N M2 L2 F2 p' g' N' M' L' F' := by
  have e := h.a.step (Below.refl _ _) hn hs
  refine ⟨e, ⟨h.b.n.fr hs.fr h.pb (fun b hb hf => h.dis b hf hb), h.b.f0, h.b.p0, e.bel⟩, fun x hx hx' => ?_, h.pa, fun hx => ?_⟩
  · rcases hs.new x hx with e | e
    · exact h.dis x e hx'
    · have := h.b.n.lt x hx'; omega
  · rcases hs.new p' hx with e | e
    · exact h.pb e
    · have := h.b.n.pl; omega
/-- A third one is written. -/
theorem Two.aside {G : Nat → Prop} (h : Two w wr p g N M L F p' g' N' M' L' F') (hf : FrS G wr w3) (hb : Below w.heap.size w w3) (h1 : ¬ G p) (h2 : ¬ G p') (h3 : ∀ x, F x → ¬ G x) (h4 : ∀ x, F' x → ¬ G x) : Two w w3 p g N M L F p' g' N' M' L' F' :=
  ⟨⟨h.a.n.fr hf h1 h3, h.a.f0, h.a.p0, hb⟩, ⟨h.b.n.fr hf h2 h4, h.b.f0, h.b.p0, hb⟩, h.dis, h.pa, h.pb⟩
/-- A new one beside another. -/
theorem Two.first (h : AEnv w wr p g N M L F) (hn : ArIs w3 p' g' N' M' L' F') (hf : ∀ b, F' b → wr.heap.size ≤ b) (hp : wr.heap.size ≤ p') (hb : Below wr.heap.size wr w3) : Two w w3 p g N M L F p' g' N' M' L' F' :=
  ⟨h.quiet hb, AEnv.first h.bel hn hf hp hb, fun x h1 h2 => (by have := h.n.lt x h1; have := hf x h2; omega), fun e => (by have := hf _ e; have := h.n.pl; omega), fun e => (by have := h.n.lt _ e; omega)⟩
end


set_option maxHeartbeats 1000000 in
theorem tell12_c (p g N M B : Nat) (L : List Rq) (F : Nat → Prop) (v : Value) (A : List Ac) (w : World) (h : ArIs w p g N M L F) (hA : ActsAt B w v A) (hBw : B ≤ w.heap.size) (hBF : ∀ b, F b → B ≤ b) (hM : M + A.length ≤ 100000) : Calls Try.prog 24 #[ptr p, v] w fun e w' => e = .returned (.tuple #[]) ∧ ∃ F', ArIs w' p g N (M + A.length) (playQ N L A) F' ∧ Step F F' w w' := by
  replace hA := hide hA
  replace h := hide h
  obtain ⟨ao, cap, rfl, hlc, hmx, _⟩ := id (unhide hA)
  have hmx' : A.length ≤ 9223372036854775807 := by omega
  clear hmx
  go_enter Try.func24, Try.ntmps24
  go_wp2_with fail
  go_loopw [8] (fun i wr => ∃ j : Nat, j ≤ A.length ∧ i = .int .i64 j ∧ ∃ F', ArIs wr p g N (M + j) (playQ N L (A.take j)) F' ∧ Step F F' w wr) (fun i _ => A.length - (intOf i).toNat)
  case atStart => exact ⟨0, Nat.zero_le _, rfl, F, unhide h, Step.refl _ _⟩
  case round =>
    obtain ⟨j, hj, rfl, F1, h1, f1⟩ := hrel
    by_cases hlt : j < A.length
    · have hlt' : (j : Int) < A.length := by omega
      obtain ⟨b, o', rfl, hbB, hbl, -, r0, r1, r2, r3⟩ := acts_row ((unhide hA).below (f1.fr.below (B := B) (fun i hi => hBF i hi) hBw)) hlt
      have hst := hide (playQ_snoc N L A j hlt)
      obtain ⟨x, hx⟩ : ∃ x, A[j] = x := ⟨_, rfl⟩
      rw [hx] at r0 r1 r2 r3 hst
      obtain ⟨k, xb, xs, xn⟩ := x
      clear hx
      obtain ⟨L1, hL1⟩ : ∃ L1, playQ N L (A.take j) = L1 := ⟨_, rfl⟩
      rw [hL1] at h1 hst
      replace hL1 := hide hL1
      have E1 := hide (h1.alloc (actsO ⟨k, xb, xs, xn⟩))
      have f1' := hide (f1.trans (Step.of_below (F := F1) (belA wr (actsO ⟨k, xb, xs, xn⟩))))
      clear h1 f1
      by_cases k1 : k = 1
      · subst k1
        go_wp2_with fail
        go_at_call 12
        refine (aAsk_c p g N (M + j) L1 F1 xb xn _ (unhide E1) (by omega) _ (hide rfl) _ (hide rfl)).mono ?_
        rintro e w3 ⟨rfl, F3, h3, s3⟩
        have h4 : Hid (ArIs w3 p g N (M + (j + 1)) (playQ N L (A.take (j + 1))) F3) := hide (by rw [hst.out]; exact h3)
        have f4 := hide ((unhide f1').trans s3)
        clear h3 s3 E1 f1'
        go_wp2_with fail
        go_roundw
        case rel => exact ⟨j + 1, by omega, by simp, F3, unhide h4, unhide f4⟩
        case measure => simp [intOf]; omega
      by_cases k2 : k = 2
      · subst k2
        go_wp2_with fail
        go_at_call 15
        refine (aDone_c p g N (M + j) L1 F1 xb xs _ (unhide E1) _ (hide rfl)).mono ?_
        rintro e w3 ⟨rfl, F3, h3, s3⟩
        have h4 : Hid (ArIs w3 p g N (M + (j + 1)) (playQ N L (A.take (j + 1))) F3) := hide (by rw [hst.out]; exact h3.mono (Nat.le_succ _))
        have f4 := hide ((unhide f1').trans s3)
        clear h3 s3 E1 f1'
        go_wp2_with fail
        go_roundw
        case rel => exact ⟨j + 1, by omega, by simp, F3, unhide h4, unhide f4⟩
        case measure => simp [intOf]; omega
      by_cases k5 : k = 5
      · subst k5
        go_wp2_with fail
        go_at_call 15
        refine (aDone_c p g N (M + j) L1 F1 xb xs _ (unhide E1) _ (hide rfl)).mono ?_
        rintro e w3 ⟨rfl, F3, h3, s3⟩
        have h4 : Hid (ArIs w3 p g N (M + (j + 1)) (playQ N L (A.take (j + 1))) F3) := hide (by rw [hst.out]; exact h3.mono (Nat.le_succ _))
        have f4 := hide ((unhide f1').trans s3)
        clear h3 s3 E1 f1'
        go_wp2_with fail
        go_roundw
        case rel => exact ⟨j + 1, by omega, by simp, F3, unhide h4, unhide f4⟩
        case measure => simp [intOf]; omega
      · have k1' : decide (k = 1) = false ∧ (k == 1) = false := ⟨by simpa using k1, by simpa using k1⟩
        have k2' : decide (k = 2) = false ∧ (k == 2) = false := ⟨by simpa using k2, by simpa using k2⟩
        have k5' : decide (k = 5) = false ∧ (k == 5) = false := ⟨by simpa using k5, by simpa using k5⟩
        replace k1 := hide k1
        replace k2 := hide k2
        replace k5 := hide k5
        go_wp2_with fail
        go_at_call 17
        refine (aAck_c p g N (M + j) L1 F1 xb xs xn _ (unhide E1) (by omega) _ (hide rfl) _ (hide rfl)).mono ?_
        rintro e w3 ⟨rfl, F3, h3, s3⟩
        have h4 : Hid (ArIs w3 p g N (M + (j + 1)) (playQ N L (A.take (j + 1))) F3) := hide (by rw [hst.out]; unfold nxTQ; rw [if_neg k1.out, if_neg (fun e => e.elim k2.out k5.out)]; exact h3)
        have f4 := hide ((unhide f1').trans s3)
        clear h3 s3 E1 f1'
        go_wp2_with fail
        go_roundw
        case rel => exact ⟨j + 1, by omega, by simp, F3, unhide h4, unhide f4⟩
        case measure => simp [intOf]; omega
    · obtain rfl : j = A.length := by omega
      rw [List.take_length] at h1
      replace h1 := hide h1
      replace f1 := hide f1
      go_wp2_with fail
      refine bodyPost_end (v := .tuple #[]) (by simp [results, Try.results24]) rfl ⟨rfl, F1, unhide h1, unhide f1⟩
end Go.Proofs.Ytlfdahcbkdiifaa
