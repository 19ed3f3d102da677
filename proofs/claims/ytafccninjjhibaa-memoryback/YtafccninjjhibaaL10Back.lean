/- The walk of MemoryBack: it returns true; no old memory turns. Written by wip/gen10l.py. -/
import Derived.Test.YtafccninjjhibaaLaw10
import Derived.Test.YtafccninjjhibaaRmA
namespace Go.Proofs.Ytafccninjjhibaa
open Go.ChangeShapes Go.WideShapes Go.ChangeAt Go.RowKit
set_option linter.unusedSimpArgs false
set_option linter.unusedVariables false
set_option maxRecDepth 10000

attribute [local go_sem, local simp] over_const setCell_drewN alloc_drewN Over.cell Over.frozen lt_s1 lt_s2 lt_s3 le_s0 le_s1 le_s2 le_s3 eq_s0 eq_s1 eq_s2 qe_s0

abbrev b5 : Bun := ⟨5, true, true, 0⟩
theorem new35 : newM 3 5 = [b5, b5, b5] := by rfl
theorem ok5 : okB b5 := by simp [okB]
theorem get35 (x : Int) : (hasM (newM 3 5) x = true ∧ 0 ≤ x ∧ x ≤ 2 ∧ getM (newM 3 5) x = b5) ∨ (hasM (newM 3 5) x = false ∧ (x < 0 ∨ 2 < x) ∧ getM (newM 3 5) x = bun0) := by
  rw [new35]
  by_cases c : hasM [b5, b5, b5] x = true
  · left
    obtain ⟨j, rfl, hj⟩ := hasM_at c
    refine ⟨c, by omega, by simp at hj; omega, ?_⟩
    rw [getM_nat hj]
    have : j = 0 ∨ j = 1 ∨ j = 2 := by simp at hj; omega
    rcases this with rfl | rfl | rfl <;> rfl
  · right
    have c' : hasM [b5, b5, b5] x = false := by simpa using c
    refine ⟨c', ?_, getM_out c'⟩
    simp [hasM] at c
    omega

theorem set_set_same (L : List Bun) (j : Nat) (hj : j < L.length) (r b : Bun) (h : joinB r b = L[j]) : putM (L.set j r) j b = L := by
  rw [putM_nat (by simpa using hj)]
  simp [h]

/-- What is taken, and put back. -/
theorem back_math (x c : Int) (o d : Bool) : putM (takM (newM 3 5) x c o) x (givenB (getM (newM 3 5) x) c o d) = newM 3 5 ∧ okB (givenB (getM (newM 3 5) x) c o d) ∧ (givenB (getM (newM 3 5) x) c o d).n ≤ 5 := by
  rcases get35 x with ⟨h1, h2, h3, h4⟩ | ⟨h1, h2, h4⟩
  · rw [h4]
    have h := parts_math 5 true true 0 c o d ok5 (givenB b5 c o d) (restB b5 c o) rfl rfl
    obtain ⟨p0, p1, p2, p3, p4, p5, p6, p7, p8, -⟩ := h
    refine ⟨?_, p3, by omega⟩
    obtain ⟨j, rfl, hj⟩ := hasM_at h1
    have e : (newM 3 5)[j] = b5 := by rw [← getM_nat hj]; exact h4
    rw [takM_nat hj, e]
    refine set_set_same _ j hj _ _ ?_
    rw [e]
    rcases p8 with p8 | p8
    · exact p8
    · simp at p8
  · rw [h4, given_zero, takM_out h1, putM_out h1]
    exact ⟨rfl, okB_zero, by decide⟩

set_option maxHeartbeats 1000000 in
theorem MemoryBack_walk (ct : Int) (o d : Bool) (x : Int) (w : World) : Calls Try.prog 6 #[.int .i64 ct, .agg #[.bool o, .bool d], .int .i64 x] w fun e w' => e = .returned (.bool true) ∧ Below w.heap.size w w' := by
  obtain ⟨r, hr⟩ : ∃ r, Hid (givenB (getM (newM 3 5) x) ct o d = r) := ⟨_, rfl⟩
  obtain ⟨L2, hL2⟩ : ∃ L2, Hid (takM (newM 3 5) x ct o = L2) := ⟨_, rfl⟩
  have hbm := back_math x ct o d
  rw [hr.out, hL2.out] at hbm
  have hput : Hid (putM L2 x r = newM 3 5) := hbm.1
  have hok := hide hbm.2.1
  have hrn := hbm.2.2
  clear hbm
  have h35 := get35 x
  obtain ⟨q, hq⟩ : ∃ q, Hid (hasM L2 x = q) := ⟨_, rfl⟩
  have hq2 : hasM (newM 3 5) x = q := by rw [← hq.out, ← hL2.out]; unfold hasM; rw [takM_len]
  have hcase : (q = true ∧ ¬ x < 0 ∧ ¬ 2 < x) ∨ (q = false ∧ r = bun0 ∧ (x < 0 ∨ (¬ x < 0 ∧ 2 < x))) := by
    rcases h35 with ⟨e1, e2, e3, -⟩ | ⟨e1, e2, e3⟩
    · left; exact ⟨by rw [← hq2]; exact e1, by omega, by omega⟩
    · right; refine ⟨by rw [← hq2]; exact e1, by rw [← hr.out, e3, given_zero], by omega⟩
  clear h35 hq2
  go_enter Try.func6, Try.ntmps6
  go_wp2_with fail
  go_at_call 10
  refine (mNew_c 3 5 5 _ (by decide) (by decide)).mono ?_
  rintro e w1 ⟨p, g, rfl, h1, hp1, hg1, hb1⟩
  have k0 : w1.cell? ⟨w.heap.size, 0, none⟩ = some (.bool o) := (hb1.cell (p := ⟨w.heap.size, 0, none⟩) (by simp)).trans (by simp [go_sem])
  have k1 : w1.cell? ⟨w.heap.size, 1, none⟩ = some (.bool d) := (hb1.cell (p := ⟨w.heap.size, 1, none⟩) (by simp)).trans (by simp [go_sem])
  have hlt : w.heap.size < w1.heap.size := by have := hb1.size; simp at this; omega
  have E1 := MEnv.first (belA w (.cells #[.bool o, .bool d] 45)) h1 hp1 hg1 hb1
  have hgw : w.heap.size < g := by simp at hg1; omega
  have hgl : g < w1.heap.size := h1.gl
  clear h1 hp1 hg1 hb1
  replace E1 := hide E1
  go_wp2_with fail
  go_at_call 8
  refine (awake10_any _).mono ?_
  rintro e w2 ⟨rfl, hb2⟩
  have E2 := hide ((unhide E1).quiet hb2)
  replace k0 := keep_cell (hb2.block _ hlt) k0
  replace k1 := keep_cell (hb2.block _ hlt) k1
  have hlt2 := Nat.lt_of_lt_of_le hlt hb2.size
  have hgl2 := Nat.lt_of_lt_of_le hgl hb2.size
  clear hb2 E1 hlt hgl
  go_wp2_with fail
  go_at_call 17
  refine (mAll_c p g 5 _ w2 (unhide E2).n 3 rfl).mono ?_
  rintro e w3 ⟨rfl, hO3, hb3⟩
  have E3 := hide ((unhide E2).quiet hb3)
  replace k0 := keep_cell (hb3.block _ hlt2) k0
  replace k1 := keep_cell (hb3.block _ hlt2) k1
  have hlt3 := Nat.lt_of_lt_of_le hlt2 hb3.size
  have hs3 := hO3.lt
  replace hO3 := hide hO3
  clear hb3 E2
  go_wp2_with fail
  go_at_call 15
  refine (mTake_c p g 5 x ct o d _ w3 (unhide E3).n (by decide) r hr L2 hL2).mono ?_
  rintro e w4 ⟨rfl, h4, f4⟩
  have E4 := (unhide E3).step (Below.refl _ _) h4 f4
  have hO4 := (unhide hO3).fr f4 (by omega)
  have hs4 := hO4.lt
  clear h4 f4 E3 hO3 k0 k1
  have b4 := bun_newV w4 r 31
  have E5 := hide (E4.quiet (belA w4 (.cells #[.int .i64 r.n, .bool r.o, .bool r.h, .int .i64 r.d] 31)))
  have hO5 := hide (hO4.alloc (.cells #[.int .i64 r.n, .bool r.o, .bool r.h, .int .i64 r.d] 31))
  have hgl4 := E4.n.gl
  replace b4 := hide b4
  clear E4 hO4
  go_wp2_with fail
  go_at_call 13
  refine (mPut_c p g 5 5 x r L2 _ (unhide E5).n (unhide hok) hrn (by decide) q hq _ hput).mono ?_
  rintro e w5 ⟨rfl, h5, f5⟩
  have b5 := (unhide b4).fr f5 (by omega)
  have hO6 := hide ((unhide hO5).fr f5 (by omega))
  have E6 := hide ((unhide E5).step (Below.refl _ _) h5 f5)
  obtain ⟨-, y0, y1, y2, y3, -, -, -, -⟩ := b5
  clear h5 f5 b4 hO5 E5
  rcases hcase with ⟨rfl, c1, c2⟩ | ⟨rfl, rfl, c1 | ⟨c1, c2⟩⟩
  · go_wp2_with fail
    go_at_call 17
    refine (mAll_c p g _ _ _ (unhide E6).n 3 rfl).mono ?_
    rintro e w6 ⟨rfl, hO7, hb6⟩
    have hO8 := hide ((unhide hO6).below hb6)
    have E7 := hide ((unhide E6).quiet hb6)
    replace hO7 := hide hO7
    clear hb6 hO6 E6
    go_wp2_with fail
    go_at_call 16
    refine (sameB_c _ _ _ _ _ _ (unhide hO7).view (unhide hO8).view).mono ?_
    rintro e w7 ⟨rfl, nq, rfl⟩
    have hfin := hide ((unhide E7).quiet (belD w6 nq)).bel
    go_wp2_with fail
    go_ret
    exact ⟨rfl, unhide hfin⟩
  · go_wp2_with fail
    go_at_call 17
    refine (mAll_c p g _ _ _ (unhide E6).n 3 rfl).mono ?_
    rintro e w6 ⟨rfl, hO7, hb6⟩
    have hO8 := hide ((unhide hO6).below hb6)
    have E7 := hide ((unhide E6).quiet hb6)
    replace hO7 := hide hO7
    clear hb6 hO6 E6
    go_wp2_with fail
    go_at_call 16
    refine (sameB_c _ _ _ _ _ _ (unhide hO7).view (unhide hO8).view).mono ?_
    rintro e w7 ⟨rfl, nq, rfl⟩
    have hfin := hide ((unhide E7).quiet (belD w6 nq)).bel
    go_wp2_with fail
    go_ret
    exact ⟨rfl, unhide hfin⟩
  · go_wp2_with fail
    go_at_call 17
    refine (mAll_c p g _ _ _ (unhide E6).n 3 rfl).mono ?_
    rintro e w6 ⟨rfl, hO7, hb6⟩
    have hO8 := hide ((unhide hO6).below hb6)
    have E7 := hide ((unhide E6).quiet hb6)
    replace hO7 := hide hO7
    clear hb6 hO6 E6
    go_wp2_with fail
    go_at_call 16
    refine (sameB_c _ _ _ _ _ _ (unhide hO7).view (unhide hO8).view).mono ?_
    rintro e w7 ⟨rfl, nq, rfl⟩
    have hfin := hide ((unhide E7).quiet (belD w6 nq)).bel
    go_wp2_with fail
    go_ret
    exact ⟨rfl, unhide hfin⟩
end Go.Proofs.Ytafccninjjhibaa
