/- The document's memory: New, Set, Same (layer 10). -/
import Derived.Test.YtafccninjjhibaaMem
import Derived.Test.YtafccninjjhibaaRef01
import Derived.Test.YtafccninjjhibaaRef02j
import Derived.Test.YtafccninjjhibaaRef02b
namespace Go.Proofs.Ytafccninjjhibaa
open Go.ChangeShapes Go.WideShapes Go.ChangeAt Go.RowKit
set_option linter.unusedSimpArgs false
set_option linter.unusedVariables false
set_option maxRecDepth 10000

attribute [local go_sem, local simp] over_const setCell_drewN alloc_drewN Over.cell Over.frozen lt_s1 lt_s2 lt_s3 le_s0 le_s1 le_s2 le_s3 eq_s0 eq_s1 eq_s2 qe_s0

set_option maxHeartbeats 1000000 in
theorem sameB_c (v1 v2 : Value) (b1 b2 : Nat) (L : List Bun) (w : World) (h1 : ViewB w v1 b1 L) (h2 : ViewB w v2 b2 L) : Calls Try.prog 16 #[v1, v2] w fun e w' => e = .returned (.bool true) ∧ ∃ n, w' = w.drewN n := by
  have hV := hide h1
  have hU := hide h2
  obtain ⟨ao1, cap1, rfl, hl1, hm1, hc1⟩ := h1
  obtain ⟨ao2, cap2, rfl, hl2, hm2, hc2⟩ := h2
  have hmx : L.length ≤ 9223372036854775807 := by unfold maxLen at hm1; omega
  clear hc1 hc2 hm1 hm2
  go_enter Try.func16, Try.ntmps16
  go_wp2_with fail
  go_loopw [5] (fun i wr => ∃ j : Nat, j ≤ L.length ∧ i = .int .i64 j ∧ ∃ n, wr = w.drewN n) (fun i _ => L.length - (intOf i).toNat)
  case atStart => exact ⟨0, Nat.zero_le _, rfl, 0, rfl⟩
  case round =>
    obtain ⟨j, hj, rfl, n, rfl⟩ := hrel
    by_cases hlt : j < L.length
    · obtain ⟨-, -, -, k1⟩ := view_atB (unhide hV) rfl
      obtain ⟨-, -, -, k2⟩ := view_atB (unhide hU) rfl
      obtain ⟨o1, rfl, g1, d0, d1, d2, d3⟩ := k1 j hlt
      obtain ⟨o2, rfl, g2, f0, f1, f2, f3⟩ := k2 j hlt
      generalize L[j] = l at d0 d1 d2 d3 f0 f1 f2 f3
      have hlt' : (j : Int) < L.length := by omega
      clear k1 k2 hV hU
      go_wp2_with fail
      go_quiet (fail)
      go_wp2_with fail
      all_goals
        go_roundw
        case rel => exact ⟨j + 1, by omega, by simp, _, rfl⟩
        case measure => simp [intOf]; omega
    · obtain rfl : j = L.length := by omega
      clear hV hU
      go_wp2_with fail
      go_ret
      exact ⟨rfl, n, rfl⟩

abbrev bunO (x : Bun) : Obj := .cells #[.int .i64 x.n, .bool x.o, .bool x.h, .int .i64 x.d] 31

theorem own_emptyK {w : World} {k : Nat} (hk : w.heap.size = k) (o : Obj) : OwnB (w.alloc o) (.slice (some ⟨k, 0, none⟩) 0 0) k [] := hk ▸ own_emptyB w o

theorem set_mid {w w1 : World} {x : Bun} {oE : Obj} {ao : Option Addr} {v0 : Value} {n cap g1 j : Nat} {L : List Bun} (hown : OwnB w1 (.slice ao n cap) g1 ([] ++ L)) (hap : AppP ((w.alloc (bunO x)).alloc oE) w1 v0 (.slice ao n cap) (w.heap.size + 1) g1) (hj : j < L.length) :
    ∃ o, ao = some ⟨g1, o, none⟩ ∧ w.heap.size < g1 ∧ Below w.heap.size w w1 ∧ BunAt w1 w.heap.size x ∧ OwnB w1 (.slice (some ⟨g1, o, none⟩) n cap) g1 L
      ∧ w1.cell? ⟨g1, o + j * 4, none⟩ = some (.int .i64 L[j].n) ∧ w1.cell? ⟨g1, o + j * 4 + 1, none⟩ = some (.bool L[j].o) ∧ w1.cell? ⟨g1, o + j * 4 + 2, none⟩ = some (.bool L[j].h) ∧ w1.cell? ⟨g1, o + j * 4 + 3, none⟩ = some (.int .i64 L[j].d)
      ∧ w1.frozen? ⟨g1, o + j * 4, none⟩ = false ∧ w1.frozen? ⟨g1, o + j * 4 + 1, none⟩ = false ∧ w1.frozen? ⟨g1, o + j * 4 + 2, none⟩ = false ∧ w1.frozen? ⟨g1, o + j * 4 + 3, none⟩ = false := by
  rw [List.nil_append] at hown
  obtain ⟨o, rfl, f0, f1, f2, f3⟩ := own_atB hown rfl j hj
  obtain ⟨-, -, -, k⟩ := view_atB hown.view rfl
  obtain ⟨o2, e2, gl, k0, k1, k2, k3⟩ := k j hj
  obtain rfl : o = o2 := by simpa using e2
  have hl : w.heap.size < g1 := by
    rcases hap.lies with e | e
    · omega
    · simp at e; omega
  refine ⟨o, rfl, hl, ?_, ?_, hown, k0, k1, k2, k3, f0, f1, f2, f3⟩
  · exact (((Below.refl _ _).alloc (Nat.le_refl _) _).alloc (by simp) _).trans (hap.fr.below (fun i hi => by omega) (by simp))
  · exact ((bun_newV w x 31).carry (Below.heap_alloc _ _ _ (by simp))).carry (hap.fr.block w.heap.size (by simp) (by simp))

set_option maxHeartbeats 1000000 in
theorem refSet_c (v : Value) (b j : Nat) (x : Bun) (L : List Bun) (w : World) (h : ViewB w v b L) (hj : j < L.length) (hl : L.length ≤ 64) : Calls Try.prog 24 #[v, .int .i64 j, bunV x] w fun e w' => ∃ v' g', e = .returned v' ∧ OwnB w' v' g' (L.set j x) ∧ w.heap.size ≤ g' ∧ Below w.heap.size w w' := by
  obtain ⟨n, hn⟩ : ∃ n, Hid (L.length = n) := ⟨_, rfl⟩
  have hj' : (j : Int) < n := by have := hn.out; omega
  have hn64 : n ≤ 64 := by have := hn.out; omega
  have hh1 : ([] : List Bun).length + L.length ≤ 1000000 := by simp only [List.length_nil]; omega
  have hh2 : ([] : List Bun).length + L.length = n := by simpa using hn.out
  replace hh1 := hide hh1
  replace hh2 := hide hh2
  replace h := hide h
  go_enter Try.func24, Try.ntmps24
  go_wp2_with (at_builtin; refine wpList_appB rfl _ _ rfl rfl rfl (own_emptyK (by simp) _) (((unhide h).alloc _).alloc _) (unhide hh1) n (unhide hh2) ?_; intro ao' cap' w1 g1 hown hap; obtain ⟨o, rfl, hg1, hB1, y, hO1, k0, k1, k2, k3, f0, f1, f2, f3⟩ := set_mid hown hap hj; obtain ⟨-, y0, y1, y2, y3, -, -, -, -⟩ := y; replace hO1 := hide hO1; replace hB1 := hide hB1; clear hown hap)
  have hfin := own_setB (unhide hO1) rfl j hj x
  go_ret
  exact ⟨_, g1, rfl, hfin.1, by omega, (unhide hB1).trans (hfin.2.below (fun i hi => by omega) (unhide hB1).size)⟩
end Go.Proofs.Ytafccninjjhibaa
