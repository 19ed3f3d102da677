/- Plain mathematics of layer 14 (proc): what a processor is, and what each call makes of it. No program is named here; no condition. -/
import Derived.Test.YtmdioofpghbjbaaTimMath
import Derived.Test.YtmdioofpghbjbaaFrSet
namespace Go.Proofs.Ytmdioofpghbjbaa
open Go.ChangeShapes Go.WideShapes Go.ChangeAt Go.RowKit
set_option linter.unusedSimpArgs false
set_option linter.unusedVariables false
set_option maxRecDepth 10000

attribute [local go_sem, local simp] over_const setCell_drewN alloc_drewN Over.cell Over.frozen lt_s1 lt_s2 lt_s3 le_s0 le_s1 le_s2 le_s3 eq_s0 eq_s1 eq_s2 qe_s0

/-- An operation. -/
structure Op3 where
  b : Int
  w : Bool
  v : Int

abbrev op30 : Op3 := ⟨0, false, 0⟩
abbrev opV (x : Op3) : Value := .agg #[.int .i64 x.b, .bool x.w, .int .i64 x.v]

/-- A processor: how many operations are over, its timer, its operation, whether it waits for one. -/
structure Pm where
  k : Int
  l : Int
  t : Int
  o : Bool
  op : Op3
  busy : Bool

abbrev pm0 : Pm := ⟨0, 0, 0, false, op30, false⟩
def nxI (wa : Int) (P : Pm) (x : Op3) : Pm := if P.busy = true then P else ⟨P.k, max wa 1, 0, false, x, true⟩
def nxF (P : Pm) : Pm := if P.busy = true then ⟨P.k + 1, 0, 0, false, op30, false⟩ else P
def numF (P : Pm) : Int := if P.busy = true then P.k + 1 else 0
def nxT (wa tr : Int) (P : Pm) : Pm := if P.busy = true then ⟨P.k, (tickT P.l P.t P.o wa tr).l, (tickT P.l P.t P.o wa tr).t, (tickT P.l P.t P.o wa tr).o, P.op, true⟩ else P
def doT (wa tr : Int) (P : Pm) : Int := if P.busy = true then (tickT P.l P.t P.o wa tr).n else 0
def pinP (P : Pm) : Int := if P.busy = true then P.op.b else -1

structure PInv (wa tr : Int) (P : Pm) : Prop where
  wb : wa ≤ 9223372036854775807
  rb : tr ≤ 9223372036854775807
  k0 : 0 ≤ P.k
  k1 : P.k ≤ 100000
  lb : P.l ≤ 9223372036854775807
  tb : -9223372036854775808 ≤ P.t

theorem tick_bd (l t : Int) (o : Bool) (wa tr : Int) (b1 : l ≤ 9223372036854775807) (b2 : -9223372036854775808 ≤ t) : (tickT l t o wa tr).l ≤ 9223372036854775807 ∧ -9223372036854775808 ≤ (tickT l t o wa tr).t := by
  unfold tickT
  split
  · exact ⟨b1, b2⟩
  · split
    · exact ⟨by dsimp only; omega, b2⟩
    · split
      · have := doubleZ_bd wa (t + 1) 1048576
        exact ⟨by dsimp only; omega, by dsimp only; omega⟩
      · exact ⟨by dsimp only; omega, b2⟩

section
variable {wa tr : Int} {P : Pm}
theorem PInv.iss (h : PInv wa tr P) (x : Op3) : PInv wa tr (nxI wa P x) := by
  have h1 := h.wb
  unfold nxI
  split
  · exact h
  · exact ⟨h.wb, h.rb, h.k0, h.k1, by dsimp only; omega, by dsimp only; omega⟩
theorem PInv.fin (h : PInv wa tr P) (hk : P.k < 100000) : PInv wa tr (nxF P) := by
  have h1 := h.k0
  unfold nxF
  split
  · exact ⟨h.wb, h.rb, by dsimp only; omega, by dsimp only; omega, by dsimp only; omega, by dsimp only; omega⟩
  · exact h
theorem PInv.tick (h : PInv wa tr P) : PInv wa tr (nxT wa tr P) := by
  have h1 := tick_bd P.l P.t P.o wa tr h.lb h.tb
  unfold nxT
  split
  · exact ⟨h.wb, h.rb, h.k0, h.k1, h1.1, h1.2⟩
  · exact h
end
theorem pinv0 {wa tr : Int} (h1 : wa ≤ 9223372036854775807) (h2 : tr ≤ 9223372036854775807) : PInv wa tr pm0 := ⟨h1, h2, by decide, by decide, by decide, by decide⟩

theorem nxI_k (wa : Int) (P : Pm) (x : Op3) : (nxI wa P x).k = P.k := by unfold nxI; split <;> rfl
theorem nxT_k (wa tr : Int) (P : Pm) : (nxT wa tr P).k = P.k := by unfold nxT; split <;> rfl
theorem nxF_k (P : Pm) : (nxF P).k ≤ P.k + 1 := by unfold nxF; split <;> (try dsimp only) <;> omega
end Go.Proofs.Ytmdioofpghbjbaa
