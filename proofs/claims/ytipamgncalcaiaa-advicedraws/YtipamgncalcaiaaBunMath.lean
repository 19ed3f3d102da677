/- Tokens of a block as a plain structure, and the document's four functions of them (layer 2). Nothing of the program. -/
import Derived.Test.YtipamgncalcaiaaMath
namespace Go.Proofs.Ytipamgncalcaiaa

structure Bun where
  n : Int
  o : Bool
  h : Bool
  d : Int

def withV (b f : Bun) (a : Bool) : Bun := if (a && f.h) = true then ⟨b.n, b.o, true, f.d⟩ else b

def checkZ (b : Bun) (t : Int) : Int :=
  if b.n < 0 ∨ t < b.n then 4 else if b.n = 0 ∧ (b.o = true ∨ b.h = true) then 5 else if b.o = true ∧ b.h = false then 6 else if b.h = false ∧ b.d ≠ 0 then 6 else 0

def howManyZ (h : Bun) (c : Int) (o : Bool) : Int :=
  if h.o = true ∧ o = false then clampZ (clampZ c 0 h.n) 0 (h.n - 1) else clampZ c 0 h.n

def givenB (h : Bun) (c : Int) (o d : Bool) : Bun :=
  if howManyZ h c o = 0 then ⟨0, false, false, 0⟩ else withV ⟨howManyZ h c o, h.o && o, false, 0⟩ h (d || (h.o && o))

def restB (h : Bun) (c : Int) (o : Bool) : Bun :=
  if howManyZ h c o = 0 then h else if howManyZ h c o = h.n then ⟨0, false, false, 0⟩ else withV ⟨h.n - howManyZ h c o, h.o && !(h.o && o), false, 0⟩ h true

def joinB (h b : Bun) : Bun := withV (withV ⟨h.n + b.n, h.o || b.o, false, 0⟩ h true) b true

def fullB (t d : Int) : Bun := if t < 1 then ⟨0, false, false, 0⟩ else ⟨t, true, true, d⟩

/-- Tokens that may be, of some number. -/
def okB (b : Bun) : Prop := 0 ≤ b.n ∧ (b.n = 0 → b.o = false ∧ b.h = false) ∧ (b.o = true → b.h = true) ∧ (b.h = false → b.d = 0)

theorem okB_of (b : Bun) (t : Int) (hc : checkZ b t = 0) : okB b := by
  obtain ⟨n, o, h, d⟩ := b
  unfold checkZ at hc
  unfold okB
  split at hc
  · omega
  · split at hc
    · omega
    · split at hc
      · omega
      · split at hc
        · omega
        · cases o <;> cases h <;> simp_all <;> omega

theorem howMany_bd (n : Int) (o h : Bool) (d c : Int) (a : Bool) (h0 : 0 ≤ n) (hz : n = 0 → o = false) : 0 ≤ howManyZ ⟨n, o, h, d⟩ c a ∧ howManyZ ⟨n, o, h, d⟩ c a ≤ n := by
  unfold howManyZ clampZ
  cases o <;> cases a <;> simp_all <;> (repeat' split) <;> omega
end Go.Proofs.Ytipamgncalcaiaa
