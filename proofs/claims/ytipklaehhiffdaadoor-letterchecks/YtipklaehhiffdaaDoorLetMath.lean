/- Configurations and letters as plain structures, and the document's answers on them (layer 4). Nothing of the program. -/
import Derived.Test.YtipklaehhiffdaaDoorBunMath
namespace Go.Proofs.YtipklaehhiffdaaDoor

def nodeB (x n : Int) : Bool := decide (0 ≤ x) && decide (x < n)
def anyB (x n : Int) : Bool := decide (x = n) || nodeB x n
def inB (x lo hi : Int) : Bool := decide (lo ≤ x) && decide (x ≤ hi)

/-- All of a configuration that has no error of its own. -/
def setB (s y c w t p : Int) : Bool := inB s 1 64 && inB y 1 16 && inB c 1 65536 && inB w 1 64 && inB t 0 8 && inB p 0 2

def cfgZ (n b k s y c w t p : Int) : Int :=
  if setB s y c w t p = false then 1 else if inB n 1 64 = false then 2 else if inB b 1 64 = false then 3 else if inB k n 65536 = false then 4 else 0

/-- Ends of a way, as bits: nodes, home. -/
def endZ (nd hm : Bool) : Int := (if nd = true then 1 else 0) + (if hm = true then 2 else 0)

def oneB (nd hm : Bool) (x n : Int) : Bool := if nodeB x n = true then nd else decide (x = n) && hm

structure LRow where
  fn : Bool
  fh : Bool
  tn : Bool
  th : Bool
  s : Bool
  h : Bool
  wr : Bool
  tk : Bool

/-- What a letter of a kind says. -/
def rowL (k : Int) : LRow :=
  if k = 1 then ⟨true, true, true, true, false, false, false, true⟩
  else if k = 2 then ⟨true, false, true, true, false, false, true, false⟩
  else if k = 3 then ⟨true, false, false, true, false, false, false, false⟩
  else if k = 4 then ⟨false, true, true, false, true, true, false, false⟩
  else if k = 6 then ⟨false, true, true, false, true, false, false, false⟩
  else ⟨true, false, false, true, true, false, false, false⟩

def wayB (r : LRow) (a b n : Int) : Bool := oneB r.fn r.fh a n && oneB r.tn r.th b n && !decide (a = b)

def seqB (s : Bool) (q : Int) : Bool := if s = true then decide (1 ≤ q) else decide (q = 0)
def whoB (h : Bool) (x n : Int) : Bool := if h = true then nodeB x n else decide (x = 0)
def marksB (r : LRow) (q x : Int) (wr : Bool) (n : Int) : Bool := seqB r.s q && whoB r.h x n && (r.wr || !wr)

def sentZ (b : Bun) (t : Int) : Int := if checkZ b t = 0 then (if b.n = 0 then 4 else 0) else checkZ b t

def noneB (b : Bun) : Bool := decide (b.n = 0) && !b.o && !b.h && decide (b.d = 0)

structure Let where
  k : Int
  a : Int
  b : Int
  blk : Int
  seq : Int
  who : Int
  wr : Bool
  x : Bun

def letterZ (n b t : Int) (l : Let) : Int :=
  if inB l.k 1 7 = false then 7
  else if l.blk < 0 ∨ b ≤ l.blk then 3
  else if wayB (rowL l.k) l.a l.b n = false then 8
  else if marksB (rowL l.k) l.seq l.who l.wr n = false then 10
  else if l.k = 1 then sentZ l.x t
  else if noneB l.x = false then 6 else 0

theorem inB_true {x lo hi : Int} : inB x lo hi = true ↔ lo ≤ x ∧ x ≤ hi := by simp [inB]
theorem inB_false {x lo hi : Int} : inB x lo hi = false ↔ x < lo ∨ hi < x := by simp [inB]; omega
theorem nodeB_true {x n : Int} : nodeB x n = true ↔ 0 ≤ x ∧ x < n := by simp [nodeB]
theorem nodeB_false {x n : Int} : nodeB x n = false ↔ x < 0 ∨ n ≤ x := by simp [nodeB]; omega

theorem kinds7 {k : Int} (h : inB k 1 7 = true) : k = 1 ∨ k = 2 ∨ k = 3 ∨ k = 4 ∨ k = 5 ∨ k = 6 ∨ k = 7 := by
  have := inB_true.1 h; omega

/-- A letter that may be lost, and may be on its way, has no tokens. -/
theorem drops_math {n b t : Int} {l : Let} (h : letterZ n b t l = 0) (hk : l.k = 2) : noneB l.x = true := by
  unfold letterZ at h
  rw [hk] at h
  cases hx : noneB l.x
  · rw [hx] at h
    simp at h
    (repeat' split at h) <;> omega
  · rfl

theorem oneB_any {nd hm : Bool} {x n : Int} (h : oneB nd hm x n = true) : anyB x n = true := by
  unfold oneB at h; unfold anyB
  split at h
  · rename_i h1; rw [h1]; simp
  · simp at h; simp [h.1]

/-- A letter that may be on its way goes from one to another one. -/
theorem self_math {n b t : Int} {l : Let} (h : letterZ n b t l = 0) : l.a ≠ l.b ∧ anyB l.a n = true ∧ anyB l.b n = true ∧ (l.k = 1 ↔ 0 < l.x.n) := by
  unfold letterZ at h
  split at h <;> (try omega)
  split at h <;> (try omega)
  split at h <;> (try omega)
  rename_i h1
  split at h <;> (try omega)
  have h1' : wayB (rowL l.k) l.a l.b n = true := by simpa using h1
  unfold wayB at h1'
  simp only [Bool.and_eq_true, Bool.not_eq_true', decide_eq_false_iff_not] at h1'
  refine ⟨h1'.2, oneB_any h1'.1.1, oneB_any h1'.1.2, ?_⟩
  split at h
  · rename_i hk
    simp only [hk, true_iff]
    unfold sentZ at h
    split at h
    · rename_i hc
      have ho := (okB_of _ _ hc).1
      split at h <;> omega
    · omega
  · rename_i hk
    simp only [hk, false_iff]
    split at h
    · omega
    · rename_i hx
      have hx' : noneB l.x = true := by simpa using hx
      simp only [noneB, Bool.and_eq_true, decide_eq_true_eq] at hx'
      have := hx'.1.1.1
      omega
end Go.Proofs.YtipklaehhiffdaaDoor
