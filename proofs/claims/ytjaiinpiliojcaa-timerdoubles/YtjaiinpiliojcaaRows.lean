/-
  No cell of these rows narrows 'for every input' (looked for: loops, veiled, ifaces, maps, wideKeys, modest, calm, conditions, laid).
  DERIVED. THE GIVEN ROWS OF THIS SEAT. 5 by the template 'for every input the law returns true; each argument reads behind the call as it read before'; 0 by the template 'total and deterministic' (their statements: YtjaiinpiliojcaaTotals.lean).
  GIVEN WITH THE SEED: the statements are not yours to turn. If you find one false, say at which input.
  Laid BY PROGRAM, IN A SANDBOX (cutbox-rows.mjs): the forced cells as the released guide's own fill.sh prints them over the translation c79dcf76446747f9… (all of the seat's roots in one cut). By AI agents, Wed Nov 11 2026. No macro, syntax, notation, axiom, sorry.
-/
import Derived.Test.YtjaiinpiliojcaaChecked
import GoSem.Claim
import GoSem.ClaimJoined
import GoSem.ClaimMapViews
import Derived.JoinedTies
import Derived.KernelRfl
namespace Go.Proofs.Ytjaiinpiliojcaa
/- THE CELL 'sum', in the pinned program and in every row, IS THE sha256 OF THE DUMP (.gsa) THAT YtjaiinpiliojcaaProg.lean LOADS. Nothing in Lean hashes anything: it is a label: what it is worth is what the hold of that sum in a sandbox is worth. -/
noncomputable def Try.pinned : Pinned := { name := "ytjaiinpiliojcaa", sum := "c79dcf76446747f9629f70ab5e8e9f955ee54475e4c13b16c830834029c0cf39", checked := Try.checked }
namespace Rows
def none {H : Type} : Left H := { results := [], args := [] }

/-- 'jetonlaw07.TimerTicks': WHATEVER THE INPUT: true; the input reads as it did. -/
def timerTicksSpec : ChangeSpec := { name := "timerTicks", fn := fun _ => fun
  | [d1, d2, d3] => { results := [.lit (.bool true)], args := [d1, d2, d3] }
  | _ => none }
def timerTicksRow : OpenClaim := { program := "ytjaiinpiliojcaa", sum := "c79dcf76446747f9629f70ab5e8e9f955ee54475e4c13b16c830834029c0cf39", func := "jeton/jetonlaw07.TimerTicks", spec := "timerTicks", apart := false }
def TimerTicksSaid : Prop := timerTicksRow.holds Try.pinned (OpenSpec.ofChange timerTicksSpec)

/-- ITS FALSE NEIGHBOUR: 'it returns false'. Refute it at one input. -/
def timerTicksWrong : ChangeSpec := { name := "timerTicks", fn := fun _ => fun
  | [d1, d2, d3] => { results := [.lit (.bool false)], args := [d1, d2, d3] }
  | _ => none }
def TimerTicksWrongFalsely : Prop := timerTicksRow.holds Try.pinned (OpenSpec.ofChange timerTicksWrong)

/-- 'jetonlaw07.TimerTotal': WHATEVER THE INPUT: true; the input reads as it did. -/
def timerTotalSpec : ChangeSpec := { name := "timerTotal", fn := fun _ => fun
  | [d1, d2] => { results := [.lit (.bool true)], args := [d1, d2] }
  | _ => none }
def timerTotalRow : OpenClaim := { program := "ytjaiinpiliojcaa", sum := "c79dcf76446747f9629f70ab5e8e9f955ee54475e4c13b16c830834029c0cf39", func := "jeton/jetonlaw07.TimerTotal", spec := "timerTotal", apart := false }
def TimerTotalSaid : Prop := timerTotalRow.holds Try.pinned (OpenSpec.ofChange timerTotalSpec)

/-- ITS FALSE NEIGHBOUR: 'it returns false'. Refute it at one input. -/
def timerTotalWrong : ChangeSpec := { name := "timerTotal", fn := fun _ => fun
  | [d1, d2] => { results := [.lit (.bool false)], args := [d1, d2] }
  | _ => none }
def TimerTotalWrongFalsely : Prop := timerTotalRow.holds Try.pinned (OpenSpec.ofChange timerTotalWrong)

/-- 'jetonlaw07.TimerOnce': WHATEVER THE INPUT: true; the input reads as it did. -/
def timerOnceSpec : ChangeSpec := { name := "timerOnce", fn := fun _ => fun
  | [d1, d2] => { results := [.lit (.bool true)], args := [d1, d2] }
  | _ => none }
def timerOnceRow : OpenClaim := { program := "ytjaiinpiliojcaa", sum := "c79dcf76446747f9629f70ab5e8e9f955ee54475e4c13b16c830834029c0cf39", func := "jeton/jetonlaw07.TimerOnce", spec := "timerOnce", apart := false }
def TimerOnceSaid : Prop := timerOnceRow.holds Try.pinned (OpenSpec.ofChange timerOnceSpec)

/-- ITS FALSE NEIGHBOUR: 'it returns false'. Refute it at one input. -/
def timerOnceWrong : ChangeSpec := { name := "timerOnce", fn := fun _ => fun
  | [d1, d2] => { results := [.lit (.bool false)], args := [d1, d2] }
  | _ => none }
def TimerOnceWrongFalsely : Prop := timerOnceRow.holds Try.pinned (OpenSpec.ofChange timerOnceWrong)

/-- 'jetonlaw07.TimerGrows': WHATEVER THE INPUT: true; the input reads as it did. -/
def timerGrowsSpec : ChangeSpec := { name := "timerGrows", fn := fun _ => fun
  | [d1, d2] => { results := [.lit (.bool true)], args := [d1, d2] }
  | _ => none }
def timerGrowsRow : OpenClaim := { program := "ytjaiinpiliojcaa", sum := "c79dcf76446747f9629f70ab5e8e9f955ee54475e4c13b16c830834029c0cf39", func := "jeton/jetonlaw07.TimerGrows", spec := "timerGrows", apart := false }
def TimerGrowsSaid : Prop := timerGrowsRow.holds Try.pinned (OpenSpec.ofChange timerGrowsSpec)

/-- ITS FALSE NEIGHBOUR: 'it returns false'. Refute it at one input. -/
def timerGrowsWrong : ChangeSpec := { name := "timerGrows", fn := fun _ => fun
  | [d1, d2] => { results := [.lit (.bool false)], args := [d1, d2] }
  | _ => none }
def TimerGrowsWrongFalsely : Prop := timerGrowsRow.holds Try.pinned (OpenSpec.ofChange timerGrowsWrong)

/-- 'jetonlaw07.TimerDoubles': WHATEVER THE INPUT: true; the input reads as it did. -/
def timerDoublesSpec : ChangeSpec := { name := "timerDoubles", fn := fun _ => fun
  | [d1, d2] => { results := [.lit (.bool true)], args := [d1, d2] }
  | _ => none }
def timerDoublesRow : OpenClaim := { program := "ytjaiinpiliojcaa", sum := "c79dcf76446747f9629f70ab5e8e9f955ee54475e4c13b16c830834029c0cf39", func := "jeton/jetonlaw07.TimerDoubles", spec := "timerDoubles", apart := false }
def TimerDoublesSaid : Prop := timerDoublesRow.holds Try.pinned (OpenSpec.ofChange timerDoublesSpec)

/-- ITS FALSE NEIGHBOUR: 'it returns false'. Refute it at one input. -/
def timerDoublesWrong : ChangeSpec := { name := "timerDoubles", fn := fun _ => fun
  | [d1, d2] => { results := [.lit (.bool false)], args := [d1, d2] }
  | _ => none }
def TimerDoublesWrongFalsely : Prop := timerDoublesRow.holds Try.pinned (OpenSpec.ofChange timerDoublesWrong)

/- THE SECOND FORM. 'bulk': how many values and letters a reading holds, each counted each time it is reached (what is shared counts as often as it is met; a slice's spare places count too). A statement '..UptoSaid' is the law's where the arguments, and the package variables that the reading takes, are together of bulk at most 1048576: NARROWER than '..Said'. Prove '..Said' where nothing that the law and all that it calls make is longer than what came in: it says more and counts as full. Else prove '..UptoSaid'. A law counts once. -/
mutual
def uptoBulk {H : Type} : DataW H → Nat
  | .lit (.string bytes) => bytes.length + 1
  | .lit _ => 1
  | .nil => 1
  | .ptr d => uptoBulk d + 1
  | .slice elems spare => uptoBulkAll elems + uptoBulkAll spare + 1
  | .agg parts => uptoBulkAll parts + 1
  | .iface _ d => uptoBulk d + 1
  | .map entries => uptoBulkEntries entries + 1
  | .held _ => 1
def uptoBulkAll {H : Type} : List (DataW H) → Nat
  | [] => 0
  | d :: r => uptoBulk d + uptoBulkAll r
def uptoBulkEntries {H : Type} : List (Lit × DataW H) → Nat
  | [] => 0
  | x :: r => uptoBulkEntry x + uptoBulkEntries r
def uptoBulkEntry {H : Type} : Lit × DataW H → Nat
  | (.string bytes, d) => bytes.length + uptoBulk d + 1
  | (_, d) => uptoBulk d + 1
 end
def uptoSmall : (H : Type) → List (DataW H) → Bool := fun _ ds => decide (uptoBulkAll ds ≤ 1048576)
def OpenSpec.upto (s : _root_.Go.ChangeSpec) : _root_.Go.OpenSpec := { _root_.Go.OpenSpec.ofChange s with cond := some uptoSmall }

/-- 'jetonlaw07.TimerTicks', WHERE WHAT IT READS IS OF BULK AT MOST 1048576: true; the input reads as it did. -/
def timerTicksUptoRow : OpenClaim := { program := "ytjaiinpiliojcaa", sum := "c79dcf76446747f9629f70ab5e8e9f955ee54475e4c13b16c830834029c0cf39", func := "jeton/jetonlaw07.TimerTicks", spec := "timerTicks", apart := false, narrowed := true }
def TimerTicksUptoSaid : Prop := timerTicksUptoRow.holds Try.pinned (OpenSpec.upto timerTicksSpec)

/-- 'jetonlaw07.TimerTotal', WHERE WHAT IT READS IS OF BULK AT MOST 1048576: true; the input reads as it did. -/
def timerTotalUptoRow : OpenClaim := { program := "ytjaiinpiliojcaa", sum := "c79dcf76446747f9629f70ab5e8e9f955ee54475e4c13b16c830834029c0cf39", func := "jeton/jetonlaw07.TimerTotal", spec := "timerTotal", apart := false, narrowed := true }
def TimerTotalUptoSaid : Prop := timerTotalUptoRow.holds Try.pinned (OpenSpec.upto timerTotalSpec)

/-- 'jetonlaw07.TimerOnce', WHERE WHAT IT READS IS OF BULK AT MOST 1048576: true; the input reads as it did. -/
def timerOnceUptoRow : OpenClaim := { program := "ytjaiinpiliojcaa", sum := "c79dcf76446747f9629f70ab5e8e9f955ee54475e4c13b16c830834029c0cf39", func := "jeton/jetonlaw07.TimerOnce", spec := "timerOnce", apart := false, narrowed := true }
def TimerOnceUptoSaid : Prop := timerOnceUptoRow.holds Try.pinned (OpenSpec.upto timerOnceSpec)

/-- 'jetonlaw07.TimerGrows', WHERE WHAT IT READS IS OF BULK AT MOST 1048576: true; the input reads as it did. -/
def timerGrowsUptoRow : OpenClaim := { program := "ytjaiinpiliojcaa", sum := "c79dcf76446747f9629f70ab5e8e9f955ee54475e4c13b16c830834029c0cf39", func := "jeton/jetonlaw07.TimerGrows", spec := "timerGrows", apart := false, narrowed := true }
def TimerGrowsUptoSaid : Prop := timerGrowsUptoRow.holds Try.pinned (OpenSpec.upto timerGrowsSpec)

/-- 'jetonlaw07.TimerDoubles', WHERE WHAT IT READS IS OF BULK AT MOST 1048576: true; the input reads as it did. -/
def timerDoublesUptoRow : OpenClaim := { program := "ytjaiinpiliojcaa", sum := "c79dcf76446747f9629f70ab5e8e9f955ee54475e4c13b16c830834029c0cf39", func := "jeton/jetonlaw07.TimerDoubles", spec := "timerDoubles", apart := false, narrowed := true }
def TimerDoublesUptoSaid : Prop := timerDoublesUptoRow.holds Try.pinned (OpenSpec.upto timerDoublesSpec)

end Rows
end Go.Proofs.Ytjaiinpiliojcaa
