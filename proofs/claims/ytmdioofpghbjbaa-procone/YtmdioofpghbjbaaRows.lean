/-
  No cell of these rows narrows 'for every input' (looked for: loops, veiled, ifaces, maps, wideKeys, modest, calm, conditions, laid).
  DERIVED. THE GIVEN ROWS OF THIS SEAT. 5 by the template 'for every input the law returns true; each argument reads behind the call as it read before'; 0 by the template 'total and deterministic' (their statements: YtmdioofpghbjbaaTotals.lean).
  GIVEN WITH THE SEED: the statements are not yours to turn. If you find one false, say at which input.
  Laid BY PROGRAM, IN A SANDBOX (cutbox-rows.mjs): the forced cells as the released guide's own fill.sh prints them over the translation 42c7acacd3803aaa… (all of the seat's roots in one cut). By AI agents, Wed Nov 11 2026. No macro, syntax, notation, axiom, sorry.
-/
import Derived.Test.YtmdioofpghbjbaaChecked
import GoSem.Claim
import GoSem.ClaimJoined
import GoSem.ClaimMapViews
import Derived.JoinedTies
import Derived.KernelRfl
namespace Go.Proofs.Ytmdioofpghbjbaa
/- THE CELL 'sum', in the pinned program and in every row, IS THE sha256 OF THE DUMP (.gsa) THAT YtmdioofpghbjbaaProg.lean LOADS. Nothing in Lean hashes anything: it is a label: what it is worth is what the hold of that sum in a sandbox is worth. -/
noncomputable def Try.pinned : Pinned := { name := "ytmdioofpghbjbaa", sum := "42c7acacd3803aaaff1678f0efeca9e732b7c1786704256e3ce2e7ee02ad86c5", checked := Try.checked }
namespace Rows
def none {H : Type} : Left H := { results := [], args := [] }

/-- 'jetonlaw14.ProcPlays': WHATEVER THE INPUT: true; the input reads as it did. -/
def procPlaysSpec : ChangeSpec := { name := "procPlays", fn := fun _ => fun
  | [d1, d2, d3] => { results := [.lit (.bool true)], args := [d1, d2, d3] }
  | _ => none }
def procPlaysRow : OpenClaim := { program := "ytmdioofpghbjbaa", sum := "42c7acacd3803aaaff1678f0efeca9e732b7c1786704256e3ce2e7ee02ad86c5", func := "jeton/jetonlaw14.ProcPlays", spec := "procPlays", apart := false }
def ProcPlaysSaid : Prop := procPlaysRow.holds Try.pinned (OpenSpec.ofChange procPlaysSpec)

/-- ITS FALSE NEIGHBOUR: 'it returns false'. Refute it at one input. -/
def procPlaysWrong : ChangeSpec := { name := "procPlays", fn := fun _ => fun
  | [d1, d2, d3] => { results := [.lit (.bool false)], args := [d1, d2, d3] }
  | _ => none }
def ProcPlaysWrongFalsely : Prop := procPlaysRow.holds Try.pinned (OpenSpec.ofChange procPlaysWrong)

/-- 'jetonlaw14.ProcOne': WHATEVER THE INPUT: true; the input reads as it did. -/
def procOneSpec : ChangeSpec := { name := "procOne", fn := fun _ => fun
  | [d1, d2] => { results := [.lit (.bool true)], args := [d1, d2] }
  | _ => none }
def procOneRow : OpenClaim := { program := "ytmdioofpghbjbaa", sum := "42c7acacd3803aaaff1678f0efeca9e732b7c1786704256e3ce2e7ee02ad86c5", func := "jeton/jetonlaw14.ProcOne", spec := "procOne", apart := false }
def ProcOneSaid : Prop := procOneRow.holds Try.pinned (OpenSpec.ofChange procOneSpec)

/-- ITS FALSE NEIGHBOUR: 'it returns false'. Refute it at one input. -/
def procOneWrong : ChangeSpec := { name := "procOne", fn := fun _ => fun
  | [d1, d2] => { results := [.lit (.bool false)], args := [d1, d2] }
  | _ => none }
def ProcOneWrongFalsely : Prop := procOneRow.holds Try.pinned (OpenSpec.ofChange procOneWrong)

/-- 'jetonlaw14.ProcEscalates': WHATEVER THE INPUT: true; the input reads as it did. -/
def procEscalatesSpec : ChangeSpec := { name := "procEscalates", fn := fun _ => fun
  | [d1, d2, d3] => { results := [.lit (.bool true)], args := [d1, d2, d3] }
  | _ => none }
def procEscalatesRow : OpenClaim := { program := "ytmdioofpghbjbaa", sum := "42c7acacd3803aaaff1678f0efeca9e732b7c1786704256e3ce2e7ee02ad86c5", func := "jeton/jetonlaw14.ProcEscalates", spec := "procEscalates", apart := false }
def ProcEscalatesSaid : Prop := procEscalatesRow.holds Try.pinned (OpenSpec.ofChange procEscalatesSpec)

/-- ITS FALSE NEIGHBOUR: 'it returns false'. Refute it at one input. -/
def procEscalatesWrong : ChangeSpec := { name := "procEscalates", fn := fun _ => fun
  | [d1, d2, d3] => { results := [.lit (.bool false)], args := [d1, d2, d3] }
  | _ => none }
def ProcEscalatesWrongFalsely : Prop := procEscalatesRow.holds Try.pinned (OpenSpec.ofChange procEscalatesWrong)

/-- 'jetonlaw14.ProcIdle': WHATEVER THE INPUT: true; the input reads as it did. -/
def procIdleSpec : ChangeSpec := { name := "procIdle", fn := fun _ => fun
  | [d1, d2, d3] => { results := [.lit (.bool true)], args := [d1, d2, d3] }
  | _ => none }
def procIdleRow : OpenClaim := { program := "ytmdioofpghbjbaa", sum := "42c7acacd3803aaaff1678f0efeca9e732b7c1786704256e3ce2e7ee02ad86c5", func := "jeton/jetonlaw14.ProcIdle", spec := "procIdle", apart := false }
def ProcIdleSaid : Prop := procIdleRow.holds Try.pinned (OpenSpec.ofChange procIdleSpec)

/-- ITS FALSE NEIGHBOUR: 'it returns false'. Refute it at one input. -/
def procIdleWrong : ChangeSpec := { name := "procIdle", fn := fun _ => fun
  | [d1, d2, d3] => { results := [.lit (.bool false)], args := [d1, d2, d3] }
  | _ => none }
def ProcIdleWrongFalsely : Prop := procIdleRow.holds Try.pinned (OpenSpec.ofChange procIdleWrong)

/-- 'jetonlaw14.ProcCopies': WHATEVER THE INPUT: true; the input reads as it did. -/
def procCopiesSpec : ChangeSpec := { name := "procCopies", fn := fun _ => fun
  | [d1, d2, d3] => { results := [.lit (.bool true)], args := [d1, d2, d3] }
  | _ => none }
def procCopiesRow : OpenClaim := { program := "ytmdioofpghbjbaa", sum := "42c7acacd3803aaaff1678f0efeca9e732b7c1786704256e3ce2e7ee02ad86c5", func := "jeton/jetonlaw14.ProcCopies", spec := "procCopies", apart := false }
def ProcCopiesSaid : Prop := procCopiesRow.holds Try.pinned (OpenSpec.ofChange procCopiesSpec)

/-- ITS FALSE NEIGHBOUR: 'it returns false'. Refute it at one input. -/
def procCopiesWrong : ChangeSpec := { name := "procCopies", fn := fun _ => fun
  | [d1, d2, d3] => { results := [.lit (.bool false)], args := [d1, d2, d3] }
  | _ => none }
def ProcCopiesWrongFalsely : Prop := procCopiesRow.holds Try.pinned (OpenSpec.ofChange procCopiesWrong)

/- THE SECOND FORM. 'bulk': how many values and letters a reading holds, each counted each time it is reached (what is shared counts as often as it is met; a slice's spare places count too). A statement '..UptoSaid' is the law's where the arguments, and the package variables that the reading takes, are together of bulk at most 1048576: NARROWER than '..Said'. Prove '..Said' where nothing that the law and all that it calls make is longer than what came in: it says more and counts as full. Else prove '..UptoSaid'. A law counts once. -/
mutual
def uptoBulk {H : Type} : DataW H → Nat
  | .lit (.string bytes) => bytes.length + 1
  | .lit _ => 1
  | .nil => 1
  | .ptr d => uptoBulk d + 1
  | .slice elems spare => uptoBulkAll elems + uptoBulkAll spare + 1
  | .agg parts => uptoBulkAll parts + 1
  | .iface _ d => uptoBulk d + 1
  | .map entries => uptoBulkEntries entries + 1
  | .held _ => 1
def uptoBulkAll {H : Type} : List (DataW H) → Nat
  | [] => 0
  | d :: r => uptoBulk d + uptoBulkAll r
def uptoBulkEntries {H : Type} : List (Lit × DataW H) → Nat
  | [] => 0
  | x :: r => uptoBulkEntry x + uptoBulkEntries r
def uptoBulkEntry {H : Type} : Lit × DataW H → Nat
  | (.string bytes, d) => bytes.length + uptoBulk d + 1
  | (_, d) => uptoBulk d + 1
 end
def uptoSmall : (H : Type) → List (DataW H) → Bool := fun _ ds => decide (uptoBulkAll ds ≤ 1048576)
def OpenSpec.upto (s : _root_.Go.ChangeSpec) : _root_.Go.OpenSpec := { _root_.Go.OpenSpec.ofChange s with cond := some uptoSmall }

/-- 'jetonlaw14.ProcPlays', WHERE WHAT IT READS IS OF BULK AT MOST 1048576: true; the input reads as it did. -/
def procPlaysUptoRow : OpenClaim := { program := "ytmdioofpghbjbaa", sum := "42c7acacd3803aaaff1678f0efeca9e732b7c1786704256e3ce2e7ee02ad86c5", func := "jeton/jetonlaw14.ProcPlays", spec := "procPlays", apart := false, narrowed := true }
def ProcPlaysUptoSaid : Prop := procPlaysUptoRow.holds Try.pinned (OpenSpec.upto procPlaysSpec)

/-- 'jetonlaw14.ProcOne', WHERE WHAT IT READS IS OF BULK AT MOST 1048576: true; the input reads as it did. -/
def procOneUptoRow : OpenClaim := { program := "ytmdioofpghbjbaa", sum := "42c7acacd3803aaaff1678f0efeca9e732b7c1786704256e3ce2e7ee02ad86c5", func := "jeton/jetonlaw14.ProcOne", spec := "procOne", apart := false, narrowed := true }
def ProcOneUptoSaid : Prop := procOneUptoRow.holds Try.pinned (OpenSpec.upto procOneSpec)

/-- 'jetonlaw14.ProcEscalates', WHERE WHAT IT READS IS OF BULK AT MOST 1048576: true; the input reads as it did. -/
def procEscalatesUptoRow : OpenClaim := { program := "ytmdioofpghbjbaa", sum := "42c7acacd3803aaaff1678f0efeca9e732b7c1786704256e3ce2e7ee02ad86c5", func := "jeton/jetonlaw14.ProcEscalates", spec := "procEscalates", apart := false, narrowed := true }
def ProcEscalatesUptoSaid : Prop := procEscalatesUptoRow.holds Try.pinned (OpenSpec.upto procEscalatesSpec)

/-- 'jetonlaw14.ProcIdle', WHERE WHAT IT READS IS OF BULK AT MOST 1048576: true; the input reads as it did. -/
def procIdleUptoRow : OpenClaim := { program := "ytmdioofpghbjbaa", sum := "42c7acacd3803aaaff1678f0efeca9e732b7c1786704256e3ce2e7ee02ad86c5", func := "jeton/jetonlaw14.ProcIdle", spec := "procIdle", apart := false, narrowed := true }
def ProcIdleUptoSaid : Prop := procIdleUptoRow.holds Try.pinned (OpenSpec.upto procIdleSpec)

/-- 'jetonlaw14.ProcCopies', WHERE WHAT IT READS IS OF BULK AT MOST 1048576: true; the input reads as it did. -/
def procCopiesUptoRow : OpenClaim := { program := "ytmdioofpghbjbaa", sum := "42c7acacd3803aaaff1678f0efeca9e732b7c1786704256e3ce2e7ee02ad86c5", func := "jeton/jetonlaw14.ProcCopies", spec := "procCopies", apart := false, narrowed := true }
def ProcCopiesUptoSaid : Prop := procCopiesUptoRow.holds Try.pinned (OpenSpec.upto procCopiesSpec)

end Rows
end Go.Proofs.Ytmdioofpghbjbaa
