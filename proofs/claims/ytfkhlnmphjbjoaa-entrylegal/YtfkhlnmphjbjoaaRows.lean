/-
  No cell of these rows narrows 'for every input' (looked for: loops, veiled, ifaces, maps, wideKeys, modest, calm, conditions, laid).
  DERIVED. THE GIVEN ROWS OF THIS SEAT. 5 by the template 'for every input the law returns true; each argument reads behind the call as it read before'; 0 by the template 'total and deterministic' (their statements: YtfkhlnmphjbjoaaTotals.lean).
  GIVEN WITH THE SEED: the statements are not yours to turn. If you find one false, say at which input.
  Laid BY PROGRAM, IN A SANDBOX (cutbox-rows.mjs): the forced cells as the released guide's own fill.sh prints them over the translation c404685e20f16d89… (all of the seat's roots in one cut). By AI agents, Wed Nov 11 2026. No macro, syntax, notation, axiom, sorry.
-/
import Derived.Test.YtfkhlnmphjbjoaaChecked
import GoSem.Claim
import GoSem.ClaimJoined
import GoSem.ClaimMapViews
import Derived.JoinedTies
import Derived.KernelRfl
namespace Go.Proofs.Ytfkhlnmphjbjoaa
/- THE CELL 'sum', in the pinned program and in every row, IS THE sha256 OF THE DUMP (.gsa) THAT YtfkhlnmphjbjoaaProg.lean LOADS. Nothing in Lean hashes anything: it is a label: what it is worth is what the hold of that sum in a sandbox is worth. -/
noncomputable def Try.pinned : Pinned := { name := "ytfkhlnmphjbjoaa", sum := "c404685e20f16d89ab3d6af89dadb4ad46c86266cca1cdb43a45362397675b21", checked := Try.checked }
namespace Rows
def none {H : Type} : Left H := { results := [], args := [] }

/-- 'jetonlaw05.EntryLegal': WHATEVER THE INPUT: true; the input reads as it did. -/
def entryLegalSpec : ChangeSpec := { name := "entryLegal", fn := fun _ => fun
  | [d1, d2] => { results := [.lit (.bool true)], args := [d1, d2] }
  | _ => none }
def entryLegalRow : OpenClaim := { program := "ytfkhlnmphjbjoaa", sum := "c404685e20f16d89ab3d6af89dadb4ad46c86266cca1cdb43a45362397675b21", func := "jeton/jetonlaw05.EntryLegal", spec := "entryLegal", apart := false }
def EntryLegalSaid : Prop := entryLegalRow.holds Try.pinned (OpenSpec.ofChange entryLegalSpec)

/-- ITS FALSE NEIGHBOUR: 'it returns false'. Refute it at one input. -/
def entryLegalWrong : ChangeSpec := { name := "entryLegal", fn := fun _ => fun
  | [d1, d2] => { results := [.lit (.bool false)], args := [d1, d2] }
  | _ => none }
def EntryLegalWrongFalsely : Prop := entryLegalRow.holds Try.pinned (OpenSpec.ofChange entryLegalWrong)

/-- 'jetonlaw05.EntryOps': WHATEVER THE INPUT: true; the input reads as it did. -/
def entryOpsSpec : ChangeSpec := { name := "entryOps", fn := fun _ => fun
  | [d] => { results := [.lit (.bool true)], args := [d] }
  | _ => none }
def entryOpsRow : OpenClaim := { program := "ytfkhlnmphjbjoaa", sum := "c404685e20f16d89ab3d6af89dadb4ad46c86266cca1cdb43a45362397675b21", func := "jeton/jetonlaw05.EntryOps", spec := "entryOps", apart := false }
def EntryOpsSaid : Prop := entryOpsRow.holds Try.pinned (OpenSpec.ofChange entryOpsSpec)

/-- ITS FALSE NEIGHBOUR: 'it returns false'. Refute it at one input. -/
def entryOpsWrong : ChangeSpec := { name := "entryOps", fn := fun _ => fun
  | [d] => { results := [.lit (.bool false)], args := [d] }
  | _ => none }
def EntryOpsWrongFalsely : Prop := entryOpsRow.holds Try.pinned (OpenSpec.ofChange entryOpsWrong)

/-- 'jetonlaw05.EntryPrints': WHATEVER THE INPUT: true; the input reads as it did. -/
def entryPrintsSpec : ChangeSpec := { name := "entryPrints", fn := fun _ => fun
  | [d1, d2, d3] => { results := [.lit (.bool true)], args := [d1, d2, d3] }
  | _ => none }
def entryPrintsRow : OpenClaim := { program := "ytfkhlnmphjbjoaa", sum := "c404685e20f16d89ab3d6af89dadb4ad46c86266cca1cdb43a45362397675b21", func := "jeton/jetonlaw05.EntryPrints", spec := "entryPrints", apart := false }
def EntryPrintsSaid : Prop := entryPrintsRow.holds Try.pinned (OpenSpec.ofChange entryPrintsSpec)

/-- ITS FALSE NEIGHBOUR: 'it returns false'. Refute it at one input. -/
def entryPrintsWrong : ChangeSpec := { name := "entryPrints", fn := fun _ => fun
  | [d1, d2, d3] => { results := [.lit (.bool false)], args := [d1, d2, d3] }
  | _ => none }
def EntryPrintsWrongFalsely : Prop := entryPrintsRow.holds Try.pinned (OpenSpec.ofChange entryPrintsWrong)

/-- 'jetonlaw05.EntryBack': WHATEVER THE INPUT: true; the input reads as it did. -/
def entryBackSpec : ChangeSpec := { name := "entryBack", fn := fun _ => fun
  | [d1, d2, d3] => { results := [.lit (.bool true)], args := [d1, d2, d3] }
  | _ => none }
def entryBackRow : OpenClaim := { program := "ytfkhlnmphjbjoaa", sum := "c404685e20f16d89ab3d6af89dadb4ad46c86266cca1cdb43a45362397675b21", func := "jeton/jetonlaw05.EntryBack", spec := "entryBack", apart := false }
def EntryBackSaid : Prop := entryBackRow.holds Try.pinned (OpenSpec.ofChange entryBackSpec)

/-- ITS FALSE NEIGHBOUR: 'it returns false'. Refute it at one input. -/
def entryBackWrong : ChangeSpec := { name := "entryBack", fn := fun _ => fun
  | [d1, d2, d3] => { results := [.lit (.bool false)], args := [d1, d2, d3] }
  | _ => none }
def EntryBackWrongFalsely : Prop := entryBackRow.holds Try.pinned (OpenSpec.ofChange entryBackWrong)

/-- 'jetonlaw05.EntryGrows': WHATEVER THE INPUT: true; the input reads as it did. -/
def entryGrowsSpec : ChangeSpec := { name := "entryGrows", fn := fun _ => fun
  | [d1, d2, d3] => { results := [.lit (.bool true)], args := [d1, d2, d3] }
  | _ => none }
def entryGrowsRow : OpenClaim := { program := "ytfkhlnmphjbjoaa", sum := "c404685e20f16d89ab3d6af89dadb4ad46c86266cca1cdb43a45362397675b21", func := "jeton/jetonlaw05.EntryGrows", spec := "entryGrows", apart := false }
def EntryGrowsSaid : Prop := entryGrowsRow.holds Try.pinned (OpenSpec.ofChange entryGrowsSpec)

/-- ITS FALSE NEIGHBOUR: 'it returns false'. Refute it at one input. -/
def entryGrowsWrong : ChangeSpec := { name := "entryGrows", fn := fun _ => fun
  | [d1, d2, d3] => { results := [.lit (.bool false)], args := [d1, d2, d3] }
  | _ => none }
def EntryGrowsWrongFalsely : Prop := entryGrowsRow.holds Try.pinned (OpenSpec.ofChange entryGrowsWrong)

/- THE SECOND FORM. 'bulk': how many values and letters a reading holds, each counted each time it is reached (what is shared counts as often as it is met; a slice's spare places count too). A statement '..UptoSaid' is the law's where the arguments, and the package variables that the reading takes, are together of bulk at most 1048576: NARROWER than '..Said'. Prove '..Said' where nothing that the law and all that it calls make is longer than what came in: it says more and counts as full. Else prove '..UptoSaid'. A law counts once. -/
mutual
def uptoBulk {H : Type} : DataW H → Nat
  | .lit (.string bytes) => bytes.length + 1
  | .lit _ => 1
  | .nil => 1
  | .ptr d => uptoBulk d + 1
  | .slice elems spare => uptoBulkAll elems + uptoBulkAll spare + 1
  | .agg parts => uptoBulkAll parts + 1
  | .iface _ d => uptoBulk d + 1
  | .map entries => uptoBulkEntries entries + 1
  | .held _ => 1
def uptoBulkAll {H : Type} : List (DataW H) → Nat
  | [] => 0
  | d :: r => uptoBulk d + uptoBulkAll r
def uptoBulkEntries {H : Type} : List (Lit × DataW H) → Nat
  | [] => 0
  | x :: r => uptoBulkEntry x + uptoBulkEntries r
def uptoBulkEntry {H : Type} : Lit × DataW H → Nat
  | (.string bytes, d) => bytes.length + uptoBulk d + 1
  | (_, d) => uptoBulk d + 1
 end
def uptoSmall : (H : Type) → List (DataW H) → Bool := fun _ ds => decide (uptoBulkAll ds ≤ 1048576)
def OpenSpec.upto (s : _root_.Go.ChangeSpec) : _root_.Go.OpenSpec := { _root_.Go.OpenSpec.ofChange s with cond := some uptoSmall }

/-- 'jetonlaw05.EntryLegal', WHERE WHAT IT READS IS OF BULK AT MOST 1048576: true; the input reads as it did. -/
def entryLegalUptoRow : OpenClaim := { program := "ytfkhlnmphjbjoaa", sum := "c404685e20f16d89ab3d6af89dadb4ad46c86266cca1cdb43a45362397675b21", func := "jeton/jetonlaw05.EntryLegal", spec := "entryLegal", apart := false, narrowed := true }
def EntryLegalUptoSaid : Prop := entryLegalUptoRow.holds Try.pinned (OpenSpec.upto entryLegalSpec)

/-- 'jetonlaw05.EntryOps', WHERE WHAT IT READS IS OF BULK AT MOST 1048576: true; the input reads as it did. -/
def entryOpsUptoRow : OpenClaim := { program := "ytfkhlnmphjbjoaa", sum := "c404685e20f16d89ab3d6af89dadb4ad46c86266cca1cdb43a45362397675b21", func := "jeton/jetonlaw05.EntryOps", spec := "entryOps", apart := false, narrowed := true }
def EntryOpsUptoSaid : Prop := entryOpsUptoRow.holds Try.pinned (OpenSpec.upto entryOpsSpec)

/-- 'jetonlaw05.EntryPrints', WHERE WHAT IT READS IS OF BULK AT MOST 1048576: true; the input reads as it did. -/
def entryPrintsUptoRow : OpenClaim := { program := "ytfkhlnmphjbjoaa", sum := "c404685e20f16d89ab3d6af89dadb4ad46c86266cca1cdb43a45362397675b21", func := "jeton/jetonlaw05.EntryPrints", spec := "entryPrints", apart := false, narrowed := true }
def EntryPrintsUptoSaid : Prop := entryPrintsUptoRow.holds Try.pinned (OpenSpec.upto entryPrintsSpec)

/-- 'jetonlaw05.EntryBack', WHERE WHAT IT READS IS OF BULK AT MOST 1048576: true; the input reads as it did. -/
def entryBackUptoRow : OpenClaim := { program := "ytfkhlnmphjbjoaa", sum := "c404685e20f16d89ab3d6af89dadb4ad46c86266cca1cdb43a45362397675b21", func := "jeton/jetonlaw05.EntryBack", spec := "entryBack", apart := false, narrowed := true }
def EntryBackUptoSaid : Prop := entryBackUptoRow.holds Try.pinned (OpenSpec.upto entryBackSpec)

/-- 'jetonlaw05.EntryGrows', WHERE WHAT IT READS IS OF BULK AT MOST 1048576: true; the input reads as it did. -/
def entryGrowsUptoRow : OpenClaim := { program := "ytfkhlnmphjbjoaa", sum := "c404685e20f16d89ab3d6af89dadb4ad46c86266cca1cdb43a45362397675b21", func := "jeton/jetonlaw05.EntryGrows", spec := "entryGrows", apart := false, narrowed := true }
def EntryGrowsUptoSaid : Prop := entryGrowsUptoRow.holds Try.pinned (OpenSpec.upto entryGrowsSpec)

end Rows
end Go.Proofs.Ytfkhlnmphjbjoaa
