/-
  NARROWER THAN 'FOR EVERY INPUT', by the rows' own cells (each row's printed sentence says how): NodePlays: laid · NodeSums: laid · NodeGives: laid · NodeAsks: laid · NodeEnds: laid · NodeNothing: laid · NodeLoads: laid · NodeCopies: laid.
  DERIVED. THE GIVEN ROWS OF THIS SEAT. 8 by the template 'for every input the law returns true; each argument reads behind the call as it read before'; 0 by the template 'total and deterministic' (their statements: YtoenjdnccgmhoaaGreatDoorTotals.lean).
  GIVEN WITH THE SEED: the statements are not yours to turn. If you find one false, say at which input.
  Laid BY PROGRAM, IN A SANDBOX (cutbox-rows.mjs): the forced cells as the released guide's own fill.sh prints them over the translation 9fd1bc16caa14815… (all of the seat's roots in one cut). By AI agents, Wed Nov 11 2026. No macro, syntax, notation, axiom, sorry.
-/
import Derived.Test.YtoenjdnccgmhoaaGreatDoorChecked
import GoSem.Claim
import GoSem.ClaimJoined
import GoSem.ClaimMapViews
import Derived.JoinedTies
import Derived.KernelRfl
namespace Go.Proofs.YtoenjdnccgmhoaaGreatDoor
/- THE CELL 'sum', in the pinned program and in every row, IS THE sha256 OF THE DUMP (.gsa) THAT YtoenjdnccgmhoaaGreatDoorProg.lean LOADS. Nothing in Lean hashes anything: it is a label: what it is worth is what the hold of that sum in a sandbox is worth. -/
noncomputable def Tryz.pinned : Pinned := { name := "ytoenjdnccgmhoaagreatdoor", sum := "9fd1bc16caa1481527b0e93bbbf389e8737bb0894213d22b8f4588e3623a49da", checked := Tryz.checked }
namespace Rows
def none {H : Type} : Left H := { results := [], args := [] }

/- WHAT THE LISTED PACKAGE-LEVEL VARIABLES READ AS WHEN THE CALL BEGINS. Each datum BY PROGRAM (the guide's laid-datum.mjs) off the statement by which the dump's own 'gosem.cut.vars' lays the variable. In a bare row this is a premise. The card (YtoenjdnccgmhoaaGreatDoorCards.lean) ties it to the program's text. -/
def laid_jeton_letter_rows {H : Type} : DataW H := .agg [.agg [.lit (.int .i64 0), .lit (.int .i64 0), .lit (.bool false), .lit (.bool false), .lit (.bool false), .lit (.bool false)], .agg [.lit (.int .i64 3), .lit (.int .i64 3), .lit (.bool false), .lit (.bool false), .lit (.bool false), .lit (.bool true)], .agg [.lit (.int .i64 1), .lit (.int .i64 3), .lit (.bool false), .lit (.bool false), .lit (.bool true), .lit (.bool false)], .agg [.lit (.int .i64 1), .lit (.int .i64 2), .lit (.bool false), .lit (.bool false), .lit (.bool false), .lit (.bool false)], .agg [.lit (.int .i64 2), .lit (.int .i64 1), .lit (.bool true), .lit (.bool true), .lit (.bool false), .lit (.bool false)], .agg [.lit (.int .i64 1), .lit (.int .i64 2), .lit (.bool true), .lit (.bool false), .lit (.bool false), .lit (.bool false)], .agg [.lit (.int .i64 2), .lit (.int .i64 1), .lit (.bool true), .lit (.bool false), .lit (.bool false), .lit (.bool false)], .agg [.lit (.int .i64 1), .lit (.int .i64 2), .lit (.bool true), .lit (.bool false), .lit (.bool false), .lit (.bool false)]]

/-- 'jetonlaw15.NodePlays': WHATEVER THE INPUT: true; the input reads as it did. -/
def nodePlaysSpec : ChangeSpec := { name := "nodePlays", fn := fun _ => fun
  | [d1, d2, d3] => { results := [.lit (.bool true)], args := [d1, d2, d3] }
  | _ => none }
def nodePlaysRow : OpenClaim := { program := "ytoenjdnccgmhoaagreatdoor", sum := "9fd1bc16caa1481527b0e93bbbf389e8737bb0894213d22b8f4588e3623a49da", func := "jeton/jetonlaw15.NodePlays", spec := "nodePlays", inPlace := ["maps.clone"], unfollowed := true, recurses := true, named := ["jeton/letter.rows"], plainKeys := false, apart := false, laid := [("jeton/letter.rows", laid_jeton_letter_rows)] }
def NodePlaysSaid : Prop := nodePlaysRow.holds Tryz.pinned (OpenSpec.ofChange nodePlaysSpec)

/-- ITS FALSE NEIGHBOUR: 'it returns false'. Refute it at one input. -/
def nodePlaysWrong : ChangeSpec := { name := "nodePlays", fn := fun _ => fun
  | [d1, d2, d3] => { results := [.lit (.bool false)], args := [d1, d2, d3] }
  | _ => none }
def NodePlaysWrongFalsely : Prop := nodePlaysRow.holds Tryz.pinned (OpenSpec.ofChange nodePlaysWrong)

/-- 'jetonlaw15.NodeSums': WHATEVER THE INPUT: true; the input reads as it did. -/
def nodeSumsSpec : ChangeSpec := { name := "nodeSums", fn := fun _ => fun
  | [d1, d2, d3] => { results := [.lit (.bool true)], args := [d1, d2, d3] }
  | _ => none }
def nodeSumsRow : OpenClaim := { program := "ytoenjdnccgmhoaagreatdoor", sum := "9fd1bc16caa1481527b0e93bbbf389e8737bb0894213d22b8f4588e3623a49da", func := "jeton/jetonlaw15.NodeSums", spec := "nodeSums", unfollowed := true, recurses := true, named := ["jeton/letter.rows"], plainKeys := false, apart := false, laid := [("jeton/letter.rows", laid_jeton_letter_rows)] }
def NodeSumsSaid : Prop := nodeSumsRow.holds Tryz.pinned (OpenSpec.ofChange nodeSumsSpec)

/-- ITS FALSE NEIGHBOUR: 'it returns false'. Refute it at one input. -/
def nodeSumsWrong : ChangeSpec := { name := "nodeSums", fn := fun _ => fun
  | [d1, d2, d3] => { results := [.lit (.bool false)], args := [d1, d2, d3] }
  | _ => none }
def NodeSumsWrongFalsely : Prop := nodeSumsRow.holds Tryz.pinned (OpenSpec.ofChange nodeSumsWrong)

/-- 'jetonlaw15.NodeGives': WHATEVER THE INPUT: true; the input reads as it did. -/
def nodeGivesSpec : ChangeSpec := { name := "nodeGives", fn := fun _ => fun
  | [d1, d2, d3] => { results := [.lit (.bool true)], args := [d1, d2, d3] }
  | _ => none }
def nodeGivesRow : OpenClaim := { program := "ytoenjdnccgmhoaagreatdoor", sum := "9fd1bc16caa1481527b0e93bbbf389e8737bb0894213d22b8f4588e3623a49da", func := "jeton/jetonlaw15.NodeGives", spec := "nodeGives", unfollowed := true, recurses := true, named := ["jeton/letter.rows"], plainKeys := false, apart := false, laid := [("jeton/letter.rows", laid_jeton_letter_rows)] }
def NodeGivesSaid : Prop := nodeGivesRow.holds Tryz.pinned (OpenSpec.ofChange nodeGivesSpec)

/-- ITS FALSE NEIGHBOUR: 'it returns false'. Refute it at one input. -/
def nodeGivesWrong : ChangeSpec := { name := "nodeGives", fn := fun _ => fun
  | [d1, d2, d3] => { results := [.lit (.bool false)], args := [d1, d2, d3] }
  | _ => none }
def NodeGivesWrongFalsely : Prop := nodeGivesRow.holds Tryz.pinned (OpenSpec.ofChange nodeGivesWrong)

/-- 'jetonlaw15.NodeAsks': WHATEVER THE INPUT: true; the input reads as it did. -/
def nodeAsksSpec : ChangeSpec := { name := "nodeAsks", fn := fun _ => fun
  | [d1, d2, d3] => { results := [.lit (.bool true)], args := [d1, d2, d3] }
  | _ => none }
def nodeAsksRow : OpenClaim := { program := "ytoenjdnccgmhoaagreatdoor", sum := "9fd1bc16caa1481527b0e93bbbf389e8737bb0894213d22b8f4588e3623a49da", func := "jeton/jetonlaw15.NodeAsks", spec := "nodeAsks", unfollowed := true, recurses := true, named := ["jeton/letter.rows"], plainKeys := false, apart := false, laid := [("jeton/letter.rows", laid_jeton_letter_rows)] }
def NodeAsksSaid : Prop := nodeAsksRow.holds Tryz.pinned (OpenSpec.ofChange nodeAsksSpec)

/-- ITS FALSE NEIGHBOUR: 'it returns false'. Refute it at one input. -/
def nodeAsksWrong : ChangeSpec := { name := "nodeAsks", fn := fun _ => fun
  | [d1, d2, d3] => { results := [.lit (.bool false)], args := [d1, d2, d3] }
  | _ => none }
def NodeAsksWrongFalsely : Prop := nodeAsksRow.holds Tryz.pinned (OpenSpec.ofChange nodeAsksWrong)

/-- 'jetonlaw15.NodeEnds': WHATEVER THE INPUT: true; the input reads as it did. -/
def nodeEndsSpec : ChangeSpec := { name := "nodeEnds", fn := fun _ => fun
  | [d1, d2, d3] => { results := [.lit (.bool true)], args := [d1, d2, d3] }
  | _ => none }
def nodeEndsRow : OpenClaim := { program := "ytoenjdnccgmhoaagreatdoor", sum := "9fd1bc16caa1481527b0e93bbbf389e8737bb0894213d22b8f4588e3623a49da", func := "jeton/jetonlaw15.NodeEnds", spec := "nodeEnds", unfollowed := true, recurses := true, named := ["jeton/letter.rows"], plainKeys := false, apart := false, laid := [("jeton/letter.rows", laid_jeton_letter_rows)] }
def NodeEndsSaid : Prop := nodeEndsRow.holds Tryz.pinned (OpenSpec.ofChange nodeEndsSpec)

/-- ITS FALSE NEIGHBOUR: 'it returns false'. Refute it at one input. -/
def nodeEndsWrong : ChangeSpec := { name := "nodeEnds", fn := fun _ => fun
  | [d1, d2, d3] => { results := [.lit (.bool false)], args := [d1, d2, d3] }
  | _ => none }
def NodeEndsWrongFalsely : Prop := nodeEndsRow.holds Tryz.pinned (OpenSpec.ofChange nodeEndsWrong)

/-- 'jetonlaw15.NodeNothing': WHATEVER THE INPUT: true; the input reads as it did. -/
def nodeNothingSpec : ChangeSpec := { name := "nodeNothing", fn := fun _ => fun
  | [d1, d2, d3] => { results := [.lit (.bool true)], args := [d1, d2, d3] }
  | _ => none }
def nodeNothingRow : OpenClaim := { program := "ytoenjdnccgmhoaagreatdoor", sum := "9fd1bc16caa1481527b0e93bbbf389e8737bb0894213d22b8f4588e3623a49da", func := "jeton/jetonlaw15.NodeNothing", spec := "nodeNothing", unfollowed := true, recurses := true, named := ["jeton/letter.rows"], plainKeys := false, apart := false, laid := [("jeton/letter.rows", laid_jeton_letter_rows)] }
def NodeNothingSaid : Prop := nodeNothingRow.holds Tryz.pinned (OpenSpec.ofChange nodeNothingSpec)

/-- ITS FALSE NEIGHBOUR: 'it returns false'. Refute it at one input. -/
def nodeNothingWrong : ChangeSpec := { name := "nodeNothing", fn := fun _ => fun
  | [d1, d2, d3] => { results := [.lit (.bool false)], args := [d1, d2, d3] }
  | _ => none }
def NodeNothingWrongFalsely : Prop := nodeNothingRow.holds Tryz.pinned (OpenSpec.ofChange nodeNothingWrong)

/-- 'jetonlaw15.NodeLoads': WHATEVER THE INPUT: true; the input reads as it did. -/
def nodeLoadsSpec : ChangeSpec := { name := "nodeLoads", fn := fun _ => fun
  | [d1, d2, d3] => { results := [.lit (.bool true)], args := [d1, d2, d3] }
  | _ => none }
def nodeLoadsRow : OpenClaim := { program := "ytoenjdnccgmhoaagreatdoor", sum := "9fd1bc16caa1481527b0e93bbbf389e8737bb0894213d22b8f4588e3623a49da", func := "jeton/jetonlaw15.NodeLoads", spec := "nodeLoads", unfollowed := true, recurses := true, named := ["jeton/letter.rows"], plainKeys := false, apart := false, laid := [("jeton/letter.rows", laid_jeton_letter_rows)] }
def NodeLoadsSaid : Prop := nodeLoadsRow.holds Tryz.pinned (OpenSpec.ofChange nodeLoadsSpec)

/-- ITS FALSE NEIGHBOUR: 'it returns false'. Refute it at one input. -/
def nodeLoadsWrong : ChangeSpec := { name := "nodeLoads", fn := fun _ => fun
  | [d1, d2, d3] => { results := [.lit (.bool false)], args := [d1, d2, d3] }
  | _ => none }
def NodeLoadsWrongFalsely : Prop := nodeLoadsRow.holds Tryz.pinned (OpenSpec.ofChange nodeLoadsWrong)

/-- 'jetonlaw15.NodeCopies': WHATEVER THE INPUT: true; the input reads as it did. -/
def nodeCopiesSpec : ChangeSpec := { name := "nodeCopies", fn := fun _ => fun
  | [d1, d2, d3] => { results := [.lit (.bool true)], args := [d1, d2, d3] }
  | _ => none }
def nodeCopiesRow : OpenClaim := { program := "ytoenjdnccgmhoaagreatdoor", sum := "9fd1bc16caa1481527b0e93bbbf389e8737bb0894213d22b8f4588e3623a49da", func := "jeton/jetonlaw15.NodeCopies", spec := "nodeCopies", inPlace := ["maps.clone"], unfollowed := true, recurses := true, named := ["jeton/letter.rows"], plainKeys := false, apart := false, laid := [("jeton/letter.rows", laid_jeton_letter_rows)] }
def NodeCopiesSaid : Prop := nodeCopiesRow.holds Tryz.pinned (OpenSpec.ofChange nodeCopiesSpec)

/-- ITS FALSE NEIGHBOUR: 'it returns false'. Refute it at one input. -/
def nodeCopiesWrong : ChangeSpec := { name := "nodeCopies", fn := fun _ => fun
  | [d1, d2, d3] => { results := [.lit (.bool false)], args := [d1, d2, d3] }
  | _ => none }
def NodeCopiesWrongFalsely : Prop := nodeCopiesRow.holds Tryz.pinned (OpenSpec.ofChange nodeCopiesWrong)

/- THE SECOND FORM. 'bulk': how many values and letters a reading holds, each counted each time it is reached (what is shared counts as often as it is met; a slice's spare places count too). A statement '..UptoSaid' is the law's where the arguments, and the package variables that the reading takes, are together of bulk at most 1048576: NARROWER than '..Said'. Prove '..Said' where nothing that the law and all that it calls make is longer than what came in: it says more and counts as full. Else prove '..UptoSaid'. A law counts once. -/
mutual
def uptoBulk {H : Type} : DataW H → Nat
  | .lit (.string bytes) => bytes.length + 1
  | .lit _ => 1
  | .nil => 1
  | .ptr d => uptoBulk d + 1
  | .slice elems spare => uptoBulkAll elems + uptoBulkAll spare + 1
  | .agg parts => uptoBulkAll parts + 1
  | .iface _ d => uptoBulk d + 1
  | .map entries => uptoBulkEntries entries + 1
  | .held _ => 1
def uptoBulkAll {H : Type} : List (DataW H) → Nat
  | [] => 0
  | d :: r => uptoBulk d + uptoBulkAll r
def uptoBulkEntries {H : Type} : List (Lit × DataW H) → Nat
  | [] => 0
  | x :: r => uptoBulkEntry x + uptoBulkEntries r
def uptoBulkEntry {H : Type} : Lit × DataW H → Nat
  | (.string bytes, d) => bytes.length + uptoBulk d + 1
  | (_, d) => uptoBulk d + 1
 end
def uptoSmall : (H : Type) → List (DataW H) → Bool := fun _ ds => decide (uptoBulkAll ds ≤ 1048576)
def OpenSpec.upto (s : _root_.Go.ChangeSpec) : _root_.Go.OpenSpec := { _root_.Go.OpenSpec.ofChange s with cond := some uptoSmall }

/-- 'jetonlaw15.NodePlays', WHERE WHAT IT READS IS OF BULK AT MOST 1048576: true; the input reads as it did. -/
def nodePlaysUptoRow : OpenClaim := { program := "ytoenjdnccgmhoaagreatdoor", sum := "9fd1bc16caa1481527b0e93bbbf389e8737bb0894213d22b8f4588e3623a49da", func := "jeton/jetonlaw15.NodePlays", spec := "nodePlays", inPlace := ["maps.clone"], unfollowed := true, recurses := true, named := ["jeton/letter.rows"], plainKeys := false, apart := false, laid := [("jeton/letter.rows", laid_jeton_letter_rows)], narrowed := true }
def NodePlaysUptoSaid : Prop := nodePlaysUptoRow.holds Tryz.pinned (OpenSpec.upto nodePlaysSpec)

/-- 'jetonlaw15.NodeSums', WHERE WHAT IT READS IS OF BULK AT MOST 1048576: true; the input reads as it did. -/
def nodeSumsUptoRow : OpenClaim := { program := "ytoenjdnccgmhoaagreatdoor", sum := "9fd1bc16caa1481527b0e93bbbf389e8737bb0894213d22b8f4588e3623a49da", func := "jeton/jetonlaw15.NodeSums", spec := "nodeSums", unfollowed := true, recurses := true, named := ["jeton/letter.rows"], plainKeys := false, apart := false, laid := [("jeton/letter.rows", laid_jeton_letter_rows)], narrowed := true }
def NodeSumsUptoSaid : Prop := nodeSumsUptoRow.holds Tryz.pinned (OpenSpec.upto nodeSumsSpec)

/-- 'jetonlaw15.NodeGives', WHERE WHAT IT READS IS OF BULK AT MOST 1048576: true; the input reads as it did. -/
def nodeGivesUptoRow : OpenClaim := { program := "ytoenjdnccgmhoaagreatdoor", sum := "9fd1bc16caa1481527b0e93bbbf389e8737bb0894213d22b8f4588e3623a49da", func := "jeton/jetonlaw15.NodeGives", spec := "nodeGives", unfollowed := true, recurses := true, named := ["jeton/letter.rows"], plainKeys := false, apart := false, laid := [("jeton/letter.rows", laid_jeton_letter_rows)], narrowed := true }
def NodeGivesUptoSaid : Prop := nodeGivesUptoRow.holds Tryz.pinned (OpenSpec.upto nodeGivesSpec)

/-- 'jetonlaw15.NodeAsks', WHERE WHAT IT READS IS OF BULK AT MOST 1048576: true; the input reads as it did. -/
def nodeAsksUptoRow : OpenClaim := { program := "ytoenjdnccgmhoaagreatdoor", sum := "9fd1bc16caa1481527b0e93bbbf389e8737bb0894213d22b8f4588e3623a49da", func := "jeton/jetonlaw15.NodeAsks", spec := "nodeAsks", unfollowed := true, recurses := true, named := ["jeton/letter.rows"], plainKeys := false, apart := false, laid := [("jeton/letter.rows", laid_jeton_letter_rows)], narrowed := true }
def NodeAsksUptoSaid : Prop := nodeAsksUptoRow.holds Tryz.pinned (OpenSpec.upto nodeAsksSpec)

/-- 'jetonlaw15.NodeEnds', WHERE WHAT IT READS IS OF BULK AT MOST 1048576: true; the input reads as it did. -/
def nodeEndsUptoRow : OpenClaim := { program := "ytoenjdnccgmhoaagreatdoor", sum := "9fd1bc16caa1481527b0e93bbbf389e8737bb0894213d22b8f4588e3623a49da", func := "jeton/jetonlaw15.NodeEnds", spec := "nodeEnds", unfollowed := true, recurses := true, named := ["jeton/letter.rows"], plainKeys := false, apart := false, laid := [("jeton/letter.rows", laid_jeton_letter_rows)], narrowed := true }
def NodeEndsUptoSaid : Prop := nodeEndsUptoRow.holds Tryz.pinned (OpenSpec.upto nodeEndsSpec)

/-- 'jetonlaw15.NodeNothing', WHERE WHAT IT READS IS OF BULK AT MOST 1048576: true; the input reads as it did. -/
def nodeNothingUptoRow : OpenClaim := { program := "ytoenjdnccgmhoaagreatdoor", sum := "9fd1bc16caa1481527b0e93bbbf389e8737bb0894213d22b8f4588e3623a49da", func := "jeton/jetonlaw15.NodeNothing", spec := "nodeNothing", unfollowed := true, recurses := true, named := ["jeton/letter.rows"], plainKeys := false, apart := false, laid := [("jeton/letter.rows", laid_jeton_letter_rows)], narrowed := true }
def NodeNothingUptoSaid : Prop := nodeNothingUptoRow.holds Tryz.pinned (OpenSpec.upto nodeNothingSpec)

/-- 'jetonlaw15.NodeLoads', WHERE WHAT IT READS IS OF BULK AT MOST 1048576: true; the input reads as it did. -/
def nodeLoadsUptoRow : OpenClaim := { program := "ytoenjdnccgmhoaagreatdoor", sum := "9fd1bc16caa1481527b0e93bbbf389e8737bb0894213d22b8f4588e3623a49da", func := "jeton/jetonlaw15.NodeLoads", spec := "nodeLoads", unfollowed := true, recurses := true, named := ["jeton/letter.rows"], plainKeys := false, apart := false, laid := [("jeton/letter.rows", laid_jeton_letter_rows)], narrowed := true }
def NodeLoadsUptoSaid : Prop := nodeLoadsUptoRow.holds Tryz.pinned (OpenSpec.upto nodeLoadsSpec)

/-- 'jetonlaw15.NodeCopies', WHERE WHAT IT READS IS OF BULK AT MOST 1048576: true; the input reads as it did. -/
def nodeCopiesUptoRow : OpenClaim := { program := "ytoenjdnccgmhoaagreatdoor", sum := "9fd1bc16caa1481527b0e93bbbf389e8737bb0894213d22b8f4588e3623a49da", func := "jeton/jetonlaw15.NodeCopies", spec := "nodeCopies", inPlace := ["maps.clone"], unfollowed := true, recurses := true, named := ["jeton/letter.rows"], plainKeys := false, apart := false, laid := [("jeton/letter.rows", laid_jeton_letter_rows)], narrowed := true }
def NodeCopiesUptoSaid : Prop := nodeCopiesUptoRow.holds Tryz.pinned (OpenSpec.upto nodeCopiesSpec)

end Rows
end Go.Proofs.YtoenjdnccgmhoaaGreatDoor
