/-
  NARROWER THAN 'FOR EVERY INPUT', by the rows' own cells (each row's printed sentence says how): LetterConfigs: laid · LetterChecks: laid · LetterDrops: laid · LetterTokens: laid · LetterMakes: laid · LetterSelf: laid.
  DERIVED. THE GIVEN ROWS OF THIS SEAT. 6 by the template 'for every input the law returns true; each argument reads behind the call as it read before'; 0 by the template 'total and deterministic' (their statements: YtipklaehhiffdaaDoorTotals.lean).
  GIVEN WITH THE SEED: the statements are not yours to turn. If you find one false, say at which input.
  Laid BY PROGRAM, IN A SANDBOX (cutbox-rows.mjs): the forced cells as the released guide's own fill.sh prints them over the translation e472772fe52a0315… (all of the seat's roots in one cut). By AI agents, Wed Nov 11 2026. No macro, syntax, notation, axiom, sorry.
-/
import Derived.Test.YtipklaehhiffdaaDoorChecked
import GoSem.Claim
import GoSem.ClaimJoined
import GoSem.ClaimMapViews
import Derived.JoinedTies
import Derived.KernelRfl
namespace Go.Proofs.YtipklaehhiffdaaDoor
/- THE CELL 'sum', in the pinned program and in every row, IS THE sha256 OF THE DUMP (.gsa) THAT YtipklaehhiffdaaDoorProg.lean LOADS. Nothing in Lean hashes anything: it is a label: what it is worth is what the hold of that sum in a sandbox is worth. -/
noncomputable def Tryd.pinned : Pinned := { name := "ytipklaehhiffdaadoor", sum := "e472772fe52a0315a29b0f8130702435173ca197a789d4e5faf3efd807e5d196", checked := Tryd.checked }
namespace Rows
def none {H : Type} : Left H := { results := [], args := [] }

/- WHAT THE LISTED PACKAGE-LEVEL VARIABLES READ AS WHEN THE CALL BEGINS. Each datum BY PROGRAM (the guide's laid-datum.mjs) off the statement by which the dump's own 'gosem.cut.vars' lays the variable. In a bare row this is a premise. The card (YtipklaehhiffdaaDoorCards.lean) ties it to the program's text. -/
def laid_jeton_letter_rows {H : Type} : DataW H := .agg [.agg [.lit (.int .i64 0), .lit (.int .i64 0), .lit (.bool false), .lit (.bool false), .lit (.bool false), .lit (.bool false)], .agg [.lit (.int .i64 3), .lit (.int .i64 3), .lit (.bool false), .lit (.bool false), .lit (.bool false), .lit (.bool true)], .agg [.lit (.int .i64 1), .lit (.int .i64 3), .lit (.bool false), .lit (.bool false), .lit (.bool true), .lit (.bool false)], .agg [.lit (.int .i64 1), .lit (.int .i64 2), .lit (.bool false), .lit (.bool false), .lit (.bool false), .lit (.bool false)], .agg [.lit (.int .i64 2), .lit (.int .i64 1), .lit (.bool true), .lit (.bool true), .lit (.bool false), .lit (.bool false)], .agg [.lit (.int .i64 1), .lit (.int .i64 2), .lit (.bool true), .lit (.bool false), .lit (.bool false), .lit (.bool false)], .agg [.lit (.int .i64 2), .lit (.int .i64 1), .lit (.bool true), .lit (.bool false), .lit (.bool false), .lit (.bool false)], .agg [.lit (.int .i64 1), .lit (.int .i64 2), .lit (.bool true), .lit (.bool false), .lit (.bool false), .lit (.bool false)]]

/-- 'jetonlaw04.LetterConfigs': WHATEVER THE INPUT: true; the input reads as it did. -/
def letterConfigsSpec : ChangeSpec := { name := "letterConfigs", fn := fun _ => fun
  | [d] => { results := [.lit (.bool true)], args := [d] }
  | _ => none }
def letterConfigsRow : OpenClaim := { program := "ytipklaehhiffdaadoor", sum := "e472772fe52a0315a29b0f8130702435173ca197a789d4e5faf3efd807e5d196", func := "jeton/jetonlaw04.LetterConfigs", spec := "letterConfigs", named := ["jeton/letter.rows"], apart := false, laid := [("jeton/letter.rows", laid_jeton_letter_rows)] }
def LetterConfigsSaid : Prop := letterConfigsRow.holds Tryd.pinned (OpenSpec.ofChange letterConfigsSpec)

/-- ITS FALSE NEIGHBOUR: 'it returns false'. Refute it at one input. -/
def letterConfigsWrong : ChangeSpec := { name := "letterConfigs", fn := fun _ => fun
  | [d] => { results := [.lit (.bool false)], args := [d] }
  | _ => none }
def LetterConfigsWrongFalsely : Prop := letterConfigsRow.holds Tryd.pinned (OpenSpec.ofChange letterConfigsWrong)

/-- 'jetonlaw04.LetterChecks': WHATEVER THE INPUT: true; the input reads as it did. -/
def letterChecksSpec : ChangeSpec := { name := "letterChecks", fn := fun _ => fun
  | [d1, d2] => { results := [.lit (.bool true)], args := [d1, d2] }
  | _ => none }
def letterChecksRow : OpenClaim := { program := "ytipklaehhiffdaadoor", sum := "e472772fe52a0315a29b0f8130702435173ca197a789d4e5faf3efd807e5d196", func := "jeton/jetonlaw04.LetterChecks", spec := "letterChecks", named := ["jeton/letter.rows"], apart := false, laid := [("jeton/letter.rows", laid_jeton_letter_rows)] }
def LetterChecksSaid : Prop := letterChecksRow.holds Tryd.pinned (OpenSpec.ofChange letterChecksSpec)

/-- ITS FALSE NEIGHBOUR: 'it returns false'. Refute it at one input. -/
def letterChecksWrong : ChangeSpec := { name := "letterChecks", fn := fun _ => fun
  | [d1, d2] => { results := [.lit (.bool false)], args := [d1, d2] }
  | _ => none }
def LetterChecksWrongFalsely : Prop := letterChecksRow.holds Tryd.pinned (OpenSpec.ofChange letterChecksWrong)

/-- 'jetonlaw04.LetterDrops': WHATEVER THE INPUT: true; the input reads as it did. -/
def letterDropsSpec : ChangeSpec := { name := "letterDrops", fn := fun _ => fun
  | [d1, d2] => { results := [.lit (.bool true)], args := [d1, d2] }
  | _ => none }
def letterDropsRow : OpenClaim := { program := "ytipklaehhiffdaadoor", sum := "e472772fe52a0315a29b0f8130702435173ca197a789d4e5faf3efd807e5d196", func := "jeton/jetonlaw04.LetterDrops", spec := "letterDrops", named := ["jeton/letter.rows"], apart := false, laid := [("jeton/letter.rows", laid_jeton_letter_rows)] }
def LetterDropsSaid : Prop := letterDropsRow.holds Tryd.pinned (OpenSpec.ofChange letterDropsSpec)

/-- ITS FALSE NEIGHBOUR: 'it returns false'. Refute it at one input. -/
def letterDropsWrong : ChangeSpec := { name := "letterDrops", fn := fun _ => fun
  | [d1, d2] => { results := [.lit (.bool false)], args := [d1, d2] }
  | _ => none }
def LetterDropsWrongFalsely : Prop := letterDropsRow.holds Tryd.pinned (OpenSpec.ofChange letterDropsWrong)

/-- 'jetonlaw04.LetterTokens': WHATEVER THE INPUT: true; the input reads as it did. -/
def letterTokensSpec : ChangeSpec := { name := "letterTokens", fn := fun _ => fun
  | [d1, d2, d3] => { results := [.lit (.bool true)], args := [d1, d2, d3] }
  | _ => none }
def letterTokensRow : OpenClaim := { program := "ytipklaehhiffdaadoor", sum := "e472772fe52a0315a29b0f8130702435173ca197a789d4e5faf3efd807e5d196", func := "jeton/jetonlaw04.LetterTokens", spec := "letterTokens", named := ["jeton/letter.rows"], apart := false, laid := [("jeton/letter.rows", laid_jeton_letter_rows)] }
def LetterTokensSaid : Prop := letterTokensRow.holds Tryd.pinned (OpenSpec.ofChange letterTokensSpec)

/-- ITS FALSE NEIGHBOUR: 'it returns false'. Refute it at one input. -/
def letterTokensWrong : ChangeSpec := { name := "letterTokens", fn := fun _ => fun
  | [d1, d2, d3] => { results := [.lit (.bool false)], args := [d1, d2, d3] }
  | _ => none }
def LetterTokensWrongFalsely : Prop := letterTokensRow.holds Tryd.pinned (OpenSpec.ofChange letterTokensWrong)

/-- 'jetonlaw04.LetterMakes': WHATEVER THE INPUT: true; the input reads as it did. -/
def letterMakesSpec : ChangeSpec := { name := "letterMakes", fn := fun _ => fun
  | [d1, d2, d3] => { results := [.lit (.bool true)], args := [d1, d2, d3] }
  | _ => none }
def letterMakesRow : OpenClaim := { program := "ytipklaehhiffdaadoor", sum := "e472772fe52a0315a29b0f8130702435173ca197a789d4e5faf3efd807e5d196", func := "jeton/jetonlaw04.LetterMakes", spec := "letterMakes", named := ["jeton/letter.rows"], apart := false, laid := [("jeton/letter.rows", laid_jeton_letter_rows)] }
def LetterMakesSaid : Prop := letterMakesRow.holds Tryd.pinned (OpenSpec.ofChange letterMakesSpec)

/-- ITS FALSE NEIGHBOUR: 'it returns false'. Refute it at one input. -/
def letterMakesWrong : ChangeSpec := { name := "letterMakes", fn := fun _ => fun
  | [d1, d2, d3] => { results := [.lit (.bool false)], args := [d1, d2, d3] }
  | _ => none }
def LetterMakesWrongFalsely : Prop := letterMakesRow.holds Tryd.pinned (OpenSpec.ofChange letterMakesWrong)

/-- 'jetonlaw04.LetterSelf': WHATEVER THE INPUT: true; the input reads as it did. -/
def letterSelfSpec : ChangeSpec := { name := "letterSelf", fn := fun _ => fun
  | [d1, d2] => { results := [.lit (.bool true)], args := [d1, d2] }
  | _ => none }
def letterSelfRow : OpenClaim := { program := "ytipklaehhiffdaadoor", sum := "e472772fe52a0315a29b0f8130702435173ca197a789d4e5faf3efd807e5d196", func := "jeton/jetonlaw04.LetterSelf", spec := "letterSelf", named := ["jeton/letter.rows"], apart := false, laid := [("jeton/letter.rows", laid_jeton_letter_rows)] }
def LetterSelfSaid : Prop := letterSelfRow.holds Tryd.pinned (OpenSpec.ofChange letterSelfSpec)

/-- ITS FALSE NEIGHBOUR: 'it returns false'. Refute it at one input. -/
def letterSelfWrong : ChangeSpec := { name := "letterSelf", fn := fun _ => fun
  | [d1, d2] => { results := [.lit (.bool false)], args := [d1, d2] }
  | _ => none }
def LetterSelfWrongFalsely : Prop := letterSelfRow.holds Tryd.pinned (OpenSpec.ofChange letterSelfWrong)

/- THE SECOND FORM. 'bulk': how many values and letters a reading holds, each counted each time it is reached (what is shared counts as often as it is met; a slice's spare places count too). A statement '..UptoSaid' is the law's where the arguments, and the package variables that the reading takes, are together of bulk at most 1048576: NARROWER than '..Said'. Prove '..Said' where nothing that the law and all that it calls make is longer than what came in: it says more and counts as full. Else prove '..UptoSaid'. A law counts once. -/
mutual
def uptoBulk {H : Type} : DataW H → Nat
  | .lit (.string bytes) => bytes.length + 1
  | .lit _ => 1
  | .nil => 1
  | .ptr d => uptoBulk d + 1
  | .slice elems spare => uptoBulkAll elems + uptoBulkAll spare + 1
  | .agg parts => uptoBulkAll parts + 1
  | .iface _ d => uptoBulk d + 1
  | .map entries => uptoBulkEntries entries + 1
  | .held _ => 1
def uptoBulkAll {H : Type} : List (DataW H) → Nat
  | [] => 0
  | d :: r => uptoBulk d + uptoBulkAll r
def uptoBulkEntries {H : Type} : List (Lit × DataW H) → Nat
  | [] => 0
  | x :: r => uptoBulkEntry x + uptoBulkEntries r
def uptoBulkEntry {H : Type} : Lit × DataW H → Nat
  | (.string bytes, d) => bytes.length + uptoBulk d + 1
  | (_, d) => uptoBulk d + 1
 end
def uptoSmall : (H : Type) → List (DataW H) → Bool := fun _ ds => decide (uptoBulkAll ds ≤ 1048576)
def OpenSpec.upto (s : _root_.Go.ChangeSpec) : _root_.Go.OpenSpec := { _root_.Go.OpenSpec.ofChange s with cond := some uptoSmall }

/-- 'jetonlaw04.LetterConfigs', WHERE WHAT IT READS IS OF BULK AT MOST 1048576: true; the input reads as it did. -/
def letterConfigsUptoRow : OpenClaim := { program := "ytipklaehhiffdaadoor", sum := "e472772fe52a0315a29b0f8130702435173ca197a789d4e5faf3efd807e5d196", func := "jeton/jetonlaw04.LetterConfigs", spec := "letterConfigs", named := ["jeton/letter.rows"], apart := false, laid := [("jeton/letter.rows", laid_jeton_letter_rows)], narrowed := true }
def LetterConfigsUptoSaid : Prop := letterConfigsUptoRow.holds Tryd.pinned (OpenSpec.upto letterConfigsSpec)

/-- 'jetonlaw04.LetterChecks', WHERE WHAT IT READS IS OF BULK AT MOST 1048576: true; the input reads as it did. -/
def letterChecksUptoRow : OpenClaim := { program := "ytipklaehhiffdaadoor", sum := "e472772fe52a0315a29b0f8130702435173ca197a789d4e5faf3efd807e5d196", func := "jeton/jetonlaw04.LetterChecks", spec := "letterChecks", named := ["jeton/letter.rows"], apart := false, laid := [("jeton/letter.rows", laid_jeton_letter_rows)], narrowed := true }
def LetterChecksUptoSaid : Prop := letterChecksUptoRow.holds Tryd.pinned (OpenSpec.upto letterChecksSpec)

/-- 'jetonlaw04.LetterDrops', WHERE WHAT IT READS IS OF BULK AT MOST 1048576: true; the input reads as it did. -/
def letterDropsUptoRow : OpenClaim := { program := "ytipklaehhiffdaadoor", sum := "e472772fe52a0315a29b0f8130702435173ca197a789d4e5faf3efd807e5d196", func := "jeton/jetonlaw04.LetterDrops", spec := "letterDrops", named := ["jeton/letter.rows"], apart := false, laid := [("jeton/letter.rows", laid_jeton_letter_rows)], narrowed := true }
def LetterDropsUptoSaid : Prop := letterDropsUptoRow.holds Tryd.pinned (OpenSpec.upto letterDropsSpec)

/-- 'jetonlaw04.LetterTokens', WHERE WHAT IT READS IS OF BULK AT MOST 1048576: true; the input reads as it did. -/
def letterTokensUptoRow : OpenClaim := { program := "ytipklaehhiffdaadoor", sum := "e472772fe52a0315a29b0f8130702435173ca197a789d4e5faf3efd807e5d196", func := "jeton/jetonlaw04.LetterTokens", spec := "letterTokens", named := ["jeton/letter.rows"], apart := false, laid := [("jeton/letter.rows", laid_jeton_letter_rows)], narrowed := true }
def LetterTokensUptoSaid : Prop := letterTokensUptoRow.holds Tryd.pinned (OpenSpec.upto letterTokensSpec)

/-- 'jetonlaw04.LetterMakes', WHERE WHAT IT READS IS OF BULK AT MOST 1048576: true; the input reads as it did. -/
def letterMakesUptoRow : OpenClaim := { program := "ytipklaehhiffdaadoor", sum := "e472772fe52a0315a29b0f8130702435173ca197a789d4e5faf3efd807e5d196", func := "jeton/jetonlaw04.LetterMakes", spec := "letterMakes", named := ["jeton/letter.rows"], apart := false, laid := [("jeton/letter.rows", laid_jeton_letter_rows)], narrowed := true }
def LetterMakesUptoSaid : Prop := letterMakesUptoRow.holds Tryd.pinned (OpenSpec.upto letterMakesSpec)

/-- 'jetonlaw04.LetterSelf', WHERE WHAT IT READS IS OF BULK AT MOST 1048576: true; the input reads as it did. -/
def letterSelfUptoRow : OpenClaim := { program := "ytipklaehhiffdaadoor", sum := "e472772fe52a0315a29b0f8130702435173ca197a789d4e5faf3efd807e5d196", func := "jeton/jetonlaw04.LetterSelf", spec := "letterSelf", named := ["jeton/letter.rows"], apart := false, laid := [("jeton/letter.rows", laid_jeton_letter_rows)], narrowed := true }
def LetterSelfUptoSaid : Prop := letterSelfUptoRow.holds Tryd.pinned (OpenSpec.upto letterSelfSpec)

end Rows
end Go.Proofs.YtipklaehhiffdaaDoor
