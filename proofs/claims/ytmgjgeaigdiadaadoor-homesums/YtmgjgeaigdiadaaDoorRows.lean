/-
  NARROWER THAN 'FOR EVERY INPUT', by the rows' own cells (each row's printed sentence says how): HomePlays: laid · HomeSums: laid · HomeForwards: laid · HomeServes: laid · HomeRest: laid · HomeCopies: laid.
  DERIVED. THE GIVEN ROWS OF THIS SEAT. 6 by the template 'for every input the law returns true; each argument reads behind the call as it read before'; 0 by the template 'total and deterministic' (their statements: YtmgjgeaigdiadaaDoorTotals.lean).
  GIVEN WITH THE SEED: the statements are not yours to turn. If you find one false, say at which input.
  Laid BY PROGRAM, IN A SANDBOX (cutbox-rows.mjs): the forced cells as the released guide's own fill.sh prints them over the translation 734b80a23eab3276… (all of the seat's roots in one cut). By AI agents, Wed Nov 11 2026. No macro, syntax, notation, axiom, sorry.
-/
import Derived.Test.YtmgjgeaigdiadaaDoorChecked
import GoSem.Claim
import GoSem.ClaimJoined
import GoSem.ClaimMapViews
import Derived.JoinedTies
import Derived.KernelRfl
namespace Go.Proofs.YtmgjgeaigdiadaaDoor
/- THE CELL 'sum', in the pinned program and in every row, IS THE sha256 OF THE DUMP (.gsa) THAT YtmgjgeaigdiadaaDoorProg.lean LOADS. Nothing in Lean hashes anything: it is a label: what it is worth is what the hold of that sum in a sandbox is worth. -/
noncomputable def Tryd.pinned : Pinned := { name := "ytmgjgeaigdiadaadoor", sum := "734b80a23eab3276a5466570959e47e5835d464d99e37f355702c165067ab94c", checked := Tryd.checked }
namespace Rows
def none {H : Type} : Left H := { results := [], args := [] }

/- WHAT THE LISTED PACKAGE-LEVEL VARIABLES READ AS WHEN THE CALL BEGINS. Each datum BY PROGRAM (the guide's laid-datum.mjs) off the statement by which the dump's own 'gosem.cut.vars' lays the variable. In a bare row this is a premise. The card (YtmgjgeaigdiadaaDoorCards.lean) ties it to the program's text. -/
def laid_jeton_letter_rows {H : Type} : DataW H := .agg [.agg [.lit (.int .i64 0), .lit (.int .i64 0), .lit (.bool false), .lit (.bool false), .lit (.bool false), .lit (.bool false)], .agg [.lit (.int .i64 3), .lit (.int .i64 3), .lit (.bool false), .lit (.bool false), .lit (.bool false), .lit (.bool true)], .agg [.lit (.int .i64 1), .lit (.int .i64 3), .lit (.bool false), .lit (.bool false), .lit (.bool true), .lit (.bool false)], .agg [.lit (.int .i64 1), .lit (.int .i64 2), .lit (.bool false), .lit (.bool false), .lit (.bool false), .lit (.bool false)], .agg [.lit (.int .i64 2), .lit (.int .i64 1), .lit (.bool true), .lit (.bool true), .lit (.bool false), .lit (.bool false)], .agg [.lit (.int .i64 1), .lit (.int .i64 2), .lit (.bool true), .lit (.bool false), .lit (.bool false), .lit (.bool false)], .agg [.lit (.int .i64 2), .lit (.int .i64 1), .lit (.bool true), .lit (.bool false), .lit (.bool false), .lit (.bool false)], .agg [.lit (.int .i64 1), .lit (.int .i64 2), .lit (.bool true), .lit (.bool false), .lit (.bool false), .lit (.bool false)]]

/-- 'jetonlaw16.HomePlays': WHATEVER THE INPUT: true; the input reads as it did. -/
def homePlaysSpec : ChangeSpec := { name := "homePlays", fn := fun _ => fun
  | [d1, d2, d3] => { results := [.lit (.bool true)], args := [d1, d2, d3] }
  | _ => none }
def homePlaysRow : OpenClaim := { program := "ytmgjgeaigdiadaadoor", sum := "734b80a23eab3276a5466570959e47e5835d464d99e37f355702c165067ab94c", func := "jeton/jetonlaw16.HomePlays", spec := "homePlays", unfollowed := true, recurses := true, named := ["jeton/letter.rows"], apart := false, laid := [("jeton/letter.rows", laid_jeton_letter_rows)] }
def HomePlaysSaid : Prop := homePlaysRow.holds Tryd.pinned (OpenSpec.ofChange homePlaysSpec)

/-- ITS FALSE NEIGHBOUR: 'it returns false'. Refute it at one input. -/
def homePlaysWrong : ChangeSpec := { name := "homePlays", fn := fun _ => fun
  | [d1, d2, d3] => { results := [.lit (.bool false)], args := [d1, d2, d3] }
  | _ => none }
def HomePlaysWrongFalsely : Prop := homePlaysRow.holds Tryd.pinned (OpenSpec.ofChange homePlaysWrong)

/-- 'jetonlaw16.HomeSums': WHATEVER THE INPUT: true; the input reads as it did. -/
def homeSumsSpec : ChangeSpec := { name := "homeSums", fn := fun _ => fun
  | [d1, d2] => { results := [.lit (.bool true)], args := [d1, d2] }
  | _ => none }
def homeSumsRow : OpenClaim := { program := "ytmgjgeaigdiadaadoor", sum := "734b80a23eab3276a5466570959e47e5835d464d99e37f355702c165067ab94c", func := "jeton/jetonlaw16.HomeSums", spec := "homeSums", unfollowed := true, recurses := true, named := ["jeton/letter.rows"], apart := false, laid := [("jeton/letter.rows", laid_jeton_letter_rows)] }
def HomeSumsSaid : Prop := homeSumsRow.holds Tryd.pinned (OpenSpec.ofChange homeSumsSpec)

/-- ITS FALSE NEIGHBOUR: 'it returns false'. Refute it at one input. -/
def homeSumsWrong : ChangeSpec := { name := "homeSums", fn := fun _ => fun
  | [d1, d2] => { results := [.lit (.bool false)], args := [d1, d2] }
  | _ => none }
def HomeSumsWrongFalsely : Prop := homeSumsRow.holds Tryd.pinned (OpenSpec.ofChange homeSumsWrong)

/-- 'jetonlaw16.HomeForwards': WHATEVER THE INPUT: true; the input reads as it did. -/
def homeForwardsSpec : ChangeSpec := { name := "homeForwards", fn := fun _ => fun
  | [d1, d2, d3] => { results := [.lit (.bool true)], args := [d1, d2, d3] }
  | _ => none }
def homeForwardsRow : OpenClaim := { program := "ytmgjgeaigdiadaadoor", sum := "734b80a23eab3276a5466570959e47e5835d464d99e37f355702c165067ab94c", func := "jeton/jetonlaw16.HomeForwards", spec := "homeForwards", unfollowed := true, recurses := true, named := ["jeton/letter.rows"], apart := false, laid := [("jeton/letter.rows", laid_jeton_letter_rows)] }
def HomeForwardsSaid : Prop := homeForwardsRow.holds Tryd.pinned (OpenSpec.ofChange homeForwardsSpec)

/-- ITS FALSE NEIGHBOUR: 'it returns false'. Refute it at one input. -/
def homeForwardsWrong : ChangeSpec := { name := "homeForwards", fn := fun _ => fun
  | [d1, d2, d3] => { results := [.lit (.bool false)], args := [d1, d2, d3] }
  | _ => none }
def HomeForwardsWrongFalsely : Prop := homeForwardsRow.holds Tryd.pinned (OpenSpec.ofChange homeForwardsWrong)

/-- 'jetonlaw16.HomeServes': WHATEVER THE INPUT: true; the input reads as it did. -/
def homeServesSpec : ChangeSpec := { name := "homeServes", fn := fun _ => fun
  | [d1, d2] => { results := [.lit (.bool true)], args := [d1, d2] }
  | _ => none }
def homeServesRow : OpenClaim := { program := "ytmgjgeaigdiadaadoor", sum := "734b80a23eab3276a5466570959e47e5835d464d99e37f355702c165067ab94c", func := "jeton/jetonlaw16.HomeServes", spec := "homeServes", unfollowed := true, recurses := true, named := ["jeton/letter.rows"], apart := false, laid := [("jeton/letter.rows", laid_jeton_letter_rows)] }
def HomeServesSaid : Prop := homeServesRow.holds Tryd.pinned (OpenSpec.ofChange homeServesSpec)

/-- ITS FALSE NEIGHBOUR: 'it returns false'. Refute it at one input. -/
def homeServesWrong : ChangeSpec := { name := "homeServes", fn := fun _ => fun
  | [d1, d2] => { results := [.lit (.bool false)], args := [d1, d2] }
  | _ => none }
def HomeServesWrongFalsely : Prop := homeServesRow.holds Tryd.pinned (OpenSpec.ofChange homeServesWrong)

/-- 'jetonlaw16.HomeRest': WHATEVER THE INPUT: true; the input reads as it did. -/
def homeRestSpec : ChangeSpec := { name := "homeRest", fn := fun _ => fun
  | [d1, d2] => { results := [.lit (.bool true)], args := [d1, d2] }
  | _ => none }
def homeRestRow : OpenClaim := { program := "ytmgjgeaigdiadaadoor", sum := "734b80a23eab3276a5466570959e47e5835d464d99e37f355702c165067ab94c", func := "jeton/jetonlaw16.HomeRest", spec := "homeRest", unfollowed := true, recurses := true, named := ["jeton/letter.rows"], apart := false, laid := [("jeton/letter.rows", laid_jeton_letter_rows)] }
def HomeRestSaid : Prop := homeRestRow.holds Tryd.pinned (OpenSpec.ofChange homeRestSpec)

/-- ITS FALSE NEIGHBOUR: 'it returns false'. Refute it at one input. -/
def homeRestWrong : ChangeSpec := { name := "homeRest", fn := fun _ => fun
  | [d1, d2] => { results := [.lit (.bool false)], args := [d1, d2] }
  | _ => none }
def HomeRestWrongFalsely : Prop := homeRestRow.holds Tryd.pinned (OpenSpec.ofChange homeRestWrong)

/-- 'jetonlaw16.HomeCopies': WHATEVER THE INPUT: true; the input reads as it did. -/
def homeCopiesSpec : ChangeSpec := { name := "homeCopies", fn := fun _ => fun
  | [d1, d2] => { results := [.lit (.bool true)], args := [d1, d2] }
  | _ => none }
def homeCopiesRow : OpenClaim := { program := "ytmgjgeaigdiadaadoor", sum := "734b80a23eab3276a5466570959e47e5835d464d99e37f355702c165067ab94c", func := "jeton/jetonlaw16.HomeCopies", spec := "homeCopies", unfollowed := true, recurses := true, named := ["jeton/letter.rows"], apart := false, laid := [("jeton/letter.rows", laid_jeton_letter_rows)] }
def HomeCopiesSaid : Prop := homeCopiesRow.holds Tryd.pinned (OpenSpec.ofChange homeCopiesSpec)

/-- ITS FALSE NEIGHBOUR: 'it returns false'. Refute it at one input. -/
def homeCopiesWrong : ChangeSpec := { name := "homeCopies", fn := fun _ => fun
  | [d1, d2] => { results := [.lit (.bool false)], args := [d1, d2] }
  | _ => none }
def HomeCopiesWrongFalsely : Prop := homeCopiesRow.holds Tryd.pinned (OpenSpec.ofChange homeCopiesWrong)

/- THE SECOND FORM. 'bulk': how many values and letters a reading holds, each counted each time it is reached (what is shared counts as often as it is met; a slice's spare places count too). A statement '..UptoSaid' is the law's where the arguments, and the package variables that the reading takes, are together of bulk at most 1048576: NARROWER than '..Said'. Prove '..Said' where nothing that the law and all that it calls make is longer than what came in: it says more and counts as full. Else prove '..UptoSaid'. A law counts once. -/
mutual
def uptoBulk {H : Type} : DataW H → Nat
  | .lit (.string bytes) => bytes.length + 1
  | .lit _ => 1
  | .nil => 1
  | .ptr d => uptoBulk d + 1
  | .slice elems spare => uptoBulkAll elems + uptoBulkAll spare + 1
  | .agg parts => uptoBulkAll parts + 1
  | .iface _ d => uptoBulk d + 1
  | .map entries => uptoBulkEntries entries + 1
  | .held _ => 1
def uptoBulkAll {H : Type} : List (DataW H) → Nat
  | [] => 0
  | d :: r => uptoBulk d + uptoBulkAll r
def uptoBulkEntries {H : Type} : List (Lit × DataW H) → Nat
  | [] => 0
  | x :: r => uptoBulkEntry x + uptoBulkEntries r
def uptoBulkEntry {H : Type} : Lit × DataW H → Nat
  | (.string bytes, d) => bytes.length + uptoBulk d + 1
  | (_, d) => uptoBulk d + 1
 end
def uptoSmall : (H : Type) → List (DataW H) → Bool := fun _ ds => decide (uptoBulkAll ds ≤ 1048576)
def OpenSpec.upto (s : _root_.Go.ChangeSpec) : _root_.Go.OpenSpec := { _root_.Go.OpenSpec.ofChange s with cond := some uptoSmall }

/-- 'jetonlaw16.HomePlays', WHERE WHAT IT READS IS OF BULK AT MOST 1048576: true; the input reads as it did. -/
def homePlaysUptoRow : OpenClaim := { program := "ytmgjgeaigdiadaadoor", sum := "734b80a23eab3276a5466570959e47e5835d464d99e37f355702c165067ab94c", func := "jeton/jetonlaw16.HomePlays", spec := "homePlays", unfollowed := true, recurses := true, named := ["jeton/letter.rows"], apart := false, laid := [("jeton/letter.rows", laid_jeton_letter_rows)], narrowed := true }
def HomePlaysUptoSaid : Prop := homePlaysUptoRow.holds Tryd.pinned (OpenSpec.upto homePlaysSpec)

/-- 'jetonlaw16.HomeSums', WHERE WHAT IT READS IS OF BULK AT MOST 1048576: true; the input reads as it did. -/
def homeSumsUptoRow : OpenClaim := { program := "ytmgjgeaigdiadaadoor", sum := "734b80a23eab3276a5466570959e47e5835d464d99e37f355702c165067ab94c", func := "jeton/jetonlaw16.HomeSums", spec := "homeSums", unfollowed := true, recurses := true, named := ["jeton/letter.rows"], apart := false, laid := [("jeton/letter.rows", laid_jeton_letter_rows)], narrowed := true }
def HomeSumsUptoSaid : Prop := homeSumsUptoRow.holds Tryd.pinned (OpenSpec.upto homeSumsSpec)

/-- 'jetonlaw16.HomeForwards', WHERE WHAT IT READS IS OF BULK AT MOST 1048576: true; the input reads as it did. -/
def homeForwardsUptoRow : OpenClaim := { program := "ytmgjgeaigdiadaadoor", sum := "734b80a23eab3276a5466570959e47e5835d464d99e37f355702c165067ab94c", func := "jeton/jetonlaw16.HomeForwards", spec := "homeForwards", unfollowed := true, recurses := true, named := ["jeton/letter.rows"], apart := false, laid := [("jeton/letter.rows", laid_jeton_letter_rows)], narrowed := true }
def HomeForwardsUptoSaid : Prop := homeForwardsUptoRow.holds Tryd.pinned (OpenSpec.upto homeForwardsSpec)

/-- 'jetonlaw16.HomeServes', WHERE WHAT IT READS IS OF BULK AT MOST 1048576: true; the input reads as it did. -/
def homeServesUptoRow : OpenClaim := { program := "ytmgjgeaigdiadaadoor", sum := "734b80a23eab3276a5466570959e47e5835d464d99e37f355702c165067ab94c", func := "jeton/jetonlaw16.HomeServes", spec := "homeServes", unfollowed := true, recurses := true, named := ["jeton/letter.rows"], apart := false, laid := [("jeton/letter.rows", laid_jeton_letter_rows)], narrowed := true }
def HomeServesUptoSaid : Prop := homeServesUptoRow.holds Tryd.pinned (OpenSpec.upto homeServesSpec)

/-- 'jetonlaw16.HomeRest', WHERE WHAT IT READS IS OF BULK AT MOST 1048576: true; the input reads as it did. -/
def homeRestUptoRow : OpenClaim := { program := "ytmgjgeaigdiadaadoor", sum := "734b80a23eab3276a5466570959e47e5835d464d99e37f355702c165067ab94c", func := "jeton/jetonlaw16.HomeRest", spec := "homeRest", unfollowed := true, recurses := true, named := ["jeton/letter.rows"], apart := false, laid := [("jeton/letter.rows", laid_jeton_letter_rows)], narrowed := true }
def HomeRestUptoSaid : Prop := homeRestUptoRow.holds Tryd.pinned (OpenSpec.upto homeRestSpec)

/-- 'jetonlaw16.HomeCopies', WHERE WHAT IT READS IS OF BULK AT MOST 1048576: true; the input reads as it did. -/
def homeCopiesUptoRow : OpenClaim := { program := "ytmgjgeaigdiadaadoor", sum := "734b80a23eab3276a5466570959e47e5835d464d99e37f355702c165067ab94c", func := "jeton/jetonlaw16.HomeCopies", spec := "homeCopies", unfollowed := true, recurses := true, named := ["jeton/letter.rows"], apart := false, laid := [("jeton/letter.rows", laid_jeton_letter_rows)], narrowed := true }
def HomeCopiesUptoSaid : Prop := homeCopiesUptoRow.holds Tryd.pinned (OpenSpec.upto homeCopiesSpec)

end Rows
end Go.Proofs.YtmgjgeaigdiadaaDoor
