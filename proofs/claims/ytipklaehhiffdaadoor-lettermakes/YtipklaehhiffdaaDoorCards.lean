/-
  DERIVED. GIVEN WITH THE SEED: THE CARDS: each row of YtipklaehhiffdaaDoorRows.lean that lists a variable, with what it lists TIED to the program's text (the seventh form; the later family's looks); each row that meets fmt, with fmt's text TOLD by the authors' own Lean function (tested against real Go, not proved from fmt's source: count such statements apart). THE CARD IS WHAT COUNTS. Prove the row's statement (the work); the ties are given (YtipklaehhiffdaaDoorTie.lean); close each card by the builder's one call (the guide's Derived/Test/ToyasCard.lean, 'card_holds'). Laid BY PROGRAM, IN A SANDBOX (cutbox-door.mjs). By AI agents, Wed Nov 11 2026. No macro, syntax, notation, axiom, sorry.
-/
import Derived.Test.YtipklaehhiffdaaDoorRows
import GoSem.ClaimSeven
namespace Go.Proofs.YtipklaehhiffdaaDoor
namespace Rows

/-- THE TIED CARD OF 'jetonlaw04.LetterConfigs'. -/
def letterConfigsCard : Claim7 := { stood := { row := letterConfigsRow, standIns := [], harness := (true, "8706ff98b395b6b0263430f8c9129f6cf12bf981ca3b90222994951c5ebe00b3"), looks := false }, kinds := [], alts := [], laidByText := true, laidKinds := [.data], laidTests := true, laidLooks := .later }
def LetterConfigsCardSaid : Prop := Claim7.holds Tryd.pinned (.plain (OpenSpec.ofChange letterConfigsSpec)) letterConfigsCard

/-- THE TIED CARD OF 'jetonlaw04.LetterChecks'. -/
def letterChecksCard : Claim7 := { stood := { row := letterChecksRow, standIns := [], harness := (true, "8706ff98b395b6b0263430f8c9129f6cf12bf981ca3b90222994951c5ebe00b3"), looks := false }, kinds := [], alts := [], laidByText := true, laidKinds := [.data], laidTests := true, laidLooks := .later }
def LetterChecksCardSaid : Prop := Claim7.holds Tryd.pinned (.plain (OpenSpec.ofChange letterChecksSpec)) letterChecksCard

/-- THE TIED CARD OF 'jetonlaw04.LetterDrops'. -/
def letterDropsCard : Claim7 := { stood := { row := letterDropsRow, standIns := [], harness := (true, "8706ff98b395b6b0263430f8c9129f6cf12bf981ca3b90222994951c5ebe00b3"), looks := false }, kinds := [], alts := [], laidByText := true, laidKinds := [.data], laidTests := true, laidLooks := .later }
def LetterDropsCardSaid : Prop := Claim7.holds Tryd.pinned (.plain (OpenSpec.ofChange letterDropsSpec)) letterDropsCard

/-- THE TIED CARD OF 'jetonlaw04.LetterTokens'. -/
def letterTokensCard : Claim7 := { stood := { row := letterTokensRow, standIns := [], harness := (true, "8706ff98b395b6b0263430f8c9129f6cf12bf981ca3b90222994951c5ebe00b3"), looks := false }, kinds := [], alts := [], laidByText := true, laidKinds := [.data], laidTests := true, laidLooks := .later }
def LetterTokensCardSaid : Prop := Claim7.holds Tryd.pinned (.plain (OpenSpec.ofChange letterTokensSpec)) letterTokensCard

/-- THE TIED CARD OF 'jetonlaw04.LetterMakes'. -/
def letterMakesCard : Claim7 := { stood := { row := letterMakesRow, standIns := [], harness := (true, "8706ff98b395b6b0263430f8c9129f6cf12bf981ca3b90222994951c5ebe00b3"), looks := false }, kinds := [], alts := [], laidByText := true, laidKinds := [.data], laidTests := true, laidLooks := .later }
def LetterMakesCardSaid : Prop := Claim7.holds Tryd.pinned (.plain (OpenSpec.ofChange letterMakesSpec)) letterMakesCard

/-- THE TIED CARD OF 'jetonlaw04.LetterSelf'. -/
def letterSelfCard : Claim7 := { stood := { row := letterSelfRow, standIns := [], harness := (true, "8706ff98b395b6b0263430f8c9129f6cf12bf981ca3b90222994951c5ebe00b3"), looks := false }, kinds := [], alts := [], laidByText := true, laidKinds := [.data], laidTests := true, laidLooks := .later }
def LetterSelfCardSaid : Prop := Claim7.holds Tryd.pinned (.plain (OpenSpec.ofChange letterSelfSpec)) letterSelfCard

/-- THE SECOND FORM's CARD OF 'jetonlaw04.LetterConfigs'. -/
def letterConfigsUptoCard : Claim7 := { stood := { row := letterConfigsUptoRow, standIns := [], harness := (true, "8706ff98b395b6b0263430f8c9129f6cf12bf981ca3b90222994951c5ebe00b3"), looks := false }, kinds := [], alts := [], laidByText := true, laidKinds := [.data], laidTests := true, laidLooks := .later }
def LetterConfigsUptoCardSaid : Prop := Claim7.holds Tryd.pinned (.plain (OpenSpec.upto letterConfigsSpec)) letterConfigsUptoCard

/-- THE SECOND FORM's CARD OF 'jetonlaw04.LetterChecks'. -/
def letterChecksUptoCard : Claim7 := { stood := { row := letterChecksUptoRow, standIns := [], harness := (true, "8706ff98b395b6b0263430f8c9129f6cf12bf981ca3b90222994951c5ebe00b3"), looks := false }, kinds := [], alts := [], laidByText := true, laidKinds := [.data], laidTests := true, laidLooks := .later }
def LetterChecksUptoCardSaid : Prop := Claim7.holds Tryd.pinned (.plain (OpenSpec.upto letterChecksSpec)) letterChecksUptoCard

/-- THE SECOND FORM's CARD OF 'jetonlaw04.LetterDrops'. -/
def letterDropsUptoCard : Claim7 := { stood := { row := letterDropsUptoRow, standIns := [], harness := (true, "8706ff98b395b6b0263430f8c9129f6cf12bf981ca3b90222994951c5ebe00b3"), looks := false }, kinds := [], alts := [], laidByText := true, laidKinds := [.data], laidTests := true, laidLooks := .later }
def LetterDropsUptoCardSaid : Prop := Claim7.holds Tryd.pinned (.plain (OpenSpec.upto letterDropsSpec)) letterDropsUptoCard

/-- THE SECOND FORM's CARD OF 'jetonlaw04.LetterTokens'. -/
def letterTokensUptoCard : Claim7 := { stood := { row := letterTokensUptoRow, standIns := [], harness := (true, "8706ff98b395b6b0263430f8c9129f6cf12bf981ca3b90222994951c5ebe00b3"), looks := false }, kinds := [], alts := [], laidByText := true, laidKinds := [.data], laidTests := true, laidLooks := .later }
def LetterTokensUptoCardSaid : Prop := Claim7.holds Tryd.pinned (.plain (OpenSpec.upto letterTokensSpec)) letterTokensUptoCard

/-- THE SECOND FORM's CARD OF 'jetonlaw04.LetterMakes'. -/
def letterMakesUptoCard : Claim7 := { stood := { row := letterMakesUptoRow, standIns := [], harness := (true, "8706ff98b395b6b0263430f8c9129f6cf12bf981ca3b90222994951c5ebe00b3"), looks := false }, kinds := [], alts := [], laidByText := true, laidKinds := [.data], laidTests := true, laidLooks := .later }
def LetterMakesUptoCardSaid : Prop := Claim7.holds Tryd.pinned (.plain (OpenSpec.upto letterMakesSpec)) letterMakesUptoCard

/-- THE SECOND FORM's CARD OF 'jetonlaw04.LetterSelf'. -/
def letterSelfUptoCard : Claim7 := { stood := { row := letterSelfUptoRow, standIns := [], harness := (true, "8706ff98b395b6b0263430f8c9129f6cf12bf981ca3b90222994951c5ebe00b3"), looks := false }, kinds := [], alts := [], laidByText := true, laidKinds := [.data], laidTests := true, laidLooks := .later }
def LetterSelfUptoCardSaid : Prop := Claim7.holds Tryd.pinned (.plain (OpenSpec.upto letterSelfSpec)) letterSelfUptoCard
end Rows
end Go.Proofs.YtipklaehhiffdaaDoor
