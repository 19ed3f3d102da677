/-
  DERIVED. GIVEN WITH THE SEED: THE CARDS: each row of YtoenjdnccgmhoaaGreatDoorRows.lean that lists a variable, with what it lists TIED to the program's text (the seventh form; the later family's looks); each row that meets fmt, with fmt's text TOLD by the authors' own Lean function (tested against real Go, not proved from fmt's source: count such statements apart). THE CARD IS WHAT COUNTS. Prove the row's statement (the work); the ties are given (YtoenjdnccgmhoaaGreatDoorTie.lean); close each card by the builder's one call (the guide's Derived/Test/ToyasCard.lean, 'card_holds'). Laid BY PROGRAM, IN A SANDBOX (cutbox-door.mjs). By AI agents, Wed Nov 11 2026. No macro, syntax, notation, axiom, sorry.
-/
import Derived.Test.YtoenjdnccgmhoaaGreatDoorRows
import GoSem.ClaimSeven
namespace Go.Proofs.YtoenjdnccgmhoaaGreatDoor
namespace Rows

/-- THE TIED CARD OF 'jetonlaw15.NodePlays'. -/
def nodePlaysCard : Claim7 := { stood := { row := nodePlaysRow, standIns := [], harness := (true, "d4e8e3fed49bf5d9617fc637a60a10e83a7e0363e6859233f656a0e4a910e8e5"), looks := true }, kinds := [], alts := [], laidByText := true, laidKinds := [.data], laidTests := true, laidLooks := .later }
def NodePlaysCardSaid : Prop := Claim7.holds Tryz.pinned (.plain (OpenSpec.ofChange nodePlaysSpec)) nodePlaysCard

/-- THE TIED CARD OF 'jetonlaw15.NodeSums'. -/
def nodeSumsCard : Claim7 := { stood := { row := nodeSumsRow, standIns := [], harness := (true, "d4e8e3fed49bf5d9617fc637a60a10e83a7e0363e6859233f656a0e4a910e8e5"), looks := true }, kinds := [], alts := [], laidByText := true, laidKinds := [.data], laidTests := true, laidLooks := .later }
def NodeSumsCardSaid : Prop := Claim7.holds Tryz.pinned (.plain (OpenSpec.ofChange nodeSumsSpec)) nodeSumsCard

/-- THE TIED CARD OF 'jetonlaw15.NodeGives'. -/
def nodeGivesCard : Claim7 := { stood := { row := nodeGivesRow, standIns := [], harness := (true, "d4e8e3fed49bf5d9617fc637a60a10e83a7e0363e6859233f656a0e4a910e8e5"), looks := true }, kinds := [], alts := [], laidByText := true, laidKinds := [.data], laidTests := true, laidLooks := .later }
def NodeGivesCardSaid : Prop := Claim7.holds Tryz.pinned (.plain (OpenSpec.ofChange nodeGivesSpec)) nodeGivesCard

/-- THE TIED CARD OF 'jetonlaw15.NodeAsks'. -/
def nodeAsksCard : Claim7 := { stood := { row := nodeAsksRow, standIns := [], harness := (true, "d4e8e3fed49bf5d9617fc637a60a10e83a7e0363e6859233f656a0e4a910e8e5"), looks := true }, kinds := [], alts := [], laidByText := true, laidKinds := [.data], laidTests := true, laidLooks := .later }
def NodeAsksCardSaid : Prop := Claim7.holds Tryz.pinned (.plain (OpenSpec.ofChange nodeAsksSpec)) nodeAsksCard

/-- THE TIED CARD OF 'jetonlaw15.NodeEnds'. -/
def nodeEndsCard : Claim7 := { stood := { row := nodeEndsRow, standIns := [], harness := (true, "d4e8e3fed49bf5d9617fc637a60a10e83a7e0363e6859233f656a0e4a910e8e5"), looks := true }, kinds := [], alts := [], laidByText := true, laidKinds := [.data], laidTests := true, laidLooks := .later }
def NodeEndsCardSaid : Prop := Claim7.holds Tryz.pinned (.plain (OpenSpec.ofChange nodeEndsSpec)) nodeEndsCard

/-- THE TIED CARD OF 'jetonlaw15.NodeNothing'. -/
def nodeNothingCard : Claim7 := { stood := { row := nodeNothingRow, standIns := [], harness := (true, "d4e8e3fed49bf5d9617fc637a60a10e83a7e0363e6859233f656a0e4a910e8e5"), looks := true }, kinds := [], alts := [], laidByText := true, laidKinds := [.data], laidTests := true, laidLooks := .later }
def NodeNothingCardSaid : Prop := Claim7.holds Tryz.pinned (.plain (OpenSpec.ofChange nodeNothingSpec)) nodeNothingCard

/-- THE TIED CARD OF 'jetonlaw15.NodeLoads'. -/
def nodeLoadsCard : Claim7 := { stood := { row := nodeLoadsRow, standIns := [], harness := (true, "d4e8e3fed49bf5d9617fc637a60a10e83a7e0363e6859233f656a0e4a910e8e5"), looks := true }, kinds := [], alts := [], laidByText := true, laidKinds := [.data], laidTests := true, laidLooks := .later }
def NodeLoadsCardSaid : Prop := Claim7.holds Tryz.pinned (.plain (OpenSpec.ofChange nodeLoadsSpec)) nodeLoadsCard

/-- THE TIED CARD OF 'jetonlaw15.NodeCopies'. -/
def nodeCopiesCard : Claim7 := { stood := { row := nodeCopiesRow, standIns := [], harness := (true, "d4e8e3fed49bf5d9617fc637a60a10e83a7e0363e6859233f656a0e4a910e8e5"), looks := true }, kinds := [], alts := [], laidByText := true, laidKinds := [.data], laidTests := true, laidLooks := .later }
def NodeCopiesCardSaid : Prop := Claim7.holds Tryz.pinned (.plain (OpenSpec.ofChange nodeCopiesSpec)) nodeCopiesCard

/-- THE SECOND FORM's CARD OF 'jetonlaw15.NodePlays'. -/
def nodePlaysUptoCard : Claim7 := { stood := { row := nodePlaysUptoRow, standIns := [], harness := (true, "d4e8e3fed49bf5d9617fc637a60a10e83a7e0363e6859233f656a0e4a910e8e5"), looks := true }, kinds := [], alts := [], laidByText := true, laidKinds := [.data], laidTests := true, laidLooks := .later }
def NodePlaysUptoCardSaid : Prop := Claim7.holds Tryz.pinned (.plain (OpenSpec.upto nodePlaysSpec)) nodePlaysUptoCard

/-- THE SECOND FORM's CARD OF 'jetonlaw15.NodeSums'. -/
def nodeSumsUptoCard : Claim7 := { stood := { row := nodeSumsUptoRow, standIns := [], harness := (true, "d4e8e3fed49bf5d9617fc637a60a10e83a7e0363e6859233f656a0e4a910e8e5"), looks := true }, kinds := [], alts := [], laidByText := true, laidKinds := [.data], laidTests := true, laidLooks := .later }
def NodeSumsUptoCardSaid : Prop := Claim7.holds Tryz.pinned (.plain (OpenSpec.upto nodeSumsSpec)) nodeSumsUptoCard

/-- THE SECOND FORM's CARD OF 'jetonlaw15.NodeGives'. -/
def nodeGivesUptoCard : Claim7 := { stood := { row := nodeGivesUptoRow, standIns := [], harness := (true, "d4e8e3fed49bf5d9617fc637a60a10e83a7e0363e6859233f656a0e4a910e8e5"), looks := true }, kinds := [], alts := [], laidByText := true, laidKinds := [.data], laidTests := true, laidLooks := .later }
def NodeGivesUptoCardSaid : Prop := Claim7.holds Tryz.pinned (.plain (OpenSpec.upto nodeGivesSpec)) nodeGivesUptoCard

/-- THE SECOND FORM's CARD OF 'jetonlaw15.NodeAsks'. -/
def nodeAsksUptoCard : Claim7 := { stood := { row := nodeAsksUptoRow, standIns := [], harness := (true, "d4e8e3fed49bf5d9617fc637a60a10e83a7e0363e6859233f656a0e4a910e8e5"), looks := true }, kinds := [], alts := [], laidByText := true, laidKinds := [.data], laidTests := true, laidLooks := .later }
def NodeAsksUptoCardSaid : Prop := Claim7.holds Tryz.pinned (.plain (OpenSpec.upto nodeAsksSpec)) nodeAsksUptoCard

/-- THE SECOND FORM's CARD OF 'jetonlaw15.NodeEnds'. -/
def nodeEndsUptoCard : Claim7 := { stood := { row := nodeEndsUptoRow, standIns := [], harness := (true, "d4e8e3fed49bf5d9617fc637a60a10e83a7e0363e6859233f656a0e4a910e8e5"), looks := true }, kinds := [], alts := [], laidByText := true, laidKinds := [.data], laidTests := true, laidLooks := .later }
def NodeEndsUptoCardSaid : Prop := Claim7.holds Tryz.pinned (.plain (OpenSpec.upto nodeEndsSpec)) nodeEndsUptoCard

/-- THE SECOND FORM's CARD OF 'jetonlaw15.NodeNothing'. -/
def nodeNothingUptoCard : Claim7 := { stood := { row := nodeNothingUptoRow, standIns := [], harness := (true, "d4e8e3fed49bf5d9617fc637a60a10e83a7e0363e6859233f656a0e4a910e8e5"), looks := true }, kinds := [], alts := [], laidByText := true, laidKinds := [.data], laidTests := true, laidLooks := .later }
def NodeNothingUptoCardSaid : Prop := Claim7.holds Tryz.pinned (.plain (OpenSpec.upto nodeNothingSpec)) nodeNothingUptoCard

/-- THE SECOND FORM's CARD OF 'jetonlaw15.NodeLoads'. -/
def nodeLoadsUptoCard : Claim7 := { stood := { row := nodeLoadsUptoRow, standIns := [], harness := (true, "d4e8e3fed49bf5d9617fc637a60a10e83a7e0363e6859233f656a0e4a910e8e5"), looks := true }, kinds := [], alts := [], laidByText := true, laidKinds := [.data], laidTests := true, laidLooks := .later }
def NodeLoadsUptoCardSaid : Prop := Claim7.holds Tryz.pinned (.plain (OpenSpec.upto nodeLoadsSpec)) nodeLoadsUptoCard

/-- THE SECOND FORM's CARD OF 'jetonlaw15.NodeCopies'. -/
def nodeCopiesUptoCard : Claim7 := { stood := { row := nodeCopiesUptoRow, standIns := [], harness := (true, "d4e8e3fed49bf5d9617fc637a60a10e83a7e0363e6859233f656a0e4a910e8e5"), looks := true }, kinds := [], alts := [], laidByText := true, laidKinds := [.data], laidTests := true, laidLooks := .later }
def NodeCopiesUptoCardSaid : Prop := Claim7.holds Tryz.pinned (.plain (OpenSpec.upto nodeCopiesSpec)) nodeCopiesUptoCard
end Rows
end Go.Proofs.YtoenjdnccgmhoaaGreatDoor
