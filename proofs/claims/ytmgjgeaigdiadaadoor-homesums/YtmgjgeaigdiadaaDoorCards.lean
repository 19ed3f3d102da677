/-
  DERIVED. GIVEN WITH THE SEED: THE CARDS: each row of YtmgjgeaigdiadaaDoorRows.lean that lists a variable, with what it lists TIED to the program's text (the seventh form; the later family's looks); each row that meets fmt, with fmt's text TOLD by the authors' own Lean function (tested against real Go, not proved from fmt's source: count such statements apart). THE CARD IS WHAT COUNTS. Prove the row's statement (the work); the ties are given (YtmgjgeaigdiadaaDoorTie.lean); close each card by the builder's one call (the guide's Derived/Test/ToyasCard.lean, 'card_holds'). Laid BY PROGRAM, IN A SANDBOX (cutbox-door.mjs). By AI agents, Wed Nov 11 2026. No macro, syntax, notation, axiom, sorry.
-/
import Derived.Test.YtmgjgeaigdiadaaDoorRows
import GoSem.ClaimSeven
namespace Go.Proofs.YtmgjgeaigdiadaaDoor
namespace Rows

/-- THE TIED CARD OF 'jetonlaw16.HomePlays'. -/
def homePlaysCard : Claim7 := { stood := { row := homePlaysRow, standIns := [], harness := (true, "a3430d055f094d5f92076b4eabfe50862c5c75a6bb536a30197887b077d5410f"), looks := false }, kinds := [], alts := [], laidByText := true, laidKinds := [.data], laidTests := true, laidLooks := .later }
def HomePlaysCardSaid : Prop := Claim7.holds Tryd.pinned (.plain (OpenSpec.ofChange homePlaysSpec)) homePlaysCard

/-- THE TIED CARD OF 'jetonlaw16.HomeSums'. -/
def homeSumsCard : Claim7 := { stood := { row := homeSumsRow, standIns := [], harness := (true, "a3430d055f094d5f92076b4eabfe50862c5c75a6bb536a30197887b077d5410f"), looks := false }, kinds := [], alts := [], laidByText := true, laidKinds := [.data], laidTests := true, laidLooks := .later }
def HomeSumsCardSaid : Prop := Claim7.holds Tryd.pinned (.plain (OpenSpec.ofChange homeSumsSpec)) homeSumsCard

/-- THE TIED CARD OF 'jetonlaw16.HomeForwards'. -/
def homeForwardsCard : Claim7 := { stood := { row := homeForwardsRow, standIns := [], harness := (true, "a3430d055f094d5f92076b4eabfe50862c5c75a6bb536a30197887b077d5410f"), looks := false }, kinds := [], alts := [], laidByText := true, laidKinds := [.data], laidTests := true, laidLooks := .later }
def HomeForwardsCardSaid : Prop := Claim7.holds Tryd.pinned (.plain (OpenSpec.ofChange homeForwardsSpec)) homeForwardsCard

/-- THE TIED CARD OF 'jetonlaw16.HomeServes'. -/
def homeServesCard : Claim7 := { stood := { row := homeServesRow, standIns := [], harness := (true, "a3430d055f094d5f92076b4eabfe50862c5c75a6bb536a30197887b077d5410f"), looks := false }, kinds := [], alts := [], laidByText := true, laidKinds := [.data], laidTests := true, laidLooks := .later }
def HomeServesCardSaid : Prop := Claim7.holds Tryd.pinned (.plain (OpenSpec.ofChange homeServesSpec)) homeServesCard

/-- THE TIED CARD OF 'jetonlaw16.HomeRest'. -/
def homeRestCard : Claim7 := { stood := { row := homeRestRow, standIns := [], harness := (true, "a3430d055f094d5f92076b4eabfe50862c5c75a6bb536a30197887b077d5410f"), looks := false }, kinds := [], alts := [], laidByText := true, laidKinds := [.data], laidTests := true, laidLooks := .later }
def HomeRestCardSaid : Prop := Claim7.holds Tryd.pinned (.plain (OpenSpec.ofChange homeRestSpec)) homeRestCard

/-- THE TIED CARD OF 'jetonlaw16.HomeCopies'. -/
def homeCopiesCard : Claim7 := { stood := { row := homeCopiesRow, standIns := [], harness := (true, "a3430d055f094d5f92076b4eabfe50862c5c75a6bb536a30197887b077d5410f"), looks := false }, kinds := [], alts := [], laidByText := true, laidKinds := [.data], laidTests := true, laidLooks := .later }
def HomeCopiesCardSaid : Prop := Claim7.holds Tryd.pinned (.plain (OpenSpec.ofChange homeCopiesSpec)) homeCopiesCard

/-- THE SECOND FORM's CARD OF 'jetonlaw16.HomePlays'. -/
def homePlaysUptoCard : Claim7 := { stood := { row := homePlaysUptoRow, standIns := [], harness := (true, "a3430d055f094d5f92076b4eabfe50862c5c75a6bb536a30197887b077d5410f"), looks := false }, kinds := [], alts := [], laidByText := true, laidKinds := [.data], laidTests := true, laidLooks := .later }
def HomePlaysUptoCardSaid : Prop := Claim7.holds Tryd.pinned (.plain (OpenSpec.upto homePlaysSpec)) homePlaysUptoCard

/-- THE SECOND FORM's CARD OF 'jetonlaw16.HomeSums'. -/
def homeSumsUptoCard : Claim7 := { stood := { row := homeSumsUptoRow, standIns := [], harness := (true, "a3430d055f094d5f92076b4eabfe50862c5c75a6bb536a30197887b077d5410f"), looks := false }, kinds := [], alts := [], laidByText := true, laidKinds := [.data], laidTests := true, laidLooks := .later }
def HomeSumsUptoCardSaid : Prop := Claim7.holds Tryd.pinned (.plain (OpenSpec.upto homeSumsSpec)) homeSumsUptoCard

/-- THE SECOND FORM's CARD OF 'jetonlaw16.HomeForwards'. -/
def homeForwardsUptoCard : Claim7 := { stood := { row := homeForwardsUptoRow, standIns := [], harness := (true, "a3430d055f094d5f92076b4eabfe50862c5c75a6bb536a30197887b077d5410f"), looks := false }, kinds := [], alts := [], laidByText := true, laidKinds := [.data], laidTests := true, laidLooks := .later }
def HomeForwardsUptoCardSaid : Prop := Claim7.holds Tryd.pinned (.plain (OpenSpec.upto homeForwardsSpec)) homeForwardsUptoCard

/-- THE SECOND FORM's CARD OF 'jetonlaw16.HomeServes'. -/
def homeServesUptoCard : Claim7 := { stood := { row := homeServesUptoRow, standIns := [], harness := (true, "a3430d055f094d5f92076b4eabfe50862c5c75a6bb536a30197887b077d5410f"), looks := false }, kinds := [], alts := [], laidByText := true, laidKinds := [.data], laidTests := true, laidLooks := .later }
def HomeServesUptoCardSaid : Prop := Claim7.holds Tryd.pinned (.plain (OpenSpec.upto homeServesSpec)) homeServesUptoCard

/-- THE SECOND FORM's CARD OF 'jetonlaw16.HomeRest'. -/
def homeRestUptoCard : Claim7 := { stood := { row := homeRestUptoRow, standIns := [], harness := (true, "a3430d055f094d5f92076b4eabfe50862c5c75a6bb536a30197887b077d5410f"), looks := false }, kinds := [], alts := [], laidByText := true, laidKinds := [.data], laidTests := true, laidLooks := .later }
def HomeRestUptoCardSaid : Prop := Claim7.holds Tryd.pinned (.plain (OpenSpec.upto homeRestSpec)) homeRestUptoCard

/-- THE SECOND FORM's CARD OF 'jetonlaw16.HomeCopies'. -/
def homeCopiesUptoCard : Claim7 := { stood := { row := homeCopiesUptoRow, standIns := [], harness := (true, "a3430d055f094d5f92076b4eabfe50862c5c75a6bb536a30197887b077d5410f"), looks := false }, kinds := [], alts := [], laidByText := true, laidKinds := [.data], laidTests := true, laidLooks := .later }
def HomeCopiesUptoCardSaid : Prop := Claim7.holds Tryd.pinned (.plain (OpenSpec.upto homeCopiesSpec)) homeCopiesUptoCard
end Rows
end Go.Proofs.YtmgjgeaigdiadaaDoor
