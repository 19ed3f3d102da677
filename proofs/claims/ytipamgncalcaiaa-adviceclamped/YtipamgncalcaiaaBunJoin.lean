/- The contract of bundle.Join (layer 2): what it returns; no old memory turns. -/
import Derived.Test.YtipamgncalcaiaaBundle
import Derived.Deep.RegionHeld3
namespace Go.Proofs.Ytipamgncalcaiaa
open Go.ChangeShapes Go.WideShapes Go.ChangeAt Go.RowKit
set_option linter.unusedSimpArgs false
set_option linter.unusedVariables false

attribute [local go_sem, local simp] setCell_drewN alloc_drewN

end Go.Proofs.Ytipamgncalcaiaa
