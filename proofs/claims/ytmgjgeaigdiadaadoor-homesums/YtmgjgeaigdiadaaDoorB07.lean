/- layer 16: Laid16, put together. -/
import Derived.Test.YtmgjgeaigdiadaaDoorB05
import Derived.Test.YtmgjgeaigdiadaaDoorB06
namespace Go.Proofs.YtmgjgeaigdiadaaDoor
open Go.ChangeShapes Go.WideShapes Go.ChangeAt Go.RowKit
theorem tab_of_laid {W : World} (h : laidMetH Tryd.prog Rows.homePlaysRow.laid W) : Tab W := by
  rw [MakeChecks.laidMetH_plain _ _ _ (by kernel_rfl)] at h
  have hc := laid_cells (g := 0) (t := 108) (by kernel_rfl) (by kernel_rfl) h tabL (by kernel_rfl)
  exact ⟨World.block_lt_of_cell? _ _ (hc 0 _ rfl), hc⟩
theorem door_met (os : Os) (args : Array Value) : laidMetH Tryd.prog Rows.homePlaysRow.laid ((World.doorLaid Tryd.prog 400 os).forCall (fun _ _ => 0) ⟨#[], args, []⟩).memory :=
  laidMetH_of_parts3 (fuel := 8) (laidMet_of_run' 8 (by kernel_rfl) (by kernel_rfl)) (by kernel_rfl) (by kernel_rfl)
end Go.Proofs.YtmgjgeaigdiadaaDoor
