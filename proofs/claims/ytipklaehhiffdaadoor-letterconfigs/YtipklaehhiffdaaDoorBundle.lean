/- The contracts of package bundle's calls (layer 2): what each returns; no old memory turns. -/
import Derived.Test.YtipklaehhiffdaaDoorNum
import Derived.Test.YtipklaehhiffdaaDoorBunMath
import Derived.Test.YtipklaehhiffdaaDoorDrew
import Derived.Below
import Derived.Handy
import Derived.Deep.QuietTactic
import Derived.BigQuiet
namespace Go.Proofs.YtipklaehhiffdaaDoor
open Go.ChangeShapes Go.WideShapes Go.ChangeAt Go.RowKit

theorem bcell {W w1 : World} (hb : Below W.heap.size W w1) : (∀ b o, b < W.heap.size → w1.cell? ⟨b, o, none⟩ = W.cell? ⟨b, o, none⟩) ∧ (∀ b o, b < W.heap.size → w1.frozen? ⟨b, o, none⟩ = W.frozen? ⟨b, o, none⟩) :=
  ⟨fun b o h => hb.cell (p := ⟨b, o, none⟩) h, fun b o h => hb.frozen (p := ⟨b, o, none⟩) h⟩

theorem bz {W w1 : World} (hb : Below W.heap.size W w1) {k : Nat} (h : k < W.heap.size) : k < w1.heap.size := Nat.lt_of_lt_of_le h hb.size

theorem check_any (n : Int) (o h : Bool) (d t : Int) (w : World) :
    Calls Tryd.prog 29 #[.agg #[.int .i64 n, .bool o, .bool h, .int .i64 d], .int .i64 t] w fun e w' =>
      e = .returned (.int .i64 (checkZ ⟨n, o, h, d⟩ t)) ∧ Below w.heap.size w w' := by
  go_enter Tryd.func29, Tryd.ntmps29
  go_wp2
  all_goals go_ret
  all_goals refine ⟨ret_int ?_, by go_grown⟩
  all_goals (unfold checkZ; simp_all <;> omega)

end Go.Proofs.YtipklaehhiffdaaDoor
