/- The contracts of package bundle's calls (layer 2): what each returns; no old memory turns. -/
import Derived.Test.YtipamgncalcaiaaNum
import Derived.Test.YtipamgncalcaiaaBunMath
import Derived.Test.YtipamgncalcaiaaDrew
import Derived.Below
import Derived.Handy
import Derived.Deep.QuietTactic
import Derived.BigQuiet
namespace Go.Proofs.Ytipamgncalcaiaa
open Go.ChangeShapes Go.WideShapes Go.ChangeAt Go.RowKit

theorem bcell {W w1 : World} (hb : Below W.heap.size W w1) : (∀ b o, b < W.heap.size → w1.cell? ⟨b, o, none⟩ = W.cell? ⟨b, o, none⟩) ∧ (∀ b o, b < W.heap.size → w1.frozen? ⟨b, o, none⟩ = W.frozen? ⟨b, o, none⟩) :=
  ⟨fun b o h => hb.cell (p := ⟨b, o, none⟩) h, fun b o h => hb.frozen (p := ⟨b, o, none⟩) h⟩

theorem bz {W w1 : World} (hb : Below W.heap.size W w1) {k : Nat} (h : k < W.heap.size) : k < w1.heap.size := Nat.lt_of_lt_of_le h hb.size

/-- What withValue answers, and the three blocks that it makes. -/
theorem withValue_any (n : Int) (o h : Bool) (d : Int) (n' : Int) (o' h' : Bool) (d' : Int) (a : Bool) (w : World) :
    Calls Try.prog 24 #[.agg #[.int .i64 n, .bool o, .bool h, .int .i64 d], .agg #[.int .i64 n', .bool o', .bool h', .int .i64 d'], .bool a] w fun e w' =>
      ∃ (r : Bun) (o1 o2 o3 : Array Value) (k : Nat), Hid (withV ⟨n, o, h, d⟩ ⟨n', o', h', d'⟩ a = r) ∧ e = .returned (.agg #[.int .i64 r.n, .bool r.o, .bool r.h, .int .i64 r.d]) ∧
        w' = (((w.alloc (.cells o1 32)).alloc (.cells o2 32)).alloc (.cells o3 32)).drewN k := by
  cases a <;> cases h'
  case true.true =>
    go_enter Try.func24, Try.ntmps24
    go_wp2
    go_region
    go_wp2
    go_returns
    exact ⟨_, _, _, _, 1, rfl, rfl, rfl⟩
  all_goals
    go_enter Try.func24, Try.ntmps24
    go_wp2
    go_returns
    exact ⟨_, _, _, _, 0, rfl, rfl, rfl⟩

theorem full_any (t d : Int) (w : World) (r : Bun) (hr : Hid (fullB t d = r)) :
    Calls Try.prog 17 #[.int .i64 t, .int .i64 d] w fun e w' =>
      e = .returned (.agg #[.int .i64 r.n, .bool r.o, .bool r.h, .int .i64 r.d]) ∧ Below w.heap.size w w' := by
  by_cases c : t < 1
  all_goals
    go_enter Try.func17, Try.ntmps17
    go_wp2
    go_returns
    rw [← unhide hr]
    unfold fullB
    first | (rw [if_pos c]; exact ⟨rfl, by go_grown⟩) | (rw [if_neg (by omega)]; exact ⟨rfl, by go_grown⟩)

theorem check_any (n : Int) (o h : Bool) (d t : Int) (w : World) :
    Calls Try.prog 16 #[.agg #[.int .i64 n, .bool o, .bool h, .int .i64 d], .int .i64 t] w fun e w' =>
      e = .returned (.int .i64 (checkZ ⟨n, o, h, d⟩ t)) ∧ Below w.heap.size w w' := by
  go_enter Try.func16, Try.ntmps16
  go_wp2
  all_goals go_ret
  all_goals refine ⟨ret_int ?_, by go_grown⟩
  all_goals (unfold checkZ; simp_all <;> omega)

theorem howMany_any (n : Int) (o h : Bool) (d c : Int) (a : Bool) (w : World) (g : Int) (hg : Hid (howManyZ ⟨n, o, h, d⟩ c a = g)) (hn : -9223372036854775808 < n) (hn2 : n ≤ 9223372036854775807) :
    Calls Try.prog 23 #[.agg #[.int .i64 n, .bool o, .bool h, .int .i64 d], .int .i64 c, .bool a] w fun e w' =>
      e = .returned (.int .i64 g) ∧ Below w.heap.size w w' := by
  cases o <;> cases a
  all_goals
    go_enter Try.func23, Try.ntmps23
    go_wp2_with (go_at_call 25; refine (numClamp_any _ _ _ _).mono ?_; rintro e w' ⟨rfl, rfl⟩)
    go_ret
    exact ⟨ret_int hg, by go_grown⟩

end Go.Proofs.Ytipamgncalcaiaa
