/- bundle's Split and Join by what they answer (layer 2), for tokens that may be. -/
import Derived.Test.YtipamgncalcaiaaBunSplit
import Derived.Test.YtipamgncalcaiaaBunJoin
namespace Go.Proofs.Ytipamgncalcaiaa
open Go.ChangeShapes Go.WideShapes Go.ChangeAt Go.RowKit

theorem split_c (n : Int) (o h : Bool) (d c : Int) (a v : Bool) (w : World) (hn2 : n ≤ 9223372036854775807) (ok : okB ⟨n, o, h, d⟩)
    (r s : Bun) (hr : Hid (givenB ⟨n, o, h, d⟩ c a v = r)) (hs : Hid (restB ⟨n, o, h, d⟩ c a = s)) :
    Calls Try.prog 15 #[.agg #[.int .i64 n, .bool o, .bool h, .int .i64 d], .int .i64 c, .bool a, .bool v] w fun e w' =>
        e = .returned (.tuple #[.agg #[.int .i64 r.n, .bool r.o, .bool r.h, .int .i64 r.d], .agg #[.int .i64 s.n, .bool s.o, .bool s.h, .int .i64 s.d]]) ∧ Below w.heap.size w w' := by
  have h0 : 0 ≤ n := ok.1
  have hb := howMany_bd n o h d c a h0 (fun e => (ok.2.1 e).1)
  by_cases z : howManyZ ⟨n, o, h, d⟩ c a = 0
  · refine (split_none n o h d c a v w (by omega) hn2 z).mono ?_
    rintro e w' ⟨r', s', e1, e2, he, hb⟩
    obtain rfl : r = r' := (unhide hr).symm.trans e1
    obtain rfl : s = s' := (unhide hs).symm.trans e2
    exact ⟨he, hb⟩
  · refine (split_some n o h d c a v w (by omega) hn2 _ z rfl hb.1 hb.2).mono ?_
    rintro e w' ⟨r', s', e1, e2, he, hb⟩
    obtain rfl : r = r' := (unhide hr).symm.trans e1
    obtain rfl : s = s' := (unhide hs).symm.trans e2
    exact ⟨he, hb⟩

end Go.Proofs.Ytipamgncalcaiaa
