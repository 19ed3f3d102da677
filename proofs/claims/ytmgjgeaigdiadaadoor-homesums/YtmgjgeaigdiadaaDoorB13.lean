/- layer 16: BunJoin BunC Ref02 Ref02j Ref04 Ref04e RefC1 RefC2, put together. -/
import Derived.Test.YtmgjgeaigdiadaaDoorB05
import Derived.Deep.RegionHeld3
import Derived.Test.YtmgjgeaigdiadaaDoorB12
import Derived.Test.YtmgjgeaigdiadaaDoorB02
import Derived.Test.YtmgjgeaigdiadaaDoorB04
namespace Go.Proofs.YtmgjgeaigdiadaaDoor
open Go.ChangeShapes Go.WideShapes Go.ChangeAt Go.RowKit
set_option linter.unusedSimpArgs false
set_option linter.unusedVariables false
attribute [local go_sem, local simp] setCell_drewN alloc_drewN
set_option maxHeartbeats 1000000 in
theorem join_any (n : Int) (o h : Bool) (d : Int) (n' : Int) (o' h' : Bool) (d' : Int) (w : World) (h1 : -9223372036854775808 ≤ n + n') (h2 : n + n' ≤ 9223372036854775807) :
    Calls Tryd.prog 90 #[.agg #[.int .i64 n, .bool o, .bool h, .int .i64 d], .agg #[.int .i64 n', .bool o', .bool h', .int .i64 d']] w fun e w' =>
      ∃ r : Bun, Hid (joinB ⟨n, o, h, d⟩ ⟨n', o', h', d'⟩ = r) ∧ e = .returned (.agg #[.int .i64 r.n, .bool r.o, .bool r.h, .int .i64 r.d]) ∧ Below w.heap.size w w' := by
  cases o <;> cases o'
  · go_enter Tryd.func90, Tryd.ntmps90
    go_wp2
    go_region_held3 (fun w' => w'.cell? ⟨w.heap.size, 0, none⟩ = some (.int .i64 n) ∧ w'.cell? ⟨w.heap.size, 1, none⟩ = some (.bool false) ∧ w'.cell? ⟨w.heap.size, 2, none⟩ = some (.bool h) ∧ w'.cell? ⟨w.heap.size, 3, none⟩ = some (.int .i64 d) ∧
        w'.cell? ⟨w.heap.size + 1, 0, none⟩ = some (.int .i64 n') ∧ w'.cell? ⟨w.heap.size + 1, 1, none⟩ = some (.bool false) ∧ w'.cell? ⟨w.heap.size + 1, 2, none⟩ = some (.bool h') ∧ w'.cell? ⟨w.heap.size + 1, 3, none⟩ = some (.int .i64 d') ∧
        w'.cell? ⟨w.heap.size + 1 + 1 + 1, 0, none⟩ = some ((.int .i64 (n + n'))) ∧ w'.cell? ⟨w.heap.size + 1 + 1 + 1, 1, none⟩ = some (.bool false) ∧ w'.cell? ⟨w.heap.size + 1 + 1 + 1, 2, none⟩ = some (.bool false) ∧ w'.cell? ⟨w.heap.size + 1 + 1 + 1, 3, none⟩ = some (.int .i64 0)) (simp [go_sem, *])
      (first | (go_at_call 98; refine (withValue_any _ _ _ _ _ _ _ _ _ _).mono ?_; rintro e w' ⟨r, o1, o2, o3, k, hr, rfl, rfl⟩))
    go_wp2
    go_returns
    exact ⟨r, by unfold joinB; have e1 := unhide ‹Hid (withV ⟨n + n', false, false, 0⟩ ⟨n, false, h, d⟩ true = _)›; simp only [Bool.false_or, Bool.true_or, Bool.or_false, Bool.or_true]; rw [e1]; exact unhide hr, rfl, belowN (by go_grown) _⟩
  · go_enter Tryd.func90, Tryd.ntmps90
    go_wp2
    go_region_held3 (fun w' => w'.cell? ⟨w.heap.size, 0, none⟩ = some (.int .i64 n) ∧ w'.cell? ⟨w.heap.size, 1, none⟩ = some (.bool false) ∧ w'.cell? ⟨w.heap.size, 2, none⟩ = some (.bool h) ∧ w'.cell? ⟨w.heap.size, 3, none⟩ = some (.int .i64 d) ∧
        w'.cell? ⟨w.heap.size + 1, 0, none⟩ = some (.int .i64 n') ∧ w'.cell? ⟨w.heap.size + 1, 1, none⟩ = some (.bool true) ∧ w'.cell? ⟨w.heap.size + 1, 2, none⟩ = some (.bool h') ∧ w'.cell? ⟨w.heap.size + 1, 3, none⟩ = some (.int .i64 d') ∧
        w'.cell? ⟨w.heap.size + 1 + 1 + 1, 0, none⟩ = some ((.int .i64 (n + n'))) ∧ w'.cell? ⟨w.heap.size + 1 + 1 + 1, 1, none⟩ = some (.bool true) ∧ w'.cell? ⟨w.heap.size + 1 + 1 + 1, 2, none⟩ = some (.bool false) ∧ w'.cell? ⟨w.heap.size + 1 + 1 + 1, 3, none⟩ = some (.int .i64 0)) (simp [go_sem, *])
      (first | (go_at_call 98; refine (withValue_any _ _ _ _ _ _ _ _ _ _).mono ?_; rintro e w' ⟨r, o1, o2, o3, k, hr, rfl, rfl⟩))
    go_wp2
    go_returns
    exact ⟨r, by unfold joinB; have e1 := unhide ‹Hid (withV ⟨n + n', true, false, 0⟩ ⟨n, false, h, d⟩ true = _)›; simp only [Bool.false_or, Bool.true_or, Bool.or_false, Bool.or_true]; rw [e1]; exact unhide hr, rfl, belowN (by go_grown) _⟩
  · go_enter Tryd.func90, Tryd.ntmps90
    go_wp2
    go_region_held3 (fun w' => w'.cell? ⟨w.heap.size, 0, none⟩ = some (.int .i64 n) ∧ w'.cell? ⟨w.heap.size, 1, none⟩ = some (.bool true) ∧ w'.cell? ⟨w.heap.size, 2, none⟩ = some (.bool h) ∧ w'.cell? ⟨w.heap.size, 3, none⟩ = some (.int .i64 d) ∧
        w'.cell? ⟨w.heap.size + 1, 0, none⟩ = some (.int .i64 n') ∧ w'.cell? ⟨w.heap.size + 1, 1, none⟩ = some (.bool false) ∧ w'.cell? ⟨w.heap.size + 1, 2, none⟩ = some (.bool h') ∧ w'.cell? ⟨w.heap.size + 1, 3, none⟩ = some (.int .i64 d') ∧
        w'.cell? ⟨w.heap.size + 1 + 1 + 1, 0, none⟩ = some ((.int .i64 (n + n'))) ∧ w'.cell? ⟨w.heap.size + 1 + 1 + 1, 1, none⟩ = some (.bool true) ∧ w'.cell? ⟨w.heap.size + 1 + 1 + 1, 2, none⟩ = some (.bool false) ∧ w'.cell? ⟨w.heap.size + 1 + 1 + 1, 3, none⟩ = some (.int .i64 0)) (simp [go_sem, *])
      (first | (go_at_call 98; refine (withValue_any _ _ _ _ _ _ _ _ _ _).mono ?_; rintro e w' ⟨r, o1, o2, o3, k, hr, rfl, rfl⟩))
    go_wp2
    go_returns
    exact ⟨r, by unfold joinB; have e1 := unhide ‹Hid (withV ⟨n + n', true, false, 0⟩ ⟨n, true, h, d⟩ true = _)›; simp only [Bool.false_or, Bool.true_or, Bool.or_false, Bool.or_true]; rw [e1]; exact unhide hr, rfl, belowN (by go_grown) _⟩
  · go_enter Tryd.func90, Tryd.ntmps90
    go_wp2
    go_region_held3 (fun w' => w'.cell? ⟨w.heap.size, 0, none⟩ = some (.int .i64 n) ∧ w'.cell? ⟨w.heap.size, 1, none⟩ = some (.bool true) ∧ w'.cell? ⟨w.heap.size, 2, none⟩ = some (.bool h) ∧ w'.cell? ⟨w.heap.size, 3, none⟩ = some (.int .i64 d) ∧
        w'.cell? ⟨w.heap.size + 1, 0, none⟩ = some (.int .i64 n') ∧ w'.cell? ⟨w.heap.size + 1, 1, none⟩ = some (.bool true) ∧ w'.cell? ⟨w.heap.size + 1, 2, none⟩ = some (.bool h') ∧ w'.cell? ⟨w.heap.size + 1, 3, none⟩ = some (.int .i64 d') ∧
        w'.cell? ⟨w.heap.size + 1 + 1 + 1, 0, none⟩ = some ((.int .i64 (n + n'))) ∧ w'.cell? ⟨w.heap.size + 1 + 1 + 1, 1, none⟩ = some (.bool true) ∧ w'.cell? ⟨w.heap.size + 1 + 1 + 1, 2, none⟩ = some (.bool false) ∧ w'.cell? ⟨w.heap.size + 1 + 1 + 1, 3, none⟩ = some (.int .i64 0)) (simp [go_sem, *])
      (first | (go_at_call 98; refine (withValue_any _ _ _ _ _ _ _ _ _ _).mono ?_; rintro e w' ⟨r, o1, o2, o3, k, hr, rfl, rfl⟩))
    go_wp2
    go_returns
    exact ⟨r, by unfold joinB; have e1 := unhide ‹Hid (withV ⟨n + n', true, false, 0⟩ ⟨n, true, h, d⟩ true = _)›; simp only [Bool.false_or, Bool.true_or, Bool.or_false, Bool.or_true]; rw [e1]; exact unhide hr, rfl, belowN (by go_grown) _⟩
end Go.Proofs.YtmgjgeaigdiadaaDoor
namespace Go.Proofs.YtmgjgeaigdiadaaDoor
open Go.ChangeShapes Go.WideShapes Go.ChangeAt Go.RowKit
theorem split_c (n : Int) (o h : Bool) (d c : Int) (a v : Bool) (w : World) (hn2 : n ≤ 9223372036854775807) (ok : okB ⟨n, o, h, d⟩)
    (r s : Bun) (hr : Hid (givenB ⟨n, o, h, d⟩ c a v = r)) (hs : Hid (restB ⟨n, o, h, d⟩ c a = s)) :
    Calls Tryd.prog 93 #[.agg #[.int .i64 n, .bool o, .bool h, .int .i64 d], .int .i64 c, .bool a, .bool v] w fun e w' =>
        e = .returned (.tuple #[.agg #[.int .i64 r.n, .bool r.o, .bool r.h, .int .i64 r.d], .agg #[.int .i64 s.n, .bool s.o, .bool s.h, .int .i64 s.d]]) ∧ Below w.heap.size w w' := by
  have h0 : 0 ≤ n := ok.1
  have hb := howMany_bd n o h d c a h0 (fun e => (ok.2.1 e).1)
  by_cases z : howManyZ ⟨n, o, h, d⟩ c a = 0
  · refine (split_none n o h d c a v w (by omega) hn2 z).mono ?_
    rintro e w' ⟨r', s', e1, e2, he, hb⟩
    obtain rfl : r = r' := (unhide hr).symm.trans e1
    obtain rfl : s = s' := (unhide hs).symm.trans e2
    exact ⟨he, hb⟩
  · refine (split_some n o h d c a v w (by omega) hn2 _ z rfl hb.1 hb.2).mono ?_
    rintro e w' ⟨r', s', e1, e2, he, hb⟩
    obtain rfl : r = r' := (unhide hr).symm.trans e1
    obtain rfl : s = s' := (unhide hs).symm.trans e2
    exact ⟨he, hb⟩
theorem join_c (n : Int) (o h : Bool) (d : Int) (n' : Int) (o' h' : Bool) (d' : Int) (w : World) (h1 : -9223372036854775808 ≤ n + n') (h2 : n + n' ≤ 9223372036854775807)
    (r : Bun) (hr : Hid (joinB ⟨n, o, h, d⟩ ⟨n', o', h', d'⟩ = r)) :
    Calls Tryd.prog 90 #[.agg #[.int .i64 n, .bool o, .bool h, .int .i64 d], .agg #[.int .i64 n', .bool o', .bool h', .int .i64 d']] w fun e w' =>
      e = .returned (.agg #[.int .i64 r.n, .bool r.o, .bool r.h, .int .i64 r.d]) ∧ Below w.heap.size w w' := by
  refine (join_any n o h d n' o' h' d' w h1 h2).mono ?_
  rintro e w' ⟨r', e1, he, hb⟩
  obtain rfl : r = r' := (unhide hr).symm.trans e1
  exact ⟨he, hb⟩
end Go.Proofs.YtmgjgeaigdiadaaDoor
namespace Go.Proofs.YtmgjgeaigdiadaaDoor
open Go.ChangeShapes Go.WideShapes Go.ChangeAt Go.RowKit
set_option linter.unusedSimpArgs false
set_option linter.unusedVariables false
attribute [local go_sem, local simp] setCell_drewN alloc_drewN
theorem refCheck_any (n : Int) (o h : Bool) (d t : Int) (w : World) :
    Calls Tryd.prog 47 #[.agg #[.int .i64 n, .bool o, .bool h, .int .i64 d], .int .i64 t] w fun e w' =>
      e = .returned (.int .i64 (checkZ ⟨n, o, h, d⟩ t)) ∧ w' = w.alloc (.cells #[.int .i64 n, .bool o, .bool h, .int .i64 d] 32) := by
  go_enter Tryd.func47, Tryd.ntmps47
  go_wp2
  all_goals go_ret
  all_goals refine ⟨ret_int ?_, ?_⟩
  all_goals first | (unfold checkZ; simp_all <;> omega) | simp_all
theorem ret_ib {a b : Int} {x y : Bool} (h : a = b) (h2 : x = y) : Ending.returned (.tuple #[.int .i64 a, .bool x]) = .returned (.tuple #[.int .i64 b, .bool y]) := by rw [h, h2]
theorem refGiven_any (n : Int) (o h : Bool) (d c : Int) (a : Bool) (w : World) (h0 : 0 ≤ n) (h1 : n ≤ 9223372036854775807) (hz : n = 0 → o = false)
    (g : Int) (hg : Hid (howManyZ ⟨n, o, h, d⟩ c a = g)) (own : Bool) (ho : Hid ((o && a && decide (g ≠ 0)) = own)) :
    Calls Tryd.prog 87 #[.agg #[.int .i64 n, .bool o, .bool h, .int .i64 d], .int .i64 c, .bool a] w fun e w' =>
      e = .returned (.tuple #[.int .i64 g, .bool own]) ∧ w' = w.alloc (.cells #[.int .i64 n, .bool o, .bool h, .int .i64 d] 32) := by
  cases o <;> cases a
  all_goals
    try (have hp : 0 < n := by have : n ≠ 0 := fun e => by have := hz e; contradiction
                               omega)
    clear hz
    go_enter Tryd.func87, Tryd.ntmps87
    go_wp2
    all_goals go_ret2
    all_goals refine ⟨ret_ib ?_ ?_, rfl⟩
    all_goals have hg' := unhide hg
    all_goals have ho' := unhide ho
    all_goals clear hg ho
    all_goals simp [howManyZ, clampZ] at hg' ho' ⊢
    all_goals (repeat' split at hg') <;> simp_all <;> first | omega | (cases own <;> simp at ho' ⊢ <;> omega)
theorem refJoin_any (n : Int) (o h : Bool) (d : Int) (n' : Int) (o' h' : Bool) (d' : Int) (w : World) (h1 : -9223372036854775808 ≤ n + n') (h2 : n + n' ≤ 9223372036854775807)
    (k1 : h = false → d = 0) (r : Bun) (hr : Hid (joinB ⟨n, o, h, d⟩ ⟨n', o', h', d'⟩ = r)) :
    Calls Tryd.prog 63 #[.agg #[.int .i64 n, .bool o, .bool h, .int .i64 d], .agg #[.int .i64 n', .bool o', .bool h', .int .i64 d']] w fun e w' =>
      e = .returned (.agg #[.int .i64 r.n, .bool r.o, .bool r.h, .int .i64 r.d]) ∧ Below w.heap.size w w' := by
  have K := hide k1
  clear k1
  cases o' <;> cases h'
  all_goals
    go_enter Tryd.func63, Tryd.ntmps63
    go_wp2
    go_returns
    refine ⟨?_, by go_grown⟩
    rw [← unhide hr]
    unfold joinB withV
    have := unhide K
    cases h <;> cases o <;> simp_all
end Go.Proofs.YtmgjgeaigdiadaaDoor
namespace Go.Proofs.YtmgjgeaigdiadaaDoor
open Go.ChangeShapes Go.WideShapes Go.ChangeAt Go.RowKit
set_option linter.unusedSimpArgs false
set_option linter.unusedVariables false
set_option maxRecDepth 10000
attribute [local go_sem, local simp] over_const setCell_drewN alloc_drewN Over.cell Over.frozen lt_s1 lt_s2 lt_s3 le_s0 le_s1 le_s2 le_s3 eq_s0 eq_s1 eq_s2 qe_s0
theorem refNode_c (n bl tt cs cy cc cu ct cp : Int) (x : Int) (w : World) (q : Bool) (hq : Hid (nodeB x n = q)) :
    Calls Tryd.prog 24 #[.agg #[.int .i64 n, .int .i64 bl, .int .i64 tt, .int .i64 cs, .int .i64 cy, .int .i64 cc, .int .i64 cu, .int .i64 ct, .int .i64 cp], .int .i64 x] w fun e w' => e = .returned (.bool q) ∧ Below w.heap.size w w' := by
  have hq' := unhide hq
  clear hq
  by_cases c : 0 ≤ x <;> by_cases c2 : x < n <;> simp [nodeB, c, c2] at hq' <;> subst hq'
  all_goals
    go_enter Tryd.func24, Tryd.ntmps24
    go_wp2
    go_ret
    exact ⟨rfl, by go_grown⟩
theorem refAny_c (n bl tt cs cy cc cu ct cp : Int) (p : Int) (w : World) (q : Bool) (hq : Hid (anyB p n = q)) :
    Calls Tryd.prog 70 #[.agg #[.int .i64 n, .int .i64 bl, .int .i64 tt, .int .i64 cs, .int .i64 cy, .int .i64 cc, .int .i64 cu, .int .i64 ct, .int .i64 cp], .int .i64 p] w fun e w' => e = .returned (.bool q) ∧ Below w.heap.size w w' := by
  have hq' := unhide hq
  clear hq
  obtain ⟨q1, h1⟩ : ∃ q, Hid (nodeB p n = q) := ⟨_, rfl⟩
  unfold anyB at hq'
  rw [unhide h1] at hq'
  by_cases c : p = n <;> simp [c] at hq' <;> subst hq' <;> (try subst c)
  all_goals
    go_enter Tryd.func70, Tryd.ntmps70
    go_wp2_with (go_at_call 24; refine (refNode_c _ _ _ _ _ _ _ _ _ _ _ _ h1).mono ?_; rintro e w' ⟨rfl, hb⟩; obtain ⟨x, rfl⟩ := over hb; clear hb; have f0 := x.upB (w.heap.size))
    go_ret
    refine ⟨by first | rfl | (simp [c]; done), ?_⟩
    all_goals exact belEnd
theorem one_tt (x n : Int) : oneB true true x n = anyB x n := by unfold oneB anyB; cases nodeB x n <;> simp
theorem one_tf (x n : Int) : oneB true false x n = nodeB x n := by unfold oneB; cases nodeB x n <;> simp
theorem one_ft (x n : Int) : oneB false true x n = decide (x = n) := by
  unfold oneB
  cases h : nodeB x n
  · simp
  · have := nodeB_true.1 h; simp; omega
theorem not_eq_b {a b : Int} (h : ¬ a = b) : (a == b) = false := by simpa using h
set_option maxHeartbeats 1000000 in
theorem refEnds1 (n bl tt cs cy cc cu ct cp : Int) (la lb lq ls lw : Int) (lr : Bool) (xn : Int) (xo xh : Bool) (xd : Int) (w : World) (q : Bool) (hq : Hid (wayB (rowL 1) la lb n = q)) :
    Calls Tryd.prog 46 #[.agg #[.int .i64 n, .int .i64 bl, .int .i64 tt, .int .i64 cs, .int .i64 cy, .int .i64 cc, .int .i64 cu, .int .i64 ct, .int .i64 cp], .agg #[.int .i64 1, .int .i64 la, .int .i64 lb, .int .i64 lq, .int .i64 ls, .int .i64 lw, .bool lr, .int .i64 xn, .bool xo, .bool xh, .int .i64 xd]] w fun e w' => e = .returned (.bool q) ∧ Below w.heap.size w w' := by
  have hq' := unhide hq
  clear hq
  have e1 : wayB (rowL 1) la lb n = (anyB la n && anyB lb n && !decide (la = lb)) := by
    rw [← one_tt la n, ← one_tt lb n]; rfl
  rw [e1] at hq'
  clear e1
  obtain ⟨qa, ha⟩ : ∃ q, Hid ((anyB la n) = q) := ⟨_, rfl⟩
  obtain ⟨qb, hb'⟩ : ∃ q, Hid ((anyB lb n) = q) := ⟨_, rfl⟩
  rw [unhide ha, unhide hb'] at hq'
  cases qa <;> cases qb <;> by_cases c : la = lb <;> simp [c] at hq' <;> subst hq'
  all_goals
    try subst c
    go_enter Tryd.func46, Tryd.ntmps46
    go_wp2_with (first | (go_at_call 70; with_reducible refine (refAny_c _ _ _ _ _ _ _ _ _ _ _ _ ha).mono ?_; rintro e w' ⟨rfl, hb⟩; obtain ⟨x, rfl⟩ := over hb; clear hb; have fx := x.upB (w.heap.size); have gx := x.upB (w.heap.size + 1)) | (go_at_call 70; with_reducible refine (refAny_c _ _ _ _ _ _ _ _ _ _ _ _ hb').mono ?_; rintro e w' ⟨rfl, hb⟩; obtain ⟨y, rfl⟩ := over hb; clear hb; have fy := y.upB (w.heap.size); have gy := y.upB (w.heap.size + 1)))
    go_ret
    refine ⟨by first | rfl | (simp [*]; done), ?_⟩
    all_goals exact belEnd
set_option maxHeartbeats 1000000 in
theorem refEnds2 (n bl tt cs cy cc cu ct cp : Int) (la lb lq ls lw : Int) (lr : Bool) (xn : Int) (xo xh : Bool) (xd : Int) (w : World) (q : Bool) (hq : Hid (wayB (rowL 2) la lb n = q)) :
    Calls Tryd.prog 46 #[.agg #[.int .i64 n, .int .i64 bl, .int .i64 tt, .int .i64 cs, .int .i64 cy, .int .i64 cc, .int .i64 cu, .int .i64 ct, .int .i64 cp], .agg #[.int .i64 2, .int .i64 la, .int .i64 lb, .int .i64 lq, .int .i64 ls, .int .i64 lw, .bool lr, .int .i64 xn, .bool xo, .bool xh, .int .i64 xd]] w fun e w' => e = .returned (.bool q) ∧ Below w.heap.size w w' := by
  have hq' := unhide hq
  clear hq
  have e1 : wayB (rowL 2) la lb n = (nodeB la n && anyB lb n && !decide (la = lb)) := by
    rw [← one_tf la n, ← one_tt lb n]; rfl
  rw [e1] at hq'
  clear e1
  obtain ⟨qa, ha⟩ : ∃ q, Hid ((nodeB la n) = q) := ⟨_, rfl⟩
  obtain ⟨qb, hb'⟩ : ∃ q, Hid ((anyB lb n) = q) := ⟨_, rfl⟩
  rw [unhide ha, unhide hb'] at hq'
  cases qa <;> cases qb <;> by_cases c : la = lb <;> simp [c] at hq' <;> subst hq'
  all_goals
    try subst c
    go_enter Tryd.func46, Tryd.ntmps46
    go_wp2_with (first | (go_at_call 24; with_reducible refine (refNode_c _ _ _ _ _ _ _ _ _ _ _ _ ha).mono ?_; rintro e w' ⟨rfl, hb⟩; obtain ⟨x, rfl⟩ := over hb; clear hb; have fx := x.upB (w.heap.size); have gx := x.upB (w.heap.size + 1)) | (go_at_call 70; with_reducible refine (refAny_c _ _ _ _ _ _ _ _ _ _ _ _ hb').mono ?_; rintro e w' ⟨rfl, hb⟩; obtain ⟨y, rfl⟩ := over hb; clear hb; have fy := y.upB (w.heap.size); have gy := y.upB (w.heap.size + 1)))
    go_ret
    refine ⟨by first | rfl | (simp [*]; done), ?_⟩
    all_goals exact belEnd
set_option maxHeartbeats 1000000 in
theorem refEnds3 (n bl tt cs cy cc cu ct cp : Int) (la lb lq ls lw : Int) (lr : Bool) (xn : Int) (xo xh : Bool) (xd : Int) (w : World) (q : Bool) (hq : Hid (wayB (rowL 3) la lb n = q)) :
    Calls Tryd.prog 46 #[.agg #[.int .i64 n, .int .i64 bl, .int .i64 tt, .int .i64 cs, .int .i64 cy, .int .i64 cc, .int .i64 cu, .int .i64 ct, .int .i64 cp], .agg #[.int .i64 3, .int .i64 la, .int .i64 lb, .int .i64 lq, .int .i64 ls, .int .i64 lw, .bool lr, .int .i64 xn, .bool xo, .bool xh, .int .i64 xd]] w fun e w' => e = .returned (.bool q) ∧ Below w.heap.size w w' := by
  have hq' := unhide hq
  clear hq
  have e1 : wayB (rowL 3) la lb n = (nodeB la n && decide (lb = n) && !decide (la = lb)) := by
    rw [← one_tf la n, ← one_ft lb n]; rfl
  rw [e1] at hq'
  clear e1
  obtain ⟨qa, ha⟩ : ∃ q, Hid ((nodeB la n) = q) := ⟨_, rfl⟩
  obtain ⟨qb, hb'⟩ : ∃ q, Hid ((decide (lb = n)) = q) := ⟨_, rfl⟩
  rw [unhide ha, unhide hb'] at hq'
  cases qa <;> cases qb <;> by_cases c : la = lb <;> simp [c] at hq' <;> subst hq'
  all_goals
    try subst c
    have ilb := unhide hb'
    simp only [decide_eq_true_eq, decide_eq_false_iff_not] at ilb
    try have jlb := not_eq_b ilb
    go_enter Tryd.func46, Tryd.ntmps46
    go_wp2_with (first | (go_at_call 24; with_reducible refine (refNode_c _ _ _ _ _ _ _ _ _ _ _ _ ha).mono ?_; rintro e w' ⟨rfl, hb⟩; obtain ⟨x, rfl⟩ := over hb; clear hb; have fx := x.upB (w.heap.size); have gx := x.upB (w.heap.size + 1)))
    go_ret
    refine ⟨by first | rfl | (simp [*]; done), ?_⟩
    all_goals exact belEnd
set_option maxHeartbeats 1000000 in
theorem refEnds4 (n bl tt cs cy cc cu ct cp : Int) (la lb lq ls lw : Int) (lr : Bool) (xn : Int) (xo xh : Bool) (xd : Int) (w : World) (q : Bool) (hq : Hid (wayB (rowL 4) la lb n = q)) :
    Calls Tryd.prog 46 #[.agg #[.int .i64 n, .int .i64 bl, .int .i64 tt, .int .i64 cs, .int .i64 cy, .int .i64 cc, .int .i64 cu, .int .i64 ct, .int .i64 cp], .agg #[.int .i64 4, .int .i64 la, .int .i64 lb, .int .i64 lq, .int .i64 ls, .int .i64 lw, .bool lr, .int .i64 xn, .bool xo, .bool xh, .int .i64 xd]] w fun e w' => e = .returned (.bool q) ∧ Below w.heap.size w w' := by
  have hq' := unhide hq
  clear hq
  have e1 : wayB (rowL 4) la lb n = (decide (la = n) && nodeB lb n && !decide (la = lb)) := by
    rw [← one_ft la n, ← one_tf lb n]; rfl
  rw [e1] at hq'
  clear e1
  obtain ⟨qa, ha⟩ : ∃ q, Hid ((decide (la = n)) = q) := ⟨_, rfl⟩
  obtain ⟨qb, hb'⟩ : ∃ q, Hid ((nodeB lb n) = q) := ⟨_, rfl⟩
  rw [unhide ha, unhide hb'] at hq'
  cases qa <;> cases qb <;> by_cases c : la = lb <;> simp [c] at hq' <;> subst hq'
  all_goals
    try subst c
    have ila := unhide ha
    simp only [decide_eq_true_eq, decide_eq_false_iff_not] at ila
    try have jla := not_eq_b ila
    go_enter Tryd.func46, Tryd.ntmps46
    go_wp2_with (first | (go_at_call 24; with_reducible refine (refNode_c _ _ _ _ _ _ _ _ _ _ _ _ hb').mono ?_; rintro e w' ⟨rfl, hb⟩; obtain ⟨y, rfl⟩ := over hb; clear hb; have fy := y.upB (w.heap.size); have gy := y.upB (w.heap.size + 1)))
    go_ret
    refine ⟨by first | rfl | (simp [*]; done), ?_⟩
    all_goals exact belEnd
set_option maxHeartbeats 1000000 in
theorem refEnds5 (n bl tt cs cy cc cu ct cp : Int) (la lb lq ls lw : Int) (lr : Bool) (xn : Int) (xo xh : Bool) (xd : Int) (w : World) (q : Bool) (hq : Hid (wayB (rowL 5) la lb n = q)) :
    Calls Tryd.prog 46 #[.agg #[.int .i64 n, .int .i64 bl, .int .i64 tt, .int .i64 cs, .int .i64 cy, .int .i64 cc, .int .i64 cu, .int .i64 ct, .int .i64 cp], .agg #[.int .i64 5, .int .i64 la, .int .i64 lb, .int .i64 lq, .int .i64 ls, .int .i64 lw, .bool lr, .int .i64 xn, .bool xo, .bool xh, .int .i64 xd]] w fun e w' => e = .returned (.bool q) ∧ Below w.heap.size w w' := by
  have hq' := unhide hq
  clear hq
  have e1 : wayB (rowL 5) la lb n = (nodeB la n && decide (lb = n) && !decide (la = lb)) := by
    rw [← one_tf la n, ← one_ft lb n]; rfl
  rw [e1] at hq'
  clear e1
  obtain ⟨qa, ha⟩ : ∃ q, Hid ((nodeB la n) = q) := ⟨_, rfl⟩
  obtain ⟨qb, hb'⟩ : ∃ q, Hid ((decide (lb = n)) = q) := ⟨_, rfl⟩
  rw [unhide ha, unhide hb'] at hq'
  cases qa <;> cases qb <;> by_cases c : la = lb <;> simp [c] at hq' <;> subst hq'
  all_goals
    try subst c
    have ilb := unhide hb'
    simp only [decide_eq_true_eq, decide_eq_false_iff_not] at ilb
    try have jlb := not_eq_b ilb
    go_enter Tryd.func46, Tryd.ntmps46
    go_wp2_with (first | (go_at_call 24; with_reducible refine (refNode_c _ _ _ _ _ _ _ _ _ _ _ _ ha).mono ?_; rintro e w' ⟨rfl, hb⟩; obtain ⟨x, rfl⟩ := over hb; clear hb; have fx := x.upB (w.heap.size); have gx := x.upB (w.heap.size + 1)))
    go_ret
    refine ⟨by first | rfl | (simp [*]; done), ?_⟩
    all_goals exact belEnd
set_option maxHeartbeats 1000000 in
theorem refEnds6 (n bl tt cs cy cc cu ct cp : Int) (la lb lq ls lw : Int) (lr : Bool) (xn : Int) (xo xh : Bool) (xd : Int) (w : World) (q : Bool) (hq : Hid (wayB (rowL 6) la lb n = q)) :
    Calls Tryd.prog 46 #[.agg #[.int .i64 n, .int .i64 bl, .int .i64 tt, .int .i64 cs, .int .i64 cy, .int .i64 cc, .int .i64 cu, .int .i64 ct, .int .i64 cp], .agg #[.int .i64 6, .int .i64 la, .int .i64 lb, .int .i64 lq, .int .i64 ls, .int .i64 lw, .bool lr, .int .i64 xn, .bool xo, .bool xh, .int .i64 xd]] w fun e w' => e = .returned (.bool q) ∧ Below w.heap.size w w' := by
  have hq' := unhide hq
  clear hq
  have e1 : wayB (rowL 6) la lb n = (decide (la = n) && nodeB lb n && !decide (la = lb)) := by
    rw [← one_ft la n, ← one_tf lb n]; rfl
  rw [e1] at hq'
  clear e1
  obtain ⟨qa, ha⟩ : ∃ q, Hid ((decide (la = n)) = q) := ⟨_, rfl⟩
  obtain ⟨qb, hb'⟩ : ∃ q, Hid ((nodeB lb n) = q) := ⟨_, rfl⟩
  rw [unhide ha, unhide hb'] at hq'
  cases qa <;> cases qb <;> by_cases c : la = lb <;> simp [c] at hq' <;> subst hq'
  all_goals
    try subst c
    have ila := unhide ha
    simp only [decide_eq_true_eq, decide_eq_false_iff_not] at ila
    try have jla := not_eq_b ila
    go_enter Tryd.func46, Tryd.ntmps46
    go_wp2_with (first | (go_at_call 24; with_reducible refine (refNode_c _ _ _ _ _ _ _ _ _ _ _ _ hb').mono ?_; rintro e w' ⟨rfl, hb⟩; obtain ⟨y, rfl⟩ := over hb; clear hb; have fy := y.upB (w.heap.size); have gy := y.upB (w.heap.size + 1)))
    go_ret
    refine ⟨by first | rfl | (simp [*]; done), ?_⟩
    all_goals exact belEnd
set_option maxHeartbeats 1000000 in
theorem refEnds7 (n bl tt cs cy cc cu ct cp : Int) (la lb lq ls lw : Int) (lr : Bool) (xn : Int) (xo xh : Bool) (xd : Int) (w : World) (q : Bool) (hq : Hid (wayB (rowL 7) la lb n = q)) :
    Calls Tryd.prog 46 #[.agg #[.int .i64 n, .int .i64 bl, .int .i64 tt, .int .i64 cs, .int .i64 cy, .int .i64 cc, .int .i64 cu, .int .i64 ct, .int .i64 cp], .agg #[.int .i64 7, .int .i64 la, .int .i64 lb, .int .i64 lq, .int .i64 ls, .int .i64 lw, .bool lr, .int .i64 xn, .bool xo, .bool xh, .int .i64 xd]] w fun e w' => e = .returned (.bool q) ∧ Below w.heap.size w w' := by
  have hq' := unhide hq
  clear hq
  have e1 : wayB (rowL 7) la lb n = (nodeB la n && decide (lb = n) && !decide (la = lb)) := by
    rw [← one_tf la n, ← one_ft lb n]; rfl
  rw [e1] at hq'
  clear e1
  obtain ⟨qa, ha⟩ : ∃ q, Hid ((nodeB la n) = q) := ⟨_, rfl⟩
  obtain ⟨qb, hb'⟩ : ∃ q, Hid ((decide (lb = n)) = q) := ⟨_, rfl⟩
  rw [unhide ha, unhide hb'] at hq'
  cases qa <;> cases qb <;> by_cases c : la = lb <;> simp [c] at hq' <;> subst hq'
  all_goals
    try subst c
    have ilb := unhide hb'
    simp only [decide_eq_true_eq, decide_eq_false_iff_not] at ilb
    try have jlb := not_eq_b ilb
    go_enter Tryd.func46, Tryd.ntmps46
    go_wp2_with (first | (go_at_call 24; with_reducible refine (refNode_c _ _ _ _ _ _ _ _ _ _ _ _ ha).mono ?_; rintro e w' ⟨rfl, hb⟩; obtain ⟨x, rfl⟩ := over hb; clear hb; have fx := x.upB (w.heap.size); have gx := x.upB (w.heap.size + 1)))
    go_ret
    refine ⟨by first | rfl | (simp [*]; done), ?_⟩
    all_goals exact belEnd
theorem refBCheck_c (xn : Int) (xo xh : Bool) (xd t : Int) (w : World) (z : Int) (hz : Hid (checkZ ⟨xn, xo, xh, xd⟩ t = z)) :
    Calls Tryd.prog 47 #[.agg #[.int .i64 xn, .bool xo, .bool xh, .int .i64 xd], .int .i64 t] w fun e w' => e = .returned (.int .i64 z) ∧ Below w.heap.size w w' := by
  rw [← unhide hz]
  exact (refCheck_any xn xo xh xd t w).mono fun _ _ ⟨h, h2⟩ => ⟨h, h2 ▸ (Below.refl _ _).alloc (Nat.le_refl _) _⟩
set_option maxHeartbeats 4000000 in
theorem refCheck1 (n bl tt cs cy cc cu ct cp : Int) (la lb lq ls lw : Int) (lr : Bool) (xn : Int) (xo xh : Bool) (xd : Int) (w : World) (z : Int) (hz : Hid (letterZ n bl tt ⟨1, la, lb, lq, ls, lw, lr, ⟨xn, xo, xh, xd⟩⟩ = z)) :
    Calls Tryd.prog 23 #[.agg #[.int .i64 n, .int .i64 bl, .int .i64 tt, .int .i64 cs, .int .i64 cy, .int .i64 cc, .int .i64 cu, .int .i64 ct, .int .i64 cp], .agg #[.int .i64 1, .int .i64 la, .int .i64 lb, .int .i64 lq, .int .i64 ls, .int .i64 lw, .bool lr, .int .i64 xn, .bool xo, .bool xh, .int .i64 xd]] w fun e w' => e = .returned (.int .i64 z) ∧ Below w.heap.size w w' := by
  have hz' := unhide hz
  unfold letterZ at hz'
  dsimp only at hz'
  rw [show inB 1 1 7 = true from rfl, if_neg (show ¬ (true = false) by simp)] at hz'
  obtain ⟨q1, h1⟩ : ∃ q, Hid (wayB (rowL 1) la lb n = q) := ⟨_, rfl⟩
  rw [unhide h1] at hz'
  clear hz
  rcases (show lq < 0 ∨ (0 ≤ lq ∧ bl ≤ lq) ∨ (0 ≤ lq ∧ lq < bl) by omega) with c | c | c
  · obtain rfl : 3 = z := by simpa [c] using hz'
    clear hz'
    go_enter Tryd.func23, Tryd.ntmps23
    go_wp2_with (first | (go_at_call 46; refine (refEnds1 _ _ _ _ _ _ _ _ _ _ _ _ _ _ _ _ _ _ _ _ _ h1).mono ?_; rintro e w' ⟨rfl, hb⟩; obtain ⟨x, rfl⟩ := over hb; clear hb; have f0 := x.upB (w.heap.size); have f1 := x.upB (w.heap.size + 1)))
    all_goals go_ret
    all_goals refine ⟨by first | rfl | (simp; done) | (exfalso; refine hn ⟨by assumption, ?_, ?_, by assumption⟩ <;> (rw [Bool.eq_false_iff]; assumption)), ?_⟩
    all_goals all_goals exact belEnd
  · obtain rfl : 3 = z := by simpa [c] using hz'
    clear hz'
    go_enter Tryd.func23, Tryd.ntmps23
    go_wp2_with (first | (go_at_call 46; refine (refEnds1 _ _ _ _ _ _ _ _ _ _ _ _ _ _ _ _ _ _ _ _ _ h1).mono ?_; rintro e w' ⟨rfl, hb⟩; obtain ⟨x, rfl⟩ := over hb; clear hb; have f0 := x.upB (w.heap.size); have f1 := x.upB (w.heap.size + 1)))
    all_goals go_ret
    all_goals refine ⟨by first | rfl | (simp; done) | (exfalso; refine hn ⟨by assumption, ?_, ?_, by assumption⟩ <;> (rw [Bool.eq_false_iff]; assumption)), ?_⟩
    all_goals all_goals exact belEnd
  rw [if_neg (show ¬ (lq < 0 ∨ bl ≤ lq) by omega)] at hz'
  cases q1
  · obtain rfl : 8 = z := by simpa using hz'
    clear hz'
    go_enter Tryd.func23, Tryd.ntmps23
    go_wp2_with (first | (go_at_call 46; refine (refEnds1 _ _ _ _ _ _ _ _ _ _ _ _ _ _ _ _ _ _ _ _ _ h1).mono ?_; rintro e w' ⟨rfl, hb⟩; obtain ⟨x, rfl⟩ := over hb; clear hb; have f0 := x.upB (w.heap.size); have f1 := x.upB (w.heap.size + 1)))
    all_goals go_ret
    all_goals refine ⟨by first | rfl | (simp; done) | (exfalso; refine hn ⟨by assumption, ?_, ?_, by assumption⟩ <;> (rw [Bool.eq_false_iff]; assumption)), ?_⟩
    all_goals all_goals exact belEnd
  rw [if_neg (show ¬ (true = false) by simp)] at hz'
  have e2 : marksB (rowL 1) ls lw lr n = (decide (ls = 0) && decide (lw = 0) && !lr) := rfl
  rw [e2] at hz'
  clear e2
  by_cases d : ls = 0
  case neg =>
    obtain rfl : 10 = z := by simpa [d] using hz'
    have d2 := not_eq_b d
    clear hz'
    go_enter Tryd.func23, Tryd.ntmps23
    go_wp2_with (first | (go_at_call 46; refine (refEnds1 _ _ _ _ _ _ _ _ _ _ _ _ _ _ _ _ _ _ _ _ _ h1).mono ?_; rintro e w' ⟨rfl, hb⟩; obtain ⟨x, rfl⟩ := over hb; clear hb; have f0 := x.upB (w.heap.size); have f1 := x.upB (w.heap.size + 1)))
    all_goals go_ret
    all_goals refine ⟨by first | rfl | (simp; done) | (exfalso; refine hn ⟨by assumption, ?_, ?_, by assumption⟩ <;> (rw [Bool.eq_false_iff]; assumption)), ?_⟩
    all_goals all_goals exact belEnd
  subst d
  by_cases d3 : lw = 0
  case neg =>
    obtain rfl : 10 = z := by simpa [d3] using hz'
    have d4 := not_eq_b d3
    clear hz'
    go_enter Tryd.func23, Tryd.ntmps23
    go_wp2_with (first | (go_at_call 46; refine (refEnds1 _ _ _ _ _ _ _ _ _ _ _ _ _ _ _ _ _ _ _ _ _ h1).mono ?_; rintro e w' ⟨rfl, hb⟩; obtain ⟨x, rfl⟩ := over hb; clear hb; have f0 := x.upB (w.heap.size); have f1 := x.upB (w.heap.size + 1)))
    all_goals go_ret
    all_goals refine ⟨by first | rfl | (simp; done) | (exfalso; refine hn ⟨by assumption, ?_, ?_, by assumption⟩ <;> (rw [Bool.eq_false_iff]; assumption)), ?_⟩
    all_goals all_goals exact belEnd
  subst d3
  cases lr
  case true =>
    obtain rfl : 10 = z := by simpa using hz'
    clear hz'
    go_enter Tryd.func23, Tryd.ntmps23
    go_wp2_with (first | (go_at_call 46; refine (refEnds1 _ _ _ _ _ _ _ _ _ _ _ _ _ _ _ _ _ _ _ _ _ h1).mono ?_; rintro e w' ⟨rfl, hb⟩; obtain ⟨x, rfl⟩ := over hb; clear hb; have f0 := x.upB (w.heap.size); have f1 := x.upB (w.heap.size + 1)))
    all_goals go_ret
    all_goals refine ⟨by first | rfl | (simp; done) | (exfalso; refine hn ⟨by assumption, ?_, ?_, by assumption⟩ <;> (rw [Bool.eq_false_iff]; assumption)), ?_⟩
    all_goals all_goals exact belEnd
  have hz2 : sentZ ⟨xn, xo, xh, xd⟩ tt = z := by simpa using hz'
  clear hz'
  obtain ⟨c2, hc⟩ : ∃ c, Hid (checkZ ⟨xn, xo, xh, xd⟩ tt = c) := ⟨_, rfl⟩
  unfold sentZ at hz2
  rw [unhide hc] at hz2
  by_cases c0 : c2 = 0 <;> by_cases c1 : xn = 0 <;> simp [c0, c1] at hz2 <;> subst hz2 <;> (try subst c0) <;> (try subst c1)
  all_goals
    go_enter Tryd.func23, Tryd.ntmps23
    go_wp2_with (first | (go_at_call 46; refine (refEnds1 _ _ _ _ _ _ _ _ _ _ _ _ _ _ _ _ _ _ _ _ _ h1).mono ?_; rintro e w' ⟨rfl, hb⟩; obtain ⟨x, rfl⟩ := over hb; clear hb; have f0 := x.upB (w.heap.size); have f1 := x.upB (w.heap.size + 1)) | (go_at_call 47; refine (refBCheck_c _ _ _ _ _ _ _ hc).mono ?_; rintro e w' ⟨rfl, hb⟩; obtain ⟨u, rfl⟩ := over hb; clear hb; have k0 := u.upB (w.heap.size); have k1 := u.upB (w.heap.size + 1)))
    all_goals go_ret
    all_goals refine ⟨by first | rfl | (simp; done) | (exfalso; refine hn ⟨by assumption, ?_, ?_, by assumption⟩ <;> (rw [Bool.eq_false_iff]; assumption)), ?_⟩
    all_goals all_goals exact belEnd
set_option maxHeartbeats 4000000 in
theorem refCheck2 (n bl tt cs cy cc cu ct cp : Int) (la lb lq ls lw : Int) (lr : Bool) (xn : Int) (xo xh : Bool) (xd : Int) (w : World) (z : Int) (hz : Hid (letterZ n bl tt ⟨2, la, lb, lq, ls, lw, lr, ⟨xn, xo, xh, xd⟩⟩ = z)) :
    Calls Tryd.prog 23 #[.agg #[.int .i64 n, .int .i64 bl, .int .i64 tt, .int .i64 cs, .int .i64 cy, .int .i64 cc, .int .i64 cu, .int .i64 ct, .int .i64 cp], .agg #[.int .i64 2, .int .i64 la, .int .i64 lb, .int .i64 lq, .int .i64 ls, .int .i64 lw, .bool lr, .int .i64 xn, .bool xo, .bool xh, .int .i64 xd]] w fun e w' => e = .returned (.int .i64 z) ∧ Below w.heap.size w w' := by
  have hz' := unhide hz
  unfold letterZ at hz'
  dsimp only at hz'
  rw [show inB 2 1 7 = true from rfl, if_neg (show ¬ (true = false) by simp)] at hz'
  obtain ⟨q1, h1⟩ : ∃ q, Hid (wayB (rowL 2) la lb n = q) := ⟨_, rfl⟩
  rw [unhide h1] at hz'
  clear hz
  rcases (show lq < 0 ∨ (0 ≤ lq ∧ bl ≤ lq) ∨ (0 ≤ lq ∧ lq < bl) by omega) with c | c | c
  · obtain rfl : 3 = z := by simpa [c] using hz'
    clear hz'
    go_enter Tryd.func23, Tryd.ntmps23
    go_wp2_with (first | (go_at_call 46; refine (refEnds2 _ _ _ _ _ _ _ _ _ _ _ _ _ _ _ _ _ _ _ _ _ h1).mono ?_; rintro e w' ⟨rfl, hb⟩; obtain ⟨x, rfl⟩ := over hb; clear hb; have f0 := x.upB (w.heap.size); have f1 := x.upB (w.heap.size + 1)))
    all_goals go_ret
    all_goals refine ⟨by first | rfl | (simp; done) | (exfalso; refine hn ⟨by assumption, ?_, ?_, by assumption⟩ <;> (rw [Bool.eq_false_iff]; assumption)), ?_⟩
    all_goals all_goals exact belEnd
  · obtain rfl : 3 = z := by simpa [c] using hz'
    clear hz'
    go_enter Tryd.func23, Tryd.ntmps23
    go_wp2_with (first | (go_at_call 46; refine (refEnds2 _ _ _ _ _ _ _ _ _ _ _ _ _ _ _ _ _ _ _ _ _ h1).mono ?_; rintro e w' ⟨rfl, hb⟩; obtain ⟨x, rfl⟩ := over hb; clear hb; have f0 := x.upB (w.heap.size); have f1 := x.upB (w.heap.size + 1)))
    all_goals go_ret
    all_goals refine ⟨by first | rfl | (simp; done) | (exfalso; refine hn ⟨by assumption, ?_, ?_, by assumption⟩ <;> (rw [Bool.eq_false_iff]; assumption)), ?_⟩
    all_goals all_goals exact belEnd
  rw [if_neg (show ¬ (lq < 0 ∨ bl ≤ lq) by omega)] at hz'
  cases q1
  · obtain rfl : 8 = z := by simpa using hz'
    clear hz'
    go_enter Tryd.func23, Tryd.ntmps23
    go_wp2_with (first | (go_at_call 46; refine (refEnds2 _ _ _ _ _ _ _ _ _ _ _ _ _ _ _ _ _ _ _ _ _ h1).mono ?_; rintro e w' ⟨rfl, hb⟩; obtain ⟨x, rfl⟩ := over hb; clear hb; have f0 := x.upB (w.heap.size); have f1 := x.upB (w.heap.size + 1)))
    all_goals go_ret
    all_goals refine ⟨by first | rfl | (simp; done) | (exfalso; refine hn ⟨by assumption, ?_, ?_, by assumption⟩ <;> (rw [Bool.eq_false_iff]; assumption)), ?_⟩
    all_goals all_goals exact belEnd
  rw [if_neg (show ¬ (true = false) by simp)] at hz'
  have e2 : marksB (rowL 2) ls lw lr n = (decide (ls = 0) && decide (lw = 0) && true) := by show (decide (ls = 0) && decide (lw = 0) && (true || !lr)) = _; simp
  rw [e2] at hz'
  clear e2
  by_cases d : ls = 0
  case neg =>
    obtain rfl : 10 = z := by simpa [d] using hz'
    have d2 := not_eq_b d
    clear hz'
    go_enter Tryd.func23, Tryd.ntmps23
    go_wp2_with (first | (go_at_call 46; refine (refEnds2 _ _ _ _ _ _ _ _ _ _ _ _ _ _ _ _ _ _ _ _ _ h1).mono ?_; rintro e w' ⟨rfl, hb⟩; obtain ⟨x, rfl⟩ := over hb; clear hb; have f0 := x.upB (w.heap.size); have f1 := x.upB (w.heap.size + 1)))
    all_goals go_ret
    all_goals refine ⟨by first | rfl | (simp; done) | (exfalso; refine hn ⟨by assumption, ?_, ?_, by assumption⟩ <;> (rw [Bool.eq_false_iff]; assumption)), ?_⟩
    all_goals all_goals exact belEnd
  subst d
  by_cases d3 : lw = 0
  case neg =>
    obtain rfl : 10 = z := by simpa [d3] using hz'
    have d4 := not_eq_b d3
    clear hz'
    go_enter Tryd.func23, Tryd.ntmps23
    go_wp2_with (first | (go_at_call 46; refine (refEnds2 _ _ _ _ _ _ _ _ _ _ _ _ _ _ _ _ _ _ _ _ _ h1).mono ?_; rintro e w' ⟨rfl, hb⟩; obtain ⟨x, rfl⟩ := over hb; clear hb; have f0 := x.upB (w.heap.size); have f1 := x.upB (w.heap.size + 1)))
    all_goals go_ret
    all_goals refine ⟨by first | rfl | (simp; done) | (exfalso; refine hn ⟨by assumption, ?_, ?_, by assumption⟩ <;> (rw [Bool.eq_false_iff]; assumption)), ?_⟩
    all_goals all_goals exact belEnd
  subst d3
  cases h3 : noneB ⟨xn, xo, xh, xd⟩
  · obtain rfl : 6 = z := by simpa [h3] using hz'
    have hn := none_ne h3
    clear h3 hz'
    go_enter Tryd.func23, Tryd.ntmps23
    go_wp2_with (first | (go_at_call 46; refine (refEnds2 _ _ _ _ _ _ _ _ _ _ _ _ _ _ _ _ _ _ _ _ _ h1).mono ?_; rintro e w' ⟨rfl, hb⟩; obtain ⟨x, rfl⟩ := over hb; clear hb; have f0 := x.upB (w.heap.size); have f1 := x.upB (w.heap.size + 1)))
    all_goals go_ret
    all_goals refine ⟨by first | rfl | (simp; done) | (exfalso; refine hn ⟨by assumption, ?_, ?_, by assumption⟩ <;> (rw [Bool.eq_false_iff]; assumption)), ?_⟩
    all_goals all_goals exact belEnd
  · obtain rfl : 0 = z := by simpa [h3] using hz'
    obtain ⟨rfl, rfl, rfl, rfl⟩ := none_eq h3
    clear h3 hz'
    go_enter Tryd.func23, Tryd.ntmps23
    go_wp2_with (first | (go_at_call 46; refine (refEnds2 _ _ _ _ _ _ _ _ _ _ _ _ _ _ _ _ _ _ _ _ _ h1).mono ?_; rintro e w' ⟨rfl, hb⟩; obtain ⟨x, rfl⟩ := over hb; clear hb; have f0 := x.upB (w.heap.size); have f1 := x.upB (w.heap.size + 1)))
    all_goals go_ret
    all_goals refine ⟨by first | rfl | (simp; done) | (exfalso; refine hn ⟨by assumption, ?_, ?_, by assumption⟩ <;> (rw [Bool.eq_false_iff]; assumption)), ?_⟩
    all_goals all_goals exact belEnd
set_option maxHeartbeats 4000000 in
theorem refCheck3 (n bl tt cs cy cc cu ct cp : Int) (la lb lq ls lw : Int) (lr : Bool) (xn : Int) (xo xh : Bool) (xd : Int) (w : World) (z : Int) (hz : Hid (letterZ n bl tt ⟨3, la, lb, lq, ls, lw, lr, ⟨xn, xo, xh, xd⟩⟩ = z)) :
    Calls Tryd.prog 23 #[.agg #[.int .i64 n, .int .i64 bl, .int .i64 tt, .int .i64 cs, .int .i64 cy, .int .i64 cc, .int .i64 cu, .int .i64 ct, .int .i64 cp], .agg #[.int .i64 3, .int .i64 la, .int .i64 lb, .int .i64 lq, .int .i64 ls, .int .i64 lw, .bool lr, .int .i64 xn, .bool xo, .bool xh, .int .i64 xd]] w fun e w' => e = .returned (.int .i64 z) ∧ Below w.heap.size w w' := by
  have hz' := unhide hz
  unfold letterZ at hz'
  dsimp only at hz'
  rw [show inB 3 1 7 = true from rfl, if_neg (show ¬ (true = false) by simp)] at hz'
  obtain ⟨q1, h1⟩ : ∃ q, Hid (wayB (rowL 3) la lb n = q) := ⟨_, rfl⟩
  rw [unhide h1] at hz'
  clear hz
  rcases (show lq < 0 ∨ (0 ≤ lq ∧ bl ≤ lq) ∨ (0 ≤ lq ∧ lq < bl) by omega) with c | c | c
  · obtain rfl : 3 = z := by simpa [c] using hz'
    clear hz'
    go_enter Tryd.func23, Tryd.ntmps23
    go_wp2_with (first | (go_at_call 46; refine (refEnds3 _ _ _ _ _ _ _ _ _ _ _ _ _ _ _ _ _ _ _ _ _ h1).mono ?_; rintro e w' ⟨rfl, hb⟩; obtain ⟨x, rfl⟩ := over hb; clear hb; have f0 := x.upB (w.heap.size); have f1 := x.upB (w.heap.size + 1)))
    all_goals go_ret
    all_goals refine ⟨by first | rfl | (simp; done) | (exfalso; refine hn ⟨by assumption, ?_, ?_, by assumption⟩ <;> (rw [Bool.eq_false_iff]; assumption)), ?_⟩
    all_goals all_goals exact belEnd
  · obtain rfl : 3 = z := by simpa [c] using hz'
    clear hz'
    go_enter Tryd.func23, Tryd.ntmps23
    go_wp2_with (first | (go_at_call 46; refine (refEnds3 _ _ _ _ _ _ _ _ _ _ _ _ _ _ _ _ _ _ _ _ _ h1).mono ?_; rintro e w' ⟨rfl, hb⟩; obtain ⟨x, rfl⟩ := over hb; clear hb; have f0 := x.upB (w.heap.size); have f1 := x.upB (w.heap.size + 1)))
    all_goals go_ret
    all_goals refine ⟨by first | rfl | (simp; done) | (exfalso; refine hn ⟨by assumption, ?_, ?_, by assumption⟩ <;> (rw [Bool.eq_false_iff]; assumption)), ?_⟩
    all_goals all_goals exact belEnd
  rw [if_neg (show ¬ (lq < 0 ∨ bl ≤ lq) by omega)] at hz'
  cases q1
  · obtain rfl : 8 = z := by simpa using hz'
    clear hz'
    go_enter Tryd.func23, Tryd.ntmps23
    go_wp2_with (first | (go_at_call 46; refine (refEnds3 _ _ _ _ _ _ _ _ _ _ _ _ _ _ _ _ _ _ _ _ _ h1).mono ?_; rintro e w' ⟨rfl, hb⟩; obtain ⟨x, rfl⟩ := over hb; clear hb; have f0 := x.upB (w.heap.size); have f1 := x.upB (w.heap.size + 1)))
    all_goals go_ret
    all_goals refine ⟨by first | rfl | (simp; done) | (exfalso; refine hn ⟨by assumption, ?_, ?_, by assumption⟩ <;> (rw [Bool.eq_false_iff]; assumption)), ?_⟩
    all_goals all_goals exact belEnd
  rw [if_neg (show ¬ (true = false) by simp)] at hz'
  have e2 : marksB (rowL 3) ls lw lr n = (decide (ls = 0) && decide (lw = 0) && !lr) := rfl
  rw [e2] at hz'
  clear e2
  by_cases d : ls = 0
  case neg =>
    obtain rfl : 10 = z := by simpa [d] using hz'
    have d2 := not_eq_b d
    clear hz'
    go_enter Tryd.func23, Tryd.ntmps23
    go_wp2_with (first | (go_at_call 46; refine (refEnds3 _ _ _ _ _ _ _ _ _ _ _ _ _ _ _ _ _ _ _ _ _ h1).mono ?_; rintro e w' ⟨rfl, hb⟩; obtain ⟨x, rfl⟩ := over hb; clear hb; have f0 := x.upB (w.heap.size); have f1 := x.upB (w.heap.size + 1)))
    all_goals go_ret
    all_goals refine ⟨by first | rfl | (simp; done) | (exfalso; refine hn ⟨by assumption, ?_, ?_, by assumption⟩ <;> (rw [Bool.eq_false_iff]; assumption)), ?_⟩
    all_goals all_goals exact belEnd
  subst d
  by_cases d3 : lw = 0
  case neg =>
    obtain rfl : 10 = z := by simpa [d3] using hz'
    have d4 := not_eq_b d3
    clear hz'
    go_enter Tryd.func23, Tryd.ntmps23
    go_wp2_with (first | (go_at_call 46; refine (refEnds3 _ _ _ _ _ _ _ _ _ _ _ _ _ _ _ _ _ _ _ _ _ h1).mono ?_; rintro e w' ⟨rfl, hb⟩; obtain ⟨x, rfl⟩ := over hb; clear hb; have f0 := x.upB (w.heap.size); have f1 := x.upB (w.heap.size + 1)))
    all_goals go_ret
    all_goals refine ⟨by first | rfl | (simp; done) | (exfalso; refine hn ⟨by assumption, ?_, ?_, by assumption⟩ <;> (rw [Bool.eq_false_iff]; assumption)), ?_⟩
    all_goals all_goals exact belEnd
  subst d3
  cases lr
  case true =>
    obtain rfl : 10 = z := by simpa using hz'
    clear hz'
    go_enter Tryd.func23, Tryd.ntmps23
    go_wp2_with (first | (go_at_call 46; refine (refEnds3 _ _ _ _ _ _ _ _ _ _ _ _ _ _ _ _ _ _ _ _ _ h1).mono ?_; rintro e w' ⟨rfl, hb⟩; obtain ⟨x, rfl⟩ := over hb; clear hb; have f0 := x.upB (w.heap.size); have f1 := x.upB (w.heap.size + 1)))
    all_goals go_ret
    all_goals refine ⟨by first | rfl | (simp; done) | (exfalso; refine hn ⟨by assumption, ?_, ?_, by assumption⟩ <;> (rw [Bool.eq_false_iff]; assumption)), ?_⟩
    all_goals all_goals exact belEnd
  cases h3 : noneB ⟨xn, xo, xh, xd⟩
  · obtain rfl : 6 = z := by simpa [h3] using hz'
    have hn := none_ne h3
    clear h3 hz'
    go_enter Tryd.func23, Tryd.ntmps23
    go_wp2_with (first | (go_at_call 46; refine (refEnds3 _ _ _ _ _ _ _ _ _ _ _ _ _ _ _ _ _ _ _ _ _ h1).mono ?_; rintro e w' ⟨rfl, hb⟩; obtain ⟨x, rfl⟩ := over hb; clear hb; have f0 := x.upB (w.heap.size); have f1 := x.upB (w.heap.size + 1)))
    all_goals go_ret
    all_goals refine ⟨by first | rfl | (simp; done) | (exfalso; refine hn ⟨by assumption, ?_, ?_, by assumption⟩ <;> (rw [Bool.eq_false_iff]; assumption)), ?_⟩
    all_goals all_goals exact belEnd
  · obtain rfl : 0 = z := by simpa [h3] using hz'
    obtain ⟨rfl, rfl, rfl, rfl⟩ := none_eq h3
    clear h3 hz'
    go_enter Tryd.func23, Tryd.ntmps23
    go_wp2_with (first | (go_at_call 46; refine (refEnds3 _ _ _ _ _ _ _ _ _ _ _ _ _ _ _ _ _ _ _ _ _ h1).mono ?_; rintro e w' ⟨rfl, hb⟩; obtain ⟨x, rfl⟩ := over hb; clear hb; have f0 := x.upB (w.heap.size); have f1 := x.upB (w.heap.size + 1)))
    all_goals go_ret
    all_goals refine ⟨by first | rfl | (simp; done) | (exfalso; refine hn ⟨by assumption, ?_, ?_, by assumption⟩ <;> (rw [Bool.eq_false_iff]; assumption)), ?_⟩
    all_goals all_goals exact belEnd
end Go.Proofs.YtmgjgeaigdiadaaDoor
