/- layer 16: Bundle Letter LetterB LetC1 LetC2 LetC3, put together. -/
import Derived.Test.YtmgjgeaigdiadaaDoorB03
import Derived.Test.YtmgjgeaigdiadaaDoorB02
import Derived.Test.YtmgjgeaigdiadaaDoorB04
import Derived.Below
import Derived.Handy
import Derived.Deep.QuietTactic
import Derived.BigQuiet
import Derived.Test.YtmgjgeaigdiadaaDoorRows
namespace Go.Proofs.YtmgjgeaigdiadaaDoor
open Go.ChangeShapes Go.WideShapes Go.ChangeAt Go.RowKit
theorem bcell {W w1 : World} (hb : Below W.heap.size W w1) : (∀ b o, b < W.heap.size → w1.cell? ⟨b, o, none⟩ = W.cell? ⟨b, o, none⟩) ∧ (∀ b o, b < W.heap.size → w1.frozen? ⟨b, o, none⟩ = W.frozen? ⟨b, o, none⟩) :=
  ⟨fun b o h => hb.cell (p := ⟨b, o, none⟩) h, fun b o h => hb.frozen (p := ⟨b, o, none⟩) h⟩
theorem bz {W w1 : World} (hb : Below W.heap.size W w1) {k : Nat} (h : k < W.heap.size) : k < w1.heap.size := Nat.lt_of_lt_of_le h hb.size
theorem withValue_any (n : Int) (o h : Bool) (d : Int) (n' : Int) (o' h' : Bool) (d' : Int) (a : Bool) (w : World) :
    Calls Tryd.prog 98 #[.agg #[.int .i64 n, .bool o, .bool h, .int .i64 d], .agg #[.int .i64 n', .bool o', .bool h', .int .i64 d'], .bool a] w fun e w' =>
      ∃ (r : Bun) (o1 o2 o3 : Array Value) (k : Nat), Hid (withV ⟨n, o, h, d⟩ ⟨n', o', h', d'⟩ a = r) ∧ e = .returned (.agg #[.int .i64 r.n, .bool r.o, .bool r.h, .int .i64 r.d]) ∧
        w' = (((w.alloc (.cells o1 32)).alloc (.cells o2 32)).alloc (.cells o3 32)).drewN k := by
  cases a <;> cases h'
  case true.true =>
    go_enter Tryd.func98, Tryd.ntmps98
    go_wp2
    go_region
    go_wp2
    go_returns
    exact ⟨_, _, _, _, 1, rfl, rfl, rfl⟩
  all_goals
    go_enter Tryd.func98, Tryd.ntmps98
    go_wp2
    go_returns
    exact ⟨_, _, _, _, 0, rfl, rfl, rfl⟩
theorem full_any (t d : Int) (w : World) (r : Bun) (hr : Hid (fullB t d = r)) :
    Calls Tryd.prog 72 #[.int .i64 t, .int .i64 d] w fun e w' =>
      e = .returned (.agg #[.int .i64 r.n, .bool r.o, .bool r.h, .int .i64 r.d]) ∧ Below w.heap.size w w' := by
  by_cases c : t < 1
  all_goals
    go_enter Tryd.func72, Tryd.ntmps72
    go_wp2
    go_returns
    rw [← unhide hr]
    unfold fullB
    first | (rw [if_pos c]; exact ⟨rfl, by go_grown⟩) | (rw [if_neg (by omega)]; exact ⟨rfl, by go_grown⟩)
theorem check_any (n : Int) (o h : Bool) (d t : Int) (w : World) :
    Calls Tryd.prog 86 #[.agg #[.int .i64 n, .bool o, .bool h, .int .i64 d], .int .i64 t] w fun e w' =>
      e = .returned (.int .i64 (checkZ ⟨n, o, h, d⟩ t)) ∧ Below w.heap.size w w' := by
  go_enter Tryd.func86, Tryd.ntmps86
  go_wp2
  all_goals go_ret
  all_goals refine ⟨ret_int ?_, by go_grown⟩
  all_goals (unfold checkZ; simp_all <;> omega)
theorem howMany_any (n : Int) (o h : Bool) (d c : Int) (a : Bool) (w : World) (g : Int) (hg : Hid (howManyZ ⟨n, o, h, d⟩ c a = g)) (hn : -9223372036854775808 < n) (hn2 : n ≤ 9223372036854775807) :
    Calls Tryd.prog 99 #[.agg #[.int .i64 n, .bool o, .bool h, .int .i64 d], .int .i64 c, .bool a] w fun e w' =>
      e = .returned (.int .i64 g) ∧ Below w.heap.size w w' := by
  cases o <;> cases a
  all_goals
    go_enter Tryd.func99, Tryd.ntmps99
    go_wp2_with (go_at_call 100; refine (numClamp_any _ _ _ _).mono ?_; rintro e w' ⟨rfl, rfl⟩)
    go_ret
    exact ⟨ret_int hg, by go_grown⟩
end Go.Proofs.YtmgjgeaigdiadaaDoor
namespace Go.Proofs.YtmgjgeaigdiadaaDoor
open Go.ChangeShapes Go.WideShapes Go.ChangeAt Go.RowKit
set_option linter.unusedSimpArgs false
set_option linter.unusedVariables false
set_option maxRecDepth 10000
attribute [local go_sem, local simp] over_const setCell_drewN alloc_drewN Over.cell Over.frozen lt_s1 lt_s2 lt_s3 le_s0 le_s1 le_s2 le_s3 eq_s0 eq_s1 eq_s2 qe_s0
theorem within_c (x lo hi : Int) (w : World) (q : Bool) (hq : Hid (inB x lo hi = q)) :
    Calls Tryd.prog 58 #[.int .i64 x, .int .i64 lo, .int .i64 hi] w fun e w' => e = .returned (.bool q) ∧ w' = w := by
  have hq' := unhide hq
  by_cases c : lo ≤ x <;> by_cases c2 : x ≤ hi <;> simp [inB, c, c2] at hq' <;> subst hq'
  all_goals
    go_enter Tryd.func58, Tryd.ntmps58
    go_wp2
    go_ret
    exact ⟨rfl, rfl⟩
theorem isNode_c (x n : Int) (w : World) (q : Bool) (hq : Hid (nodeB x n = q)) :
    Calls Tryd.prog 85 #[.int .i64 x, .int .i64 n] w fun e w' => e = .returned (.bool q) ∧ w' = w := by
  have hq' := unhide hq
  by_cases c : 0 ≤ x <;> by_cases c2 : x < n <;> simp [nodeB, c, c2] at hq' <;> subst hq'
  all_goals
    go_enter Tryd.func85, Tryd.ntmps85
    go_wp2
    go_ret
    exact ⟨rfl, rfl⟩
theorem settings_c (n bl tt cs cy cc cu ct cp : Int) (w : World) (q : Bool) (hq : Hid (stgB cs cy cc cu ct cp = q)) :
    Calls Tryd.prog 71 #[.agg #[.int .i64 n, .int .i64 bl, .int .i64 tt, .int .i64 cs, .int .i64 cy, .int .i64 cc, .int .i64 cu, .int .i64 ct, .int .i64 cp]] w fun e w' => e = .returned (.bool q) ∧ Below w.heap.size w w' := by
  have hq' := unhide hq
  unfold stgB at hq'
  obtain ⟨q1, h1⟩ : ∃ q, Hid (inB cs 1 64 = q) := ⟨_, rfl⟩
  obtain ⟨q2, h2⟩ : ∃ q, Hid (inB cy 1 16 = q) := ⟨_, rfl⟩
  obtain ⟨q3, h3⟩ : ∃ q, Hid (inB cc 1 65536 = q) := ⟨_, rfl⟩
  obtain ⟨q4, h4⟩ : ∃ q, Hid (inB cu 1 64 = q) := ⟨_, rfl⟩
  obtain ⟨q5, h5⟩ : ∃ q, Hid (inB ct 0 8 = q) := ⟨_, rfl⟩
  obtain ⟨q6, h6⟩ : ∃ q, Hid (inB cp 0 2 = q) := ⟨_, rfl⟩
  rw [unhide h1, unhide h2, unhide h3, unhide h4, unhide h5, unhide h6] at hq'
  subst hq'
  clear hq
  go_enter Tryd.func71, Tryd.ntmps71
  go_wp2_with (go_at_call 58; refine (within_c _ _ _ _ _ (by first | exact h1 | exact h2 | exact h3 | exact h4 | exact h5 | exact h6)).mono ?_; rintro e w' ⟨rfl, rfl⟩)
  all_goals go_ret
  all_goals exact ⟨by simp_all, by go_grown⟩
theorem cfgErr_c (n bl tt cs cy cc cu ct cp : Int) (w : World) (z : Int) (hz : Hid (cfgZ n bl tt cs cy cc cu ct cp = z)) :
    Calls Tryd.prog 48 #[.agg #[.int .i64 n, .int .i64 bl, .int .i64 tt, .int .i64 cs, .int .i64 cy, .int .i64 cc, .int .i64 cu, .int .i64 ct, .int .i64 cp]] w fun e w' => e = .returned (.int .i64 z) ∧ Below w.heap.size w w' := by
  have hz' := unhide hz
  unfold cfgZ at hz'
  obtain ⟨q0, h0⟩ : ∃ q, Hid (stgB cs cy cc cu ct cp = q) := ⟨_, rfl⟩
  obtain ⟨q1, h1⟩ : ∃ q, Hid (inB n 1 64 = q) := ⟨_, rfl⟩
  obtain ⟨q2, h2⟩ : ∃ q, Hid (inB bl 1 64 = q) := ⟨_, rfl⟩
  obtain ⟨q3, h3⟩ : ∃ q, Hid (inB tt n 65536 = q) := ⟨_, rfl⟩
  rw [unhide h0, unhide h1, unhide h2, unhide h3] at hz'
  subst hz'
  clear hz
  go_enter Tryd.func48, Tryd.ntmps48
  go_wp2_with (first | (go_at_call 58; refine (within_c _ _ _ _ _ (by first | exact h1 | exact h2 | exact h3)).mono ?_; rintro e w' ⟨rfl, rfl⟩) | (go_at_call 71; refine (settings_c _ _ _ _ _ _ _ _ _ _ _ h0).mono ?_; rintro e w' ⟨rfl, hb⟩; obtain ⟨x, rfl⟩ := over hb; clear hb; have f0 := x.upB (w.heap.size)))
  all_goals go_ret
  all_goals refine ⟨by simp_all, ?_⟩
  all_goals all_goals exact belEnd
set_option maxHeartbeats 1000000 in
theorem isOneOf_c (nd hm : Bool) (x n : Int) (w : World) (v : Int) (he : Hid (endZ nd hm = v)) (q : Bool) (hq : Hid (oneB nd hm x n = q)) :
    Calls Tryd.prog 84 #[.int .i64 v, .int .i64 x, .int .i64 n] w fun e w' => e = .returned (.bool q) ∧ w' = w := by
  have hq' := unhide hq
  obtain ⟨q1, h1⟩ : ∃ q, Hid (nodeB x n = q) := ⟨_, rfl⟩
  unfold oneB at hq'
  rw [unhide h1] at hq'
  clear hq
  cases q1 <;> by_cases c : x = n <;> cases nd <;> cases hm <;> simp [c] at hq' <;> subst hq'
  all_goals
    have he' := unhide he
    simp [endZ] at he'
    subst he'
    clear he
    have b01 : bits .and .i64 0 1 = 0 := rfl
    have b02 : bits .and .i64 0 2 = 0 := rfl
    have b11 : bits .and .i64 1 1 = 1 := rfl
    have b12 : bits .and .i64 1 2 = 0 := rfl
    have b21 : bits .and .i64 2 1 = 0 := rfl
    have b22 : bits .and .i64 2 2 = 2 := rfl
    have b31 : bits .and .i64 3 1 = 1 := rfl
    have b32 : bits .and .i64 3 2 = 2 := rfl
    try subst c
    go_enter Tryd.func84, Tryd.ntmps84
    go_wp2_with (go_at_call 85; refine (isNode_c _ _ _ _ h1).mono ?_; rintro e w' ⟨rfl, rfl⟩)
    go_ret
    exact ⟨rfl, rfl⟩
set_option maxHeartbeats 1000000 in
theorem marks_c (r : LRow) (lk la lb lq ls lw : Int) (lr : Bool) (xn : Int) (xo xh : Bool) (xd : Int) (n : Int) (w : World) (e1 e2 : Int) (q : Bool) (hq : Hid (marksB r ls lw lr n = q)) :
    Calls Tryd.prog 60 #[.agg #[.int .i64 e1, .int .i64 e2, .bool r.s, .bool r.h, .bool r.wr, .bool r.tk], .agg #[.int .i64 lk, .int .i64 la, .int .i64 lb, .int .i64 lq, .int .i64 ls, .int .i64 lw, .bool lr, .int .i64 xn, .bool xo, .bool xh, .int .i64 xd], .int .i64 n] w fun e w' => e = .returned (.bool q) ∧ Below w.heap.size w w' := by
  have hq' := unhide hq
  obtain ⟨q1, h1⟩ : ∃ q, Hid (nodeB lw n = q) := ⟨_, rfl⟩
  unfold marksB seqB whoB at hq'
  rw [unhide h1] at hq'
  subst hq'
  clear hq
  obtain ⟨fn, fh, tn, th, s, h, wr, tk⟩ := r
  cases s <;> cases h
  all_goals
    dsimp only
    go_enter Tryd.func60, Tryd.ntmps60
    go_wp2_with (go_at_call 85; refine (isNode_c _ _ _ _ h1).mono ?_; rintro e w' ⟨rfl, rfl⟩)
    all_goals go_ret
    all_goals exact ⟨by simp_all <;> omega, by go_grown⟩
theorem bcheck_c (xn : Int) (xo xh : Bool) (xd t : Int) (w : World) (z : Int) (hz : Hid (checkZ ⟨xn, xo, xh, xd⟩ t = z)) :
    Calls Tryd.prog 86 #[.agg #[.int .i64 xn, .bool xo, .bool xh, .int .i64 xd], .int .i64 t] w fun e w' => e = .returned (.int .i64 z) ∧ Below w.heap.size w w' := by
  rw [← unhide hz]
  exact check_any xn xo xh xd t w
theorem sent_c (xn : Int) (xo xh : Bool) (xd t : Int) (w : World) (z : Int) (hz : Hid (sentZ ⟨xn, xo, xh, xd⟩ t = z)) :
    Calls Tryd.prog 61 #[.agg #[.int .i64 xn, .bool xo, .bool xh, .int .i64 xd], .int .i64 t] w fun e w' => e = .returned (.int .i64 z) ∧ Below w.heap.size w w' := by
  have hz' := unhide hz
  obtain ⟨c, hc⟩ : ∃ c, Hid (checkZ ⟨xn, xo, xh, xd⟩ t = c) := ⟨_, rfl⟩
  unfold sentZ at hz'
  rw [unhide hc] at hz'
  clear hz
  by_cases c0 : c = 0 <;> by_cases c1 : xn = 0 <;> simp [c0, c1] at hz' <;> subst hz' <;> (try subst c0) <;> (try subst c1)
  all_goals
    go_enter Tryd.func61, Tryd.ntmps61
    go_wp2_with (go_at_call 86; refine (bcheck_c _ _ _ _ _ _ _ hc).mono ?_; rintro e w' ⟨rfl, hb⟩; obtain ⟨x, rfl⟩ := over hb; clear hb; have f0 := x.upB (w.heap.size))
    go_ret
    refine ⟨rfl, ?_⟩
    all_goals exact belEnd
theorem tokens_c (a b q xn : Int) (xo xh : Bool) (xd : Int) (w : World) :
    Calls Tryd.prog 88 #[.int .i64 a, .int .i64 b, .int .i64 q, .agg #[.int .i64 xn, .bool xo, .bool xh, .int .i64 xd]] w fun e w' =>
      e = .returned (.agg #[.int .i64 1, .int .i64 a, .int .i64 b, .int .i64 q, .int .i64 0, .int .i64 0, .bool false, .int .i64 xn, .bool xo, .bool xh, .int .i64 xd]) ∧ Below w.heap.size w w' := by
  go_enter Tryd.func88, Tryd.ntmps88
  go_wp2
  go_returns
  exact ⟨rfl, by go_grown⟩
theorem way_c (r : LRow) (lk la lb lq ls lw : Int) (lr : Bool) (xn : Int) (xo xh : Bool) (xd : Int) (n : Int) (w : World) (e1 e2 : Int) (he1 : Hid (endZ r.fn r.fh = e1)) (he2 : Hid (endZ r.tn r.th = e2)) (q : Bool) (hq : Hid (wayB r la lb n = q)) :
    Calls Tryd.prog 59 #[.agg #[.int .i64 e1, .int .i64 e2, .bool r.s, .bool r.h, .bool r.wr, .bool r.tk], .agg #[.int .i64 lk, .int .i64 la, .int .i64 lb, .int .i64 lq, .int .i64 ls, .int .i64 lw, .bool lr, .int .i64 xn, .bool xo, .bool xh, .int .i64 xd], .int .i64 n] w fun e w' => e = .returned (.bool q) ∧ Below w.heap.size w w' := by
  have hq' := unhide hq
  obtain ⟨q1, h1⟩ : ∃ q, Hid (oneB r.fn r.fh la n = q) := ⟨_, rfl⟩
  obtain ⟨q2, h2⟩ : ∃ q, Hid (oneB r.tn r.th lb n = q) := ⟨_, rfl⟩
  unfold wayB at hq'
  rw [unhide h1, unhide h2] at hq'
  clear hq
  cases q1 <;> cases q2 <;> by_cases c : la = lb <;> simp [c] at hq' <;> subst hq' <;> (try subst c)
  all_goals
    go_enter Tryd.func59, Tryd.ntmps59
    go_wp2_with (go_at_call 84; (first | (with_reducible refine (isOneOf_c _ _ _ _ _ _ he1 _ h1).mono ?_) | (with_reducible refine (isOneOf_c _ _ _ _ _ _ he2 _ h2).mono ?_)); rintro e w' ⟨rfl, rfl⟩)
    go_ret
    exact ⟨by first | rfl | simp [c], by go_grown⟩
def tabL : List Value := [.int .i64 0, .int .i64 0, .bool false, .bool false, .bool false, .bool false,
  .int .i64 3, .int .i64 3, .bool false, .bool false, .bool false, .bool true,
  .int .i64 1, .int .i64 3, .bool false, .bool false, .bool true, .bool false,
  .int .i64 1, .int .i64 2, .bool false, .bool false, .bool false, .bool false,
  .int .i64 2, .int .i64 1, .bool true, .bool true, .bool false, .bool false,
  .int .i64 1, .int .i64 2, .bool true, .bool false, .bool false, .bool false,
  .int .i64 2, .int .i64 1, .bool true, .bool false, .bool false, .bool false,
  .int .i64 1, .int .i64 2, .bool true, .bool false, .bool false, .bool false]
def Tab (w : World) : Prop := 0 < w.heap.size ∧ ∀ (i : Nat) v, tabL[i]? = some v → w.cell? ⟨0, i, none⟩ = some v
theorem Tab.below {w w' : World} {B : Nat} (h : Tab w) (hb : Below B w w') (hB : 0 < B) (hs : w.heap.size ≤ w'.heap.size) : Tab w' :=
  ⟨Nat.lt_of_lt_of_le h.1 hs, fun i v hi => (hb.cell (p := ⟨0, i, none⟩) hB).trans (h.2 i v hi)⟩
theorem Tab.over {w : World} (h : Tab w) (x : Over w) : Tab x.w := h.below x.below h.1 x.below.size
theorem Tab.alloc {w : World} (h : Tab w) (o : Obj) : Tab (w.alloc o) :=
  h.below ((Below.refl w.heap.size w).alloc (Nat.le_refl _) o) h.1 (by simp)
theorem none_eq {a d : Int} {b c : Bool} (h : noneB ⟨a, b, c, d⟩ = true) : a = 0 ∧ b = false ∧ c = false ∧ d = 0 := by
  simpa [noneB, and_assoc] using h
theorem none_ne {a d : Int} {b c : Bool} (h : noneB ⟨a, b, c, d⟩ = false) : ¬ (a = 0 ∧ b = false ∧ c = false ∧ d = 0) := by
  intro ⟨h1, h2, h3, h4⟩; subst h1; subst h2; subst h3; subst h4; simp [noneB] at h
set_option maxHeartbeats 2000000 in
theorem check1 (n bl tt cs cy cc cu ct cp : Int) (la lb lq ls lw : Int) (lr : Bool) (xn : Int) (xo xh : Bool) (xd : Int) (w : World) (hT : Hid (Tab w)) (z : Int) (hz : Hid (letterZ n bl tt ⟨1, la, lb, lq, ls, lw, lr, ⟨xn, xo, xh, xd⟩⟩ = z)) :
    Calls Tryd.prog 29 #[.agg #[.int .i64 n, .int .i64 bl, .int .i64 tt, .int .i64 cs, .int .i64 cy, .int .i64 cc, .int .i64 cu, .int .i64 ct, .int .i64 cp], .agg #[.int .i64 1, .int .i64 la, .int .i64 lb, .int .i64 lq, .int .i64 ls, .int .i64 lw, .bool lr, .int .i64 xn, .bool xo, .bool xh, .int .i64 xd]] w fun e w' => e = .returned (.int .i64 z) ∧ Below w.heap.size w w' := by
  have hz' := unhide hz
  have h0 := hide (show inB 1 1 7 = true from rfl)
  unfold letterZ at hz'
  dsimp only at hz'
  rw [unhide h0] at hz'
  have z0 := (unhide hT).1
  have t0 := (unhide hT).2 6 _ rfl
  have t1 := (unhide hT).2 7 _ rfl
  have t2 := (unhide hT).2 8 _ rfl
  have t3 := (unhide hT).2 9 _ rfl
  have t4 := (unhide hT).2 10 _ rfl
  have t5 := (unhide hT).2 11 _ rfl
  obtain ⟨q1, h1⟩ : ∃ q, Hid (wayB (rowL 1) la lb n = q) := ⟨_, rfl⟩
  obtain ⟨q2, h2⟩ : ∃ q, Hid (marksB (rowL 1) ls lw lr n = q) := ⟨_, rfl⟩
  rw [unhide h1, unhide h2] at hz'
  clear hz hT
  rcases (show lq < 0 ∨ (0 ≤ lq ∧ bl ≤ lq) ∨ (0 ≤ lq ∧ lq < bl) by omega) with c | c | c
  · obtain rfl : 3 = z := by simpa [c] using hz'
    go_enter Tryd.func29, Tryd.ntmps29
    go_wp2_with (first | (go_at_call 58; refine (within_c _ _ _ _ _ h0).mono ?_; rintro e w' ⟨rfl, rfl⟩) | (go_at_call 59; refine (way_c (rowL 1) _ _ _ _ _ _ _ _ _ _ _ _ _ 3 3 rfl rfl _ h1).mono ?_; rintro e w' ⟨rfl, hb⟩; obtain ⟨x, rfl⟩ := over hb; clear hb; have f0 := x.upB (w.heap.size); have f1 := x.upB (w.heap.size + 1); have f2 := x.upB (w.heap.size + 1 + 1)) | (go_at_call 60; refine (marks_c (rowL 1) _ _ _ _ _ _ _ _ _ _ _ _ _ 3 3 _ h2).mono ?_; rintro e w' ⟨rfl, hb⟩; obtain ⟨y, rfl⟩ := over hb; clear hb; have g0 := y.upB (w.heap.size); have g1 := y.upB (w.heap.size + 1); have g2 := y.upB (w.heap.size + 1 + 1)) | (go_at_call 61; refine (sent_c _ _ _ _ _ _ _ h3).mono ?_; rintro e w' ⟨rfl, hb⟩; obtain ⟨u, rfl⟩ := over hb; clear hb))
    go_ret
    refine ⟨by first | rfl | simp, ?_⟩
    all_goals exact belEnd
  · obtain rfl : 3 = z := by simpa [c] using hz'
    go_enter Tryd.func29, Tryd.ntmps29
    go_wp2_with (first | (go_at_call 58; refine (within_c _ _ _ _ _ h0).mono ?_; rintro e w' ⟨rfl, rfl⟩) | (go_at_call 59; refine (way_c (rowL 1) _ _ _ _ _ _ _ _ _ _ _ _ _ 3 3 rfl rfl _ h1).mono ?_; rintro e w' ⟨rfl, hb⟩; obtain ⟨x, rfl⟩ := over hb; clear hb; have f0 := x.upB (w.heap.size); have f1 := x.upB (w.heap.size + 1); have f2 := x.upB (w.heap.size + 1 + 1)) | (go_at_call 60; refine (marks_c (rowL 1) _ _ _ _ _ _ _ _ _ _ _ _ _ 3 3 _ h2).mono ?_; rintro e w' ⟨rfl, hb⟩; obtain ⟨y, rfl⟩ := over hb; clear hb; have g0 := y.upB (w.heap.size); have g1 := y.upB (w.heap.size + 1); have g2 := y.upB (w.heap.size + 1 + 1)) | (go_at_call 61; refine (sent_c _ _ _ _ _ _ _ h3).mono ?_; rintro e w' ⟨rfl, hb⟩; obtain ⟨u, rfl⟩ := over hb; clear hb))
    go_ret
    refine ⟨by first | rfl | simp, ?_⟩
    all_goals exact belEnd
  rw [if_neg (show ¬ (true = false) by simp), if_neg (show ¬ (lq < 0 ∨ bl ≤ lq) by omega)] at hz'
  cases q1
  · obtain rfl : 8 = z := by simpa using hz'
    go_enter Tryd.func29, Tryd.ntmps29
    go_wp2_with (first | (go_at_call 58; refine (within_c _ _ _ _ _ h0).mono ?_; rintro e w' ⟨rfl, rfl⟩) | (go_at_call 59; refine (way_c (rowL 1) _ _ _ _ _ _ _ _ _ _ _ _ _ 3 3 rfl rfl _ h1).mono ?_; rintro e w' ⟨rfl, hb⟩; obtain ⟨x, rfl⟩ := over hb; clear hb; have f0 := x.upB (w.heap.size); have f1 := x.upB (w.heap.size + 1); have f2 := x.upB (w.heap.size + 1 + 1)) | (go_at_call 60; refine (marks_c (rowL 1) _ _ _ _ _ _ _ _ _ _ _ _ _ 3 3 _ h2).mono ?_; rintro e w' ⟨rfl, hb⟩; obtain ⟨y, rfl⟩ := over hb; clear hb; have g0 := y.upB (w.heap.size); have g1 := y.upB (w.heap.size + 1); have g2 := y.upB (w.heap.size + 1 + 1)) | (go_at_call 61; refine (sent_c _ _ _ _ _ _ _ h3).mono ?_; rintro e w' ⟨rfl, hb⟩; obtain ⟨u, rfl⟩ := over hb; clear hb))
    go_ret
    refine ⟨by first | rfl | simp, ?_⟩
    all_goals exact belEnd
  cases q2
  · obtain rfl : 10 = z := by simpa using hz'
    go_enter Tryd.func29, Tryd.ntmps29
    go_wp2_with (first | (go_at_call 58; refine (within_c _ _ _ _ _ h0).mono ?_; rintro e w' ⟨rfl, rfl⟩) | (go_at_call 59; refine (way_c (rowL 1) _ _ _ _ _ _ _ _ _ _ _ _ _ 3 3 rfl rfl _ h1).mono ?_; rintro e w' ⟨rfl, hb⟩; obtain ⟨x, rfl⟩ := over hb; clear hb; have f0 := x.upB (w.heap.size); have f1 := x.upB (w.heap.size + 1); have f2 := x.upB (w.heap.size + 1 + 1)) | (go_at_call 60; refine (marks_c (rowL 1) _ _ _ _ _ _ _ _ _ _ _ _ _ 3 3 _ h2).mono ?_; rintro e w' ⟨rfl, hb⟩; obtain ⟨y, rfl⟩ := over hb; clear hb; have g0 := y.upB (w.heap.size); have g1 := y.upB (w.heap.size + 1); have g2 := y.upB (w.heap.size + 1 + 1)) | (go_at_call 61; refine (sent_c _ _ _ _ _ _ _ h3).mono ?_; rintro e w' ⟨rfl, hb⟩; obtain ⟨u, rfl⟩ := over hb; clear hb))
    go_ret
    refine ⟨by first | rfl | simp, ?_⟩
    all_goals exact belEnd
  · have h3 : Hid (sentZ ⟨xn, xo, xh, xd⟩ tt = z) := hide (by simpa using hz')
    go_enter Tryd.func29, Tryd.ntmps29
    go_wp2_with (first | (go_at_call 58; refine (within_c _ _ _ _ _ h0).mono ?_; rintro e w' ⟨rfl, rfl⟩) | (go_at_call 59; refine (way_c (rowL 1) _ _ _ _ _ _ _ _ _ _ _ _ _ 3 3 rfl rfl _ h1).mono ?_; rintro e w' ⟨rfl, hb⟩; obtain ⟨x, rfl⟩ := over hb; clear hb; have f0 := x.upB (w.heap.size); have f1 := x.upB (w.heap.size + 1); have f2 := x.upB (w.heap.size + 1 + 1)) | (go_at_call 60; refine (marks_c (rowL 1) _ _ _ _ _ _ _ _ _ _ _ _ _ 3 3 _ h2).mono ?_; rintro e w' ⟨rfl, hb⟩; obtain ⟨y, rfl⟩ := over hb; clear hb; have g0 := y.upB (w.heap.size); have g1 := y.upB (w.heap.size + 1); have g2 := y.upB (w.heap.size + 1 + 1)) | (go_at_call 61; refine (sent_c _ _ _ _ _ _ _ h3).mono ?_; rintro e w' ⟨rfl, hb⟩; obtain ⟨u, rfl⟩ := over hb; clear hb))
    go_ret
    refine ⟨by first | rfl | simp, ?_⟩
    all_goals exact belEnd
set_option maxHeartbeats 2000000 in
theorem check2 (n bl tt cs cy cc cu ct cp : Int) (la lb lq ls lw : Int) (lr : Bool) (xn : Int) (xo xh : Bool) (xd : Int) (w : World) (hT : Hid (Tab w)) (z : Int) (hz : Hid (letterZ n bl tt ⟨2, la, lb, lq, ls, lw, lr, ⟨xn, xo, xh, xd⟩⟩ = z)) :
    Calls Tryd.prog 29 #[.agg #[.int .i64 n, .int .i64 bl, .int .i64 tt, .int .i64 cs, .int .i64 cy, .int .i64 cc, .int .i64 cu, .int .i64 ct, .int .i64 cp], .agg #[.int .i64 2, .int .i64 la, .int .i64 lb, .int .i64 lq, .int .i64 ls, .int .i64 lw, .bool lr, .int .i64 xn, .bool xo, .bool xh, .int .i64 xd]] w fun e w' => e = .returned (.int .i64 z) ∧ Below w.heap.size w w' := by
  have hz' := unhide hz
  have h0 := hide (show inB 2 1 7 = true from rfl)
  unfold letterZ at hz'
  dsimp only at hz'
  rw [unhide h0] at hz'
  have z0 := (unhide hT).1
  have t0 := (unhide hT).2 12 _ rfl
  have t1 := (unhide hT).2 13 _ rfl
  have t2 := (unhide hT).2 14 _ rfl
  have t3 := (unhide hT).2 15 _ rfl
  have t4 := (unhide hT).2 16 _ rfl
  have t5 := (unhide hT).2 17 _ rfl
  obtain ⟨q1, h1⟩ : ∃ q, Hid (wayB (rowL 2) la lb n = q) := ⟨_, rfl⟩
  obtain ⟨q2, h2⟩ : ∃ q, Hid (marksB (rowL 2) ls lw lr n = q) := ⟨_, rfl⟩
  rw [unhide h1, unhide h2] at hz'
  clear hz hT
  rcases (show lq < 0 ∨ (0 ≤ lq ∧ bl ≤ lq) ∨ (0 ≤ lq ∧ lq < bl) by omega) with c | c | c
  · obtain rfl : 3 = z := by simpa [c] using hz'
    go_enter Tryd.func29, Tryd.ntmps29
    go_wp2_with (first | (go_at_call 58; refine (within_c _ _ _ _ _ h0).mono ?_; rintro e w' ⟨rfl, rfl⟩) | (go_at_call 59; refine (way_c (rowL 2) _ _ _ _ _ _ _ _ _ _ _ _ _ 1 3 rfl rfl _ h1).mono ?_; rintro e w' ⟨rfl, hb⟩; obtain ⟨x, rfl⟩ := over hb; clear hb; have f0 := x.upB (w.heap.size); have f1 := x.upB (w.heap.size + 1); have f2 := x.upB (w.heap.size + 1 + 1)) | (go_at_call 60; refine (marks_c (rowL 2) _ _ _ _ _ _ _ _ _ _ _ _ _ 1 3 _ h2).mono ?_; rintro e w' ⟨rfl, hb⟩; obtain ⟨y, rfl⟩ := over hb; clear hb; have g0 := y.upB (w.heap.size); have g1 := y.upB (w.heap.size + 1); have g2 := y.upB (w.heap.size + 1 + 1)))
    go_ret
    refine ⟨by first | rfl | simp, ?_⟩
    all_goals exact belEnd
  · obtain rfl : 3 = z := by simpa [c] using hz'
    go_enter Tryd.func29, Tryd.ntmps29
    go_wp2_with (first | (go_at_call 58; refine (within_c _ _ _ _ _ h0).mono ?_; rintro e w' ⟨rfl, rfl⟩) | (go_at_call 59; refine (way_c (rowL 2) _ _ _ _ _ _ _ _ _ _ _ _ _ 1 3 rfl rfl _ h1).mono ?_; rintro e w' ⟨rfl, hb⟩; obtain ⟨x, rfl⟩ := over hb; clear hb; have f0 := x.upB (w.heap.size); have f1 := x.upB (w.heap.size + 1); have f2 := x.upB (w.heap.size + 1 + 1)) | (go_at_call 60; refine (marks_c (rowL 2) _ _ _ _ _ _ _ _ _ _ _ _ _ 1 3 _ h2).mono ?_; rintro e w' ⟨rfl, hb⟩; obtain ⟨y, rfl⟩ := over hb; clear hb; have g0 := y.upB (w.heap.size); have g1 := y.upB (w.heap.size + 1); have g2 := y.upB (w.heap.size + 1 + 1)))
    go_ret
    refine ⟨by first | rfl | simp, ?_⟩
    all_goals exact belEnd
  rw [if_neg (show ¬ (true = false) by simp), if_neg (show ¬ (lq < 0 ∨ bl ≤ lq) by omega)] at hz'
  cases q1
  · obtain rfl : 8 = z := by simpa using hz'
    go_enter Tryd.func29, Tryd.ntmps29
    go_wp2_with (first | (go_at_call 58; refine (within_c _ _ _ _ _ h0).mono ?_; rintro e w' ⟨rfl, rfl⟩) | (go_at_call 59; refine (way_c (rowL 2) _ _ _ _ _ _ _ _ _ _ _ _ _ 1 3 rfl rfl _ h1).mono ?_; rintro e w' ⟨rfl, hb⟩; obtain ⟨x, rfl⟩ := over hb; clear hb; have f0 := x.upB (w.heap.size); have f1 := x.upB (w.heap.size + 1); have f2 := x.upB (w.heap.size + 1 + 1)) | (go_at_call 60; refine (marks_c (rowL 2) _ _ _ _ _ _ _ _ _ _ _ _ _ 1 3 _ h2).mono ?_; rintro e w' ⟨rfl, hb⟩; obtain ⟨y, rfl⟩ := over hb; clear hb; have g0 := y.upB (w.heap.size); have g1 := y.upB (w.heap.size + 1); have g2 := y.upB (w.heap.size + 1 + 1)))
    go_ret
    refine ⟨by first | rfl | simp, ?_⟩
    all_goals exact belEnd
  cases q2
  · obtain rfl : 10 = z := by simpa using hz'
    go_enter Tryd.func29, Tryd.ntmps29
    go_wp2_with (first | (go_at_call 58; refine (within_c _ _ _ _ _ h0).mono ?_; rintro e w' ⟨rfl, rfl⟩) | (go_at_call 59; refine (way_c (rowL 2) _ _ _ _ _ _ _ _ _ _ _ _ _ 1 3 rfl rfl _ h1).mono ?_; rintro e w' ⟨rfl, hb⟩; obtain ⟨x, rfl⟩ := over hb; clear hb; have f0 := x.upB (w.heap.size); have f1 := x.upB (w.heap.size + 1); have f2 := x.upB (w.heap.size + 1 + 1)) | (go_at_call 60; refine (marks_c (rowL 2) _ _ _ _ _ _ _ _ _ _ _ _ _ 1 3 _ h2).mono ?_; rintro e w' ⟨rfl, hb⟩; obtain ⟨y, rfl⟩ := over hb; clear hb; have g0 := y.upB (w.heap.size); have g1 := y.upB (w.heap.size + 1); have g2 := y.upB (w.heap.size + 1 + 1)))
    go_ret
    refine ⟨by first | rfl | simp, ?_⟩
    all_goals exact belEnd
  cases h3 : noneB ⟨xn, xo, xh, xd⟩
  · obtain rfl : 6 = z := by simpa [h3] using hz'
    have h4 := none_ne h3
    clear h3 hz'
    go_enter Tryd.func29, Tryd.ntmps29
    go_wp2_with (first | (go_at_call 58; refine (within_c _ _ _ _ _ h0).mono ?_; rintro e w' ⟨rfl, rfl⟩) | (go_at_call 59; refine (way_c (rowL 2) _ _ _ _ _ _ _ _ _ _ _ _ _ 1 3 rfl rfl _ h1).mono ?_; rintro e w' ⟨rfl, hb⟩; obtain ⟨x, rfl⟩ := over hb; clear hb; have f0 := x.upB (w.heap.size); have f1 := x.upB (w.heap.size + 1); have f2 := x.upB (w.heap.size + 1 + 1)) | (go_at_call 60; refine (marks_c (rowL 2) _ _ _ _ _ _ _ _ _ _ _ _ _ 1 3 _ h2).mono ?_; rintro e w' ⟨rfl, hb⟩; obtain ⟨y, rfl⟩ := over hb; clear hb; have g0 := y.upB (w.heap.size); have g1 := y.upB (w.heap.size + 1); have g2 := y.upB (w.heap.size + 1 + 1)))
    all_goals go_ret
    all_goals refine ⟨by first | rfl | (simp; done) | (exfalso; refine h4 ⟨by assumption, ?_, ?_, by assumption⟩ <;> (rw [Bool.eq_false_iff]; assumption)), ?_⟩
    all_goals all_goals exact belEnd
  · obtain rfl : 0 = z := by simpa [h3] using hz'
    obtain ⟨rfl, rfl, rfl, rfl⟩ := none_eq h3
    clear h3 hz'
    go_enter Tryd.func29, Tryd.ntmps29
    go_wp2_with (first | (go_at_call 58; refine (within_c _ _ _ _ _ h0).mono ?_; rintro e w' ⟨rfl, rfl⟩) | (go_at_call 59; refine (way_c (rowL 2) _ _ _ _ _ _ _ _ _ _ _ _ _ 1 3 rfl rfl _ h1).mono ?_; rintro e w' ⟨rfl, hb⟩; obtain ⟨x, rfl⟩ := over hb; clear hb; have f0 := x.upB (w.heap.size); have f1 := x.upB (w.heap.size + 1); have f2 := x.upB (w.heap.size + 1 + 1)) | (go_at_call 60; refine (marks_c (rowL 2) _ _ _ _ _ _ _ _ _ _ _ _ _ 1 3 _ h2).mono ?_; rintro e w' ⟨rfl, hb⟩; obtain ⟨y, rfl⟩ := over hb; clear hb; have g0 := y.upB (w.heap.size); have g1 := y.upB (w.heap.size + 1); have g2 := y.upB (w.heap.size + 1 + 1)))
    go_ret
    refine ⟨by first | rfl | simp, ?_⟩
    all_goals exact belEnd
set_option maxHeartbeats 2000000 in
theorem check3 (n bl tt cs cy cc cu ct cp : Int) (la lb lq ls lw : Int) (lr : Bool) (xn : Int) (xo xh : Bool) (xd : Int) (w : World) (hT : Hid (Tab w)) (z : Int) (hz : Hid (letterZ n bl tt ⟨3, la, lb, lq, ls, lw, lr, ⟨xn, xo, xh, xd⟩⟩ = z)) :
    Calls Tryd.prog 29 #[.agg #[.int .i64 n, .int .i64 bl, .int .i64 tt, .int .i64 cs, .int .i64 cy, .int .i64 cc, .int .i64 cu, .int .i64 ct, .int .i64 cp], .agg #[.int .i64 3, .int .i64 la, .int .i64 lb, .int .i64 lq, .int .i64 ls, .int .i64 lw, .bool lr, .int .i64 xn, .bool xo, .bool xh, .int .i64 xd]] w fun e w' => e = .returned (.int .i64 z) ∧ Below w.heap.size w w' := by
  have hz' := unhide hz
  have h0 := hide (show inB 3 1 7 = true from rfl)
  unfold letterZ at hz'
  dsimp only at hz'
  rw [unhide h0] at hz'
  have z0 := (unhide hT).1
  have t0 := (unhide hT).2 18 _ rfl
  have t1 := (unhide hT).2 19 _ rfl
  have t2 := (unhide hT).2 20 _ rfl
  have t3 := (unhide hT).2 21 _ rfl
  have t4 := (unhide hT).2 22 _ rfl
  have t5 := (unhide hT).2 23 _ rfl
  obtain ⟨q1, h1⟩ : ∃ q, Hid (wayB (rowL 3) la lb n = q) := ⟨_, rfl⟩
  obtain ⟨q2, h2⟩ : ∃ q, Hid (marksB (rowL 3) ls lw lr n = q) := ⟨_, rfl⟩
  rw [unhide h1, unhide h2] at hz'
  clear hz hT
  rcases (show lq < 0 ∨ (0 ≤ lq ∧ bl ≤ lq) ∨ (0 ≤ lq ∧ lq < bl) by omega) with c | c | c
  · obtain rfl : 3 = z := by simpa [c] using hz'
    go_enter Tryd.func29, Tryd.ntmps29
    go_wp2_with (first | (go_at_call 58; refine (within_c _ _ _ _ _ h0).mono ?_; rintro e w' ⟨rfl, rfl⟩) | (go_at_call 59; refine (way_c (rowL 3) _ _ _ _ _ _ _ _ _ _ _ _ _ 1 2 rfl rfl _ h1).mono ?_; rintro e w' ⟨rfl, hb⟩; obtain ⟨x, rfl⟩ := over hb; clear hb; have f0 := x.upB (w.heap.size); have f1 := x.upB (w.heap.size + 1); have f2 := x.upB (w.heap.size + 1 + 1)) | (go_at_call 60; refine (marks_c (rowL 3) _ _ _ _ _ _ _ _ _ _ _ _ _ 1 2 _ h2).mono ?_; rintro e w' ⟨rfl, hb⟩; obtain ⟨y, rfl⟩ := over hb; clear hb; have g0 := y.upB (w.heap.size); have g1 := y.upB (w.heap.size + 1); have g2 := y.upB (w.heap.size + 1 + 1)))
    go_ret
    refine ⟨by first | rfl | simp, ?_⟩
    all_goals exact belEnd
  · obtain rfl : 3 = z := by simpa [c] using hz'
    go_enter Tryd.func29, Tryd.ntmps29
    go_wp2_with (first | (go_at_call 58; refine (within_c _ _ _ _ _ h0).mono ?_; rintro e w' ⟨rfl, rfl⟩) | (go_at_call 59; refine (way_c (rowL 3) _ _ _ _ _ _ _ _ _ _ _ _ _ 1 2 rfl rfl _ h1).mono ?_; rintro e w' ⟨rfl, hb⟩; obtain ⟨x, rfl⟩ := over hb; clear hb; have f0 := x.upB (w.heap.size); have f1 := x.upB (w.heap.size + 1); have f2 := x.upB (w.heap.size + 1 + 1)) | (go_at_call 60; refine (marks_c (rowL 3) _ _ _ _ _ _ _ _ _ _ _ _ _ 1 2 _ h2).mono ?_; rintro e w' ⟨rfl, hb⟩; obtain ⟨y, rfl⟩ := over hb; clear hb; have g0 := y.upB (w.heap.size); have g1 := y.upB (w.heap.size + 1); have g2 := y.upB (w.heap.size + 1 + 1)))
    go_ret
    refine ⟨by first | rfl | simp, ?_⟩
    all_goals exact belEnd
  rw [if_neg (show ¬ (true = false) by simp), if_neg (show ¬ (lq < 0 ∨ bl ≤ lq) by omega)] at hz'
  cases q1
  · obtain rfl : 8 = z := by simpa using hz'
    go_enter Tryd.func29, Tryd.ntmps29
    go_wp2_with (first | (go_at_call 58; refine (within_c _ _ _ _ _ h0).mono ?_; rintro e w' ⟨rfl, rfl⟩) | (go_at_call 59; refine (way_c (rowL 3) _ _ _ _ _ _ _ _ _ _ _ _ _ 1 2 rfl rfl _ h1).mono ?_; rintro e w' ⟨rfl, hb⟩; obtain ⟨x, rfl⟩ := over hb; clear hb; have f0 := x.upB (w.heap.size); have f1 := x.upB (w.heap.size + 1); have f2 := x.upB (w.heap.size + 1 + 1)) | (go_at_call 60; refine (marks_c (rowL 3) _ _ _ _ _ _ _ _ _ _ _ _ _ 1 2 _ h2).mono ?_; rintro e w' ⟨rfl, hb⟩; obtain ⟨y, rfl⟩ := over hb; clear hb; have g0 := y.upB (w.heap.size); have g1 := y.upB (w.heap.size + 1); have g2 := y.upB (w.heap.size + 1 + 1)))
    go_ret
    refine ⟨by first | rfl | simp, ?_⟩
    all_goals exact belEnd
  cases q2
  · obtain rfl : 10 = z := by simpa using hz'
    go_enter Tryd.func29, Tryd.ntmps29
    go_wp2_with (first | (go_at_call 58; refine (within_c _ _ _ _ _ h0).mono ?_; rintro e w' ⟨rfl, rfl⟩) | (go_at_call 59; refine (way_c (rowL 3) _ _ _ _ _ _ _ _ _ _ _ _ _ 1 2 rfl rfl _ h1).mono ?_; rintro e w' ⟨rfl, hb⟩; obtain ⟨x, rfl⟩ := over hb; clear hb; have f0 := x.upB (w.heap.size); have f1 := x.upB (w.heap.size + 1); have f2 := x.upB (w.heap.size + 1 + 1)) | (go_at_call 60; refine (marks_c (rowL 3) _ _ _ _ _ _ _ _ _ _ _ _ _ 1 2 _ h2).mono ?_; rintro e w' ⟨rfl, hb⟩; obtain ⟨y, rfl⟩ := over hb; clear hb; have g0 := y.upB (w.heap.size); have g1 := y.upB (w.heap.size + 1); have g2 := y.upB (w.heap.size + 1 + 1)))
    go_ret
    refine ⟨by first | rfl | simp, ?_⟩
    all_goals exact belEnd
  cases h3 : noneB ⟨xn, xo, xh, xd⟩
  · obtain rfl : 6 = z := by simpa [h3] using hz'
    have h4 := none_ne h3
    clear h3 hz'
    go_enter Tryd.func29, Tryd.ntmps29
    go_wp2_with (first | (go_at_call 58; refine (within_c _ _ _ _ _ h0).mono ?_; rintro e w' ⟨rfl, rfl⟩) | (go_at_call 59; refine (way_c (rowL 3) _ _ _ _ _ _ _ _ _ _ _ _ _ 1 2 rfl rfl _ h1).mono ?_; rintro e w' ⟨rfl, hb⟩; obtain ⟨x, rfl⟩ := over hb; clear hb; have f0 := x.upB (w.heap.size); have f1 := x.upB (w.heap.size + 1); have f2 := x.upB (w.heap.size + 1 + 1)) | (go_at_call 60; refine (marks_c (rowL 3) _ _ _ _ _ _ _ _ _ _ _ _ _ 1 2 _ h2).mono ?_; rintro e w' ⟨rfl, hb⟩; obtain ⟨y, rfl⟩ := over hb; clear hb; have g0 := y.upB (w.heap.size); have g1 := y.upB (w.heap.size + 1); have g2 := y.upB (w.heap.size + 1 + 1)))
    all_goals go_ret
    all_goals refine ⟨by first | rfl | (simp; done) | (exfalso; refine h4 ⟨by assumption, ?_, ?_, by assumption⟩ <;> (rw [Bool.eq_false_iff]; assumption)), ?_⟩
    all_goals all_goals exact belEnd
  · obtain rfl : 0 = z := by simpa [h3] using hz'
    obtain ⟨rfl, rfl, rfl, rfl⟩ := none_eq h3
    clear h3 hz'
    go_enter Tryd.func29, Tryd.ntmps29
    go_wp2_with (first | (go_at_call 58; refine (within_c _ _ _ _ _ h0).mono ?_; rintro e w' ⟨rfl, rfl⟩) | (go_at_call 59; refine (way_c (rowL 3) _ _ _ _ _ _ _ _ _ _ _ _ _ 1 2 rfl rfl _ h1).mono ?_; rintro e w' ⟨rfl, hb⟩; obtain ⟨x, rfl⟩ := over hb; clear hb; have f0 := x.upB (w.heap.size); have f1 := x.upB (w.heap.size + 1); have f2 := x.upB (w.heap.size + 1 + 1)) | (go_at_call 60; refine (marks_c (rowL 3) _ _ _ _ _ _ _ _ _ _ _ _ _ 1 2 _ h2).mono ?_; rintro e w' ⟨rfl, hb⟩; obtain ⟨y, rfl⟩ := over hb; clear hb; have g0 := y.upB (w.heap.size); have g1 := y.upB (w.heap.size + 1); have g2 := y.upB (w.heap.size + 1 + 1)))
    go_ret
    refine ⟨by first | rfl | simp, ?_⟩
    all_goals exact belEnd
set_option maxHeartbeats 2000000 in
theorem check4 (n bl tt cs cy cc cu ct cp : Int) (la lb lq ls lw : Int) (lr : Bool) (xn : Int) (xo xh : Bool) (xd : Int) (w : World) (hT : Hid (Tab w)) (z : Int) (hz : Hid (letterZ n bl tt ⟨4, la, lb, lq, ls, lw, lr, ⟨xn, xo, xh, xd⟩⟩ = z)) :
    Calls Tryd.prog 29 #[.agg #[.int .i64 n, .int .i64 bl, .int .i64 tt, .int .i64 cs, .int .i64 cy, .int .i64 cc, .int .i64 cu, .int .i64 ct, .int .i64 cp], .agg #[.int .i64 4, .int .i64 la, .int .i64 lb, .int .i64 lq, .int .i64 ls, .int .i64 lw, .bool lr, .int .i64 xn, .bool xo, .bool xh, .int .i64 xd]] w fun e w' => e = .returned (.int .i64 z) ∧ Below w.heap.size w w' := by
  have hz' := unhide hz
  have h0 := hide (show inB 4 1 7 = true from rfl)
  unfold letterZ at hz'
  dsimp only at hz'
  rw [unhide h0] at hz'
  have z0 := (unhide hT).1
  have t0 := (unhide hT).2 24 _ rfl
  have t1 := (unhide hT).2 25 _ rfl
  have t2 := (unhide hT).2 26 _ rfl
  have t3 := (unhide hT).2 27 _ rfl
  have t4 := (unhide hT).2 28 _ rfl
  have t5 := (unhide hT).2 29 _ rfl
  obtain ⟨q1, h1⟩ : ∃ q, Hid (wayB (rowL 4) la lb n = q) := ⟨_, rfl⟩
  obtain ⟨q2, h2⟩ : ∃ q, Hid (marksB (rowL 4) ls lw lr n = q) := ⟨_, rfl⟩
  rw [unhide h1, unhide h2] at hz'
  clear hz hT
  rcases (show lq < 0 ∨ (0 ≤ lq ∧ bl ≤ lq) ∨ (0 ≤ lq ∧ lq < bl) by omega) with c | c | c
  · obtain rfl : 3 = z := by simpa [c] using hz'
    go_enter Tryd.func29, Tryd.ntmps29
    go_wp2_with (first | (go_at_call 58; refine (within_c _ _ _ _ _ h0).mono ?_; rintro e w' ⟨rfl, rfl⟩) | (go_at_call 59; refine (way_c (rowL 4) _ _ _ _ _ _ _ _ _ _ _ _ _ 2 1 rfl rfl _ h1).mono ?_; rintro e w' ⟨rfl, hb⟩; obtain ⟨x, rfl⟩ := over hb; clear hb; have f0 := x.upB (w.heap.size); have f1 := x.upB (w.heap.size + 1); have f2 := x.upB (w.heap.size + 1 + 1)) | (go_at_call 60; refine (marks_c (rowL 4) _ _ _ _ _ _ _ _ _ _ _ _ _ 2 1 _ h2).mono ?_; rintro e w' ⟨rfl, hb⟩; obtain ⟨y, rfl⟩ := over hb; clear hb; have g0 := y.upB (w.heap.size); have g1 := y.upB (w.heap.size + 1); have g2 := y.upB (w.heap.size + 1 + 1)))
    go_ret
    refine ⟨by first | rfl | simp, ?_⟩
    all_goals exact belEnd
  · obtain rfl : 3 = z := by simpa [c] using hz'
    go_enter Tryd.func29, Tryd.ntmps29
    go_wp2_with (first | (go_at_call 58; refine (within_c _ _ _ _ _ h0).mono ?_; rintro e w' ⟨rfl, rfl⟩) | (go_at_call 59; refine (way_c (rowL 4) _ _ _ _ _ _ _ _ _ _ _ _ _ 2 1 rfl rfl _ h1).mono ?_; rintro e w' ⟨rfl, hb⟩; obtain ⟨x, rfl⟩ := over hb; clear hb; have f0 := x.upB (w.heap.size); have f1 := x.upB (w.heap.size + 1); have f2 := x.upB (w.heap.size + 1 + 1)) | (go_at_call 60; refine (marks_c (rowL 4) _ _ _ _ _ _ _ _ _ _ _ _ _ 2 1 _ h2).mono ?_; rintro e w' ⟨rfl, hb⟩; obtain ⟨y, rfl⟩ := over hb; clear hb; have g0 := y.upB (w.heap.size); have g1 := y.upB (w.heap.size + 1); have g2 := y.upB (w.heap.size + 1 + 1)))
    go_ret
    refine ⟨by first | rfl | simp, ?_⟩
    all_goals exact belEnd
  rw [if_neg (show ¬ (true = false) by simp), if_neg (show ¬ (lq < 0 ∨ bl ≤ lq) by omega)] at hz'
  cases q1
  · obtain rfl : 8 = z := by simpa using hz'
    go_enter Tryd.func29, Tryd.ntmps29
    go_wp2_with (first | (go_at_call 58; refine (within_c _ _ _ _ _ h0).mono ?_; rintro e w' ⟨rfl, rfl⟩) | (go_at_call 59; refine (way_c (rowL 4) _ _ _ _ _ _ _ _ _ _ _ _ _ 2 1 rfl rfl _ h1).mono ?_; rintro e w' ⟨rfl, hb⟩; obtain ⟨x, rfl⟩ := over hb; clear hb; have f0 := x.upB (w.heap.size); have f1 := x.upB (w.heap.size + 1); have f2 := x.upB (w.heap.size + 1 + 1)) | (go_at_call 60; refine (marks_c (rowL 4) _ _ _ _ _ _ _ _ _ _ _ _ _ 2 1 _ h2).mono ?_; rintro e w' ⟨rfl, hb⟩; obtain ⟨y, rfl⟩ := over hb; clear hb; have g0 := y.upB (w.heap.size); have g1 := y.upB (w.heap.size + 1); have g2 := y.upB (w.heap.size + 1 + 1)))
    go_ret
    refine ⟨by first | rfl | simp, ?_⟩
    all_goals exact belEnd
  cases q2
  · obtain rfl : 10 = z := by simpa using hz'
    go_enter Tryd.func29, Tryd.ntmps29
    go_wp2_with (first | (go_at_call 58; refine (within_c _ _ _ _ _ h0).mono ?_; rintro e w' ⟨rfl, rfl⟩) | (go_at_call 59; refine (way_c (rowL 4) _ _ _ _ _ _ _ _ _ _ _ _ _ 2 1 rfl rfl _ h1).mono ?_; rintro e w' ⟨rfl, hb⟩; obtain ⟨x, rfl⟩ := over hb; clear hb; have f0 := x.upB (w.heap.size); have f1 := x.upB (w.heap.size + 1); have f2 := x.upB (w.heap.size + 1 + 1)) | (go_at_call 60; refine (marks_c (rowL 4) _ _ _ _ _ _ _ _ _ _ _ _ _ 2 1 _ h2).mono ?_; rintro e w' ⟨rfl, hb⟩; obtain ⟨y, rfl⟩ := over hb; clear hb; have g0 := y.upB (w.heap.size); have g1 := y.upB (w.heap.size + 1); have g2 := y.upB (w.heap.size + 1 + 1)))
    go_ret
    refine ⟨by first | rfl | simp, ?_⟩
    all_goals exact belEnd
  cases h3 : noneB ⟨xn, xo, xh, xd⟩
  · obtain rfl : 6 = z := by simpa [h3] using hz'
    have h4 := none_ne h3
    clear h3 hz'
    go_enter Tryd.func29, Tryd.ntmps29
    go_wp2_with (first | (go_at_call 58; refine (within_c _ _ _ _ _ h0).mono ?_; rintro e w' ⟨rfl, rfl⟩) | (go_at_call 59; refine (way_c (rowL 4) _ _ _ _ _ _ _ _ _ _ _ _ _ 2 1 rfl rfl _ h1).mono ?_; rintro e w' ⟨rfl, hb⟩; obtain ⟨x, rfl⟩ := over hb; clear hb; have f0 := x.upB (w.heap.size); have f1 := x.upB (w.heap.size + 1); have f2 := x.upB (w.heap.size + 1 + 1)) | (go_at_call 60; refine (marks_c (rowL 4) _ _ _ _ _ _ _ _ _ _ _ _ _ 2 1 _ h2).mono ?_; rintro e w' ⟨rfl, hb⟩; obtain ⟨y, rfl⟩ := over hb; clear hb; have g0 := y.upB (w.heap.size); have g1 := y.upB (w.heap.size + 1); have g2 := y.upB (w.heap.size + 1 + 1)))
    all_goals go_ret
    all_goals refine ⟨by first | rfl | (simp; done) | (exfalso; refine h4 ⟨by assumption, ?_, ?_, by assumption⟩ <;> (rw [Bool.eq_false_iff]; assumption)), ?_⟩
    all_goals all_goals exact belEnd
  · obtain rfl : 0 = z := by simpa [h3] using hz'
    obtain ⟨rfl, rfl, rfl, rfl⟩ := none_eq h3
    clear h3 hz'
    go_enter Tryd.func29, Tryd.ntmps29
    go_wp2_with (first | (go_at_call 58; refine (within_c _ _ _ _ _ h0).mono ?_; rintro e w' ⟨rfl, rfl⟩) | (go_at_call 59; refine (way_c (rowL 4) _ _ _ _ _ _ _ _ _ _ _ _ _ 2 1 rfl rfl _ h1).mono ?_; rintro e w' ⟨rfl, hb⟩; obtain ⟨x, rfl⟩ := over hb; clear hb; have f0 := x.upB (w.heap.size); have f1 := x.upB (w.heap.size + 1); have f2 := x.upB (w.heap.size + 1 + 1)) | (go_at_call 60; refine (marks_c (rowL 4) _ _ _ _ _ _ _ _ _ _ _ _ _ 2 1 _ h2).mono ?_; rintro e w' ⟨rfl, hb⟩; obtain ⟨y, rfl⟩ := over hb; clear hb; have g0 := y.upB (w.heap.size); have g1 := y.upB (w.heap.size + 1); have g2 := y.upB (w.heap.size + 1 + 1)))
    go_ret
    refine ⟨by first | rfl | simp, ?_⟩
    all_goals exact belEnd
set_option maxHeartbeats 2000000 in
theorem check5 (n bl tt cs cy cc cu ct cp : Int) (la lb lq ls lw : Int) (lr : Bool) (xn : Int) (xo xh : Bool) (xd : Int) (w : World) (hT : Hid (Tab w)) (z : Int) (hz : Hid (letterZ n bl tt ⟨5, la, lb, lq, ls, lw, lr, ⟨xn, xo, xh, xd⟩⟩ = z)) :
    Calls Tryd.prog 29 #[.agg #[.int .i64 n, .int .i64 bl, .int .i64 tt, .int .i64 cs, .int .i64 cy, .int .i64 cc, .int .i64 cu, .int .i64 ct, .int .i64 cp], .agg #[.int .i64 5, .int .i64 la, .int .i64 lb, .int .i64 lq, .int .i64 ls, .int .i64 lw, .bool lr, .int .i64 xn, .bool xo, .bool xh, .int .i64 xd]] w fun e w' => e = .returned (.int .i64 z) ∧ Below w.heap.size w w' := by
  have hz' := unhide hz
  have h0 := hide (show inB 5 1 7 = true from rfl)
  unfold letterZ at hz'
  dsimp only at hz'
  rw [unhide h0] at hz'
  have z0 := (unhide hT).1
  have t0 := (unhide hT).2 30 _ rfl
  have t1 := (unhide hT).2 31 _ rfl
  have t2 := (unhide hT).2 32 _ rfl
  have t3 := (unhide hT).2 33 _ rfl
  have t4 := (unhide hT).2 34 _ rfl
  have t5 := (unhide hT).2 35 _ rfl
  obtain ⟨q1, h1⟩ : ∃ q, Hid (wayB (rowL 5) la lb n = q) := ⟨_, rfl⟩
  obtain ⟨q2, h2⟩ : ∃ q, Hid (marksB (rowL 5) ls lw lr n = q) := ⟨_, rfl⟩
  rw [unhide h1, unhide h2] at hz'
  clear hz hT
  rcases (show lq < 0 ∨ (0 ≤ lq ∧ bl ≤ lq) ∨ (0 ≤ lq ∧ lq < bl) by omega) with c | c | c
  · obtain rfl : 3 = z := by simpa [c] using hz'
    go_enter Tryd.func29, Tryd.ntmps29
    go_wp2_with (first | (go_at_call 58; refine (within_c _ _ _ _ _ h0).mono ?_; rintro e w' ⟨rfl, rfl⟩) | (go_at_call 59; refine (way_c (rowL 5) _ _ _ _ _ _ _ _ _ _ _ _ _ 1 2 rfl rfl _ h1).mono ?_; rintro e w' ⟨rfl, hb⟩; obtain ⟨x, rfl⟩ := over hb; clear hb; have f0 := x.upB (w.heap.size); have f1 := x.upB (w.heap.size + 1); have f2 := x.upB (w.heap.size + 1 + 1)) | (go_at_call 60; refine (marks_c (rowL 5) _ _ _ _ _ _ _ _ _ _ _ _ _ 1 2 _ h2).mono ?_; rintro e w' ⟨rfl, hb⟩; obtain ⟨y, rfl⟩ := over hb; clear hb; have g0 := y.upB (w.heap.size); have g1 := y.upB (w.heap.size + 1); have g2 := y.upB (w.heap.size + 1 + 1)))
    go_ret
    refine ⟨by first | rfl | simp, ?_⟩
    all_goals exact belEnd
  · obtain rfl : 3 = z := by simpa [c] using hz'
    go_enter Tryd.func29, Tryd.ntmps29
    go_wp2_with (first | (go_at_call 58; refine (within_c _ _ _ _ _ h0).mono ?_; rintro e w' ⟨rfl, rfl⟩) | (go_at_call 59; refine (way_c (rowL 5) _ _ _ _ _ _ _ _ _ _ _ _ _ 1 2 rfl rfl _ h1).mono ?_; rintro e w' ⟨rfl, hb⟩; obtain ⟨x, rfl⟩ := over hb; clear hb; have f0 := x.upB (w.heap.size); have f1 := x.upB (w.heap.size + 1); have f2 := x.upB (w.heap.size + 1 + 1)) | (go_at_call 60; refine (marks_c (rowL 5) _ _ _ _ _ _ _ _ _ _ _ _ _ 1 2 _ h2).mono ?_; rintro e w' ⟨rfl, hb⟩; obtain ⟨y, rfl⟩ := over hb; clear hb; have g0 := y.upB (w.heap.size); have g1 := y.upB (w.heap.size + 1); have g2 := y.upB (w.heap.size + 1 + 1)))
    go_ret
    refine ⟨by first | rfl | simp, ?_⟩
    all_goals exact belEnd
  rw [if_neg (show ¬ (true = false) by simp), if_neg (show ¬ (lq < 0 ∨ bl ≤ lq) by omega)] at hz'
  cases q1
  · obtain rfl : 8 = z := by simpa using hz'
    go_enter Tryd.func29, Tryd.ntmps29
    go_wp2_with (first | (go_at_call 58; refine (within_c _ _ _ _ _ h0).mono ?_; rintro e w' ⟨rfl, rfl⟩) | (go_at_call 59; refine (way_c (rowL 5) _ _ _ _ _ _ _ _ _ _ _ _ _ 1 2 rfl rfl _ h1).mono ?_; rintro e w' ⟨rfl, hb⟩; obtain ⟨x, rfl⟩ := over hb; clear hb; have f0 := x.upB (w.heap.size); have f1 := x.upB (w.heap.size + 1); have f2 := x.upB (w.heap.size + 1 + 1)) | (go_at_call 60; refine (marks_c (rowL 5) _ _ _ _ _ _ _ _ _ _ _ _ _ 1 2 _ h2).mono ?_; rintro e w' ⟨rfl, hb⟩; obtain ⟨y, rfl⟩ := over hb; clear hb; have g0 := y.upB (w.heap.size); have g1 := y.upB (w.heap.size + 1); have g2 := y.upB (w.heap.size + 1 + 1)))
    go_ret
    refine ⟨by first | rfl | simp, ?_⟩
    all_goals exact belEnd
  cases q2
  · obtain rfl : 10 = z := by simpa using hz'
    go_enter Tryd.func29, Tryd.ntmps29
    go_wp2_with (first | (go_at_call 58; refine (within_c _ _ _ _ _ h0).mono ?_; rintro e w' ⟨rfl, rfl⟩) | (go_at_call 59; refine (way_c (rowL 5) _ _ _ _ _ _ _ _ _ _ _ _ _ 1 2 rfl rfl _ h1).mono ?_; rintro e w' ⟨rfl, hb⟩; obtain ⟨x, rfl⟩ := over hb; clear hb; have f0 := x.upB (w.heap.size); have f1 := x.upB (w.heap.size + 1); have f2 := x.upB (w.heap.size + 1 + 1)) | (go_at_call 60; refine (marks_c (rowL 5) _ _ _ _ _ _ _ _ _ _ _ _ _ 1 2 _ h2).mono ?_; rintro e w' ⟨rfl, hb⟩; obtain ⟨y, rfl⟩ := over hb; clear hb; have g0 := y.upB (w.heap.size); have g1 := y.upB (w.heap.size + 1); have g2 := y.upB (w.heap.size + 1 + 1)))
    go_ret
    refine ⟨by first | rfl | simp, ?_⟩
    all_goals exact belEnd
  cases h3 : noneB ⟨xn, xo, xh, xd⟩
  · obtain rfl : 6 = z := by simpa [h3] using hz'
    have h4 := none_ne h3
    clear h3 hz'
    go_enter Tryd.func29, Tryd.ntmps29
    go_wp2_with (first | (go_at_call 58; refine (within_c _ _ _ _ _ h0).mono ?_; rintro e w' ⟨rfl, rfl⟩) | (go_at_call 59; refine (way_c (rowL 5) _ _ _ _ _ _ _ _ _ _ _ _ _ 1 2 rfl rfl _ h1).mono ?_; rintro e w' ⟨rfl, hb⟩; obtain ⟨x, rfl⟩ := over hb; clear hb; have f0 := x.upB (w.heap.size); have f1 := x.upB (w.heap.size + 1); have f2 := x.upB (w.heap.size + 1 + 1)) | (go_at_call 60; refine (marks_c (rowL 5) _ _ _ _ _ _ _ _ _ _ _ _ _ 1 2 _ h2).mono ?_; rintro e w' ⟨rfl, hb⟩; obtain ⟨y, rfl⟩ := over hb; clear hb; have g0 := y.upB (w.heap.size); have g1 := y.upB (w.heap.size + 1); have g2 := y.upB (w.heap.size + 1 + 1)))
    all_goals go_ret
    all_goals refine ⟨by first | rfl | (simp; done) | (exfalso; refine h4 ⟨by assumption, ?_, ?_, by assumption⟩ <;> (rw [Bool.eq_false_iff]; assumption)), ?_⟩
    all_goals all_goals exact belEnd
  · obtain rfl : 0 = z := by simpa [h3] using hz'
    obtain ⟨rfl, rfl, rfl, rfl⟩ := none_eq h3
    clear h3 hz'
    go_enter Tryd.func29, Tryd.ntmps29
    go_wp2_with (first | (go_at_call 58; refine (within_c _ _ _ _ _ h0).mono ?_; rintro e w' ⟨rfl, rfl⟩) | (go_at_call 59; refine (way_c (rowL 5) _ _ _ _ _ _ _ _ _ _ _ _ _ 1 2 rfl rfl _ h1).mono ?_; rintro e w' ⟨rfl, hb⟩; obtain ⟨x, rfl⟩ := over hb; clear hb; have f0 := x.upB (w.heap.size); have f1 := x.upB (w.heap.size + 1); have f2 := x.upB (w.heap.size + 1 + 1)) | (go_at_call 60; refine (marks_c (rowL 5) _ _ _ _ _ _ _ _ _ _ _ _ _ 1 2 _ h2).mono ?_; rintro e w' ⟨rfl, hb⟩; obtain ⟨y, rfl⟩ := over hb; clear hb; have g0 := y.upB (w.heap.size); have g1 := y.upB (w.heap.size + 1); have g2 := y.upB (w.heap.size + 1 + 1)))
    go_ret
    refine ⟨by first | rfl | simp, ?_⟩
    all_goals exact belEnd
end Go.Proofs.YtmgjgeaigdiadaaDoor
