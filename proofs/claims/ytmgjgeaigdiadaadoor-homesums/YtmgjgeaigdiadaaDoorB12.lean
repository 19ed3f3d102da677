/- layer 16: BunSplit, put together. -/
import Derived.Test.YtmgjgeaigdiadaaDoorB05
import Derived.Deep.RegionHeld3
namespace Go.Proofs.YtmgjgeaigdiadaaDoor
open Go.ChangeShapes Go.WideShapes Go.ChangeAt Go.RowKit
set_option linter.unusedSimpArgs false
set_option linter.unusedVariables false
attribute [local go_sem, local simp] setCell_drewN alloc_drewN
set_option maxHeartbeats 2000000 in
theorem split_none (n : Int) (o h : Bool) (d c : Int) (a v : Bool) (w : World) (hn : -9223372036854775808 < n) (hn2 : n ≤ 9223372036854775807) (hg : howManyZ ⟨n, o, h, d⟩ c a = 0) :
    Calls Tryd.prog 93 #[.agg #[.int .i64 n, .bool o, .bool h, .int .i64 d], .int .i64 c, .bool a, .bool v] w fun e w' =>
      ∃ r s : Bun, Hid (givenB ⟨n, o, h, d⟩ c a v = r) ∧ Hid (restB ⟨n, o, h, d⟩ c a = s) ∧
        e = .returned (.tuple #[.agg #[.int .i64 r.n, .bool r.o, .bool r.h, .int .i64 r.d], .agg #[.int .i64 s.n, .bool s.o, .bool s.h, .int .i64 s.d]]) ∧ Below w.heap.size w w' := by
  cases o <;> cases a
  all_goals
    have hg' := hg
    simp only [howManyZ, true_and, false_and, if_true, if_false, reduceCtorEq] at hg'
    have H := hide hg
    clear hg
    go_enter Tryd.func93, Tryd.ntmps93
    go_wp2_with (first | (go_at_call 100; refine (numClamp_any _ _ _ _).mono ?_; rintro e w' ⟨rfl, rfl⟩) | go_in)
    go_region
    all_goals go_wp2
    all_goals go_returns
    all_goals refine ⟨_, _, by simp only [givenB, unhide H]; rfl, by simp only [restB, unhide H]; rfl, rfl, by go_grown⟩
set_option maxHeartbeats 4000000 in
theorem split_some (n : Int) (o h : Bool) (d c : Int) (a v : Bool) (w : World) (hn : -9223372036854775808 < n) (hn2 : n ≤ 9223372036854775807) (g : Int) (z : g ≠ 0) (hg : howManyZ ⟨n, o, h, d⟩ c a = g) (h1 : 0 ≤ g) (h2 : g ≤ n) :
    Calls Tryd.prog 93 #[.agg #[.int .i64 n, .bool o, .bool h, .int .i64 d], .int .i64 c, .bool a, .bool v] w fun e w' =>
      ∃ r s : Bun, Hid (givenB ⟨n, o, h, d⟩ c a v = r) ∧ Hid (restB ⟨n, o, h, d⟩ c a = s) ∧
        e = .returned (.tuple #[.agg #[.int .i64 r.n, .bool r.o, .bool r.h, .int .i64 r.d], .agg #[.int .i64 s.n, .bool s.o, .bool s.h, .int .i64 s.d]]) ∧ Below w.heap.size w w' := by
  cases o <;> cases a
  · cases v
    all_goals
      have hg' := hg
      simp only [howManyZ, true_and, false_and, if_true, if_false, reduceCtorEq] at hg'
      have H := hide hg
      have Z := hide z
      clear hg
      go_enter Tryd.func93, Tryd.ntmps93
      go_wp2_with (first | (go_at_call 100; refine (numClamp_any _ _ _ _).mono ?_; rintro e w' ⟨rfl, rfl⟩) | (go_at_call 98; refine (withValue_any _ _ _ _ _ _ _ _ _ _).mono ?_; rintro e w' ⟨r, o1, o2, o3, k, hr, rfl, rfl⟩) | go_in)
      · go_returns
        exact ⟨r, ⟨0, false, false, 0⟩, by unfold givenB; rw [unhide H, if_neg (unhide Z)]; exact unhide hr, by simp_all [restB, unhide H], rfl, belowN (by go_grown) _⟩
      · go_region_held3 (fun w' => w'.cell? ⟨w.heap.size, 0, none⟩ = some (.int .i64 n) ∧ w'.cell? ⟨w.heap.size, 1, none⟩ = some (.bool false) ∧ w'.cell? ⟨w.heap.size, 2, none⟩ = some (.bool h) ∧ w'.cell? ⟨w.heap.size, 3, none⟩ = some (.int .i64 d) ∧
          w'.cell? ⟨w.heap.size + 1, 0, none⟩ = some (.int .i64 r.n) ∧ w'.cell? ⟨w.heap.size + 1, 1, none⟩ = some (.bool r.o) ∧ w'.cell? ⟨w.heap.size + 1, 2, none⟩ = some (.bool r.h) ∧ w'.cell? ⟨w.heap.size + 1, 3, none⟩ = some (.int .i64 r.d) ∧
          w'.cell? ⟨w.heap.size + 1 + 1 + 1 + 1 + 1 + 1 + 1, 0, none⟩ = some (.int .i64 (n - g)) ∧ w'.cell? ⟨w.heap.size + 1 + 1 + 1 + 1 + 1 + 1 + 1, 1, none⟩ = some (.bool false) ∧ w'.cell? ⟨w.heap.size + 1 + 1 + 1 + 1 + 1 + 1 + 1, 2, none⟩ = some (.bool false) ∧ w'.cell? ⟨w.heap.size + 1 + 1 + 1 + 1 + 1 + 1 + 1, 3, none⟩ = some (.int .i64 0)) (simp [go_sem, *]) (first | (go_at_call 98; refine (withValue_any _ _ _ _ _ _ _ _ _ _).mono ?_; rintro e w' ⟨r2, o4, o5, o6, k2, hr2, rfl, rfl⟩))
        go_wp2
        go_returns
        exact ⟨r, r2, by unfold givenB; rw [unhide H, if_neg (unhide Z)]; exact unhide hr, by unfold restB; rw [unhide H, if_neg (unhide Z), if_neg (by simp_all)]; exact unhide hr2, rfl, belowN (by go_grown) _⟩
  · cases v
    all_goals
      have hg' := hg
      simp only [howManyZ, true_and, false_and, if_true, if_false, reduceCtorEq] at hg'
      have H := hide hg
      have Z := hide z
      clear hg
      go_enter Tryd.func93, Tryd.ntmps93
      go_wp2_with (first | (go_at_call 100; refine (numClamp_any _ _ _ _).mono ?_; rintro e w' ⟨rfl, rfl⟩) | (go_at_call 98; refine (withValue_any _ _ _ _ _ _ _ _ _ _).mono ?_; rintro e w' ⟨r, o1, o2, o3, k, hr, rfl, rfl⟩) | go_in)
      · go_returns
        exact ⟨r, ⟨0, false, false, 0⟩, by unfold givenB; rw [unhide H, if_neg (unhide Z)]; exact unhide hr, by simp_all [restB, unhide H], rfl, belowN (by go_grown) _⟩
      · go_region_held3 (fun w' => w'.cell? ⟨w.heap.size, 0, none⟩ = some (.int .i64 n) ∧ w'.cell? ⟨w.heap.size, 1, none⟩ = some (.bool false) ∧ w'.cell? ⟨w.heap.size, 2, none⟩ = some (.bool h) ∧ w'.cell? ⟨w.heap.size, 3, none⟩ = some (.int .i64 d) ∧
          w'.cell? ⟨w.heap.size + 1, 0, none⟩ = some (.int .i64 r.n) ∧ w'.cell? ⟨w.heap.size + 1, 1, none⟩ = some (.bool r.o) ∧ w'.cell? ⟨w.heap.size + 1, 2, none⟩ = some (.bool r.h) ∧ w'.cell? ⟨w.heap.size + 1, 3, none⟩ = some (.int .i64 r.d) ∧
          w'.cell? ⟨w.heap.size + 1 + 1 + 1 + 1 + 1 + 1 + 1, 0, none⟩ = some (.int .i64 (n - g)) ∧ w'.cell? ⟨w.heap.size + 1 + 1 + 1 + 1 + 1 + 1 + 1, 1, none⟩ = some (.bool false) ∧ w'.cell? ⟨w.heap.size + 1 + 1 + 1 + 1 + 1 + 1 + 1, 2, none⟩ = some (.bool false) ∧ w'.cell? ⟨w.heap.size + 1 + 1 + 1 + 1 + 1 + 1 + 1, 3, none⟩ = some (.int .i64 0)) (simp [go_sem, *]) (first | (go_at_call 98; refine (withValue_any _ _ _ _ _ _ _ _ _ _).mono ?_; rintro e w' ⟨r2, o4, o5, o6, k2, hr2, rfl, rfl⟩))
        go_wp2
        go_returns
        exact ⟨r, r2, by unfold givenB; rw [unhide H, if_neg (unhide Z)]; exact unhide hr, by unfold restB; rw [unhide H, if_neg (unhide Z), if_neg (by simp_all)]; exact unhide hr2, rfl, belowN (by go_grown) _⟩
  · cases v
    all_goals
      have hg' := hg
      simp only [howManyZ, true_and, false_and, if_true, if_false, reduceCtorEq] at hg'
      have H := hide hg
      have Z := hide z
      clear hg
      go_enter Tryd.func93, Tryd.ntmps93
      go_wp2_with (first | (go_at_call 100; refine (numClamp_any _ _ _ _).mono ?_; rintro e w' ⟨rfl, rfl⟩) | (go_at_call 98; refine (withValue_any _ _ _ _ _ _ _ _ _ _).mono ?_; rintro e w' ⟨r, o1, o2, o3, k, hr, rfl, rfl⟩) | go_in)
      · go_returns
        exact ⟨r, ⟨0, false, false, 0⟩, by unfold givenB; rw [unhide H, if_neg (unhide Z)]; exact unhide hr, by simp_all [restB, unhide H], rfl, belowN (by go_grown) _⟩
      · go_region_held3 (fun w' => w'.cell? ⟨w.heap.size, 0, none⟩ = some (.int .i64 n) ∧ w'.cell? ⟨w.heap.size, 1, none⟩ = some (.bool true) ∧ w'.cell? ⟨w.heap.size, 2, none⟩ = some (.bool h) ∧ w'.cell? ⟨w.heap.size, 3, none⟩ = some (.int .i64 d) ∧
          w'.cell? ⟨w.heap.size + 1, 0, none⟩ = some (.int .i64 r.n) ∧ w'.cell? ⟨w.heap.size + 1, 1, none⟩ = some (.bool r.o) ∧ w'.cell? ⟨w.heap.size + 1, 2, none⟩ = some (.bool r.h) ∧ w'.cell? ⟨w.heap.size + 1, 3, none⟩ = some (.int .i64 r.d) ∧
          w'.cell? ⟨w.heap.size + 1 + 1 + 1 + 1 + 1 + 1 + 1, 0, none⟩ = some (.int .i64 (n - g)) ∧ w'.cell? ⟨w.heap.size + 1 + 1 + 1 + 1 + 1 + 1 + 1, 1, none⟩ = some (.bool true) ∧ w'.cell? ⟨w.heap.size + 1 + 1 + 1 + 1 + 1 + 1 + 1, 2, none⟩ = some (.bool false) ∧ w'.cell? ⟨w.heap.size + 1 + 1 + 1 + 1 + 1 + 1 + 1, 3, none⟩ = some (.int .i64 0)) (simp [go_sem, *]) (first | (go_at_call 98; refine (withValue_any _ _ _ _ _ _ _ _ _ _).mono ?_; rintro e w' ⟨r2, o4, o5, o6, k2, hr2, rfl, rfl⟩))
        go_wp2
        go_returns
        exact ⟨r, r2, by unfold givenB; rw [unhide H, if_neg (unhide Z)]; exact unhide hr, by unfold restB; rw [unhide H, if_neg (unhide Z), if_neg (by simp_all)]; exact unhide hr2, rfl, belowN (by go_grown) _⟩
  · cases v
    all_goals
      have hg' := hg
      simp only [howManyZ, true_and, false_and, if_true, if_false, reduceCtorEq] at hg'
      have H := hide hg
      have Z := hide z
      clear hg
      go_enter Tryd.func93, Tryd.ntmps93
      go_wp2_with (first | (go_at_call 100; refine (numClamp_any _ _ _ _).mono ?_; rintro e w' ⟨rfl, rfl⟩) | (go_at_call 98; refine (withValue_any _ _ _ _ _ _ _ _ _ _).mono ?_; rintro e w' ⟨r, o1, o2, o3, k, hr, rfl, rfl⟩) | go_in)
      · go_returns
        exact ⟨r, ⟨0, false, false, 0⟩, by unfold givenB; rw [unhide H, if_neg (unhide Z)]; exact unhide hr, by simp_all [restB, unhide H], rfl, belowN (by go_grown) _⟩
      · go_region_held3 (fun w' => w'.cell? ⟨w.heap.size, 0, none⟩ = some (.int .i64 n) ∧ w'.cell? ⟨w.heap.size, 1, none⟩ = some (.bool true) ∧ w'.cell? ⟨w.heap.size, 2, none⟩ = some (.bool h) ∧ w'.cell? ⟨w.heap.size, 3, none⟩ = some (.int .i64 d) ∧
          w'.cell? ⟨w.heap.size + 1, 0, none⟩ = some (.int .i64 r.n) ∧ w'.cell? ⟨w.heap.size + 1, 1, none⟩ = some (.bool r.o) ∧ w'.cell? ⟨w.heap.size + 1, 2, none⟩ = some (.bool r.h) ∧ w'.cell? ⟨w.heap.size + 1, 3, none⟩ = some (.int .i64 r.d) ∧
          w'.cell? ⟨w.heap.size + 1 + 1 + 1 + 1 + 1 + 1 + 1, 0, none⟩ = some (.int .i64 (n - g)) ∧ w'.cell? ⟨w.heap.size + 1 + 1 + 1 + 1 + 1 + 1 + 1, 1, none⟩ = some (.bool false) ∧ w'.cell? ⟨w.heap.size + 1 + 1 + 1 + 1 + 1 + 1 + 1, 2, none⟩ = some (.bool false) ∧ w'.cell? ⟨w.heap.size + 1 + 1 + 1 + 1 + 1 + 1 + 1, 3, none⟩ = some (.int .i64 0)) (simp [go_sem, *]) (first | (go_at_call 98; refine (withValue_any _ _ _ _ _ _ _ _ _ _).mono ?_; rintro e w' ⟨r2, o4, o5, o6, k2, hr2, rfl, rfl⟩))
        go_wp2
        go_returns
        exact ⟨r, r2, by unfold givenB; rw [unhide H, if_neg (unhide Z)]; exact unhide hr, by unfold restB; rw [unhide H, if_neg (unhide Z), if_neg (by simp_all)]; exact unhide hr2, rfl, belowN (by go_grown) _⟩
end Go.Proofs.YtmgjgeaigdiadaaDoor
