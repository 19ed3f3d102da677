/- The contract of bundle.Join (layer 2): what it returns; no old memory turns. -/
import Derived.Test.YtafccninjjhibaaBundle
import Derived.Deep.RegionHeld3
namespace Go.Proofs.Ytafccninjjhibaa
open Go.ChangeShapes Go.WideShapes Go.ChangeAt Go.RowKit
set_option linter.unusedSimpArgs false
set_option linter.unusedVariables false

attribute [local go_sem, local simp] setCell_drewN alloc_drewN

set_option maxHeartbeats 1000000 in
theorem join_any (n : Int) (o h : Bool) (d : Int) (n' : Int) (o' h' : Bool) (d' : Int) (w : World) (h1 : -9223372036854775808 ≤ n + n') (h2 : n + n' ≤ 9223372036854775807) :
    Calls Try.prog 27 #[.agg #[.int .i64 n, .bool o, .bool h, .int .i64 d], .agg #[.int .i64 n', .bool o', .bool h', .int .i64 d']] w fun e w' =>
      ∃ r : Bun, Hid (joinB ⟨n, o, h, d⟩ ⟨n', o', h', d'⟩ = r) ∧ e = .returned (.agg #[.int .i64 r.n, .bool r.o, .bool r.h, .int .i64 r.d]) ∧ Below w.heap.size w w' := by
  cases o <;> cases o'
  · go_enter Try.func27, Try.ntmps27
    go_wp2
    go_region_held3 (fun w' => w'.cell? ⟨w.heap.size, 0, none⟩ = some (.int .i64 n) ∧ w'.cell? ⟨w.heap.size, 1, none⟩ = some (.bool false) ∧ w'.cell? ⟨w.heap.size, 2, none⟩ = some (.bool h) ∧ w'.cell? ⟨w.heap.size, 3, none⟩ = some (.int .i64 d) ∧
        w'.cell? ⟨w.heap.size + 1, 0, none⟩ = some (.int .i64 n') ∧ w'.cell? ⟨w.heap.size + 1, 1, none⟩ = some (.bool false) ∧ w'.cell? ⟨w.heap.size + 1, 2, none⟩ = some (.bool h') ∧ w'.cell? ⟨w.heap.size + 1, 3, none⟩ = some (.int .i64 d') ∧
        w'.cell? ⟨w.heap.size + 1 + 1 + 1, 0, none⟩ = some ((.int .i64 (n + n'))) ∧ w'.cell? ⟨w.heap.size + 1 + 1 + 1, 1, none⟩ = some (.bool false) ∧ w'.cell? ⟨w.heap.size + 1 + 1 + 1, 2, none⟩ = some (.bool false) ∧ w'.cell? ⟨w.heap.size + 1 + 1 + 1, 3, none⟩ = some (.int .i64 0)) (simp [go_sem, *])
      (first | (go_at_call 31; refine (withValue_any _ _ _ _ _ _ _ _ _ _).mono ?_; rintro e w' ⟨r, o1, o2, o3, k, hr, rfl, rfl⟩))
    go_wp2
    go_returns
    exact ⟨r, by unfold joinB; have e1 := unhide ‹Hid (withV ⟨n + n', false, false, 0⟩ ⟨n, false, h, d⟩ true = _)›; simp only [Bool.false_or, Bool.true_or, Bool.or_false, Bool.or_true]; rw [e1]; exact unhide hr, rfl, belowN (by go_grown) _⟩
  · go_enter Try.func27, Try.ntmps27
    go_wp2
    go_region_held3 (fun w' => w'.cell? ⟨w.heap.size, 0, none⟩ = some (.int .i64 n) ∧ w'.cell? ⟨w.heap.size, 1, none⟩ = some (.bool false) ∧ w'.cell? ⟨w.heap.size, 2, none⟩ = some (.bool h) ∧ w'.cell? ⟨w.heap.size, 3, none⟩ = some (.int .i64 d) ∧
        w'.cell? ⟨w.heap.size + 1, 0, none⟩ = some (.int .i64 n') ∧ w'.cell? ⟨w.heap.size + 1, 1, none⟩ = some (.bool true) ∧ w'.cell? ⟨w.heap.size + 1, 2, none⟩ = some (.bool h') ∧ w'.cell? ⟨w.heap.size + 1, 3, none⟩ = some (.int .i64 d') ∧
        w'.cell? ⟨w.heap.size + 1 + 1 + 1, 0, none⟩ = some ((.int .i64 (n + n'))) ∧ w'.cell? ⟨w.heap.size + 1 + 1 + 1, 1, none⟩ = some (.bool true) ∧ w'.cell? ⟨w.heap.size + 1 + 1 + 1, 2, none⟩ = some (.bool false) ∧ w'.cell? ⟨w.heap.size + 1 + 1 + 1, 3, none⟩ = some (.int .i64 0)) (simp [go_sem, *])
      (first | (go_at_call 31; refine (withValue_any _ _ _ _ _ _ _ _ _ _).mono ?_; rintro e w' ⟨r, o1, o2, o3, k, hr, rfl, rfl⟩))
    go_wp2
    go_returns
    exact ⟨r, by unfold joinB; have e1 := unhide ‹Hid (withV ⟨n + n', true, false, 0⟩ ⟨n, false, h, d⟩ true = _)›; simp only [Bool.false_or, Bool.true_or, Bool.or_false, Bool.or_true]; rw [e1]; exact unhide hr, rfl, belowN (by go_grown) _⟩
  · go_enter Try.func27, Try.ntmps27
    go_wp2
    go_region_held3 (fun w' => w'.cell? ⟨w.heap.size, 0, none⟩ = some (.int .i64 n) ∧ w'.cell? ⟨w.heap.size, 1, none⟩ = some (.bool true) ∧ w'.cell? ⟨w.heap.size, 2, none⟩ = some (.bool h) ∧ w'.cell? ⟨w.heap.size, 3, none⟩ = some (.int .i64 d) ∧
        w'.cell? ⟨w.heap.size + 1, 0, none⟩ = some (.int .i64 n') ∧ w'.cell? ⟨w.heap.size + 1, 1, none⟩ = some (.bool false) ∧ w'.cell? ⟨w.heap.size + 1, 2, none⟩ = some (.bool h') ∧ w'.cell? ⟨w.heap.size + 1, 3, none⟩ = some (.int .i64 d') ∧
        w'.cell? ⟨w.heap.size + 1 + 1 + 1, 0, none⟩ = some ((.int .i64 (n + n'))) ∧ w'.cell? ⟨w.heap.size + 1 + 1 + 1, 1, none⟩ = some (.bool true) ∧ w'.cell? ⟨w.heap.size + 1 + 1 + 1, 2, none⟩ = some (.bool false) ∧ w'.cell? ⟨w.heap.size + 1 + 1 + 1, 3, none⟩ = some (.int .i64 0)) (simp [go_sem, *])
      (first | (go_at_call 31; refine (withValue_any _ _ _ _ _ _ _ _ _ _).mono ?_; rintro e w' ⟨r, o1, o2, o3, k, hr, rfl, rfl⟩))
    go_wp2
    go_returns
    exact ⟨r, by unfold joinB; have e1 := unhide ‹Hid (withV ⟨n + n', true, false, 0⟩ ⟨n, true, h, d⟩ true = _)›; simp only [Bool.false_or, Bool.true_or, Bool.or_false, Bool.or_true]; rw [e1]; exact unhide hr, rfl, belowN (by go_grown) _⟩
  · go_enter Try.func27, Try.ntmps27
    go_wp2
    go_region_held3 (fun w' => w'.cell? ⟨w.heap.size, 0, none⟩ = some (.int .i64 n) ∧ w'.cell? ⟨w.heap.size, 1, none⟩ = some (.bool true) ∧ w'.cell? ⟨w.heap.size, 2, none⟩ = some (.bool h) ∧ w'.cell? ⟨w.heap.size, 3, none⟩ = some (.int .i64 d) ∧
        w'.cell? ⟨w.heap.size + 1, 0, none⟩ = some (.int .i64 n') ∧ w'.cell? ⟨w.heap.size + 1, 1, none⟩ = some (.bool true) ∧ w'.cell? ⟨w.heap.size + 1, 2, none⟩ = some (.bool h') ∧ w'.cell? ⟨w.heap.size + 1, 3, none⟩ = some (.int .i64 d') ∧
        w'.cell? ⟨w.heap.size + 1 + 1 + 1, 0, none⟩ = some ((.int .i64 (n + n'))) ∧ w'.cell? ⟨w.heap.size + 1 + 1 + 1, 1, none⟩ = some (.bool true) ∧ w'.cell? ⟨w.heap.size + 1 + 1 + 1, 2, none⟩ = some (.bool false) ∧ w'.cell? ⟨w.heap.size + 1 + 1 + 1, 3, none⟩ = some (.int .i64 0)) (simp [go_sem, *])
      (first | (go_at_call 31; refine (withValue_any _ _ _ _ _ _ _ _ _ _).mono ?_; rintro e w' ⟨r, o1, o2, o3, k, hr, rfl, rfl⟩))
    go_wp2
    go_returns
    exact ⟨r, by unfold joinB; have e1 := unhide ‹Hid (withV ⟨n + n', true, false, 0⟩ ⟨n, true, h, d⟩ true = _)›; simp only [Bool.false_or, Bool.true_or, Bool.or_false, Bool.or_true]; rw [e1]; exact unhide hr, rfl, belowN (by go_grown) _⟩

end Go.Proofs.Ytafccninjjhibaa
