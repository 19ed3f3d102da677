/- layer 16: Ref02b, put together. -/
import Derived.Test.YtmgjgeaigdiadaaDoorB13
import Derived.Deep.RegionHeld3
namespace Go.Proofs.YtmgjgeaigdiadaaDoor
open Go.ChangeShapes Go.WideShapes Go.ChangeAt Go.RowKit
set_option linter.unusedSimpArgs false
set_option linter.unusedVariables false
attribute [local go_sem, local simp] setCell_drewN alloc_drewN
set_option maxHeartbeats 2000000 in
theorem refSplit_any (n : Int) (o h : Bool) (d c : Int) (a v : Bool) (w : World) (h1 : n ≤ 9223372036854775807) (ok : okB ⟨n, o, h, d⟩)
    (r s : Bun) (hr : Hid (givenB ⟨n, o, h, d⟩ c a v = r)) (hs : Hid (restB ⟨n, o, h, d⟩ c a = s)) :
    Calls Tryd.prog 65 #[.agg #[.int .i64 n, .bool o, .bool h, .int .i64 d], .int .i64 c, .bool a, .bool v] w fun e w' =>
        e = .returned (.tuple #[.agg #[.int .i64 r.n, .bool r.o, .bool r.h, .int .i64 r.d], .agg #[.int .i64 s.n, .bool s.o, .bool s.h, .int .i64 s.d]]) ∧ Below w.heap.size w w' := by
  have h0 : 0 ≤ n := ok.1
  have hz : n = 0 → o = false := fun e => (ok.2.1 e).1
  have hd : Hid (h = false → d = 0) := ok.2.2.2
  obtain ⟨b0, b1⟩ := howMany_bd n o h d c a h0 hz
  obtain ⟨g, hg⟩ : ∃ g, Hid (howManyZ ⟨n, o, h, d⟩ c a = g) := ⟨_, rfl⟩
  rw [unhide hg] at b0 b1
  have HZ := hide hz
  clear ok hz
  by_cases z : g = 0
  · subst z
    rw [show r = ⟨0, false, false, 0⟩ by rw [← unhide hr]; unfold givenB; rw [unhide hg, if_pos rfl], show s = ⟨n, o, h, d⟩ by rw [← unhide hs]; unfold restB; rw [unhide hg, if_pos rfl]]
    by_cases y : n = 0
    · subst y
      go_enter Tryd.func65, Tryd.ntmps65
      go_wp2_with (go_at_call 87; refine (refGiven_any _ _ _ _ _ _ _ h0 h1 (unhide HZ) _ hg false (by simp [Hid])).mono ?_; rintro e w' ⟨rfl, rfl⟩)
      go_region
      all_goals go_wp2
      all_goals go_returns
      all_goals exact ⟨rfl, by go_grown⟩
    · go_enter Tryd.func65, Tryd.ntmps65
      go_wp2_with (go_at_call 87; refine (refGiven_any _ _ _ _ _ _ _ h0 h1 (unhide HZ) _ hg false (by simp [Hid])).mono ?_; rintro e w' ⟨rfl, rfl⟩)
      go_region
      all_goals go_wp2
      all_goals go_returns
      all_goals exact ⟨rfl, by go_grown⟩
  · have hr' := unhide hr
    have hs' := unhide hs
    unfold givenB at hr'
    unfold restB at hs'
    rw [unhide hg, if_neg z] at hr' hs'
    have z1 : n ≠ 0 := by omega
    have z2 : ¬ g ≤ 0 := by omega
    have HR := hide hr'
    have HS := hide hs'
    have z3 : (n == 0) = false := by simp [z1]
    have z4 : decide (g ≤ 0) = false := by simp; omega
    have hown : Hid ((o && a && decide (g ≠ 0)) = (o && a)) := by simp [Hid, z]
    clear hr' hs' hr hs z2
    cases o
    · have hown : Hid ((false && a && decide (g ≠ 0)) = false) := by simp [Hid]
      cases h
      · go_enter Tryd.func65, Tryd.ntmps65
        go_wp2_with (go_at_call 87; refine (refGiven_any _ _ _ _ _ _ _ h0 h1 (unhide HZ) _ hg false hown).mono ?_; rintro e w' ⟨rfl, rfl⟩)
        · go_returns
          refine ⟨?_, by go_grown⟩
          rw [← unhide HR, ← unhide HS]
          simp_all [withV]
        · go_region
          go_wp2
          go_returns
          refine ⟨?_, by go_grown⟩
          rw [← unhide HR, ← unhide HS]
          have e3 := unhide hd
          simp_all [withV]
      · cases v
        · go_enter Tryd.func65, Tryd.ntmps65
          go_wp2_with (go_at_call 87; refine (refGiven_any _ _ _ _ _ _ _ h0 h1 (unhide HZ) _ hg false hown).mono ?_; rintro e w' ⟨rfl, rfl⟩)
          · go_returns
            refine ⟨?_, by go_grown⟩
            rw [← unhide HR, ← unhide HS]
            simp_all [withV]
          · go_region
            go_wp2
            go_returns
            refine ⟨?_, by go_grown⟩
            rw [← unhide HR, ← unhide HS]
            have e3 := unhide hd
            simp_all [withV]
        · go_enter Tryd.func65, Tryd.ntmps65
          go_wp2_with (go_at_call 87; refine (refGiven_any _ _ _ _ _ _ _ h0 h1 (unhide HZ) _ hg false hown).mono ?_; rintro e w' ⟨rfl, rfl⟩)
          · go_returns
            refine ⟨?_, by go_grown⟩
            rw [← unhide HR, ← unhide HS]
            simp_all [withV]
          · go_region
            go_wp2
            go_returns
            refine ⟨?_, by go_grown⟩
            rw [← unhide HR, ← unhide HS]
            have e3 := unhide hd
            simp_all [withV]
    · cases a
      · cases h
        · go_enter Tryd.func65, Tryd.ntmps65
          go_wp2_with (go_at_call 87; refine (refGiven_any _ _ _ _ _ _ _ h0 h1 (unhide HZ) _ hg false hown).mono ?_; rintro e w' ⟨rfl, rfl⟩)
          · go_returns
            refine ⟨?_, by go_grown⟩
            rw [← unhide HR, ← unhide HS]
            simp_all [withV]
          · go_region_held3 (fun w' => w'.cell? ⟨w.heap.size, 0, none⟩ = some (.int .i64 n) ∧ w'.cell? ⟨w.heap.size, 1, none⟩ = some (.bool true) ∧ w'.cell? ⟨w.heap.size, 2, none⟩ = some (.bool false) ∧ w'.cell? ⟨w.heap.size, 3, none⟩ = some (.int .i64 d) ∧
                  w'.cell? ⟨w.heap.size + 1 + 1 + 1 + 1, 0, none⟩ = some (.int .i64 g) ∧ w'.cell? ⟨w.heap.size + 1 + 1 + 1 + 1, 1, none⟩ = some (.bool false) ∧ w'.cell? ⟨w.heap.size + 1 + 1 + 1 + 1, 2, none⟩ = some (.bool false) ∧ w'.cell? ⟨w.heap.size + 1 + 1 + 1 + 1, 3, none⟩ = some (.int .i64 0)) (simp [go_sem, *]) (fail)
            go_wp2
            go_returns
            refine ⟨?_, by go_grown⟩
            rw [← unhide HR, ← unhide HS]
            have e3 := unhide hd
            simp_all [withV] <;> go_arith
        · cases v
          · go_enter Tryd.func65, Tryd.ntmps65
            go_wp2_with (go_at_call 87; refine (refGiven_any _ _ _ _ _ _ _ h0 h1 (unhide HZ) _ hg false hown).mono ?_; rintro e w' ⟨rfl, rfl⟩)
            · go_returns
              refine ⟨?_, by go_grown⟩
              rw [← unhide HR, ← unhide HS]
              simp_all [withV]
            · go_region_held3 (fun w' => w'.cell? ⟨w.heap.size, 0, none⟩ = some (.int .i64 n) ∧ w'.cell? ⟨w.heap.size, 1, none⟩ = some (.bool true) ∧ w'.cell? ⟨w.heap.size, 2, none⟩ = some (.bool true) ∧ w'.cell? ⟨w.heap.size, 3, none⟩ = some (.int .i64 d) ∧
                    w'.cell? ⟨w.heap.size + 1 + 1 + 1 + 1, 0, none⟩ = some (.int .i64 g) ∧ w'.cell? ⟨w.heap.size + 1 + 1 + 1 + 1, 1, none⟩ = some (.bool false) ∧ w'.cell? ⟨w.heap.size + 1 + 1 + 1 + 1, 2, none⟩ = some (.bool false) ∧ w'.cell? ⟨w.heap.size + 1 + 1 + 1 + 1, 3, none⟩ = some (.int .i64 0)) (simp [go_sem, *]) (fail)
              go_wp2
              go_returns
              refine ⟨?_, by go_grown⟩
              rw [← unhide HR, ← unhide HS]
              have e3 := unhide hd
              simp_all [withV] <;> go_arith
          · go_enter Tryd.func65, Tryd.ntmps65
            go_wp2_with (go_at_call 87; refine (refGiven_any _ _ _ _ _ _ _ h0 h1 (unhide HZ) _ hg false hown).mono ?_; rintro e w' ⟨rfl, rfl⟩)
            · go_returns
              refine ⟨?_, by go_grown⟩
              rw [← unhide HR, ← unhide HS]
              simp_all [withV]
            · go_region_held3 (fun w' => w'.cell? ⟨w.heap.size, 0, none⟩ = some (.int .i64 n) ∧ w'.cell? ⟨w.heap.size, 1, none⟩ = some (.bool true) ∧ w'.cell? ⟨w.heap.size, 2, none⟩ = some (.bool true) ∧ w'.cell? ⟨w.heap.size, 3, none⟩ = some (.int .i64 d) ∧
                    w'.cell? ⟨w.heap.size + 1 + 1 + 1 + 1, 0, none⟩ = some (.int .i64 g) ∧ w'.cell? ⟨w.heap.size + 1 + 1 + 1 + 1, 1, none⟩ = some (.bool false) ∧ w'.cell? ⟨w.heap.size + 1 + 1 + 1 + 1, 2, none⟩ = some (.bool true) ∧ w'.cell? ⟨w.heap.size + 1 + 1 + 1 + 1, 3, none⟩ = some (.int .i64 d)) (simp [go_sem, *]) (fail)
              go_wp2
              go_returns
              refine ⟨?_, by go_grown⟩
              rw [← unhide HR, ← unhide HS]
              have e3 := unhide hd
              simp_all [withV] <;> go_arith
      · cases h
        · go_enter Tryd.func65, Tryd.ntmps65
          go_wp2_with (go_at_call 87; refine (refGiven_any _ _ _ _ _ _ _ h0 h1 (unhide HZ) _ hg true hown).mono ?_; rintro e w' ⟨rfl, rfl⟩)
          · go_returns
            refine ⟨?_, by go_grown⟩
            rw [← unhide HR, ← unhide HS]
            simp_all [withV]
          · go_region_held3 (fun w' => w'.cell? ⟨w.heap.size, 0, none⟩ = some (.int .i64 n) ∧ w'.cell? ⟨w.heap.size, 1, none⟩ = some (.bool true) ∧ w'.cell? ⟨w.heap.size, 2, none⟩ = some (.bool false) ∧ w'.cell? ⟨w.heap.size, 3, none⟩ = some (.int .i64 d) ∧
                  w'.cell? ⟨w.heap.size + 1 + 1 + 1 + 1, 0, none⟩ = some (.int .i64 g) ∧ w'.cell? ⟨w.heap.size + 1 + 1 + 1 + 1, 1, none⟩ = some (.bool true) ∧ w'.cell? ⟨w.heap.size + 1 + 1 + 1 + 1, 2, none⟩ = some (.bool false) ∧ w'.cell? ⟨w.heap.size + 1 + 1 + 1 + 1, 3, none⟩ = some (.int .i64 0)) (simp [go_sem, *]) (fail)
            go_wp2
            go_returns
            refine ⟨?_, by go_grown⟩
            rw [← unhide HR, ← unhide HS]
            have e3 := unhide hd
            simp_all [withV] <;> go_arith
        · cases v
          · go_enter Tryd.func65, Tryd.ntmps65
            go_wp2_with (go_at_call 87; refine (refGiven_any _ _ _ _ _ _ _ h0 h1 (unhide HZ) _ hg true hown).mono ?_; rintro e w' ⟨rfl, rfl⟩)
            · go_returns
              refine ⟨?_, by go_grown⟩
              rw [← unhide HR, ← unhide HS]
              simp_all [withV]
            · go_region_held3 (fun w' => w'.cell? ⟨w.heap.size, 0, none⟩ = some (.int .i64 n) ∧ w'.cell? ⟨w.heap.size, 1, none⟩ = some (.bool true) ∧ w'.cell? ⟨w.heap.size, 2, none⟩ = some (.bool true) ∧ w'.cell? ⟨w.heap.size, 3, none⟩ = some (.int .i64 d) ∧
                    w'.cell? ⟨w.heap.size + 1 + 1 + 1 + 1, 0, none⟩ = some (.int .i64 g) ∧ w'.cell? ⟨w.heap.size + 1 + 1 + 1 + 1, 1, none⟩ = some (.bool true) ∧ w'.cell? ⟨w.heap.size + 1 + 1 + 1 + 1, 2, none⟩ = some (.bool true) ∧ w'.cell? ⟨w.heap.size + 1 + 1 + 1 + 1, 3, none⟩ = some (.int .i64 d)) (simp [go_sem, *]) (fail)
              go_wp2
              go_returns
              refine ⟨?_, by go_grown⟩
              rw [← unhide HR, ← unhide HS]
              have e3 := unhide hd
              simp_all [withV] <;> go_arith
          · go_enter Tryd.func65, Tryd.ntmps65
            go_wp2_with (go_at_call 87; refine (refGiven_any _ _ _ _ _ _ _ h0 h1 (unhide HZ) _ hg true hown).mono ?_; rintro e w' ⟨rfl, rfl⟩)
            · go_returns
              refine ⟨?_, by go_grown⟩
              rw [← unhide HR, ← unhide HS]
              simp_all [withV]
            · go_region_held3 (fun w' => w'.cell? ⟨w.heap.size, 0, none⟩ = some (.int .i64 n) ∧ w'.cell? ⟨w.heap.size, 1, none⟩ = some (.bool true) ∧ w'.cell? ⟨w.heap.size, 2, none⟩ = some (.bool true) ∧ w'.cell? ⟨w.heap.size, 3, none⟩ = some (.int .i64 d) ∧
                    w'.cell? ⟨w.heap.size + 1 + 1 + 1 + 1, 0, none⟩ = some (.int .i64 g) ∧ w'.cell? ⟨w.heap.size + 1 + 1 + 1 + 1, 1, none⟩ = some (.bool true) ∧ w'.cell? ⟨w.heap.size + 1 + 1 + 1 + 1, 2, none⟩ = some (.bool true) ∧ w'.cell? ⟨w.heap.size + 1 + 1 + 1 + 1, 3, none⟩ = some (.int .i64 d)) (simp [go_sem, *]) (fail)
              go_wp2
              go_returns
              refine ⟨?_, by go_grown⟩
              rw [← unhide HR, ← unhide HS]
              have e3 := unhide hd
              simp_all [withV] <;> go_arith
end Go.Proofs.YtmgjgeaigdiadaaDoor
