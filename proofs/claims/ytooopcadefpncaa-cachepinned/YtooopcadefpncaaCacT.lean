/- The contract of package cache's Take (layer 9). -/
import Derived.Test.YtooopcadefpncaaCacB
import Derived.Test.YtooopcadefpncaaBunC
namespace Go.Proofs.Ytooopcadefpncaa
open Go.ChangeShapes Go.WideShapes Go.ChangeAt Go.RowKit
set_option linter.unusedSimpArgs false
set_option linter.unusedVariables false
set_option maxRecDepth 10000

attribute [local go_sem, local simp] over_const setCell_drewN alloc_drewN Over.cell Over.frozen lt_s1 lt_s2 lt_s3 le_s0 le_s1 le_s2 le_s3 eq_s0 eq_s1 eq_s2 qe_s0

set_option maxHeartbeats 2000000 in
theorem cTake_c (c : Nat) (Ft : Nat → Prop) (S W N x n : Int) (o d : Bool) (C : Ca) (w : World) (h : CaIs w c Ft S W N C) (hx : I64 x) (hN : N ≤ 9223372036854775807) (g : Bun) (C' : Ca) (hg : Hid (givenB (C.T x) n o d = g)) (hC : Hid (nxTk C x n o = C')) :
    Calls Try.prog 16 #[ptr c, .int .i64 x, .int .i64 n, .bool o, .bool d] w fun e w' => e = .returned (.agg #[.int .i64 g.n, .bool g.o, .bool g.h, .int .i64 g.d]) ∧ ∃ Ft', CaIs w' c Ft' S W N C' ∧ Step Ft Ft' w w' := by
  have hI' := hide (h.inv.tk x n o)
  rw [hC.out] at hI'
  have hH := hide h
  have hlt : ∀ b, Ft b → b < w.heap.size := h.lt
  obtain ⟨p, t, Fh, c0, c1, hh, hF, hc⟩ := h.at'
  have hcl := h.lt c h.fc
  have hlen := h.inv.inv.len
  have hz1 := h.inv.le x
  have hzk := hide (h.inv.ok x)
  have hmem := hide (h.inv.mem (x := x))
  clear h
  obtain ⟨D, hD⟩ := hh.tk
  have htl := hh.lt t hh.ft
  replace hD := hide hD
  replace hh := hide hh
  have hFhw : ∀ b, Fh b → b < w.heap.size := fun b e => hlt b (hF b e)
  obtain ⟨z, hz⟩ : ∃ z, Hid (C.T x = z) := ⟨_, rfl⟩
  obtain ⟨s, hs⟩ : ∃ s, Hid (restB z n o = s) := ⟨_, rfl⟩
  have hC1 := hC.out
  rw [nxTk, hz.out, hs.out] at hC1
  rw [hz.out] at hz1 hzk hg hmem
  have hsk := (restB_ok (unhide hzk) n o)
  rw [hs.out] at hsk
  clear hC
  by_cases s0 : s.n = 0
  · rw [if_pos s0] at hC1
    subst hC1
    have e0 := ok_zero hsk.1 s0
    subst e0
    clear hsk s0
    go_enter Try.func16, Try.ntmps16
    go_wp2_with (first | (go_at_call 20; refine (cGet_c c Ft S W N x C _ ((unhide hH).below (by repeat' first | with_reducible exact Below.refl _ _ | with_reducible refine Below.setCell ?_ ?_ _ | with_reducible refine Below.alloc ?_ ?_ _ | with_reducible refine Below.drew ?_ | with_reducible refine belowN ?_ _ | with_reducible refine Over.go _ ?_ ?_ | with_reducible exact Nat.le_refl _ | with_reducible refine Over.sz _ _ ?_ | with_reducible refine le_alloc ?_ | with_reducible refine le_setCell ?_ | with_reducible refine le_drewN ?_ | with_reducible refine le_drew ?_ | omega | (dsimp only; omega))) hx z hz).mono ?_; rintro e w' ⟨rfl, hb⟩; obtain ⟨x1, rfl⟩ := over hb; clear hb; have f1 := x1.up (b := w.heap.size) (by first | omega | (simp only [World.size_alloc]; omega) | (simp; done) | (simp; omega)); have f2 := x1.up (b := c) (by first | omega | (simp only [World.size_alloc]; omega) | (simp; done) | (simp; omega))) | (go_at_call 40; refine (split_c z.n z.o z.h z.d n o d _ (by omega) (unhide hzk) g _ hg hs).mono ?_; rintro e w' ⟨rfl, hb⟩; obtain ⟨x2, rfl⟩ := over2 hb; clear hb; have g1 := x2.up (b := w.heap.size) (by first | omega | (simp only [World.size_alloc]; omega) | (simp; done) | (simp; omega)); have g2 := x2.up (b := c) (by first | omega | (simp only [World.size_alloc]; omega) | (simp; done) | (simp; omega))))
    go_at_call 41
    refine (leave_c p t Fh S W x C.A C.T _ ((unhide hh).below (by repeat' first | with_reducible exact Below.refl _ _ | with_reducible refine Below.setCell ?_ ?_ _ | with_reducible refine Below.alloc ?_ ?_ _ | with_reducible refine Below.drew ?_ | with_reducible refine belowN ?_ _ | with_reducible refine Over.go _ ?_ ?_ | with_reducible exact Nat.le_refl _ | with_reducible refine Over.sz _ _ ?_ | with_reducible refine le_alloc ?_ | with_reducible refine le_setCell ?_ | with_reducible refine le_drewN ?_ | with_reducible refine le_drew ?_ | omega | (dsimp only; omega))) hx).mono ?_
    rintro e w3 ⟨rfl, Fh3, hh3, hsh3⟩
    obtain ⟨Ft3, hn3, hs3⟩ := ((unhide hH).below (by repeat' first | with_reducible exact Below.refl _ _ | with_reducible refine Below.setCell ?_ ?_ _ | with_reducible refine Below.alloc ?_ ?_ _ | with_reducible refine Below.drew ?_ | with_reducible refine belowN ?_ _ | with_reducible refine Over.go _ ?_ ?_ | with_reducible exact Nat.le_refl _ | with_reducible refine Over.sz _ _ ?_ | with_reducible refine le_alloc ?_ | with_reducible refine le_setCell ?_ | with_reducible refine le_drewN ?_ | with_reducible refine le_drew ?_ | omega | (dsimp only; omega))).back (by simp [go_sem, *]) (by simp [go_sem, *]) hF hc (unhide hI') hh3 hsh3
    obtain ⟨k1, k2, k3⟩ := hs3.keep (b := w.heap.size) (fun e => by have := hlt _ e; omega) (by first | (simp; done) | (simp; omega))
    obtain ⟨a1, a2, a3⟩ := hs3.keep (b := x2.w.heap.size) (fun e => by have := hlt _ e; omega) (by first | (simp; done) | (simp; omega))
    have y : BunAt w3 w.heap.size bun0 := ⟨k3, keep_cell k1 (by simp [go_sem, *]), keep_cell k1 (by simp [go_sem, *]), keep_cell k1 (by simp [go_sem, *]), keep_cell k1 (by simp [go_sem, *]), keep_frozen k1 (by simp [go_sem, *]), keep_frozen k1 (by simp [go_sem, *]), keep_frozen k1 (by simp [go_sem, *]), keep_frozen k1 (by simp [go_sem, *])⟩
    have u : BunAt w3 x2.w.heap.size g := ⟨a3, keep_cell a1 (by simp [go_sem, *]), keep_cell a1 (by simp [go_sem, *]), keep_cell a1 (by simp [go_sem, *]), keep_cell a1 (by simp [go_sem, *]), keep_frozen a1 (by simp [go_sem, *]), keep_frozen a1 (by simp [go_sem, *]), keep_frozen a1 (by simp [go_sem, *]), keep_frozen a1 (by simp [go_sem, *])⟩
    have hfin : Hid (CaIs w3 c Ft3 S W N ⟨C.A.erase x, updT C.T x bun0⟩ ∧ Step Ft Ft3 w w3 ∧ ¬ Ft3 w.heap.size) := ⟨hn3, (Step.of_below (by repeat' first | with_reducible exact Below.refl _ _ | with_reducible refine Below.setCell ?_ ?_ _ | with_reducible refine Below.alloc ?_ ?_ _ | with_reducible refine Below.drew ?_ | with_reducible refine belowN ?_ _ | with_reducible refine Over.go _ ?_ ?_ | with_reducible exact Nat.le_refl _ | with_reducible refine Over.sz _ _ ?_ | with_reducible refine le_alloc ?_ | with_reducible refine le_setCell ?_ | with_reducible refine le_drewN ?_ | with_reducible refine le_drew ?_ | omega | (dsimp only; omega))).trans hs3, k2⟩
    obtain ⟨y5, y0, y1, y2, y3, z0, z1, z2, z3⟩ := y
    obtain ⟨u5, u0, u1, u2, u3, -, -, -, -⟩ := u
    clear hn3 hs3 hh3 hsh3 k1 k2 k3 a1 a2 a3
    go_wp2_with fail
    refine bodyPost_ret (by simp [results, Try.results16, go_sem, *]; done) rfl ⟨rfl, ?_⟩
    refine CaIs.fin (unhide hfin) (by omega) ?_
    repeat' first | with_reducible exact FrS.refl _ _ | refine FrS.wr ?_ _
  · rw [if_neg s0] at hC1
    subst hC1
    have hx' : x ∈ C.A := (unhide hmem).2 (by have := hsk.1.1; have := hsk.2; omega)
    replace hx' := hide hx'
    replace hsk := hide hsk
    go_enter Try.func16, Try.ntmps16
    go_wp2_with (first | (go_at_call 20; refine (cGet_c c Ft S W N x C _ ((unhide hH).below (by repeat' first | with_reducible exact Below.refl _ _ | with_reducible refine Below.setCell ?_ ?_ _ | with_reducible refine Below.alloc ?_ ?_ _ | with_reducible refine Below.drew ?_ | with_reducible refine belowN ?_ _ | with_reducible refine Over.go _ ?_ ?_ | with_reducible exact Nat.le_refl _ | with_reducible refine Over.sz _ _ ?_ | with_reducible refine le_alloc ?_ | with_reducible refine le_setCell ?_ | with_reducible refine le_drewN ?_ | with_reducible refine le_drew ?_ | omega | (dsimp only; omega))) hx z hz).mono ?_; rintro e w' ⟨rfl, hb⟩; obtain ⟨x1, rfl⟩ := over hb; clear hb; have f1 := x1.up (b := w.heap.size) (by first | omega | (simp only [World.size_alloc]; omega) | (simp; done) | (simp; omega)); have f2 := x1.up (b := c) (by first | omega | (simp only [World.size_alloc]; omega) | (simp; done) | (simp; omega))) | (go_at_call 40; refine (split_c z.n z.o z.h z.d n o d _ (by omega) (unhide hzk) g _ hg hs).mono ?_; rintro e w' ⟨rfl, hb⟩; obtain ⟨x2, rfl⟩ := over2 hb; clear hb; have g1 := x2.up (b := w.heap.size) (by first | omega | (simp only [World.size_alloc]; omega) | (simp; done) | (simp; omega)); have g2 := x2.up (b := c) (by first | omega | (simp only [World.size_alloc]; omega) | (simp; done) | (simp; omega)); have g3 := x2.up (b := t) (by first | omega | (simp only [World.size_alloc]; omega) | (simp; done) | (simp; omega))))
    go_wp2_with fail
    refine wp_region_noPanic ?_
    refine last_begin 7 (fun w' => w'.cell? ⟨c, 1, none⟩ = some (.map (some t)) ∧ w'.cell? ⟨x2.w.heap.size + 1, 0, none⟩ = some (.int .i64 s.n) ∧ w'.cell? ⟨x2.w.heap.size + 1, 1, none⟩ = some (.bool s.o) ∧ w'.cell? ⟨x2.w.heap.size + 1, 2, none⟩ = some (.bool s.h) ∧ w'.cell? ⟨x2.w.heap.size + 1, 3, none⟩ = some (.int .i64 s.d)) (by kernel_rfl) ?_ (fun hHeld => ?_)
    · exact ⟨by simp [go_sem, *], by simp [go_sem, *], by simp [go_sem, *], by simp [go_sem, *], by simp [go_sem, *]⟩
    refine last_take (i := 0) (d := some 32) (v := ?_) rfl (by kernel_rfl) (by kernel_rfl) (by kernel_rfl) (by kernel_rfl) (fun _ _ _ h => h) ?_ hHeld ?_
    rotate_left
    · intro o ho
      simp at ho
      subst ho
      intro wz hSw
      try dsimp only at hSw
      go_simp
      try with_reducible rfl
    try simp only [Act.put, List.setIfInBounds_toArray, List.set_cons_zero, List.set_cons_succ]
    refine last_take (i := 1) (d := some 33) (v := ?_) rfl (by kernel_rfl) (by kernel_rfl) (by kernel_rfl) (by kernel_rfl) (fun _ _ _ h => h) ?_ hHeld ?_
    rotate_left
    · intro o ho
      simp at ho
      subst ho
      intro wz hSw
      try dsimp only at hSw
      go_simp
      try with_reducible rfl
    try simp only [Act.put, List.setIfInBounds_toArray, List.set_cons_zero, List.set_cons_succ]
    refine last_take (i := 2) (d := some 34) (v := ?_) rfl (by kernel_rfl) (by kernel_rfl) (by kernel_rfl) (by kernel_rfl) (fun _ _ _ h => h) ?_ hHeld ?_
    rotate_left
    · intro o ho
      simp at ho
      subst ho
      intro wz hSw
      try dsimp only at hSw
      go_simp
      try with_reducible rfl
    try simp only [Act.put, List.setIfInBounds_toArray, List.set_cons_zero, List.set_cons_succ]
    refine last_take (i := 3) (d := some 35) (v := ?_) rfl (by kernel_rfl) (by kernel_rfl) (by kernel_rfl) (by kernel_rfl) (fun _ _ _ h => h) ?_ hHeld ?_
    rotate_left
    · intro o ho
      simp at ho
      subst ho
      intro wz hSw
      try dsimp only at hSw
      go_simp
      try with_reducible rfl
    try simp only [Act.put, List.setIfInBounds_toArray, List.set_cons_zero, List.set_cons_succ]
    refine last_take (i := 4) (d := some 36) (v := ?_) rfl (by kernel_rfl) (by kernel_rfl) (by kernel_rfl) (by kernel_rfl) (fun _ _ _ h => h) ?_ hHeld ?_
    rotate_left
    · intro o ho
      simp at ho
      subst ho
      intro wz hSw
      try dsimp only at hSw
      go_simp
      try with_reducible rfl
    try simp only [Act.put, List.setIfInBounds_toArray, List.set_cons_zero, List.set_cons_succ]
    refine last_take (i := 5) (d := some 37) (v := ?_) rfl (by kernel_rfl) (by kernel_rfl) (by kernel_rfl) (by kernel_rfl) (fun _ _ _ h => h) ?_ hHeld ?_
    rotate_left
    · intro o ho
      simp at ho
      subst ho
      intro wz hSw
      try dsimp only at hSw
      go_simp
      try with_reducible rfl
    try simp only [Act.put, List.setIfInBounds_toArray, List.set_cons_zero, List.set_cons_succ]
    refine last_take (i := 6) (d := some 38) (v := ?_) rfl (by kernel_rfl) (by kernel_rfl) (by kernel_rfl) (by kernel_rfl) (fun _ _ _ h => h) ?_ hHeld ?_
    rotate_left
    · intro o ho
      simp at ho
      subst ho
      intro wz hSw
      try dsimp only at hSw
      go_simp
      try with_reducible rfl
    try simp only [Act.put, List.setIfInBounds_toArray, List.set_cons_zero, List.set_cons_succ]
    refine last_call (i := 7) rfl (by kernel_rfl) ?_
    intro o ho
    simp at ho
    subst ho
    intro K hK
    refine wp_updE (.tmp 36) (.tmp 37) (.tmp 38) rfl rfl rfl rfl (tk_putE (K' := C.A) ((unhide hD).carry (Below.block (B := w.heap.size) (by repeat' first | with_reducible exact Below.refl _ _ | with_reducible refine Below.setCell ?_ ?_ _ | with_reducible refine Below.alloc ?_ ?_ _ | with_reducible refine Below.drew ?_ | with_reducible refine belowN ?_ _ | with_reducible refine Over.go _ ?_ ?_ | with_reducible exact Nat.le_refl _ | with_reducible refine Over.sz _ _ ?_ | with_reducible refine le_alloc ?_ | with_reducible refine le_setCell ?_ | with_reducible refine le_drewN ?_ | with_reducible refine le_drew ?_ | omega | (dsimp only; omega)) t htl)) hx s (fun k hk => hk) (unhide hx') (by omega)) ?_; intro w3 hw3
    refine hK.out _ _ (fun h => absurd rfl h) (fun _ => ?_)
    clear hK K
    try simp only [Act.put, List.setIfInBounds_toArray, List.set_cons_zero, List.set_cons_succ]
    refine last_done (by kernel_rfl) (NoPanic.normal ?_) _
    clear hHeld
    obtain ⟨D3, hD3, hf3⟩ := hw3
    obtain ⟨Fh3, hh3, hsh3⟩ := ((unhide hh).below (by repeat' first | with_reducible exact Below.refl _ _ | with_reducible refine Below.setCell ?_ ?_ _ | with_reducible refine Below.alloc ?_ ?_ _ | with_reducible refine Below.drew ?_ | with_reducible refine belowN ?_ _ | with_reducible refine Over.go _ ?_ ?_ | with_reducible exact Nat.le_refl _ | with_reducible refine Over.sz _ _ ?_ | with_reducible refine le_alloc ?_ | with_reducible refine le_setCell ?_ | with_reducible refine le_drewN ?_ | with_reducible refine le_drew ?_ | omega | (dsimp only; omega))).retok hD3 hf3
    obtain ⟨Ft3, hn3, hs3⟩ := ((unhide hH).below (by repeat' first | with_reducible exact Below.refl _ _ | with_reducible refine Below.setCell ?_ ?_ _ | with_reducible refine Below.alloc ?_ ?_ _ | with_reducible refine Below.drew ?_ | with_reducible refine belowN ?_ _ | with_reducible refine Over.go _ ?_ ?_ | with_reducible exact Nat.le_refl _ | with_reducible refine Over.sz _ _ ?_ | with_reducible refine le_alloc ?_ | with_reducible refine le_setCell ?_ | with_reducible refine le_drewN ?_ | with_reducible refine le_drew ?_ | omega | (dsimp only; omega))).back (by simp [go_sem, *]) (by simp [go_sem, *]) hF hc (unhide hI') hh3 hsh3
    obtain ⟨k1, k2, k3⟩ := hs3.keep (b := w.heap.size) (fun e => by have := hlt _ e; omega) (by first | (simp; done) | (simp; omega))
    obtain ⟨a1, a2, a3⟩ := hs3.keep (b := x2.w.heap.size) (fun e => by have := hlt _ e; omega) (by first | (simp; done) | (simp; omega))
    have y : BunAt w3 w.heap.size bun0 := ⟨k3, keep_cell k1 (by simp [go_sem, *]), keep_cell k1 (by simp [go_sem, *]), keep_cell k1 (by simp [go_sem, *]), keep_cell k1 (by simp [go_sem, *]), keep_frozen k1 (by simp [go_sem, *]), keep_frozen k1 (by simp [go_sem, *]), keep_frozen k1 (by simp [go_sem, *]), keep_frozen k1 (by simp [go_sem, *])⟩
    have u : BunAt w3 x2.w.heap.size g := ⟨a3, keep_cell a1 (by simp [go_sem, *]), keep_cell a1 (by simp [go_sem, *]), keep_cell a1 (by simp [go_sem, *]), keep_cell a1 (by simp [go_sem, *]), keep_frozen a1 (by simp [go_sem, *]), keep_frozen a1 (by simp [go_sem, *]), keep_frozen a1 (by simp [go_sem, *]), keep_frozen a1 (by simp [go_sem, *])⟩
    have hfin : Hid (CaIs w3 c Ft3 S W N ⟨C.A, updT C.T x s⟩ ∧ Step Ft Ft3 w w3 ∧ ¬ Ft3 w.heap.size) := ⟨hn3, (Step.of_below (by repeat' first | with_reducible exact Below.refl _ _ | with_reducible refine Below.setCell ?_ ?_ _ | with_reducible refine Below.alloc ?_ ?_ _ | with_reducible refine Below.drew ?_ | with_reducible refine belowN ?_ _ | with_reducible refine Over.go _ ?_ ?_ | with_reducible exact Nat.le_refl _ | with_reducible refine Over.sz _ _ ?_ | with_reducible refine le_alloc ?_ | with_reducible refine le_setCell ?_ | with_reducible refine le_drewN ?_ | with_reducible refine le_drew ?_ | omega | (dsimp only; omega))).trans hs3, k2⟩
    obtain ⟨y5, y0, y1, y2, y3, z0, z1, z2, z3⟩ := y
    obtain ⟨u5, u0, u1, u2, u3, -, -, -, -⟩ := u
    clear hn3 hs3 hh3 hsh3 k1 k2 k3 a1 a2 a3 hf3 hD3
    go_wp2_with fail
    refine bodyPost_ret (by simp [results, Try.results16, go_sem, *]; done) rfl ⟨rfl, ?_⟩
    refine CaIs.fin (unhide hfin) (by omega) ?_
    repeat' first | with_reducible exact FrS.refl _ _ | refine FrS.wr ?_ _
end Go.Proofs.Ytooopcadefpncaa
