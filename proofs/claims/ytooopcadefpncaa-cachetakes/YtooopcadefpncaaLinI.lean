/- The contract of package lines' Copy (layer 8). -/
import Derived.Test.YtooopcadefpncaaLinH
namespace Go.Proofs.Ytooopcadefpncaa
open Go.ChangeShapes Go.WideShapes Go.ChangeAt Go.RowKit
set_option linter.unusedSimpArgs false
set_option linter.unusedVariables false
set_option maxRecDepth 10000

attribute [local go_sem, local simp] over_const setCell_drewN alloc_drewN Over.cell Over.frozen lt_s1 lt_s2 lt_s3 le_s0 le_s1 le_s2 le_s3 eq_s0 eq_s1 eq_s2 qe_s0

theorem Inv.come {S W : Int} {A : List Int} (h : Inv S W A) (left : Lit → Bool) : Inv S W (come S left A) :=
  ⟨h.s0, h.s1, h.w0, h.w1, h.nodup.filter _, fun x hx => h.pos x (List.mem_filter.1 hx).1, fun k => by
    have h1 := h.room k
    have h2 : (part S (Go.Proofs.Ytooopcadefpncaa.come S left A) k).length ≤ (part S A k).length := (List.filter_sublist.filter _).length_le
    omega⟩

theorem part_come_out {S k : Int} {left : Lit → Bool} {A : List Int} (h : left (.int .i64 k) = true) : part S (come S left A) k = [] := by
  rw [List.eq_nil_iff_forall_not_mem]
  intro x hx
  have h1 := mem_part'.1 hx
  have h2 := (List.mem_filter.1 h1.1).2
  simp [keyL, h1.2, h] at h2

theorem part_come_in {S k : Int} {left : Lit → Bool} {A : List Int} : part S (come S (fun z => left z && !z.sameKey (.int .i64 k)) A) k = part S A k := by
  simp only [part, come, List.filter_filter]
  refine List.filter_congr (fun x _ => ?_)
  by_cases c : modZ x S = k
  · have e : (Lit.int IntKind.i64 k).sameKey (.int .i64 k) = true := WideAt.sameKey_self trivial
    simp [keyL, c, e]
  · simp [c]

theorem part_come_other {S k j : Int} {left : Lit → Bool} {A : List Int} (h : j ≠ k) : part S (come S (fun z => left z && !z.sameKey (.int .i64 k)) A) j = part S (come S left A) j := by
  simp only [part, come, List.filter_filter]
  refine List.filter_congr (fun x _ => ?_)
  by_cases c : modZ x S = j
  · have e : (Lit.int IntKind.i64 j).sameKey (.int .i64 k) = false := Maps.sameKey_ne (fun h' => h (by cases h'; rfl))
    simp [keyL, c, e]
  · simp [c]

/-- What lies at a set. -/
theorem LnIs.findK {w : World} {p : Nat} {Ft : Nat → Prop} {S W : Int} {A : List Int} (h : LnIs w p Ft S W A) {k : Int} (k0 : 0 ≤ k) (k1 : k < S) :
    ∃ m rows D v, w.cell? ⟨p, 2, none⟩ = some (.map (some m)) ∧ Hid (Own w v (rows k) (part S A k) ∧ (rows k = m → v = nilV) ∧ 0 ≤ k ∧ k < S ∧ SetsIs w m rows S A D ∧ Ft m ∧ m ≠ p ∧ ∀ k, 0 ≤ k → k < S → Ft (rows k) ∧ rows k ≠ p) := by
  obtain ⟨m, rows, D, h1, h2, h3, h4, h5⟩ := h.sets
  obtain ⟨v, a, b, c⟩ := h2.look h.inv.s1 k0 k1
  exact ⟨m, rows, D, v, h1, b, c, k0, k1, h2, h3, h4, h5⟩

theorem clampZ_id {n lo hi : Int} (h0 : lo ≤ n) (h1 : n ≤ hi) : clampZ n lo hi = n := by unfold clampZ; split; omega; split <;> omega

set_option maxHeartbeats 2000000 in
theorem copy_c (p : Nat) (Ft : Nat → Prop) (S W : Int) (A : List Int) (w : World) (h : LnIs w p Ft S W A) : Calls Try.prog 48 #[ptr p] w fun e w' => ∃ p' Ft', e = .returned (ptr p') ∧ LnIs w' p' Ft' S W A ∧ (∀ b, Ft' b → w.heap.size ≤ b) ∧ Below w.heap.size w w' := by
  have hI := hide h.inv
  have hlen := h.inv.len
  have c0 := h.c0
  have c1 := h.c1
  have hpl := h.pl
  have hw : ∀ w', Calls Try.prog 29 #[.int .i64 S, .int .i64 W] w' fun e w'' => ∃ p Ft, e = .returned (ptr p) ∧ LnIs w'' p Ft S W [] ∧ Below w'.heap.size w' w'' ∧ ∀ b, Ft b → w'.heap.size ≤ b := by
    intro w'
    have := new_c S W w'
    rwa [clampZ_id h.inv.s0 h.inv.s1, clampZ_id h.inv.w0 h.inv.w1] at this
  replace hw := hide hw
  obtain ⟨m, rows, D, c2, hs, hFm, hmp, hFr⟩ := h.sets
  have hown := hide hs.own
  have hml := hs.own.lt
  have hH := hide hs
  have hnone := come_none (left := Maps.has D) A (fun x hx => hs.there h.inv.s0 hx)
  clear h hs hFr
  go_enter Try.func48, Try.ntmps48
  go_wp2_with fail
  refine wp_region_noPanic ?_
  refine wp_region_held_drew (S := (fun w' => w'.cell? ⟨p, 0, none⟩ = some (.int .i64 S) ∧ w'.cell? ⟨p, 1, none⟩ = some (.int .i64 W))) (by kernel_rfl) ?_ (fun hHeld => ?_)
  · exact ⟨c0, c1⟩
  refine hand_take (i := 0) (d := some 6) (v := ?_) rfl (by kernel_rfl) (by kernel_rfl) (by kernel_rfl) (fun _ _ _ h => h) ?_ hHeld ?_
  rotate_left
  · intro o ho
    simp at ho
    subst ho
    intro wz hSw
    try dsimp only at hSw
    go_simp
    try with_reducible rfl
  try simp only [Act.put, List.setIfInBounds_toArray, List.set_cons_zero, List.set_cons_succ]
  refine hand_take (i := 1) (d := some 7) (v := ?_) rfl (by kernel_rfl) (by kernel_rfl) (by kernel_rfl) (fun _ _ _ h => h) ?_ hHeld ?_
  rotate_left
  · intro o ho
    simp at ho
    subst ho
    intro wz hSw
    try dsimp only at hSw
    go_simp
    try with_reducible rfl
  try simp only [Act.put, List.setIfInBounds_toArray, List.set_cons_zero, List.set_cons_succ]
  refine hand_take (i := 2) (d := some 8) (v := ?_) rfl (by kernel_rfl) (by kernel_rfl) (by kernel_rfl) (fun _ _ _ h => h) ?_ hHeld ?_
  rotate_left
  · intro o ho
    simp at ho
    subst ho
    intro wz hSw
    try dsimp only at hSw
    go_simp
    try with_reducible rfl
  try simp only [Act.put, List.setIfInBounds_toArray, List.set_cons_zero, List.set_cons_succ]
  refine hand_take (i := 3) (d := some 9) (v := ?_) rfl (by kernel_rfl) (by kernel_rfl) (by kernel_rfl) (fun _ _ _ h => h) ?_ hHeld ?_
  rotate_left
  · intro o ho
    simp at ho
    subst ho
    intro wz hSw
    try dsimp only at hSw
    go_simp
    try with_reducible rfl
  try simp only [Act.put, List.setIfInBounds_toArray, List.set_cons_zero, List.set_cons_succ]
  refine hand_take (i := 4) (d := some 10) (v := ?_) rfl (by kernel_rfl) (by kernel_rfl) (by kernel_rfl) (fun _ _ _ h => h) ?_ hHeld ?_
  rotate_left
  · intro o ho
    simp at ho
    subst ho
    intro wz hSw
    try dsimp only at hSw
    go_simp
    try with_reducible rfl
  try simp only [Act.put, List.setIfInBounds_toArray, List.set_cons_zero, List.set_cons_succ]
  refine hand_take (i := 5) (d := some 11) (v := ?_) rfl (by kernel_rfl) (by kernel_rfl) (by kernel_rfl) (fun _ _ _ h => h) ?_ hHeld ?_
  rotate_left
  · intro o ho
    simp at ho
    subst ho
    intro wz hSw
    try dsimp only at hSw
    go_simp
    try with_reducible rfl
  try simp only [Act.put, List.setIfInBounds_toArray, List.set_cons_zero, List.set_cons_succ]
  refine hand_take (i := 6) (d := some 12) (v := ?_) rfl (by kernel_rfl) (by kernel_rfl) (by kernel_rfl) (fun _ _ _ h => h) ?_ hHeld ?_
  rotate_left
  · intro o ho
    simp at ho
    subst ho
    intro wz hSw
    try dsimp only at hSw
    go_simp
    try with_reducible rfl
  try simp only [Act.put, List.setIfInBounds_toArray, List.set_cons_zero, List.set_cons_succ]
  refine hand_take (i := 7) (d := some 13) (v := ?_) rfl (by kernel_rfl) (by kernel_rfl) (by kernel_rfl) (fun _ _ _ h => h) ?_ hHeld ?_
  rotate_left
  · intro o ho
    simp at ho
    subst ho
    intro wz hSw
    try dsimp only at hSw
    go_simp
    try with_reducible rfl
  try simp only [Act.put, List.setIfInBounds_toArray, List.set_cons_zero, List.set_cons_succ]
  refine hand_call (i := 8) rfl (by kernel_rfl) ?_
  intro o ho
  simp at ho
  subst ho
  intro K hK
  go_simp
  go_at_call 29
  refine (unhide hw _).mono ?_
  rintro e w1 ⟨p', Ft', rfl, hn', hb', hF'⟩
  have hB1 : Below w.heap.size w w1 := ((Below.refl _ _).drew).trans hb'
  refine hK.out _ _ ?_ (fun hHeld => ?_)
  · exact ⟨(hB1.cell (p := ⟨p, 0, none⟩) hpl).trans c0, (hB1.cell (p := ⟨p, 1, none⟩) hpl).trans c1⟩
  clear hK K
  try simp only [Act.put, List.setIfInBounds_toArray, List.set_cons_zero, List.set_cons_succ]
  refine hand_take (i := 9) (d := some 3) (v := ?_) rfl (by kernel_rfl) (by kernel_rfl) (by kernel_rfl) (fun _ _ _ h => h) ?_ hHeld ?_
  rotate_left
  · intro o ho
    simp at ho
    subst ho
    intro wz hSw
    try dsimp only at hSw
    go_simp
    try with_reducible rfl
  try simp only [Act.put, List.setIfInBounds_toArray, List.set_cons_zero, List.set_cons_succ]
  refine wpAnyH_done (by kernel_rfl) (NoPanic.normal ?_) _
  clear hHeld
  have hF1 : ∀ b, Ft' b → w.heap.size ≤ b := hF'
  have hpw1 : p < w1.heap.size := Nat.lt_of_lt_of_le hpl hB1.size
  have d2 : w1.cell? ⟨p, 2, none⟩ = some (.map (some m)) := (hB1.cell (p := ⟨p, 2, none⟩) hpl).trans c2
  have hown1 := ownsMap_carry (unhide hown) (hB1.block m hml)
  have hn1 := hide hn'
  have hB1' := hide hB1
  clear hn' hb' hF' hw c0 c1 c2 hB1
  go_wp2_with (at_range; refine wpList_range_own _ rfl _ 84 rfl 3 77 law Try.underlying84 _ m 64 _ rfl hown1 ?_; intro w2 hrg0 hg0 hs0)
  go_frame
  obtain ⟨r, hr⟩ : ∃ r, w1.heap.size = r := ⟨_, rfl⟩
  have hr' : w.heap.size ≤ r := by rw [← hr]; exact (unhide hB1').size
  have hb0 : Below w.heap.size w w2 := (unhide hB1').trans (((Below.refl _ _).grown hg0 (Nat.le_refl _) (fun j hj => by cases hj)).mono (by omega))
  rw [hr] at hrg0 hs0 ⊢
  have hn2 : LnIs w2 p' Ft' S W [] := (unhide hn1).below ((Below.refl _ _).grown hg0 (Nat.le_refl _) (fun j hj => by cases hj))
  have hlt2 : ∀ b, Ft' b → b ≠ r := fun b hb e => by have := (unhide hn1).lt b hb; omega
  go_loopw [4] (fun _ wr => ∃ (left : Lit → Bool) (cnt : Nat) (Fc : Nat → Prop), wr.ranges Try.prog 3 heldR m r 64 D left cnt ∧ LnIs wr p' Fc S W (come S left A) ∧ (∀ b, Fc b → w.heap.size ≤ b ∧ b ≠ r) ∧ Below w.heap.size w wr) (fun _ wr => wr.rangeLeft m r)
  case atStart => exact ⟨_, _, Ft', hrg0, by rw [hnone]; exact hn2, fun b hb => ⟨hF1 b hb, hlt2 b hb⟩, hb0⟩
  case round =>
    obtain ⟨left, cnt, Fc, hrg, hn, hF, hb⟩ := hrel
    replace hn := hide hn
    clear hn1 hn2 hlt2 hF1 hg0 hrg0 hs0 hb0 hown1 d2 hB1'
    go_wp2_with (at_next; refine wpList_next_ranges _ rfl _ rfl 3 law heldR (Value.int .i64) (fun c : Value => c) (fun key kl hkey => by obtain ⟨x, rfl, _⟩ := Maps.keyOf_int_inv Try.underlying3 hkey; exact ⟨x, rfl⟩) (fun v y hv => ⟨v, rfl⟩) m r 64 _ _ _ rfl hrg ?_ ?_)
    · intro _ hl0
      replace hl0 := hide hl0
      replace hb := hide hb
      replace hF := hide hF
      clear hrg
      go_wp2_with fail
      go_ret
      have h1 := unhide hn
      rw [come_all A (unhide hl0)] at h1
      exact ⟨p', Fc, rfl, h1, fun b hb => (unhide hF b hb).1, unhide hb⟩
    · intro x c kl yd yp w3 cnt1 hkey hlk hv hat hrg1 hlt hg1 hs1 hen
      obtain ⟨rfl, x0, x1, hOc⟩ := (unhide hH).entry hkey hv hat
      have hb1 : Below w.heap.size w w3 := hb.grown hg1 hb.size (fun j hj => by cases hj; exact hr')
      have hV1 : Hid (View w3 c (rows x) (part S A x)) := hOc.view.carry (fun _ hl => hb1.block _ hl)
      have hpl1 : (part S A x).length ≤ A.length := List.length_filter_le _ _
      have hn3 : Hid (LnIs w3 p' Fc S W (come S left A)) := (unhide hn).fr (FrS.grown hg1) (fun b hb _ => (hF b hb).2)
      obtain ⟨m', rows', D', vc, c2, hv'⟩ := (unhide hn3).findK x0 x1
      replace hlk := hide hlk
      replace hb1 := hide hb1
      clear hOc hs1 hv hkey hn
      obtain ⟨n, hnn⟩ : ∃ n, Hid ((part S A x).length = n) := ⟨_, rfl⟩
      go_wp2_with fail
      refine wp_region_noPanic ?_
      refine wp_region_held_drew (S := (fun w' => w'.cell? ⟨p', 2, none⟩ = some (.map (some m')))) (by kernel_rfl) ?_ (fun hHeld => ?_)
      · exact c2
      refine hand_take (i := 0) (d := some 25) (v := ?_) rfl (by kernel_rfl) (by kernel_rfl) (by kernel_rfl) (fun _ _ _ h => h) ?_ hHeld ?_
      rotate_left
      · intro o ho
        simp at ho
        subst ho
        intro wz hSw
        try dsimp only at hSw
        go_simp
        try with_reducible rfl
      try simp only [Act.put, List.setIfInBounds_toArray, List.set_cons_zero, List.set_cons_succ]
      refine hand_take (i := 1) (d := some 26) (v := ?_) rfl (by kernel_rfl) (by kernel_rfl) (by kernel_rfl) (fun _ _ _ h => h) ?_ hHeld ?_
      rotate_left
      · intro o ho
        simp at ho
        subst ho
        intro wz hSw
        try dsimp only at hSw
        go_simp
        try with_reducible rfl
      try simp only [Act.put, List.setIfInBounds_toArray, List.set_cons_zero, List.set_cons_succ]
      refine hand_take (i := 2) (d := some 27) (v := ?_) rfl (by kernel_rfl) (by kernel_rfl) (by kernel_rfl) (fun _ _ _ h => h) ?_ hHeld ?_
      rotate_left
      · intro o ho
        simp at ho
        subst ho
        intro wz hSw
        try dsimp only at hSw
        go_simp
        try with_reducible rfl
      try simp only [Act.put, List.setIfInBounds_toArray, List.set_cons_zero, List.set_cons_succ]
      refine hand_take (i := 3) (d := some 28) (v := ?_) rfl (by kernel_rfl) (by kernel_rfl) (by kernel_rfl) (fun _ _ _ h => h) ?_ hHeld ?_
      rotate_left
      · intro o ho
        simp at ho
        subst ho
        intro wz hSw
        try dsimp only at hSw
        go_simp
        try with_reducible rfl
      try simp only [Act.put, List.setIfInBounds_toArray, List.set_cons_zero, List.set_cons_succ]
      refine hand_take (i := 4) (d := some 29) (v := ?_) rfl (by kernel_rfl) (by kernel_rfl) (by kernel_rfl) (fun _ _ _ h => h) ?_ hHeld ?_
      rotate_left
      · intro o ho
        simp at ho
        subst ho
        intro wz hSw
        try dsimp only at hSw
        go_simp
        try with_reducible rfl
      try simp only [Act.put, List.setIfInBounds_toArray, List.set_cons_zero, List.set_cons_succ]
      refine hand_take (i := 5) (d := some 30) (v := ?_) rfl (by kernel_rfl) (by kernel_rfl) (by kernel_rfl) (fun _ _ _ h => h) ?_ hHeld ?_
      rotate_left
      · intro o ho
        simp at ho
        subst ho
        intro wz hSw
        try dsimp only at hSw
        go_simp
        try with_reducible rfl
      try simp only [Act.put, List.setIfInBounds_toArray, List.set_cons_zero, List.set_cons_succ]
      refine hand_call (i := 6) rfl (by kernel_rfl) ?_
      intro o ho
      simp at ho
      subst ho
      intro K hK
      go_simp
      go_at_call 65
      refine (clone_c c (rows x) (part S A x) w3.drew ((unhide hV1).carry fun _ _ => rfl) (by omega)).mono ?_
      rw [hnn.out]
      rintro e w4 ⟨ao', cap', rfl, hcl⟩
      have hB4 : Below w3.heap.size w3 w4 := ((Below.refl _ _).drew).trans hcl.1
      obtain ⟨g', hO4, hg4, hk4⟩ : ∃ g', Own w4 (.slice ao' n cap') g' (part S A x) ∧ (g' = rows' x ∨ w3.heap.size ≤ g') ∧ (g' = rows' x → vc = nilV → .slice ao' n cap' = nilV) := by
        rcases hcl.2 with ⟨rfl, e, rfl⟩ | ⟨g', hg', hO'⟩
        · have hn0 : n = 0 := by rw [← hnn.out, e]; rfl
          subst hn0
          rw [e]
          exact ⟨rows' x, own_nil (Nat.lt_of_lt_of_le (unhide hv').1.lt hB4.size), .inl rfl, fun _ _ => rfl⟩
        · rw [hnn.out] at hO'
          exact ⟨g', hO', .inr hg', fun e => by have := (unhide hv').1.lt; have h2 : w3.heap.size ≤ g' := hg'; omega⟩
      obtain ⟨q1, w5, hr5, q2, Fc', hfin, hst⟩ := (unhide hn3).after c2 (unhide hv') ((unhide hI).come (fun z => left z && !z.sameKey (.int .i64 x))) (FrS.of_below hB4) (fun _ => hB4) (by rw [part_come_in]; exact hO4) hg4 hk4 (fun j hj => part_come_other hj)
      replace hfin := hide hfin
      replace hst := hide hst
      refine hK.out _ _ ?_ (fun hHeld => ?_)
      · exact q1
      clear hK K hcl hB4 hO4 hg4 hk4
      try simp only [Act.put, List.setIfInBounds_toArray, List.set_cons_zero, List.set_cons_succ]
      refine hand_call (i := 7) rfl (by kernel_rfl) ?_
      intro o ho
      simp at ho
      subst ho
      intro K hK
      refine wp_upd (.tmp 28) (.tmp 29) (.tmp 31) rfl rfl rfl rfl hr5 ?_
      refine hK.out _ _ ?_ (fun hHeld => ?_)
      · exact q2
      clear hK K
      try simp only [Act.put, List.setIfInBounds_toArray, List.set_cons_zero, List.set_cons_succ]
      refine wpAnyH_done (by kernel_rfl) (NoPanic.normal ?_) _
      clear hHeld
      have hml3 : m < w3.heap.size := Nat.lt_of_lt_of_le hml (unhide hb1).size
      have hrl3 := hrg1.lt
      have hrg2 := ranges_carry hrg1 ((unhide hst).fr.block m hml3 (fun e => by have := hF m e; omega)) ((unhide hst).fr.block r hrl3 (fun e => (hF r e).2 rfl))
      clear hr5 q1 q2 c2
      go_wp2_with fail
      go_roundw
      case rel =>
        refine ⟨_, cnt1, Fc', hrg2, unhide hfin, fun b hb => ?_, (unhide hb1).trans ((unhide hst).fr.below (fun i hi => (hF i hi).1) (unhide hb1).size)⟩
        rcases (unhide hst).new b hb with h1 | h1
        · exact hF b h1
        · have := (unhide hb1).size
          exact ⟨by omega, by omega⟩
      case measure => rw [hrg2.left_eq, hrg.left_eq]; exact hlt
end Go.Proofs.Ytooopcadefpncaa
