/- The walk of LinesRoom: it returns true; no old memory turns. -/
import Derived.Test.YtameolfdbmepmaaLaw08b
import Derived.Test.YtameolfdbmepmaaRef01
import Derived.Maps.OwnOps
namespace Go.Proofs.Ytameolfdbmepmaa
open Go.ChangeShapes Go.WideShapes Go.ChangeAt Go.RowKit
set_option linter.unusedSimpArgs false
set_option linter.unusedVariables false

attribute [local go_sem, local simp] over_const setCell_drewN alloc_drewN Over.cell Over.frozen lt_s1 lt_s2 lt_s3 le_s0 le_s1 le_s2 le_s3 eq_s0 eq_s1 eq_s2 qe_s0

theorem part_part {S k : Int} {L : List Int} : part S (part S L k) k = part S L k := by
  simp only [part, List.filter_filter, Bool.and_self]

theorem okAdd_part {S W k x : Int} {L : List Int} (hk : modZ x S = k) : okAdd S W (part S L k) x = okAdd S W L x := by
  have h1 : (x ∈ part S L k) ↔ x ∈ L := by rw [← hk]; exact mem_part
  simp only [okAdd, fullA, h1, hk, part_part]

theorem part_add_same {S W k x : Int} {L : List Int} (hk : modZ x S = k) : part S (nxAdd S W L x) k = nxAdd S W (part S L k) x := by
  simp only [nxAdd, okAdd_part hk]
  split
  · rw [part_append, ← hk, part_one_same]
  · rfl

theorem part_add_not {S W k x : Int} {L : List Int} (hk : modZ x S ≠ k) : part S (nxAdd S W L x) k = part S L k := by
  simp only [nxAdd]
  split
  · rw [part_append, part_one_other (fun e => hk e.symm), List.append_nil]
  · rfl

theorem vic_part {S W x q : Int} {L : List Int} : vicA S W (part S L (modZ x S)) x q = vicA S W L x q := by
  have h1 : (x ∈ part S L (modZ x S)) ↔ x ∈ L := mem_part
  unfold vicA fullA
  rw [part_part]
  by_cases c0 : x < 0
  · rw [if_pos c0, if_pos c0]
  · rw [if_neg c0, if_neg c0]
    by_cases c1 : x ∈ L ∨ decide (W ≤ ((part S L (modZ x S)).length : Int)) = false
    · rw [if_pos c1, if_pos (by rw [h1]; exact c1)]
    · rw [if_neg c1, if_neg (by rw [h1]; exact c1)]

theorem part_listA_len {S k : Int} (L : List Int) : (part S (listA L) k).length = (part S L k).length := ((listA_perm L).filter _).length_eq

/-- The map of how many, as it reads. -/
def cntD (D : DataW Unit) (S : Int) (M : List Int) : Prop := ∀ s : Int, D.atKey (.int .i64 s) (.lit (.int .i64 0)) = .lit (.int .i64 ((part S M s).length : Nat))

theorem cntD_new (S : Int) : cntD (.map []) S [] := fun s => by simp [DataW.atKey, part]

theorem cntD_step {D : DataW Unit} {S y s : Int} {M : List Int} (h : cntD D S M) (hD : Maps.IsMap D) (hs : modZ y S = s) : cntD (D.put (.int .i64 s) (.lit (.int .i64 (((part S M s).length : Nat) + 1)))) S (M ++ [y]) := by
  intro r
  rw [part_append]
  by_cases c : r = s
  · subst c
    rw [Maps.atKey_put_same (k := Lit.int .i64 r) hD trivial, ← hs, part_one_same]
    simp
  · rw [Maps.atKey_put_other (fun e => c (by cases e; rfl)), h r, part_one_other (by rw [hs]; exact c), List.append_nil]

theorem zeroI (w : World) : (zeroValue 3).run Try.prog w = .ok (.int .i64 0) w := by kernel_rfl

theorem cnt_look {w : World} {m n : Nat} {D : DataW Unit} {S s : Int} {M : List Int} (hown : w.ownsMap Try.prog 3 (plainElem Try.prog 3) m n D) (h : cntD D S M) (s0 : 0 ≤ s) (s1 : s < 64) : (Instr.lookup 41 (.map (some m)) (.int .i64 s) false).run Try.prog w = .ok (.int .i64 ((part S M s).length : Nat)) w := by
  obtain ⟨c, hrun, hat, _⟩ := hown.lookup_int law Try.underlying41 Try.underlying3 (zeroI w) (Maps.keyOf_int_mk Try.underlying3 (key_wf s0 s1))
  rw [h s] at hat
  simp only [DataW.lit.injEq, Lit.int.injEq, true_and] at hat
  rw [hrun, hat]

/-- Two lines, apart from each other. -/
structure Pair (w wr : World) (p q : Nat) (F G : Nat → Prop) (S W k : Int) (L : List Int) : Prop where
  n : LnIs wr p F S W L
  m : LnIs wr q G S W (part S L k)
  f : ∀ b, F b → w.heap.size ≤ b
  g : ∀ b, G b → w.heap.size ≤ b
  d : ∀ b, F b → ¬ G b
  bel : Below w.heap.size w wr

theorem Pair.quiet {w wr wz : World} {p q : Nat} {F G : Nat → Prop} {S W k : Int} {L : List Int} (h : Pair w wr p q F G S W k L) (hz : Below wr.heap.size wr wz) : Pair w wz p q F G S W k L :=
  ⟨h.n.below hz, h.m.below hz, h.f, h.g, h.d, h.bel.trans (hz.mono h.bel.size)⟩

theorem Pair.left {w wr w3 : World} {p q : Nat} {F F' G : Nat → Prop} {S W k : Int} {L : List Int} (h : Pair w wr p q F G S W k L) {L' : List Int} (hn : LnIs w3 p F' S W L') (hs : Step F F' wr w3) (hp : part S L' k = part S L k) : Pair w w3 p q F' G S W k L' := by
  refine ⟨hn, by rw [hp]; exact h.m.fr hs.fr (fun b hb _ e => h.d b e hb), fun b hb => ?_, h.g, fun b hb e => ?_, h.bel.trans (hs.fr.below h.f h.bel.size)⟩
  · rcases hs.new b hb with h1 | h1
    · exact h.f b h1
    · exact Nat.le_trans h.bel.size h1
  · rcases hs.new b hb with h1 | h1
    · exact h.d b h1 e
    · have := h.m.lt b e; omega

theorem Pair.both {w wr w3 w4 : World} {p q : Nat} {F F' G G' : Nat → Prop} {S W k : Int} {L : List Int} (h : Pair w wr p q F G S W k L) {L' : List Int} (hn : LnIs w3 p F' S W L') (hs : Step F F' wr w3) (hm : LnIs w4 q G' S W (part S L' k)) (ht : Step G G' w3 w4) : Pair w w4 p q F' G' S W k L' := by
  have hF : ∀ b, F' b → w.heap.size ≤ b := fun b hb => by
    rcases hs.new b hb with h1 | h1
    · exact h.f b h1
    · exact Nat.le_trans h.bel.size h1
  have hD : ∀ b, F' b → ¬ G b := fun b hb e => by
    rcases hs.new b hb with h1 | h1
    · exact h.d b h1 e
    · have := h.m.lt b e; omega
  have hB := h.bel.trans (hs.fr.below h.f h.bel.size)
  refine ⟨hn.fr ht.fr (fun b hb _ e => hD b hb e), hm, hF, fun b hb => ?_, fun b hb e => ?_, hB.trans (ht.fr.below h.g hB.size)⟩
  · rcases ht.new b hb with h1 | h1
    · exact h.g b h1
    · exact Nat.le_trans hB.size h1
  · rcases ht.new b e with h1 | h1
    · exact hD b hb h1
    · have := hn.lt b hb; omega

set_option maxHeartbeats 4000000 in
set_option maxRecDepth 100000 in
theorem LinesRoom_walk (s t x : Int) (v : Value) (A : List (Int × Int)) (w : World) (h : ActsAt w.heap.size w v A) : Calls Try.prog 6 #[.agg #[.int .i64 s, .int .i64 t], v, .int .i64 x] w fun e w' => e = .returned (.bool true) ∧ Below w.heap.size w w' := by
  have hA := hide h
  obtain ⟨ao, cap, rfl, hlc, hmx, _⟩ := h
  have hmx' : A.length ≤ 9223372036854775807 := by unfold maxLen at hmx; omega
  clear hmx
  obtain ⟨S, hS⟩ : ∃ S, Hid (clampZ s 1 64 = S) := ⟨_, rfl⟩
  obtain ⟨W, hW⟩ : ∃ W, Hid (clampZ t 1 16 = W) := ⟨_, rfl⟩
  have bS := (clampZ_bd s 1 64).2 (by decide)
  have bW := (clampZ_bd t 1 16).2 (by decide)
  rw [hS.out] at bS
  rw [hW.out] at bW
  obtain ⟨S0, S1⟩ := bS
  obtain ⟨W0, W1⟩ := bW
  go_enter Try.func6, Try.ntmps6
  go_wp2_with fail
  go_at_call 9
  refine (awake8_any _).mono ?_
  rintro e w1 ⟨rfl, hb1⟩
  obtain ⟨B1, hB1, hs1⟩ := box1 hb1
  clear hb1
  by_cases c : 200 < (A.length : Int)
  · replace hB1 := hide hB1
    clear B1
    go_wp2_with fail
    go_at_call 9
    refine (awake8_any _).mono ?_
    rintro e w3 ⟨rfl, hb3⟩
    replace hb3 := hide hb3
    go_wp2_with fail
    go_ret
    exact ⟨rfl, (unhide hB1).trans ((unhide hb3).mono (by omega))⟩
  obtain ⟨-, x0, x1⟩ := B1
  replace hB1 := hide hB1
  go_wp2_with fail
  refine wp_region_noPanic ?_
  refine wp_region_held_drew (S := (fun w' => w' = w1.drew ∧ w'.cell? ⟨w.heap.size, 0, none⟩ = some (.int .i64 s) ∧ w'.cell? ⟨w.heap.size, 1, none⟩ = some (.int .i64 t))) (by kernel_rfl) ?_ (fun hHeld => ?_)
  · exact ⟨rfl, x0, x1⟩
  refine hand_take (i := 0) (d := some 30) (v := ?_) rfl (by kernel_rfl) (by kernel_rfl) (by kernel_rfl) (fun _ _ _ h => h) ?_ hHeld ?_
  rotate_left
  · intro o ho
    simp at ho
    subst ho
    intro wz hSw
    try dsimp only at hSw
    go_simp
    try with_reducible rfl
  try simp only [Act.put, List.setIfInBounds_toArray, List.set_cons_zero, List.set_cons_succ]
  refine hand_take (i := 1) (d := some 31) (v := ?_) rfl (by kernel_rfl) (by kernel_rfl) (by kernel_rfl) (fun _ _ _ h => h) ?_ hHeld ?_
  rotate_left
  · intro o ho
    simp at ho
    subst ho
    intro wz hSw
    try dsimp only at hSw
    go_simp
    try with_reducible rfl
  try simp only [Act.put, List.setIfInBounds_toArray, List.set_cons_zero, List.set_cons_succ]
  refine hand_take (i := 3) (d := some 33) (v := ?_) rfl (by kernel_rfl) (by kernel_rfl) (by kernel_rfl) (fun _ _ _ h => h) ?_ hHeld ?_
  rotate_left
  · intro o ho
    simp at ho
    subst ho
    intro wz hSw
    try dsimp only at hSw
    go_simp
    try with_reducible rfl
  try simp only [Act.put, List.setIfInBounds_toArray, List.set_cons_zero, List.set_cons_succ]
  refine hand_take (i := 4) (d := some 34) (v := ?_) rfl (by kernel_rfl) (by kernel_rfl) (by kernel_rfl) (fun _ _ _ h => h) ?_ hHeld ?_
  rotate_left
  · intro o ho
    simp at ho
    subst ho
    intro wz hSw
    try dsimp only at hSw
    go_simp
    try with_reducible rfl
  try simp only [Act.put, List.setIfInBounds_toArray, List.set_cons_zero, List.set_cons_succ]
  refine hand_call (i := 2) rfl (by kernel_rfl) ?_
  intro o ho
  simp at ho
  subst ho
  intro K hK
  go_simp; go_at_call 25; refine (refClamp_any s 1 64 _).mono ?_; rw [hS.out]; rintro e w' ⟨rfl, hw'⟩; rw [hw']; clear hw' w'
  refine hK.out _ _ ?_ (fun hHeld => ?_)
  · exact ⟨rfl, x0, x1⟩
  clear hK K
  try simp only [Act.put, List.setIfInBounds_toArray, List.set_cons_zero, List.set_cons_succ]
  refine hand_call (i := 5) rfl (by kernel_rfl) ?_
  intro o ho
  simp at ho
  subst ho
  intro K hK
  go_simp; go_at_call 25; refine (refClamp_any t 1 16 _).mono ?_; rw [hW.out]; rintro e w' ⟨rfl, hw'⟩; rw [hw']; clear hw' w'
  refine hK.out _ _ ?_ (fun hHeld => ?_)
  · exact ⟨rfl, x0, x1⟩
  clear hK K
  try simp only [Act.put, List.setIfInBounds_toArray, List.set_cons_zero, List.set_cons_succ]
  refine hand_take (i := 6) (d := some 7) (v := ?_) rfl (by kernel_rfl) (by kernel_rfl) (by kernel_rfl) (fun _ _ _ h => h) ?_ hHeld ?_
  rotate_left
  · intro o ho
    simp at ho
    subst ho
    intro wz hSw
    try dsimp only at hSw
    go_simp
    try with_reducible rfl
  try simp only [Act.put, List.setIfInBounds_toArray, List.set_cons_zero, List.set_cons_succ]
  refine hand_take (i := 7) (d := some 8) (v := ?_) rfl (by kernel_rfl) (by kernel_rfl) (by kernel_rfl) (fun _ _ _ h => h) ?_ hHeld ?_
  rotate_left
  · intro o ho
    simp at ho
    subst ho
    intro wz hSw
    try dsimp only at hSw
    go_simp
    try with_reducible rfl
  try simp only [Act.put, List.setIfInBounds_toArray, List.set_cons_zero, List.set_cons_succ]
  refine wpAnyH_done (by kernel_rfl) (NoPanic.normal ?_) _
  clear hHeld
  clear x0 x1
  obtain ⟨w2, hw2⟩ : ∃ w2, w1.drew = w2 := ⟨_, rfl⟩
  have hB2 : Hid (Below w.heap.size w w2) := by rw [← hw2]; exact (unhide hB1).drew
  rw [hw2]
  clear hw2 hB1 hs1
  go_wp2_with fail
  go_at_call 10
  refine (new_c S W _).mono ?_
  rw [clampZ_id S0 S1, clampZ_id W0 W1]
  rintro e w3 ⟨p, F, rfl, hn, hb3, hF⟩
  replace hn := hide hn
  go_wp2_with fail
  go_at_call 10
  refine (new_c S W _).mono ?_
  rw [clampZ_id S0 S1, clampZ_id W0 W1]
  rintro e w4 ⟨q, G, rfl, hm, hb4, hG⟩
  obtain ⟨k, hk⟩ : ∃ k, Hid (modZ x S = k) := ⟨_, rfl⟩
  have bk := modZ_in S0 x
  rw [hk.out] at bk
  have hP : Hid (Pair w w4 p q F G S W k []) := by
    have q2 := (unhide hB2).size
    have q3 := hb3.size
    exact ⟨(unhide hn).below hb4, by simpa [part] using hm, fun b hb => by have := hF b hb; omega, fun b hb => by have := hG b hb; omega, fun b hb e => by have := (unhide hn).lt b hb; have := hG b e; omega, ((unhide hB2).trans (hb3.mono q2)).trans (hb4.mono (by omega))⟩
  clear hn hm hb3 hb4 hF hG hB2
  go_wp2_with fail
  go_at_call 26
  refine (refMod_any x S _ (by omega)).mono ?_
  rw [hk.out]
  rintro e w' ⟨rfl, hw'⟩
  rw [hw']
  clear hw' w'
  go_wp2_with fail
  go_loopw [53] (fun i wr => ∃ (j : Nat) (F G : Nat → Prop) (L : List Int), j ≤ A.length ∧ i = .int .i64 j ∧ Pair w wr p q F G S W k L) (fun i _ => A.length - (intOf i).toNat)
  case atStart => exact ⟨0, F, G, [], Nat.zero_le _, rfl, unhide hP⟩
  case round =>
    obtain ⟨j, F, G, L, hj, rfl, hE⟩ := hrel
    clear hP
    by_cases hlt : j < A.length
    · have hlt' : (j : Int) < A.length := by omega
      obtain ⟨b, o, rfl, hbB, hbl, a0, a1, a2⟩ := acts_row ((unhide hA).below hE.bel) hlt
      generalize A[j] = a at a0 a1 a2
      obtain ⟨kk, bl⟩ := a
      dsimp only at a0 a1 a2
      replace hE := hide hE
      obtain ⟨r, hr⟩ : ∃ r, Hid (modZ bl S = r) := ⟨_, rfl⟩
      go_wp2_with fail
      go_at_call 12
      refine (add_c p F S W bl L _ ((unhide hE).n.alloc _) a2).mono ?_
      rintro e w5 ⟨rfl, F5, hn5, st5⟩
      have hbox := (((box_new wr kk bl _).fr st5.fr (fun e => by have := (unhide hE).n.lt _ e; omega)) : Box w5 wr.heap.size kk bl)
      obtain ⟨-, y0, y1⟩ := hbox
      replace hn5 := hide hn5
      replace st5 := hide st5
      go_wp2_with fail
      go_at_call 26
      refine (refMod_any bl S _ (by omega)).mono ?_
      rw [hr.out]
      rintro e w' ⟨rfl, hw'⟩
      rw [hw']
      clear hw' w'
      by_cases ck : r = k
      · subst ck
        go_wp2_with fail
        go_at_call 12
        have hE1 := (unhide hE).quiet (belA wr (.cells #[.int .i64 kk, .int .i64 bl] 30))
        refine (add_c q G S W bl (part S L r) w5 (hE1.m.fr (unhide st5).fr (fun b hb _ e => hE1.d b e hb)) a2).mono ?_
        rw [← part_add_same hr.out]
        rintro e w6 ⟨rfl, G6, hn6, st6⟩
        have hE6 := hide (hE1.both (unhide hn5) (unhide st5) hn6 st6)
        clear hE1 hn6 st6 hE hn5 st5 y0 y1
        go_wp2_with fail
        go_roundw
        case rel => exact ⟨j + 1, F5, G6, _, by omega, by simp, unhide hE6⟩
        case measure => simp [intOf]; omega
      · have hE1 := (unhide hE).quiet (belA wr (.cells #[.int .i64 kk, .int .i64 bl] 30))
        have hE5 := hide (hE1.left (unhide hn5) (unhide st5) (part_add_not (by rw [hr.out]; exact ck)))
        clear hE1 hE hn5 st5 y0 y1
        go_wp2_with fail
        go_roundw
        case rel => exact ⟨j + 1, F5, G, _, by omega, by simp, unhide hE5⟩
        case measure => simp [intOf]; omega
    · obtain rfl : j = A.length := by omega
      have hmm := @run_makeMap Try.prog
      have hI := hE.n.inv
      have hlen := hI.len
      have hroom := hide hI.room
      replace hE := hide hE
      clear hlt hI
      go_wp2_with fail
      clear hmm
      obtain ⟨m2, hm2⟩ : ∃ m2, wr.heap.size = m2 := ⟨_, rfl⟩
      have hown : (wr.alloc (.map #[] 0)).ownsMap (H := Unit) Try.prog 3 (plainElem Try.prog 3) m2 0 (.map []) := by rw [← hm2]; exact World.ownsMap_made _ _ _ _
      have hE1 := (unhide hE).quiet (belA wr (.map #[] 0))
      have hF2 : Hid (∀ b, F b ∨ G b → b ≠ m2) := fun b hb e => by
        rcases hb with hb | hb
        · have := (unhide hE).n.lt b hb; omega
        · have := (unhide hE).m.lt b hb; omega
      have hm2w : w.heap.size ≤ m2 := by rw [← hm2]; exact (unhide hE).bel.size
      go_at_call 23
      refine (list_c p F S W L _ hE1.n).mono ?_
      rintro e w5 ⟨v5, g5, rfl, hg5, hO5, hb5⟩
      have hE5 := hide (hE1.quiet hb5)
      have hml1 := hown.lt
      have hown5 := hide (ownsMap_carry hown (hb5.block m2 hml1))
      have hg5' : g5 ≠ m2 := by simp at hg5; omega
      have hg5w : w.heap.size ≤ g5 := by simp at hg5; omega
      have hO5' := hide hO5
      have hlenA := listA_len L
      obtain ⟨N, hN⟩ : ∃ N, Hid (listA L = N) := ⟨_, rfl⟩
      rw [hN.out] at hO5 hO5' hlenA
      obtain ⟨ao5, cap5, rfl, -, hcap5, -⟩ := hO5
      have hN' : N.length ≤ 1024 := by omega
      replace hlenA := hide hlenA
      rw [hm2]
      clear hE hE1 hb5 hg5 hown hml1 hm2 hcap5
      go_wp2_with fail
      go_loopw [76] (fun i wr => ∃ (j : Nat) (D : DataW Unit), j ≤ N.length ∧ i = .int .i64 j ∧ wr.ownsMap Try.prog 3 (plainElem Try.prog 3) m2 j D ∧ cntD D S (N.take j) ∧ Pair w wr p q F G S W k L ∧ Own wr (.slice ao5 N.length cap5) g5 N) (fun i _ => N.length - (intOf i).toNat)
      case atStart => exact ⟨0, .map [], Nat.zero_le _, rfl, unhide hown5, by simpa using cntD_new S, unhide hE5, unhide hO5'⟩
      case round =>
        obtain ⟨j, D, hj, rfl, hown, hcnt, hE, hO⟩ := hrel
        clear hE5 hown5 hO5'
        by_cases hlt : j < N.length
        · have hlt' : (j : Int) < N.length := by omega
          obtain ⟨-, -, -, hc⟩ := view_at hO.view rfl
          obtain ⟨o5, rfl, hb5, hcell⟩ := hc j hlt
          obtain ⟨y, hy⟩ : ∃ y, Hid (N[j] = y) := ⟨_, hide rfl⟩
          rw [hy.out] at hcell
          obtain ⟨r, hr⟩ : ∃ r, Hid (modZ y S = r) := ⟨_, rfl⟩
          have br := modZ_in S0 y
          rw [hr.out] at br
          have hwf := key_wf br.1 (show r < 64 by omega)
          obtain ⟨cn, hcn⟩ : ∃ cn : Nat, Hid ((part S (N.take j) r).length = cn) := ⟨_, rfl⟩
          have hcl : cn ≤ 1024 := by
            have h1 : (part S (N.take j) r).length ≤ (N.take j).length := List.length_filter_le _ _
            rw [hcn.out, List.length_take] at h1
            omega
          have hat0 : Hid (D.atKey (.int .i64 r) (.lit (.int .i64 0)) = .lit (.int .i64 cn)) := by rw [hcnt r, hcn.out]; exact rfl
          have hstep : Hid (cntD (D.put (.int .i64 r) (.lit (.int .i64 ((cn : Int) + 1)))) S (N.take (j + 1))) := by
            have h1 := cntD_step hcnt hown.isMap hr.out
            rw [hcn.out] at h1
            rw [List.take_succ_eq_append_getElem hlt, hy.out]
            exact h1
          have hwc : (Lit.int .i64 ((cn : Int) + 1)).wf = true := WalkArith.wf_i64 (by omega)
          replace hE := hide hE
          replace hO := hide hO
          clear hc hcnt
          go_wp2_with (first | (go_at_call 26; refine (refMod_any y S _ (by omega)).mono ?_; rw [hr.out]; rintro e w' ⟨rfl, hw'⟩; rw [hw']; clear hw' w') | (at_lookup; refine wpList_lookup_own_int _ rfl _ _ 41 rfl 3 3 .i64 law Try.underlying41 Try.underlying3 (zeroI _) m2 j D rfl hown _ _ rfl (Maps.keyOf_int_mk Try.underlying3 hwf) ?_; intro c0 hat hwc0; obtain rfl : c0 = (cn : Int) := (by rw [hat0.out] at hat; simpa using hat.symm)) | (at_mapUpdate; refine wpList_mapUpdate_own _ rfl _ _ _ 41 rfl 3 3 law Try.underlying41 _ m2 j D rfl hown (by unfold maxLen; omega) _ _ _ rfl rfl (Maps.keyOf_int_mk Try.underlying3 hwf) _ [] (plainElem_int Try.underlying3 hwc) ?_; intro w6 hown6 hg6; go_frame))
          have hF6 := FrS.grown hg6
          have hE6 : Hid (Pair w w6 p q F G S W k L) := ⟨(unhide hE).n.fr hF6 (fun b hb _ e => unhide hF2 b (.inl hb) e), (unhide hE).m.fr hF6 (fun b hb _ e => unhide hF2 b (.inr hb) e), (unhide hE).f, (unhide hE).g, (unhide hE).d, (unhide hE).bel.trans (hF6.below (fun i hi => by rw [hi]; exact hm2w) (unhide hE).bel.size)⟩
          have hO6 := hide ((unhide hO).fr hF6 hg5')
          replace hown6 := hide hown6
          clear hF6 hg6 hE hO
          go_roundw
          case rel => exact ⟨j + 1, _, by omega, by simp, unhide hown6, unhide hstep, unhide hE6, unhide hO6⟩
          case measure => simp [intOf]; omega
        · obtain rfl : j = N.length := by omega
          rw [List.take_length, ← hN.out] at hcnt
          have hlk : Hid (∀ r w', 0 ≤ r → r < 64 → w'.heap[m2]? = wr.heap[m2]? → (Instr.lookup 41 (.map (some m2)) (.int .i64 r) false).run Try.prog w' = .ok (.int .i64 ((part S L r).length : Nat)) w') := fun r w' h0 h1 e => by
            have := cnt_look (ownsMap_carry hown e) hcnt h0 h1
            rwa [part_listA_len] at this
          have hm2l := hown.lt
          replace hE := hide hE
          clear hlt hO hown hcnt
          obtain ⟨Sn, hSn⟩ : ∃ Sn : Nat, S = Sn := ⟨S.toNat, by omega⟩
          subst hSn
          obtain ⟨w7, hw7⟩ : ∃ w7, w7 = wr := ⟨_, rfl⟩
          subst hw7
          go_wp2_with fail
          go_loopw [88] (fun i wq => ∃ j : Nat, j ≤ Sn ∧ i = .int .i64 j ∧ wq = w7) (fun i _ => Sn - (intOf i).toNat)
          case atStart => exact ⟨0, Nat.zero_le _, rfl, rfl⟩
          case round =>
            obtain ⟨j, hj, rfl, hwq⟩ := hrel
            rw [hwq]
            clear hwq
            by_cases hlt : j < Sn
            · have hlt' : (j : Int) < Sn := by omega
              have hrun := unhide hlk j w7 (by omega) (by omega) rfl
              have hcw := unhide hroom j
              obtain ⟨cn, hcn⟩ : ∃ cn : Nat, Hid ((part Sn L j).length = cn) := ⟨_, rfl⟩
              rw [hcn.out] at hrun hcw
              go_wp2_with fail
              go_roundw
              case rel => exact ⟨j + 1, by omega, by simp, trivial⟩
              case measure => simp [intOf]; omega
            · obtain rfl : j = Sn := by omega
              obtain ⟨⟨v1, ok1⟩, hvv⟩ : ∃ b, Hid (vicA j W L x (-1) = b) := ⟨_, rfl⟩
              have hvv2 : Hid (vicA j W (part j L k) x (-1) = (v1, ok1)) := by rw [← hk.out, vic_part]; exact hvv
              go_wp2_with fail
              go_at_call 18
              refine (victim_c p F j W x (-1) L w7 (unhide hE).n).mono ?_
              rw [hvv.out]
              rintro e w8 ⟨rfl, n8, rfl⟩
              go_wp2_with fail
              go_at_call 18
              refine (victim_c q G j W x (-1) _ _ ((unhide hE).m.drewN _)).mono ?_
              rw [hvv2.out]
              rintro e w9 ⟨rfl, n9, rfl⟩
              obtain ⟨cn, hcn⟩ : ∃ cn : Nat, Hid ((part j L k).length = cn) := ⟨_, rfl⟩
              obtain ⟨w0, hw0⟩ : ∃ w0, (w7.drewN (n8 + n9)).drew = w0 := ⟨_, rfl⟩
              have hE0 : Hid (Pair w w0 p q F G j W k L) := by rw [← hw0]; exact (unhide hE).quiet (belD _ _).drew
              have hrun0 : ∀ w', w'.heap[m2]? = w0.heap[m2]? → (Instr.lookup 41 (.map (some m2)) (.int .i64 k) false).run Try.prog w' = .ok (.int .i64 (cn : Nat)) w' := fun w' e => by
                have := unhide hlk k w' bk.1 (by omega) (by rw [e, ← hw0]; rfl)
                rwa [hcn.out] at this
              replace hrun0 := hide hrun0
              have hm20 : m2 < w0.heap.size := by rw [← hw0]; exact hm2l
              go_wp2_with fail
              refine wp_region_noPanic ?_
              refine wp_region_held_drew (S := fun w' => (Instr.lookup 41 (.map (some m2)) (.int .i64 k) false).run Try.prog w' = .ok (.int .i64 (cn : Nat)) w') (by kernel_rfl) ?_ (fun hHeld => ?_)
              · rw [hw0]; exact unhide hrun0 _ rfl
              rw [hw0] at hHeld ⊢
              clear hw0 hE hlk
              refine hand_take (i := 0) (d := some 109) (v := ?_) rfl (by kernel_rfl) (by kernel_rfl) (by kernel_rfl) (fun _ _ _ h => h) ?_ hHeld ?_
              rotate_left
              · intro o ho
                simp at ho
                subst ho
                intro wz hSw
                try dsimp only at hSw
                go_simp
                try with_reducible rfl
              try simp only [Act.put, List.setIfInBounds_toArray, List.set_cons_zero, List.set_cons_succ]
              refine hand_take (i := 1) (d := some 110) (v := ?_) rfl (by kernel_rfl) (by kernel_rfl) (by kernel_rfl) (fun _ _ _ h => h) ?_ hHeld ?_
              rotate_left
              · intro o ho
                simp at ho
                subst ho
                intro wz hSw
                try dsimp only at hSw
                go_simp
                try with_reducible rfl
              try simp only [Act.put, List.setIfInBounds_toArray, List.set_cons_zero, List.set_cons_succ]
              refine hand_take (i := 2) (d := some 111) (v := ?_) rfl (by kernel_rfl) (by kernel_rfl) (by kernel_rfl) (fun _ _ _ h => h) ?_ hHeld ?_
              rotate_left
              · intro o ho
                simp at ho
                subst ho
                intro wz hSw
                try dsimp only at hSw
                go_simp
                try with_reducible rfl
              try simp only [Act.put, List.setIfInBounds_toArray, List.set_cons_zero, List.set_cons_succ]
              refine hand_take (i := 3) (d := some 112) (v := ?_) rfl (by kernel_rfl) (by kernel_rfl) (by kernel_rfl) (fun _ _ _ h => h) ?_ hHeld ?_
              rotate_left
              · intro o ho
                simp at ho
                subst ho
                intro wz hSw
                try dsimp only at hSw
                go_simp
                try with_reducible rfl
              try simp only [Act.put, List.setIfInBounds_toArray, List.set_cons_zero, List.set_cons_succ]
              refine hand_call (i := 4) rfl (by kernel_rfl) ?_
              intro o ho
              simp at ho
              subst ho
              intro K hK
              go_simp
              go_at_call 23
              refine (list_c q G j W _ w0 (unhide hE0).m).mono ?_
              rintro e w9 ⟨v9, g9, rfl, hg9, hO9, hb9⟩
              have hfin : Hid (Below w.heap.size w w9) := ((unhide hE0).quiet hb9).bel
              obtain ⟨ao9, cap9, rfl, -, -, -⟩ := hO9
              rw [listA_len, hcn.out]
              refine hK.out _ _ ?_ (fun hHeld => ?_)
              · exact unhide hrun0 _ (hb9.block m2 hm20)
              clear hK K hb9 hg9
              try simp only [Act.put, List.setIfInBounds_toArray, List.set_cons_zero, List.set_cons_succ]
              refine hand_take (i := 5) (d := some 114) (v := ?_) rfl (by kernel_rfl) (by kernel_rfl) (by kernel_rfl) (fun _ _ _ h => h) ?_ hHeld ?_
              rotate_left
              · intro o ho
                simp at ho
                subst ho
                intro wz hSw
                try dsimp only at hSw
                go_simp
                try with_reducible rfl
              try simp only [Act.put, List.setIfInBounds_toArray, List.set_cons_zero, List.set_cons_succ]
              refine hand_take (i := 6) (d := some 115) (v := ?_) rfl (by kernel_rfl) (by kernel_rfl) (by kernel_rfl) (fun _ _ _ h => h) ?_ hHeld ?_
              rotate_left
              · intro o ho
                simp at ho
                subst ho
                intro wz hSw
                try dsimp only at hSw
                go_simp
                try with_reducible rfl
              try simp only [Act.put, List.setIfInBounds_toArray, List.set_cons_zero, List.set_cons_succ]
              refine hand_take (i := 7) (d := some 116) (v := ?_) rfl (by kernel_rfl) (by kernel_rfl) (by kernel_rfl) (fun _ _ _ h => h) ?_ hHeld ?_
              rotate_left
              · intro o ho
                simp at ho
                subst ho
                intro wz hSw
                try dsimp only at hSw
                go_simp
                try with_reducible rfl
              try simp only [Act.put, List.setIfInBounds_toArray, List.set_cons_zero, List.set_cons_succ]
              refine hand_take (i := 8) (d := some 117) (v := ?_) rfl (by kernel_rfl) (by kernel_rfl) (by kernel_rfl) (fun _ _ _ h => h) ?_ hHeld ?_
              rotate_left
              · intro o ho
                simp at ho
                subst ho
                intro wz hSw
                try dsimp only at hSw
                go_simp
                try with_reducible rfl
              try simp only [Act.put, List.setIfInBounds_toArray, List.set_cons_zero, List.set_cons_succ]
              refine hand_take (i := 9) (d := some 118) (v := ?_) rfl (by kernel_rfl) (by kernel_rfl) (by kernel_rfl) (fun _ _ _ h => h) ?_ hHeld ?_
              rotate_left
              · intro o ho
                simp at ho
                subst ho
                intro wz hSw
                try dsimp only at hSw
                go_simp
                try with_reducible rfl
              try simp only [Act.put, List.setIfInBounds_toArray, List.set_cons_zero, List.set_cons_succ]
              refine hand_take (i := 10) (d := some 119) (v := ?_) rfl (by kernel_rfl) (by kernel_rfl) (by kernel_rfl) (fun _ _ _ h => h) ?_ hHeld ?_
              rotate_left
              · intro o ho
                simp at ho
                subst ho
                intro wz hSw
                try dsimp only at hSw
                go_simp
                try with_reducible rfl
              try simp only [Act.put, List.setIfInBounds_toArray, List.set_cons_zero, List.set_cons_succ]
              refine hand_take (i := 11) (d := some 120) (v := ?_) rfl (by kernel_rfl) (by kernel_rfl) (by kernel_rfl) (fun _ _ _ h => h) ?_ hHeld ?_
              rotate_left
              · intro o ho
                simp at ho
                subst ho
                intro wz hSw
                try dsimp only at hSw
                go_simp
                try with_reducible rfl
              try simp only [Act.put, List.setIfInBounds_toArray, List.set_cons_zero, List.set_cons_succ]
              refine hand_take (i := 12) (d := some 121) (v := ?_) rfl (by kernel_rfl) (by kernel_rfl) (by kernel_rfl) (fun _ _ _ h => h) ?_ hHeld ?_
              rotate_left
              · intro o ho
                simp at ho
                subst ho
                intro wz hSw
                try dsimp only at hSw
                go_simp
                try with_reducible rfl
              try simp only [Act.put, List.setIfInBounds_toArray, List.set_cons_zero, List.set_cons_succ]
              refine hand_take (i := 13) (d := some 122) (v := ?_) rfl (by kernel_rfl) (by kernel_rfl) (by kernel_rfl) (fun _ _ _ h => h) ?_ hHeld ?_
              rotate_left
              · intro o ho
                simp at ho
                subst ho
                intro wz hSw
                try dsimp only at hSw
                go_simp
                try with_reducible rfl
              try simp only [Act.put, List.setIfInBounds_toArray, List.set_cons_zero, List.set_cons_succ]
              refine hand_take (i := 14) (d := some 123) (v := ?_) rfl (by kernel_rfl) (by kernel_rfl) (by kernel_rfl) (fun _ _ _ h => h) ?_ hHeld ?_
              rotate_left
              · intro o ho
                simp at ho
                subst ho
                intro wz hSw
                try dsimp only at hSw
                go_simp
                try with_reducible rfl
              try simp only [Act.put, List.setIfInBounds_toArray, List.set_cons_zero, List.set_cons_succ]
              refine hand_take (i := 15) (d := some 124) (v := ?_) rfl (by kernel_rfl) (by kernel_rfl) (by kernel_rfl) (fun _ _ _ h => h) ?_ hHeld ?_
              rotate_left
              · intro o ho
                simp at ho
                subst ho
                intro wz hSw
                try dsimp only at hSw
                go_simp
                try with_reducible rfl
              try simp only [Act.put, List.setIfInBounds_toArray, List.set_cons_zero, List.set_cons_succ]
              refine hand_take (i := 16) (d := some 125) (v := ?_) rfl (by kernel_rfl) (by kernel_rfl) (by kernel_rfl) (fun _ _ _ h => h) ?_ hHeld ?_
              rotate_left
              · intro o ho
                simp at ho
                subst ho
                intro wz hSw
                try dsimp only at hSw
                go_simp
                try with_reducible rfl
              try simp only [Act.put, List.setIfInBounds_toArray, List.set_cons_zero, List.set_cons_succ]
              refine hand_take (i := 17) (d := some 6) (v := ?_) rfl (by kernel_rfl) (by kernel_rfl) (by kernel_rfl) (fun _ _ _ h => h) ?_ hHeld ?_
              rotate_left
              · intro o ho
                simp at ho
                subst ho
                intro wz hSw
                try dsimp only at hSw
                go_simp
                try with_reducible rfl
              try simp only [Act.put, List.setIfInBounds_toArray, List.set_cons_zero, List.set_cons_succ]
              refine wpAnyH_done (by kernel_rfl) (NoPanic.normal ?_) _
              clear hHeld
              go_wp2_with fail
              go_ret
              exact ⟨rfl, unhide hfin⟩
end Go.Proofs.Ytameolfdbmepmaa
