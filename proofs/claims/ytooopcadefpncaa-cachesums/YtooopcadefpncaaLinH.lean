/- The contract of package lines' List (layer 8). -/
import Derived.Test.YtooopcadefpncaaLinG
namespace Go.Proofs.Ytooopcadefpncaa
open Go.ChangeShapes Go.WideShapes Go.ChangeAt Go.RowKit
set_option linter.unusedSimpArgs false
set_option linter.unusedVariables false
set_option maxRecDepth 10000

attribute [local go_sem, local simp] over_const setCell_drewN alloc_drewN Over.cell Over.frozen lt_s1 lt_s2 lt_s3 le_s0 le_s1 le_s2 le_s3 eq_s0 eq_s1 eq_s2 qe_s0

open Go.Maps (Keyed)

abbrev keyL (S x : Int) : Lit := .int .i64 (modZ x S)

/-- Those whose set has come. -/
def come (S : Int) (left : Lit → Bool) (A : List Int) : List Int := A.filter fun x => !left (keyL S x)

theorem come_step_perm {S : Int} {left : Lit → Bool} {k : Int} (A : List Int) (hl : left (.int .i64 k) = true) : (come S left A ++ part S A k).Perm (come S (fun z => left z && !z.sameKey (.int .i64 k)) A) := by
  induction A with
  | nil => exact List.Perm.refl _
  | cons x r ih =>
    simp only [come, part, List.filter_cons] at ih ⊢
    by_cases c : modZ x S = k
    · subst c
      have e : (Lit.int IntKind.i64 (modZ x S)).sameKey (.int .i64 (modZ x S)) = true := WideAt.sameKey_self trivial
      simp [hl, e]
      exact (List.perm_middle).trans (List.Perm.cons x (by simpa using ih))
    · have e : (Lit.int IntKind.i64 (modZ x S)).sameKey (.int .i64 k) = false := Maps.sameKey_ne (fun h => c (by cases h; rfl))
      simp [c, e]
      cases hx : left (.int .i64 (modZ x S))
      · simpa using ih.cons x
      · simpa using ih

theorem come_all {S : Int} {left : Lit → Bool} (A : List Int) (h : ∀ kl, left kl = false) : come S left A = A := by
  simp [come, h]

theorem come_none {S : Int} {left : Lit → Bool} (A : List Int) (h : ∀ x ∈ A, left (keyL S x) = true) : come S left A = [] := by
  rw [come, List.filter_eq_nil_iff]
  intro x hx
  simp [h x hx]

theorem come_len {S : Int} {left : Lit → Bool} (A : List Int) : (come S left A).length ≤ A.length := List.length_filter_le _ _

theorem ranges_carry {H : Type} {w w' : World} {P : Program} {t : TypeId} {R : Value → Option (DataW H × List MemPlace)} {b r n : Nat} {D : DataW H} {left : Lit → Bool} {cnt : Nat} (h : w.ranges P t R b r n D left cnt) (e : w'.heap[b]? = w.heap[b]?) (e' : w'.heap[r]? = w.heap[r]?) : w'.ranges P t R b r n D left cnt := by
  obtain ⟨es, clock, since, seen, c0, h1, h2, h3, h4, h5, h6⟩ := h
  exact ⟨es, clock, since, seen, c0, e.trans h1, h2, h3, h4, e'.trans h5, h6⟩

theorem held_inv {v : Value} {y : DataW Value × List MemPlace} (h : heldR v = some y) : y = (.held v, []) := (Option.some.inj h).symm

/-- What an entry that comes is. -/
theorem SetsIs.entry {w : World} {m : Nat} {rows : Int → Nat} {S : Int} {A : List Int} {D : DataW Value} (h : SetsIs w m rows S A D) {x : Int} {c : Value} {kl : Lit} {y : DataW Value × List MemPlace} (hk : keyOf Try.prog 3 (.int .i64 x) = some kl) (hv : heldR c = some y) (hat : ∀ zd, D.atKey kl zd = y.1) :
    kl = .int .i64 x ∧ 0 ≤ x ∧ x < S ∧ Own w c (rows x) (part S A x) := by
  obtain ⟨x', e, rfl, _⟩ := Maps.keyOf_int_inv Try.underlying3 hk
  cases e
  obtain ⟨k, e, k0, k1⟩ := h.keys _ (Maps.has_true_of_atKey hat)
  cases e
  obtain ⟨v, h1, h2, _⟩ := h.val x k0 k1
  rw [hat, held_inv hv] at h1
  cases h1
  exact ⟨rfl, k0, k1, h2⟩

/-- Each block's set is there. -/
theorem SetsIs.there {w : World} {m : Nat} {rows : Int → Nat} {S : Int} {A : List Int} {D : DataW Value} (h : SetsIs w m rows S A D) (hS : 1 ≤ S) {x : Int} (hx : x ∈ A) : Maps.has D (keyL S x) = true := by
  cases c : Maps.has D (keyL S x)
  · obtain ⟨k0, k1⟩ := modZ_in hS x
    obtain ⟨v, h1, h2, _⟩ := h.val _ k0 k1
    rw [Maps.atKey_of_not_has c] at h1
    cases h1
    have := own_nilV h2
    have h3 := (mem_part (S := S)).2 hx
    rw [this] at h3
    cases h3
  · rfl

set_option maxHeartbeats 2000000 in
theorem list_c (p : Nat) (Ft : Nat → Prop) (S W : Int) (A : List Int) (w : World) (h : LnIs w p Ft S W A) : Calls Try.prog 44 #[ptr p] w fun e w' => ∃ v g, e = .returned v ∧ w.heap.size ≤ g ∧ Own w' v g (listA A) ∧ Below w.heap.size w w' := by
  have hlen := h.inv.len
  have s0 := h.inv.s0
  obtain ⟨m, rows, D, c2, hs, hFm, hmp, hFr⟩ := h.sets
  have hown := hs.own
  have hml := hown.lt
  have hH := hide hs
  have hnone := come_none (left := Maps.has D) A (fun x hx => hs.there s0 hx)
  clear h hs hFr
  go_enter Try.func44, Try.ntmps44
  go_wp2_with (at_range; refine wpList_range_own _ rfl _ 84 rfl 3 77 law Try.underlying84 _ m 64 _ rfl hown ?_; intro w0 hrg0 hg0 hs0)
  go_frame
  obtain ⟨r, hr⟩ : ∃ r, w.heap.size = r := ⟨_, rfl⟩
  have hb0 : Below w.heap.size w w0 := (Below.refl _ _).grown hg0 (Nat.le_refl _) (fun j hj => by cases hj)
  rw [hr] at hrg0 hs0 hb0 ⊢
  have hml' := hml
  rw [hr] at hml'
  go_loopw [3] (fun v wr => ∃ (left : Lit → Bool) (cnt : Nat) (acc : List Int) (g : Nat), wr.ranges Try.prog 3 heldR m r 64 D left cnt ∧ Own wr v g acc ∧ r ≤ g ∧ (g = r → v = nilV) ∧ acc.Perm (come S left A) ∧ Below r w wr) (fun _ wr => wr.rangeLeft m r)
  case atStart => exact ⟨_, _, [], r, hrg0, own_nil (by omega), Nat.le_refl _, fun _ => rfl, by rw [hnone], hb0⟩
  case round =>
    obtain ⟨left, cnt, acc, g, hrg, hO, hrg', hnil, hperm, hb⟩ := hrel
    have hO' := hide hO
    have hnil' := hide hnil
    have hperm' := hide hperm
    have hal : acc.length ≤ 1024 := by rw [hperm.length_eq]; exact Nat.le_trans (come_len A) hlen
    obtain ⟨ao, cap, rfl, _⟩ := hO
    clear hnil hperm
    go_wp2_with (at_next; refine wpList_next_ranges _ rfl _ rfl 3 law heldR (Value.int .i64) (fun c : Value => c) (fun key kl hkey => by obtain ⟨x, rfl, _⟩ := Maps.keyOf_int_inv Try.underlying3 hkey; exact ⟨x, rfl⟩) (fun v y hv => ⟨v, rfl⟩) m r 64 _ _ _ rfl hrg ?_ ?_)
    · intro _ hl0
      have hw := sort_c _ g acc _ (unhide hO') (by omega)
      replace hb := hide hb
      clear hrg
      replace hl0 := hide hl0
      go_wp2_with (go_at_call 64; refine hw.mono ?_; rintro e w2 ⟨rfl, hO2, hf2⟩; replace hO2 := hide hO2; replace hf2 := hide hf2)
      go_ret
      have e1 : listA acc = listA A := by have := unhide hperm'; rw [come_all A (unhide hl0)] at this; exact listA_of_perm this
      have hO3 := unhide hO2
      rw [e1] at hO3
      rw [hr]
      exact ⟨_, g, rfl, hrg', hO3, (unhide hb).trans ((unhide hf2).below (fun i hi => by rw [hi]; exact hrg') (by have := (unhide hb).size; omega))⟩
    · intro x c kl yd yp w1 cnt1 hkey hlk hv hat hrg1 hlt hg1 hs1 hen
      obtain ⟨rfl, x0, x1, hOc⟩ := (unhide hH).entry hkey hv hat
      have hb1 : Below r w w1 := hb.grown hg1 (by have := hb.size; omega) (fun j hj => by cases hj; exact Nat.le_refl _)
      have hgl := (unhide hO').lt
      have hO1 : Hid (Own w1 (.slice ao acc.length cap) g acc) := by
        by_cases e : g = r
        · have e2 := unhide hnil' e
          rw [e2] at hO' ⊢
          rw [own_nilV (unhide hO')]
          exact own_nil (by omega)
        · exact (unhide hO').carry (hg1.block g hgl (by simpa using e))
      have hV1 : Hid (View w1 c (rows x) (part S A x)) := hOc.view.carry (fun _ hl => hb1.block _ (by omega))
      have hpl : (part S A x).length ≤ A.length := List.length_filter_le _ _
      have hst : Hid ((acc ++ part S A x).Perm (come S (fun z => left z && !z.sameKey (.int .i64 x)) A)) := ((unhide hperm').append_right _).trans (come_step_perm A hlk)
      obtain ⟨aoc, capc, rfl, _⟩ := unhide hV1
      clear hOc hs1
      go_wp2_with (at_builtin; refine wpList_app rfl _ _ rfl rfl rfl (unhide hO1) (unhide hV1) (by omega) (acc.length + (part S A x).length) rfl ?_; intro ao' cap' w2 g' hown' hap; go_frame)
      have hg2 : w2.heap[m]? = w1.heap[m]? := by
        by_cases e : g = r
        · exact (hap.nil (unhide hnil' e)).block m (by have := hb1.size; omega)
        · exact hap.fr.block m (by have := hb1.size; omega) (by omega)
      have hr2 : w2.heap[r]? = w1.heap[r]? := by
        by_cases e : g = r
        · exact (hap.nil (unhide hnil' e)).block r hrg1.lt
        · exact hap.fr.block r hrg1.lt (by omega)
      have hrg2 := ranges_carry hrg1 hg2 hr2
      have hl1 := hrg1.lt
      have hap' := hide hap
      have hown2 := hide hown'
      clear hap hown'
      go_roundw
      case rel =>
        have hap := unhide hap'
        refine ⟨_, cnt1, acc ++ part S A x, g', hrg2, unhide hown2, ?_, fun e => ?_, unhide hst, hb1.trans (hap.fr.below (fun i hi => by rw [hi]; exact hrg') (by have := hb1.size; omega))⟩
        · rcases hap.lies with e | e <;> omega
        · have e2 : g = r := by rcases hap.lies with e' | e' <;> omega
          exact hap.keep (by omega) (unhide hnil' e2)
      case measure => rw [hrg2.left_eq, hrg.left_eq]; exact hlt
end Go.Proofs.Ytooopcadefpncaa
