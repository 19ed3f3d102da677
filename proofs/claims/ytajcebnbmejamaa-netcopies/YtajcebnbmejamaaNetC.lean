/- The contracts of slices.Delete at letters, and of package net's remove, Take, Drop (layer 6). -/
import Derived.Test.YtajcebnbmejamaaNetB
namespace Go.Proofs.Ytajcebnbmejamaa
open Go.ChangeShapes Go.WideShapes Go.ChangeAt Go.RowKit
set_option linter.unusedSimpArgs false
set_option linter.unusedVariables false

attribute [local go_sem, local simp] over_const setCell_drewN alloc_drewN Over.cell Over.frozen lt_s1 lt_s2 lt_s3 le_s0 le_s1 le_s2 le_s3 eq_s0 eq_s1 eq_s2 qe_s0

section
variable {w : World} {ops : Array Oper} {o : Oper} {a : Act} {Q : Exit → Act → World → Prop}

theorem run_cpy {ty : TypeId} {g od dLen dCap : Nat} {ad : Addr} {sLen sCap : Nat} (cs : List Value) (hn : cs.length = Nat.min sLen dLen * 11) (hsrc : ∀ j u, cs[j]? = some u → w.cell? (ad.add j) = some u)
    (hc : ∀ j, j < cs.length → (w.cell? ⟨g, od + j, none⟩).isSome = true ∧ w.frozen? ⟨g, od + j, none⟩ = false) (h1 : ∀ u ∈ cs, u.oneCell' = true) :
    (Builtin.copy_ #[29, 29] ty #[.slice (some ⟨g, od, none⟩) dLen dCap, .slice (some ad) sLen sCap]).run Try.prog w = .ok (goInt (Nat.min sLen dLen)) (w.setCells g od cs) := by
  obtain ⟨i0, hi, hz0, hz1, hz2⟩ := info_parts infoL
  have hl := run_loadCells_list (P := Try.prog) w ad cs hsrc
  have hst := run_storeCells_cells (P := Try.prog) g od cs 0 w (fun j hj => (by simpa using (hc j hj).1)) (fun j hj => (by simpa using (hc j hj).2)) h1
  rw [hn] at hl
  simp only [Nat.add_zero] at hst
  simp [Builtin.copy_, run_underlying Try.underlying29, Builtin.lenOf, Builtin.firstCells, sizeOf, typeInfo, hi, hz1, hl, hst]

theorem step_cpy {K : Act → World → Prop} {E : Prop} (hgd : o.guard = none) (d s : Operand) (ho : o.op = .call { callee := .builtin .copy, args := #[d, s], argTypes := #[29, 29] })
    {g od dLen dCap : Nat} {ad : Addr} {sLen sCap : Nat} (hd : a.eval d = .slice (some ⟨g, od, none⟩) dLen dCap) (hs : a.eval s = .slice (some ad) sLen sCap) (cs : List Value) (hn : cs.length = Nat.min sLen dLen * 11) (hsrc : ∀ j u, cs[j]? = some u → w.cell? (ad.add j) = some u)
    (hc : ∀ j, j < cs.length → (w.cell? ⟨g, od + j, none⟩).isSome = true ∧ w.frozen? ⟨g, od + j, none⟩ = false) (h1 : ∀ u ∈ cs, u.oneCell' = true)
    (hK : K (a.put o.dst (goInt (Nat.min sLen dLen))) (w.setCells g od cs)) : if Region.wanted o (yielded ops a.tmps) = true then Oper.wp Try.prog o a w K Q else E := by
  have hw : Region.wanted o (yielded ops a.tmps) = true := by simp [Region.wanted, hgd]
  rw [if_pos hw]
  have hr := run_cpy (ty := o.type) (dCap := dCap) (sCap := sCap) cs hn hsrc hc h1
  unfold Oper.wp execOp
  simp only [ho, resolve, invoke, builtin, Sem.run_bind, Sem.run_pure, Result.andThen_ok, List.map_toArray, List.map_cons, List.map_nil, hs, hd, hr]
  exact hK
end

theorem run_clr {ty : TypeId} {w : World} {g od n c : Nat} (h0 : 0 < n) (hc : ∀ j, j < n * 11 → (w.cell? ⟨g, od + j, none⟩).isSome = true ∧ w.frozen? ⟨g, od + j, none⟩ = false) :
    (Builtin.clear_ #[29] ty #[.slice (some ⟨g, od, none⟩) n c]).run Try.prog w = .ok (.tuple #[]) (w.setCells g od (Builtin.zeroCells (letV zeroL).cells n).toList) := by
  obtain ⟨i0, hi, hz0, hz1, hz2⟩ := info_parts infoL
  have hsz : (Builtin.zeroCells (letV zeroL).cells n).toList.length = n * 11 := by rw [Array.length_toList, size_zeroCells]; rfl
  have h1 : ∀ u ∈ (Builtin.zeroCells (letV zeroL).cells n).toList, u.oneCell' = true := by
    intro u hu
    simp only [Builtin.zeroCells, letV, Value.cells, zeroL] at hu
    simp at hu
    obtain ⟨i, _, rfl⟩ := hu
    have : i % 11 < 11 := Nat.mod_lt _ (by omega)
    generalize i % 11 = q at this ⊢
    match q, this with
    | 0, _ | 1, _ | 2, _ | 3, _ | 4, _ | 5, _ | 6, _ | 7, _ | 8, _ | 9, _ | 10, _ => rfl
  have hst := run_storeCells_cells (P := Try.prog) g od (Builtin.zeroCells (letV zeroL).cells n).toList 0 w (fun j hj => (by rw [hsz] at hj; simpa using (hc j hj).1)) (fun j hj => (by rw [hsz] at hj; simpa using (hc j hj).2)) h1
  simp only [Nat.add_zero] at hst
  obtain ⟨m, rfl⟩ : ∃ m, n = m + 1 := ⟨n - 1, by omega⟩
  simp [Builtin.clear_, run_underlying Try.underlying29, zeroValue, typeInfo, hi, hz0, hst]

theorem flat_erase (L : List Lt) (k j : Nat) (hk : k < L.length) (hj : j < (L.length - 1) * 11) : (flat (L.eraseIdx k))[j]? = if j < k * 11 then (flat L)[j]? else (flat L)[j + 11]? := by
  rw [List.eraseIdx_eq_take_drop_succ, flat_append, flat_take L k (by omega), flat_drop L (k + 1) (by omega)]
  have hl := flat_length L
  by_cases c : j < k * 11
  · rw [if_pos c, List.getElem?_append_left (by rw [List.length_take]; omega), List.getElem?_take, if_pos c]
  · rw [if_neg c, List.getElem?_append_right (by rw [List.length_take]; omega), List.length_take, List.getElem?_drop]
    congr 1
    omega

/-- The front moved up by one. -/
theorem own_front {w : World} {g o cap k : Nat} {L : List Lt} (hk : k < L.length) (hle : L.length ≤ cap) (hmx : cap ≤ maxLen) (hg : g < w.heap.size) (hc : ∀ j, j < L.length * 11 → w.cell? ⟨g, o + j, none⟩ = (flat L)[j]?)
    (hsp : ∀ j, j < cap * 11 → (w.cell? ⟨g, o + j, none⟩).isSome = true ∧ w.frozen? ⟨g, o + j, none⟩ = false) :
    Own (w.setCells g (o + 11) (flat (L.take k))) (.slice (some ⟨g, o + 11, none⟩) (L.length - 1) (cap - 1)) g (L.eraseIdx k) := by
  have hlk : (flat (L.take k)).length = k * 11 := by rw [flat_length, List.length_take]; omega
  have hel : (L.eraseIdx k).length = L.length - 1 := by rw [List.length_eraseIdx]; simp [hk]
  refine ⟨some ⟨g, o + 11, none⟩, cap - 1, by rw [hel], by omega, by omega, Nat.lt_of_lt_of_le hg (setCells_fr g _ _ w).size, .inr ⟨o + 11, rfl, fun j hj => ?_, fun j hj => ?_⟩⟩
  · rw [hel] at hj
    rw [flat_erase L k j hk hj]
    by_cases c : j < k * 11
    · rw [if_pos c, World.cell?_setCells_in g (flat (L.take k)) (o + 11) w (fun i hi => by rw [hlk] at hi; rw [Nat.add_assoc]; exact (hsp _ (by omega)).1) j (by omega), ← List.getElem?_eq_getElem, flat_take L k (by omega), List.getElem?_take, if_pos c]
    · rw [if_neg c, World.cell?_setCells_out _ _ _ _ _ (fun _ _ => .inr (by simp; omega)), Nat.add_assoc, hc _ (by omega), Nat.add_comm]
  · rw [Nat.add_assoc]
    exact ⟨World.isSome_setCells _ _ _ _ _ (hsp _ (by omega)).1, by rw [World.frozen?_setCells]; exact (hsp _ (by omega)).2⟩

/-- The back moved down by one, and the last one cleared. -/
theorem own_back {w : World} {g o cap k : Nat} {L : List Lt} {zs : List Value} (hk : k < L.length) (hle : L.length ≤ cap) (hmx : cap ≤ maxLen) (hg : g < w.heap.size) (hc : ∀ j, j < L.length * 11 → w.cell? ⟨g, o + j, none⟩ = (flat L)[j]?)
    (hsp : ∀ j, j < cap * 11 → (w.cell? ⟨g, o + j, none⟩).isSome = true ∧ w.frozen? ⟨g, o + j, none⟩ = false) :
    Own ((w.setCells g (o + k * 11) (flat (L.drop (k + 1)))).setCells g (o + (L.length - 1) * 11) zs) (.slice (some ⟨g, o, none⟩) (L.length - 1) cap) g (L.eraseIdx k) := by
  have hlk : (flat (L.drop (k + 1))).length = (L.length - (k + 1)) * 11 := by rw [flat_length, List.length_drop]
  have hel : (L.eraseIdx k).length = L.length - 1 := by rw [List.length_eraseIdx]; simp [hk]
  refine ⟨some ⟨g, o, none⟩, cap, by rw [hel], by omega, by omega, Nat.lt_of_lt_of_le hg (Nat.le_trans (setCells_fr g _ _ w).size (setCells_fr g _ _ _).size), .inr ⟨o, rfl, fun j hj => ?_, fun j hj => ?_⟩⟩
  · rw [hel] at hj
    rw [flat_erase L k j hk hj, World.cell?_setCells_out _ _ _ _ _ (fun _ _ => .inl (by simp; omega))]
    by_cases c : j < k * 11
    · rw [if_pos c, World.cell?_setCells_out _ _ _ _ _ (fun _ _ => .inl (by simp; omega)), hc _ (by omega)]
    · have := World.cell?_setCells_in g (flat (L.drop (k + 1))) (o + k * 11) w (fun i hi => by rw [hlk] at hi; rw [Nat.add_assoc]; exact (hsp _ (by omega)).1) (j - k * 11) (by omega)
      rw [show o + k * 11 + (j - k * 11) = o + j by omega] at this
      rw [if_neg c, this, ← List.getElem?_eq_getElem, flat_drop L (k + 1) (by omega), List.getElem?_drop]
      congr 1
      omega
  · exact ⟨World.isSome_setCells _ _ _ _ _ (World.isSome_setCells _ _ _ _ _ (hsp _ (by omega)).1), by rw [World.frozen?_setCells, World.frozen?_setCells]; exact (hsp _ (by omega)).2⟩
end Go.Proofs.Ytajcebnbmejamaa
