/- layer 15: PairMap, put together. -/
import Derived.Test.YtoenjdnccgmhoaaGreatDoorB15
import Derived.DeepKeys4
namespace Go.Proofs.YtoenjdnccgmhoaaGreatDoor
open Go.ChangeShapes Go.WideShapes Go.ChangeAt Go.RowKit
set_option linter.unusedSimpArgs false
set_option linter.unusedVariables false
set_option maxRecDepth 10000
attribute [local go_sem, local simp] over_const setCell_drewN alloc_drewN Over.cell Over.frozen lt_s1 lt_s2 lt_s3 le_s0 le_s1 le_s2 le_s3 eq_s0 eq_s1 eq_s2 qe_s0
open Go.Maps (Keyed)
theorem pr_laid : laidOutB Tryz.prog = true := by kernel_rfl
theorem pr_row : (73 : TypeId) < Tryz.prog.types.size := of_decide_eq_true (by kernel_rfl)
theorem pr_wide : (match Tryz.prog.underlying 73 with | some (.array _ _) | some (.struct _) => true | _ => false) = true := by rw [Tryz.underlying73]
theorem pr_law : Keyed Tryz.prog 73 := Keyed.of_law (deep_law_laid pr_laid (m := 2) (by omega) pr_row (by kernel_rfl) pr_wide)
def pairV (p : Int × Int) : Value := .agg #[.int .i64 p.1, .int .i64 p.2]
def pairL (p : Int × Int) : Lit := .string (keyBytes [.int .i64 p.1, .int .i64 p.2])
theorem pr_deep : Tryz.prog.keyTypeAt (Tryz.prog.types.size + 1) 73 = true := by kernel_rfl
theorem pr_cells : Tryz.prog.cellsOf 73 = 2 := by kernel_rfl
theorem pr_cell : Tryz.prog.cellsOf 3 = 1 := by kernel_rfl
theorem pr_size : ∃ n, Tryz.prog.types.size = n + 1 := ⟨Tryz.prog.types.size - 1, (Nat.succ_pred_eq_of_pos (Nat.lt_of_le_of_lt (Nat.zero_le _) pr_row)).symm⟩
theorem pair_key {p : Int × Int} (h1 : I64 p.1) (h2 : I64 p.2) : keyOf Tryz.prog 73 (pairV p) = some (pairL p) := by
  obtain ⟨n, hn⟩ := pr_size
  have hl : Tryz.prog.keyLits (Tryz.prog.types.size + 1) 73 [.int .i64 p.1, .int .i64 p.2] = some [.int .i64 p.1, .int .i64 p.2] := by
    rw [hn]
    have e : ∀ x, I64 x → Tryz.prog.keyLits (n + 1) 3 [.int .i64 x] = some [.int .i64 x] := fun x hx => by
      simp [Program.keyLits, Tryz.underlying3, key_wfI hx]
    have r : List.range 2 = [0, 1] := rfl
    unfold Program.keyLits
    simp [Tryz.underlying73, pr_cells, pr_cell, r, e _ h1, e _ h2]
  unfold keyOf pairV pairL
  simp only [Tryz.underlying73]
  rw [if_pos (by rw [show Tryz.prog.keyType 73 = true from pr_deep]; simp [Value.formed, Tryz.underlying73, pr_cells])]
  rw [show (Value.agg #[.int .i64 p.1, .int .i64 p.2]).cells.toList = [.int .i64 p.1, .int .i64 p.2] from rfl, hl]
  rfl
theorem pair_inj {p q : Int × Int} (h1 : I64 p.1) (h2 : I64 p.2) (h3 : I64 q.1) (h4 : I64 q.2) (h : pairL p = pairL q) : p = q := by
  have := pr_law.inj (pair_key h1 h2) (h ▸ pair_key h3 h4)
  unfold pairV at this
  obtain ⟨a, b⟩ := p
  obtain ⟨c, d⟩ := q
  simp at this
  rw [this.1, this.2]
theorem zeroBoP (w : World) : (zeroValue 4).run Tryz.prog w = .ok (.bool false) w := by kernel_rfl
def TlIs (w : World) (m : Nat) (K : List (Int × Int)) : Prop :=
  ∃ D, w.ownsMap Tryz.prog 73 heldR m 2000 D ∧ Maps.size D ≤ K.length ∧ (∀ p ∈ K, I64 p.1 ∧ I64 p.2) ∧ ∀ p, I64 p.1 → I64 p.2 → p ∉ K → D.atKey (pairL p) (.held (.bool false)) = .held (.bool false)
theorem TlIs.lt {w : World} {m : Nat} {K : List (Int × Int)} (h : TlIs w m K) : m < w.heap.size := by
  obtain ⟨D, h, _⟩ := h
  exact h.lt
theorem TlIs.carry {w w' : World} {m : Nat} {K : List (Int × Int)} (h : TlIs w m K) (e : w'.heap[m]? = w.heap[m]?) : TlIs w' m K := by
  obtain ⟨D, h1, h2⟩ := h
  exact ⟨D, ownsMap_carry h1 e, h2⟩
theorem TlIs.fr {w w' : World} {m : Nat} {K : List (Int × Int)} {F : Nat → Prop} (h : TlIs w m K) (hf : FrS F w w') (hn : ¬ F m) : TlIs w' m K := h.carry (hf.block _ h.lt hn)
theorem TlIs.below {w w' : World} {m : Nat} {K : List (Int × Int)} (h : TlIs w m K) (hb : Below w.heap.size w w') : TlIs w' m K := h.carry (hb.block _ h.lt)
theorem tl_new {w : World} {m : Nat} (h : w.ownsMap Tryz.prog 73 heldR m 0 (.map [])) : TlIs w m [] :=
  ⟨.map [], h.mono (by omega), by simp [Maps.size_eq], fun p hp => by simp at hp, fun p _ _ _ => by simp [DataW.atKey]⟩
theorem tl_look {w : World} {m : Nat} {K : List (Int × Int)} (h : TlIs w m K) {p : Int × Int} (h1 : I64 p.1) (h2 : I64 p.2) (hp : p ∉ K) : (Instr.lookup 72 (.map (some m)) (pairV p) false).run Tryz.prog w = .ok (.bool false) w := by
  obtain ⟨D, o, _, _, h3⟩ := h
  obtain ⟨u, ps, hrun, hu⟩ := o.lookup pr_law Tryz.underlying72 (zeroBoP w) (zd := .held (.bool false)) (zp := []) rfl (pair_key h1 h2)
  rw [h3 p h1 h2 hp] at hu
  simp [heldR] at hu
  rw [hrun, hu.1]
theorem tl_put {w : World} {m : Nat} {K : List (Int × Int)} (h : TlIs w m K) {p : Int × Int} (h1 : I64 p.1) (h2 : I64 p.2) (hl : K.length + 1 ≤ 2000) :
    ∃ w2, (Instr.mapUpdate 72 (.map (some m)) (pairV p) (.bool true)).run Tryz.prog w = .ok () w2 ∧ TlIs w2 m (p :: K) ∧ FrS (· = m) w w2 := by
  obtain ⟨D, o, hs, hK, h3⟩ := h
  obtain ⟨w2, hrun, hown2, hgr⟩ := o.update pr_law Tryz.underlying72 (by decide) (pair_key h1 h2) (val := .bool true) (d := .held (.bool true)) (ps := []) rfl
  have hT := o.tidy pr_law
  have hsz : Maps.size (D.put (pairL p) (.held (.bool true))) ≤ (p :: K).length := by
    rw [Maps.size_put (k := pairL p) hT]
    simp only [List.length_cons]
    split <;> omega
  refine ⟨w2, hrun, ⟨_, ownsMap_size hown2 (by simp only [List.length_cons] at hsz; omega), hsz, fun q hq => ?_, fun q q1 q2 hq => ?_⟩, FrS.grown hgr⟩
  · rcases List.mem_cons.1 hq with rfl | hq
    · exact ⟨h1, h2⟩
    · exact hK q hq
  · simp only [List.mem_cons, not_or] at hq
    exact (Maps.atKey_put_other (fun e => hq.1 (pair_inj q1 q2 h1 h2 e)) _ _).trans (h3 q q1 q2 hq.2)
end Go.Proofs.YtoenjdnccgmhoaaGreatDoor
