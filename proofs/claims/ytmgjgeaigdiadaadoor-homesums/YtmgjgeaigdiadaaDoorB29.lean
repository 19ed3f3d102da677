/- layer 16: MapWalk, put together. -/
import Derived.Test.YtmgjgeaigdiadaaDoorB11
import Derived.Deep.Upon
import Derived.Laws.Externs
import Derived.MapKept
namespace Go.Proofs.YtmgjgeaigdiadaaDoor
open Go.ChangeShapes Go.WideShapes Go.ChangeAt Go.RowKit
set_option linter.unusedSimpArgs false
set_option linter.unusedVariables false
set_option maxRecDepth 10000
attribute [local go_sem, local simp] over_const setCell_drewN alloc_drewN Over.cell Over.frozen lt_s1 lt_s2 lt_s3 le_s0 le_s1 le_s2 le_s3 eq_s0 eq_s1 eq_s2 qe_s0
section
variable {P : Program} {w w2 : World} {ops : Array Oper} {rest : List Oper} {o : Oper} {a : Act} {Q : Exit → Act → World → Prop}
theorem wpList_look {t : TypeId} {mv kv v : Value} (hg : o.guard = none) (m x : Operand) (ho : o.op = Op.lookup t m x false) (hm : a.eval m = mv) (hx : a.eval x = kv) (hr : (Instr.lookup t mv kv false).run P w = .ok v w) (h : wpList P ops Q rest (a.put o.dst v) w) : wpList P ops Q (o :: rest) a w :=
  wpList_plain hg fun _ hK => wp_look m x ho hm hx hr (hK _ _ h)
theorem wpList_look2 {t : TypeId} {mv kv v : Value} (hg : o.guard = none) (m x : Operand) (ho : o.op = Op.lookup t m x true) (hm : a.eval m = mv) (hx : a.eval x = kv) (hr : (Instr.lookup t mv kv true).run P w = .ok v w) (h : wpList P ops Q rest (a.put o.dst v) w) : wpList P ops Q (o :: rest) a w :=
  wpList_plain hg fun K' hK => by
    unfold Oper.wp
    simp [execOp, ho, hm, hx, hr, Result.andThen]
    exact hK _ _ h
theorem wpList_upd {t : TypeId} {mv kv vv : Value} (hg : o.guard = none) (m x v : Operand) (ho : o.op = Op.mapUpdate t m x v) (hm : a.eval m = mv) (hx : a.eval x = kv) (hv : a.eval v = vv) (hr : (Instr.mapUpdate t mv kv vv).run P w = .ok () w2) (h : wpList P ops Q rest (a.put o.dst undef) w2) : wpList P ops Q (o :: rest) a w :=
  wpList_plain hg fun _ hK => wp_upd m x v ho hm hx hv hr (hK _ _ h)
theorem wpList_del {R : World → Prop} {t k : TypeId} {mv kv : Value} (hg : o.guard = none) (m x : Operand) (ho : o.op = Op.call { callee := Callee.builtin Builtin.delete, args := #[m, x], argTypes := #[t, k] }) (hm : a.eval m = mv) (hx : a.eval x = kv) (hr : ∀ ty, ∃ w2, (Builtin.delete_ #[t, k] ty #[mv, kv]).run P w = .ok (.tuple #[]) w2 ∧ R w2) (h : ∀ w2, R w2 → wpList P ops Q rest (a.put o.dst (.tuple #[])) w2) : wpList P ops Q (o :: rest) a w := by
  refine wpList_plain hg fun K' hK' => ?_
  obtain ⟨w2, hrun, hR⟩ := hr o.type
  unfold Oper.wp
  simp [execOp, ho, resolve, invoke, builtin, hm, hx, hrun, Result.andThen]
  exact hK' _ _ (h w2 hR)
end
section
variable {P : Program} {w : World} {o : Oper} {a : Act} {Q : Exit → Act → World → Prop} {K : Act → World → Prop}
theorem wp_updE {R : World → Prop} {t : TypeId} {mv kv vv : Value} (m x v : Operand) (ho : o.op = Op.mapUpdate t m x v) (hm : a.eval m = mv) (hx : a.eval x = kv) (hv : a.eval v = vv) (hr : ∃ w2, (Instr.mapUpdate t mv kv vv).run P w = .ok () w2 ∧ R w2) (h : ∀ w2, R w2 → K (a.put o.dst undef) w2) : o.wp P a w K Q := by
  obtain ⟨w2, h1, h2⟩ := hr
  exact wp_upd m x v ho hm hx hv h1 (h w2 h2)
end
section
variable {P : Program} (w : World)
theorem run_eqlIn_map_nil (d : Nat) (t k e : TypeId) (p : Option Nat) (h : P.underlying t = some (.map k e)) : (Op.equalIn (d + 1) t (.map p) (.map none)).run P w = .ok p.isNone w := by
  cases p <;> simp [Op.equalIn, run_underlying h]
theorem run_eql_map_nil (t k e : TypeId) (p : Option Nat) (h : P.underlying t = some (.map k e)) : (binOp .eql t (.map p) (.map none)).run P w = .ok (.bool p.isNone) w := by
  simp only [binOp]
  simp [show Op.equal t (.map p) (.map none) = Op.equalIn (9999 + 1) t (.map p) (.map none) from rfl, run_eqlIn_map_nil w 9999 t k e p h]
theorem run_assert_map (t xT k e : TypeId) (v : Value) (h : P.underlying t = some (.map k e)) : (Instr.typeAssert (.iface t v) xT t false).run P w = .ok v w := by
  simp [Instr.typeAssert, run_underlying h, go_sem, Result.andThen]
theorem run_clone_map {r : Nat} {es : Array MapEntry} {clock : Nat} (t : TypeId) (hb : w.heap[r]? = some (.map es clock)) :
    (Extern.MapsClone.clone #[.iface t (.map (some r))]).run P w = .ok (.iface t (.map (some w.heap.size))) (w.alloc (.map es clock)) := by
  obtain ⟨msg, e⟩ : ∃ msg, Extern.MapsClone.clone #[.iface t (.map (some r))] = (getObj r >>= fun o => match o with
      | .map entries clock => (newObj (.map entries clock) >>= fun n => pure (.iface t (.map (some n))))
      | _ => stuck msg) := ⟨_, rfl⟩
  rw [e]
  simp [MapKept.run_getObj_map hb, Result.andThen, go_sem]
end
end Go.Proofs.YtmgjgeaigdiadaaDoor
