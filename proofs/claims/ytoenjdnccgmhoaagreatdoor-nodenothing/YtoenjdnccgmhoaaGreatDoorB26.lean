/- layer 15: Nd NdA NdB NdC, put together. -/
import Derived.Test.YtoenjdnccgmhoaaGreatDoorB13
import Derived.Test.YtoenjdnccgmhoaaGreatDoorB21
import Derived.Test.YtoenjdnccgmhoaaGreatDoorB23
import Derived.Test.YtoenjdnccgmhoaaGreatDoorB25
import Derived.Test.YtoenjdnccgmhoaaGreatDoorB05
namespace Go.Proofs.YtoenjdnccgmhoaaGreatDoor
open Go.ChangeShapes Go.WideShapes Go.ChangeAt Go.RowKit
set_option linter.unusedSimpArgs false
set_option linter.unusedVariables false
set_option maxRecDepth 10000
attribute [local go_sem, local simp] over_const setCell_drewN alloc_drewN Over.cell Over.frozen lt_s1 lt_s2 lt_s3 le_s0 le_s1 le_s2 le_s3 eq_s0 eq_s1 eq_s2 qe_s0
structure Bk where
  ca : Nat
  tc : Nat
  tt : Nat
  to : Nat
  pr : Nat
  am : Nat
  tm : Nat
abbrev ndC (c : Cf) (id : Int) (B : Bk) : Array Value := #[.int .i64 c.n, .int .i64 c.bl, .int .i64 c.tt, .int .i64 c.cs, .int .i64 c.cy, .int .i64 c.cc, .int .i64 c.cu, .int .i64 c.ct, .int .i64 c.cp, .int .i64 id, ptr B.ca, ptr B.tc, ptr B.pr, .map (some B.am), .map (some B.tm)]
theorem zeroBoE (w : World) : (zeroValue 4).run Tryz.prog w = .ok (.bool false) w := by kernel_rfl
structure NdIs (w : World) (p : Nat) (B : Bk) (Fc : Nat → Prop) (c : Cf) (id : Int) (N : Nat) (D : Nd) : Prop where
  ok : CfOk c id
  ob : w.heap[p]? = some (.cells (ndC c id B) 90 (0, 0))
  ca : CaIs w B.ca Fc c.cs c.cy (N * 65536) D.C
  tb : TbIs w B.tc B.tt B.to N D.T
  pr : PrIs w B.pr c.cu c.ct D.P
  pk : D.P.k ≤ N
  asd : ∃ K, MpIs w B.am (.bool false) K (fun k => .bool (D.A k)) ∧ K.length ≤ N
  tm : ∃ K, MpIs w B.tm (.int .i64 0) K (fun k => .int .i64 (D.O k)) ∧ K.length ≤ N
  kp : ∃ κ : Nat → Nat, κ p = 0 ∧ κ B.tc = 1 ∧ κ B.tt = 2 ∧ κ B.to = 3 ∧ κ B.pr = 4 ∧ κ B.am = 5 ∧ κ B.tm = 6 ∧ ∀ b, Fc b → κ b = 7
def Fa (p : Nat) (B : Bk) (Fc : Nat → Prop) : Nat → Prop := fun b => Fc b ∨ b = p ∨ b = B.tc ∨ b = B.tt ∨ b = B.to ∨ b = B.pr ∨ b = B.am ∨ b = B.tm
section
variable {w w' : World} {p : Nat} {B : Bk} {Fc : Nat → Prop} {c : Cf} {id : Int} {N : Nat} {D : Nd}
theorem NdIs.pl (h : NdIs w p B Fc c id N D) : p < w.heap.size := (Array.getElem?_eq_some_iff.1 h.ob).1
theorem NdIs.al (h : NdIs w p B Fc c id N D) : B.am < w.heap.size := by obtain ⟨K, h1, _⟩ := h.asd; exact h1.lt
theorem NdIs.ml (h : NdIs w p B Fc c id N D) : B.tm < w.heap.size := by obtain ⟨K, h1, _⟩ := h.tm; exact h1.lt
theorem NdIs.lt (h : NdIs w p B Fc c id N D) : ∀ b, Fa p B Fc b → b < w.heap.size := by
  rintro b (hb | rfl | rfl | rfl | rfl | rfl | rfl | rfl)
  · exact h.ca.lt b hb
  · exact h.pl
  · exact h.tb.lt
  · exact h.tb.tl
  · exact h.tb.ol
  · exact h.pr.lt
  · exact h.al
  · exact h.ml
theorem NdIs.carry (h : NdIs w p B Fc c id N D) (hb : ∀ b, Fa p B Fc b → b < w.heap.size → w'.heap[b]? = w.heap[b]?) : NdIs w' p B Fc c id N D := by
  have k : ∀ b, Fa p B Fc b → w'.heap[b]? = w.heap[b]? := fun b f => hb b f (h.lt b f)
  obtain ⟨K1, a1, a2⟩ := h.asd
  obtain ⟨K2, t1, t2⟩ := h.tm
  exact ⟨h.ok, (k p (.inr (.inl rfl))).trans h.ob, h.ca.carry (fun b f _ => k b (.inl f)),
    h.tb.carry (k _ (.inr (.inr (.inl rfl)))) (k _ (.inr (.inr (.inr (.inl rfl))))) (k _ (.inr (.inr (.inr (.inr (.inl rfl)))))),
    h.pr.carry (k _ (.inr (.inr (.inr (.inr (.inr (.inl rfl))))))), h.pk,
    ⟨K1, a1.carry (k _ (.inr (.inr (.inr (.inr (.inr (.inr (.inl rfl)))))))), a2⟩,
    ⟨K2, t1.carry (k _ (.inr (.inr (.inr (.inr (.inr (.inr (.inr rfl)))))))), t2⟩, h.kp⟩
theorem NdIs.below (h : NdIs w p B Fc c id N D) (hf : Below w.heap.size w w') : NdIs w' p B Fc c id N D := h.carry fun b _ hl => hf.block b hl
theorem NdIs.fr {F : Nat → Prop} (h : NdIs w p B Fc c id N D) (hf : FrS F w w') (hd : ∀ b, Fa p B Fc b → ¬ F b) : NdIs w' p B Fc c id N D := h.carry fun b hb hl => hf.block b hl (hd b hb)
theorem NdIs.alloc (h : NdIs w p B Fc c id N D) (o : Obj) : NdIs (w.alloc o) p B Fc c id N D := h.carry fun b _ hl => Below.heap_alloc _ _ _ hl
theorem NdIs.drewN (h : NdIs w p B Fc c id N D) (n : Nat) : NdIs (w.drewN n) p B Fc c id N D := h.carry fun _ _ _ => rfl
theorem NdIs.mono {M : Nat} (h : NdIs w p B Fc c id N D) (hM : N ≤ M) : NdIs w p B Fc c id M D := by
  obtain ⟨K1, a1, a2⟩ := h.asd
  obtain ⟨K2, t1, t2⟩ := h.tm
  have := h.pk
  exact ⟨h.ok, h.ob, h.ca.mono (by omega), h.tb.mono hM, h.pr, by omega, ⟨K1, a1, by omega⟩, ⟨K2, t1, by omega⟩, h.kp⟩
theorem NdIs.setCell (h : NdIs w p B Fc c id N D) (q : Addr) (u : Value) (hq : w.heap.size ≤ q.block ∨ ¬ Fa p B Fc q.block) : NdIs (w.setCell q u) p B Fc c id N D :=
  h.carry fun b hb hl => Below.heap_setCell _ _ _ _ (by rintro rfl; rcases hq with hq | hq; omega; exact hq hb)
theorem NdIs.setC {Fc' : Nat → Prop} {C' : Ca} {M : Nat} (h : NdIs w p B Fc c id N D) (hc : CaIs w' B.ca Fc' c.cs c.cy (M * 65536) C') (hs : Step Fc Fc' w w') (hM : N ≤ M) :
    NdIs w' p B Fc' c id M ⟨C', D.T, D.P, D.A, D.O⟩ ∧ Step (Fa p B Fc) (Fa p B Fc') w w' := by
  obtain ⟨κ, k0, k1, k2, k3, k4, k5, k6, k7⟩ := h.kp
  have nf : ∀ b, κ b < 7 → ¬ Fc b := fun b hk hf => by have := k7 b hf; omega
  have e : ∀ b, b < w.heap.size → κ b < 7 → w'.heap[b]? = w.heap[b]? := fun b hl hk => hs.fr.block b hl (nf b hk)
  have h2 := h.mono hM
  obtain ⟨K1, a1, a2⟩ := h2.asd
  obtain ⟨K2, t1, t2⟩ := h2.tm
  refine ⟨⟨h.ok, (e p h.pl (by omega)).trans h.ob, hc, h2.tb.carry (e _ h.tb.lt (by omega)) (e _ h.tb.tl (by omega)) (e _ h.tb.ol (by omega)), h.pr.carry (e _ h.pr.lt (by omega)), h2.pk,
    ⟨K1, a1.carry (e _ h.al (by omega)), a2⟩, ⟨K2, t1.carry (e _ h.ml (by omega)), t2⟩, ⟨fun b => if b < w.heap.size then κ b else 7, ?_⟩⟩, ⟨hs.fr.mono (fun i _ hi => .inl hi), fun b hb => ?_⟩⟩
  · dsimp only
    rw [if_pos h.pl, if_pos h.tb.lt, if_pos h.tb.tl, if_pos h.tb.ol, if_pos h.pr.lt, if_pos h.al, if_pos h.ml]
    refine ⟨k0, k1, k2, k3, k4, k5, k6, fun b hb => ?_⟩
    split
    · rename_i hl
      rcases hs.new b hb with h3 | h3
      · exact k7 b h3
      · omega
    · rfl
  · rcases hb with hb | hb
    · rcases hs.new b hb with h3 | h3
      · exact .inl (.inl h3)
      · exact .inr h3
    · exact .inl (.inr hb)
theorem NdIs.part {F : Nat → Prop} {M : Nat} (h : NdIs w p B Fc c id N D) (hf : FrS F w w') (hM : N ≤ M) (hF : ∀ b, F b → Fa p B Fc b) : Step (Fa p B Fc) (Fa p B Fc) w w' :=
  ⟨hf.mono (fun i _ hi => hF i hi), fun _ h => .inl h⟩
theorem NdIs.setT {T' : Tb} {M : Nat} (h : NdIs w p B Fc c id N D) (ht : TbIs w' B.tc B.tt B.to M T') (hf : FrS (FT B.tt B.to) w w') (hM : N ≤ M) :
    NdIs w' p B Fc c id M ⟨D.C, T', D.P, D.A, D.O⟩ ∧ Step (Fa p B Fc) (Fa p B Fc) w w' := by
  obtain ⟨κ, k0, k1, k2, k3, k4, k5, k6, k7⟩ := h.kp
  have e : ∀ b, b < w.heap.size → κ b ≠ 2 → κ b ≠ 3 → w'.heap[b]? = w.heap[b]? := fun b hl h2 h3 => hf.block b hl (fun q => by rcases q with q | q <;> (rw [q] at h2 h3; omega))
  have h2 := h.mono hM
  obtain ⟨K1, a1, a2⟩ := h2.asd
  obtain ⟨K2, t1, t2⟩ := h2.tm
  exact ⟨⟨h.ok, (e p h.pl (by omega) (by omega)).trans h.ob, h2.ca.carry (fun b f hl => e b hl (by have := k7 b f; omega) (by have := k7 b f; omega)), ht, h.pr.carry (e _ h.pr.lt (by omega) (by omega)), h2.pk,
    ⟨K1, a1.carry (e _ h.al (by omega) (by omega)), a2⟩, ⟨K2, t1.carry (e _ h.ml (by omega) (by omega)), t2⟩, h.kp⟩, h.part hf hM (fun b q => by rcases q with q | q <;> simp [Fa, q])⟩
theorem NdIs.setP {P' : Pm} {M : Nat} (h : NdIs w p B Fc c id N D) (hp : PrIs w' B.pr c.cu c.ct P') (hf : FrS (· = B.pr) w w') (hM : N ≤ M) (hk : P'.k ≤ M) :
    NdIs w' p B Fc c id M ⟨D.C, D.T, P', D.A, D.O⟩ ∧ Step (Fa p B Fc) (Fa p B Fc) w w' := by
  obtain ⟨κ, k0, k1, k2, k3, k4, k5, k6, k7⟩ := h.kp
  have e : ∀ b, b < w.heap.size → κ b ≠ 4 → w'.heap[b]? = w.heap[b]? := fun b hl h2 => hf.block b hl (fun q => by rw [q] at h2; omega)
  have h2 := h.mono hM
  obtain ⟨K1, a1, a2⟩ := h2.asd
  obtain ⟨K2, t1, t2⟩ := h2.tm
  exact ⟨⟨h.ok, (e p h.pl (by omega)).trans h.ob, h2.ca.carry (fun b f hl => e b hl (by have := k7 b f; omega)), h2.tb.carry (e _ h.tb.lt (by omega)) (e _ h.tb.tl (by omega)) (e _ h.tb.ol (by omega)), hp, hk,
    ⟨K1, a1.carry (e _ h.al (by omega)), a2⟩, ⟨K2, t1.carry (e _ h.ml (by omega)), t2⟩, h.kp⟩, h.part hf hM (fun b q => by simp [Fa, q])⟩
theorem NdIs.setA {A' : Int → Bool} {K : List Int} {M : Nat} (h : NdIs w p B Fc c id N D) (ha : MpIs w' B.am (.bool false) K (fun k => .bool (A' k))) (hl : K.length ≤ M) (hf : FrS (· = B.am) w w') (hM : N ≤ M) :
    NdIs w' p B Fc c id M ⟨D.C, D.T, D.P, A', D.O⟩ ∧ Step (Fa p B Fc) (Fa p B Fc) w w' := by
  obtain ⟨κ, k0, k1, k2, k3, k4, k5, k6, k7⟩ := h.kp
  have e : ∀ b, b < w.heap.size → κ b ≠ 5 → w'.heap[b]? = w.heap[b]? := fun b hl h2 => hf.block b hl (fun q => by rw [q] at h2; omega)
  have h2 := h.mono hM
  obtain ⟨K2, t1, t2⟩ := h2.tm
  exact ⟨⟨h.ok, (e p h.pl (by omega)).trans h.ob, h2.ca.carry (fun b f hl => e b hl (by have := k7 b f; omega)), h2.tb.carry (e _ h.tb.lt (by omega)) (e _ h.tb.tl (by omega)) (e _ h.tb.ol (by omega)), h.pr.carry (e _ h.pr.lt (by omega)), h2.pk,
    ⟨K, ha, hl⟩, ⟨K2, t1.carry (e _ h.ml (by omega)), t2⟩, h.kp⟩, h.part hf hM (fun b q => by simp [Fa, q])⟩
theorem NdIs.setO {O' : Int → Int} {K : List Int} {M : Nat} (h : NdIs w p B Fc c id N D) (ha : MpIs w' B.tm (.int .i64 0) K (fun k => .int .i64 (O' k))) (hl : K.length ≤ M) (hf : FrS (· = B.tm) w w') (hM : N ≤ M) :
    NdIs w' p B Fc c id M ⟨D.C, D.T, D.P, D.A, O'⟩ ∧ Step (Fa p B Fc) (Fa p B Fc) w w' := by
  obtain ⟨κ, k0, k1, k2, k3, k4, k5, k6, k7⟩ := h.kp
  have e : ∀ b, b < w.heap.size → κ b ≠ 6 → w'.heap[b]? = w.heap[b]? := fun b hl h2 => hf.block b hl (fun q => by rw [q] at h2; omega)
  have h2 := h.mono hM
  obtain ⟨K1, a1, a2⟩ := h2.asd
  exact ⟨⟨h.ok, (e p h.pl (by omega)).trans h.ob, h2.ca.carry (fun b f hl => e b hl (by have := k7 b f; omega)), h2.tb.carry (e _ h.tb.lt (by omega)) (e _ h.tb.tl (by omega)) (e _ h.tb.ol (by omega)), h.pr.carry (e _ h.pr.lt (by omega)), h2.pk,
    ⟨K1, a1.carry (e _ h.al (by omega)), a2⟩, ⟨K, ha, hl⟩, h.kp⟩, h.part hf hM (fun b q => by simp [Fa, q])⟩
end
structure NdAt (w : World) (p : Nat) (B : Bk) (c : Cf) (id : Int) : Prop where
  lt : p < w.heap.size
  c0 : w.cell? ⟨p, 0, none⟩ = some (.int .i64 c.n)
  c1 : w.cell? ⟨p, 1, none⟩ = some (.int .i64 c.bl)
  c2 : w.cell? ⟨p, 2, none⟩ = some (.int .i64 c.tt)
  c3 : w.cell? ⟨p, 3, none⟩ = some (.int .i64 c.cs)
  c4 : w.cell? ⟨p, 4, none⟩ = some (.int .i64 c.cy)
  c5 : w.cell? ⟨p, 5, none⟩ = some (.int .i64 c.cc)
  c6 : w.cell? ⟨p, 6, none⟩ = some (.int .i64 c.cu)
  c7 : w.cell? ⟨p, 7, none⟩ = some (.int .i64 c.ct)
  c8 : w.cell? ⟨p, 8, none⟩ = some (.int .i64 c.cp)
  c9 : w.cell? ⟨p, 9, none⟩ = some (.int .i64 id)
  c10 : w.cell? ⟨p, 10, none⟩ = some (ptr B.ca)
  c11 : w.cell? ⟨p, 11, none⟩ = some (ptr B.tc)
  c12 : w.cell? ⟨p, 12, none⟩ = some (ptr B.pr)
  c13 : w.cell? ⟨p, 13, none⟩ = some (.map (some B.am))
  c14 : w.cell? ⟨p, 14, none⟩ = some (.map (some B.tm))
theorem NdIs.at' {w : World} {p : Nat} {B : Bk} {Fc : Nat → Prop} {c : Cf} {id : Int} {N : Nat} {D : Nd} (h : NdIs w p B Fc c id N D) : NdAt w p B c id :=
  ⟨h.pl, cell_of_row _ _ _ _ _ _ h.ob, cell_of_row _ _ _ _ _ _ h.ob, cell_of_row _ _ _ _ _ _ h.ob, cell_of_row _ _ _ _ _ _ h.ob, cell_of_row _ _ _ _ _ _ h.ob, cell_of_row _ _ _ _ _ _ h.ob, cell_of_row _ _ _ _ _ _ h.ob, cell_of_row _ _ _ _ _ _ h.ob, cell_of_row _ _ _ _ _ _ h.ob, cell_of_row _ _ _ _ _ _ h.ob, cell_of_row _ _ _ _ _ _ h.ob, cell_of_row _ _ _ _ _ _ h.ob, cell_of_row _ _ _ _ _ _ h.ob, cell_of_row _ _ _ _ _ _ h.ob, cell_of_row _ _ _ _ _ _ h.ob⟩
theorem updB_val (f : Int → Bool) (x : Int) (v : Bool) (k : Int) : Value.bool (updB f x v k) = updV (fun k => .bool (f k)) x (.bool v) k := by unfold updB updV; split <;> rfl
theorem updI_val (f : Int → Int) (x : Int) (v : Int) (k : Int) : Value.int .i64 (updI f x v k) = updV (fun k => .int .i64 (f k)) x (.int .i64 v) k := by unfold updI updV; split <;> rfl
theorem cmpT {a b : Int} (h : a = b) : decide (a = b) = true ∧ (a == b) = true ∧ (a != b) = false := by subst h; simp
theorem cmpF {a b : Int} (h : ¬ a = b) : decide (a = b) = false ∧ (a == b) = false ∧ (a != b) = true := by simp [h]
abbrev atR (a : At) : Obj := .cells #[.int .i64 a.b, .int .i64 a.n, .int .i64 a.s] 113
set_option maxHeartbeats 1000000 in
theorem ndOwn_c (p : Nat) (B : Bk) (Fc : Nat → Prop) (c : Cf) (id : Int) (N : Nat) (D : Nd) (b : Int) (w : World) (h : NdIs w p B Fc c id N D) (hb : I64 b) (a : At) (ha : Hid (ownA id D b = a)) (ok : Bool) (hok : Hid (ownB id D b = ok)) : Calls Tryz.prog 118 #[ptr p, .int .i64 b] w fun e w' => e = .returned (.tuple #[.agg #[.int .i64 a.b, .int .i64 a.n, .int .i64 a.s], .bool ok]) ∧ Below w.heap.size w w' := by
  have A := h.at'
  have hT := hide h.tb
  have c9 := A.c9
  have c11 := A.c11
  have hpl := A.lt
  obtain ⟨g, hg⟩ : ∃ g, Hid (getA D.T.A b = g) := ⟨_, rfl⟩
  obtain ⟨is, his⟩ : ∃ is, Hid (hasA D.T.A b = is) := ⟨_, rfl⟩
  have ha' := ha.out
  have hok' := hok.out
  unfold ownA at ha'
  rw [hok', hg.out] at ha'
  unfold ownB at hok'
  rw [hg.out, his.out] at hok'
  clear ha hok A h
  cases is
  · obtain rfl : false = ok := hok'
    obtain rfl : at0 = a := ha'
    go_enter Tryz.func118, Tryz.ntmps118
    go_wp2_with (go_at_call 121; refine (tActive_c B.tc B.tt B.to N D.T b _ (hT.out.alloc (atR at0)) hb g hg false his).mono ?_; rintro e w1 ⟨rfl, hb1⟩; obtain ⟨x, rfl⟩ := over hb1; clear hb1; have f1 := x.upB (w.heap.size); have f2 := x.upB p)
    go_quiet (fail)
    go_wp2_with fail
    refine bodyPost_ret (by simp [results, Tryz.results118, go_sem, *]; done) rfl ⟨rfl, ?_⟩
    all_goals exact belEnd
  · by_cases e : g.n = id
    · obtain rfl : true = ok := by rw [← hok']; simp [e]
      obtain rfl : g = a := ha'
      obtain ⟨e1, e2, e3⟩ := cmpT e
      replace e := hide e
      clear hok'
      go_enter Tryz.func118, Tryz.ntmps118
      go_wp2_with (go_at_call 121; refine (tActive_c B.tc B.tt B.to N D.T b _ (hT.out.alloc (atR at0)) hb g hg true his).mono ?_; rintro e w1 ⟨rfl, hb1⟩; obtain ⟨x, rfl⟩ := over hb1; clear hb1; have f1 := x.upB (w.heap.size); have f2 := x.upB p)
      go_quiet (fail)
      go_wp2_with fail
      refine bodyPost_ret (by simp [results, Tryz.results118, go_sem, *]; done) rfl ⟨rfl, ?_⟩
      all_goals exact belEnd
    · obtain rfl : false = ok := by rw [← hok']; simp [e]
      obtain rfl : at0 = a := ha'
      obtain ⟨e1, e2, e3⟩ := cmpF e
      replace e := hide e
      clear hok'
      go_enter Tryz.func118, Tryz.ntmps118
      go_wp2_with (go_at_call 121; refine (tActive_c B.tc B.tt B.to N D.T b _ (hT.out.alloc (atR at0)) hb g hg true his).mono ?_; rintro e w1 ⟨rfl, hb1⟩; obtain ⟨x, rfl⟩ := over hb1; clear hb1; have f1 := x.upB (w.heap.size); have f2 := x.upB p)
      go_quiet (fail)
      go_wp2_with fail
      refine bodyPost_ret (by simp [results, Tryz.results118, go_sem, *]; done) rfl ⟨rfl, ?_⟩
      all_goals exact belEnd
set_option maxHeartbeats 1000000 in
theorem ndWaits_c (p : Nat) (B : Bk) (Fc : Nat → Prop) (c : Cf) (id : Int) (N : Nat) (D : Nd) (b : Int) (w : World) (h : NdIs w p B Fc c id N D) (ok : Bool) (hok : Hid (waitB D b = ok)) : Calls Tryz.prog 125 #[ptr p, .int .i64 b] w fun e w' => e = .returned (.bool ok) ∧ Below w.heap.size w w' := by
  have A := h.at'
  have hP := hide h.pr
  have c12 := A.c12
  have hpl := A.lt
  obtain ⟨x0, hx⟩ : ∃ x, Hid (D.P.op = x) := ⟨_, rfl⟩
  obtain ⟨bu, hbu⟩ : ∃ bu, Hid (D.P.busy = bu) := ⟨_, rfl⟩
  have hok' := hok.out
  unfold waitB at hok'
  rw [hx.out, hbu.out] at hok'
  clear hok A h
  by_cases e : x0.b = b
  · obtain rfl : bu = ok := by rw [← hok']; simp [e]
    obtain ⟨e1, e2, e3⟩ := cmpT e
    replace e := hide e
    clear hok'
    go_enter Tryz.func125, Tryz.ntmps125
    go_wp2_with (go_at_call 34; refine (pPend_c B.pr c.cu c.ct D.P _ hP.out x0 hx _ hbu).mono ?_; rintro e w1 ⟨rfl, hb1⟩; obtain ⟨x, rfl⟩ := over hb1; clear hb1)
    all_goals
      go_ret
      refine ⟨?_, by all_goals exact belEnd⟩
      first | rfl | simp_all
  · obtain rfl : false = ok := by rw [← hok']; simp [e]
    obtain ⟨e1, e2, e3⟩ := cmpF e
    replace e := hide e
    clear hok'
    go_enter Tryz.func125, Tryz.ntmps125
    go_wp2_with (go_at_call 34; refine (pPend_c B.pr c.cu c.ct D.P _ hP.out x0 hx _ hbu).mono ?_; rintro e w1 ⟨rfl, hb1⟩; obtain ⟨x, rfl⟩ := over hb1; clear hb1)
    all_goals
      go_ret
      refine ⟨?_, by all_goals exact belEnd⟩
      first | rfl | simp_all
theorem own_oneT (w : World) (l : Lt) : OwnT (w.alloc (.cells #[.int .i64 l.k, .int .i64 l.a, .int .i64 l.b, .int .i64 l.q, .int .i64 l.s, .int .i64 l.w, .bool l.r, .int .i64 l.n, .bool l.o, .bool l.h, .int .i64 l.d] 37)) (.slice (some ⟨w.heap.size, 0, none⟩) 1 1) w.heap.size [l] := by
  obtain ⟨_, _, e, h1, h2, h3⟩ := view_oneT w l
  cases e
  rcases h3 with h3 | ⟨o, e2, h4, h5⟩
  · cases h3
  · cases e2
    refine ⟨_, 1, rfl, Nat.le_refl _, h2, h4, .inr ⟨0, rfl, h5, fun j hj => ⟨?_, frozen_of_row _ _ _ _ _ (heap_alloc_new w _)⟩⟩⟩
    rw [h5 j hj, List.getElem?_eq_getElem (by rw [flatLt_length]; exact hj)]
    rfl
theorem own_oneD (w : World) (l : Dn) : OwnD (w.alloc (.cells #[.int .i64 l.n, .int .i64 l.k, .int .i64 l.b, .bool l.w, .int .i64 l.v, .int .i64 l.u, .int .i64 l.s] 76)) (.slice (some ⟨w.heap.size, 0, none⟩) 1 1) w.heap.size [l] := by
  obtain ⟨_, _, e, h1, h2, h3⟩ := view_oneD w l
  cases e
  rcases h3 with h3 | ⟨o, e2, h4, h5⟩
  · cases h3
  · cases e2
    refine ⟨_, 1, rfl, Nat.le_refl _, h2, h4, .inr ⟨0, rfl, h5, fun j hj => ⟨?_, frozen_of_row _ _ _ _ _ (heap_alloc_new w _)⟩⟩⟩
    rw [h5 j hj, List.getElem?_eq_getElem (by rw [flatDn_length]; exact hj)]
    rfl
abbrev bunR (x : Bun) : Obj := .cells #[.int .i64 x.n, .bool x.o, .bool x.h, .int .i64 x.d] 35
set_option maxHeartbeats 1000000 in
theorem ndSend_c (p : Nat) (B : Bk) (Fc : Nat → Prop) (c : Cf) (id : Int) (N : Nat) (D : Nd) (to b : Int) (x : Bun) (w : World) (h : NdIs w p B Fc c id N D) (L : List Lt) (hL : Hid (sendL id to b x = L)) : Calls Tryz.prog 122 #[ptr p, .int .i64 to, .int .i64 b, .agg #[.int .i64 x.n, .bool x.o, .bool x.h, .int .i64 x.d]] w fun e w' => ∃ v, e = .returned v ∧ ∃ g, OwnT w' v g L ∧ w.heap.size ≤ g ∧ Below w.heap.size w w' := by
  have A := h.at'
  have c9 := A.c9
  have hpl := A.lt
  have hL' := hL.out
  unfold sendL at hL'
  clear hL A h
  by_cases e : x.n < 1
  · rw [if_pos e] at hL'
    subst hL'
    go_enter Tryz.func122, Tryz.ntmps122
    go_wp2_with fail
    go_ret
    exact ⟨_, rfl, w.heap.size, own_nilT (by simp), Nat.le_refl _, by all_goals exact belEnd⟩
  · rw [if_neg e] at hL'
    subst hL'
    go_enter Tryz.func122, Tryz.ntmps122
    go_wp2_with fail
    refine name_world ?_
    intro W hW
    have hB : Hid (Below w.heap.size w W) := by rw [← hW]; exact hide (by all_goals exact belEnd)
    have c9' : W.cell? ⟨p, 9, none⟩ = some (.int .i64 id) := keep_cell (hB.out.block p hpl) c9
    have b0 : W.cell? ⟨w.heap.size, 0, none⟩ = some (.int .i64 x.n) := by rw [← hW]; simp [go_sem]
    have b1 : W.cell? ⟨w.heap.size, 1, none⟩ = some (.bool x.o) := by rw [← hW]; simp [go_sem]
    have b2 : W.cell? ⟨w.heap.size, 2, none⟩ = some (.bool x.h) := by rw [← hW]; simp [go_sem]
    have b3 : W.cell? ⟨w.heap.size, 3, none⟩ = some (.int .i64 x.d) := by rw [← hW]; simp [go_sem]
    have hs : w.heap.size < W.heap.size := by rw [← hW]; simp
    clear hW c9
    go_wp2_with fail
    refine wp_region_noPanic ?_
    refine wp_region_held_drew (S := (fun w' => w'.cell? ⟨p, 9, none⟩ = some (.int .i64 id) ∧ w'.cell? ⟨w.heap.size, 0, none⟩ = some (.int .i64 x.n) ∧ w'.cell? ⟨w.heap.size, 1, none⟩ = some (.bool x.o) ∧ w'.cell? ⟨w.heap.size, 2, none⟩ = some (.bool x.h) ∧ w'.cell? ⟨w.heap.size, 3, none⟩ = some (.int .i64 x.d))) (by kernel_rfl) ?_ (fun hHeld => ?_)
    · exact ⟨c9', b0, b1, b2, b3⟩
    refine hTk 0 12 hHeld ?_
    refine hTk 1 13 hHeld ?_
    refine hTk 2 14 hHeld ?_
    refine hTk 3 15 hHeld ?_
    refine hTk 4 16 hHeld ?_
    refine hTk 5 17 hHeld ?_
    refine hTk 6 18 hHeld ?_
    refine hNo 7 fun K hK => ?_
    go_simp
    go_at_call 151
    refine (tokens_c id to b x.n x.o x.h x.d _).mono ?_
    rintro e w1 ⟨rfl, hb1⟩
    have hB1 : Below w.heap.size w w1 := (hB.out.drew).trans (hb1.mono hB.out.size)
    replace hB1 := hide hB1
    have hpl1 := Nat.lt_of_lt_of_le hpl hB1.out.size
    have hs1 : w.heap.size < w1.heap.size := Nat.lt_of_lt_of_le hs hb1.size
    replace c9' : w1.cell? ⟨p, 9, none⟩ = some (.int .i64 id) := keep_cell (hb1.block p (Nat.lt_of_lt_of_le hpl hB.out.size)) c9'
    replace b0 : w1.cell? ⟨w.heap.size, 0, none⟩ = some (.int .i64 x.n) := keep_cell (hb1.block _ hs) b0
    replace b1 : w1.cell? ⟨w.heap.size, 1, none⟩ = some (.bool x.o) := keep_cell (hb1.block _ hs) b1
    replace b2 : w1.cell? ⟨w.heap.size, 2, none⟩ = some (.bool x.h) := keep_cell (hb1.block _ hs) b2
    replace b3 : w1.cell? ⟨w.heap.size, 3, none⟩ = some (.int .i64 x.d) := keep_cell (hb1.block _ hs) b3
    clear hb1
    refine hK.out _ _ ?_ fun hHeld => ?_
    · exact ⟨c9', b0, b1, b2, b3⟩
    clear hK K
    try simp only [Act.put, za, zb, zc]
    refine hNo 8 fun K hK => ?_
    go_simp
    refine hK.out _ _ ?_ fun hHeld => ?_
    · exact ⟨by simp [go_sem, *], by simp [go_sem, *], by simp [go_sem, *], by simp [go_sem, *], by simp [go_sem, *]⟩
    clear hK K
    try simp only [Act.put, za, zb, zc]
    refine hTk 9 8 hHeld ?_
    refine wpAnyH_done (by kernel_rfl) (NoPanic.normal ?_) _
    clear hHeld
    go_wp2_with fail
    go_ret
    exact ⟨_, rfl, w1.heap.size, own_oneT w1 _, hB1.out.size, hB1.out.alloc hB1.out.size _⟩
set_option maxHeartbeats 1000000 in
theorem ndHome_c (p : Nat) (B : Bk) (Fc : Nat → Prop) (c : Cf) (id : Int) (N : Nat) (D : Nd) (k b s : Int) (w : World) (h : NdIs w p B Fc c id N D) (L : List Lt) (hL : Hid (homeL c id k b s = L)) : Calls Tryz.prog 101 #[ptr p, .int .i64 k, .int .i64 b, .int .i64 s] w fun e w' => ∃ v, e = .returned v ∧ ∃ g, OwnT w' v g L ∧ w.heap.size ≤ g ∧ Below w.heap.size w w' := by
  have A := h.at'
  have c9 := A.c9
  have c0 := A.c0
  have hpl := A.lt
  obtain rfl := hL.out
  clear hL A h
  go_enter Tryz.func101, Tryz.ntmps101
  go_wp2_with fail
  refine wp_region_noPanic ?_
  refine wp_region_held_drew (S := (fun w' => w'.cell? ⟨p, 9, none⟩ = some (.int .i64 id) ∧ w'.cell? ⟨p, 0, none⟩ = some (.int .i64 c.n))) (by kernel_rfl) ?_ (fun hHeld => ?_)
  · exact ⟨c9, c0⟩
  refine hTk 0 9 hHeld ?_
  refine hTk 1 10 hHeld ?_
  refine hTk 2 11 hHeld ?_
  refine hTk 3 12 hHeld ?_
  refine hTk 4 13 hHeld ?_
  refine hTk 5 14 hHeld ?_
  refine hTk 6 15 hHeld ?_
  refine hTk 7 16 hHeld ?_
  refine hTk 8 17 hHeld ?_
  refine hTk 9 18 hHeld ?_
  refine hTk 10 19 hHeld ?_
  refine hTk 11 20 hHeld ?_
  refine hTk 12 21 hHeld ?_
  refine hNo 13 fun K hK => ?_
  go_simp
  refine hK.out _ _ ?_ fun hHeld => ?_
  · exact ⟨by simp [go_sem, *], by simp [go_sem, *]⟩
  clear hK K
  try simp only [Act.put, za, zb, zc]
  refine hTk 14 8 hHeld ?_
  refine wpAnyH_done (by kernel_rfl) (NoPanic.normal ?_) _
  clear hHeld
  go_wp2_with fail
  go_ret
  exact ⟨_, rfl, w.heap.size, own_oneT w.drew ⟨k, id, c.n, b, s, 0, false, 0, false, false, 0⟩, Nat.le_refl _, by all_goals exact belEnd⟩
abbrev opR (x : Op3) : Obj := .cells #[.int .i64 x.b, .bool x.w, .int .i64 x.v] 33
structure KRel (W : World) (r gk j : Nat) (L : List Lt) (kv : Value) (K : List Int) (v : Value) (wr : World) (g : Nat) : Prop where
  own : OwnT wr v g (L.take j)
  lo : r ≤ g
  nil : g = r → v = .slice none 0 0
  ne : g ≠ r → K ≠ [] → g ≠ gk
  keys : View wr kv gk K
  b : Below W.heap.size W wr
theorem KRel.next {W wr wz w2 : World} {r gk j g g' : Nat} {L : List Lt} {kv v v' : Value} {K : List Int} (h : KRel W r gk j L kv K v wr g) (hr : r < W.heap.size) (hz : Below wr.heap.size wr wz) (hj : j < L.length) (hown : OwnT w2 v' g' (L.take j ++ [L[j]])) (hap : AppP wz w2 v v' g g') (hgW : g ≠ r → W.heap.size ≤ g) : KRel W r gk (j + 1) L kv K v' w2 g' ∧ (g' ≠ r → W.heap.size ≤ g') := by
  have hl := h.own.lt
  have hWs := h.b.size
  have hzs := hz.size
  have e : L.take (j + 1) = L.take j ++ [L[j]] := by rw [List.take_add_one, List.getElem?_eq_getElem hj]; rfl
  have hs := hap.fr.size
  have hnew : g' ≠ r → W.heap.size ≤ g' := by
    intro hne
    rcases hap.lies with e' | e'
    · rw [e'] at hne ⊢; exact hgW hne
    · omega
  have hgk : K ≠ [] → gk < wr.heap.size := fun hK => by
    obtain ⟨_, _, _, _, _, q⟩ := h.keys
    rcases q with q | ⟨_, _, q, _⟩
    · exact absurd q hK
    · exact q
  by_cases c : g = r
  · have hb := hap.nil (h.nil c)
    have hB2 : Below wr.heap.size wr w2 := hz.trans (hb.mono hzs)
    refine ⟨⟨by rw [e]; exact hown, ?_, fun e1 => ?_, fun e1 hK => ?_, h.keys.below hB2, h.b.trans (hB2.mono hWs)⟩, hnew⟩
    · rcases hap.lies with e' | e' <;> omega
    · have : g' = g := by
        rcases hap.lies with e' | e'
        · exact e'
        · omega
      exact hap.keep this (h.nil c)
    · have := hgk hK
      rcases hap.lies with e' | e' <;> omega
  · have hgW' := hgW c
    have hk : ∀ b, b < wr.heap.size → b ≠ g → w2.heap[b]? = wr.heap[b]? := fun b hb hg => (hap.fr.block b (by omega) hg).trans (hz.block b hb)
    refine ⟨⟨by rw [e]; exact hown, ?_, fun e1 => ?_, fun e1 hK => ?_, h.keys.carry (fun hK hb => hk gk hb (fun e => h.ne c hK e.symm)), ?_⟩, hnew⟩
    · have := h.lo
      rcases hap.lies with e' | e' <;> omega
    · rcases hap.lies with e' | e' <;> omega
    · have := hgk hK
      rcases hap.lies with e' | e'
      · rw [e']; exact h.ne c hK
      · omega
    · exact h.b.trans ((hz.mono hWs).trans (hap.fr.below (fun i hi => by rw [hi]; exact hgW') (by omega)))
theorem ask_len (c : Cf) (id : Int) (op : Op3) (d0 d1 : Int) (h : CfOk c id) : (askL c id op d0 d1).length ≤ 65 := by
  have h0 := h.n0
  have h1 := h.n1
  unfold askL tgt
  rw [List.length_map, if_neg (by omega)]
  exact Nat.le_trans (tg_len _ _) (by omega)
set_option maxHeartbeats 2000000 in
theorem ndAsk_c (p : Nat) (B : Bk) (Fc : Nat → Prop) (c : Cf) (id : Int) (N : Nat) (D : Nd) (op : Op3) (d0 d1 d2 : Int) (w : World) (h : NdIs w p B Fc c id N D) (L : List Lt) (hL : Hid (askL c id op d0 d1 = L)) : Calls Tryz.prog 35 #[ptr p, .agg #[.int .i64 op.b, .bool op.w, .int .i64 op.v], .agg #[.int .i64 d0, .int .i64 d1, .int .i64 d2]] w fun e w' => ∃ v, e = .returned v ∧ ∃ g, OwnT w' v g L ∧ w.heap.size ≤ g ∧ Below w.heap.size w w' := by
  have A := h.at'
  have hpl := A.lt
  have hln : Hid (L.length ≤ 65) := hide (by rw [← hL.out]; exact ask_len c id op d0 d1 h.ok)
  obtain ⟨Tg, hTg⟩ : ∃ Tg, Hid (tgt c.n id c.cp d0 d1 = Tg) := ⟨_, rfl⟩
  obtain ⟨n, hn⟩ : ∃ n, Hid (Tg.length = n) := ⟨_, rfl⟩
  have hLK : Hid (L = Tg.map (askOne id op)) := hide (by rw [← hL.out, ← hTg.out]; rfl)
  have hLl : Hid (L.length = n) := hide (by rw [hLK.out, List.length_map, hn.out])
  have hn65 : n ≤ 65 := by rw [← hLl.out]; exact hln.out
  clear hL h
  obtain ⟨-, c0, c1, c2, c3, c4, c5, c6, c7, c8, c9, -, -, -, -, -⟩ := A
  go_enter Tryz.func35, Tryz.ntmps35
  go_wp2_with fail
  refine name_world ?_
  intro V hV
  have hB : Hid (Below w.heap.size w V) := by rw [← hV]; exact hide (by all_goals exact belEnd)
  have hsV : V.heap.size = w.heap.size + 1 + 1 := by rw [← hV]; simp
  have b0 : V.cell? ⟨w.heap.size, 0, none⟩ = some (.int .i64 op.b) := by rw [← hV]; simp [go_sem]
  have b1 : V.cell? ⟨w.heap.size, 1, none⟩ = some (.bool op.w) := by rw [← hV]; simp [go_sem]
  have e0 : V.cell? ⟨w.heap.size + 1, 0, none⟩ = some (.int .i64 d0) := by rw [← hV]; simp [go_sem]
  have e1 : V.cell? ⟨w.heap.size + 1, 1, none⟩ = some (.int .i64 d1) := by rw [← hV]; simp [go_sem]
  have e2 : V.cell? ⟨w.heap.size + 1, 2, none⟩ = some (.int .i64 d2) := by rw [← hV]; simp [go_sem]
  clear hV
  have hpV : p < V.heap.size := by omega
  have kp : V.heap[p]? = w.heap[p]? := hB.out.block p hpl
  replace c0 := keep_cell kp c0
  replace c1 := keep_cell kp c1
  replace c2 := keep_cell kp c2
  replace c3 := keep_cell kp c3
  replace c4 := keep_cell kp c4
  replace c5 := keep_cell kp c5
  replace c6 := keep_cell kp c6
  replace c7 := keep_cell kp c7
  replace c8 := keep_cell kp c8
  replace c9 := keep_cell kp c9
  clear kp
  go_wp2_with fail
  refine wp_region_noPanic ?_
  refine wp_region_held_drew (S := (fun w' => w'.cell? ⟨p, 0, none⟩ = some (.int .i64 c.n) ∧ w'.cell? ⟨p, 1, none⟩ = some (.int .i64 c.bl) ∧ w'.cell? ⟨p, 2, none⟩ = some (.int .i64 c.tt) ∧ w'.cell? ⟨p, 3, none⟩ = some (.int .i64 c.cs) ∧ w'.cell? ⟨p, 4, none⟩ = some (.int .i64 c.cy) ∧ w'.cell? ⟨p, 5, none⟩ = some (.int .i64 c.cc) ∧ w'.cell? ⟨p, 6, none⟩ = some (.int .i64 c.cu) ∧ w'.cell? ⟨p, 7, none⟩ = some (.int .i64 c.ct) ∧ w'.cell? ⟨p, 8, none⟩ = some (.int .i64 c.cp) ∧ w'.cell? ⟨p, 9, none⟩ = some (.int .i64 id) ∧ w'.cell? ⟨w.heap.size + 1, 0, none⟩ = some (.int .i64 d0) ∧ w'.cell? ⟨w.heap.size + 1, 1, none⟩ = some (.int .i64 d1) ∧ w'.cell? ⟨w.heap.size + 1, 2, none⟩ = some (.int .i64 d2))) (by kernel_rfl) ?_ (fun hHeld => ?_)
  · exact ⟨c0, c1, c2, c3, c4, c5, c6, c7, c8, c9, e0, e1, e2⟩
  refine hTk 0 10 hHeld ?_
  refine hTk 1 11 hHeld ?_
  refine hTk 2 12 hHeld ?_
  refine hTk 3 13 hHeld ?_
  refine hTk 4 14 hHeld ?_
  refine hTk 5 15 hHeld ?_
  refine hTk 6 16 hHeld ?_
  refine hTk 7 17 hHeld ?_
  refine hTk 8 18 hHeld ?_
  refine hTk 11 21 hHeld ?_
  refine hNo 9 fun K hK => ?_
  go_simp
  go_at_call 77
  refine (targets_c c.n c.bl c.tt c.cs c.cy c.cc c.cu c.ct c.cp id d0 d1 d2 _ Tg hTg n hn).mono ?_
  rintro e w1 ⟨ao1, cap1, rfl, ⟨gk, hVw⟩, hb1⟩
  have k1 : ∀ b, b < V.heap.size → w1.heap[b]? = V.heap[b]? := fun b hb => hb1.block b hb
  refine hK.out _ _ ?_ fun hHeld => ?_
  · exact ⟨keep_cell (k1 p hpV) c0, keep_cell (k1 p hpV) c1, keep_cell (k1 p hpV) c2, keep_cell (k1 p hpV) c3, keep_cell (k1 p hpV) c4, keep_cell (k1 p hpV) c5, keep_cell (k1 p hpV) c6, keep_cell (k1 p hpV) c7, keep_cell (k1 p hpV) c8, keep_cell (k1 p hpV) c9, keep_cell (k1 _ (by omega)) e0, keep_cell (k1 _ (by omega)) e1, keep_cell (k1 _ (by omega)) e2⟩
  clear hK K
  try simp only [Act.put, za, zb, zc]
  have hB1 : Hid (Below V.heap.size V w1) := hide (((Below.refl _ _).drew).trans hb1)
  replace hVw := hide hVw
  clear hb1 k1 e0 e1 e2 c0 c1 c2 c3 c4 c5 c6 c7 c8
  refine hTk 10 20 hHeld ?_
  refine wpAnyH_done (by kernel_rfl) (NoPanic.normal ?_) _
  clear hHeld
  go_wp2_with fail
  obtain ⟨r, hr⟩ : ∃ r, Hid (w.heap.size + 1 = r) := ⟨_, rfl⟩
  have hrV : r < V.heap.size := by have := hr.out; omega
  have hown0 : OwnT w1 (.slice none 0 0) r (L.take 0) := by rw [List.take_zero]; exact own_nilT (Nat.lt_of_lt_of_le hrV hB1.out.size)
  replace hown0 := hide hown0
  replace hsV := hide hsV
  go_loopw [7, 21] (fun v i wr => ∃ j : Nat, j ≤ n ∧ i = .int .i64 j ∧ ∃ g, KRel V r gk j L (.slice ao1 n cap1) Tg v wr g ∧ (g ≠ r → V.heap.size ≤ g)) (fun _ i _ => n - (intOf i).toNat)
  case atStart => exact ⟨0, Nat.zero_le _, rfl, r, ⟨hown0.out, Nat.le_refl _, fun _ => rfl, fun h => absurd rfl h, hVw.out, hB1.out⟩, fun h => absurd rfl h⟩
  case round =>
    obtain ⟨j, hj, rfl, g, hR, hgV⟩ := hrel
    by_cases hlt : j < n
    · have hjK : j < Tg.length := by rw [hn.out]; exact hlt
      have hjL : Hid (j < L.length) := hide (by rw [hLl.out]; exact hlt)
      obtain ⟨t, ht⟩ : ∃ t, Tg[j] = t := ⟨_, rfl⟩
      have hLt : Hid (L[j]'hjL.out = askOne id op t) := hide (by rw [← ht]; simp [hLK.out])
      have hk0 : ∃ o1, ao1 = some ⟨gk, o1, none⟩ ∧ wr.cell? ⟨gk, o1 + j, none⟩ = some (.int .i64 t) := by
        obtain ⟨ao', cap', e, _, _, q⟩ := hR.keys
        cases e
        rcases q with q | ⟨o1, e1, _, q⟩
        · rw [q] at hjK; simp at hjK
        · refine ⟨o1, e1, (q j hjK).trans ?_⟩
          rw [ints_at Tg j hjK, ht]
      obtain ⟨o1, rfl, q0⟩ := hk0
      have hB0 := hR.b
      have d9 : wr.cell? ⟨p, 9, none⟩ = some (.int .i64 id) := keep_cell (hB0.block p hpV) c9
      have y0 : wr.cell? ⟨w.heap.size, 0, none⟩ = some (.int .i64 op.b) := keep_cell (hB0.block _ (by rw [hsV.out]; omega)) b0
      have y1 : wr.cell? ⟨w.heap.size, 1, none⟩ = some (.bool op.w) := keep_cell (hB0.block _ (by rw [hsV.out]; omega)) b1
      have hlt' : (j : Int) < n := by omega
      have hoT := hR.own
      have htk : (L.take j).length = j := by rw [List.length_take, hLl.out]; omega
      obtain ⟨ao, cap, e, _⟩ := _root_.id hR.own
      rw [htk] at e
      subst e
      have hR' := hide hR
      have ho' := hide hoT
      have hl1 : Hid ((L.take j).length + [askOne id op t].length ≤ 1000000) := hide (by rw [htk]; simp; omega)
      have hl2 : Hid ((L.take j).length + [askOne id op t].length = j + 1) := hide (by rw [htk]; rfl)
      have hpr : p < wr.heap.size := Nat.lt_of_lt_of_le hpV hB0.size
      have hwr : w.heap.size < wr.heap.size := Nat.lt_of_lt_of_le (by rw [hsV.out]; omega) hB0.size
      clear hR hB0 hoT htk hlt hjK ht
      have hview : ViewT (wr.drew.alloc (.cells #[.int .i64 2, .int .i64 id, .int .i64 t, .int .i64 op.b, .int .i64 0, .int .i64 0, .bool op.w, .int .i64 0, .bool false, .bool false, .int .i64 0] 37)) (.slice (some ⟨wr.heap.size, 0, none⟩) 1 1) wr.heap.size [askOne id op t] := view_oneT wr.drew (askOne id op t)
      replace hview := hide hview
      go_wp2_with fail
      refine wp_region_noPanic ?_
      refine wp_region_held_drew (S := (fun w' => w'.cell? ⟨p, 9, none⟩ = some (.int .i64 id) ∧ w'.cell? ⟨w.heap.size, 0, none⟩ = some (.int .i64 op.b) ∧ w'.cell? ⟨w.heap.size, 1, none⟩ = some (.bool op.w))) (by kernel_rfl) ?_ (fun hHeld => ?_)
      · exact ⟨d9, y0, y1⟩
      refine hTk 0 25 hHeld ?_
      refine hTk 1 26 hHeld ?_
      refine hTk 2 27 hHeld ?_
      refine hTk 3 28 hHeld ?_
      refine hTk 4 29 hHeld ?_
      refine hTk 5 30 hHeld ?_
      refine hTk 6 31 hHeld ?_
      refine hTk 7 32 hHeld ?_
      refine hTk 8 33 hHeld ?_
      refine hTk 9 34 hHeld ?_
      refine hTk 10 35 hHeld ?_
      refine hNo 11 fun K hK => ?_
      go_simp
      refine hK.out _ _ ?_ fun hHeld => ?_
      · exact ⟨by simp [go_sem, *], by simp [go_sem, *], by simp [go_sem, *]⟩
      clear hK K
      try simp only [Act.put, za, zb, zc]
      refine hNo 12 fun K hK => ?_
      refine wp_appT (.tmp 25) (.tmp 36) rfl rfl rfl ((ho'.out.carry (w' := wr.drew) rfl).alloc _) hview.out hl1.out (j + 1) hl2.out ?_
      intro ao' cap' w2 g' hown' hap
      have R2 := hide (hR'.out.next hrV (((Below.refl wr.heap.size wr).drew).alloc (Nat.le_refl _) _) hjL.out (by rw [hLt.out]; exact hown') hap hgV)
      have k2 := hide R2.out.1.b
      refine hK.out _ _ ?_ fun hHeld => ?_
      · exact ⟨keep_cell (k2.out.block p hpV) c9, keep_cell (k2.out.block _ (by rw [hsV.out]; omega)) b0, keep_cell (k2.out.block _ (by rw [hsV.out]; omega)) b1⟩
      clear hK K
      try simp only [Act.put, za, zb, zc]
      clear hown' hap d9 y0 y1 q0
      refine hTk 13 7 hHeld ?_
      refine wpAnyH_done (by kernel_rfl) (NoPanic.normal ?_) _
      clear hHeld
      go_wp2_with fail
      go_roundw
      case rel => exact ⟨j + 1, by omega, by simp, g', R2.out.1, R2.out.2⟩
      case measure => simp [intOf]; omega
    · obtain rfl : j = n := by omega
      have hoT := hR.own
      have eL : L.take j = L := by rw [← hLl.out]; exact List.take_length
      rw [eL] at hoT
      obtain ⟨ao, cap, e, _⟩ := _root_.id hoT
      rw [hLl.out] at e
      subst e
      have hR' := hide hR
      replace hoT := hide hoT
      clear hR
      go_wp2_with fail
      go_ret
      exact ⟨_, rfl, g, hoT.out, by have := hR'.out.lo; have := hr.out; omega, hB.out.trans (hR'.out.b.mono (by rw [hsV.out]; omega))⟩
section
variable {w : World} {p : Nat} {B : Bk} {Fc : Nat → Prop} {c : Cf} {id : Int} {N : Nat} {D : Nd}
theorem NdIs.tell (h : NdIs w p B Fc c id N D) {b : Int} (hb : I64 b) (s : Int) (hN : N + 1 ≤ 2000) :
    ∃ w2, (Instr.mapUpdate 65 (.map (some B.tm)) (.int .i64 b) (.int .i64 s)).run Tryz.prog w = .ok () w2 ∧ NdIs w2 p B Fc c id (N + 1) ⟨D.C, D.T, D.P, D.A, updI D.O b s⟩ ∧ Step (Fa p B Fc) (Fa p B Fc) w w2 ∧ FrS (· = B.tm) w w2 := by
  obtain ⟨K, h1, h2⟩ := h.tm
  obtain ⟨w2, r1, r2, r3⟩ := mp_put h1 Tryz.underlying65 hb (.int .i64 s) (K' := b :: K) (fun k => List.mem_cons) (by simp; omega)
  have h3 := h.setO (M := N + 1) (O' := updI D.O b s) (r2.alike (K' := b :: K) (g := fun k => .int .i64 (updI D.O b s k)) (fun _ => Iff.rfl) (updI_val D.O b s)) (by simp; omega) r3 (Nat.le_succ N)
  exact ⟨w2, r1, h3.1, h3.2, r3⟩
theorem NdIs.unask (h : NdIs w p B Fc c id N D) {b : Int} (hb : I64 b) (ty : TypeId) :
    ∃ w2, (Builtin.delete_ #[88, 3] ty #[.map (some B.am), .int .i64 b]).run Tryz.prog w = .ok (.tuple #[]) w2 ∧ NdIs w2 p B Fc c id N ⟨D.C, D.T, D.P, updB D.A b false, D.O⟩ ∧ Step (Fa p B Fc) (Fa p B Fc) w w2 ∧ FrS (· = B.am) w w2 := by
  obtain ⟨K, h1, h2⟩ := h.asd
  obtain ⟨w2, r1, r2, r3⟩ := mp_del h1 Tryz.underlying88 hb (K' := K.filter (fun k => decide (k ≠ b))) (fun k => by simp [List.mem_filter]) ty
  have h3 := h.setA (M := N) (A' := updB D.A b false) (r2.alike (K' := K.filter (fun k => decide (k ≠ b))) (g := fun k => .bool (updB D.A b false k)) (fun _ => Iff.rfl) (updB_val D.A b false)) (Nat.le_trans (List.length_filter_le _ _) h2) r3 (Nat.le_refl N)
  exact ⟨w2, r1, h3.1, h3.2, r3⟩
theorem NdIs.toAsk (h : NdIs w p B Fc c id N D) {b : Int} (hb : I64 b) (hN : N + 1 ≤ 2000) :
    ∃ w2, (Instr.mapUpdate 88 (.map (some B.am)) (.int .i64 b) (.bool true)).run Tryz.prog w = .ok () w2 ∧ NdIs w2 p B Fc c id (N + 1) ⟨D.C, D.T, D.P, updB D.A b true, D.O⟩ ∧ Step (Fa p B Fc) (Fa p B Fc) w w2 ∧ FrS (· = B.am) w w2 := by
  obtain ⟨K, h1, h2⟩ := h.asd
  obtain ⟨w2, r1, r2, r3⟩ := mp_put h1 Tryz.underlying88 hb (.bool true) (K' := b :: K) (fun k => List.mem_cons) (by simp; omega)
  have h3 := h.setA (M := N + 1) (A' := updB D.A b true) (r2.alike (K' := b :: K) (g := fun k => .bool (updB D.A b true k)) (fun _ => Iff.rfl) (updB_val D.A b true)) (by simp; omega) r3 (Nat.le_succ N)
  exact ⟨w2, r1, h3.1, h3.2, r3⟩
theorem NdIs.lookO (h : NdIs w p B Fc c id N D) {b : Int} (hb : I64 b) : ∀ w', w'.heap[B.tm]? = w.heap[B.tm]? → (Instr.lookup 65 (.map (some B.tm)) (.int .i64 b) false).run Tryz.prog w' = .ok (.int .i64 (D.O b)) w' := by
  obtain ⟨K, h1, h2⟩ := h.tm
  exact h1.look Tryz.underlying65 zeroIE hb
theorem NdIs.lookA (h : NdIs w p B Fc c id N D) {b : Int} (hb : I64 b) : ∀ w', w'.heap[B.am]? = w.heap[B.am]? → (Instr.lookup 88 (.map (some B.am)) (.int .i64 b) false).run Tryz.prog w' = .ok (.bool (D.A b)) w' := by
  obtain ⟨K, h1, h2⟩ := h.asd
  exact h1.look Tryz.underlying88 zeroBoE hb
end
structure EndP (w : World) (p : Nat) (B : Bk) (Fc : Nat → Prop) (c : Cf) (id : Int) (N : Nat) (D : Nd) (L : List Lt) (v : Value) (w' : World) (g : Nat) : Prop where
  own : OwnT w' v g L
  new : w.heap.size ≤ g
  nd : NdIs w' p B Fc c id N D
  st : Step (Fa p B Fc) (Fa p B Fc) w w'
  nf : ¬ Fa p B Fc g
set_option maxHeartbeats 2000000 in
theorem ndEnd_c (p : Nat) (B : Bk) (Fc : Nat → Prop) (c : Cf) (id : Int) (N : Nat) (D : Nd) (b : Int) (w : World) (h : NdIs w p B Fc c id N D) (hb : I64 b) (hN1 : N + 1 ≤ 2000) (L : List Lt) (hL : Hid (endL c id D b = L)) : Calls Tryz.prog 76 #[ptr p, .int .i64 b] w fun e w' => ∃ v, e = .returned v ∧ ∃ g, EndP w p B Fc c id (N + 1) (nxE id D b) L v w' g := by
  have hH := hide h
  have hL' := hL.out
  obtain ⟨a, ha⟩ : ∃ a, Hid (ownA id D b = a) := ⟨_, rfl⟩
  obtain ⟨ok, hok⟩ : ∃ ok, Hid (ownB id D b = ok) := ⟨_, rfl⟩
  obtain ⟨ov, hov⟩ : ∃ ov, Hid (D.O b = ov) := ⟨_, rfl⟩
  unfold endL at hL'
  unfold nxE
  have hEO : endOk id D b = (ok && decide (ov < (getA D.T.A b).s)) := by unfold endOk; rw [hok.out, hov.out]
  rw [hEO] at hL' ⊢
  clear hL h hEO
  cases ok
  · simp at hL'
    subst hL'
    simp only [Bool.false_and, Bool.false_eq_true, if_false]
    go_enter Tryz.func76, Tryz.ntmps76
    go_wp2_with (go_at_call 118; refine (ndOwn_c p B Fc c id N D b _ hH.out hb a ha false hok).mono ?_; rintro e w1 ⟨rfl, hb1⟩; obtain ⟨x, rfl⟩ := over hb1; clear hb1)
    refine name_world ?_
    intro V hV
    have hB : Hid (Below w.heap.size w V) := by rw [← hV]; exact hide (by all_goals exact belEnd)
    have hka : w.heap.size ≤ x.w.heap.size ∧ x.w.heap.size < V.heap.size := by rw [← hV]; exact ⟨x.below.size, by simp⟩
    have hkF : ¬ Fa p B Fc x.w.heap.size := fun e => by have := hH.out.lt _ e; have := hka.1; omega
    have a2 : V.cell? ⟨x.w.heap.size, 2, none⟩ = some (.int .i64 a.s) := by rw [← hV]; simp [go_sem]
    obtain ⟨ka, hk⟩ : ∃ ka, x.w.heap.size = ka := ⟨_, rfl⟩
    rw [hk] at hka hkF a2 ⊢
    clear hV hk x
    have hN := hide (hH.out.below hB.out)
    have A := hN.out.at'
    have c13 := A.c13
    have c14 := A.c14
    have hpl := A.lt
    clear A
    go_wp2_with fail
    refine wp_region_noPanic ?_
    refine wp_region_held_drew (S := (fun _ => True)) (by kernel_rfl) ?_ (fun hHeld => ?_)
    · trivial
    refine hTk 0 13 hHeld ?_
    refine hTk 1 14 hHeld ?_
    refine hTk 2 15 hHeld ?_
    refine hSk 3 16 hHeld ?_
    refine hSk 4 17 hHeld ?_
    refine hSk 5 18 hHeld ?_
    refine hSk 6 19 hHeld ?_
    refine hSk 7 20 hHeld ?_
    refine hSk 8 21 hHeld ?_
    refine hSk 9 22 hHeld ?_
    refine hSk 10 23 hHeld ?_
    refine hSk 11 24 hHeld ?_
    refine hTk 12 25 hHeld ?_
    refine wpAnyH_done (by kernel_rfl) (NoPanic.normal ?_) _
    clear hHeld
    go_wp2_with fail
    go_ret
    exact ⟨_, rfl, ka, own_nilT hka.2, hka.1, (hN.out.mono (Nat.le_succ N)).drewN 1, (Step.of_below (hB.out.drew)), hkF⟩
  · have hga : Hid (getA D.T.A b = a) := hide (by have := ha.out; unfold ownA at this; rw [hok.out] at this; exact this)
    rw [hga.out] at hL' ⊢
    simp only [Bool.true_and, decide_eq_true_eq] at hL' ⊢
    by_cases e : ov < a.s
    · rw [if_pos e] at hL' ⊢
      go_enter Tryz.func76, Tryz.ntmps76
      go_wp2_with (go_at_call 118; refine (ndOwn_c p B Fc c id N D b _ hH.out hb a ha true hok).mono ?_; rintro e w1 ⟨rfl, hb1⟩; obtain ⟨x, rfl⟩ := over hb1; clear hb1)
      refine name_world ?_
      intro V hV
      have hB : Hid (Below w.heap.size w V) := by rw [← hV]; exact hide (by all_goals exact belEnd)
      have hka : w.heap.size ≤ x.w.heap.size ∧ x.w.heap.size < V.heap.size := by rw [← hV]; exact ⟨x.below.size, by simp⟩
      have hkF : ¬ Fa p B Fc x.w.heap.size := fun e => by have := hH.out.lt _ e; have := hka.1; omega
      have a2 : V.cell? ⟨x.w.heap.size, 2, none⟩ = some (.int .i64 a.s) := by rw [← hV]; simp [go_sem]
      obtain ⟨ka, hk⟩ : ∃ ka, x.w.heap.size = ka := ⟨_, rfl⟩
      rw [hk] at hka hkF a2 ⊢
      clear hV hk x
      have hN := hide (hH.out.below hB.out)
      have A := hN.out.at'
      have c13 := A.c13
      have c14 := A.c14
      have hpl := A.lt
      clear A
      have l0 := hide (hN.out.lookO hb)
      have hml := hN.out.ml
      rw [hov.out] at l0
      have hle : decide (a.s ≤ ov) = false := decide_eq_false (by omega)
      go_wp2_with fail
      refine wp_region_noPanic ?_
      refine wp_region_held_drew (S := (fun w' => w'.cell? ⟨p, 14, none⟩ = some (.map (some B.tm)) ∧ w'.cell? ⟨ka, 2, none⟩ = some (.int .i64 a.s) ∧ (Instr.lookup 65 (.map (some B.tm)) (.int .i64 b) false).run Tryz.prog w' = .ok (.int .i64 ov) w')) (by kernel_rfl) ?_ (fun hHeld => ?_)
      · exact ⟨c14, a2, l0.out _ rfl⟩
      refine hTk 0 13 hHeld ?_
      refine hTk 1 14 hHeld ?_
      refine hTk 2 15 hHeld ?_
      refine hTk 3 16 hHeld ?_
      refine hTk 4 17 hHeld ?_
      refine hTk 5 18 hHeld ?_
      refine hTk 6 19 hHeld ?_
      refine hTk 7 20 hHeld ?_
      refine hTk 8 21 hHeld ?_
      refine hTk 9 22 hHeld ?_
      refine hTk 10 23 hHeld ?_
      refine hVl 11 24 (.bool false) hHeld (fun wz hSw => ?_) ?_
      · try dsimp only at hSw
        go_simp
      refine hTk 12 25 hHeld ?_
      refine wpAnyH_done (by kernel_rfl) (NoPanic.normal ?_) _
      clear hHeld
      clear l0
      go_wp2_with fail
      go_wp2_with fail
      refine wp_region_noPanic ?_
      refine last_begin 7 (fun w' => w'.cell? ⟨p, 14, none⟩ = some (.map (some B.tm)) ∧ w'.cell? ⟨ka, 2, none⟩ = some (.int .i64 a.s)) (by kernel_rfl) ?_ fun hHeld => ?_
      · exact ⟨c14, a2⟩
      refine lTk 0 26 hHeld ?_
      refine lTk 1 27 hHeld ?_
      refine lTk 2 28 hHeld ?_
      refine lTk 3 29 hHeld ?_
      refine lTk 4 30 hHeld ?_
      refine lTk 5 31 hHeld ?_
      refine lTk 6 32 hHeld ?_
      refine lNo 7 fun K hK => ?_
      refine wp_updE (.tmp 29) (.tmp 30) (.tmp 32) rfl rfl rfl rfl ((hN.out.below (by all_goals exact belEnd)).tell hb a.s hN1) ?_; intro w3 hw3
      refine hK.out _ _ (fun h => absurd rfl h) fun _ => ?_
      clear hK K
      try simp only [Act.put, za, zb, zc]
      refine last_done (by kernel_rfl) (NoPanic.normal ?_) _
      clear hHeld
      obtain ⟨n3, s3, f3⟩ := hw3
      have hS3 : Hid (Step (Fa p B Fc) (Fa p B Fc) w w3) := hide ((Step.of_below (F := Fa p B Fc) (belowN hB.out 2)).trans s3)
      have q2 : w3.cell? ⟨ka, 2, none⟩ = some (.int .i64 a.s) := keep_cell (f3.block ka hka.2 (fun e => hkF (by rw [e]; simp [Fa]))) a2
      have hka3 : ka < w3.heap.size := Nat.lt_of_lt_of_le hka.2 f3.size
      have hn3 := hide n3
      clear s3 f3 n3 c13 c14 a2 hN
      have c13 := hn3.out.at'.c13
      have hpl3 := hn3.out.pl
      have hdel := hide (fun ty => hn3.out.unask hb ty)
      have hkA : ka ≠ B.am := fun e => hkF (by rw [e]; simp [Fa])
      replace hL' := hide hL'
      go_wp2_with (first | (at_delete; refine wpList_del rfl (.tmp 36) (.tmp 37) rfl rfl rfl hdel.out ?_; intro w4 hD; have q4 : w4.cell? ⟨ka, 2, none⟩ = some (.int .i64 a.s) := keep_cell (hD.2.2.block ka hka3 hkA) q2; have hS4 : Hid (Step (Fa p B Fc) (Fa p B Fc) w w4) := hide (hS3.out.trans hD.2.1); have hn4 := hide hD.1; clear hD) | (go_at_call 101; refine (ndHome_c p B Fc c id (N + 1) _ 5 b a.s _ hn4.out L hL').mono ?_; rintro e w5 ⟨v5, rfl, g5, ho5, hg5, hb5⟩; obtain ⟨ao5, cap5, e5, -⟩ := _root_.id ho5; subst e5; replace ho5 := hide ho5; replace hb5 := hide hb5))
      go_ret
      exact ⟨_, rfl, g5, ho5.out, Nat.le_trans hS4.out.fr.size hg5, hn4.out.below hb5.out, hS4.out.trans (Step.of_below hb5.out), fun e => by have := hn4.out.lt _ e; omega⟩
    · rw [if_neg e] at hL' ⊢
      subst hL'
      go_enter Tryz.func76, Tryz.ntmps76
      go_wp2_with (go_at_call 118; refine (ndOwn_c p B Fc c id N D b _ hH.out hb a ha true hok).mono ?_; rintro e w1 ⟨rfl, hb1⟩; obtain ⟨x, rfl⟩ := over hb1; clear hb1)
      refine name_world ?_
      intro V hV
      have hB : Hid (Below w.heap.size w V) := by rw [← hV]; exact hide (by all_goals exact belEnd)
      have hka : w.heap.size ≤ x.w.heap.size ∧ x.w.heap.size < V.heap.size := by rw [← hV]; exact ⟨x.below.size, by simp⟩
      have hkF : ¬ Fa p B Fc x.w.heap.size := fun e => by have := hH.out.lt _ e; have := hka.1; omega
      have a2 : V.cell? ⟨x.w.heap.size, 2, none⟩ = some (.int .i64 a.s) := by rw [← hV]; simp [go_sem]
      obtain ⟨ka, hk⟩ : ∃ ka, x.w.heap.size = ka := ⟨_, rfl⟩
      rw [hk] at hka hkF a2 ⊢
      clear hV hk x
      have hN := hide (hH.out.below hB.out)
      have A := hN.out.at'
      have c13 := A.c13
      have c14 := A.c14
      have hpl := A.lt
      clear A
      have l0 := hide (hN.out.lookO hb)
      have hml := hN.out.ml
      rw [hov.out] at l0
      have hle : decide (a.s ≤ ov) = true := decide_eq_true (by omega)
      go_wp2_with fail
      refine wp_region_noPanic ?_
      refine wp_region_held_drew (S := (fun w' => w'.cell? ⟨p, 14, none⟩ = some (.map (some B.tm)) ∧ w'.cell? ⟨ka, 2, none⟩ = some (.int .i64 a.s) ∧ (Instr.lookup 65 (.map (some B.tm)) (.int .i64 b) false).run Tryz.prog w' = .ok (.int .i64 ov) w')) (by kernel_rfl) ?_ (fun hHeld => ?_)
      · exact ⟨c14, a2, l0.out _ rfl⟩
      refine hTk 0 13 hHeld ?_
      refine hTk 1 14 hHeld ?_
      refine hTk 2 15 hHeld ?_
      refine hTk 3 16 hHeld ?_
      refine hTk 4 17 hHeld ?_
      refine hTk 5 18 hHeld ?_
      refine hTk 6 19 hHeld ?_
      refine hTk 7 20 hHeld ?_
      refine hTk 8 21 hHeld ?_
      refine hTk 9 22 hHeld ?_
      refine hTk 10 23 hHeld ?_
      refine hVl 11 24 (.bool true) hHeld (fun wz hSw => ?_) ?_
      · try dsimp only at hSw
        go_simp
      refine hTk 12 25 hHeld ?_
      refine wpAnyH_done (by kernel_rfl) (NoPanic.normal ?_) _
      clear hHeld
      clear l0
      go_wp2_with fail
      go_ret
      exact ⟨_, rfl, ka, own_nilT hka.2, hka.1, (hN.out.mono (Nat.le_succ N)).drewN 1, (Step.of_below (hB.out.drew)), hkF⟩
set_option maxHeartbeats 2000000 in
theorem ndPersist_c (p : Nat) (B : Bk) (Fc : Nat → Prop) (c : Cf) (id : Int) (N : Nat) (D : Nd) (b : Int) (w : World) (h : NdIs w p B Fc c id N D) (hb : I64 b) (hN1 : N + 1 ≤ 2000) (L : List Lt) (hL : Hid ((if D.A b = true then [] else homeL c id 3 b 0) = L)) (D' : Nd) (hD' : Hid ((if D.A b = true then D else ⟨D.C, D.T, D.P, updB D.A b true, D.O⟩) = D')) : Calls Tryz.prog 52 #[ptr p, .int .i64 b] w fun e w' => ∃ v, e = .returned v ∧ ∃ g, OwnT w' v g L ∧ (L ≠ [] → w.heap.size ≤ g) ∧ NdIs w' p B Fc c id (N + 1) D' ∧ Step (Fa p B Fc) (Fa p B Fc) w w' := by
  have hH := hide h
  have hpl := h.pl
  have c13 := h.at'.c13
  have hL' := hL.out
  have hD2 := hD'.out
  obtain ⟨q, hq⟩ : ∃ q, Hid (D.A b = q) := ⟨_, rfl⟩
  have l0 := h.lookA hb w rfl
  try dsimp only at l0
  rw [hq.out] at hL' hD2 l0
  clear hL hD' h
  cases q
  · simp only [Bool.false_eq_true, if_false] at hL' hD2
    have hup := hide (hH.out.toAsk hb hN1)
    rw [hD2] at hup
    obtain ⟨w2, r1, n2, s2, f2⟩ := hup.out
    have hn2 := hide n2
    have hs2 := hide s2
    replace r1 := hide r1
    replace hL' := hide hL'
    clear hup n2 s2 f2 hD2
    go_enter Tryz.func52, Tryz.ntmps52
    go_wp2_with (first | (at_mapUpdate; refine wpList_upd rfl (.tmp 14) (.tmp 15) (.const (.bool true)) rfl rfl rfl rfl r1.out ?_) | (go_at_call 101; refine (ndHome_c p B Fc c id (N + 1) _ 3 b 0 _ hn2.out L hL').mono ?_; rintro e w5 ⟨v5, rfl, g5, ho5, hg5, hb5⟩; obtain ⟨ao5, cap5, e5, -⟩ := _root_.id ho5; subst e5; replace ho5 := hide ho5; replace hb5 := hide hb5))
    go_ret
    exact ⟨_, rfl, g5, ho5.out, fun _ => Nat.le_trans hs2.out.fr.size hg5, hn2.out.below hb5.out, hs2.out.trans (Step.of_below hb5.out)⟩
  · simp only [if_true] at hL' hD2
    subst hL' hD2
    go_enter Tryz.func52, Tryz.ntmps52
    go_wp2_with fail
    go_ret
    exact ⟨_, rfl, p, own_nilT hpl, fun h => absurd rfl h, hH.out.mono (Nat.le_succ N), Step.refl _ _⟩
end Go.Proofs.YtoenjdnccgmhoaaGreatDoor
