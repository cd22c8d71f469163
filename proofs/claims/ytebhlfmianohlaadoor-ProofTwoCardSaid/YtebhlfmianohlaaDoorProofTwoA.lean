/-
  proof.Two: storing three results, the worlds on its way.
-/
import Derived.Test.YtebhlfmianohlaaDoorProofTwoPure
import Derived.Test.YtebhlfmianohlaaDoorProofProve
import Derived.Great.BuildSlice
namespace Go.Proofs.YtebhlfmianohlaaDoor
open Go.RowKit Go.Shelf
attribute [local go_sem] Oper.semAt_some

theorem results_cells3 {P : Program} {fn : Func} {p q r : Tmp} {t u v : TypeId} (h : fn.results = #[.cell p t, .cell q u, .cell r v]) (tmps : Array Value) (w : World) (a b c : Addr) {x y z : Value}
    (hp : tmps.getD p undef = .pointer (some a)) (hq : tmps.getD q undef = .pointer (some b)) (hr : tmps.getD r undef = .pointer (some c))
    (hx : (loadVar t a).run P w = .ok x w) (hy : (loadVar u b).run P w = .ok y w) (hz : (loadVar v c).run P w = .ok z w) :
    (results fn tmps).run P w = .ok (.tuple #[x, y, z]) w := by
  have hp' : tmps[p]?.getD undef = .pointer (some a) := by simpa using hp
  have hq' : tmps[q]?.getD undef = .pointer (some b) := by simpa using hq
  have hr' : tmps[r]?.getD undef = .pointer (some c) := by simpa using hr
  simp [results, h, hp', hq', hr', asAddr, hx, hy, hz, Result.andThen, Sem.run_bind]
theorem run_loadVar_slice8 {W : World} {g : Nat} {A : Option Addr} {n c : Nat} (h : Boxed W g 22 (.slice A n c)) : (loadVar 22 ⟨g, 0, none⟩).run Tryd.prog W = .ok (.slice A n c) W := by
  have hc := h.cell
  simp [loadVar, hc, go_sem]
theorem run_loadVar_bool {W : World} {g : Nat} {b : Bool} (h : Boxed W g 4 (.bool b)) : (loadVar 4 ⟨g, 0, none⟩).run Tryd.prog W = .ok (.bool b) W := by
  have hc := h.cell
  simp [loadVar, hc, go_sem]

theorem wpListIn_load_row_on {F : Fence} {n : Nat} {P : Program} {ops : Array Oper} {rest : List Oper} {o : Oper} {a : Act} {w : World} {Q : Exit → Act → World → Prop} (hw : Region.wanted o (yielded ops a.tmps) = true) (ty : TypeId) (x : Operand) (ho : o.op = .load ty x)
    (g : Nat) (hx : a.eval x = .pointer (some ⟨g, 0, none⟩)) (t : TypeId) (cs : Array Value) (fr : Nat × Nat) (d : TypeDesc) (hg : w.heap[g]? = some (.cells cs t fr))
    (hu : P.underlying ty = some d) (hd : (match d with | .struct _ | .array _ _ => true | _ => false) = true) (hi : (P.info? ty).map (·.size) = some cs.size)
    (h : wpListIn F n P ops Q rest (a.put o.dst (.agg cs)) w) : wpListIn F n P ops Q (o :: rest) a w := by
  unfold wpListIn
  rw [if_pos hw]
  unfold Oper.wpIn
  refine ⟨?_, ?_⟩
  · simp [Oper.about, ho]
  · rw [Oper.semAt_plain F _ _ (by rw [ho]; intro c hc; cases hc)]
    unfold execOp
    simp only [ho, hx, Instr.loadAt, Instr.sureAddr, Sem.run_bind, Sem.run_pure, Result.andThen_ok, run_loadVar_row w g t ty cs fr d hg hu hd hi]
    exact h
theorem wpListIn_store_one {F : Fence} {n : Nat} {P : Program} {ops : Array Oper} {rest : List Oper} {o : Oper} {a : Act} {w : World} {Q : Exit → Act → World → Prop} (hgd : o.guard = none) (ty : TypeId) (x y : Operand) (ho : o.op = .store ty x y) (hds : o.dst = none)
    (g : Nat) (v : Value) (hx : a.eval x = .pointer (some ⟨g, 0, none⟩)) (hy : a.eval y = v) (h1 : v.oneCell' = true)
    (t : TypeId) (old : Value) (hg : Boxed w g t old) (hi : (P.info? ty).map (·.size) = some 1)
    (h : wpListIn F n P ops Q rest a (w.setRow g #[v])) : wpListIn F n P ops Q (o :: rest) a w := by
  refine wpListIn_plain hgd fun K hK => ?_
  unfold Oper.wpIn
  refine ⟨?_, ?_⟩
  · simp [Oper.about, ho]
  · rw [Oper.semAt_plain F _ _ (by rw [ho]; intro c hc; cases hc)]
    unfold execOp
    simp only [ho, hx, hy, Instr.storeAt, Instr.sureAddr, Sem.run_bind, Sem.run_pure, Result.andThen_ok, run_storeVar_one w g t ty old _ hg hi h1]
    show K (a.put o.dst undef) _
    rw [hds]
    exact hK _ _ h
theorem boxed_setRow_at {W : World} {g : Nat} {t : TypeId} {v : Value} (h : Boxed W g t v) (u : Value) : Boxed (W.setRow g #[u]) g t u := setRow_at h
theorem boxed_setRow_ne {W : World} {g q : Nat} {t : TypeId} {v : Value} (h : Boxed W q t v) (hne : q ≠ g) (cs : Array Value) : Boxed (W.setRow g cs) q t v := (setRow_ne _ _ _ _ hne).trans h
/-- The three results are stored. -/
theorem wpListIn_store_three {F : Fence} {n : Nat} {ops : Array Oper} {o1 o2 o3 : Oper} {rest : List Oper} {a : Act} {w : World} {Q : Exit → Act → World → Prop} (g : Nat) (v1 v2 v3 : Value)
    (hg1 : o1.guard = none) (hg2 : o2.guard = none) (hg3 : o3.guard = none) (y1 y2 y3 : Operand) (p1 p2 p3 : Operand)
    (ho1 : o1.op = .store 22 p1 y1) (ho2 : o2.op = .store 22 p2 y2) (ho3 : o3.op = .store 4 p3 y3) (hd1 : o1.dst = none) (hd2 : o2.dst = none) (hd3 : o3.dst = none)
    (hp1 : a.eval p1 = .pointer (some ⟨g, 0, none⟩)) (hp2 : a.eval p2 = .pointer (some ⟨g + 1, 0, none⟩)) (hp3 : a.eval p3 = .pointer (some ⟨g + 1 + 1, 0, none⟩)) (hy1 : a.eval y1 = v1) (hy2 : a.eval y2 = v2) (hy3 : a.eval y3 = v3)
    (h1 : v1.oneCell' = true) (h2 : v2.oneCell' = true) (h3 : v3.oneCell' = true) {u1 u2 u3 : Value} (b1 : Boxed w g 22 u1) (b2 : Boxed w (g + 1) 22 u2) (b3 : Boxed w (g + 1 + 1) 4 u3)
    (h : ∀ w', Turned (fun b => b = g ∨ b = g + 1 ∨ b = g + 1 + 1) w w' → KeepsFrom 0 w w' → Boxed w' g 22 v1 → Boxed w' (g + 1) 22 v2 → Boxed w' (g + 1 + 1) 4 v3 → wpListIn F n Tryd.prog ops Q rest a w') : wpListIn F n Tryd.prog ops Q (o1 :: o2 :: o3 :: rest) a w := by
  have c1 := boxed_setRow_at b1 v1
  have c2 := boxed_setRow_ne b2 (show g + 1 ≠ g by omega) #[v1]
  have c3 := boxed_setRow_ne b3 (show g + 1 + 1 ≠ g by omega) #[v1]
  have d1 := boxed_setRow_ne c1 (show g ≠ g + 1 by omega) #[v2]
  have d2 := boxed_setRow_at c2 v2
  have d3 := boxed_setRow_ne c3 (show g + 1 + 1 ≠ g + 1 by omega) #[v2]
  have e1 := boxed_setRow_ne d1 (show g ≠ g + 1 + 1 by omega) #[v3]
  have e2 := boxed_setRow_ne d2 (show g + 1 ≠ g + 1 + 1 by omega) #[v3]
  have e3 := boxed_setRow_at d3 v3
  have k1 : Kept 0 (fun b => ¬ (b = g ∨ b = g + 1 ∨ b = g + 1 + 1)) (fun _ => False) w (w.setRow g #[v1]) := Kept.of_turned (turned_setRow _) b1 (fun h => h (.inl rfl)) (fun h => h)
  have k2 : Kept 0 (fun b => ¬ (b = g ∨ b = g + 1 ∨ b = g + 1 + 1)) (fun _ => False) (w.setRow g #[v1]) ((w.setRow g #[v1]).setRow (g + 1) #[v2]) := Kept.of_turned (turned_setRow _) c2 (fun h => h (.inr (.inl rfl))) (fun h => h)
  have k3 : Kept 0 (fun b => ¬ (b = g ∨ b = g + 1 ∨ b = g + 1 + 1)) (fun _ => False) ((w.setRow g #[v1]).setRow (g + 1) #[v2]) (((w.setRow g #[v1]).setRow (g + 1) #[v2]).setRow (g + 1 + 1) #[v3]) := Kept.of_turned (turned_setRow _) d3 (fun h => h (.inr (.inr rfl))) (fun h => h)
  have k := (k1.trans k2).trans k3
  refine wpListIn_store_one hg1 _ p1 y1 ho1 hd1 g v1 hp1 hy1 h1 _ _ b1 (by kernel_rfl) ?_
  refine wpListIn_store_one hg2 _ p2 y2 ho2 hd2 (g + 1) v2 hp2 hy2 h2 _ _ c2 (by kernel_rfl) ?_
  refine wpListIn_store_one hg3 _ p3 y3 ho3 hd3 (g + 1 + 1) v3 hp3 hy3 h3 _ _ d3 (by kernel_rfl) ?_
  exact h _ (k.turned.mono fun b _ hb => Classical.byContradiction fun hn => hb (.inl hn)) k.keeps e1 e2 e3

theorem twoBox {w W0 w1 : World} {OS : Array Value} (H : W0.heap.size = w.heap.size + 4 ∧ Below w.heap.size w W0 ∧ W0.heap[w.heap.size]? = some (.cells OS 31 (0, 0)) ∧ Boxed W0 (w.heap.size + 1) 22 (.slice none 0 0) ∧ Boxed W0 (w.heap.size + 1 + 1) 22 (.slice none 0 0) ∧ Boxed W0 (w.heap.size + 1 + 1 + 1) 4 (.bool false)) (hb : Below W0.heap.size W0 w1) :
    Hid (Below w.heap.size w w1 ∧ w1.heap[w.heap.size]? = some (.cells OS 31 (0, 0)) ∧ Boxed w1 (w.heap.size + 1) 22 (.slice none 0 0) ∧ Boxed w1 (w.heap.size + 1 + 1) 22 (.slice none 0 0) ∧ Boxed w1 (w.heap.size + 1 + 1 + 1) 4 (.bool false)) :=
  Lib.hid ⟨H.2.1.trans (hb.mono H.2.1.size), (hb.block _ (by omega)).trans H.2.2.1, (hb.block _ (by omega)).trans H.2.2.2.1, (hb.block _ (by omega)).trans H.2.2.2.2.1, (hb.block _ (by omega)).trans H.2.2.2.2.2⟩
theorem twoBox2 {w w1 w2 : World} {OS : Array Value} (H : Hid (Below w.heap.size w w1 ∧ w1.heap[w.heap.size]? = some (.cells OS 31 (0, 0)) ∧ Boxed w1 (w.heap.size + 1) 22 (.slice none 0 0) ∧ Boxed w1 (w.heap.size + 1 + 1) 22 (.slice none 0 0) ∧ Boxed w1 (w.heap.size + 1 + 1 + 1) 4 (.bool false))) (hb : Below w1.heap.size w1 w2) :
    Hid (Below w.heap.size w w2 ∧ w2.heap[w.heap.size]? = some (.cells OS 31 (0, 0)) ∧ Boxed w2 (w.heap.size + 1) 22 (.slice none 0 0) ∧ Boxed w2 (w.heap.size + 1 + 1) 22 (.slice none 0 0) ∧ Boxed w2 (w.heap.size + 1 + 1 + 1) 4 (.bool false)) :=
  Lib.hid ⟨H.out.1.trans (hb.mono H.out.1.size), (hb.block _ (lt_of_cells H.out.2.1)).trans H.out.2.1, (hb.block _ H.out.2.2.1.lt).trans H.out.2.2.1, (hb.block _ H.out.2.2.2.1.lt).trans H.out.2.2.2.1, (hb.block _ H.out.2.2.2.2.lt).trans H.out.2.2.2.2⟩
structure Told (b1 b2 : Bool) (l1 l2 : List UInt8) (t : Bool) : Prop where
  eq : t = (b1 && b2)
  no : t = false → l1 = [] ∧ l2 = []
  yes : t = true → twoB l1 l2 = true ∧ l1.length ≤ 1000 ∧ l2.length ≤ 1000

/-- What it answers. -/
def PTwo (w : World) (root : List UInt8) (n i : Int) (a : List UInt8) (x : List (List UInt8)) (b : List UInt8) (y : List (List UInt8)) (e : Ending) (w' : World) : Prop :=
  ∃ A1 n1 c1 A2 n2 c2 l1 l2 t, e = .returned (.tuple #[.slice A1 n1 c1, .slice A2 n2 c2, .bool t]) ∧ Byt w' (w.heap.size ≤ ·) A1 n1 c1 l1 ∧ Byt w' (w.heap.size ≤ ·) A2 n2 c2 l2 ∧ Told (decide (a ≠ b)) (decide (checkL root n i a x = 0) && decide (checkL root n i b y = 0)) l1 l2 t ∧ Below w.heap.size w w'
end Go.Proofs.YtebhlfmianohlaaDoor
