/-
  Rows of the call's own that have room (append); arrays and structs that are read anywhere; slices with three bounds; returns of four results; what all orders of a region end in.
  Cells: changes in memory; whether one may be.
  Cells: changes that grow in memory; what reading takes.
  Files: files in memory, in a row that may grow.
-/
import Derived.Test.YtpcoiakdbfihlaaDoorPk04
import Derived.Laws.Cover3
import Derived.Test.YtpcoiakdbfihlaaDoorPk01
import Derived.Maps.AppendAt
import Derived.Deep.AppendLies
import Derived.Test.YtpcoiakdbfihlaaDoorPk02
/-! Rows of the call's own that have room (append); arrays and structs that are read anywhere; slices with three bounds; returns of four results; what all orders of a region end in. -/
namespace Go.Proofs.YtpcoiakdbfihlaaDoor
open Go.RowKit

theorem own_byt_at {w : World} {B : Nat} {e : TypeId} {A : Option Addr} {n c : Nat} {l : List UInt8} (h : w.ownsRow B e 1 (.slice A n c) n (u8s l)) : Byt w (B ≤ ·) A n c l := by
  obtain ⟨A', c', hv, hY⟩ := own_byt h
  injection hv with h1 h2 h3
  subst h1 h3
  exact hY
theorem own_below {w w' : World} {base : Nat} {e : TypeId} {size : Nat} {v : Value} {n : Nat} {xs : List Value} (h : w.ownsRow base e size v n xs) (hb : Below w.heap.size w w') : w'.ownsRow base e size v n xs :=
  h.kept (row := none) ⟨hb.os, hb.tape, hb.output, hb.size, fun k hk _ => hb.block k hk⟩ (by cases v.ownBlock <;> simp)
theorem own_base {w : World} {base base' : Nat} {e : TypeId} {size : Nat} {v : Value} {n : Nat} {xs : List Value} (h : w.ownsRow base e size v n xs) (hb : base' ≤ base) : w.ownsRow base' e size v n xs := by
  refine ⟨h.1, ?_⟩
  rcases h.2 with hn | ⟨g, cap, cur, h1, h2, rest⟩
  · exact .inl hn
  · exact .inr ⟨g, cap, cur, h1, by omega, rest⟩
theorem below_of_gr {B : Nat} {a w w' : World} (h : Below B a w) (hg : w.grownBy w' (some B)) (hB : B ≤ w.heap.size) : Below B a w' := h.grown hg hB fun k e => by injection e; omega
/-- append of a slice that reads as bytes to a row of the call's own that has room. -/
theorem append_byt {W : World} {B g k cap : Nat} {xs : List Value} (hown : W.ownsRow B 5 1 (.slice (some ⟨g, 0, none⟩) k cap) k xs) {S : Nat → Prop} {A : Option Addr} {n c : Nat} {l : List UInt8} (h : Byt W S A n c l) (hr : k + n ≤ cap) (ty : TypeId) :
    ∃ W', (Builtin.append_ #[27, 27] ty #[.slice (some ⟨g, 0, none⟩) k cap, .slice A n c]).run Tryd.prog W = .ok (.slice (some ⟨g, 0, none⟩) (k + n) cap) W' ∧ W'.ownsRow B 5 1 (.slice (some ⟨g, 0, none⟩) (k + n) cap) (k + n) (xs ++ u8s l) ∧ W.grownBy W' (some g) := by
  obtain ⟨i0, hi, hz0, hz1, hz2⟩ := info_parts u8_info
  rcases A with _ | ad
  · obtain rfl : n = 0 := by
      rcases Nat.eq_zero_or_pos n with h0 | h0
      · exact h0
      · obtain ⟨_, _, hA, _⟩ := h.row h0
        cases hA
    obtain rfl : l = [] := List.eq_nil_of_length_eq_zero h.len
    exact ⟨W, run_append_zero W 27 ty 5 i0 Tryd.underlying27 hi _ k cap c (by omega), by simpa [u8s] using hown, World.grownBy.refl _ _⟩
  · exact run_append_fits W B 27 ty 5 i0 1 Tryd.underlying27 hi hz1 g k cap xs hown ad n c (u8s l) (by rw [u8s_length, h.len, Nat.mul_one]) (byt_news h) (u8s_one l) hr
theorem eff_app {P : Program} {ops : Array Oper} {Q : Exit → Act → World → Prop} {i : Nat} {o : Oper} {K : Act → World → Prop} {a : Act} {w : World} (ho : ops.toList[i]? = some o) (hgd : o.guard = none) (s x : Operand) (t : TypeId)
    (hop : o.op = .call { callee := .builtin .append, args := #[s, x], argTypes := #[t, t] }) {v u v' : Value} {w' : World} (hs : a.eval s = v) (hx : a.eval x = u)
    (hrun : (Builtin.append_ #[t, t] o.type #[v, u]).run P w = .ok v' w') (h : K (a.put o.dst v') w') : wpOp P ops Q i K a w :=
  eff_step ho fun K' hK' => by
    rw [if_pos (by unfold Region.wanted; rw [hgd])]
    unfold Oper.wp execOp
    simp only [hop, resolve, invoke, builtin, Sem.run_bind, Sem.run_pure, Result.andThen_ok, List.map_toArray, List.map_cons, List.map_nil, hs, hx, hrun]
    exact hK' _ _ h
theorem wpList_app {P : Program} {ops : Array Oper} {rest : List Oper} {o : Oper} {a : Act} {Q : Exit → Act → World → Prop} {w w' : World} (hgd : o.guard = none) (s x : Operand) (t : TypeId)
    (hop : o.op = .call { callee := .builtin .append, args := #[s, x], argTypes := #[t, t] }) {v u v' : Value} (hs : a.eval s = v) (hx : a.eval x = u)
    (hrun : (Builtin.append_ #[t, t] o.type #[v, u]).run P w = .ok v' w') (h : wpList P ops Q rest (a.put o.dst v') w') : wpList P ops Q (o :: rest) a w :=
  wpList_plain hgd fun _ hK => by
    unfold Oper.wp execOp
    simp only [hop, resolve, invoke, builtin, Sem.run_bind, Sem.run_pure, Result.andThen_ok, List.map_toArray, List.map_cons, List.map_nil, hs, hx, hrun]
    exact hK _ _ h
theorem exec_load_row {P : Program} {E : Operand → Value} {o : Oper} {W : World} {t e : TypeId} {n : Nat} (ty : TypeId) (x : Operand) (ho : o.op = .load ty x) (g : Nat) (hx : E x = .pointer (some ⟨g, 0, none⟩)) (cells : Array Value) (f : Nat × Nat) (hg : W.heap[g]? = some (.cells cells t f))
    (hu : P.underlying ty = some (.array n e)) (hi : (P.info? ty).map (·.size) = some cells.size) : (execOp E o).run P W = .ok (.value (.agg cells)) W := by
  unfold execOp
  simp only [ho, hx, Instr.loadAt, Instr.sureAddr, Sem.run_bind, Sem.run_pure, Result.andThen_ok, run_loadVar_row W g t ty cells f _ hg hu rfl hi]
/-- s[l:h:m] -/
theorem run_lhm {P : Program} (t e : TypeId) (ht : P.underlying t = some (.slice e)) (hz : ∀ w, (Go.sizeOf e).run P w = .ok 1 w) (A : Option Addr) (n c l h m : Nat) (li hi mi : Int) (el : li = (l : Int)) (eh : hi = (h : Int)) (em : mi = (m : Int)) (h1 : l ≤ h) (h2 : h ≤ m) (h3 : m ≤ c) (W : World) :
    (Instr.slice t (.slice A n c) (some (.int .i64 li)) (some (.int .i64 hi)) (some (.int .i64 mi))).run P W = .ok (.slice (cutA A m l) (h - l) (m - l)) W := by
  have ht' : P.underlying t = some (.slice (P.elem t)) := by simp [Program.elem, ht]
  have he : P.elem t = e := by simp [Program.elem, ht]
  subst el eh em
  rw [run_slice_lhm W t A n c ht' .i64 .i64 .i64 (l : Int) (h : Int) (m : Int) (by omega) (by omega) (by omega) (by omega), he, hz]
  simp [Result.andThen, sliced, cutA]
/-- An array or a struct that is read anywhere. -/
theorem run_loadVar_at {P : Program} (w : World) (ad : Addr) (ty : TypeId) (cs : Array Value) (d : TypeDesc) (hc : ∀ j v, cs[j]? = some v → w.cell? (ad.add j) = some v)
    (hu : P.underlying ty = some d) (hd : (match d with | .struct _ | .array _ _ => true | _ => false) = true) (hi : (P.info? ty).map (·.size) = some cs.size) :
    (loadVar ty ad).run P w = .ok (.agg cs) w := by
  have hl : (loadCells ad cs.toList.length).run P w = .ok cs.toList.toArray w :=
    run_loadCells_list (P := P) w ad cs.toList (fun j v hv => hc j v (by simpa using hv))
  cases hq : P.info? ty with
  | none => simp [hq] at hi
  | some i =>
    have hs : i.size = cs.size := by simpa [hq] using hi
    have hagg : (isAgg ty).run P w = .ok true w := by
      unfold isAgg
      rw [Sem.run_bind, run_underlying hu w]
      cases d <;> simp_all
    simp only [Array.length_toList, Array.toArray_toList] at hl
    simp [loadVar, Sem.run_bind, hagg, sizeOf, typeInfo, hq, hs, hl]
theorem runs_load_at {P : Program} {R : Value → World → Prop} {E : Operand → Value} {o : Oper} {W : World} {e : TypeId} {n : Nat} (ty : TypeId) (x : Operand) (ho : o.op = .load ty x) (ad : Addr) (hx : E x = .pointer (some ad)) (cells : Array Value) (hc : ∀ j v, cells[j]? = some v → W.cell? (ad.add j) = some v)
    (hu : P.underlying ty = some (.array n e)) (hi : (P.info? ty).map (·.size) = some cells.size) (h : R (.agg cells) W) : Grow.runsTo P R ((execOp E o).run P W) := by
  unfold execOp
  simp only [ho, hx, Instr.loadAt, Instr.sureAddr, Sem.run_bind, Sem.run_pure, Result.andThen_ok, run_loadVar_at W ad ty cells _ hc hu rfl hi]
  exact h
/-- What T{..} comes to, its value by a closed fact. -/
theorem runs_build {P : Program} {R : Value → World → Prop} {E : Operand → Value} {o : Oper} {W : World} (t : TypeId) (parts : Array (Nat × Operand)) (ho : o.op = .build t parts) (vs : List (Nat × Value)) (hv : (parts.map fun (i, x) => (i, E x)).toList = vs)
    (cells : Array Value) (hb : P.built t vs = some cells) (h : R (.agg cells) W) : Grow.runsTo P R ((execOp E o).run P W) := by
  have hr : (Instr.build t (parts.map fun (i, x) => (i, E x))).run P W = .ok (.agg cells) W := run_build W t _ cells (by rw [hv]; exact hb)
  unfold execOp
  simp only [ho, Sem.run_bind, hr, Result.andThen_ok, Sem.run_pure]
  exact h
theorem results_tmp4 {fn : Func} {t u v x : Tmp} (h : fn.results = #[.tmp t, .tmp u, .tmp v, .tmp x]) (tmps : Array Value) (P : Program) (w : World) :
    (results fn tmps).run P w = .ok (.tuple #[tmps.getD t undef, tmps.getD u undef, tmps.getD v undef, tmps.getD x undef]) w := by
  simp [results, h]
theorem wp_via {P : Program} {Q : Exit → Act → World → Prop} {c : Code} {a : Act} {w : World} (R : Act → World → Prop) (h : c.wp P (fun e a w => e = .normal ∧ R a w) a w) (k : ∀ a w, R a w → Q .normal a w) : c.wp P Q a w :=
  wp_mono h fun e a w hr => by
    obtain ⟨rfl, hr⟩ := hr
    exact k _ _ hr
theorem setRow_ne (w : World) (g k : Nat) (cs : Array Value) (h : k ≠ g) : (w.setRow g cs).heap[k]? = w.heap[k]? := by
  simp only [World.setRow, Array.getElem?_modify]
  rw [if_neg (fun e => h e.symm)]
/-- A load of a whole row by an operation whose guard says yes. -/
theorem wpList_load_row_on {P : Program} {ops : Array Oper} {rest : List Oper} {o : Oper} {a : Act} {w : World} {Q : Exit → Act → World → Prop} (hw : Region.wanted o (yielded ops a.tmps) = true) (ty : TypeId) (x : Operand) (ho : o.op = .load ty x)
    (g : Nat) (hx : a.eval x = .pointer (some ⟨g, 0, none⟩)) (t : TypeId) (cs : Array Value) (fr : Nat × Nat) (d : TypeDesc) (hg : w.heap[g]? = some (.cells cs t fr))
    (hu : P.underlying ty = some d) (hd : (match d with | .struct _ | .array _ _ => true | _ => false) = true) (hi : (P.info? ty).map (·.size) = some cs.size)
    (h : wpList P ops Q rest (a.put o.dst (.agg cs)) w) : wpList P ops Q (o :: rest) a w := by
  unfold wpList
  rw [if_pos hw]
  exact .inl (wp_load_row ty x ho g hx t cs fr d hg hu hd hi h)
/-- T{..}, its value by a closed fact, by an operation whose guard says yes. -/
theorem wpList_built_on {P : Program} {ops : Array Oper} {rest : List Oper} {o : Oper} {a : Act} {w : World} {Q : Exit → Act → World → Prop} (hw : Region.wanted o (yielded ops a.tmps) = true) (t : TypeId) (parts : Array (Nat × Operand)) (ho : o.op = .build t parts)
    (vs : List (Nat × Value)) (hv : (parts.map fun (i, x) => (i, a.eval x)).toList = vs) (Z : Array Value) (hb : P.built t vs = some Z) (h : wpList P ops Q rest (a.put o.dst (.agg Z)) w) : wpList P ops Q (o :: rest) a w := by
  unfold wpList
  rw [if_pos hw]
  refine .inl (wp_build t parts ho (by rw [hv, hb]; rfl) ?_)
  rw [hv, hb]
  exact h
/-- A struct that is read anywhere. -/
theorem wpList_load_at {P : Program} {ops : Array Oper} {rest : List Oper} {o : Oper} {a : Act} {w : World} {Q : Exit → Act → World → Prop} (hgd : o.guard = none) (ty : TypeId) (x : Operand) (ho : o.op = .load ty x) (ad : Addr) (hx : a.eval x = .pointer (some ad)) (cs : Array Value) (d : TypeDesc)
    (hc : ∀ (j : Nat) (v : Value), cs[j]? = some v → w.cell? (ad.add j) = some v) (hu : P.underlying ty = some d) (hd : (match d with | .struct _ | .array _ _ => true | _ => false) = true) (hi : (P.info? ty).map (·.size) = some cs.size)
    (h : wpList P ops Q rest (a.put o.dst (.agg cs)) w) : wpList P ops Q (o :: rest) a w :=
  wpList_plain hgd fun K hK => by
    unfold Oper.wp execOp
    simp only [ho, hx, Instr.loadAt, Instr.sureAddr, Sem.run_bind, Sem.run_pure, Result.andThen_ok, run_loadVar_at w ad ty cs d hc hu hd hi]
    exact hK _ _ h
end Go.Proofs.YtpcoiakdbfihlaaDoor

/-! Cells: changes in memory; whether one may be. -/
namespace Go.Proofs.YtpcoiakdbfihlaaDoor
open Go.RowKit Codec

theorem cell_turned {T : Nat → Prop} {w w' : World} (ht : Turned T w w') {k : Nat} (hk : k < w.heap.size) (hT : ¬ T k) (o : Nat) : w'.cell? ⟨k, o, none⟩ = w.cell? ⟨k, o, none⟩ :=
  World.cell?_of_block (w := w) (a := ⟨k, o, none⟩) (ht.block k hk hT)
/-- A change's cells. -/
def chV (A : Option Addr) (n c : Nat) (x : Ch) : Array Value := #[.string (st x.k), .slice A n c, .bool x.g]
theorem chV_one (A : Option Addr) (n c : Nat) (x : Ch) : (chV A n c x).all (·.oneCell') = true := by simp [chV, Value.oneCell']
/-- CHANGES IN MEMORY. -/
structure Chs (w : World) (S : Nat → Prop) (A : Option Addr) (n c : Nat) (l : List Ch) : Prop where
  len : l.length = n
  cap : n ≤ c
  max : c ≤ maxLen
  row : 0 < n → ∃ b off, A = some ⟨b, off, none⟩ ∧ S b ∧ b < w.heap.size ∧ ∀ i x, l[i]? = some x → ∃ Ai ni ci, (∀ (j : Nat) (v : Value), (chV Ai ni ci x)[j]? = some v → w.cell? ⟨b, off + i * 3 + j, none⟩ = some v) ∧ Byt w S Ai ni ci x.v
variable {w w' : World} {S T : Nat → Prop} {A : Option Addr} {n c : Nat} {l : List Ch}
theorem Chs.turned (h : Chs w S A n c l) (ht : Turned T w w') (hd : ∀ k, k < w.heap.size → S k → ¬ T k) : Chs w' S A n c l :=
  ⟨h.len, h.cap, h.max, fun h0 => by
    obtain ⟨b, off, h1, h2, h3, h4⟩ := h.row h0
    refine ⟨b, off, h1, h2, Nat.lt_of_lt_of_le h3 ht.size, fun i x hx => ?_⟩
    obtain ⟨Ai, ni, ci, h5, h6⟩ := h4 i x hx
    exact ⟨Ai, ni, ci, fun j v hv => (cell_turned ht h3 (hd b h3 h2) _).trans (h5 j v hv), h6.turned ht hd⟩⟩
theorem Chs.below (h : Chs w S A n c l) (hb : Below w.heap.size w w') : Chs w' S A n c l :=
  h.turned (T := fun _ => False) ⟨hb.os, hb.tape, hb.output, hb.size, fun k hk _ => hb.block k hk⟩ fun _ _ _ h => h
theorem Chs.mono (h : Chs w S A n c l) (hT : ∀ k, k < w.heap.size → S k → T k) : Chs w T A n c l :=
  ⟨h.len, h.cap, h.max, fun h0 => by
    obtain ⟨b, off, h1, h2, h3, h4⟩ := h.row h0
    refine ⟨b, off, h1, hT b h3 h2, h3, fun i x hx => ?_⟩
    obtain ⟨Ai, ni, ci, h5, h6⟩ := h4 i x hx
    exact ⟨Ai, ni, ci, h5, h6.mono hT⟩⟩
theorem Chs.nil (w : World) (S : Nat → Prop) (A : Option Addr) (c : Nat) (hc : c ≤ maxLen) : Chs w S A 0 c [] := ⟨rfl, Nat.zero_le _, hc, fun h => absurd h (by omega)⟩
theorem Chs.at_ (h : Chs w S A n c l) {i : Nat} (hi : i < n) : ∃ b off x Ai ni ci, A = some ⟨b, off, none⟩ ∧ S b ∧ b < w.heap.size ∧ l[i]? = some x ∧ (∀ (j : Nat) (v : Value), (chV Ai ni ci x)[j]? = some v → w.cell? ((⟨b, off + i * 3, none⟩ : Addr).add j) = some v) ∧ Byt w S Ai ni ci x.v := by
  obtain ⟨b, off, h1, h2, h3, h4⟩ := h.row (by omega)
  have hx : l[i]? = some (l[i]'(by have := h.len; omega)) := List.getElem?_eq_getElem _
  obtain ⟨Ai, ni, ci, h5, h6⟩ := h4 i _ hx
  exact ⟨b, off, _, Ai, ni, ci, h1, h2, h3, hx, fun j v hv => by rw [add_plain]; exact h5 j v hv, h6⟩

/-! ### whether one may be -/

end Go.Proofs.YtpcoiakdbfihlaaDoor

/-! Cells: changes that grow in memory; what reading takes. -/
namespace Go.Proofs.YtpcoiakdbfihlaaDoor
open Go.RowKit Codec

abbrev Ro := Option Addr × Nat × Nat
def chCells (L : List (Ro × Ch)) : List Value := (L.map fun y => (chV y.1.1 y.1.2.1 y.1.2.2 y.2).toList).flatten
theorem chCells_len (L : List (Ro × Ch)) : (chCells L).length = L.length * 3 := by
  induction L with
  | nil => rfl
  | cons y L ih =>
    unfold chCells at ih ⊢
    rw [List.map_cons, List.flatten_cons, List.length_append, ih, List.length_cons]
    simp [chV]
    omega
theorem chCells_at : ∀ (L : List (Ro × Ch)) (i : Nat) (y : Ro × Ch), L[i]? = some y → ∀ (j : Nat) (v : Value), (chV y.1.1 y.1.2.1 y.1.2.2 y.2)[j]? = some v → (chCells L)[i * 3 + j]? = some v
  | [], i, y, h, _, _, _ => by simp at h
  | z :: L, 0, y, h, j, v, hv => by
    simp at h
    subst h
    have hj : j < 3 := by
      have := (Array.getElem?_eq_some_iff.1 hv).1
      simpa [chV] using this
    unfold chCells
    rw [List.map_cons, List.flatten_cons, Nat.zero_mul, Nat.zero_add, List.getElem?_append_left (by simp [chV]; exact hj)]
    simpa using hv
  | z :: L, i + 1, y, h, j, v, hv => by
    have h' : L[i]? = some y := by simpa using h
    have ih := chCells_at L i y h' j v hv
    unfold chCells at ih ⊢
    rw [List.map_cons, List.flatten_cons, List.getElem?_append_right (by simp [chV]; omega), ← ih]
    congr 1
    simp [chV]
    omega
variable {w w' : World} {S T U : Nat → Prop} {v : Value} {l : List Ch}

/-! ### what reading takes -/
theorem ui_len {l : List UInt8} {e : Int} (h : uiE l e = 0) : e = 0 ∧ (uiL l e).length + 1 ≤ l.length := by
  unfold uiE at h
  by_cases he : e = 0
  · rw [if_pos he] at h
    refine ⟨he, ?_⟩
    unfold uiL
    rw [if_pos he, List.length_drop]
    have h1 := (put_rd 0 l (by omega) (by omega)).2.2.1
    have h2 := rd_le 0 l
    omega
  · rw [if_neg he] at h
    exact absurd h he
theorem fxL_len (l : List UInt8) (e k : Int) : (fxL l e k).length ≤ l.length := by
  unfold fxL
  split <;> simp
theorem byL_len (l : List UInt8) (e m : Int) : (byL l e m).length ≤ l.length := by
  have h1 := uiL_length l e
  have h2 := fxL_len (uiL l e) 0 (uiX l e)
  unfold byL
  split
  · exact h1
  · split <;> omega
theorem by_bad {l : List UInt8} {e m : Int} (h : byE l e m ≠ 0) : byB l e m = [] := by
  unfold byE at h
  unfold byB
  split
  · rfl
  · split
    · rfl
    · rename_i h1 h2
      rw [if_neg h1, if_neg h2] at h
      unfold fxB
      rw [if_neg h]
theorem by_take (l : List UInt8) (e m : Int) : (byB l e m ≠ [] ∨ byE l e m = 0) → e = 0 ∧ (byL l e m).length + (byB l e m).length + 1 ≤ l.length := by
  intro h
  have h0 : byE l e m = 0 := h.elim (fun h => Classical.byContradiction fun h2 => h (by_bad h2)) id
  have hu : uiE l e = 0 := Classical.byContradiction fun h2 => by
    unfold byE at h0
    rw [if_pos h2] at h0
    exact h2 h0
  obtain ⟨he, hl⟩ := ui_len hu
  refine ⟨he, ?_⟩
  unfold byE at h0
  unfold byL byB
  rw [if_neg (show ¬ uiE l e ≠ 0 from fun h => h hu)] at h0
  rw [if_neg (show ¬ uiE l e ≠ 0 from fun h => h hu), if_neg (show ¬ uiE l e ≠ 0 from fun h => h hu)]
  split at h0
  · exact absurd h0 (by decide)
  · rename_i h3
    rw [if_neg h3, if_neg h3]
    obtain ⟨_, _, h4⟩ := tkE_zero h0
    unfold fxL fxB
    rw [if_pos h0, if_pos h0, List.length_drop, List.length_take]
    omega
theorem by_few (l : List UInt8) (e : Int) (m : Nat) : (byB l e (m : Int)).length ≤ m := by
  unfold byB
  split
  · simp
  · split
    · simp
    · unfold fxB
      split
      · rw [List.length_take]
        omega
      · simp
theorem rc1_take {l : List UInt8} {e : Int} (h : mayC (rc1 l e).1 = true) : (rc1 l e).2.1.length + (rc1 l e).1.k.length + (rc1 l e).1.v.length + 1 ≤ l.length := by
  have hk := rc1_k l e
  have hk1 : byB l e 64 ≠ [] := by
    intro h2
    unfold mayC at h
    rw [hk, h2] at h
    simp at h
  have h1 := (by_take l e 64 (.inl hk1)).2
  have h2 := fxL_len (byL l e 64) (byE l e 64) 1
  rw [hk]
  unfold rc1
  split
  · simp only [List.length_nil]
    omega
  · simp only
    by_cases h3 : byE (fxL (byL l e 64) (byE l e 64) 1) (boE (byL l e 64) (byE l e 64)) 4096 = 0
    · have h4 := (by_take _ _ 4096 (.inr h3)).2
      omega
    · rw [by_bad h3]
      have h4 := byL_len (fxL (byL l e 64) (byE l e 64) 1) (boE (byL l e 64) (byE l e 64)) 4096
      simp only [List.length_nil]
      omega
end Go.Proofs.YtpcoiakdbfihlaaDoor

/-! Files: files in memory, in a row that may grow. -/
namespace Go.Proofs.YtpcoiakdbfihlaaDoor
open Go.RowKit Codec

abbrev Fi := List UInt8 × List UInt8
/-- A file's cells. -/
def fiV (A : Option Addr) (n c : Nat) (x : Fi) : Array Value := #[.string (st x.1), .slice A n c]
theorem fi_info : (Tryd.prog.info? 50).map (·.size) = some 2 := by kernel_rfl
theorem zero_fi : ∀ W, (zeroValue 50).run Tryd.prog W = .ok (.agg #[.string ⟨#[]⟩, .slice none 0 0]) W := fun W => by kernel_rfl
theorem fiV_one (A : Option Addr) (n c : Nat) (x : Fi) : (fiV A n c x).all (·.oneCell') = true := by simp [fiV, Value.oneCell']
/-- FILES IN MEMORY. -/
structure Fls (w : World) (S : Nat → Prop) (A : Option Addr) (n c : Nat) (l : Tb) : Prop where
  len : l.length = n
  cap : n ≤ c
  max : c ≤ maxLen
  row : 0 < n → ∃ b off, A = some ⟨b, off, none⟩ ∧ S b ∧ b < w.heap.size ∧ ∀ i x, l[i]? = some x → ∃ Ai ni ci, (∀ (j : Nat) (v : Value), (fiV Ai ni ci x)[j]? = some v → w.cell? ⟨b, off + i * 2 + j, none⟩ = some v) ∧ Byt w S Ai ni ci x.2
variable {w w' : World} {S T : Nat → Prop} {A : Option Addr} {n c : Nat} {l : Tb}
theorem Fls.turned (h : Fls w S A n c l) (ht : Turned T w w') (hd : ∀ k, k < w.heap.size → S k → ¬ T k) : Fls w' S A n c l :=
  ⟨h.len, h.cap, h.max, fun h0 => by
    obtain ⟨b, off, h1, h2, h3, h4⟩ := h.row h0
    refine ⟨b, off, h1, h2, Nat.lt_of_lt_of_le h3 ht.size, fun i x hx => ?_⟩
    obtain ⟨Ai, ni, ci, h5, h6⟩ := h4 i x hx
    exact ⟨Ai, ni, ci, fun j v hv => (cell_turned ht h3 (hd b h3 h2) _).trans (h5 j v hv), h6.turned ht hd⟩⟩
theorem Fls.below (h : Fls w S A n c l) (hb : Below w.heap.size w w') : Fls w' S A n c l :=
  h.turned (T := fun _ => False) ⟨hb.os, hb.tape, hb.output, hb.size, fun k hk _ => hb.block k hk⟩ fun _ _ _ h => h
theorem Fls.mono (h : Fls w S A n c l) (hT : ∀ k, k < w.heap.size → S k → T k) : Fls w T A n c l :=
  ⟨h.len, h.cap, h.max, fun h0 => by
    obtain ⟨b, off, h1, h2, h3, h4⟩ := h.row h0
    refine ⟨b, off, h1, hT b h3 h2, h3, fun i x hx => ?_⟩
    obtain ⟨Ai, ni, ci, h5, h6⟩ := h4 i x hx
    exact ⟨Ai, ni, ci, h5, h6.mono hT⟩⟩
theorem Fls.nil (w : World) (S : Nat → Prop) (A : Option Addr) (c : Nat) (hc : c ≤ maxLen) : Fls w S A 0 c [] := ⟨rfl, Nat.zero_le _, hc, fun h => absurd h (by omega)⟩
theorem Fls.at_ (h : Fls w S A n c l) {i : Nat} (hi : i < n) : ∃ b off x Ai ni ci, A = some ⟨b, off, none⟩ ∧ S b ∧ b < w.heap.size ∧ l[i]? = some x ∧ (∀ (j : Nat) (v : Value), (fiV Ai ni ci x)[j]? = some v → w.cell? ((⟨b, off + i * 2, none⟩ : Addr).add j) = some v) ∧ Byt w S Ai ni ci x.2 := by
  obtain ⟨b, off, h1, h2, h3, h4⟩ := h.row (by omega)
  have hx : l[i]? = some (l[i]'(by have := h.len; omega)) := List.getElem?_eq_getElem _
  obtain ⟨Ai, ni, ci, h5, h6⟩ := h4 i _ hx
  exact ⟨b, off, _, Ai, ni, ci, h1, h2, h3, hx, fun j v hv => by rw [add_plain]; exact h5 j v hv, h6⟩

def fiCells (L : List (Ro × Fi)) : List Value := (L.map fun y => (fiV y.1.1 y.1.2.1 y.1.2.2 y.2).toList).flatten
theorem fiCells_len (L : List (Ro × Fi)) : (fiCells L).length = L.length * 2 := by
  induction L with
  | nil => rfl
  | cons y L ih =>
    unfold fiCells at ih ⊢
    rw [List.map_cons, List.flatten_cons, List.length_append, ih, List.length_cons]
    simp [fiV]
    omega
theorem fiCells_at : ∀ (L : List (Ro × Fi)) (i : Nat) (y : Ro × Fi), L[i]? = some y → ∀ (j : Nat) (v : Value), (fiV y.1.1 y.1.2.1 y.1.2.2 y.2)[j]? = some v → (fiCells L)[i * 2 + j]? = some v
  | [], i, y, h, _, _, _ => by simp at h
  | z :: L, 0, y, h, j, v, hv => by
    simp at h
    subst h
    have hj : j < 2 := by
      have := (Array.getElem?_eq_some_iff.1 hv).1
      simpa [fiV] using this
    unfold fiCells
    rw [List.map_cons, List.flatten_cons, Nat.zero_mul, Nat.zero_add, List.getElem?_append_left (by simp [fiV]; exact hj)]
    simpa using hv
  | z :: L, i + 1, y, h, j, v, hv => by
    have h' : L[i]? = some y := by simpa using h
    have ih := fiCells_at L i y h' j v hv
    unfold fiCells at ih ⊢
    rw [List.map_cons, List.flatten_cons, List.getElem?_append_right (by simp [fiV]; omega), ← ih]
    congr 1
    simp [fiV]
    omega
/-- FILES IN A ROW THAT MAY GROW, IN BLOCKS OF S. -/
def Gfi (w : World) (S : Nat → Prop) (v : Value) (l : Tb) : Prop :=
  ∃ L : List (Ro × Fi), L.map (·.2) = l ∧ w.ownsRow 0 50 2 v l.length (fiCells L) ∧ (∀ g, v.ownBlock = some g → S g) ∧ ∀ y ∈ L, Byt w (fun k => S k ∧ v.ownBlock ≠ some k) y.1.1 y.1.2.1 y.1.2.2 y.2.2
theorem Gfi.nil (w : World) (S : Nat → Prop) : Gfi w S (.slice none 0 0) [] := ⟨[], rfl, World.ownsRow_nil _ _ _ _, (fun _ h => by cases h), (fun _ h => absurd h (by simp))⟩
variable {w w' : World} {S T U : Nat → Prop} {v : Value} {l : Tb}
theorem Gfi.turned (h : Gfi w S v l) (ht : Turned T w w') (hd : ∀ k, k < w.heap.size → S k → ¬ T k) : Gfi w' S v l := by
  obtain ⟨L, h1, h2, h4, h3⟩ := h
  refine ⟨L, h1, ?_, h4, fun y hy => (h3 y hy).turned ht fun k hk hs => hd k hk hs.1⟩
  obtain ⟨e1, e2⟩ := h2
  refine ⟨e1, ?_⟩
  rcases e2 with e2 | ⟨g, cap, cur, rfl, e3, e4, e5⟩
  · exact .inl e2
  · exact .inr ⟨g, cap, cur, rfl, e3, (ht.block g (lt_of_cells e4) (hd g (lt_of_cells e4) (h4 g rfl))).trans e4, e5⟩
theorem Gfi.below (h : Gfi w S v l) (hb : Below w.heap.size w w') : Gfi w' S v l :=
  h.turned (T := fun _ => False) (Turned.of_below hb) fun _ _ _ h => h
theorem Gfi.mono (h : Gfi w S v l) (hT : ∀ k, k < w.heap.size → S k → T k) : Gfi w T v l := by
  obtain ⟨L, h1, h2, h4, h3⟩ := h
  exact ⟨L, h1, h2, fun g hg => hT g (h2.lt g hg).2 (h4 g hg), fun y hy => (h3 y hy).mono fun k hk hs => ⟨hT k hk hs.1, hs.2⟩⟩
theorem Gfi.slice (h : Gfi w S v l) : ∃ A c, v = .slice A l.length c ∧ Fls w S A l.length c l := by
  obtain ⟨L, h1, h2, h9, h3⟩ := h
  obtain ⟨e1, e2⟩ := h2
  have hlen : L.length = l.length := by rw [← h1, List.length_map]
  rcases e2 with ⟨rfl, e2⟩ | ⟨g, cap, cur, rfl, e3, e4, e5, e6, e7, e8⟩
  · have hl : l = [] := List.eq_nil_of_length_eq_zero e2
    subst hl
    exact ⟨none, 0, rfl, Fls.nil _ _ _ _ (Nat.zero_le _)⟩
  · refine ⟨_, _, rfl, rfl, e5, e6, fun h0 => ⟨g, 0, rfl, h9 g rfl, lt_of_cells e4, fun i x hx => ?_⟩⟩
    have hi : i < L.length := by rw [hlen]; exact (List.getElem?_eq_some_iff.1 hx).1
    obtain ⟨y, hy⟩ : ∃ y, L[i]? = some y := ⟨_, List.getElem?_eq_getElem hi⟩
    have hyx : y.2 = x := by
      rw [← h1, List.getElem?_map, hy] at hx
      simpa using hx
    refine ⟨y.1.1, y.1.2.1, y.1.2.2, fun j u hu => ?_, by rw [← hyx]; exact (h3 y (List.mem_of_getElem? hy)).mono fun k _ hk => hk.1⟩
    rw [← hyx] at hu
    have hc := fiCells_at L i y hy j u hu
    rw [← e8] at hc
    rw [Nat.zero_add, cell_of_cells e4]
    have hlt := (List.getElem?_eq_some_iff.1 hc).1
    rw [List.length_take] at hlt
    rw [List.getElem?_take_of_lt (by omega)] at hc
    simpa using hc
theorem fi_info3 : (Tryd.prog.info? 50).map (fun i => (i.zero, i.size, i.bytes)) = some (some (.agg #[.string ⟨#[]⟩, .slice none 0 0]), 2, 40) := by kernel_rfl
theorem Gfi.push (h : Gfi w S v l) {q k : Nat} {A : Option Addr} {n c : Nat} {x : Fi} (hq : ∀ (j : Nat) (u : Value), (fiV A n c x)[j]? = some u → w.cell? ⟨q, j, none⟩ = some u) (hy : Byt w U A n c x.2) (hU : ∀ k, k < w.heap.size → U k → ¬ S k) (hl : l.length ≤ 10000000) (ty : TypeId) :
    ∃ A' c' W', (Builtin.append_ #[22, 22] ty #[v, .slice (some ⟨q, 0, none⟩) 1 k]).run Tryd.prog w = .ok (.slice A' (l.length + 1) c') W' ∧ Gfi W' (fun b => S b ∨ U b ∨ (w.heap.size ≤ b ∧ b < W'.heap.size)) (.slice A' (l.length + 1) c') (l ++ [x]) ∧ Turned S w W' := by
  obtain ⟨i0, hi, hz0, hz1, hz2⟩ := info_parts fi_info3
  obtain ⟨L, h1, h2, h4, h3⟩ := h
  obtain ⟨v', W', hr, g1, g2, _, g4⟩ := run_append_own_at (P := Tryd.prog) w 0 22 ty 50 i0 (.agg #[.string ⟨#[]⟩, .slice none 0 0]) 2 40 Tryd.underlying22 hi hz0 hz1 hz2 rfl (by decide) v l.length (fiCells L) h2 ⟨q, 0, none⟩ 1 k (fiV A n c x).toList rfl
    (fun j u hj => by rw [add_plain, Nat.zero_add]; exact hq j u (by simpa using hj)) (by simp [fiV, Value.oneCell']) (by unfold maxLen; omega) (by omega) (Nat.zero_le _)
  have ht : Turned S w W' := Turned.of_gr g2 fun g hg => h4 g hg
  have keep : ∀ {A : Option Addr} {n c : Nat} {y : List UInt8} {V : Nat → Prop}, Byt w V A n c y → (∀ b, b < w.heap.size → V b → (S b ∨ U b) ∧ v.ownBlock ≠ some b) → Byt W' (fun b => (S b ∨ U b ∨ (w.heap.size ≤ b ∧ b < W'.heap.size)) ∧ v'.ownBlock ≠ some b) A n c y := fun {A n c y V} hx hV => by
    have hx1 : Byt w (fun b => V b ∧ b < w.heap.size) A n c y := hx.mono fun b hb h => ⟨h, hb⟩
    refine (hx1.grown g2 (fun g hg => .inl fun hh => (hV g hh.2 hh.1).2 hg)).mono fun b _ hb => ?_
    have hv := hV b hb.2 hb.1
    refine ⟨hv.1.elim .inl (fun h => .inr (.inl h)), ?_⟩
    rcases g4 with hl | hl
    · rw [hl]; exact hv.2
    · rw [hl]
      intro e
      injection e with e
      have := hb.2
      omega
  have hown' : ∀ g, v'.ownBlock = some g → S g ∨ U g ∨ (w.heap.size ≤ g ∧ g < W'.heap.size) := fun g hg => by
    rcases g4 with hl | hl
    · rw [hl] at hg
      exact .inl (h4 g hg)
    · have hlt := (g1.lt g hg).2
      rw [hl] at hg
      injection hg with hg
      subst hg
      exact .inr (.inr ⟨Nat.le_refl _, hlt⟩)
  obtain ⟨A', c', rfl⟩ : ∃ A' c', v' = .slice A' (l.length + 1) c' := by
    obtain ⟨_, e2⟩ := g1
    rcases e2 with ⟨_, e2⟩ | ⟨g', cap, cur, rfl, _⟩
    · omega
    · exact ⟨_, _, rfl⟩
  refine ⟨A', c', W', hr, ⟨L ++ [((A, n, c), x)], by simp [h1], ?_, hown', fun y hy' => ?_⟩, ht⟩
  · rw [List.length_append, List.length_singleton]
    have e : fiCells (L ++ [((A, n, c), x)]) = fiCells L ++ (fiV A n c x).toList := by simp [fiCells]
    rw [e]
    exact g1
  · rcases List.mem_append.1 hy' with h | h
    · exact keep (h3 y h) fun b _ hb => ⟨.inl hb.1, hb.2⟩
    · simp only [List.mem_singleton] at h
      subst h
      exact keep hy fun b hb hu => ⟨.inr hu, fun e => hU b hb hu (h4 b e)⟩

end Go.Proofs.YtpcoiakdbfihlaaDoor
