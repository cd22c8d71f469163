/-
  Packs: the lists, as they are told.
  codec.number over the bytes of a slice: the walk.
  bytes.Clone: the bytes in new memory (at a seat that has no codec).
  bytes.Clone: see Clone.
-/
import Derived.Test.YtnbjhdlnibmgdaaDoorPk02
import Derived.Test.YtnbjhdlnibmgdaaDoorPk03
import Derived.Shelf.RegionOpen
import Derived.Test.YtnbjhdlnibmgdaaDoorPk04
import Derived.OwnWalkIn
import Derived.Test.YtnbjhdlnibmgdaaDoorRows
import Derived.Test.YtnbjhdlnibmgdaaDoorPk01
import Derived.Lib.SliceRun
/-! Packs: the lists, as they are told. -/
namespace Go.Proofs.YtnbjhdlnibmgdaaDoor
open Go.RowKit Go.Shelf
attribute [local go_sem] Oper.semAt_some

def told (x : Nat × Nat) : Array Value := #[.int .i64 (x.1 : Int), .int .i64 (x.2 : Int)]
/-- What holds within a round: the lists stand in the box q. -/
structure PkJ (w0 : World) (q : Nat) (D : Nat → Prop) (ls : List (List Nat)) (A : Option Addr) (l c : Nat) (vs : List Value) (W : World) : Prop where
  box : W.heap[q]? = some (.cells #[.slice A l c] 41 (0, 0))
  n : PkN W (q + 1) (.slice A l c) vs ls
  nq : ¬ D q
  ng : ∀ g, PkN.Own (.slice A l c) vs g → ¬ D g
  bel : Below w0.heap.size w0 W
/-- What holds of the lists. -/
def PkI (w0 : World) (q : Nat) (D : Nat → Prop) (pre : List (Nat × Nat)) (W : World) : Prop := ∃ A l c vs, PkJ w0 q D (pkGrp pre) A l c vs W
section
variable {w0 W : World} {q : Nat} {D K : Nat → Prop} {ls : List (List Nat)} {A : Option Addr} {l c : Nat} {vs : List Value}
theorem PkJ.len (h : PkJ w0 q D ls A l c vs W) : l = ls.length := by
  obtain ⟨A', c', e⟩ := pk_slice h.n.out
  injection e with _ e _
  rw [e, h.n.len]
theorem PkJ.drew (h : PkJ w0 q D ls A l c vs W) : PkJ w0 q D ls A l c vs W.drew := ⟨h.box, h.n.keep fun _ _ => rfl, h.nq, h.ng, below_drew h.bel⟩
theorem pk_alloc (W : World) (o : Obj) (g : Nat) (hg : g < W.heap.size) : (W.alloc o).heap[g]? = W.heap[g]? := Below.heap_alloc _ _ _ hg
/-- A row of nothing more. -/
theorem PkJ.push (h : PkJ w0 q D ls A l c vs W) (B : Nat) (hD : ∀ b, D b → b < W.heap.size) (hq : w0.heap.size ≤ q) (hK : ∀ b, K b → b < w0.heap.size) (hf : ls.length ≤ 1000000) :
    ∃ A' c' W1, (Builtin.append_ #[41, 41] 41 #[.slice A l c, .slice (some ⟨W.heap.size, 0, none⟩) 1 1]).run Tryd.prog (W.alloc (.cells #[.slice none 0 0] 44)) = .ok (.slice A' (l + 1) c') W1 ∧
      W1.heap[q]? = some (.cells #[.slice A l c] 41 (0, 0)) ∧ PkJ w0 q D (ls ++ [[]]) A' (l + 1) c' (vs ++ [.slice none 0 0]) (W1.setCell ⟨q, 0, none⟩ (.slice A' (l + 1) c')) ∧ Kept B D K W (W1.setCell ⟨q, 0, none⟩ (.slice A' (l + 1) c')) := by
  obtain ⟨i1, hi, hz0, hz1, hz2⟩ := info_parts pks_info
  have hll := h.len
  have hvl := h.n.len
  obtain rfl : l = vs.length := by omega
  have hba : Below W.heap.size W (W.alloc (.cells #[.slice none 0 0] 44)) := (Below.refl _ _).alloc (Nat.le_refl _) _
  have hsa : (W.alloc (.cells #[.slice none 0 0] 44)).heap.size = W.heap.size + 1 := by simp
  have hn2 : PkN (W.alloc (.cells #[.slice none 0 0] 44)) (q + 1) (.slice A vs.length c) vs ls := h.n.keep fun g hg => pk_alloc _ _ _ (h.n.lt hg)
  have hql := lt_of_cells h.box
  obtain ⟨v', W1, hrun, g1, g2, _, g4⟩ := run_append_own_at (P := Tryd.prog) (W.alloc (.cells #[.slice none 0 0] 44)) (q + 1) 41 41 44 i1 (.slice none 0 0) 1 24 Tryd.underlying41 hi hz0 hz1 hz2 rfl (by decide) (.slice A vs.length c) vs.length vs hn2.out ⟨W.heap.size, 0, none⟩ 1 1 [.slice none 0 0] rfl
      (fun j u hj => by
        match j, hj with
        | 0, hj =>
          rw [add_plain, cell_of_cells (heap_alloc_new W _)]
          simpa using hj) (one_of rfl) (by unfold maxLen; omega) (by omega) (by omega)
  obtain ⟨A', c', rfl⟩ := pk_slice g1
  have hpn := hn2.push g1 g2 g4
  have hbq : W1.heap[q]? = some (.cells #[.slice A vs.length c] 41 (0, 0)) := (g2.block q (by omega) (fun e => by have := (h.n.own (.inl e.symm)).1; omega)).trans ((pk_alloc _ _ _ hql).trans h.box)
  refine ⟨A', c', W1, hrun, hbq, ⟨?_, ?_, h.nq, ?_, ?_⟩, ?_⟩
  · exact set_of_cells hbq 0 _
  · exact hpn.keep fun g hg => Below.heap_setCell _ _ _ _ (by have := (hpn.own hg).1; show g ≠ q; omega)
  · rintro g (hg | ⟨i, u, hu, hg⟩) hd
    · rcases g4 with g4 | g4
      · rw [g4] at hg
        exact h.ng g (.inl hg) hd
      · rw [g4] at hg
        injection hg with hg
        have := hD g hd
        omega
    · rcases Nat.lt_or_ge i vs.length with h1 | h1
      · rw [List.getElem?_append_left h1] at hu
        exact h.ng g (.inr ⟨i, u, hu, hg⟩) hd
      · rw [List.getElem?_append_right h1] at hu
        obtain rfl : u = .slice none 0 0 := by
          have := List.mem_of_getElem? hu
          simpa using this
        simp [Value.ownBlock] at hg
  · exact (((h.bel.alloc h.bel.size _).grown g2 (by have := h.bel.size; omega) (fun g hg => by have := (h.n.own (.inl hg)).1; omega))).setCell (p := ⟨q, 0, none⟩) hq _
  · refine ((Kept.of_below hba).trans (Kept.of_gr g2 fun g hg => ?_)).trans (Kept.of_gr (row := some q) (grownBy_setCell' W1 q _) fun g e => ?_)
    · obtain ⟨h1, cs, t, h2⟩ := h.n.own (.inl hg)
      exact ⟨h.ng g (.inl hg), fun hk => by have := hK g hk; omega, cs, t, (0, 0), (pk_alloc _ _ _ (lt_of_cells h2)).trans h2⟩
    · injection e with e
      subst e
      exact ⟨h.nq, fun hk => by have := hK _ hk; omega, _, _, _, hbq⟩
/-- A number more in the row p. -/
theorem PkJ.put (h : PkJ w0 q D ls A l c vs W) (B : Nat) (hD : ∀ b, D b → b < W.heap.size) (hq : w0.heap.size ≤ q) (hK : ∀ b, K b → b < w0.heap.size) {p : Nat} (hp : p < ls.length) (hf : (ls[p]?.getD []).length ≤ 1000000) (x : Nat) :
    ∃ g Au nu cu An cn W1, A = some ⟨g, 0, none⟩ ∧ W.cell? ⟨g, p, none⟩ = some (.slice Au nu cu) ∧ (Builtin.append_ #[44, 44] 44 #[.slice Au nu cu, .slice (some ⟨W.heap.size, 0, none⟩) 1 1]).run Tryd.prog (W.alloc (.cells #[.int .i64 (x : Int)] 3)) = .ok (.slice An (nu + 1) cn) W1 ∧
      W1.heap[q]? = some (.cells #[.slice A l c] 41 (0, 0)) ∧ W1.cell? ⟨g, p, none⟩ = some (.slice Au nu cu) ∧ W1.frozen? ⟨g, p, none⟩ = false ∧
      PkJ w0 q D (ls.set p ((ls[p]?.getD []) ++ [x])) A l c (vs.set p (.slice An (nu + 1) cn)) (W1.setCell ⟨g, p, none⟩ (.slice An (nu + 1) cn)) ∧ Kept B D K W (W1.setCell ⟨g, p, none⟩ (.slice An (nu + 1) cn)) ∧ W.heap.size < W1.heap.size := by
  obtain ⟨i1, hi, hz0, hz1, hz2⟩ := info_parts pki_info
  have hll := h.len
  have hvl := h.n.len
  obtain rfl : l = vs.length := by omega
  have hba : Below W.heap.size W (W.alloc (.cells #[.int .i64 (x : Int)] 3)) := (Below.refl _ _).alloc (Nat.le_refl _) _
  have hsa : (W.alloc (.cells #[.int .i64 (x : Int)] 3)).heap.size = W.heap.size + 1 := by simp
  have hn2 : PkN (W.alloc (.cells #[.int .i64 (x : Int)] 3)) (q + 1) (.slice A vs.length c) vs ls := h.n.keep fun g hg => pk_alloc _ _ _ (h.n.lt hg)
  have hql := lt_of_cells h.box
  obtain ⟨u, hu⟩ : ∃ u, vs[p]? = some u := ⟨_, List.getElem?_eq_getElem (by omega)⟩
  have hur := h.n.row p u hu
  obtain ⟨Au, cu, rfl⟩ := pk_slice hur
  obtain ⟨g, rfl⟩ : ∃ g, A = some ⟨g, 0, none⟩ := by
    rcases h.n.out.2 with ⟨e1, e2⟩ | ⟨g, cap, cur, e, _⟩
    · injection e1 with _ e1 _
      omega
    · injection e with e _ _
      exact ⟨g, e⟩
  obtain ⟨v', W1, hrun, g1, g2, _, g4⟩ := run_append_own_at (P := Tryd.prog) (W.alloc (.cells #[.int .i64 (x : Int)] 3)) (q + 1) 44 44 3 i1 (.int .i64 0) 1 8 Tryd.underlying44 hi hz0 hz1 hz2 rfl (by decide) _ _ _ (hn2.row p _ hu) ⟨W.heap.size, 0, none⟩ 1 1 [.int .i64 (x : Int)] rfl
      (fun j u hj => by
        match j, hj with
        | 0, hj =>
          rw [add_plain, cell_of_cells (heap_alloc_new W _)]
          simpa using hj) (one_of rfl) (by unfold maxLen; omega) (by omega) (by omega)
  obtain ⟨An, cn, rfl⟩ := pk_slice g1
  obtain ⟨k1, k2, k3⟩ := hn2.put rfl hu g1 g2 g4
  have hbq : W1.heap[q]? = some (.cells #[.slice (some ⟨g, 0, none⟩) vs.length c] 41 (0, 0)) := (g2.block q (by omega) (fun e => by have := (h.n.own (.inr ⟨p, _, hu, e.symm⟩)).1; omega)).trans ((pk_alloc _ _ _ hql).trans h.box)
  have hgq : q + 1 ≤ g := (h.n.own (.inl rfl)).1
  refine ⟨g, Au, _, cu, An, cn, W1, rfl, by rw [h.n.out.cellAt p (by omega), hu], hrun, hbq, k2, k3, ⟨?_, k1, h.nq, ?_, ?_⟩, ?_, by have := g2.size; omega⟩
  · exact (Below.heap_setCell _ _ _ _ (by show q ≠ g; omega)).trans hbq
  · rintro g' (hg | ⟨i, z, hz, hg⟩) hd
    · exact h.ng g' (.inl hg) hd
    · by_cases hip : i = p
      · subst hip
        rw [List.getElem?_set_self (by omega)] at hz
        obtain rfl := Option.some.inj hz
        rcases g4 with g4 | g4
        · rw [g4] at hg
          exact h.ng g' (.inr ⟨_, _, hu, hg⟩) hd
        · rw [g4] at hg
          injection hg with hg
          have := hD g' hd
          omega
      · rw [List.getElem?_set_ne (fun e => hip e.symm)] at hz
        exact h.ng g' (.inr ⟨i, z, hz, hg⟩) hd
  · exact (((h.bel.alloc h.bel.size _).grown g2 (by have := h.bel.size; omega) (fun k hk => by have := (h.n.own (.inr ⟨p, _, hu, hk⟩)).1; omega))).setCell (p := ⟨g, p, none⟩) (by show w0.heap.size ≤ g; omega) _
  · refine ((Kept.of_below hba).trans (Kept.of_gr g2 fun k hk => ?_)).trans (Kept.of_gr (row := some g) (gr_set (gr_refl W1 (some g)) p _) fun k e => ?_)
    · obtain ⟨h1, cs, t, h2⟩ := h.n.own (.inr ⟨p, _, hu, hk⟩)
      exact ⟨h.ng k (.inr ⟨p, _, hu, hk⟩), fun hk => by have := hK k hk; omega, cs, t, (0, 0), (pk_alloc _ _ _ (lt_of_cells h2)).trans h2⟩
    · injection e with e
      subst e
      have hgo := (h.n.own (g := g) (.inl rfl)).2
      obtain ⟨cs, t, h2⟩ := hgo
      refine ⟨h.ng g (.inl rfl), fun hk => by have := hK _ hk; omega, cs, t, (0, 0), ?_⟩
      exact (g2.block g (by have := lt_of_cells h2; omega) (fun e => h.n.apart p _ g hu e.symm rfl)).trans ((pk_alloc _ _ _ (lt_of_cells h2)).trans h2)
end
theorem PkI.still {w0 : World} {q B : Nat} (hB : w0.heap.size ≤ B) : Still B (PkI w0 q) := by
  rintro D D' pre W W' hbd ⟨A, l, c, vs, h1, h2, h3, h4, h5⟩ hs hD
  refine ⟨A, l, c, vs, hs.cells h1 h3, h2.keep fun g hg => ?_, fun hd => ?_, fun g hg hd => ?_, hs.below h5 hbd (Nat.le_refl _) hB⟩
  · obtain ⟨_, cs, t, hc⟩ := h2.own hg
    exact (hs.cells hc (h4 g hg)).trans hc.symm
  · rcases hD _ hd with h | h
    · exact h3 h
    · have := lt_of_cells h1
      omega
  · rcases hD _ hd with h | h
    · exact h4 g hg h
    · have := h2.lt hg
      omega
def fillFn (A : Option Addr) (n c : Nat) (m : Int) : Value := .func (.func 33) #[.agg #[.slice A n c, .int .i64 m]] #[]
/-- What is known of what has come. -/
def pkX (most : Nat) (l : List Nat) (_ : Nat → Prop) (pre : List (Nat × Nat)) (_ : World) : Prop := pre = (pkSeq most l).take pre.length ∧ pre.length ≤ l.length
theorem pkX_next {most : Nat} {l : List Nat} {D : Nat → Prop} {pre : List (Nat × Nat)} {x : Nat × Nat} {W : World} (h : pkX most l D (pre ++ [x]) W) : pre.length < l.length ∧ pre = (pkSeq most l).take pre.length ∧ x = ((pkSt most (l.take (pre.length + 1))).p, pre.length) ∧ pkGrp pre = pkL most l pre.length ∧ pkGrp (pre ++ [x]) = pkL most l (pre.length + 1) := by
  obtain ⟨h1, h2⟩ := h
  rw [List.length_append, List.length_singleton] at h1 h2
  have h3 := pkSeq_take (most := most) (show pre.length < l.length by omega)
  have h4 := h1
  rw [h3] at h1
  have h5 := List.append_inj h1 (by rw [List.length_take, pkSeq_len]; omega)
  refine ⟨by omega, h5.1, by simpa using h5.2, ?_, ?_⟩
  · unfold pkL
    rw [← h5.1]
  · unfold pkL
    rw [← h4]
theorem pkL_short {most : Nat} {l : List Nat} : ∀ j : Nat, j ≤ l.length → (pkL most l j).length ≤ j ∧ ∀ r ∈ pkL most l j, r.length ≤ j ∧ ∀ x ∈ r, x < j
  | 0, _ => by rw [pkL_zero]; simp
  | j + 1, h => by
    obtain ⟨h1, h2⟩ := pkL_short (most := most) (l := l) j (by omega)
    rw [pkL_at (by omega)]
    unfold pkPut
    split
    · refine ⟨by simp; omega, fun r hr => ?_⟩
      rcases List.mem_append.1 hr with hr | hr
      · obtain ⟨h3, h4⟩ := h2 r hr
        exact ⟨by omega, fun x hx => by have := h4 x hx; omega⟩
      · obtain rfl := List.mem_singleton.1 hr
        exact ⟨by simp, fun x hx => by obtain rfl := List.mem_singleton.1 hx; omega⟩
    · refine ⟨by simp; omega, fun r hr => ?_⟩
      rcases List.mem_or_eq_of_mem_set hr with hr | rfl
      · obtain ⟨h3, h4⟩ := h2 r hr
        exact ⟨by omega, fun x hx => by have := h4 x hx; omega⟩
      · have h5 : ((pkL most l j)[(pkSt most (l.take (j + 1))).p]?.getD []).length ≤ j ∧ ∀ x ∈ (pkL most l j)[(pkSt most (l.take (j + 1))).p]?.getD [], x < j := by
          cases hg : (pkL most l j)[(pkSt most (l.take (j + 1))).p]? with
          | none => simp
          | some r => exact h2 r (List.mem_of_getElem? hg)
        refine ⟨by simp; omega, fun x hx => ?_⟩
        rcases List.mem_append.1 hx with hx | hx
        · have := h5.2 x hx; omega
        · obtain rfl := List.mem_singleton.1 hx
          omega
theorem pk_set_new (ls : List (List Nat)) (j : Nat) : List.set (ls ++ [[]]) ls.length ((((ls ++ [[]] : List (List Nat))[ls.length]?).getD []) ++ [j]) = ls ++ [[j]] := by simp
theorem pk_set_last (ls : List (List Nat)) (c : List Nat) (j : Nat) : List.set (ls ++ [c]) ls.length ((((ls ++ [c] : List (List Nat))[ls.length]?).getD []) ++ [j]) = ls ++ [c ++ [j]] := by simp
theorem pk_at {w : World} {g p : Nat} {v : Value} (h : w.cell? ⟨g, p, none⟩ = some v) : ∃ cs t f, w.heap[g]? = some (.cells cs t f) ∧ p < cs.size := by
  unfold World.cell? at h
  simp only at h
  split at h
  · rename_i cs t f e
    exact ⟨cs, t, f, e, (Array.getElem?_eq_some_iff.1 h).1⟩
  · cases h
theorem pkruns_app {P : Program} {R : Value → World → Prop} {E : Operand → Value} {o : Oper} {W w' : World} {v u v' : Value} (s x : Operand) (t : TypeId)
    (hop : o.op = .call { callee := .builtin .append, args := #[s, x], argTypes := #[t, t] }) (hs : E s = v) (hx : E x = u) (hrun : (Builtin.append_ #[t, t] o.type #[v, u]).run P W = .ok v' w') (h : R v' w') : Grow.runsTo P R ((execOp E o).run P W) := by
  unfold execOp
  simp only [hop, resolve, invoke, builtin, Sem.run_bind, Sem.run_pure, Result.andThen_ok, List.map_toArray, List.map_cons, List.map_nil, hs, hx, hrun]
  exact h
/-- The worlds of the last region: before, with the number, appended, stored. -/
structure Ch7 (q g p L c : Nat) (Au : Option Addr) (nu cu : Nat) (An : Option Addr) (cn j : Nat) (w0 w7 w8 wf : World) : Prop where
  e7 : w7 = w0.alloc (.cells #[.int .i64 (j : Int)] 3)
  ef : wf = w8.setCell ⟨g, p, none⟩ (.slice An (nu + 1) cn)
  box : ∀ V, (V = w0 ∨ V = w7 ∨ V = w8 ∨ V = wf) → V.heap[q]? = some (.cells #[.slice (some ⟨g, 0, none⟩) L c] 41 (0, 0))
  old0 : w0.cell? ⟨g, p, none⟩ = some (.slice Au nu cu)
  old7 : w7.cell? ⟨g, p, none⟩ = some (.slice Au nu cu)
  old8 : w8.cell? ⟨g, p, none⟩ = some (.slice Au nu cu)
  free : w8.frozen? ⟨g, p, none⟩ = false
  new : wf.cell? ⟨g, p, none⟩ ≠ some (.slice Au nu cu)
  app : (Builtin.append_ #[44, 44] 44 #[.slice Au nu cu, .slice (some ⟨w0.heap.size, 0, none⟩) 1 1]).run Tryd.prog w7 = .ok (.slice An (nu + 1) cn) w8
  n70 : w7 ≠ w0
  n80 : w8 ≠ w0
  nf0 : wf ≠ w0
theorem Ch7.is7 {q g p L c : Nat} {Au : Option Addr} {nu cu : Nat} {An : Option Addr} {cn j : Nat} {w0 w7 w8 wf V : World} (h : Ch7 q g p L c Au nu cu An cn j w0 w7 w8 wf) (h1 : V = w7 ∨ V = w8 ∨ V = wf) (h2 : V = w0 ∨ V = w7 ∨ V = wf) (h3 : V.cell? ⟨g, p, none⟩ = some (.slice Au nu cu)) : V = w7 := by
  rcases h2 with rfl | h2 | rfl
  · rcases h1 with h1 | h1 | h1
    · exact h1
    · exact absurd h1.symm h.n80
    · exact absurd h1.symm h.nf0
  · exact h2
  · exact absurd h3 h.new
theorem Ch7.is8 {q g p L c : Nat} {Au : Option Addr} {nu cu : Nat} {An : Option Addr} {cn j : Nat} {w0 w7 w8 wf V : World} (h : Ch7 q g p L c Au nu cu An cn j w0 w7 w8 wf) (h1 : V = w8 ∨ V = wf) (h3 : V.cell? ⟨g, p, none⟩ = some (.slice Au nu cu)) : V = w8 := by
  rcases h1 with h1 | rfl
  · exact h1
  · exact absurd h3 h.new
theorem ch7 {q g p L c : Nat} {Au : Option Addr} {nu cu : Nat} {An : Option Addr} {cn j : Nat} {W w0 w7 w8 wf : World} (hbx : W.heap[q]? = some (.cells #[.slice (some ⟨g, 0, none⟩) L c] 41 (0, 0))) (hcu : W.cell? ⟨g, p, none⟩ = some (.slice Au nu cu))
    (hap : (Builtin.append_ #[44, 44] 44 #[.slice Au nu cu, .slice (some ⟨W.heap.size, 0, none⟩) 1 1]).run Tryd.prog (W.alloc (.cells #[.int .i64 (j : Int)] 3)) = .ok (.slice An (nu + 1) cn) w8)
    (hb8 : w8.heap[q]? = some (.cells #[.slice (some ⟨g, 0, none⟩) L c] 41 (0, 0))) (hc8 : w8.cell? ⟨g, p, none⟩ = some (.slice Au nu cu)) (hf8 : w8.frozen? ⟨g, p, none⟩ = false) (hbf : (w8.setCell ⟨g, p, none⟩ (.slice An (nu + 1) cn)).heap[q]? = some (.cells #[.slice (some ⟨g, 0, none⟩) L c] 41 (0, 0)))
    (hs8 : W.heap.size < w8.heap.size) (hw0 : w0 = W) (hw7 : w7 = w0.alloc (.cells #[.int .i64 (j : Int)] 3)) (hwf : wf = w8.setCell ⟨g, p, none⟩ (.slice An (nu + 1) cn)) : Ch7 q g p L c Au nu cu An cn j w0 w7 w8 wf := by
  subst hw0
  have hgl := World.block_lt_of_cell? _ _ hcu
  have h7 : w7.cell? ⟨g, p, none⟩ = some (.slice Au nu cu) := by
    rw [hw7]
    exact (World.cell?_of_block (w := w0) (a := ⟨g, p, none⟩) (Below.heap_alloc _ _ _ hgl)).trans hcu
  refine ⟨hw7, hwf, fun V hV => ?_, hcu, h7, hc8, hf8, ?_, by rw [hw7]; exact hap, fun e => ?_, fun e => ?_, fun e => ?_⟩
  · rcases hV with rfl | rfl | rfl | rfl
    · exact hbx
    · rw [hw7]
      exact (Below.heap_alloc _ _ _ (lt_of_cells hbx)).trans hbx
    · exact hb8
    · rw [hwf]
      exact hbf
  · rw [hwf]
    intro e
    obtain ⟨cs, t, f, hg, hcs⟩ := pk_at hc8
    have := set_of_cells hg p (.slice An (nu + 1) cn)
    rw [cell_of_cells this p, Array.getElem?_setIfInBounds_self, if_pos hcs] at e
    simp at e
  · have := congrArg (fun W : World => W.heap.size) e
    rw [hw7] at this
    simp at this
  · rw [e] at hs8
    exact absurd hs8 (Nat.lt_irrefl _)
  · have : wf.heap.size = w8.heap.size := by rw [hwf]; simp
    rw [e] at this
    omega
theorem wpListIn_appd {F : Fence} {n : Nat} {P : Program} {ops : Array Oper} {rest : List Oper} {o : Oper} {a : Act} {Q : Exit → Act → World → Prop} {w w' : World} (hgd : o.guard = none) (s x : Operand) (t : TypeId)
    (hop : o.op = .call { callee := .builtin .append, args := #[s, x], argTypes := #[t, t] }) {v u v' : Value} (hs : a.eval s = v) (hx : a.eval x = u)
    (hrun : (Builtin.append_ #[t, t] o.type #[v, u]).run P w = .ok v' w') (h : wpListIn F n P ops Q rest (a.put o.dst v') w') : wpListIn F n P ops Q (o :: rest) a w := by
  refine wpListIn_plain hgd fun K hK => ?_
  unfold Oper.wpIn
  refine ⟨?_, ?_⟩
  · simp [Oper.about, hop, resolve, Target.leads, Sem.run_pure]
  · rw [Oper.semAt_plain F _ _ (by rw [hop]; intro c hc; cases hc)]
    unfold execOp
    simp only [hop, resolve, invoke, builtin, Sem.run_bind, Sem.run_pure, Result.andThen_ok, List.map_toArray, List.map_cons, List.map_nil, hs, hx, hrun]
    exact hK _ _ h
set_option maxHeartbeats 8000000 in
set_option maxRecDepth 100000 in
theorem lists_any {w : World} {A : Option Addr} {n c : Nat} {m : Int} {most : Nat} {l : List Nat} (ha : ∀ s ∈ l, pkAlone most s = true) (hl : l.length ≤ 1000000)
    (hit : IterB Tryd.prog 33 #[.agg #[.slice A n c, .int .i64 m]] #[] told (fun k => k < w.heap.size) (pkX most l) (fun xs => xs = pkSeq most l) w) :
    Calls Tryd.prog 32 #[fillFn A n c m] w fun e w' => ∃ A' c', e = .returned (.slice A' (fillM most l).length c') ∧ Nst w' (w.heap.size ≤ ·) A' (fillM most l).length c' (fillM most l) ∧ Below w.heap.size w w' := by
  have HIT := Lib.hid hit
  have hbx := Boxed.new w 41 (.slice none 0 0)
  have hbl : Below w.heap.size w (w.alloc (.cells #[.slice none 0 0] 41)) := (Below.refl _ _).alloc (Nat.le_refl _) _
  have H0 : Hid (PkI w w.heap.size (fun _ => False) [] (w.alloc (.cells #[.slice none 0 0] 41))) := Lib.hid ⟨none, 0, 0, [], hbx, PkN.nil _ _, id, fun _ _ => id, hbl⟩
  have HP : Hid (Below w.heap.size w (w.alloc (.cells #[.slice none 0 0] 41)) ∧ (w.alloc (.cells #[.slice none 0 0] 41)).heap.size = w.heap.size + 1) := Lib.hid ⟨hbl, by simp⟩
  have HA := Lib.hid (And.intro ha hl)
  clear hit hbx hbl ha hl
  refine (callsIn_wide (n := 3)).1 ?_
  refine callsIn_of_wp_marks Tryd.func32 rfl trivial ?_ rfl
  simp only [Tryd.ntmps32, List.size_toArray, List.length_cons, List.length_nil, Nat.reduceAdd, Nat.reduceSub, Array.replicate_succ, Array.replicate_zero, List.push_toArray, List.append_toArray, List.nil_append, List.cons_append]
  gi_wp2
  obtain ⟨W1, hW1⟩ : ∃ W1, W1 = w.alloc (.cells #[.slice none 0 0] 41) := ⟨_, rfl⟩
  rw [← hW1] at H0 HP ⊢
  clear hW1
  refine wpIn_rangeFunc_itB (gf := 33) (fa := #[.agg #[.slice A n c, .int .i64 m]]) (lb := #[]) rfl (enters_of Tryd.func33 (by kernel_rfl) rfl) HIT.out HP.out.1 (fun k hk => by have h1 := HP.out.2; have h2 : k < w.heap.size := hk; omega) (fun _ => rfl)
    (PkI w w.heap.size) (fun _ _ _ _ => False) (PkI.still (by have := HP.out.2; omega)) (fun _ => still_false _) H0.out
    (fun x a' _ => a' = { tmps := #[fillFn A n c m, undef, .slice none 0 0, .pointer (some ⟨w.heap.size, 0, none⟩), .int .i64 (x.1 : Int), .int .i64 (x.2 : Int), fillFn A n c m, .int .i64 (x.1 : Int), .int .i64 (x.2 : Int), undef, undef, undef, undef, undef, undef, undef, undef, undef, undef, undef, undef, undef, undef, undef, undef, undef, undef], defers := [] }) (fun _ _ => ownFrom_pure _ _) ?assign ?body ?done ?stop
  case assign =>
    intro l D pre x W C _ hi _ hC
    simp only [told]
    gi_wp2
    exact hC _ _ (Kept.refl _ _ _ _) hi rfl
  case stop =>
    intro E D c pre W _ _ _ _ h _
    exact h.elim
  case body =>
    rintro l2 D pre x a' W hl2 hW hB ⟨Av, L, c7, vs, hj⟩ hx rfl
    obtain ⟨x1, _, x3, x4, x5⟩ := pkX_next hx
    have hnx := pk_next HA.out.1 x1
    obtain ⟨p, hp⟩ : ∃ p, p = (pkSt most (l.take (pre.length + 1))).p := ⟨_, rfl⟩
    obtain ⟨s1, s2⟩ := pkL_short (most := most) (l := l) pre.length (by omega)
    rw [← hp] at hnx x3
    rw [← x4] at hnx s1 s2
    have hDl : ∀ b, D b → b < W.heap.size := fun b hb => (hB b hb).2
    have hjs : pre.length ≤ 1000000 := by have := HA.out.2; omega
    obtain ⟨j, hjj⟩ : ∃ j, j = pre.length := ⟨_, rfl⟩
    rw [← hjj] at hnx x3 x5 s1 s2 hjs
    subst x3
    have hL := hj.len
    obtain ⟨FV, hFV⟩ : ∃ FV, FV = fillFn A n c m := ⟨_, rfl⟩
    rw [← hFV]
    clear hB hW hl2 hx hjj x1 x4 hp hFV
    dsimp only
    rcases hnx with ⟨e1, e2⟩ | ⟨done, cur, e0, e1, e2⟩
    · -- a new one
      obtain ⟨A6, c6, w6, hap6, hb6, hj6, hk6⟩ := hj.push (K := fun k => k < w.heap.size) W1.heap.size hDl (Nat.le_refl _) (fun _ h => h) (by omega)
      obtain rfl : p = L := by omega
      have heq : ((p : Int) == (p : Int)) = true := by simp
      have hc1 := cell_of_cells hj.box 0
      have hc2 := cell_of_cells hb6 0
      have hf2 := free_of_cells hb6 0
      have hs6 : W.heap.size ≤ (w6.setCell ⟨w.heap.size, 0, none⟩ (.slice A6 (p + 1) c6)).heap.size := hk6.turned.size
      obtain ⟨w9, hw9⟩ : ∃ w9, w9 = w6.setCell ⟨w.heap.size, 0, none⟩ (.slice A6 (p + 1) c6) := ⟨_, rfl⟩
      rw [← hw9] at hj6 hk6 hs6
      obtain ⟨L, hLp⟩ : ∃ L, L = p + 1 := ⟨_, rfl⟩
      obtain ⟨c7, hc7⟩ : ∃ c7, c7 = c6 := ⟨_, rfl⟩
      have hj7 := hj6
      rw [← hLp, ← hc7] at hj7
      obtain ⟨g, Au, nu, cu, An, cn, w8, rfl, hcu, hap, hb8, hc8, hf8, hj9, hk9, hs9⟩ := hj7.drew.put (K := fun k => k < w.heap.size) (p := p) W1.heap.size (fun b hb => Nat.lt_of_lt_of_le (hDl b hb) hs6) (Nat.le_refl _) (fun _ h => h) (by rw [List.length_append, List.length_singleton]; omega) (by rw [e1]; simp) j
      obtain ⟨w0, hw0⟩ : ∃ w0, w0 = (w9).drew := ⟨_, rfl⟩
      obtain ⟨w7, hw7⟩ : ∃ w7, w7 = w0.alloc (.cells #[.int .i64 (j : Int)] 3) := ⟨_, rfl⟩
      obtain ⟨wf, hwf⟩ : ∃ wf, wf = w8.setCell ⟨g, p, none⟩ (.slice An (nu + 1) cn) := ⟨_, rfl⟩
      have HC : Hid (Ch7 w.heap.size g p L c7 Au nu cu An cn j w0 w7 w8 wf) := Lib.hid (ch7 hj7.drew.box hcu hap hb8 hc8 hf8 hj9.box hs9 hw0 hw7 hwf)
      have HW0 : Hid ((w9).drew = w0) := Lib.hid hw0.symm
      have HPL := Lib.hid (show p < L by omega)
      have HF : Hid (Kept W1.heap.size D (fun k => k < w.heap.size) W wf ∧ PkI w w.heap.size D (pre ++ [(p, j)]) wf) := Lib.hid ⟨by rw [hwf]; exact (hk6.trans (Kept.of_below (below_drew (Below.refl _ _)))).trans hk9, _, _, _, _, by
        rw [x5, e2, hwf]
        exact (by have h5 := pk_set_new (pkGrp pre) j; rw [← e1] at h5; rw [h5] at hj9; exact hj9)⟩
      rw [← hLp, ← hc7] at hap6 hw9
      clear hLp hc7 hj hj6 hj7 hk6 hk9 hj9 hcu hap hb8 hc8 hf8 hDl x5 s1 s2 hjs hL e1 e2 hs6 hw0 hw7 hwf
      gi_wp2_with (gi_at_builtin; refine wpListIn_appd (by rfl) _ _ 41 (by rfl) (by rfl) (by rfl) hap6 ?_)
      rw [← hw9]
      clear hap6 hb6 hc1 hc2 hf2 heq
      refine wpIn_region_grow (fun V => V = w0 ∨ V = w7 ∨ V = w8 ∨ V = wf) (fun k V => (k = 7 → V = w0) ∧ (k = 8 → V = w0 ∨ V = w7 ∨ V = wf) ∧ (k = 10 → V.cell? ⟨g, p, none⟩ = some (.slice Au nu cu))) (Grow.nth [fun u _ => u = .slice (some ⟨g, 0, none⟩) L c7, fun u _ => u = .int .i64 (p : Int), fun u _ => u = .slice (some ⟨g, 0, none⟩) L c7, fun u _ => u = .int .i64 (p : Int), fun u _ => u = .pointer (some ⟨g, p, none⟩), fun u _ => u = .slice Au nu cu, fun u _ => u = .int .i64 (j : Int), fun u V => u = .slice (some ⟨w0.heap.size, 0, none⟩) 1 1 ∧ (V = w7 ∨ V = w8 ∨ V = wf), fun u V => u = .slice An (nu + 1) cn ∧ (V = w8 ∨ V = wf), fun u _ => u = .pointer (some ⟨g, p, none⟩), fun _ V => V = wf]) 27 (by kernel_rfl) (by kernel_rfl) (by kernel_rfl) (by rfl) (.inl HW0.out) (fun k hk => ⟨fun _ => HW0.out, fun _ => .inl HW0.out, fun _ => by rw [HW0.out]; exact HC.out.old0⟩) ?gsteps ?gfin
      case gsteps =>
        show Grow.allBelow _ 11
        refine And.intro ?_ ?s10
        refine And.intro ?_ ?s9
        refine And.intro ?_ ?s8
        refine And.intro ?_ ?s7
        refine And.intro ?_ ?s6
        refine And.intro ?_ ?s5
        refine And.intro ?_ ?s4
        refine And.intro ?_ ?s3
        refine And.intro ?_ ?s2
        refine And.intro ?_ ?s1
        refine And.intro ?_ ?s0
        exact trivial
        case s0 =>
          refine Grow.stepY_in (by rfl) (by rfl) ?_
          intro E V ec eg ef hT hd hu hy R HR
          have e3 : E (.tmp 3) = .pointer (some ⟨w.heap.size, 0, none⟩) := hu 3 (by kernel_rfl)
          have hc := cell_of_cells (HC.out.box V hT) 0
          clear hd hu hy
          go_simp
          exact HR.out _ _ hT rfl (fun _ _ _ _ _ h => h) (fun _ _ _ h => h)
        case s1 =>
          refine Grow.stepY_in (by rfl) (by rfl) ?_
          intro E V ec eg ef hT hd hu hy R HR
          have e4 : E (.tmp 4) = .int .i64 (p : Int) := hu 4 (by kernel_rfl)
          clear hd hu hy
          go_simp
          exact HR.out _ _ hT rfl (fun _ _ _ _ _ h => h) (fun _ _ _ h => h)
        case s2 =>
          refine Grow.stepY_in (by rfl) (by rfl) ?_
          intro E V ec eg ef hT hd hu hy R HR
          have e3 : E (.tmp 3) = .pointer (some ⟨w.heap.size, 0, none⟩) := hu 3 (by kernel_rfl)
          have hc := cell_of_cells (HC.out.box V hT) 0
          clear hd hu hy
          go_simp
          exact HR.out _ _ hT rfl (fun _ _ _ _ _ h => h) (fun _ _ _ h => h)
        case s3 =>
          refine Grow.stepY_in (by rfl) (by rfl) ?_
          intro E V ec eg ef hT hd hu hy R HR
          have e4 : E (.tmp 4) = .int .i64 (p : Int) := hu 4 (by kernel_rfl)
          clear hd hu hy
          go_simp
          exact HR.out _ _ hT rfl (fun _ _ _ _ _ h => h) (fun _ _ _ h => h)
        case s4 =>
          refine Grow.stepY_in (by rfl) (by rfl) ?_
          intro E V ec eg ef hT hd hu hy R HR
          have e18 : E (.tmp 18) = .slice (some ⟨g, 0, none⟩) L c7 := hd 2 18 (by kernel_rfl)
          have e19 : E (.tmp 19) = .int .i64 (p : Int) := hd 3 19 (by kernel_rfl)
          have hpl := HPL.out
          clear hd hu hy
          go_simp
          exact HR.out _ _ hT rfl (fun _ _ _ _ _ h => h) (fun _ _ _ h => h)
        case s5 =>
          refine Grow.stepY_in (by rfl) (by rfl) ?_
          intro E V ec eg ef hT hd hu hy R HR
          have e20 : E (.tmp 20) = .pointer (some ⟨g, p, none⟩) := hd 4 20 (by kernel_rfl)
          have hc := (hy 10 (by decide) (.inr (by kernel_rfl))).2.2 rfl
          clear hd hu hy
          go_simp
          exact HR.out _ _ hT rfl (fun _ _ _ _ _ h => h) (fun _ _ _ h => h)
        case s6 =>
          refine Grow.stepY_in (by rfl) (by rfl) ?_
          intro E V ec eg ef hT hd hu hy R HR
          have e5 : E (.tmp 5) = .int .i64 (j : Int) := hu 5 (by kernel_rfl)
          clear hd hu hy
          go_simp
          exact HR.out _ _ hT rfl (fun _ _ _ _ _ h => h) (fun _ _ _ h => h)
        case s7 =>
          refine Grow.stepY_in (by rfl) (by rfl) ?_
          intro E V ec eg ef hT hd hu hy R HR
          have e22 : E (.tmp 22) = .int .i64 (j : Int) := hd 6 22 (by kernel_rfl)
          obtain rfl := (hy 7 (by decide) (.inl rfl)).1 rfl
          clear hd hu hy
          go_simp
          rw [← HC.out.e7]
          refine HR.out _ _ (.inr (.inl rfl)) ⟨rfl, .inl rfl⟩ (fun k hk hne hw u hu => ?_) (fun k _ hne h => ⟨fun e => absurd e hne, fun _ => .inr (.inl rfl), fun _ => HC.out.old7⟩)
          have h9 : k < 11 := hk
          rcases (show k = 0 ∨ k = 1 ∨ k = 2 ∨ k = 3 ∨ k = 4 ∨ k = 5 ∨ k = 6 ∨ k = 7 ∨ k = 8 ∨ k = 9 ∨ k = 10 by omega) with rfl | rfl | rfl | rfl | rfl | rfl | rfl | rfl | rfl | rfl | rfl
          · exact hu
          · exact hu
          · exact hu
          · exact hu
          · exact hu
          · exact hu
          · exact hu
          · exact absurd rfl hne
          · exact absurd (hw.symm.trans (show _ = true by kernel_rfl)) (by decide)
          · exact hu
          · exact absurd (hw.symm.trans (show _ = true by kernel_rfl)) (by decide)
        case s8 =>
          refine Grow.stepY_in (by rfl) (by rfl) ?_
          intro E V ec eg ef hT hd hu hy R HR
          have e21 : E (.tmp 21) = .slice Au nu cu := hd 5 21 (by kernel_rfl)
          obtain ⟨e23, hV⟩ := hd 7 23 (by kernel_rfl)
          have hV2 := (hy 8 (by decide) (.inl rfl)).2.1 rfl
          have hV3 := (hy 10 (by decide) (.inr (by kernel_rfl))).2.2 rfl
          obtain rfl : V = w7 := HC.out.is7 hV hV2 hV3
          clear hd hu hy hV hV2 hV3
          refine pkruns_app (.tmp 21) (.tmp 23) 44 (by rfl) e21 e23 HC.out.app ?_
          refine HR.out _ _ (.inr (.inr (.inl rfl))) ⟨rfl, .inl rfl⟩ (fun k hk hne hw u hu => ?_) (fun k _ hne h => ⟨fun e => absurd (h.1 e) HC.out.n70, fun e => absurd e hne, fun _ => HC.out.old8⟩)
          have h9 : k < 11 := hk
          rcases (show k = 0 ∨ k = 1 ∨ k = 2 ∨ k = 3 ∨ k = 4 ∨ k = 5 ∨ k = 6 ∨ k = 7 ∨ k = 8 ∨ k = 9 ∨ k = 10 by omega) with rfl | rfl | rfl | rfl | rfl | rfl | rfl | rfl | rfl | rfl | rfl
          · exact hu
          · exact hu
          · exact hu
          · exact hu
          · exact hu
          · exact hu
          · exact hu
          · exact ⟨hu.1, .inr (.inl rfl)⟩
          · exact absurd rfl hne
          · exact hu
          · exact absurd (hw.symm.trans (show _ = true by kernel_rfl)) (by decide)
        case s9 =>
          refine Grow.stepY_in (by rfl) (by rfl) ?_
          intro E V ec eg ef hT hd hu hy R HR
          have e16 : E (.tmp 16) = .slice (some ⟨g, 0, none⟩) L c7 := hd 0 16 (by kernel_rfl)
          have e17 : E (.tmp 17) = .int .i64 (p : Int) := hd 1 17 (by kernel_rfl)
          have hpl := HPL.out
          clear hd hu hy
          go_simp
          exact HR.out _ _ hT rfl (fun _ _ _ _ _ h => h) (fun _ _ _ h => h)
        case s10 =>
          refine Grow.stepY_in (by rfl) (by rfl) ?_
          intro E V ec eg ef hT hd hu hy R HR
          have e25 : E (.tmp 25) = .pointer (some ⟨g, p, none⟩) := hd 9 25 (by kernel_rfl)
          obtain ⟨e24, hV⟩ := hd 8 24 (by kernel_rfl)
          have hV3 := (hy 10 (by decide) (.inl rfl)).2.2 rfl
          obtain rfl : V = w8 := HC.out.is8 hV hV3
          clear hd hu hy hV hV3
          have hc := HC.out.old8
          have hf := HC.out.free
          go_simp
          rw [← HC.out.ef]
          refine HR.out _ _ (.inr (.inr (.inr rfl))) rfl (fun k hk hne hw u hu => ?_) (fun k _ hne h => ⟨fun e => absurd (h.1 e) HC.out.n80, fun e => .inr (.inr rfl), fun e => absurd e hne⟩)
          have h9 : k < 11 := hk
          rcases (show k = 0 ∨ k = 1 ∨ k = 2 ∨ k = 3 ∨ k = 4 ∨ k = 5 ∨ k = 6 ∨ k = 7 ∨ k = 8 ∨ k = 9 ∨ k = 10 by omega) with rfl | rfl | rfl | rfl | rfl | rfl | rfl | rfl | rfl | rfl | rfl
          · exact hu
          · exact hu
          · exact hu
          · exact hu
          · exact hu
          · exact hu
          · exact hu
          · exact ⟨hu.1, .inr (.inr rfl)⟩
          · exact ⟨hu.1, .inr rfl⟩
          · exact hu
          · exact absurd rfl hne
      case gfin =>
        intro V hT
        refine Grow.fin_dst (by rfl) ?_
        rintro _ rfl
        refine Grow.fin_dst (by rfl) ?_
        rintro _ rfl
        refine Grow.fin_dst (by rfl) ?_
        rintro _ rfl
        refine Grow.fin_dst (by rfl) ?_
        rintro _ rfl
        refine Grow.fin_dst (by rfl) ?_
        rintro _ rfl
        refine Grow.fin_dst (by rfl) ?_
        rintro _ rfl
        refine Grow.fin_dst (by rfl) ?_
        rintro _ rfl
        refine Grow.fin_dst (by rfl) ?_
        rintro _ ⟨rfl, _⟩
        refine Grow.fin_dst (by rfl) ?_
        rintro _ ⟨rfl, _⟩
        refine Grow.fin_dst (by rfl) ?_
        rintro _ rfl
        refine Grow.fin_told (by rfl) ?_
        rintro ⟨_, rfl⟩
        simp only [Act.put, List.setIfInBounds_toArray, List.set_cons_zero, List.set_cons_succ]
        refine Grow.fin_end ?_
        exact HF.out
    · have hpn : p < L := by rw [hL, e0, e1]; simp
      have hne : ((p : Int) == (L : Int)) = false := by simp; omega
      have hc1 := cell_of_cells hj.box 0
      obtain ⟨g, Au, nu, cu, An, cn, w8, rfl, hcu, hap, hb8, hc8, hf8, hj9, hk9, hs9⟩ := hj.drew.put (K := fun k => k < w.heap.size) (p := p) W1.heap.size (hDl) (Nat.le_refl _) (fun _ h => h) (by omega) (by have := s2 cur (by rw [e0]; simp); rw [e0, e1]; simp; omega) j
      obtain ⟨w0, hw0⟩ : ∃ w0, w0 = (W).drew := ⟨_, rfl⟩
      obtain ⟨w7, hw7⟩ : ∃ w7, w7 = w0.alloc (.cells #[.int .i64 (j : Int)] 3) := ⟨_, rfl⟩
      obtain ⟨wf, hwf⟩ : ∃ wf, wf = w8.setCell ⟨g, p, none⟩ (.slice An (nu + 1) cn) := ⟨_, rfl⟩
      have HC : Hid (Ch7 w.heap.size g p L c7 Au nu cu An cn j w0 w7 w8 wf) := Lib.hid (ch7 hj.drew.box hcu hap hb8 hc8 hf8 hj9.box hs9 hw0 hw7 hwf)
      have HW0 : Hid ((W).drew = w0) := Lib.hid hw0.symm
      have HPL := Lib.hid (show p < L by omega)
      have HF : Hid (Kept W1.heap.size D (fun k => k < w.heap.size) W wf ∧ PkI w w.heap.size D (pre ++ [(p, j)]) wf) := Lib.hid ⟨by rw [hwf]; exact (Kept.of_below (below_drew (Below.refl _ _))).trans hk9, _, _, _, _, by
        rw [x5, e2, hwf]
        exact (by have h5 := pk_set_last done cur j; rw [← e1, ← e0] at h5; rw [h5] at hj9; exact hj9)⟩
      clear hj hk9 hj9 hcu hap hb8 hc8 hf8 hs9 hDl x5 s1 s2 hjs hL e0 e1 e2 hw0 hw7 hwf hpn
      gi_wp2
      clear hc1 hne
      refine wpIn_region_grow (fun V => V = w0 ∨ V = w7 ∨ V = w8 ∨ V = wf) (fun k V => (k = 7 → V = w0) ∧ (k = 8 → V = w0 ∨ V = w7 ∨ V = wf) ∧ (k = 10 → V.cell? ⟨g, p, none⟩ = some (.slice Au nu cu))) (Grow.nth [fun u _ => u = .slice (some ⟨g, 0, none⟩) L c7, fun u _ => u = .int .i64 (p : Int), fun u _ => u = .slice (some ⟨g, 0, none⟩) L c7, fun u _ => u = .int .i64 (p : Int), fun u _ => u = .pointer (some ⟨g, p, none⟩), fun u _ => u = .slice Au nu cu, fun u _ => u = .int .i64 (j : Int), fun u V => u = .slice (some ⟨w0.heap.size, 0, none⟩) 1 1 ∧ (V = w7 ∨ V = w8 ∨ V = wf), fun u V => u = .slice An (nu + 1) cn ∧ (V = w8 ∨ V = wf), fun u _ => u = .pointer (some ⟨g, p, none⟩), fun _ V => V = wf]) 27 (by kernel_rfl) (by kernel_rfl) (by kernel_rfl) (by rfl) (.inl HW0.out) (fun k hk => ⟨fun _ => HW0.out, fun _ => .inl HW0.out, fun _ => by rw [HW0.out]; exact HC.out.old0⟩) ?gsteps ?gfin
      case gsteps =>
        show Grow.allBelow _ 11
        refine And.intro ?_ ?s10
        refine And.intro ?_ ?s9
        refine And.intro ?_ ?s8
        refine And.intro ?_ ?s7
        refine And.intro ?_ ?s6
        refine And.intro ?_ ?s5
        refine And.intro ?_ ?s4
        refine And.intro ?_ ?s3
        refine And.intro ?_ ?s2
        refine And.intro ?_ ?s1
        refine And.intro ?_ ?s0
        exact trivial
        case s0 =>
          refine Grow.stepY_in (by rfl) (by rfl) ?_
          intro E V ec eg ef hT hd hu hy R HR
          have e3 : E (.tmp 3) = .pointer (some ⟨w.heap.size, 0, none⟩) := hu 3 (by kernel_rfl)
          have hc := cell_of_cells (HC.out.box V hT) 0
          clear hd hu hy
          go_simp
          exact HR.out _ _ hT rfl (fun _ _ _ _ _ h => h) (fun _ _ _ h => h)
        case s1 =>
          refine Grow.stepY_in (by rfl) (by rfl) ?_
          intro E V ec eg ef hT hd hu hy R HR
          have e4 : E (.tmp 4) = .int .i64 (p : Int) := hu 4 (by kernel_rfl)
          clear hd hu hy
          go_simp
          exact HR.out _ _ hT rfl (fun _ _ _ _ _ h => h) (fun _ _ _ h => h)
        case s2 =>
          refine Grow.stepY_in (by rfl) (by rfl) ?_
          intro E V ec eg ef hT hd hu hy R HR
          have e3 : E (.tmp 3) = .pointer (some ⟨w.heap.size, 0, none⟩) := hu 3 (by kernel_rfl)
          have hc := cell_of_cells (HC.out.box V hT) 0
          clear hd hu hy
          go_simp
          exact HR.out _ _ hT rfl (fun _ _ _ _ _ h => h) (fun _ _ _ h => h)
        case s3 =>
          refine Grow.stepY_in (by rfl) (by rfl) ?_
          intro E V ec eg ef hT hd hu hy R HR
          have e4 : E (.tmp 4) = .int .i64 (p : Int) := hu 4 (by kernel_rfl)
          clear hd hu hy
          go_simp
          exact HR.out _ _ hT rfl (fun _ _ _ _ _ h => h) (fun _ _ _ h => h)
        case s4 =>
          refine Grow.stepY_in (by rfl) (by rfl) ?_
          intro E V ec eg ef hT hd hu hy R HR
          have e18 : E (.tmp 18) = .slice (some ⟨g, 0, none⟩) L c7 := hd 2 18 (by kernel_rfl)
          have e19 : E (.tmp 19) = .int .i64 (p : Int) := hd 3 19 (by kernel_rfl)
          have hpl := HPL.out
          clear hd hu hy
          go_simp
          exact HR.out _ _ hT rfl (fun _ _ _ _ _ h => h) (fun _ _ _ h => h)
        case s5 =>
          refine Grow.stepY_in (by rfl) (by rfl) ?_
          intro E V ec eg ef hT hd hu hy R HR
          have e20 : E (.tmp 20) = .pointer (some ⟨g, p, none⟩) := hd 4 20 (by kernel_rfl)
          have hc := (hy 10 (by decide) (.inr (by kernel_rfl))).2.2 rfl
          clear hd hu hy
          go_simp
          exact HR.out _ _ hT rfl (fun _ _ _ _ _ h => h) (fun _ _ _ h => h)
        case s6 =>
          refine Grow.stepY_in (by rfl) (by rfl) ?_
          intro E V ec eg ef hT hd hu hy R HR
          have e5 : E (.tmp 5) = .int .i64 (j : Int) := hu 5 (by kernel_rfl)
          clear hd hu hy
          go_simp
          exact HR.out _ _ hT rfl (fun _ _ _ _ _ h => h) (fun _ _ _ h => h)
        case s7 =>
          refine Grow.stepY_in (by rfl) (by rfl) ?_
          intro E V ec eg ef hT hd hu hy R HR
          have e22 : E (.tmp 22) = .int .i64 (j : Int) := hd 6 22 (by kernel_rfl)
          obtain rfl := (hy 7 (by decide) (.inl rfl)).1 rfl
          clear hd hu hy
          go_simp
          rw [← HC.out.e7]
          refine HR.out _ _ (.inr (.inl rfl)) ⟨rfl, .inl rfl⟩ (fun k hk hne hw u hu => ?_) (fun k _ hne h => ⟨fun e => absurd e hne, fun _ => .inr (.inl rfl), fun _ => HC.out.old7⟩)
          have h9 : k < 11 := hk
          rcases (show k = 0 ∨ k = 1 ∨ k = 2 ∨ k = 3 ∨ k = 4 ∨ k = 5 ∨ k = 6 ∨ k = 7 ∨ k = 8 ∨ k = 9 ∨ k = 10 by omega) with rfl | rfl | rfl | rfl | rfl | rfl | rfl | rfl | rfl | rfl | rfl
          · exact hu
          · exact hu
          · exact hu
          · exact hu
          · exact hu
          · exact hu
          · exact hu
          · exact absurd rfl hne
          · exact absurd (hw.symm.trans (show _ = true by kernel_rfl)) (by decide)
          · exact hu
          · exact absurd (hw.symm.trans (show _ = true by kernel_rfl)) (by decide)
        case s8 =>
          refine Grow.stepY_in (by rfl) (by rfl) ?_
          intro E V ec eg ef hT hd hu hy R HR
          have e21 : E (.tmp 21) = .slice Au nu cu := hd 5 21 (by kernel_rfl)
          obtain ⟨e23, hV⟩ := hd 7 23 (by kernel_rfl)
          have hV2 := (hy 8 (by decide) (.inl rfl)).2.1 rfl
          have hV3 := (hy 10 (by decide) (.inr (by kernel_rfl))).2.2 rfl
          obtain rfl : V = w7 := HC.out.is7 hV hV2 hV3
          clear hd hu hy hV hV2 hV3
          refine pkruns_app (.tmp 21) (.tmp 23) 44 (by rfl) e21 e23 HC.out.app ?_
          refine HR.out _ _ (.inr (.inr (.inl rfl))) ⟨rfl, .inl rfl⟩ (fun k hk hne hw u hu => ?_) (fun k _ hne h => ⟨fun e => absurd (h.1 e) HC.out.n70, fun e => absurd e hne, fun _ => HC.out.old8⟩)
          have h9 : k < 11 := hk
          rcases (show k = 0 ∨ k = 1 ∨ k = 2 ∨ k = 3 ∨ k = 4 ∨ k = 5 ∨ k = 6 ∨ k = 7 ∨ k = 8 ∨ k = 9 ∨ k = 10 by omega) with rfl | rfl | rfl | rfl | rfl | rfl | rfl | rfl | rfl | rfl | rfl
          · exact hu
          · exact hu
          · exact hu
          · exact hu
          · exact hu
          · exact hu
          · exact hu
          · exact ⟨hu.1, .inr (.inl rfl)⟩
          · exact absurd rfl hne
          · exact hu
          · exact absurd (hw.symm.trans (show _ = true by kernel_rfl)) (by decide)
        case s9 =>
          refine Grow.stepY_in (by rfl) (by rfl) ?_
          intro E V ec eg ef hT hd hu hy R HR
          have e16 : E (.tmp 16) = .slice (some ⟨g, 0, none⟩) L c7 := hd 0 16 (by kernel_rfl)
          have e17 : E (.tmp 17) = .int .i64 (p : Int) := hd 1 17 (by kernel_rfl)
          have hpl := HPL.out
          clear hd hu hy
          go_simp
          exact HR.out _ _ hT rfl (fun _ _ _ _ _ h => h) (fun _ _ _ h => h)
        case s10 =>
          refine Grow.stepY_in (by rfl) (by rfl) ?_
          intro E V ec eg ef hT hd hu hy R HR
          have e25 : E (.tmp 25) = .pointer (some ⟨g, p, none⟩) := hd 9 25 (by kernel_rfl)
          obtain ⟨e24, hV⟩ := hd 8 24 (by kernel_rfl)
          have hV3 := (hy 10 (by decide) (.inl rfl)).2.2 rfl
          obtain rfl : V = w8 := HC.out.is8 hV hV3
          clear hd hu hy hV hV3
          have hc := HC.out.old8
          have hf := HC.out.free
          go_simp
          rw [← HC.out.ef]
          refine HR.out _ _ (.inr (.inr (.inr rfl))) rfl (fun k hk hne hw u hu => ?_) (fun k _ hne h => ⟨fun e => absurd (h.1 e) HC.out.n80, fun e => .inr (.inr rfl), fun e => absurd e hne⟩)
          have h9 : k < 11 := hk
          rcases (show k = 0 ∨ k = 1 ∨ k = 2 ∨ k = 3 ∨ k = 4 ∨ k = 5 ∨ k = 6 ∨ k = 7 ∨ k = 8 ∨ k = 9 ∨ k = 10 by omega) with rfl | rfl | rfl | rfl | rfl | rfl | rfl | rfl | rfl | rfl | rfl
          · exact hu
          · exact hu
          · exact hu
          · exact hu
          · exact hu
          · exact hu
          · exact hu
          · exact ⟨hu.1, .inr (.inr rfl)⟩
          · exact ⟨hu.1, .inr rfl⟩
          · exact hu
          · exact absurd rfl hne
      case gfin =>
        intro V hT
        refine Grow.fin_dst (by rfl) ?_
        rintro _ rfl
        refine Grow.fin_dst (by rfl) ?_
        rintro _ rfl
        refine Grow.fin_dst (by rfl) ?_
        rintro _ rfl
        refine Grow.fin_dst (by rfl) ?_
        rintro _ rfl
        refine Grow.fin_dst (by rfl) ?_
        rintro _ rfl
        refine Grow.fin_dst (by rfl) ?_
        rintro _ rfl
        refine Grow.fin_dst (by rfl) ?_
        rintro _ rfl
        refine Grow.fin_dst (by rfl) ?_
        rintro _ ⟨rfl, _⟩
        refine Grow.fin_dst (by rfl) ?_
        rintro _ ⟨rfl, _⟩
        refine Grow.fin_dst (by rfl) ?_
        rintro _ rfl
        refine Grow.fin_told (by rfl) ?_
        rintro ⟨_, rfl⟩
        simp only [Act.put, List.setIfInBounds_toArray, List.set_cons_zero, List.set_cons_succ]
        refine Grow.fin_end ?_
        exact HF.out
  case done =>
    rintro E D xs W hE hws hB rfl _ ⟨Av, lv, cv, vs, hj⟩ hK
    have hc := cell_of_cells hj.box 0
    simp only [List.getElem?_toArray, List.getElem?_cons_zero] at hc
    have HX := Lib.hid (And.intro hj hK)
    obtain ⟨FV, hFV⟩ : ∃ FV, FV = fillFn A n c m := ⟨_, rfl⟩
    rw [← hFV]
    clear hj hK hFV
    gi_wp2
    refine ⟨by simp, .inl ⟨_, _, rfl, run_takeDeferred HX.out.2, ?_⟩⟩
    have h1 := HX.out.1
    have hnE : ∀ g, PkN.Own (.slice Av lv cv) vs g → g ≠ E := fun g hg e => by
      obtain ⟨_, cs, t, h2⟩ := h1.n.own hg
      rw [e, HX.out.2] at h2
      cases h2
    have h3 : PkN (W.putObj E (.deferred none)) (w.heap.size + 1) (.slice Av lv cv) vs (pkGrp (pkSeq most l)) := h1.n.keep fun g hg => World.putObj_heap_other (hnE g hg)
    obtain ⟨A', c', e1, e2⟩ := h3.nst fun r hr x hx => by
      rw [show pkGrp (pkSeq most l) = pkL most l l.length from (pkL_all most l).symm] at hr
      have h4 := ((pkL_short (most := most) (l := l) l.length (Nat.le_refl _)).2 r hr).2 x hx
      have h5 := HA.out.2
      omega
    refine ⟨_, results_tmp rfl _ _ _, A', c', ?_, e2.mono fun k _ h => Nat.le_of_succ_le h, h1.bel.trans (belowK_b (w := w) (Nat.le_refl _) W E _ _ (by have := HP.out.2; omega) HX.out.2 rfl rfl)⟩
    rw [e1]
    rfl
end Go.Proofs.YtnbjhdlnibmgdaaDoor

/-! codec.number over the bytes of a slice: the walk. -/
namespace Go.Proofs.YtnbjhdlnibmgdaaDoor
open Go.RowKit Codec

theorem or_shift {X c i : Nat} (hX : X < 128 ^ i) (hc : X + c * 128 ^ i < 18446744073709551616) : bits .or .u64 (X : Int) (IntKind.u64.wrap ((c : Int) * 2 ^ (7 * i))) = ((X + c * 128 ^ i : Nat) : Int) := by
  have e : (128 : Nat) ^ i = 2 ^ (7 * i) := by rw [Nat.pow_mul]
  have hc' : c * 2 ^ (7 * i) < 18446744073709551616 := by rw [← e]; omega
  have hw : IntKind.u64.wrap ((c : Int) * 2 ^ (7 * i)) = ((c * 2 ^ (7 * i) : Nat) : Int) := by
    rw [show ((c : Int) * 2 ^ (7 * i)) = ((c * 2 ^ (7 * i) : Nat) : Int) by simp]
    exact IntWalk.u64_in _ ⟨by omega, by omega⟩
  rw [hw, bits_or_u64_nat _ _ (by omega) hc', e]
  congr 1
  rw [Nat.or_comm, Nat.mul_comm c, ← Nat.two_pow_add_eq_or_of_lt (by rw [← e]; exact hX)]
  omega

theorem drop_at {l : List UInt8} {k : Nat} (h : k < l.length) : ∃ c, l.drop k = c :: l.drop (k + 1) ∧ l[k]?.getD 0 = c :=
  ⟨l[k], List.drop_eq_getElem_cons h, by simp [List.getElem?_eq_getElem h]⟩

theorem n_bad {k X : Nat} {c : UInt8} {l t : List UInt8} (H : rd 0 l = comb k X (rd k (c :: t))) (h : (k = 9 ∧ 1 < c.toNat) ∨ (0 < k ∧ c.toNat = 0)) : rd 0 l = (0, 0, 11) := by
  rw [H]; simp [rd, h, comb]
theorem n_end {k X : Nat} {c : UInt8} {l t : List UInt8} (H : rd 0 l = comb k X (rd k (c :: t))) (h : ¬ ((k = 9 ∧ 1 < c.toNat) ∨ (0 < k ∧ c.toNat = 0))) (h2 : c.toNat < 128) : rd 0 l = (X + c.toNat * 128 ^ k, k + 1, 0) := by
  rw [H]; simp only [rd, if_neg h, if_pos h2, comb, if_true, Nat.mul_comm (128 ^ k)]
theorem n_small {k X c : Nat} (hX : X < 128 ^ k) (hk : k ≤ 9) (hc : c < 128) (h9 : k = 9 → c ≤ 1) : X + c * 128 ^ k < 18446744073709551616 := by
  by_cases h : k = 9
  · subst h; have := h9 rfl; simp at hX ⊢; omega
  · have h1 : c * 128 ^ k ≤ 127 * 128 ^ k := Nat.mul_le_mul_right _ (by omega)
    have h2 : 128 ^ (k + 1) ≤ 128 ^ 9 := Nat.pow_le_pow_right (by omega) (by omega)
    rw [Nat.pow_succ] at h2
    simp at h2
    omega
theorem n_next {k X c : Nat} (hX : X < 128 ^ k) (hc : c < 128) : X + c * 128 ^ k < 128 ^ (k + 1) := by
  have h1 : c * 128 ^ k ≤ 127 * 128 ^ k := Nat.mul_le_mul_right _ (by omega)
  rw [Nat.pow_succ]
  omega

theorem or_step {X k d : Nat} (hX : X < 128 ^ k) (hk : k ≤ 9) (h9 : k = 9 → d % 128 ≤ 1) : bits .or .u64 (X : Int) (IntKind.u64.wrap ((d : Int) % 128 * 2 ^ (7 * k))) = ((X + (d % 128) * 128 ^ k : Nat) : Int) := by
  have := or_shift (c := d % 128) hX (n_small hX hk (by omega) h9)
  rw [← this]
  rfl
theorem ret3_of {k1 k2 k3 : IntKind} {a a' b b' c c' : Int} (h1 : a = a') (h2 : b = b') (h3 : c = c') : Ending.returned (.tuple #[.int k1 a, .int k2 b, .int k3 c]) = .returned (.tuple #[.int k1 a', .int k2 b', .int k3 c']) := by rw [h1, h2, h3]

set_option maxHeartbeats 1000000 in
set_option maxRecDepth 100000 in
theorem number_any (b off n c : Nat) (l : List UInt8) (w : World) (hl : Hid (l.length = n)) (hn : n ≤ maxLen)
    (hc : ∀ i, i < n → w.cell? ⟨b, off + i, none⟩ = some (.int .u8 ((l[i]?.getD 0).toNat : Int))) :
    Calls Tryd.prog 39 #[.slice (some ⟨b, off, none⟩) n c] w fun e w' => e = .returned (.tuple #[.int .u64 (rd 0 l).1, .int .i64 (rd 0 l).2.1, .int .i64 (rd 0 l).2.2]) ∧ w = w' := by
  unfold maxLen at hn
  go_enter Tryd.func39, Tryd.ntmps39
  go_wp2
  go_step3
  go_wp2
  go_step3
  go_wp2
  go_loop [5, 6, 7, 12] (fun x m e i => ∃ (k : Nat) (X : Nat), k ≤ n ∧ k ≤ 9 ∧ i = .int .i64 k ∧ m = .int .i64 0 ∧ e = .int .i64 10 ∧ x = .int .u64 X ∧ X < 128 ^ k ∧ Hid (rd 0 l = comb k X (rd k (l.drop k)))) (fun _ _ _ i => n - (intOf i).toNat)
  case atStart => exact ⟨0, 0, by omega, by omega, rfl, rfl, rfl, rfl, by simp, by rw [List.drop_zero, comb_zero _ (rd_err 0 l)]; exact rfl⟩
  case round =>
    obtain ⟨k, X, hk, hk9, rfl, rfl, rfl, rfl, hX, HD⟩ := hrel
    by_cases hlt : k < n
    · obtain ⟨d, hd, hdk⟩ := drop_at (l := l) (k := k) (by rw [hl.out]; exact hlt)
      have hcell := hc k hlt
      rw [hdk] at hcell
      have HD' := HD.out
      rw [hd] at HD'
      have H := Lib.hid HD'
      have hu := d.toNat_lt
      have HX := Lib.hid hX
      clear hc HD HD' hd hdk hl hX
      go_wp2
      · have h9 : (k : Int) = 9 := by assumption
        have h1 : 1 < (d.toNat : Int) := by assumption
        rw [n_bad H.out (Or.inl ⟨by omega, by omega⟩)]
        go_ret3
        exact ⟨rfl, rfl⟩
      · have h9 : (k : Int) = 9 := by assumption
        have h0 : ((d.toNat : Int) == 0) = true := by assumption
        have := WalkArith.int_eq h0
        rw [n_bad H.out (Or.inr ⟨by omega, by omega⟩)]
        go_ret3
        exact ⟨rfl, rfl⟩
      · have h9 : (k : Int) = 9 := by assumption
        have h1 : (d.toNat : Int) ≤ 1 := by assumption
        have h0 : ((d.toNat : Int) == 0) = false := by assumption
        have := WalkArith.int_ne h0
        have E := n_end H.out (by omega) (by omega)
        have E2 := or_step (d := d.toNat) HX.out hk9 (by omega)
        rw [E]
        go_ret3
        exact ⟨ret3_of (by rw [E2, Nat.mod_eq_of_lt (by omega)]) (by simp; omega) rfl, rfl⟩
      · have h9 : ¬ (k : Int) = 9 := by assumption
        have hp : 0 < k := by assumption
        have h0 : ((d.toNat : Int) == 0) = true := by assumption
        have := WalkArith.int_eq h0
        rw [n_bad H.out (Or.inr ⟨by omega, by omega⟩)]
        go_ret3
        exact ⟨rfl, rfl⟩
      · have h9 : ¬ (k : Int) = 9 := by assumption
        have hp : 0 < k := by assumption
        have h0 : ((d.toNat : Int) == 0) = false := by assumption
        have hs : (d.toNat : Int) < 128 := by assumption
        have := WalkArith.int_ne h0
        have E := n_end H.out (by omega) (by omega)
        have E2 := or_step (d := d.toNat) HX.out hk9 (by omega)
        rw [E]
        go_ret3
        exact ⟨ret3_of (by rw [E2, Nat.mod_eq_of_lt (by omega)]) (by simp) rfl, rfl⟩
      · have h9 : ¬ (k : Int) = 9 := by assumption
        have hs : 128 ≤ (d.toNat : Int) := by assumption
        have E := H.out
        rw [comb_step (by omega) (by omega)] at E
        have E2 := or_step (d := d.toNat) HX.out hk9 (by omega)
        have hX2 := n_next (c := d.toNat % 128) HX.out (by omega)
        go_round
        case rel => exact ⟨k + 1, _, by omega, by omega, by go_num, rfl, rfl, by rw [E2], hX2, by rw [show d.toNat % 128 = d.toNat - 128 by omega]; exact E⟩
        case measure => simp [intOf]; omega
      · have h9 : ¬ (k : Int) = 9 := by assumption
        have hp : ¬ 0 < k := by assumption
        have hs : (d.toNat : Int) < 128 := by assumption
        have E := n_end H.out (by omega) (by omega)
        have E2 := or_step (d := d.toNat) HX.out hk9 (by omega)
        rw [E]
        go_ret3
        exact ⟨ret3_of (by rw [E2, Nat.mod_eq_of_lt (by omega)]) (by simp) rfl, rfl⟩
      · have h9 : ¬ (k : Int) = 9 := by assumption
        have hs : 128 ≤ (d.toNat : Int) := by assumption
        have E := H.out
        rw [comb_step (by omega) (by omega)] at E
        have E2 := or_step (d := d.toNat) HX.out hk9 (by omega)
        have hX2 := n_next (c := d.toNat % 128) HX.out (by omega)
        go_round
        case rel => exact ⟨k + 1, _, by omega, by omega, by go_num, rfl, rfl, by rw [E2], hX2, by rw [show d.toNat % 128 = d.toNat - 128 by omega]; exact E⟩
        case measure => simp [intOf]; omega
    · have E : rd 0 l = (0, 0, 10) := by
        rw [HD.out, List.drop_eq_nil_of_le (by rw [hl.out]; omega)]; rfl
      have HE := Lib.hid E
      clear hc HD hl E
      go_wp2
      rw [HE.out]
      go_ret3
      exact ⟨rfl, rfl⟩

set_option maxRecDepth 100000 in
/-- A slice without bytes. -/
theorem number_none (A : Option Addr) (c : Nat) (w : World) :
    Calls Tryd.prog 39 #[.slice A 0 c] w fun e w' => e = .returned (.tuple #[.int .u64 0, .int .i64 0, .int .i64 10]) ∧ w = w' := by
  go_enter Tryd.func39, Tryd.ntmps39
  go_wp2
  go_step3
  go_wp2
  go_step3
  go_wp2
  go_loop [5, 6, 7, 12] (fun x m e i => i = .int .i64 0 ∧ m = .int .i64 0 ∧ e = .int .i64 10 ∧ x = .int .u64 0) (fun _ _ _ _ => 0)
  case atStart => exact ⟨rfl, rfl, rfl, rfl⟩
  case round =>
    obtain ⟨rfl, rfl, rfl, rfl⟩ := hrel
    go_wp2
    go_ret3
    exact ⟨rfl, rfl⟩

/-- A slice that reads as l. -/
theorem number_byt {w : World} {S : Nat → Prop} {n c : Nat} {A : Option Addr} {l : List UInt8} (h : Byt w S A n c l) :
    Calls Tryd.prog 39 #[.slice A n c] w fun e w' => e = .returned (.tuple #[.int .u64 (rd 0 l).1, .int .i64 (rd 0 l).2.1, .int .i64 (rd 0 l).2.2]) ∧ w = w' := by
  by_cases h0 : n = 0
  · subst h0
    have hl : l = [] := List.eq_nil_of_length_eq_zero h.len
    subst hl
    exact number_none A c w
  · obtain ⟨b, off, rfl, _, _, hc⟩ := h.row (by omega)
    exact number_any b off n c l w h.len (by have := h.cap; have := h.max; omega) hc
end Go.Proofs.YtnbjhdlnibmgdaaDoor

/-! bytes.Clone: the bytes in new memory (at a seat that has no codec). -/
namespace Go.Proofs.YtnbjhdlnibmgdaaDoor
open Go.RowKit

theorem clone_nil (w : World) : Calls Tryd.prog 36 #[.slice none 0 0] w fun r w' => r = .returned (.slice none 0 0) ∧ w = w' := by
  have hnil := fun (w : World) (a : Option Addr) (n c : Nat) => Lib.run_eql_slice_nil (P := Tryd.prog) w 24 5 a n c 0 0 Tryd.underlying24
  go_enter Tryd.func36, Tryd.ntmps36
  go_wp2
  go_ret
  exact ⟨rfl, rfl⟩

/-- bytes.Clone -/
theorem clone_byt {w : World} {S : Nat → Prop} {n c : Nat} {A : Option Addr} {l : List UInt8} (h : Byt w S A n c l) (hn : n ≤ 140737488355328) :
    Calls Tryd.prog 36 #[.slice A n c] w fun e w' => ∃ A' c', e = .returned (.slice A' n c') ∧ Byt w' (w.heap.size ≤ ·) A' n c' l ∧ Below w.heap.size w w' ∧ (A' = none ↔ A = none) ∧ FreeRow w' A' := by
  obtain ⟨i0, hi, hz0, hz1, hz2⟩ := info_parts u8_info
  have hnil := fun (w : World) (a : Option Addr) (n c : Nat) => Lib.run_eql_slice_nil (P := Tryd.prog) w 24 5 a n c 0 0 Tryd.underlying24
  have hmax := h.max
  have hcap := h.cap
  rcases A with _ | ad
  · have h0 : n = 0 := by
      rcases Nat.eq_zero_or_pos n with h0 | h0
      · exact h0
      · obtain ⟨_, _, hA, _⟩ := h.row h0
        cases hA
    subst h0
    have hl : l = [] := List.eq_nil_of_length_eq_zero h.len
    subst hl
    go_enter Tryd.func36, Tryd.ntmps36
    go_wp2
    go_ret
    exact ⟨none, 0, rfl, Byt.nil _ _ _ _ (Nat.zero_le _), Below.refl _ _, by simp, FreeRow.none_ _⟩
  · have hnews := byt_news (h.alloc (.cells #[] 5))
    have hlen := u8s_length l
    have hll := h.len
    have hone := u8s_one l
    clear h
    go_enter Tryd.func36, Tryd.ntmps36
    go_wp2_with (at_builtin; refine wpList_append_own _ rfl _ _ 24 rfl w.heap.size 5 i0 (.int .u8 0) 1 1 Tryd.underlying24 hi hz0 hz1 hz2 rfl (by decide) _ 0 [] rfl (World.ownsRow_made w #[] 0 (Nat.le_refl _) (Nat.zero_le _) rfl) ad n c (u8s l) rfl ?qc1 hnews hone ?qc4 ?qc5 ?qc6 ?_)
    case qc1 => omega
    case qc4 => unfold maxLen at *; omega
    case qc5 => omega
    case qc6 => simp
    intro v' w1 hown hgrow hnn
    go_wp2
    go_ret
    obtain ⟨A', c', rfl, hb⟩ := own_byt hown
    refine ⟨A', c', rfl, hb, ((Below.refl _ w).alloc (Nat.le_refl _) _).grown hgrow (by simp) (by intro k hk; simp [Value.ownBlock] at hk; omega), ?_, own_free hown⟩
    constructor
    · rintro rfl
      rcases hown.2 with ⟨h1, h2⟩ | ⟨g, cap, cur, h1, _⟩
      · exact absurd h1 hnn
      · cases h1
    · intro h1; cases h1
end Go.Proofs.YtnbjhdlnibmgdaaDoor

/-! bytes.Clone: see Clone. -/

