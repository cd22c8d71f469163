/-
  Objects: an object as the model has it.
  Objects: the reference's Same, of two that are the same.
-/
import Derived.Test.YtmakpjcgiiljfaaDoorPk11
import Derived.Test.YtmakpjcgiiljfaaDoorPk10
import Derived.Test.YtmakpjcgiiljfaaDoorPk02
import Derived.Test.YtmakpjcgiiljfaaDoorPk14
import Derived.Test.YtmakpjcgiiljfaaDoorPk01
/-! Objects: an object as the model has it. -/
namespace Go.Proofs.YtmakpjcgiiljfaaDoor
open Go.RowKit Codec

theorem run_build_nn {y : En} {XS IS : Array Value} (hX : XS = enV y) (hI : IS = row8 y.2.2) (hl : y.2.2.length = 32) (w : World) : (Instr.build 62 #[(0, .string (st y.1)), (1, .bool y.2.1), (2, .agg IS)]).run Tryd.prog w = .ok (.agg XS) w := by
  obtain ⟨n, d, i⟩ := y
  obtain ⟨a0, a1, a2, a3, a4, a5, a6, a7, a8, a9, b0, b1, b2, b3, b4, b5, b6, b7, b8, b9, c0, c1, c2, c3, c4, c5, c6, c7, c8, c9, d0, d1, hi⟩ := list32' hl
  simp only at hi
  subst hi hX hI
  unfold enV row8 u8s
  kernel_rfl
theorem exec_build3 {P : Program} {E : Operand → Value} {o : Oper} {W : World} (t : TypeId) (x y z : Operand) (hop : o.op = .build t #[(0, x), (1, y), (2, z)]) {u v s r : Value} (hx : E x = u) (hy : E y = v) (hz : E z = s) (hrun : (Instr.build t #[(0, u), (1, v), (2, s)]).run P W = .ok r W) : (execOp E o).run P W = .ok (.value r) W := by
  unfold execOp
  simp only [hop, Sem.run_bind, Sem.run_pure, Result.andThen_ok, List.map_toArray, List.map_cons, List.map_nil, hx, hy, hz, hrun]
theorem eff_lit1 {P : Program} {ops : Array Oper} {Q : Exit → Act → World → Prop} {i : Nat} {o : Oper} {K : Act → World → Prop} {a : Act} {w w' : World} (ho : ops.toList[i]? = some o) (hgd : o.guard = none) (t : TypeId) (x : Operand) (hop : o.op = .buildSlice t 1 #[(0, x)]) {u v' : Value} (hx : a.eval x = u)
    (hrun : (Instr.buildSlice t 1 #[(0, u)]).run P w = .ok v' w') (h : K (a.put o.dst v') w') : wpOp P ops Q i K a w :=
  eff_step ho fun K' hK' => by
    rw [if_pos (by unfold Region.wanted; rw [hgd])]
    unfold Oper.wp execOp
    simp only [hop, Sem.run_bind, Sem.run_pure, Result.andThen_ok, List.map_toArray, List.map_cons, List.map_nil, hx, hrun]
    exact hK' _ _ h
theorem exec_load_mo {P : Program} {E : Operand → Value} {o : Oper} {W : World} (ty : TypeId) (x : Operand) (ho : o.op = .load ty x) (a : Addr) (hx : E x = .pointer (some a)) {v : Value} (hv : (loadVar ty a).run P W = .ok v W) : (execOp E o).run P W = .ok (.value v) W := by
  unfold execOp
  simp only [ho, hx, Instr.loadAt, Instr.sureAddr, Sem.run_bind, Sem.run_pure, Result.andThen_ok, hv]
theorem entake_succ {l : List En} {j : Nat} {y : En} (h : l[j]? = some y) : l.take (j + 1) = l.take j ++ [y] := by rw [List.take_add_one, h]; rfl
/-- Between two rounds. -/
structure MoR (w wr : World) (x1 x3 : Nat) (XV : Array Value) (Z : Value → Array Value) (es : List En) (j : Nat) (A9 : Option Addr) (c9 : Nat) : Prop where
  bel : Below w.heap.size w wr
  box : wr.heap[x1]? = some (.cells XV 27 (0, 0))
  res : ∃ cs, wr.heap[x1 + 1]? = some (.cells cs 37 (0, 0)) ∧ cs.size = 6
  loc : wr.heap[x3]? = some (.cells (Z (.slice A9 j c9)) 37 (0, 0))
  own : wr.ownsRow (x3 + 1) 62 34 (.slice A9 j c9) j (enCells (es.take j))
/-- What modelOf ends in. -/
def MoP (w : World) (S : Nat → Prop) (x : Ob) (e : Ending) (w' : World) : Prop :=
  ∃ P, e = .returned (.agg (omV P x)) ∧ Ois w' (fun k => S k ∨ w.heap.size ≤ k) P x ∧ P.e = x.es.length ∧ Below w.heap.size w w'
set_option maxHeartbeats 16000000 in
set_option maxRecDepth 100000 in
theorem model_any {w : World} {S : Nat → Prop} {p : At} {x : Ob} (h : Obm w S p x) (he : x.es.length ≤ 1000) :
    Calls Tryd.prog 11 #[.agg (obV p x)] w (MoP w S x) := by
  obtain ⟨A, n, c, IA, i, ic, EA, m, mc⟩ := p
  obtain ⟨k, b, z, ids, es, lb⟩ := x
  have hel := h.o.es.len
  simp only at hel he ⊢
  have hzo := zero_om
  have hbl : Below w.heap.size w (w.alloc (.cells (obV ⟨A, n, c, IA, i, ic, EA, m, mc⟩ ⟨k, b, z, ids, es, lb⟩) 27)) := (Below.refl _ _).alloc (Nat.le_refl _) _
  have hb2 := hbl.alloc hbl.size (.cells #[.int .u8 0, .string ⟨#[]⟩, .int .u64 0, .slice none 0 0, .slice none 0 0, .string ⟨#[]⟩] 37)
  have hcv := byt_string (h.below hb2).b
  simp only at hcv
  have HH := Lib.hid (And.intro h (And.intro hel he))
  have HXW : Hid ((w.alloc (.cells (obV ⟨A, n, c, IA, i, ic, EA, m, mc⟩ ⟨k, b, z, ids, es, lb⟩) 27)).heap[w.heap.size]? = some (.cells (obV ⟨A, n, c, IA, i, ic, EA, m, mc⟩ ⟨k, b, z, ids, es, lb⟩) 27 (0, 0)) ∧ Below w.heap.size w (w.alloc (.cells (obV ⟨A, n, c, IA, i, ic, EA, m, mc⟩ ⟨k, b, z, ids, es, lb⟩) 27))) := Lib.hid ⟨heap_alloc_new w _, hbl⟩
  clear h hbl hb2 hel he
  unfold obV at hcv HXW ⊢
  simp only at hcv HXW ⊢
  go_enter Tryd.func11, Tryd.ntmps11
  go_wp2_with fail
  generalize hw0 : w.alloc (.cells #[.int .u8 (k : Int), .slice A n c, .int .u64 (z : Int), .slice IA i ic, .slice EA m mc, .string (st lb)] 27) = w0 at *
  have hs0 : w0.heap.size = w.heap.size + 1 := by rw [← hw0]; simp
  generalize hw1 : w0.alloc (.cells #[.int .u8 0, .string ⟨#[]⟩, .int .u64 0, .slice none 0 0, .slice none 0 0, .string ⟨#[]⟩] 37) = w1 at *
  have hs1 : w1.heap.size = w.heap.size + 1 + 1 := by rw [← hw1]; simp [hs0]
  have h1a : w1.heap[w.heap.size + 1]? = some (.cells #[.int .u8 0, .string ⟨#[]⟩, .int .u64 0, .slice none 0 0, .slice none 0 0, .string ⟨#[]⟩] 37 (0, 0)) := by rw [← hw1, ← hs0]; exact heap_alloc_new w0 _
  have h1b : w1.heap[w.heap.size]? = w0.heap[w.heap.size]? := by rw [← hw1]; exact Below.heap_alloc _ _ _ (by omega)
  have hb1 : Below w.heap.size w w1 := by rw [← hw1]; exact HXW.out.2.alloc (by omega) _
  generalize hw2 : w1.alloc (.cells #[.int .u8 (k : Int), .string ⟨b.toArray⟩, .int .u64 (z : Int), .slice IA i ic, .slice none 0 0, .string (st lb)] 37) = w2 at *
  have HA : Hid (MoR w w2 w.heap.size (w.heap.size + 1 + 1) #[.int .u8 (k : Int), .slice A n c, .int .u64 (z : Int), .slice IA i ic, .slice EA m mc, .string (st lb)] (fun v => #[.int .u8 (k : Int), .string (st b), .int .u64 (z : Int), .slice IA i ic, v, .string (st lb)]) es 0 none 0) := Lib.hid ⟨by rw [← hw2]; exact hb1.alloc (by omega) _, by
    rw [← hw2, Below.heap_alloc _ _ _ (by omega), h1b]
    exact HXW.out.1, ⟨_, by rw [← hw2, Below.heap_alloc _ _ _ (by omega)]; exact h1a, rfl⟩, by rw [← hw2, ← hs1]; exact heap_alloc_new w1 _, by simpa [enCells] using World.ownsRow_nil _ _ _ _⟩
  clear hcv hzo hw0 hw1 hw2 hs0 hs1 h1a h1b hb1 HXW
  go_loopw [4] (fun ii wr => ∃ (j : Nat) (A9 : Option Addr) (c9 : Nat), j ≤ m ∧ ii = .int .i64 (j : Int) ∧ MoR w wr w.heap.size (w.heap.size + 1 + 1) #[.int .u8 (k : Int), .slice A n c, .int .u64 (z : Int), .slice IA i ic, .slice EA m mc, .string (st lb)] (fun v => #[.int .u8 (k : Int), .string (st b), .int .u64 (z : Int), .slice IA i ic, v, .string (st lb)]) es j A9 c9) (fun ii _ => m - (intOf ii).toNat)
  case atStart => exact ⟨0, none, 0, Nat.zero_le _, rfl, HA.out⟩
  case round =>
    obtain ⟨j, A9, c9, hj, rfl, hm⟩ := hrel
    have hcb := cell_of_cells hm.box 4
    simp only [List.getElem?_toArray, List.getElem?_cons_succ, List.getElem?_cons_zero] at hcb
    by_cases hlt : j < m
    · have hlt' : (j : Int) < (m : Int) := by omega
      have hadd := IntWalk.i64_in ((j : Int) + 1) (by have := HH.out.2.1; have := HH.out.2.2; omega)
      obtain ⟨g, off, y, hEA, _, hglt, hy, h32, hcs⟩ := HH.out.1.o.es.at_ hlt
      simp only at hEA hy
      subst hEA
      obtain ⟨YS, hYS⟩ : ∃ YS, YS = enV y := ⟨_, rfl⟩
      obtain ⟨IS, hIS⟩ : ∃ IS, IS = row8 y.2.2 := ⟨_, rfl⟩
      have HY : Hid (es[j]? = some y ∧ YS = enV y ∧ IS.size = 32 ∧ IS = row8 y.2.2 ∧ y.2.2.length = 32 ∧ j < m) := Lib.hid ⟨hy, hYS, by rw [hIS, row8_size, h32], hIS, h32, hlt⟩
      have HM : Hid (Below w.heap.size w wr ∧ wr.heap[w.heap.size]? = some (.cells #[.int .u8 (k : Int), .slice A n c, .int .u64 (z : Int), .slice IA i ic, .slice (some ⟨g, off, none⟩) m mc, .string (st lb)] 27 (0, 0)) ∧ (∃ cs, wr.heap[w.heap.size + 1]? = some (.cells cs 37 (0, 0)) ∧ cs.size = 6) ∧ wr.heap[w.heap.size + 1 + 1]? = some (.cells #[.int .u8 (k : Int), .string (st b), .int .u64 (z : Int), .slice IA i ic, .slice A9 j c9, .string (st lb)] 37 (0, 0)) ∧ wr.ownsRow (w.heap.size + 1 + 1 + 1) 62 34 (.slice A9 j c9) j (enCells (es.take j))) := Lib.hid ⟨hm.bel, hm.box, hm.res, hm.loc, hm.own⟩
      have HC4 : Hid (∀ W : World, (∀ k, k ≤ w.heap.size → W.heap[k]? = wr.heap[k]?) → W.cell? ⟨w.heap.size, 4, none⟩ = some (.slice (some ⟨g, off, none⟩) m mc) ∧ W.cell? ⟨g, off + j * 34, none⟩ = some (.string (st y.1)) ∧ W.cell? ⟨g, off + j * 34 + 1, none⟩ = some (.bool y.2.1) ∧ ∀ (a : Nat) (v : Value), IS[a]? = some v → W.cell? ((⟨g, off + j * 34 + 2, none⟩ : Addr).add a) = some v) := Lib.hid fun W hW => by
        have hx : W.heap[w.heap.size]? = wr.heap[w.heap.size]? := hW _ (Nat.le_refl _)
        have hg : ∀ o, W.cell? ⟨g, o, none⟩ = w.cell? ⟨g, o, none⟩ := fun o => by
          rw [← hm.bel.cell (p := ⟨g, o, none⟩) hglt]
          exact World.cell?_of_block (w := wr) (a := ⟨g, o, none⟩) (hW g (by omega))
        refine ⟨by rw [← hcb]; exact World.cell?_of_block (w := wr) (a := ⟨w.heap.size, 4, none⟩) hx, by rw [hg]; exact hcs 0 _ (enV_0 y), by rw [hg]; exact hcs 1 _ (enV_1 y), fun a v hv => ?_⟩
        rw [add_plain, Nat.add_assoc (off + j * 34) 2 a, hg]
        exact hcs (2 + a) v (enV_id (by rw [← hIS]; exact hv))
      have HM4 : Hid (wr.drew.cell? ⟨w.heap.size + 1 + 1, 4, none⟩ = some (.slice A9 j c9)) := Lib.hid (cell_of_cells HM.out.2.2.2.1 4)
      have hbs := run_ens_lit nn_info3 Tryd.underlying35 wr.drew YS hYS h32
      have hb5 : Below wr.heap.size wr (wr.drew.alloc (.cells YS 62)) := (Below.refl _ _).drew.alloc (Nat.le_refl _) _
      have HM5 : Hid ((wr.drew.alloc (.cells YS 62)).cell? ⟨w.heap.size + 1 + 1, 4, none⟩ = some (.slice A9 j c9)) := Lib.hid ((cell_of_cells ((hb5.block _ (lt_of_cells HM.out.2.2.2.1)).trans HM.out.2.2.2.1) 4))
      obtain ⟨A9', c9', w9, hap, hown9, hb9, hgr9⟩ := own_ens_app nn_info3 Tryd.underlying35 (l := es.take j) (m := [y]) (n2 := 1) (c2 := 1) (a := ⟨wr.drew.heap.size, 0, none⟩) (w := wr.drew.alloc (.cells YS 62)) (B := w.heap.size + 1 + 1 + 1) (v := .slice A9 j c9) (by
          have hl : (es.take j).length = j := by rw [List.length_take]; have := HH.out.2.1; omega
          rw [hl]
          exact own_below HM.out.2.2.2.2 hb5) (by have := lt_of_cells HM.out.2.2.2.1; have := hb5.size; omega) (fun z hz => (List.mem_append.1 hz).elim (fun hz => HH.out.1.o.es.each z (List.mem_of_mem_take hz)) fun hz => by rw [List.mem_singleton.1 hz]; exact h32) rfl (fun o u hu => by
        rw [add_plain, Nat.zero_add, cell_of_cells (heap_alloc_new wr.drew _), hYS]
        simpa [enCells] using hu) (by have := HH.out.2.2; simp; omega) 35
      have hN : (es.take j ++ [y]).length = j + 1 := by rw [List.length_append, List.length_take]; have := HH.out.2.1; simp; omega
      rw [hN] at hap hown9
      rw [← entake_succ hy] at hown9
      have H9 : Hid (Below wr.heap.size wr (wr.drew.alloc (.cells YS 62)) ∧ True ∧ w9.heap[w.heap.size + 1 + 1]? = some (.cells #[.int .u8 (k : Int), .string (st b), .int .u64 (z : Int), .slice IA i ic, .slice A9 j c9, .string (st lb)] 37 (0, 0)) ∧ (∀ k, k ≤ w.heap.size → w9.heap[k]? = wr.heap[k]?) ∧ w9.cell? ⟨w.heap.size + 1 + 1, 4, none⟩ = some (.slice A9 j c9) ∧
          MoR w (w9.setCell ⟨w.heap.size + 1 + 1, 4, none⟩ (.slice A9' (j + 1) c9')) w.heap.size (w.heap.size + 1 + 1) #[.int .u8 (k : Int), .slice A n c, .int .u64 (z : Int), .slice IA i ic, .slice (some ⟨g, off, none⟩) m mc, .string (st lb)] (fun v => #[.int .u8 (k : Int), .string (st b), .int .u64 (z : Int), .slice IA i ic, v, .string (st lb)]) es (j + 1) A9' c9') := Lib.hid (by
        have hsz := lt_of_cells HM.out.2.2.2.1
        have hlow : ∀ k, k < w.heap.size + 1 + 1 + 1 → w9.heap[k]? = wr.heap[k]? := fun k hk => (hb9.block k hk).trans (hb5.block k (by omega))
        have h3 := (hlow (w.heap.size + 1 + 1) (by omega)).trans HM.out.2.2.2.1
        have hs3 := set_of_cells h3 4 (.slice A9' (j + 1) c9')
        have hb59 : Below w.heap.size w w9 := (HM.out.1.trans (hb5.mono HM.out.1.size)).trans (hb9.mono (by omega))
        refine ⟨hb5, trivial, h3, fun k hk => hlow k (by omega), cell_of_cells h3 4, ⟨hb59.setCell (show w.heap.size ≤ w.heap.size + 1 + 1 by omega) _, ?_, ?_, hs3, ownsRow_setCell_below hown9 (show w.heap.size + 1 + 1 < w.heap.size + 1 + 1 + 1 by omega) _⟩⟩
        · rw [Below.heap_setCell _ _ _ _ (show w.heap.size ≠ w.heap.size + 1 + 1 by omega)]
          exact (hlow w.heap.size (by omega)).trans HM.out.2.1
        · obtain ⟨cs, e1, e2⟩ := HM.out.2.2.1
          refine ⟨cs, ?_, e2⟩
          rw [Below.heap_setCell _ _ _ _ (show w.heap.size + 1 ≠ w.heap.size + 1 + 1 by omega)]
          exact (hlow (w.heap.size + 1) (by omega)).trans e1)
      clear hown9 hb9 hgr9 hN hb5 hm hcs hglt hy h32 hYS hIS hj hlt
      go_wp2_with fail
      refine wp_region_tree (fun W => ∀ k, k ≤ w.heap.size → W.heap[k]? = wr.heap[k]?) (.two [0, 2, 3, 4, 5, 6, 7, 8, 9, 10, 11, 12, 13, 14, 15, 16, 17, 18, 19, 20] 1 (.one [] 21 (.one [] 22 (.one [23] 24 (.last [])))) 21 (.one [] 1 (.one [] 22 (.one [23] 24 (.last []))))) (by kernel_rfl) (by kernel_rfl) (fun _ _ d _ _ h => by cases d <;> exact h) (fun k hk => rfl) ?_
      refine tree_two ?_
      refine seg_read ?v1 (by rfl) (by rfl) ?h1 ?_
      case h1 => intro W hW; go_simp; with_reducible rfl
      try simp only [Act.put, List.setIfInBounds_toArray, List.set_cons_zero, List.set_cons_succ]
      refine seg_read ?v2 (by rfl) (by rfl) ?h2 ?_
      case h2 => intro W hW; go_simp; with_reducible rfl
      try simp only [Act.put, List.setIfInBounds_toArray, List.set_cons_zero, List.set_cons_succ]
      refine seg_read ?v3 (by rfl) (by rfl) ?h3 ?_
      case h3 => intro W hW; have hc4 := (HC4.out W hW).1; go_simp; with_reducible rfl
      try simp only [Act.put, List.setIfInBounds_toArray, List.set_cons_zero, List.set_cons_succ]
      refine seg_read ?v4 (by rfl) (by rfl) ?h4 ?_
      case h4 => intro W hW; go_simp; with_reducible rfl
      try simp only [Act.put, List.setIfInBounds_toArray, List.set_cons_zero, List.set_cons_succ]
      refine seg_read ?v5 (by rfl) (by rfl) ?h5 ?_
      case h5 => intro W hW; go_simp; with_reducible rfl
      try simp only [Act.put, List.setIfInBounds_toArray, List.set_cons_zero, List.set_cons_succ]
      refine seg_read ?v6 (by rfl) (by rfl) ?h6 ?_
      case h6 => intro W hW; go_simp; with_reducible rfl
      try simp only [Act.put, List.setIfInBounds_toArray, List.set_cons_zero, List.set_cons_succ]
      refine seg_read ?v7 (by rfl) (by rfl) ?h7 ?_
      case h7 => intro W hW; have hc0 := (HC4.out W hW).2.1; go_simp; with_reducible rfl
      try simp only [Act.put, List.setIfInBounds_toArray, List.set_cons_zero, List.set_cons_succ]
      refine seg_read ?v8 (by rfl) (by rfl) ?h8 ?_
      case h8 => intro W hW; go_simp; with_reducible rfl
      try simp only [Act.put, List.setIfInBounds_toArray, List.set_cons_zero, List.set_cons_succ]
      refine seg_read ?v9 (by rfl) (by rfl) ?h9 ?_
      case h9 => intro W hW; have hc4 := (HC4.out W hW).1; go_simp; with_reducible rfl
      try simp only [Act.put, List.setIfInBounds_toArray, List.set_cons_zero, List.set_cons_succ]
      refine seg_read ?v10 (by rfl) (by rfl) ?h10 ?_
      case h10 => intro W hW; go_simp; with_reducible rfl
      try simp only [Act.put, List.setIfInBounds_toArray, List.set_cons_zero, List.set_cons_succ]
      refine seg_read ?v11 (by rfl) (by rfl) ?h11 ?_
      case h11 => intro W hW; go_simp; with_reducible rfl
      try simp only [Act.put, List.setIfInBounds_toArray, List.set_cons_zero, List.set_cons_succ]
      refine seg_read ?v12 (by rfl) (by rfl) ?h12 ?_
      case h12 => intro W hW; go_simp; with_reducible rfl
      try simp only [Act.put, List.setIfInBounds_toArray, List.set_cons_zero, List.set_cons_succ]
      refine seg_read ?v13 (by rfl) (by rfl) ?h13 ?_
      case h13 => intro W hW; have hc1 := (HC4.out W hW).2.2.1; go_simp; with_reducible rfl
      try simp only [Act.put, List.setIfInBounds_toArray, List.set_cons_zero, List.set_cons_succ]
      refine seg_read ?v14 (by rfl) (by rfl) ?h14 ?_
      case h14 => intro W hW; go_simp; with_reducible rfl
      try simp only [Act.put, List.setIfInBounds_toArray, List.set_cons_zero, List.set_cons_succ]
      refine seg_read ?v15 (by rfl) (by rfl) ?h15 ?_
      case h15 => intro W hW; have hc4 := (HC4.out W hW).1; go_simp; with_reducible rfl
      try simp only [Act.put, List.setIfInBounds_toArray, List.set_cons_zero, List.set_cons_succ]
      refine seg_read ?v16 (by rfl) (by rfl) ?h16 ?_
      case h16 => intro W hW; go_simp; with_reducible rfl
      try simp only [Act.put, List.setIfInBounds_toArray, List.set_cons_zero, List.set_cons_succ]
      refine seg_read ?v17 (by rfl) (by rfl) ?h17 ?_
      case h17 => intro W hW; go_simp; with_reducible rfl
      try simp only [Act.put, List.setIfInBounds_toArray, List.set_cons_zero, List.set_cons_succ]
      refine seg_read ?v18 (by rfl) (by rfl) ?h18 ?_
      case h18 => intro W hW; go_simp; with_reducible rfl
      try simp only [Act.put, List.setIfInBounds_toArray, List.set_cons_zero, List.set_cons_succ]
      refine seg_read (.agg IS) (by rfl) (by rfl) ?h19 ?_
      case h19 => intro W hW; exact exec_load_mo 49 (.tmp 42) rfl ⟨g, off + j * 34 + 2, none⟩ rfl (run_loadVar_at W _ 49 IS _ (HC4.out W hW).2.2.2 Tryd.underlying49 rfl (by rw [HY.out.2.2.1]; exact id_info))
      try simp only [Act.put, List.setIfInBounds_toArray, List.set_cons_zero, List.set_cons_succ]
      refine seg_read (.agg YS) (by rfl) (by rfl) ?h20 ?_
      case h20 => intro W hW; exact exec_build3 62 (.tmp 31) (.tmp 37) (.tmp 43) rfl rfl rfl rfl (run_build_nn HY.out.2.1 HY.out.2.2.2.1 HY.out.2.2.2.2.1 W)
      try simp only [Act.put, List.setIfInBounds_toArray, List.set_cons_zero, List.set_cons_succ]
      refine seg_nil ⟨?_, ?_⟩
      · refine eff_step (by rfl) (fun K hK => ?_)
        have hcl := HM4.out
        go_simp
        refine hK _ _ ⟨fun W => ∀ k, k ≤ w.heap.size → W.heap[k]? = wr.heap[k]?, fun k hk => rfl, fun _ h => h, ?_⟩
        clear hK K hcl
        refine tree_one ?_
        refine seg_nil ?_
        refine eff_lit1 (by rfl) (by rfl) 35 (.tmp 44) (by rfl) (by rfl) hbs ?_
        try simp only [Act.put, List.setIfInBounds_toArray, List.set_cons_zero, List.set_cons_succ]
        refine ⟨fun W => ∀ k, k ≤ w.heap.size → W.heap[k]? = wr.heap[k]?, fun k hk => H9.out.1.block k (by have := HM.out.1.size; have := lt_of_cells HM.out.2.2.2.1; omega), fun _ h => h, ?_⟩
        refine tree_one ?_
        refine seg_nil ?_
        refine eff_app (by rfl) (by rfl) (.tmp 25) (.tmp 45) 35 (by rfl) (by rfl) (by rfl) hap ?_
        try simp only [Act.put, List.setIfInBounds_toArray, List.set_cons_zero, List.set_cons_succ]
        refine ⟨fun W => ∀ k, k ≤ w.heap.size → W.heap[k]? = wr.heap[k]?, fun k hk => H9.out.2.2.2.1 k hk, fun _ h => h, ?_⟩
        refine tree_one ?_
        refine seg_read ?v21 (by rfl) (by rfl) ?h21 ?_
        case h21 => intro W hW; go_simp; with_reducible rfl
        try simp only [Act.put, List.setIfInBounds_toArray, List.set_cons_zero, List.set_cons_succ]
        refine seg_nil ?_
        refine eff_step (by rfl) (fun K hK => ?_)
        have hfr := free_of_cells H9.out.2.2.1 4
        have hcl := H9.out.2.2.2.2.1
        go_simp
        refine hK _ _ ⟨fun W => ∀ k, k ≤ w.heap.size → W.heap[k]? = wr.heap[k]?, fun k hk => by rw [Below.heap_setCell _ _ _ _ (by show k ≠ w.heap.size + 1 + 1; omega)]; exact H9.out.2.2.2.1 k hk, fun _ h => h, ?_⟩
        clear hK K hcl hfr
        refine tree_last ?_
        refine seg_nil ?_
        try simp only [List.setIfInBounds_toArray, List.set_cons_zero, List.set_cons_succ]
        clear hap hbs
        generalize w9.setCell ⟨w.heap.size + 1 + 1, 4, none⟩ (.slice A9' (j + 1) c9') = wz at *
        go_wp2_with fail
        go_roundw
        case rel => exact ⟨j + 1, A9', c9', by have := HY.out.2.2.2.2.2; omega, by simp, H9.out.2.2.2.2.2⟩
        case measure => have := HY.out.2.2.2.2.2; simp only [intOf]; omega
      · refine eff_lit1 (by rfl) (by rfl) 35 (.tmp 44) (by rfl) (by rfl) hbs ?_
        try simp only [Act.put, List.setIfInBounds_toArray, List.set_cons_zero, List.set_cons_succ]
        refine ⟨fun W => ∀ k, k ≤ w.heap.size → W.heap[k]? = wr.heap[k]?, fun k hk => H9.out.1.block k (by have := HM.out.1.size; have := lt_of_cells HM.out.2.2.2.1; omega), fun _ h => h, ?_⟩
        refine tree_one ?_
        refine seg_nil ?_
        refine eff_step (by rfl) (fun K hK => ?_)
        have hcl := (show ((wr.alloc (.cells YS 62)).drew).cell? ⟨w.heap.size + 1 + 1, 4, none⟩ = some (.slice A9 j c9) from HM5.out)
        go_simp
        refine hK _ _ ⟨fun W => ∀ k, k ≤ w.heap.size → W.heap[k]? = wr.heap[k]?, fun k hk => H9.out.1.block k (by have := HM.out.1.size; have := lt_of_cells HM.out.2.2.2.1; omega), fun _ h => h, ?_⟩
        clear hK K hcl
        refine tree_one ?_
        refine seg_nil ?_
        refine eff_app (by rfl) (by rfl) (.tmp 25) (.tmp 45) 35 (by rfl) (by rfl) (by rfl) hap ?_
        try simp only [Act.put, List.setIfInBounds_toArray, List.set_cons_zero, List.set_cons_succ]
        refine ⟨fun W => ∀ k, k ≤ w.heap.size → W.heap[k]? = wr.heap[k]?, fun k hk => H9.out.2.2.2.1 k hk, fun _ h => h, ?_⟩
        refine tree_one ?_
        refine seg_read ?v22 (by rfl) (by rfl) ?h22 ?_
        case h22 => intro W hW; go_simp; with_reducible rfl
        try simp only [Act.put, List.setIfInBounds_toArray, List.set_cons_zero, List.set_cons_succ]
        refine seg_nil ?_
        refine eff_step (by rfl) (fun K hK => ?_)
        have hfr := free_of_cells H9.out.2.2.1 4
        have hcl := H9.out.2.2.2.2.1
        go_simp
        refine hK _ _ ⟨fun W => ∀ k, k ≤ w.heap.size → W.heap[k]? = wr.heap[k]?, fun k hk => by rw [Below.heap_setCell _ _ _ _ (by show k ≠ w.heap.size + 1 + 1; omega)]; exact H9.out.2.2.2.1 k hk, fun _ h => h, ?_⟩
        clear hK K hcl hfr
        refine tree_last ?_
        refine seg_nil ?_
        try simp only [List.setIfInBounds_toArray, List.set_cons_zero, List.set_cons_succ]
        clear hap hbs
        generalize w9.setCell ⟨w.heap.size + 1 + 1, 4, none⟩ (.slice A9' (j + 1) c9') = wz at *
        go_wp2_with fail
        go_roundw
        case rel => exact ⟨j + 1, A9', c9', by have := HY.out.2.2.2.2.2; omega, by simp, H9.out.2.2.2.2.2⟩
        case measure => have := HY.out.2.2.2.2.2; simp only [intOf]; omega
    · have hlt' : ¬ (j : Int) < (m : Int) := by omega
      obtain rfl : j = m := by omega
      obtain ⟨CV, hCV⟩ : ∃ CV, CV = omV ⟨none, 0, 0, IA, i, ic, A9, j, c9⟩ ⟨k, b, z, ids, es, lb⟩ := ⟨_, rfl⟩
      have HCV : Hid (CV = omV ⟨none, 0, 0, IA, i, ic, A9, j, c9⟩ ⟨k, b, z, ids, es, lb⟩ ∧ CV.size = 6 ∧ CV.all (·.oneCell') = true) := Lib.hid ⟨hCV, by rw [hCV]; rfl, by rw [hCV]; exact omV_one _ _⟩
      have hfull : es.take j = es := List.take_of_length_le (by have := HH.out.2.1; omega)
      obtain ⟨cs, hres, hrs⟩ := hm.res
      have hloc : wr.heap[w.heap.size + 1 + 1]? = some (.cells CV 37 (0, 0)) := by rw [hCV]; exact hm.loc
      have hown := hm.own
      rw [hfull, ← HH.out.2.1] at hown
      have HM : Hid (Below w.heap.size w wr ∧ wr.heap[w.heap.size + 1]? = some (.cells cs 37 (0, 0)) ∧ cs.size = 6 ∧ wr.heap[w.heap.size + 1 + 1]? = some (.cells CV 37 (0, 0)) ∧ wr.ownsRow (w.heap.size + 1 + 1 + 1) 62 34 (.slice A9 es.length c9) es.length (enCells es)) := Lib.hid ⟨hm.bel, hres, hrs, hloc, by
        have e : es.length = j := HH.out.2.1
        rw [e] at hown ⊢
        exact hown⟩
      clear hm hfull hres hrs hloc hown hCV hj hlt
      go_wp2_with (first
        | (refine wpList_load_row (by rfl) 37 (.tmp 3) (by rfl) (w.heap.size + 1 + 1) (by rfl) 37 CV (0, 0) _ HM.out.2.2.2.1 Tryd.underlying37 (by rfl) (by rw [HCV.out.2.1]; exact om_info) ?_)
        | (refine wpList_store_row (by rfl) 37 (.tmp 2) (.tmp 48) (by rfl) (w.heap.size + 1) CV (by rfl) (by rfl) 37 _ HM.out.2.1 (by rw [HCV.out.2.1]; exact om_info) (by rw [HM.out.2.2.1, HCV.out.2.1]) HCV.out.2.2 ?_))
      have hrf : (wr.setRow (w.heap.size + 1) CV).heap[w.heap.size + 1]? = some (.cells CV 37 (0, 0)) := setRow_at HM.out.2.1
      have hbz : Below w.heap.size w (wr.setRow (w.heap.size + 1) CV) := below_setRow HM.out.1 (by omega) _
      refine bodyPost_ret (results_ca rfl _ _ ⟨w.heap.size + 1, 0, none⟩ (.agg CV) rfl (run_loadVar_row _ _ _ _ _ _ _ hrf Tryd.underlying37 rfl (by rw [HCV.out.2.1]; exact om_info))) rfl ?_
      have e : es.length = j := HH.out.2.1
      have hown := own_grown HM.out.2.2.2.2 (show wr.grownBy (wr.setRow (w.heap.size + 1) CV) (some (w.heap.size + 1)) from ⟨rfl, rfl, rfl, by simp [World.setRow], fun k _ hk => setRow_ne _ _ _ _ (fun e => hk (by rw [e]))⟩) (by omega)
      obtain ⟨A', c', e1, hE⟩ := own_ens HH.out.1.o.es.each hown
      injection e1 with e1 _ e2
      subst e1 e2
      rw [e] at hE
      refine ⟨⟨none, 0, 0, IA, i, ic, A9, j, c9⟩, by rw [HCV.out.1], ⟨HH.out.1.o.wf, HH.out.1.o.lb, HH.out.1.o.nm, HH.out.1.o.bl, (HH.out.1.o.ids.below hbz).mono fun k _ hk => .inl hk, hE.mono fun k _ hk => .inr (by have : w.heap.size + 1 + 1 + 1 ≤ k := hk; omega)⟩, e.symm, hbz⟩
end Go.Proofs.YtmakpjcgiiljfaaDoor

/-! Objects: the reference's Same, of two that are the same. -/
namespace Go.Proofs.YtmakpjcgiiljfaaDoor
open Go.RowKit Codec

theorem runs_load_val {P : Program} {R : Value → World → Prop} {E : Operand → Value} {o : Oper} {W : World} (ty : TypeId) (x : Operand) (ho : o.op = .load ty x) (ad : Addr) (hx : E x = .pointer (some ad)) {v : Value} (hv : (loadVar ty ad).run P W = .ok v W) (h : R v W) : Grow.runsTo P R ((execOp E o).run P W) := by
  unfold execOp
  simp only [ho, hx, Instr.loadAt, Instr.sureAddr, Sem.run_bind, Sem.run_pure, Result.andThen_ok, hv]
  exact h
theorem runs_neq_nn {R : Value → World → Prop} {E : Operand → Value} {o : Oper} {W : World} (x y : Operand) (ho : o.op = .binOp .neq 62 x y 62) {XS : Array Value} (hx : E x = .agg XS) (hy : E y = .agg XS) (hq : (Op.equalIn 10000 62 (.agg XS) (.agg XS)).run Tryd.prog W = .ok true W) (h : R (.bool false) W) : Grow.runsTo Tryd.prog R ((execOp E o).run Tryd.prog W) := by
  have hg := run_eqGuard_agg (P := Tryd.prog) W .neq 62 x y XS XS (by kernel_rfl)
  unfold execOp
  simp only [ho, hx, hy, Sem.run_bind, hg, Result.andThen_ok, run_neq_struct, hq, Sem.run_pure]
  exact h
set_option maxHeartbeats 16000000 in
set_option maxRecDepth 100000 in
theorem osame_any {w : World} {S T : Nat → Prop} {p q : At} {x : Ob} (h : Ois w S p x) (h2 : Ois w T q x) (hn : x.es.length ≤ 1000000) (hi : x.ids.length ≤ 1000000) :
    Calls Tryd.prog 15 #[.agg (omV p x), .agg (omV q x)] w fun e w' => e = .returned (.bool true) ∧ Below w.heap.size w w' := by
  obtain ⟨A, n, c, IA, i, ic, EA, m, mc⟩ := p
  obtain ⟨A2, n2, c2, IB, i2, ic2, EB, m2, mc2⟩ := q
  obtain ⟨k, b, z, ids, es, lb⟩ := x
  have e1 := h.ids.len
  have e2 := h2.ids.len
  have e3 := h.es.len
  have e4 := h2.es.len
  simp only at e1 e2 e3 e4 hn hi ⊢
  obtain rfl : i = i2 := by omega
  obtain rfl : m = m2 := by omega
  have hbl : Below w.heap.size w (w.alloc (.cells #[.int .u8 (k : Int), .string (st b), .int .u64 (z : Int), .slice IA i ic, .slice EA m mc, .string (st lb)] 37)) := (Below.refl _ _).alloc (Nat.le_refl _) _
  have HH := Lib.hid (And.intro h (And.intro h2 (And.intro e1 (And.intro e3 (And.intro hn hi)))))
  clear h h2 e1 e2 e3 e4 hn hi hbl
  unfold omV
  simp only
  go_enter Tryd.func15, Tryd.ntmps15
  go_wp2_with fail
  generalize hw0 : w.alloc (.cells #[.int .u8 (k : Int), .string (st b), .int .u64 (z : Int), .slice IA i ic, .slice EA m mc, .string (st lb)] 37) = w0 at *
  have hs0 : w0.heap.size = w.heap.size + 1 := by rw [← hw0]; simp
  have h0a : w0.heap[w.heap.size]? = some (.cells #[.int .u8 (k : Int), .string (st b), .int .u64 (z : Int), .slice IA i ic, .slice EA m mc, .string (st lb)] 37 (0, 0)) := by rw [← hw0]; exact heap_alloc_new w _
  have hb0 : Below w.heap.size w w0 := by rw [← hw0]; exact (Below.refl _ _).alloc (Nat.le_refl _) _
  generalize hw1 : w0.alloc (.cells #[.int .u8 (k : Int), .string (st b), .int .u64 (z : Int), .slice IB i ic2, .slice EB m mc2, .string (st lb)] 37) = w1 at *
  have h1a : w1.heap[w.heap.size + 1]? = some (.cells #[.int .u8 (k : Int), .string (st b), .int .u64 (z : Int), .slice IB i ic2, .slice EB m mc2, .string (st lb)] 37 (0, 0)) := by rw [← hw1, ← hs0]; exact heap_alloc_new w0 _
  have h1b : w1.heap[w.heap.size]? = w0.heap[w.heap.size]? := by rw [← hw1]; exact Below.heap_alloc _ _ _ (by omega)
  have hb1 : Below w.heap.size w w1 := by rw [← hw1]; exact hb0.alloc (by omega) _
  have HA := Lib.hid (And.intro hb1 (And.intro (h1b.trans h0a) h1a))
  clear hw0 hw1 hs0 h0a hb0 h1a h1b hb1
  have HCE : Hid (∀ W, Below w1.heap.size w1 W → W.cell? ⟨w.heap.size, 3, none⟩ = some (.slice IA i ic) ∧ W.cell? ⟨w.heap.size + 1, 3, none⟩ = some (.slice IB i ic2) ∧ W.cell? ⟨w.heap.size, 4, none⟩ = some (.slice EA m mc) ∧ W.cell? ⟨w.heap.size + 1, 4, none⟩ = some (.slice EB m mc2) ∧ w.heap.size < W.heap.size ∧ w.heap.size + 1 < W.heap.size) := Lib.hid fun W hW => by
    have h1 := lt_of_cells HA.out.2.1
    have h2 := lt_of_cells HA.out.2.2
    have h3 := hW.size
    rw [hW.cell (p := ⟨w.heap.size, 3, none⟩) h1, hW.cell (p := ⟨w.heap.size + 1, 3, none⟩) h2, hW.cell (p := ⟨w.heap.size, 4, none⟩) h1, hW.cell (p := ⟨w.heap.size + 1, 4, none⟩) h2, cell_of_cells HA.out.2.1, cell_of_cells HA.out.2.2, cell_of_cells HA.out.2.1, cell_of_cells HA.out.2.2]
    exact ⟨rfl, rfl, rfl, rfl, by omega, by omega⟩
  go_loopw [5] (fun ii wr => ∃ j : Nat, j ≤ i ∧ ii = .int .i64 (j : Int) ∧ Below w1.heap.size w1 wr) (fun ii _ => i - (intOf ii).toNat)
  case atStart => exact ⟨0, Nat.zero_le _, rfl, Below.refl _ _⟩
  case round =>
    obtain ⟨j, hj, rfl, hb⟩ := hrel
    obtain ⟨hc3, hd3, _, _, hlt0, hlt1⟩ := HCE.out _ hb
    by_cases hlt : j < i
    · have hlt' : (j : Int) < (i : Int) := by omega
      have hadd := IntWalk.i64_in ((j : Int) + 1) (by have h1 := HH.out.2.2.1; have h2 := HH.out.2.2.2.2.2; omega)
      obtain ⟨g, o, e1, hg, h32, hc⟩ := ((HH.out.1.ids.below HA.out.1).below hb).at_ hlt
      obtain ⟨g2, o2, e2, hg2, _, hc2⟩ := ((HH.out.2.1.ids.below HA.out.1).below hb).at_ hlt
      simp only at e1 e2 hc hc2 h32
      subst e1 e2
      obtain ⟨y, hy⟩ : ∃ y, y = ids[j]?.getD [] := ⟨_, rfl⟩
      obtain ⟨IS, hIS⟩ : ∃ IS, IS = row8 y := ⟨_, rfl⟩
      rw [← hy] at h32 hc hc2
      rw [← hIS] at hc hc2
      have HY : Hid (IS.size = 32 ∧ j < i) := Lib.hid ⟨by rw [hIS, row8_size, h32], hlt⟩
      have HEQ : Hid (∀ W, (Op.equalIn 10000 49 (.agg IS) (.agg IS)).run Tryd.prog W = .ok true W) := Lib.hid fun W => by rw [hIS]; have := id_eq2 y y h32 h32 9998 W; rwa [decide_eq_true rfl] at this
      have HC := Lib.hid (And.intro hg hc)
      have HC2 := Lib.hid (And.intro hg2 hc2)
      have HP := Lib.hid (And.intro hlt0 (And.intro hlt1 (And.intro hc3 hd3)))
      have HBM := Lib.hid hb
      clear hg hg2 hc hc2 hb h32 hy hIS hlt hj hd3 hlt0 hlt1
      go_wp2_with fail
      refine wp_region_grow (fun W W' => Below W.heap.size W W') (Grow.nth [fun v _ => v = .pointer (some ⟨w.heap.size, 3, none⟩), fun v _ => v = .slice (some ⟨g, o, none⟩) i ic, fun v _ => v = .int .i64 (j : Int), fun v _ => v = .pointer (some ⟨g, o + j * 32, none⟩), fun v _ => v = .agg IS, fun v _ => v = .pointer (some ⟨w.heap.size + 1, 3, none⟩), fun v _ => v = .slice (some ⟨g2, o2, none⟩) i ic2, fun v _ => v = .int .i64 (j : Int), fun v _ => v = .pointer (some ⟨g2, o2 + j * 32, none⟩), fun v _ => v = .agg IS, fun v _ => v = .bool false]) 87 (by kernel_rfl) (by kernel_rfl) (by rfl) (fun W => Below.refl _ W) (fun _ _ _ h1 h2 => h1.trans (h2.mono h1.size)) (Grow.mono_nth ?gmono) ?gsteps ?gfin
      case gmono => exact ⟨fun _ _ _ h _ => h, fun _ _ _ h _ => h, fun _ _ _ h _ => h, fun _ _ _ h _ => h, fun _ _ _ h _ => h, fun _ _ _ h _ => h, fun _ _ _ h _ => h, fun _ _ _ h _ => h, fun _ _ _ h _ => h, fun _ _ _ h _ => h, fun _ _ _ h _ => h, trivial⟩
      case gsteps =>
        show Grow.allBelow _ 11
        refine And.intro ?_ ?s10
        refine And.intro ?_ ?s9
        refine And.intro ?_ ?s8
        refine And.intro ?_ ?s7
        refine And.intro ?_ ?s6
        refine And.intro ?_ ?s5
        refine And.intro ?_ ?s4
        refine And.intro ?_ ?s3
        refine And.intro ?_ ?s2
        refine And.intro ?_ ?s1
        refine And.intro ?_ ?s0
        exact trivial
        case s0 =>
          refine Grow.step_in (by rfl) (by rfl) ?_
          intro E W ec eg ef hG hd hu R HR
          have e2 : E (.tmp 2) = .pointer (some ⟨w.heap.size, 0, none⟩) := hu 2 (by kernel_rfl)
          clear hd hu
          go_simp
          exact HR.out _ _ (Below.refl _ _) rfl
        case s1 =>
          refine Grow.step_in (by rfl) (by rfl) ?_
          intro E W ec eg ef hG hd hu R HR
          have e58 : E (.tmp 58) = .pointer (some ⟨w.heap.size, 3, none⟩) := hd 0 58 (by kernel_rfl)
          clear hd hu
          have hcl := (hG.cell (p := ⟨w.heap.size, 3, none⟩) HP.out.1).trans HP.out.2.2.1
          go_simp
          exact HR.out _ _ (Below.refl _ _) rfl
        case s2 =>
          refine Grow.step_in (by rfl) (by rfl) ?_
          intro E W ec eg ef hG hd hu R HR
          have e5 : E (.tmp 5) = .int .i64 (j : Int) := hu 5 (by kernel_rfl)
          clear hd hu
          go_simp
          exact HR.out _ _ (Below.refl _ _) rfl
        case s3 =>
          refine Grow.step_in (by rfl) (by rfl) ?_
          intro E W ec eg ef hG hd hu R HR
          have e59 : E (.tmp 59) = .slice (some ⟨g, o, none⟩) i ic := hd 1 59 (by kernel_rfl)
          have e60 : E (.tmp 60) = .int .i64 (j : Int) := hd 2 60 (by kernel_rfl)
          clear hd hu
          have hjl := HY.out.2
          go_simp
          first | exact HR.out _ _ (Below.refl _ _) rfl | (rw [if_pos ⟨by omega, by omega⟩]; exact HR.out _ _ (Below.refl _ _) rfl)
        case s4 =>
          refine Grow.step_in (by rfl) (by rfl) ?_
          intro E W ec eg ef hG hd hu R HR
          have e61 : E (.tmp 61) = .pointer (some ⟨g, o + j * 32, none⟩) := hd 3 61 (by kernel_rfl)
          clear hd hu
          exact runs_load_val 49 (.tmp 61) rfl ⟨g, o + j * 32, none⟩ e61 (run_loadVar_at W ⟨g, o + j * 32, none⟩ 49 IS _ (fun a v hv => by have hh := HC.out.2 a v hv; rw [add_plain] at hh ⊢; exact (hG.cell (p := ⟨_, _, none⟩) HC.out.1).trans hh) Tryd.underlying49 rfl (by rw [HY.out.1]; exact id_info)) (HR.out _ _ (Below.refl _ _) rfl)
        case s5 =>
          refine Grow.step_in (by rfl) (by rfl) ?_
          intro E W ec eg ef hG hd hu R HR
          have e3 : E (.tmp 3) = .pointer (some ⟨w.heap.size + 1, 0, none⟩) := hu 3 (by kernel_rfl)
          clear hd hu
          go_simp
          exact HR.out _ _ (Below.refl _ _) rfl
        case s6 =>
          refine Grow.step_in (by rfl) (by rfl) ?_
          intro E W ec eg ef hG hd hu R HR
          have e63 : E (.tmp 63) = .pointer (some ⟨w.heap.size + 1, 3, none⟩) := hd 5 63 (by kernel_rfl)
          clear hd hu
          have hcl := (hG.cell (p := ⟨w.heap.size + 1, 3, none⟩) HP.out.2.1).trans HP.out.2.2.2
          go_simp
          exact HR.out _ _ (Below.refl _ _) rfl
        case s7 =>
          refine Grow.step_in (by rfl) (by rfl) ?_
          intro E W ec eg ef hG hd hu R HR
          have e5 : E (.tmp 5) = .int .i64 (j : Int) := hu 5 (by kernel_rfl)
          clear hd hu
          go_simp
          exact HR.out _ _ (Below.refl _ _) rfl
        case s8 =>
          refine Grow.step_in (by rfl) (by rfl) ?_
          intro E W ec eg ef hG hd hu R HR
          have e64 : E (.tmp 64) = .slice (some ⟨g2, o2, none⟩) i ic2 := hd 6 64 (by kernel_rfl)
          have e65 : E (.tmp 65) = .int .i64 (j : Int) := hd 7 65 (by kernel_rfl)
          clear hd hu
          have hjl := HY.out.2
          go_simp
          first | exact HR.out _ _ (Below.refl _ _) rfl | (rw [if_pos ⟨by omega, by omega⟩]; exact HR.out _ _ (Below.refl _ _) rfl)
        case s9 =>
          refine Grow.step_in (by rfl) (by rfl) ?_
          intro E W ec eg ef hG hd hu R HR
          have e66 : E (.tmp 66) = .pointer (some ⟨g2, o2 + j * 32, none⟩) := hd 8 66 (by kernel_rfl)
          clear hd hu
          exact runs_load_val 49 (.tmp 66) rfl ⟨g2, o2 + j * 32, none⟩ e66 (run_loadVar_at W ⟨g2, o2 + j * 32, none⟩ 49 IS _ (fun a v hv => by have hh := HC2.out.2 a v hv; rw [add_plain] at hh ⊢; exact (hG.cell (p := ⟨_, _, none⟩) HC2.out.1).trans hh) Tryd.underlying49 rfl (by rw [HY.out.1]; exact id_info)) (HR.out _ _ (Below.refl _ _) rfl)
        case s10 =>
          refine Grow.step_in (by rfl) (by rfl) ?_
          intro E W ec eg ef hG hd hu R HR
          have e62 : E (.tmp 62) = .agg IS := hd 4 62 (by kernel_rfl)
          have e67 : E (.tmp 67) = .agg IS := hd 9 67 (by kernel_rfl)
          clear hd hu
          have hq := HEQ.out W
          go_simp
          exact HR.out _ _ (Below.refl _ _) rfl
      case gfin =>
        intro W hG
        refine Grow.fin_dst (by rfl) ?_
        rintro _ rfl
        refine Grow.fin_dst (by rfl) ?_
        rintro _ rfl
        refine Grow.fin_dst (by rfl) ?_
        rintro _ rfl
        refine Grow.fin_dst (by rfl) ?_
        rintro _ rfl
        refine Grow.fin_dst (by rfl) ?_
        rintro _ rfl
        refine Grow.fin_dst (by rfl) ?_
        rintro _ rfl
        refine Grow.fin_dst (by rfl) ?_
        rintro _ rfl
        refine Grow.fin_dst (by rfl) ?_
        rintro _ rfl
        refine Grow.fin_dst (by rfl) ?_
        rintro _ rfl
        refine Grow.fin_dst (by rfl) ?_
        rintro _ rfl
        refine Grow.fin_dst (by rfl) ?_
        rintro _ rfl
        simp only [Act.put, List.setIfInBounds_toArray, List.set_cons_zero, List.set_cons_succ]
        refine Grow.fin_end ?_
        have HB3 : Hid (Below w1.heap.size w1 W) := Lib.hid (HBM.out.trans ((Grow.below_of_drew hG).mono HBM.out.size))
        clear hG
        go_wp2_with fail
        go_roundw
        case rel => exact ⟨j + 1, by have := HY.out.2; omega, by simp, HB3.out⟩
        case measure => have := HY.out.2; simp only [intOf]; omega
    · have hlt' : ¬ (j : Int) < (i : Int) := by omega
      have HBI := Lib.hid hb
      clear hlt hj hd3 hlt0 hlt1 hb
      go_wp2_with fail
      clear hc3
      go_loopw [6] (fun ii wr => ∃ j : Nat, j ≤ m ∧ ii = .int .i64 (j : Int) ∧ Below w1.heap.size w1 wr) (fun ii _ => m - (intOf ii).toNat)
      case atStart => exact ⟨0, Nat.zero_le _, rfl, HBI.out⟩
      case round =>
        obtain ⟨j, hj, rfl, hb⟩ := hrel
        obtain ⟨_, _, hc3, hd3, hlt0, hlt1⟩ := HCE.out _ hb
        by_cases hlt : j < m
        · have hlt' : (j : Int) < (m : Int) := by omega
          have hadd := IntWalk.i64_in ((j : Int) + 1) (by have h1 := HH.out.2.2.2.1; have h2 := HH.out.2.2.2.2.1; omega)
          obtain ⟨g, o, y, e1, _, hg, hy, h32, hc⟩ := ((HH.out.1.es.below HA.out.1).below hb).at_ hlt
          obtain ⟨g2, o2, y2, e2, _, hg2, hy2, _, hc2⟩ := ((HH.out.2.1.es.below HA.out.1).below hb).at_ hlt
          simp only at e1 e2 hc hc2 hy hy2
          subst e1 e2
          obtain rfl : y = y2 := by rw [hy] at hy2; exact Option.some.inj hy2
          obtain ⟨IS, hIS⟩ : ∃ IS, IS = enV y := ⟨_, rfl⟩
          rw [← hIS] at hc hc2
          have HY : Hid (IS.size = 34 ∧ j < m) := Lib.hid ⟨by rw [hIS, enV_size h32], hlt⟩
          have HEQ : Hid (∀ W, (Op.equalIn 10000 62 (.agg IS) (.agg IS)).run Tryd.prog W = .ok true W) := Lib.hid fun W => by rw [hIS]; exact run_eq_en h32 W
          have hc' : ∀ (a : Nat) (v : Value), IS[a]? = some v → World.cell? _ ((⟨g, o + j * 34, none⟩ : Addr).add a) = some v := fun a v hv => by rw [add_plain]; exact hc a v hv
          have hc2' : ∀ (a : Nat) (v : Value), IS[a]? = some v → World.cell? _ ((⟨g2, o2 + j * 34, none⟩ : Addr).add a) = some v := fun a v hv => by rw [add_plain]; exact hc2 a v hv
          have HC := Lib.hid (And.intro hg hc')
          have HC2 := Lib.hid (And.intro hg2 hc2')
          have HP := Lib.hid (And.intro hlt0 (And.intro hlt1 (And.intro hc3 hd3)))
          have HBM := Lib.hid hb
          clear hg hg2 hc hc2 hc' hc2' hb h32 hy hy2 hIS hlt hj hd3 hlt0 hlt1
          go_wp2_with fail
          refine wp_region_grow (fun W W' => Below W.heap.size W W') (Grow.nth [fun v _ => v = .pointer (some ⟨w.heap.size, 4, none⟩), fun v _ => v = .slice (some ⟨g, o, none⟩) m mc, fun v _ => v = .int .i64 (j : Int), fun v _ => v = .pointer (some ⟨g, o + j * 34, none⟩), fun v _ => v = .agg IS, fun v _ => v = .pointer (some ⟨w.heap.size + 1, 4, none⟩), fun v _ => v = .slice (some ⟨g2, o2, none⟩) m mc2, fun v _ => v = .int .i64 (j : Int), fun v _ => v = .pointer (some ⟨g2, o2 + j * 34, none⟩), fun v _ => v = .agg IS, fun v _ => v = .bool false]) 87 (by kernel_rfl) (by kernel_rfl) (by rfl) (fun W => Below.refl _ W) (fun _ _ _ h1 h2 => h1.trans (h2.mono h1.size)) (Grow.mono_nth ?gmono) ?gsteps ?gfin
          case gmono => exact ⟨fun _ _ _ h _ => h, fun _ _ _ h _ => h, fun _ _ _ h _ => h, fun _ _ _ h _ => h, fun _ _ _ h _ => h, fun _ _ _ h _ => h, fun _ _ _ h _ => h, fun _ _ _ h _ => h, fun _ _ _ h _ => h, fun _ _ _ h _ => h, fun _ _ _ h _ => h, trivial⟩
          case gsteps =>
            show Grow.allBelow _ 11
            refine And.intro ?_ ?s10
            refine And.intro ?_ ?s9
            refine And.intro ?_ ?s8
            refine And.intro ?_ ?s7
            refine And.intro ?_ ?s6
            refine And.intro ?_ ?s5
            refine And.intro ?_ ?s4
            refine And.intro ?_ ?s3
            refine And.intro ?_ ?s2
            refine And.intro ?_ ?s1
            refine And.intro ?_ ?s0
            exact trivial
            case s0 =>
              refine Grow.step_in (by rfl) (by rfl) ?_
              intro E W ec eg ef hG hd hu R HR
              have e2 : E (.tmp 2) = .pointer (some ⟨w.heap.size, 0, none⟩) := hu 2 (by kernel_rfl)
              clear hd hu
              go_simp
              exact HR.out _ _ (Below.refl _ _) rfl
            case s1 =>
              refine Grow.step_in (by rfl) (by rfl) ?_
              intro E W ec eg ef hG hd hu R HR
              have e76 : E (.tmp 76) = .pointer (some ⟨w.heap.size, 4, none⟩) := hd 0 76 (by kernel_rfl)
              clear hd hu
              have hcl := (hG.cell (p := ⟨w.heap.size, 4, none⟩) HP.out.1).trans HP.out.2.2.1
              go_simp
              exact HR.out _ _ (Below.refl _ _) rfl
            case s2 =>
              refine Grow.step_in (by rfl) (by rfl) ?_
              intro E W ec eg ef hG hd hu R HR
              have e6 : E (.tmp 6) = .int .i64 (j : Int) := hu 6 (by kernel_rfl)
              clear hd hu
              go_simp
              exact HR.out _ _ (Below.refl _ _) rfl
            case s3 =>
              refine Grow.step_in (by rfl) (by rfl) ?_
              intro E W ec eg ef hG hd hu R HR
              have e77 : E (.tmp 77) = .slice (some ⟨g, o, none⟩) m mc := hd 1 77 (by kernel_rfl)
              have e78 : E (.tmp 78) = .int .i64 (j : Int) := hd 2 78 (by kernel_rfl)
              clear hd hu
              have hjl := HY.out.2
              go_simp
              first | exact HR.out _ _ (Below.refl _ _) rfl | (rw [if_pos ⟨by omega, by omega⟩]; exact HR.out _ _ (Below.refl _ _) rfl)
            case s4 =>
              refine Grow.step_in (by rfl) (by rfl) ?_
              intro E W ec eg ef hG hd hu R HR
              have e79 : E (.tmp 79) = .pointer (some ⟨g, o + j * 34, none⟩) := hd 3 79 (by kernel_rfl)
              clear hd hu
              exact runs_load_val 62 (.tmp 79) rfl ⟨g, o + j * 34, none⟩ e79 (run_loadVar_at W ⟨g, o + j * 34, none⟩ 62 IS _ (fun a v hv => by have hh := HC.out.2 a v hv; rw [add_plain] at hh ⊢; exact (hG.cell (p := ⟨_, _, none⟩) HC.out.1).trans hh) Tryd.underlying62 rfl (by rw [HY.out.1]; exact nn_info)) (HR.out _ _ (Below.refl _ _) rfl)
            case s5 =>
              refine Grow.step_in (by rfl) (by rfl) ?_
              intro E W ec eg ef hG hd hu R HR
              have e3 : E (.tmp 3) = .pointer (some ⟨w.heap.size + 1, 0, none⟩) := hu 3 (by kernel_rfl)
              clear hd hu
              go_simp
              exact HR.out _ _ (Below.refl _ _) rfl
            case s6 =>
              refine Grow.step_in (by rfl) (by rfl) ?_
              intro E W ec eg ef hG hd hu R HR
              have e81 : E (.tmp 81) = .pointer (some ⟨w.heap.size + 1, 4, none⟩) := hd 5 81 (by kernel_rfl)
              clear hd hu
              have hcl := (hG.cell (p := ⟨w.heap.size + 1, 4, none⟩) HP.out.2.1).trans HP.out.2.2.2
              go_simp
              exact HR.out _ _ (Below.refl _ _) rfl
            case s7 =>
              refine Grow.step_in (by rfl) (by rfl) ?_
              intro E W ec eg ef hG hd hu R HR
              have e6 : E (.tmp 6) = .int .i64 (j : Int) := hu 6 (by kernel_rfl)
              clear hd hu
              go_simp
              exact HR.out _ _ (Below.refl _ _) rfl
            case s8 =>
              refine Grow.step_in (by rfl) (by rfl) ?_
              intro E W ec eg ef hG hd hu R HR
              have e82 : E (.tmp 82) = .slice (some ⟨g2, o2, none⟩) m mc2 := hd 6 82 (by kernel_rfl)
              have e83 : E (.tmp 83) = .int .i64 (j : Int) := hd 7 83 (by kernel_rfl)
              clear hd hu
              have hjl := HY.out.2
              go_simp
              first | exact HR.out _ _ (Below.refl _ _) rfl | (rw [if_pos ⟨by omega, by omega⟩]; exact HR.out _ _ (Below.refl _ _) rfl)
            case s9 =>
              refine Grow.step_in (by rfl) (by rfl) ?_
              intro E W ec eg ef hG hd hu R HR
              have e84 : E (.tmp 84) = .pointer (some ⟨g2, o2 + j * 34, none⟩) := hd 8 84 (by kernel_rfl)
              clear hd hu
              exact runs_load_val 62 (.tmp 84) rfl ⟨g2, o2 + j * 34, none⟩ e84 (run_loadVar_at W ⟨g2, o2 + j * 34, none⟩ 62 IS _ (fun a v hv => by have hh := HC2.out.2 a v hv; rw [add_plain] at hh ⊢; exact (hG.cell (p := ⟨_, _, none⟩) HC2.out.1).trans hh) Tryd.underlying62 rfl (by rw [HY.out.1]; exact nn_info)) (HR.out _ _ (Below.refl _ _) rfl)
            case s10 =>
              refine Grow.step_in (by rfl) (by rfl) ?_
              intro E W ec eg ef hG hd hu R HR
              have e80 : E (.tmp 80) = .agg IS := hd 4 80 (by kernel_rfl)
              have e85 : E (.tmp 85) = .agg IS := hd 9 85 (by kernel_rfl)
              clear hd hu
              exact runs_neq_nn (.tmp 80) (.tmp 85) rfl e80 e85 (HEQ.out W) (HR.out _ _ (Below.refl _ _) rfl)
          case gfin =>
            intro W hG
            refine Grow.fin_dst (by rfl) ?_
            rintro _ rfl
            refine Grow.fin_dst (by rfl) ?_
            rintro _ rfl
            refine Grow.fin_dst (by rfl) ?_
            rintro _ rfl
            refine Grow.fin_dst (by rfl) ?_
            rintro _ rfl
            refine Grow.fin_dst (by rfl) ?_
            rintro _ rfl
            refine Grow.fin_dst (by rfl) ?_
            rintro _ rfl
            refine Grow.fin_dst (by rfl) ?_
            rintro _ rfl
            refine Grow.fin_dst (by rfl) ?_
            rintro _ rfl
            refine Grow.fin_dst (by rfl) ?_
            rintro _ rfl
            refine Grow.fin_dst (by rfl) ?_
            rintro _ rfl
            refine Grow.fin_dst (by rfl) ?_
            rintro _ rfl
            simp only [Act.put, List.setIfInBounds_toArray, List.set_cons_zero, List.set_cons_succ]
            refine Grow.fin_end ?_
            have HB3 : Hid (Below w1.heap.size w1 W) := Lib.hid (HBM.out.trans ((Grow.below_of_drew hG).mono HBM.out.size))
            clear hG
            go_wp2_with fail
            go_roundw
            case rel => exact ⟨j + 1, by have := HY.out.2; omega, by simp, HB3.out⟩
            case measure => have := HY.out.2; simp only [intOf]; omega
        · have hlt' : ¬ (j : Int) < (m : Int) := by omega
          have HBJ := Lib.hid hb
          clear hlt hj hd3 hlt0 hlt1 hb
          go_wp2_with fail
          go_ret
          exact ⟨rfl, HA.out.1.trans (HBJ.out.mono HA.out.1.size)⟩
end Go.Proofs.YtmakpjcgiiljfaaDoor
