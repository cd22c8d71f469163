/-
  The reference's Get of objects.
-/
import Derived.Test.YtmakpjcgiiljfaaDoorPkGets02
import Derived.Test.YtmakpjcgiiljfaaDoorPk07
import Derived.Test.YtmakpjcgiiljfaaDoorPk11
/-! The reference's Get of objects. -/
namespace Go.Proofs.YtmakpjcgiiljfaaDoor
open Go.RowKit Codec

def zeroOm : Array Value := #[.int .u8 0, .string ⟨#[]⟩, .int .u64 0, .slice none 0 0, .slice none 0 0, .string ⟨#[]⟩]
theorem zeroOm_om : zeroOm = omV atZ obZ := rfl
theorem build_om : ∀ W, (Instr.build 37 #[]).run Tryd.prog W = .ok (.agg #[.int .u8 0, .string ⟨#[]⟩, .int .u64 0, .slice none 0 0, .slice none 0 0, .string ⟨#[]⟩]) W := fun W => by kernel_rfl
theorem built_om (k : Value) (hk : k.oneCell' = true) : Tryd.prog.built 37 [(0, k)] = some #[k, .string ⟨#[]⟩, .int .u64 0, .slice none 0 0, .slice none 0 0, .string ⟨#[]⟩] := by
  cases k <;> first | (cases hk; done) | kernel_rfl
/-- What the reference's Get ends in. -/
def OrPost (w : World) (g : Ob × Int) (e : Ending) (w' : World) : Prop :=
  ∃ P, e = .returned (.tuple #[.agg (omV P g.1), .int .i64 g.2]) ∧ Ois w' (w.heap.size ≤ ·) P g.1 ∧ Below w.heap.size w w'
/-- Within it: the result, the reader, the object. -/
structure GoS (w W : World) (q4 q6 : Nat) (m : List UInt8) (e : Int) (OV : Array Value) : Prop where
  res : W.heap[w.heap.size]? = some (.cells zeroOm 37 (0, 0))
  r : W.heap[q4]? = some (.cells (rvC m e) 75 (0, 0))
  o : W.heap[q6]? = some (.cells OV 37 (0, 0))
  l1 : w.heap.size < q4
  l2 : q4 < q6
  bel : Below w.heap.size w W
section
variable {w W W' : World} {q4 q6 : Nat} {m : List UInt8} {e : Int} {OV : Array Value}
theorem GoS.later (h : GoS w W q4 q6 m e OV) (hb : Below W.heap.size W W') : GoS w W' q4 q6 m e OV :=
  ⟨(hb.block _ (lt_of_cells h.res)).trans h.res, (hb.block _ (lt_of_cells h.r)).trans h.r, (hb.block _ (lt_of_cells h.o)).trans h.o, h.l1, h.l2, h.bel.trans (hb.mono h.bel.size)⟩
theorem GoS.own (h : GoS w W q4 q6 m e OV) (hb : Below (q6 + 1) W W') : GoS w W' q4 q6 m e OV :=
  have h1 := h.l1
  have h2 := h.l2
  ⟨(hb.block _ (by omega)).trans h.res, (hb.block _ (by omega)).trans h.r, (hb.block _ (by omega)).trans h.o, h.l1, h.l2, h.bel.trans (hb.mono (by omega))⟩
theorem GoS.setr (h : GoS w W q4 q6 m e OV) (m' : List UInt8) (e' : Int) : GoS w (W.setRow q4 (rvC m' e')) q4 q6 m' e' OV :=
  have h1 := h.l1
  have h2 := h.l2
  ⟨(setRow_ne W _ _ _ (by omega)).trans h.res, setRow_at h.r, (setRow_ne W _ _ _ (by omega)).trans h.o, h.l1, h.l2, below_setRow h.bel (by omega) _⟩
theorem GoS.set (h : GoS w W q4 q6 m e OV) (j : Nat) (u : Value) (OV' : Array Value) (hs : OV.setIfInBounds j u = OV') : GoS w (W.setCell ⟨q6, j, none⟩ u) q4 q6 m e OV' :=
  have h1 := h.l1
  have h2 := h.l2
  ⟨(Below.heap_setCell W _ u _ (by simp; omega)).trans h.res, (Below.heap_setCell W _ u _ (by simp; omega)).trans h.r, by rw [set_of_cells h.o, hs], h.l1, h.l2, h.bel.setCell (by simp; omega) _⟩
end
theorem gr_setr (W : World) (q : Nat) (cs : Array Value) : W.grownBy (W.setRow q cs) (some q) := gr_row W q cs
theorem alike_i {l m : List UInt8} {e : Int} (h : e = 0 → m = l) : idC m e = idC l e := by
  unfold idC idL
  by_cases he : e = 0
  · rw [h he]
  · have : ∀ x, tkE x e 32 = e := fun x => by unfold tkE; rw [if_pos he]
    rw [this, this, if_neg he, if_neg he]
theorem alike_e {l m : List UInt8} {e : Int} (h : e = 0 → m = l) : endE m e = endE l e := by
  by_cases he : e = 0
  · rw [h he]
  · rw [endE_bad he, endE_bad he]
theorem own_gr2 {w w' : World} {B : Nat} {e : TypeId} {size : Nat} {v : Value} {n : Nat} {xs : List Value} {p : Nat} (h : w.ownsRow B e size v n xs) (hg : w.grownBy w' (some p)) (hp : ∀ g, v.ownBlock = some g → g ≠ p) : w'.ownsRow B e size v n xs := by
  obtain ⟨e1, e2⟩ := h
  refine ⟨e1, ?_⟩
  rcases e2 with e2 | ⟨g, cap, cur, rfl, e3, e4, e5⟩
  · exact .inl e2
  · exact .inr ⟨g, cap, cur, rfl, e3, (hg.block g (lt_of_cells e4) (fun e => by injection e with e; exact hp g rfl e)).trans e4, e5⟩
theorem galike_bo {l m : List UInt8} {e : Int} (h : e = 0 → m = l) : boE m e = boE l e ∧ (boE l e = 0 → boX m e = boX l e ∧ fxL m e 1 = fxL l e 1 ∧ e = 0) := by
  by_cases he : e = 0
  · rw [h he]
    exact ⟨rfl, fun _ => ⟨rfl, rfl, he⟩⟩
  · have : ∀ x, tkE x e 1 = e := fun x => by unfold tkE; rw [if_pos he]
    have h2 : ∀ x, boE x e = e := fun x => by unfold boE; rw [this, if_pos he]
    rw [h2, h2]
    exact ⟨rfl, fun h3 => absurd h3 he⟩
theorem exec_load_s2 {P : Program} {E : Operand → Value} {o : Oper} {W : World} (ty : TypeId) (x : Operand) (ho : o.op = .load ty x) (a : Addr) (hx : E x = .pointer (some a)) {v : Value} (hv : (loadVar ty a).run P W = .ok v W) : (execOp E o).run P W = .ok (.value v) W := by
  unfold execOp
  simp only [ho, hx, Instr.loadAt, Instr.sureAddr, Sem.run_bind, Sem.run_pure, Result.andThen_ok, hv]
theorem eff_store_r2 {P : Program} {ops : Array Oper} {Q : Exit → Act → World → Prop} {i : Nat} {o : Oper} {K : Act → World → Prop} {a : Act} {w : World} (ho : ops.toList[i]? = some o) (hgd : o.guard = none) (ty : TypeId) (x y : Operand) (hop : o.op = .store ty x y)
    (g : Nat) (cells : Array Value) (hx : a.eval x = .pointer (some ⟨g, 0, none⟩)) (hy : a.eval y = .agg cells) (t : TypeId) (old : Array Value) (hg : w.heap[g]? = some (.cells old t (0, 0))) (hi : (P.info? ty).map (·.size) = some cells.size)
    (hold : old.size = cells.size) (h1 : cells.all (·.oneCell') = true) (h : K (a.put o.dst undef) (w.setRow g cells)) : wpOp P ops Q i K a w :=
  eff_step ho fun K' hK' => by
    rw [if_pos (by unfold Region.wanted; rw [hgd])]
    exact wp_store_row ty x y hop g cells hx hy t old hg hi hold h1 (hK' _ _ h)
/-- While ids are read. -/
def GiR (w : World) (q4 q6 k z M : Nat) (l0 : List UInt8) (e0 : Int) (i : Value) (wr : World) : Prop :=
  ∃ (j : Nat) (acc : List (List UInt8)) (l : List UInt8) (e : Int) (m : List UInt8) (A9 : Option Addr) (c9 : Nat), j ≤ M ∧ i = .int .u64 (j : Int) ∧ igo M [] l0 e0 = igo (M - j) acc l e ∧ acc.length = j ∧ (∀ y ∈ acc, y.length = 32) ∧ (e = 0 → m = l) ∧
    GoS w wr q4 q6 m e (omV ⟨none, 0, 0, A9, j, c9, none, 0, 0⟩ { obZ with k := k, z := z, ids := acc }) ∧ wr.ownsRow (q6 + 1) 49 32 (.slice A9 j c9) j (idsC acc)
/-- While entries are read: those of the reference are the document's as long as there is no error. -/
def GeR (w : World) (q4 q6 M : Nat) (l0 : List UInt8) (e0 : Int) (i : Value) (wr : World) : Prop :=
  ∃ (j : Nat) (acc acr : List En) (l : List UInt8) (e : Int) (m : List UInt8) (A9 : Option Addr) (c9 : Nat), j ≤ M ∧ i = .int .u64 (j : Int) ∧ ego M [] l0 e0 = ego (M - j) acc l e ∧ acr.length = j ∧ (∀ y ∈ acr, y.2.2.length = 32) ∧ (∀ y ∈ acr, y.1.length ≤ 255) ∧ (e = 0 → m = l ∧ acr = acc) ∧
    GoS w wr q4 q6 m e (omV ⟨none, 0, 0, none, 0, 0, A9, j, c9⟩ { obZ with k := 3, es := acr }) ∧ wr.ownsRow (q6 + 1) 62 34 (.slice A9 j c9) j (enCells acr)
/-- With a name beside it, and the names that are there. -/
structure GnS (w W : World) (q4 q6 x0 : Nat) (m : List UInt8) (e : Int) (OV : Array Value) (y : En) (v : Value) (j : Nat) (acr : List En) : Prop where
  g : GoS w W q4 q6 m e OV
  n : W.heap[x0]? = some (.cells (enV y) 62 (0, 0))
  own : W.ownsRow (q6 + 1) 62 34 v j (enCells acr)
  gt : q6 < x0
  ne : ∀ g, v.ownBlock = some g → g < x0
  i32 : y.2.2.length = 32
section
variable {w W W' : World} {q4 q6 x0 : Nat} {m : List UInt8} {e : Int} {OV : Array Value} {y : En} {v : Value} {j : Nat} {acr : List En}
theorem GnS.later (h : GnS w W q4 q6 x0 m e OV y v j acr) (hb : Below W.heap.size W W') : GnS w W' q4 q6 x0 m e OV y v j acr :=
  ⟨h.g.later hb, (hb.block _ (lt_of_cells h.n)).trans h.n, own_below h.own hb, h.gt, h.ne, h.i32⟩
theorem GnS.setr (h : GnS w W q4 q6 x0 m e OV y v j acr) (m' : List UInt8) (e' : Int) : GnS w (W.setRow q4 (rvC m' e')) q4 q6 x0 m' e' OV y v j acr :=
  ⟨h.g.setr m' e', (setRow_ne W _ _ _ (by have := h.g.l2; have := h.gt; omega)).trans h.n, own_grown h.own (gr_setr W q4 _) (by have := h.g.l2; omega), h.gt, h.ne, h.i32⟩
theorem GnS.set (h : GnS w W q4 q6 x0 m e OV y v j acr) (k : Nat) (u : Value) (y' : En) (hy : (enV y).setIfInBounds k u = enV y') (hi : y'.2.2.length = 32) : GnS w (W.setCell ⟨x0, k, none⟩ u) q4 q6 x0 m e OV y' v j acr :=
  ⟨h.g.own ((Below.refl _ _).setCell (show q6 + 1 ≤ x0 from h.gt) _), by rw [set_of_cells h.n, hy], own_gr2 h.own (gr_set (gr_refl W (some x0)) k u) fun g hg => by have := h.ne g hg; omega, h.gt, h.ne, hi⟩
theorem GnS.setn (h : GnS w W q4 q6 x0 m e OV y v j acr) (y' : En) (hi : y'.2.2.length = 32) : GnS w (W.setRow x0 (enV y')) q4 q6 x0 m e OV y' v j acr :=
  ⟨h.g.own (below_setRow (Below.refl _ _) h.gt _), setRow_at h.n, own_gr2 h.own (gr_setr W x0 _) fun g hg => by have := h.ne g hg; omega, h.gt, h.ne, hi⟩
end
set_option maxHeartbeats 16000000 in
set_option maxRecDepth 100000 in
theorem rget_err (b : List UInt8) (w : World) (h0 : uiE b 0 ≠ 0) :
    Calls Tryd.prog 16 #[.string (st b)] w (OrPost w (getO b)) := by
  have hzo : ∀ W, (zeroValue 37).run Tryd.prog W = .ok (.agg zeroOm) W := zero_om
  have hzr := zero_r2
  have hb0 : Below w.heap.size w (w.alloc (.cells zeroOm 37)) := (Below.refl _ _).alloc (Nat.le_refl _) _
  have hui := ref_uint b 0 (w.alloc (.cells zeroOm 37))
  have HN : Hid ((w.alloc (.cells zeroOm 37)).heap[w.heap.size]? = some (.cells zeroOm 37 (0, 0)) ∧ Below w.heap.size w (w.alloc (.cells zeroOm 37))) := Lib.hid ⟨heap_alloc_new w _, hb0⟩
  obtain ⟨ZO, hZO⟩ : ∃ ZO, ZO = zeroOm := ⟨_, rfl⟩
  rw [← hZO] at hui hzo HN
  have HZS : Hid (ZO.size = 6 ∧ ZO.all (·.oneCell') = true ∧ ZO = omV atZ obZ ∧ zeroOm = ZO) := Lib.hid ⟨by rw [hZO]; rfl, by rw [hZO]; exact omV_one atZ obZ, by rw [hZO]; rfl, hZO.symm⟩
  have hbd : ∀ W, (Instr.build 37 #[]).run Tryd.prog W = .ok (.agg ZO) W := fun W => by rw [hZO]; exact build_om W
  clear hZO hb0
  have HG : Hid (getO b = (obZ, uiE b 0)) := Lib.hid (by unfold getO readO endO; rw [if_pos h0]; simp only; rw [if_pos h0])
  have HNE := Lib.hid h0
  obtain ⟨e0, he0⟩ : ∃ e0, e0 = uiE b 0 := ⟨_, rfl⟩
  rw [← he0] at hui HG HNE h0
  have hne : (e0 != 0) = true := by simpa using h0
  clear h0 he0
  go_enter Tryd.func16, Tryd.ntmps16
  go_upto_region 2 with (first
    | (go_at_call 33; refine hui.mono ?_; clear hui; rintro _ w1 ⟨m0, rfl, hm0, hb1⟩; have HM0 := Lib.hid hm0; clear hm0)
    | (refine wpList_store_row (by rfl) 75 (.tmp 4) (.tmp 16) (by rfl) w1.heap.size (rvC m0 e0) (by rfl) (by rfl) 75 _ (heap_alloc_new w1 _) r_info (by rfl) (rvC_one _ _) ?_))
  obtain ⟨q4, hq4⟩ : ∃ q4, q4 = w1.heap.size := ⟨_, rfl⟩
  have hal : Below w1.heap.size w1 ((w1.alloc (.cells #[.string ⟨#[]⟩, .int .i64 0] 75)).setRow w1.heap.size (rvC m0 e0)) := below_setRow ((Below.refl _ _).alloc (Nat.le_refl _) _) (Nat.le_refl _) _
  have H2 : Hid (((w1.alloc (.cells #[.string ⟨#[]⟩, .int .i64 0] 75)).setRow w1.heap.size (rvC m0 e0)).heap[w.heap.size]? = some (.cells ZO 37 (0, 0)) ∧ ((w1.alloc (.cells #[.string ⟨#[]⟩, .int .i64 0] 75)).setRow w1.heap.size (rvC m0 e0)).heap[w1.heap.size]? = some (.cells (rvC m0 e0) 75 (0, 0)) ∧ w.heap.size < w1.heap.size ∧ Below w.heap.size w ((w1.alloc (.cells #[.string ⟨#[]⟩, .int .i64 0] 75)).setRow w1.heap.size (rvC m0 e0))) := Lib.hid (by
    have h1 := (hb1.block _ (lt_of_cells HN.out.1)).trans HN.out.1
    have h2 := HN.out.2.trans (hb1.mono HN.out.2.size)
    exact ⟨(hal.block _ (lt_of_cells h1)).trans h1, setRow_at (heap_alloc_new w1 _), lt_of_cells h1, h2.trans (hal.mono h2.size)⟩)
  rw [← hq4] at H2 ⊢
  clear hal hb1 hzr hq4
  generalize (w1.alloc (.cells #[.string ⟨#[]⟩, .int .i64 0] 75)).setRow q4 (rvC m0 e0) = w2 at *
  have hc1 : w2.cell? ⟨q4, 1, none⟩ = some (.int .i64 e0) := (cell_of_cells H2.out.2.1 1).trans rfl
  go_upto_region 3 with fail
  clear hc1
  refine wp_region_plan (fun W => W.heap[q4]? = some (.cells (rvC m0 e0) 75 (0, 0))) [([0, 1, 2], 3)] [4] (by kernel_rfl) (by kernel_rfl) (fun _ _ d _ _ h => by cases d <;> exact h) H2.out.2.1 ?_
  have HD : Hid (w2.drew.heap[w.heap.size]? = some (.cells ZO 37 (0, 0)) ∧ Below w.heap.size w w2.drew ∧ w2.drew.heap[q4]? = some (.cells (rvC m0 e0) 75 (0, 0)) ∧ w.heap.size < q4) := Lib.hid ⟨H2.out.1, below_drew H2.out.2.2.2, H2.out.2.1, H2.out.2.2.1⟩
  clear H2
  generalize w2.drew = wd at *
  refine plan_eff ?_
  refine seg_read (.agg ZO) (by rfl) (by rfl) (fun W hW => by simp [execOp, hbd W, Result.andThen]) ?_
  try simp only [Act.put, List.setIfInBounds_toArray, List.set_cons_zero, List.set_cons_succ]
  refine seg_read (.pointer (some ⟨q4, 1, none⟩)) (by rfl) (by rfl) (fun W hW => by clear hW; go_simp) ?_
  try simp only [Act.put, List.setIfInBounds_toArray, List.set_cons_zero, List.set_cons_succ]
  refine seg_read (.int .i64 e0) (by rfl) (by rfl) (fun W hW => by have hc : W.cell? ⟨q4, 1, none⟩ = some (.int .i64 e0) := (cell_of_cells hW 1).trans rfl; clear hW; go_simp) ?_
  try simp only [Act.put, List.setIfInBounds_toArray, List.set_cons_zero, List.set_cons_succ]
  refine seg_nil ?_
  refine eff_store_r2 (by rfl) (by rfl) 37 (.tmp 2) (.tmp 21) (by rfl) w.heap.size ZO (by rfl) (by rfl) 37 ZO HD.out.1 (by rw [HZS.out.1]; exact om_info) rfl HZS.out.2.1 ?_
  have hrf : (wd.setRow w.heap.size ZO).heap[w.heap.size]? = some (.cells ZO 37 (0, 0)) := setRow_at HD.out.1
  have hb9 := below_setRow HD.out.2.1 (Nat.le_refl _) ZO
  have hq9 : (wd.setRow w.heap.size ZO).heap[q4]? = some (.cells (rvC m0 e0) 75 (0, 0)) := (setRow_ne wd _ _ _ (by have := HD.out.2.2.2; omega)).trans HD.out.2.2.1
  have HF := Lib.hid (And.intro hrf hb9)
  refine ⟨fun W => W = wd.setRow w.heap.size ZO, rfl, fun W (e : W = _) => e ▸ hq9, ?_⟩
  clear hrf hb9 hq9
  generalize wd.setRow w.heap.size ZO = wf at *
  refine plan_last ?_
  try simp only [Act.put]
  repeat (refine seg_step (by rfl) (fun K hK => ?_); go_simp; refine hK _ ?_; clear hK K)
  refine seg_nil ?_
  go_wp2_with fail
  (try simp only [Exit.inBlock, Exit.then])
  have hrf := HF.out.1
  refine bodyPost_ret (results_ct rfl _ _ ⟨w.heap.size, 0, none⟩ (.agg ZO) (.int .i64 e0) rfl rfl (run_loadVar_row _ _ _ _ _ _ _ hrf Tryd.underlying37 rfl (by rw [HZS.out.1]; exact om_info))) rfl ⟨atZ, by rw [HG.out, ← HZS.out.2.2.1], by rw [HG.out]; exact ois_zero _ _, HF.out.2⟩
set_option maxHeartbeats 16000000 in
set_option maxRecDepth 100000 in
theorem rget_kind (b : List UInt8) (w : World) (h0 : uiE b 0 = 0) (hk : uiX b 0 < 1 ∨ 4 < uiX b 0) :
    Calls Tryd.prog 16 #[.string (st b)] w (OrPost w (getO b)) := by
  have hzo : ∀ W, (zeroValue 37).run Tryd.prog W = .ok (.agg zeroOm) W := zero_om
  have hzr := zero_r2
  have hb0 : Below w.heap.size w (w.alloc (.cells zeroOm 37)) := (Below.refl _ _).alloc (Nat.le_refl _) _
  have hui := ref_uint b 0 (w.alloc (.cells zeroOm 37))
  have HN : Hid ((w.alloc (.cells zeroOm 37)).heap[w.heap.size]? = some (.cells zeroOm 37 (0, 0)) ∧ Below w.heap.size w (w.alloc (.cells zeroOm 37))) := Lib.hid ⟨heap_alloc_new w _, hb0⟩
  obtain ⟨ZO, hZO⟩ : ∃ ZO, ZO = zeroOm := ⟨_, rfl⟩
  rw [← hZO] at hui hzo HN
  have HZS : Hid (ZO.size = 6 ∧ ZO.all (·.oneCell') = true ∧ ZO = omV atZ obZ ∧ zeroOm = ZO) := Lib.hid ⟨by rw [hZO]; rfl, by rw [hZO]; exact omV_one atZ obZ, by rw [hZO]; rfl, hZO.symm⟩
  have hbd : ∀ W, (Instr.build 37 #[]).run Tryd.prog W = .ok (.agg ZO) W := fun W => by rw [hZO]; exact build_om W
  clear hZO hb0
  have HG : Hid (getO b = (obZ, 11)) := Lib.hid (by unfold getO; rw [show readO b = (obZ, 11, uiL b 0, 0) from by unfold readO; rw [if_neg (by rw [h0]; simp), if_pos hk]]; rfl)
  rw [h0] at hui
  obtain ⟨M, hM⟩ : ∃ M, M = uiX b 0 := ⟨_, rfl⟩
  rw [← hM] at hui hk
  clear h0 hM
  by_cases h1 : M < 1
  · have h1' : (M : Int) < 1 := by omega
    clear h1 hk
    go_enter Tryd.func16, Tryd.ntmps16
    go_upto_region 2 with (first
      | (go_at_call 33; refine hui.mono ?_; clear hui; rintro _ w1 ⟨m0, rfl, hm0, hb1⟩; have HM0 := Lib.hid hm0; clear hm0)
      | (refine wpList_store_row (by rfl) 75 (.tmp 4) (.tmp 16) (by rfl) w1.heap.size (rvC m0 0) (by rfl) (by rfl) 75 _ (heap_alloc_new w1 _) r_info (by rfl) (rvC_one _ _) ?_))
    obtain ⟨q4, hq4⟩ : ∃ q4, q4 = w1.heap.size := ⟨_, rfl⟩
    have hal : Below w1.heap.size w1 ((w1.alloc (.cells #[.string ⟨#[]⟩, .int .i64 0] 75)).setRow w1.heap.size (rvC m0 0)) := below_setRow ((Below.refl _ _).alloc (Nat.le_refl _) _) (Nat.le_refl _) _
    have H2 : Hid (((w1.alloc (.cells #[.string ⟨#[]⟩, .int .i64 0] 75)).setRow w1.heap.size (rvC m0 0)).heap[w.heap.size]? = some (.cells ZO 37 (0, 0)) ∧ ((w1.alloc (.cells #[.string ⟨#[]⟩, .int .i64 0] 75)).setRow w1.heap.size (rvC m0 0)).heap[w1.heap.size]? = some (.cells (rvC m0 0) 75 (0, 0)) ∧ w.heap.size < w1.heap.size ∧ Below w.heap.size w ((w1.alloc (.cells #[.string ⟨#[]⟩, .int .i64 0] 75)).setRow w1.heap.size (rvC m0 0))) := Lib.hid (by
      have h1 := (hb1.block _ (lt_of_cells HN.out.1)).trans HN.out.1
      have h2 := HN.out.2.trans (hb1.mono HN.out.2.size)
      exact ⟨(hal.block _ (lt_of_cells h1)).trans h1, setRow_at (heap_alloc_new w1 _), lt_of_cells h1, h2.trans (hal.mono h2.size)⟩)
    rw [← hq4] at H2 ⊢
    clear hal hb1 hzr hq4
    generalize (w1.alloc (.cells #[.string ⟨#[]⟩, .int .i64 0] 75)).setRow q4 (rvC m0 0) = w2 at *
    have hc1 : w2.cell? ⟨q4, 1, none⟩ = some (.int .i64 0) := (cell_of_cells H2.out.2.1 1).trans rfl
    go_wp2_with (first
      | (refine wpList_build0 (by rfl) 37 (by rfl) (.agg ZO) hbd ?_)
      | (refine wpList_store_row (by rfl) 37 (.tmp 2) (.tmp 30) (by rfl) w.heap.size ZO (by rfl) (by rfl) 37 _ H2.out.1 (by rw [HZS.out.1]; exact om_info) (by rfl) HZS.out.2.1 ?_))
    have hrf : (w2.setRow w.heap.size ZO).heap[w.heap.size]? = some (.cells ZO 37 (0, 0)) := setRow_at H2.out.1
    refine bodyPost_ret (results_ct rfl _ _ ⟨w.heap.size, 0, none⟩ (.agg ZO) (.int .i64 11) rfl rfl (run_loadVar_row _ _ _ _ _ _ _ hrf Tryd.underlying37 rfl (by rw [HZS.out.1]; exact om_info))) rfl ⟨atZ, by rw [HG.out, ← HZS.out.2.2.1], by rw [HG.out]; exact ois_zero _ _, below_setRow H2.out.2.2.2 (Nat.le_refl _) _⟩
  · have h1' : ¬ (M : Int) < 1 := by omega
    have h2' : (M : Int) > 4 := by omega
    clear h1 hk
    go_enter Tryd.func16, Tryd.ntmps16
    go_upto_region 2 with (first
      | (go_at_call 33; refine hui.mono ?_; clear hui; rintro _ w1 ⟨m0, rfl, hm0, hb1⟩; have HM0 := Lib.hid hm0; clear hm0)
      | (refine wpList_store_row (by rfl) 75 (.tmp 4) (.tmp 16) (by rfl) w1.heap.size (rvC m0 0) (by rfl) (by rfl) 75 _ (heap_alloc_new w1 _) r_info (by rfl) (rvC_one _ _) ?_))
    obtain ⟨q4, hq4⟩ : ∃ q4, q4 = w1.heap.size := ⟨_, rfl⟩
    have hal : Below w1.heap.size w1 ((w1.alloc (.cells #[.string ⟨#[]⟩, .int .i64 0] 75)).setRow w1.heap.size (rvC m0 0)) := below_setRow ((Below.refl _ _).alloc (Nat.le_refl _) _) (Nat.le_refl _) _
    have H2 : Hid (((w1.alloc (.cells #[.string ⟨#[]⟩, .int .i64 0] 75)).setRow w1.heap.size (rvC m0 0)).heap[w.heap.size]? = some (.cells ZO 37 (0, 0)) ∧ ((w1.alloc (.cells #[.string ⟨#[]⟩, .int .i64 0] 75)).setRow w1.heap.size (rvC m0 0)).heap[w1.heap.size]? = some (.cells (rvC m0 0) 75 (0, 0)) ∧ w.heap.size < w1.heap.size ∧ Below w.heap.size w ((w1.alloc (.cells #[.string ⟨#[]⟩, .int .i64 0] 75)).setRow w1.heap.size (rvC m0 0))) := Lib.hid (by
      have h1 := (hb1.block _ (lt_of_cells HN.out.1)).trans HN.out.1
      have h2 := HN.out.2.trans (hb1.mono HN.out.2.size)
      exact ⟨(hal.block _ (lt_of_cells h1)).trans h1, setRow_at (heap_alloc_new w1 _), lt_of_cells h1, h2.trans (hal.mono h2.size)⟩)
    rw [← hq4] at H2 ⊢
    clear hal hb1 hzr hq4
    generalize (w1.alloc (.cells #[.string ⟨#[]⟩, .int .i64 0] 75)).setRow q4 (rvC m0 0) = w2 at *
    have hc1 : w2.cell? ⟨q4, 1, none⟩ = some (.int .i64 0) := (cell_of_cells H2.out.2.1 1).trans rfl
    go_wp2_with (first
      | (refine wpList_build0 (by rfl) 37 (by rfl) (.agg ZO) hbd ?_)
      | (refine wpList_store_row (by rfl) 37 (.tmp 2) (.tmp 30) (by rfl) w.heap.size ZO (by rfl) (by rfl) 37 _ H2.out.1 (by rw [HZS.out.1]; exact om_info) (by rfl) HZS.out.2.1 ?_))
    have hrf : (w2.setRow w.heap.size ZO).heap[w.heap.size]? = some (.cells ZO 37 (0, 0)) := setRow_at H2.out.1
    refine bodyPost_ret (results_ct rfl _ _ ⟨w.heap.size, 0, none⟩ (.agg ZO) (.int .i64 11) rfl rfl (run_loadVar_row _ _ _ _ _ _ _ hrf Tryd.underlying37 rfl (by rw [HZS.out.1]; exact om_info))) rfl ⟨atZ, by rw [HG.out, ← HZS.out.2.2.1], by rw [HG.out]; exact ois_zero _ _, below_setRow H2.out.2.2.2 (Nat.le_refl _) _⟩
set_option maxHeartbeats 16000000 in
set_option maxRecDepth 100000 in
theorem rget1 (b : List UInt8) (w : World) (h0 : uiE b 0 = 0) (hk : uiX b 0 = 1) :
    Calls Tryd.prog 16 #[.string (st b)] w (OrPost w (getO b)) := by
  have hzo : ∀ W, (zeroValue 37).run Tryd.prog W = .ok (.agg zeroOm) W := zero_om
  have hzr := zero_r2
  have hb0 : Below w.heap.size w (w.alloc (.cells zeroOm 37)) := (Below.refl _ _).alloc (Nat.le_refl _) _
  have hui := ref_uint b 0 (w.alloc (.cells zeroOm 37))
  have HN : Hid ((w.alloc (.cells zeroOm 37)).heap[w.heap.size]? = some (.cells zeroOm 37 (0, 0)) ∧ Below w.heap.size w (w.alloc (.cells zeroOm 37))) := Lib.hid ⟨heap_alloc_new w _, hb0⟩
  obtain ⟨ZO, hZO⟩ : ∃ ZO, ZO = zeroOm := ⟨_, rfl⟩
  rw [← hZO] at hui hzo HN
  have HZS : Hid (ZO.size = 6 ∧ ZO.all (·.oneCell') = true ∧ ZO = omV atZ obZ ∧ zeroOm = ZO) := Lib.hid ⟨by rw [hZO]; rfl, by rw [hZO]; exact omV_one atZ obZ, by rw [hZO]; rfl, hZO.symm⟩
  have hbd : ∀ W, (Instr.build 37 #[]).run Tryd.prog W = .ok (.agg ZO) W := fun W => by rw [hZO]; exact build_om W
  clear hZO hb0
  have HRO := Lib.hid (And.intro h0 hk)
  rw [h0, hk] at hui
  have hui : Calls Tryd.prog 33 #[RV b 0] (w.alloc (.cells ZO 37)) (RGot (w.alloc (.cells ZO 37)) 0 (uiL b 0) (.int .u64 1)) := hui
  obtain ⟨l1, hl1⟩ : ∃ l1, l1 = uiL b 0 := ⟨_, rfl⟩
  rw [← hl1] at hui
  have HL := Lib.hid hl1
  clear h0 hk hl1
  obtain ⟨KO, hKO⟩ : ∃ KO, KO = omV atZ { obZ with k := 1 } := ⟨_, rfl⟩
  have hbt : Tryd.prog.built 37 [(0, .int .u8 1)] = some KO := by rw [hKO]; exact built_om _ rfl
  have HKO : Hid (KO = omV atZ { obZ with k := 1 } ∧ KO.size = 6 ∧ KO.all (·.oneCell') = true) := Lib.hid ⟨hKO, by rw [hKO]; rfl, by rw [hKO]; exact omV_one _ _⟩
  clear hKO
  go_enter Tryd.func16, Tryd.ntmps16
  go_upto_region 2 with (first
    | (go_at_call 33; refine hui.mono ?_; clear hui; rintro _ w1 ⟨m0, rfl, hm0, hb1⟩; have HM0 := Lib.hid hm0; clear hm0)
    | (refine wpList_store_row (by rfl) 75 (.tmp 4) (.tmp 16) (by rfl) w1.heap.size (rvC m0 0) (by rfl) (by rfl) 75 _ (heap_alloc_new w1 _) r_info (by rfl) (rvC_one _ _) ?_))
  obtain ⟨q4, hq4⟩ : ∃ q4, q4 = w1.heap.size := ⟨_, rfl⟩
  have hal : Below w1.heap.size w1 ((w1.alloc (.cells #[.string ⟨#[]⟩, .int .i64 0] 75)).setRow w1.heap.size (rvC m0 0)) := below_setRow ((Below.refl _ _).alloc (Nat.le_refl _) _) (Nat.le_refl _) _
  have H2 : Hid (((w1.alloc (.cells #[.string ⟨#[]⟩, .int .i64 0] 75)).setRow w1.heap.size (rvC m0 0)).heap[w.heap.size]? = some (.cells ZO 37 (0, 0)) ∧ ((w1.alloc (.cells #[.string ⟨#[]⟩, .int .i64 0] 75)).setRow w1.heap.size (rvC m0 0)).heap[w1.heap.size]? = some (.cells (rvC m0 0) 75 (0, 0)) ∧ w.heap.size < w1.heap.size ∧ Below w.heap.size w ((w1.alloc (.cells #[.string ⟨#[]⟩, .int .i64 0] 75)).setRow w1.heap.size (rvC m0 0))) := Lib.hid (by
    have h1 := (hb1.block _ (lt_of_cells HN.out.1)).trans HN.out.1
    have h2 := HN.out.2.trans (hb1.mono HN.out.2.size)
    exact ⟨(hal.block _ (lt_of_cells h1)).trans h1, setRow_at (heap_alloc_new w1 _), lt_of_cells h1, h2.trans (hal.mono h2.size)⟩)
  rw [← hq4] at H2 ⊢
  clear hal hb1 hzr hq4
  generalize (w1.alloc (.cells #[.string ⟨#[]⟩, .int .i64 0] 75)).setRow q4 (rvC m0 0) = w2 at *
  have hc1 : w2.cell? ⟨q4, 1, none⟩ = some (.int .i64 0) := (cell_of_cells H2.out.2.1 1).trans rfl
  go_upto_region 7 with (first
    | (refine wpList_built (by rfl) 37 #[(0, .tmp 32)] (by rfl) [(0, .int .u8 1)] (by simp [Act.eval]) KO hbt ?_)
    | (refine wpList_store_row (by rfl) 37 (.tmp 6) (.tmp 33) (by rfl) w2.heap.size KO (by rfl) (by rfl) 37 _ (heap_alloc_new w2 _) (by rw [HKO.out.2.1]; exact om_info) (by rw [HKO.out.2.1, HZS.out.1]) HKO.out.2.2 ?_))
  obtain ⟨q6, hq6⟩ : ∃ q6, q6 = w2.heap.size := ⟨_, rfl⟩
  obtain rfl : m0 = l1 := by have h := HM0.out; simpa using h
  have hal : Below w2.heap.size w2 ((w2.alloc (.cells ZO 37)).setRow w2.heap.size KO) := below_setRow ((Below.refl _ _).alloc (Nat.le_refl _) _) (Nat.le_refl _) _
  have hpa : ((w2.alloc (.cells ZO 37)).setRow w2.heap.size KO).heap[w2.heap.size]? = some (.cells KO 37 (0, 0)) := setRow_at (heap_alloc_new w2 _)
  have H3 : Hid (GoS w ((w2.alloc (.cells ZO 37)).setRow w2.heap.size KO) q4 q6 m0 0 (omV atZ { obZ with k := 1 })) := Lib.hid ⟨(hal.block _ (lt_of_cells H2.out.1)).trans (by rw [HZS.out.2.2.2]; exact H2.out.1), (hal.block _ (lt_of_cells H2.out.2.1)).trans H2.out.2.1, by rw [hq6, ← HKO.out.1]; exact hpa, H2.out.2.2.1, by rw [hq6]; exact lt_of_cells H2.out.2.1, H2.out.2.2.2.trans (hal.mono H2.out.2.2.2.size)⟩
  clear hal hpa hzo hbt hc1 HM0
  generalize (w2.alloc (.cells ZO 37)).setRow w2.heap.size KO = w3 at *
  rw [← hq6]
  clear hq6 H2
  have hby := ref_bytes m0 0 32768 w3 (by decide)
  obtain ⟨B, hB⟩ : ∃ B, B = byB m0 0 32768 := ⟨_, rfl⟩
  obtain ⟨l2, hl2⟩ : ∃ l2, l2 = byL m0 0 32768 := ⟨_, rfl⟩
  obtain ⟨e2, he2⟩ : ∃ e2, e2 = byE m0 0 32768 := ⟨_, rfl⟩
  rw [← hB, ← hl2, ← he2] at hby
  have HR2 : Hid (getO b = endO ({ obZ with k := 1, b := B }, 0, l2, e2) ∧ B.length ≤ 32768) := Lib.hid ⟨by unfold getO readO; rw [if_neg (by rw [HRO.out.1]; simp), if_neg (by rw [HRO.out.2]; omega), if_pos HRO.out.2, ← HL.out, ← hB, ← hl2, ← he2], by rw [hB]; exact by_few m0 0 32768⟩
  clear hB hl2 he2
  go_upto_region 9 with (first
    | (refine wpList_load_row (by rfl) 75 (.tmp 4) (by rfl) q4 (by rfl) 75 (rvC m0 0) (0, 0) _ H3.out.r Tryd.underlying75 (by rfl) r_info ?_)
    | (go_at_call 34; refine hby.mono ?_; clear hby; rintro _ w4 ⟨m2, rfl, hm2, hb4⟩; rw [strB_st]; have H4 := Lib.hid (H3.out.later hb4); have H5 := Lib.hid (H4.out.setr m2 e2); have hc1 : (w4.setRow q4 (rvC m2 e2)).cell? ⟨q6, 1, none⟩ = some (.string ⟨#[]⟩) := (cell_of_cells H5.out.o 1).trans rfl; have hf1 := free_of_cells H5.out.o 1; have hs1 := lt_of_cells H5.out.o; clear hb4)
    | (refine wpList_store_row (by rfl) 75 (.tmp 4) (.tmp 39) (by rfl) q4 (rvC m2 e2) (by rfl) (by rfl) 75 _ H4.out.r r_info (by rfl) (rvC_one _ _) ?_))
  have H6 := Lib.hid (H5.out.set 1 (.string (st B)) (omV atZ { obZ with k := 1, b := B }) rfl)
  have HX : Hid ((e2 = 0 → m2 = l2) ∧ getO b = endO ({ obZ with k := 1, b := B }, 0, l2, e2)) := Lib.hid ⟨hm2, HR2.out.1⟩
  clear hc1 hf1 hs1 H4 H5 H3 hm2
  generalize (w4.setRow q4 (rvC m2 e2)).setCell ⟨q6, 1, none⟩ (.string (st B)) = w6 at *
  have HO : Hid (Ois w6 (fun k => w.heap.size < k) atZ { obZ with k := 1, b := B }) := Lib.hid ⟨⟨(by decide : 1 < 256), obZ_wf.z, obZ_wf.ids, obZ_wf.es⟩, (obj_zero w6 (fun _ => False)).o.lb, (obj_zero w6 (fun _ => False)).o.nm, (by have := HR2.out.2; unfold maxLen; simp only; omega), Ids.nil _ _ _ _ (Nat.zero_le _), Ens.nil _ _ _ _ (Nat.zero_le _)⟩
  have HEL : Hid (0 ≤ 100000000) := Lib.hid (by omega)
  have H0 : Hid (w6 = w6) := Lib.hid rfl
  go_wp2_with fail
  go_loopw [8] (fun i9 wr => i9 = .int .u64 0 ∧ wr = w6) (fun _ _ => 0)
  case atStart => exact ⟨rfl, rfl⟩
  case round =>
    obtain ⟨rfl, rfl⟩ := hrel
    have hen := ref_end m2 e2 wr
    obtain ⟨XO, hXO⟩ : ∃ XO, XO = omV atZ { obZ with k := 1, b := B } := ⟨_, rfl⟩
    have HXO : Hid (XO = omV atZ { obZ with k := 1, b := B } ∧ XO.size = 6 ∧ XO.all (·.oneCell') = true) := Lib.hid ⟨hXO, by rw [hXO]; rfl, by rw [hXO]; exact omV_one _ _⟩
    have HGS : Hid (wr.heap[w.heap.size]? = some (.cells ZO 37 (0, 0)) ∧ wr.heap[q6]? = some (.cells XO 37 (0, 0)) ∧ wr.heap[q4]? = some (.cells (rvC m2 e2) 75 (0, 0)) ∧ Below w.heap.size w wr) := Lib.hid ⟨by have := H6.out.res; rwa [HZS.out.2.2.2] at this, by rw [hXO]; exact H6.out.o, H6.out.r, H6.out.bel⟩
    clear hXO
    by_cases hE : endE m2 e2 = 0
    · rw [hE] at hen
      obtain ⟨he0, hm0⟩ := fend_zero hE
      have HXE : Hid (getO b = endO ({ obZ with k := 1, b := B }, 0, [], 0)) := Lib.hid (by rw [HX.out.2, ← HX.out.1 he0, hm0, he0])
      have hck := fun (W : World) (hW : Below wr.heap.size wr W) => rchk_any (HO.out.below hW) (by have := HEL.out; exact this)
      rw [← HXO.out.1] at hck
      clear hE he0 hm0
      by_cases hc : chkO { obZ with k := 1, b := B } = 0
      · rw [hc] at hck
        have HG : Hid (getO b = ({ obZ with k := 1, b := B }, 0)) := Lib.hid (by rw [HXE.out]; exact endO_fine hc)
        clear hc
        go_wp2_with (first
          | (refine wpList_load_row (by rfl) 75 (.tmp 4) (by rfl) q4 (by rfl) 75 (rvC m2 e2) (0, 0) _ HGS.out.2.2.1 Tryd.underlying75 (by rfl) r_info ?_)
          | (go_at_call 37; refine hen.mono ?_; clear hen; rintro _ w9 ⟨rfl, hb9⟩; have hck9 := hck w9 hb9; clear hck; have hx9 := (hb9.block _ (lt_of_cells HGS.out.2.1)).trans HGS.out.2.1)
          | (refine wpList_load_row (o := ⟨some 140, _, _, _, _, _⟩) (by rfl) 37 (.tmp 6) (by rfl) q6 (by rfl) 37 XO (0, 0) _ hx9 Tryd.underlying37 (by rfl) (by rw [HXO.out.2.1]; exact om_info) ?_)
          | (go_at_call 13; refine hck9.mono ?_; clear hck9; rintro _ w8 ⟨rfl, hb8⟩; have hx8 := (hb8.block _ (lt_of_cells hx9)).trans hx9; have hr8 := (hb8.block _ (lt_of_cells ((hb9.block _ (lt_of_cells HGS.out.1)).trans HGS.out.1))).trans ((hb9.block _ (lt_of_cells HGS.out.1)).trans HGS.out.1))
          | (refine wpList_load_row (o := ⟨some 144, _, _, _, _, _⟩) (by rfl) 37 (.tmp 6) (by rfl) q6 (by rfl) 37 XO (0, 0) _ hx8 Tryd.underlying37 (by rfl) (by rw [HXO.out.2.1]; exact om_info) ?_)
          | (refine wpList_store_row (by rfl) 37 (.tmp 2) (.tmp 144) (by rfl) w.heap.size XO (by rfl) (by rfl) 37 _ hr8 (by rw [HXO.out.2.1]; exact om_info) (by rw [HXO.out.2.1, HZS.out.1]) HXO.out.2.2 ?_))
        have hrf : (w8.setRow w.heap.size XO).heap[w.heap.size]? = some (.cells XO 37 (0, 0)) := setRow_at hr8
        have hb98 := hb9.trans (hb8.mono hb9.size)
        have hg : w8.grownBy (w8.setRow w.heap.size XO) (some w.heap.size) := gr_row w8 _ _
        refine bodyPost_ret (results_ct rfl _ _ ⟨w.heap.size, 0, none⟩ (.agg XO) (.int .i64 0) rfl rfl (run_loadVar_row _ _ _ _ _ _ _ hrf Tryd.underlying37 rfl (by rw [HXO.out.2.1]; exact om_info))) rfl ⟨atZ, by rw [HG.out, HXO.out.1], by rw [HG.out]; exact ((HO.out.below hb98).turned (T := fun k => k = w.heap.size) (Turned.of_gr hg fun g e => by injection e with e; exact e.symm) fun k _ (hk : w.heap.size < k) e => by omega).mono fun k _ (hk : w.heap.size < k) => by omega, below_setRow (HGS.out.2.2.2.trans (hb98.mono HGS.out.2.2.2.size)) (Nat.le_refl _) _⟩
      · have hc1 : chkO { obZ with k := 1, b := B } = 1 := by unfold chkO at hc ⊢; split <;> simp_all
        rw [hc1] at hck
        have HG : Hid (getO b = (obZ, 11)) := Lib.hid (by rw [HXE.out]; unfold endO; simp only; rw [if_neg (by simp), if_neg (by simp [endE]), if_pos hc])
        clear hc hc1
        go_wp2_with (first
          | (refine wpList_load_row (by rfl) 75 (.tmp 4) (by rfl) q4 (by rfl) 75 (rvC m2 e2) (0, 0) _ HGS.out.2.2.1 Tryd.underlying75 (by rfl) r_info ?_)
          | (go_at_call 37; refine hen.mono ?_; clear hen; rintro _ w9 ⟨rfl, hb9⟩; have hck9 := hck w9 hb9; clear hck; have hx9 := (hb9.block _ (lt_of_cells HGS.out.2.1)).trans HGS.out.2.1)
          | (refine wpList_load_row (o := ⟨some 140, _, _, _, _, _⟩) (by rfl) 37 (.tmp 6) (by rfl) q6 (by rfl) 37 XO (0, 0) _ hx9 Tryd.underlying37 (by rfl) (by rw [HXO.out.2.1]; exact om_info) ?_)
          | (go_at_call 13; refine hck9.mono ?_; clear hck9; rintro _ w8 ⟨rfl, hb8⟩; have hr8 := (hb8.block _ (lt_of_cells ((hb9.block _ (lt_of_cells HGS.out.1)).trans HGS.out.1))).trans ((hb9.block _ (lt_of_cells HGS.out.1)).trans HGS.out.1))
          | (refine wpList_build0 (by rfl) 37 (by rfl) (.agg ZO) hbd ?_)
          | (refine wpList_store_row (by rfl) 37 (.tmp 2) (.tmp 143) (by rfl) w.heap.size ZO (by rfl) (by rfl) 37 _ hr8 (by rw [HZS.out.1]; exact om_info) (by rfl) HZS.out.2.1 ?_))
        have hb98 := hb9.trans (hb8.mono hb9.size)
        have hrf : (w8.setRow w.heap.size ZO).heap[w.heap.size]? = some (.cells ZO 37 (0, 0)) := setRow_at hr8
        refine bodyPost_ret (results_ct rfl _ _ ⟨w.heap.size, 0, none⟩ (.agg ZO) (.int .i64 11) rfl rfl (run_loadVar_row _ _ _ _ _ _ _ hrf Tryd.underlying37 rfl (by rw [HZS.out.1]; exact om_info))) rfl ⟨atZ, by rw [HG.out, ← HZS.out.2.2.1], by rw [HG.out]; exact ois_zero _ _, below_setRow (HGS.out.2.2.2.trans (hb98.mono HGS.out.2.2.2.size)) (Nat.le_refl _) _⟩
    · have hne : (endE m2 e2 != 0) = true := by simpa using hE
      have HG : Hid (getO b = (obZ, endE m2 e2)) := Lib.hid (by
        rw [HX.out.2]
        unfold endO
        simp only
        rw [if_neg (by simp), ← alike_e HX.out.1, if_pos hE])
      obtain ⟨E, hEE⟩ : ∃ E, E = endE m2 e2 := ⟨_, rfl⟩
      rw [← hEE] at hen hne HG
      clear hE hEE
      go_wp2_with (first
        | (refine wpList_load_row (by rfl) 75 (.tmp 4) (by rfl) q4 (by rfl) 75 (rvC m2 e2) (0, 0) _ HGS.out.2.2.1 Tryd.underlying75 (by rfl) r_info ?_)
        | (go_at_call 37; refine hen.mono ?_; clear hen; rintro _ w9 ⟨rfl, hb9⟩; have hr9 := (hb9.block _ (lt_of_cells HGS.out.1)).trans HGS.out.1)
        | (refine wpList_build0 (by rfl) 37 (by rfl) (.agg ZO) hbd ?_)
        | (refine wpList_store_row (by rfl) 37 (.tmp 2) (.tmp 138) (by rfl) w.heap.size ZO (by rfl) (by rfl) 37 _ hr9 (by rw [HZS.out.1]; exact om_info) (by rfl) HZS.out.2.1 ?_))
      have hrf : (w9.setRow w.heap.size ZO).heap[w.heap.size]? = some (.cells ZO 37 (0, 0)) := setRow_at hr9
      refine bodyPost_ret (results_ct rfl _ _ ⟨w.heap.size, 0, none⟩ (.agg ZO) (.int .i64 E) rfl rfl (run_loadVar_row _ _ _ _ _ _ _ hrf Tryd.underlying37 rfl (by rw [HZS.out.1]; exact om_info))) rfl ⟨atZ, by rw [HG.out, ← HZS.out.2.2.1], by rw [HG.out]; exact ois_zero _ _, below_setRow (HGS.out.2.2.2.trans (hb9.mono HGS.out.2.2.2.size)) (Nat.le_refl _) _⟩
set_option maxHeartbeats 16000000 in
set_option maxRecDepth 100000 in
theorem rget2 (b : List UInt8) (w : World) (h0 : uiE b 0 = 0) (hk : uiX b 0 = 2) :
    Calls Tryd.prog 16 #[.string (st b)] w (OrPost w (getO b)) := by
  have hzo : ∀ W, (zeroValue 37).run Tryd.prog W = .ok (.agg zeroOm) W := zero_om
  have hzr := zero_r2
  have hb0 : Below w.heap.size w (w.alloc (.cells zeroOm 37)) := (Below.refl _ _).alloc (Nat.le_refl _) _
  have hui := ref_uint b 0 (w.alloc (.cells zeroOm 37))
  have HN : Hid ((w.alloc (.cells zeroOm 37)).heap[w.heap.size]? = some (.cells zeroOm 37 (0, 0)) ∧ Below w.heap.size w (w.alloc (.cells zeroOm 37))) := Lib.hid ⟨heap_alloc_new w _, hb0⟩
  obtain ⟨ZO, hZO⟩ : ∃ ZO, ZO = zeroOm := ⟨_, rfl⟩
  rw [← hZO] at hui hzo HN
  have HZS : Hid (ZO.size = 6 ∧ ZO.all (·.oneCell') = true ∧ ZO = omV atZ obZ ∧ zeroOm = ZO) := Lib.hid ⟨by rw [hZO]; rfl, by rw [hZO]; exact omV_one atZ obZ, by rw [hZO]; rfl, hZO.symm⟩
  have hbd : ∀ W, (Instr.build 37 #[]).run Tryd.prog W = .ok (.agg ZO) W := fun W => by rw [hZO]; exact build_om W
  clear hZO hb0
  have HRO := Lib.hid (And.intro h0 hk)
  rw [h0, hk] at hui
  have hui : Calls Tryd.prog 33 #[RV b 0] (w.alloc (.cells ZO 37)) (RGot (w.alloc (.cells ZO 37)) 0 (uiL b 0) (.int .u64 2)) := hui
  obtain ⟨l1, hl1⟩ : ∃ l1, l1 = uiL b 0 := ⟨_, rfl⟩
  rw [← hl1] at hui
  have HL := Lib.hid hl1
  clear h0 hk hl1
  obtain ⟨KO, hKO⟩ : ∃ KO, KO = omV atZ { obZ with k := 2 } := ⟨_, rfl⟩
  have hbt : Tryd.prog.built 37 [(0, .int .u8 2)] = some KO := by rw [hKO]; exact built_om _ rfl
  have HKO : Hid (KO = omV atZ { obZ with k := 2 } ∧ KO.size = 6 ∧ KO.all (·.oneCell') = true) := Lib.hid ⟨hKO, by rw [hKO]; rfl, by rw [hKO]; exact omV_one _ _⟩
  clear hKO
  go_enter Tryd.func16, Tryd.ntmps16
  go_upto_region 2 with (first
    | (go_at_call 33; refine hui.mono ?_; clear hui; rintro _ w1 ⟨m0, rfl, hm0, hb1⟩; have HM0 := Lib.hid hm0; clear hm0)
    | (refine wpList_store_row (by rfl) 75 (.tmp 4) (.tmp 16) (by rfl) w1.heap.size (rvC m0 0) (by rfl) (by rfl) 75 _ (heap_alloc_new w1 _) r_info (by rfl) (rvC_one _ _) ?_))
  obtain ⟨q4, hq4⟩ : ∃ q4, q4 = w1.heap.size := ⟨_, rfl⟩
  have hal : Below w1.heap.size w1 ((w1.alloc (.cells #[.string ⟨#[]⟩, .int .i64 0] 75)).setRow w1.heap.size (rvC m0 0)) := below_setRow ((Below.refl _ _).alloc (Nat.le_refl _) _) (Nat.le_refl _) _
  have H2 : Hid (((w1.alloc (.cells #[.string ⟨#[]⟩, .int .i64 0] 75)).setRow w1.heap.size (rvC m0 0)).heap[w.heap.size]? = some (.cells ZO 37 (0, 0)) ∧ ((w1.alloc (.cells #[.string ⟨#[]⟩, .int .i64 0] 75)).setRow w1.heap.size (rvC m0 0)).heap[w1.heap.size]? = some (.cells (rvC m0 0) 75 (0, 0)) ∧ w.heap.size < w1.heap.size ∧ Below w.heap.size w ((w1.alloc (.cells #[.string ⟨#[]⟩, .int .i64 0] 75)).setRow w1.heap.size (rvC m0 0))) := Lib.hid (by
    have h1 := (hb1.block _ (lt_of_cells HN.out.1)).trans HN.out.1
    have h2 := HN.out.2.trans (hb1.mono HN.out.2.size)
    exact ⟨(hal.block _ (lt_of_cells h1)).trans h1, setRow_at (heap_alloc_new w1 _), lt_of_cells h1, h2.trans (hal.mono h2.size)⟩)
  rw [← hq4] at H2 ⊢
  clear hal hb1 hzr hq4
  generalize (w1.alloc (.cells #[.string ⟨#[]⟩, .int .i64 0] 75)).setRow q4 (rvC m0 0) = w2 at *
  have hc1 : w2.cell? ⟨q4, 1, none⟩ = some (.int .i64 0) := (cell_of_cells H2.out.2.1 1).trans rfl
  go_upto_region 7 with (first
    | (refine wpList_built (by rfl) 37 #[(0, .tmp 32)] (by rfl) [(0, .int .u8 2)] (by simp [Act.eval]) KO hbt ?_)
    | (refine wpList_store_row (by rfl) 37 (.tmp 6) (.tmp 33) (by rfl) w2.heap.size KO (by rfl) (by rfl) 37 _ (heap_alloc_new w2 _) (by rw [HKO.out.2.1]; exact om_info) (by rw [HKO.out.2.1, HZS.out.1]) HKO.out.2.2 ?_))
  obtain ⟨q6, hq6⟩ : ∃ q6, q6 = w2.heap.size := ⟨_, rfl⟩
  obtain rfl : m0 = l1 := by have h := HM0.out; simpa using h
  have hal : Below w2.heap.size w2 ((w2.alloc (.cells ZO 37)).setRow w2.heap.size KO) := below_setRow ((Below.refl _ _).alloc (Nat.le_refl _) _) (Nat.le_refl _) _
  have hpa : ((w2.alloc (.cells ZO 37)).setRow w2.heap.size KO).heap[w2.heap.size]? = some (.cells KO 37 (0, 0)) := setRow_at (heap_alloc_new w2 _)
  have H3 : Hid (GoS w ((w2.alloc (.cells ZO 37)).setRow w2.heap.size KO) q4 q6 m0 0 (omV atZ { obZ with k := 2 })) := Lib.hid ⟨(hal.block _ (lt_of_cells H2.out.1)).trans (by rw [HZS.out.2.2.2]; exact H2.out.1), (hal.block _ (lt_of_cells H2.out.2.1)).trans H2.out.2.1, by rw [hq6, ← HKO.out.1]; exact hpa, H2.out.2.2.1, by rw [hq6]; exact lt_of_cells H2.out.2.1, H2.out.2.2.2.trans (hal.mono H2.out.2.2.2.size)⟩
  clear hal hpa hzo hbt hc1 HM0
  generalize (w2.alloc (.cells ZO 37)).setRow w2.heap.size KO = w3 at *
  rw [← hq6]
  clear hq6 H2
  have hu2 := ref_uint m0 0 w3
  obtain ⟨z, hz⟩ : ∃ z, z = uiX m0 0 := ⟨_, rfl⟩
  obtain ⟨l2, hl2⟩ : ∃ l2, l2 = uiL m0 0 := ⟨_, rfl⟩
  obtain ⟨e2, he2⟩ : ∃ e2, e2 = uiE m0 0 := ⟨_, rfl⟩
  rw [← hz, ← hl2, ← he2] at hu2
  have HU : Hid (z = uiX m0 0 ∧ l2 = uiL m0 0 ∧ e2 = uiE m0 0 ∧ z < 18446744073709551616) := Lib.hid ⟨hz, hl2, he2, by rw [hz]; exact uiX_lt _ _⟩
  clear hz hl2 he2
  go_upto_region 12 with (first
    | (refine wpList_load_row (by rfl) 75 (.tmp 4) (by rfl) q4 (by rfl) 75 (rvC m0 0) (0, 0) _ H3.out.r Tryd.underlying75 (by rfl) r_info ?_)
    | (go_at_call 33; refine hu2.mono ?_; clear hu2; rintro _ w4 ⟨m2, rfl, hm2, hb4⟩; have H4 := Lib.hid (H3.out.later hb4); have H5 := Lib.hid (H4.out.setr m2 e2); have hc2 : (w4.setRow q4 (rvC m2 e2)).cell? ⟨q6, 2, none⟩ = some (.int .u64 0) := (cell_of_cells H5.out.o 2).trans rfl; have hf2 := free_of_cells H5.out.o 2; have hs2 := lt_of_cells H5.out.o; clear hb4)
    | (refine wpList_store_row (by rfl) 75 (.tmp 4) (.tmp 51) (by rfl) q4 (rvC m2 e2) (by rfl) (by rfl) 75 _ H4.out.r r_info (by rfl) (rvC_one _ _) ?_))
  have H6 := Lib.hid (H5.out.set 2 (.int .u64 (z : Int)) (omV atZ { obZ with k := 2, z := z }) rfl)
  have HM2 := Lib.hid hm2
  clear hc2 hf2 hs2 H4 H5 H3 hm2
  generalize (w4.setRow q4 (rvC m2 e2)).setCell ⟨q6, 2, none⟩ (.int .u64 (z : Int)) = w6 at *
  have hu3 := ref_uint m2 e2 w6
  obtain ⟨a1, a2, a3⟩ := galike_ui (l := l2) (m := m2) (e := e2) HM2.out
  obtain ⟨M, hM⟩ : ∃ M, M = uiX l2 e2 := ⟨_, rfl⟩
  obtain ⟨l3, hl3⟩ : ∃ l3, l3 = uiL l2 e2 := ⟨_, rfl⟩
  obtain ⟨e3, he3⟩ : ∃ e3, e3 = uiE l2 e2 := ⟨_, rfl⟩
  rw [a1, a2, ← hM, ← he3] at hu3
  have HC : Hid (M = uiX l2 e2 ∧ l3 = uiL l2 e2 ∧ e3 = uiE l2 e2 ∧ (e3 = 0 → uiL m2 e2 = l3)) := Lib.hid ⟨hM, hl3, he3, fun h => by first | (rw [hl3]; done) | (rw [hl3]; exact a3 (by rw [← he3]; exact h))⟩
  clear hM hl3 he3 a1 a2 a3
  go_upto_region 14 with (first
    | (refine wpList_load_row (by rfl) 75 (.tmp 4) (by rfl) q4 (by rfl) 75 (rvC m2 e2) (0, 0) _ H6.out.r Tryd.underlying75 (by rfl) r_info ?_)
    | (go_at_call 33; refine hu3.mono ?_; clear hu3; rintro _ w7 ⟨m3, rfl, hm3, hb7⟩; have H7 := Lib.hid (H6.out.later hb7); clear hb7)
    | (refine wpList_store_row (by rfl) 75 (.tmp 4) (.tmp 63) (by rfl) q4 (rvC m3 e3) (by rfl) (by rfl) 75 _ H7.out.r r_info (by rfl) (rvC_one _ _) ?_))
  have H8 := Lib.hid (H7.out.setr m3 e3)
  have HM3 : Hid (e3 = 0 → m3 = l3) := Lib.hid fun h => by rw [hm3 h]; exact HC.out.2.2.2 h
  clear hm3 H7
  generalize w7.setRow q4 (rvC m3 e3) = w8 at *
  by_cases hbig : 1000 < M
  · have hb' : (M : Int) > 1000 := by omega
    have HG : Hid (getO b = (obZ, 11)) := Lib.hid (by
      unfold getO
      unfold readO; rw [if_neg (by rw [HRO.out.1]; simp), if_neg (by rw [HRO.out.2]; omega), if_neg (by rw [HRO.out.2]; omega), if_pos HRO.out.2, ← HL.out, ← HU.out.1, ← HU.out.2.1, ← HU.out.2.2.1, if_pos (by rw [← HC.out.1]; exact hbig)]
      rfl)
    have hr8 := H8.out.res
    rw [HZS.out.2.2.2] at hr8
    have HB8 := Lib.hid H8.out.bel
    clear hbig
    go_wp2_with (first
      | (refine wpList_build0 (by rfl) 37 (by rfl) (.agg ZO) hbd ?_)
      | (refine wpList_store_row (by rfl) 37 (.tmp 2) (.tmp 79) (by rfl) w.heap.size ZO (by rfl) (by rfl) 37 _ hr8 (by rw [HZS.out.1]; exact om_info) (by rfl) HZS.out.2.1 ?_))
    have hrf : (w8.setRow w.heap.size ZO).heap[w.heap.size]? = some (.cells ZO 37 (0, 0)) := setRow_at hr8
    refine bodyPost_ret (results_ct rfl _ _ ⟨w.heap.size, 0, none⟩ (.agg ZO) (.int .i64 11) rfl rfl (run_loadVar_row _ _ _ _ _ _ _ hrf Tryd.underlying37 rfl (by rw [HZS.out.1]; exact om_info))) rfl ⟨atZ, by rw [HG.out, ← HZS.out.2.2.1], by rw [HG.out]; exact ois_zero _ _, below_setRow HB8.out (Nat.le_refl _) _⟩
  have HGO : Hid (getO b = endO (let r := igo M [] l3 e3; ({ obZ with k := 2, z := z, ids := r.1 }, 0, r.2.1, r.2.2)) ∧ M ≤ 1000) := Lib.hid ⟨by
    unfold getO
    unfold readO; rw [if_neg (by rw [HRO.out.1]; simp), if_neg (by rw [HRO.out.2]; omega), if_neg (by rw [HRO.out.2]; omega), if_pos HRO.out.2, ← HL.out, ← HU.out.1, ← HU.out.2.1, ← HU.out.2.2.1, if_neg (by rw [← HC.out.1]; exact hbig), ← HC.out.1, ← HC.out.2.1, ← HC.out.2.2.1], by omega⟩
  have hb' : ¬ (M : Int) > 1000 := by omega
  clear hbig
  have H0 : Hid (GiR w q4 q6 2 z M l3 e3 (.int .u64 0) w8) := Lib.hid ⟨0, [], l3, e3, m3, none, 0, Nat.zero_le _, rfl, rfl, rfl, (fun _ h => absurd h (by simp)), HM3.out, H8.out, World.ownsRow_nil _ _ _ _⟩
  have hzi := zero_id
  go_wp2_with fail
  go_loopw [8] (fun i9 wr => GiR w q4 q6 2 z M l3 e3 i9 wr) (fun i9 _ => M - (intOf i9).toNat)
  case atStart => exact H0.out
  case round =>
    obtain ⟨j, acc, l, e, m, A9, c9, hj, rfl, hgo, hac, ha32, hml, hG9, hown⟩ := hrel
    have H9 := Lib.hid hG9
    have HR := Lib.hid (And.intro hgo (And.intro hac (And.intro ha32 (And.intro hml hown))))
    clear hgo hac ha32 hml hown hG9 H0
    by_cases hlt : j < M
    · have hlt' : (j : Int) < (M : Int) := by omega
      have hadd := IntWalk.u64_in ((j : Int) + 1) (by have := HGO.out.2; omega)
      have HJ := Lib.hid hlt
      clear hlt hj
      obtain ⟨ZI, hZI⟩ : ∃ ZI, ZI = zerosId := ⟨_, rfl⟩
      rw [← hZI] at hzi
      have HZI : Hid (ZI.size = 32) := Lib.hid (by rw [hZI]; simp [zerosId, u8s_length])
      have hbz : Below wr.heap.size wr (wr.alloc (.cells ZI 49)) := (Below.refl _ _).alloc (Nat.le_refl _) _
      have hiw := heap_alloc_new wr (.cells ZI 49)
      have H10 := Lib.hid (And.intro (H9.out.later hbz) (And.intro (own_below HR.out.2.2.2.2 hbz) hiw))
      have HX0 : Hid (q6 < wr.heap.size ∧ ∀ g, (Value.slice A9 j c9).ownBlock = some g → g < wr.heap.size) := Lib.hid ⟨lt_of_cells H9.out.o, fun g hg => (HR.out.2.2.2.2.lt g hg).2⟩
      clear hZI hbz hiw H9
      go_upto_region 26 with fail
      clear hzi
      generalize wr.alloc (.cells ZI 49) = w10 at *
      generalize wr.heap.size = x0 at *
      have hid := ref_id m e w10
      rw [alike_i HR.out.2.2.2.1] at hid
      obtain ⟨a1, a2, a3⟩ := galike_fx (l := l) (m := m) (e := e) 32 HR.out.2.2.2.1
      obtain ⟨Y, hY⟩ : ∃ Y, Y = idL l e := ⟨_, rfl⟩
      obtain ⟨XS, hXS⟩ : ∃ XS, XS = idC l e := ⟨_, rfl⟩
      obtain ⟨l5, hl5⟩ : ∃ l5, l5 = fxL l e 32 := ⟨_, rfl⟩
      obtain ⟨m5, hm5⟩ : ∃ m5, m5 = fxL m e 32 := ⟨_, rfl⟩
      obtain ⟨e5, he5⟩ : ∃ e5, e5 = tkE l e 32 := ⟨_, rfl⟩
      rw [a2, ← hXS, ← hm5, ← he5] at hid
      have HY : Hid (XS = row8 Y ∧ Y.length = 32 ∧ Y = idL l e ∧ l5 = fxL l e 32 ∧ e5 = tkE l e 32 ∧ (e5 = 0 → m5 = l5) ∧ XS.size = 32 ∧ XS.all (·.oneCell') = true) := Lib.hid ⟨by rw [hXS, hY]; rfl, by rw [hY]; exact idL_length _ _, hY, hl5, he5, fun h => by rw [hm5, hl5]; exact a3 (by rw [← he5]; exact h), by rw [hXS]; show (row8 (idL l e)).size = 32; rw [row8_size, idL_length], by rw [hXS]; exact row8_one (idL l e)⟩
      clear hY hXS hl5 hm5 he5 a1 a2 a3
      go_upto_region 27 with (first
        | (refine wpList_load_row (by rfl) 75 (.tmp 4) (by rfl) q4 (by rfl) 75 (rvC m e) (0, 0) _ H10.out.1.r Tryd.underlying75 (by rfl) r_info ?_)
        | (go_at_call 36; refine hid.mono ?_; clear hid; rintro _ w11 ⟨rfl, hb11⟩; have H11 := Lib.hid (And.intro (H10.out.1.later hb11) (And.intro (own_below H10.out.2.1 hb11) ((hb11.block _ (lt_of_cells H10.out.2.2)).trans H10.out.2.2))); clear hb11)
        | (refine wpList_store_row (by rfl) 75 (.tmp 4) (.tmp 118) (by rfl) q4 (rvC m5 e5) (by rfl) (by rfl) 75 _ H11.out.1.r r_info (by rfl) (rvC_one _ _) ?_)
        | (refine wpList_store_row (by rfl) 49 (.tmp 10) (.tmp 119) (by rfl) x0 XS (by rfl) (by rfl) 49 _ ((setRow_ne w11 _ _ _ (by have h1 := HX0.out.1; have h2 := H11.out.1.l2; omega)).trans H11.out.2.2) (by rw [HY.out.2.2.2.2.2.2.1]; exact id_info) (by rw [HY.out.2.2.2.2.2.2.1, HZI.out]) HY.out.2.2.2.2.2.2.2 ?_))
      have H12 : Hid (GoS w ((w11.setRow q4 (rvC m5 e5)).setRow x0 XS) q4 q6 m5 e5 (omV ⟨none, 0, 0, A9, j, c9, none, 0, 0⟩ { obZ with k := 2, z := z, ids := acc }) ∧ ((w11.setRow q4 (rvC m5 e5)).setRow x0 XS).ownsRow (q6 + 1) 49 32 (.slice A9 j c9) j (idsC acc) ∧ ((w11.setRow q4 (rvC m5 e5)).setRow x0 XS).heap[x0]? = some (.cells XS 49 (0, 0))) := Lib.hid (by
        have h1 := H11.out.1.setr m5 e5
        have h2 := own_grown H11.out.2.1 (gr_setr w11 q4 (rvC m5 e5)) (by have := h1.l2; omega)
        have h3 : (w11.setRow q4 (rvC m5 e5)).heap[x0]? = some (.cells ZI 49 (0, 0)) := (setRow_ne w11 _ _ _ (by have h4 := HX0.out.1; have h5 := H11.out.1.l2; omega)).trans H11.out.2.2
        exact ⟨h1.own (below_setRow (Below.refl _ _) (by have := HX0.out.1; omega) _), own_gr2 h2 (gr_setr _ x0 XS) fun g hg => by have := HX0.out.2 g hg; omega, setRow_at h3⟩)
      have HM5 : Hid (e5 = 0 → m5 = l5) := Lib.hid HY.out.2.2.2.2.2.1
      clear H11 H10
      generalize (w11.setRow q4 (rvC m5 e5)).setRow x0 XS = w12 at *
      have hc3 : w12.cell? ⟨q6, 3, none⟩ = some (.slice A9 j c9) := (cell_of_cells H12.out.1.o 3).trans rfl
      have hbs := run_ids_lit w12 XS HY.out.1 HY.out.2.1
      have hb13 : Below w12.heap.size w12 (w12.alloc (.cells XS 49)) := (Below.refl _ _).alloc (Nat.le_refl _) _
      obtain ⟨A14, c14, w14, hap, hown14, hb14, _⟩ := own_ids_app (l := acc) (m := [Y]) (n2 := 1) (c2 := 1) (a := ⟨w12.heap.size, 0, none⟩) (v := .slice A9 j c9) (by rw [HR.out.2.1]; exact own_below H12.out.2.1 hb13) (by have h1 := lt_of_cells H12.out.1.o; have h2 := hb13.size; omega) (fun y hy => (List.mem_append.1 hy).elim (HR.out.2.2.1 y) fun hy => by rw [List.mem_singleton.1 hy]; exact HY.out.2.1) rfl (fun o u hu => by
        rw [add_plain, Nat.zero_add, cell_of_cells (heap_alloc_new w12 _), HY.out.1]
        simpa [idsC, row8] using hu) (by have h1 := HR.out.2.1; have h2 := HJ.out; have h3 := HGO.out.2; omega) 24
      have hl14 : (acc ++ [Y]).length = j + 1 := by rw [List.length_append, HR.out.2.1]; rfl
      rw [hl14] at hap hown14
      have H14 := Lib.hid (And.intro ((H12.out.1.later hb13).own hb14) hown14)
      clear hb13 hown14 hb14 hl14
      have hc3b : w14.cell? ⟨q6, 3, none⟩ = some (.slice A9 j c9) := (cell_of_cells H14.out.1.o 3).trans rfl
      have hf3b := free_of_cells H14.out.1.o 3
      have hs3b := lt_of_cells H14.out.1.o
      have H15 := Lib.hid (And.intro (H14.out.1.set 3 (.slice A14 (j + 1) c14) (omV ⟨none, 0, 0, A14, j + 1, c14, none, 0, 0⟩ { obZ with k := 2, z := z, ids := acc ++ [Y] }) rfl) (own_grown H14.out.2 (gr_set (gr_refl w14 (some q6)) 3 (.slice A14 (j + 1) c14)) (Nat.lt_succ_self _)))
      have HX12 : Hid (w12.heap[x0]? = some (.cells XS 49 (0, 0))) := Lib.hid H12.out.2.2
      clear H14 H12
      go_wp2_with (first
        | (refine wpList_load_row (by rfl) 49 (.tmp 10) (by rfl) x0 (by rfl) 49 XS (0, 0) _ HX12.out Tryd.underlying49 (by rfl) (by rw [HY.out.2.2.2.2.2.2.1]; exact id_info) ?_)
        | (refine wpList_lit1 (by rfl) 24 (.tmp 122) (by rfl) (by rfl) hbs ?_)
        | (at_builtin; refine wpList_app (by rfl) (.tmp 121) (.tmp 123) 24 (by rfl) (by rfl) (by rfl) hap ?_))
      go_roundw
      case rel =>
        unfold GiR
        refine ⟨j + 1, acc ++ [Y], l5, e5, m5, A14, c14, by have := HJ.out; omega, by simp, ?_, by rw [List.length_append, HR.out.2.1]; rfl, fun y hy => (List.mem_append.1 hy).elim (HR.out.2.2.1 y) fun hy => by rw [List.mem_singleton.1 hy]; exact HY.out.2.1, HM5.out, H15.out.1, H15.out.2⟩
        have h1 := HR.out.1
        rw [show M - j = (M - (j + 1)) + 1 by have := HJ.out; omega, igo, ← HY.out.2.2.1, ← HY.out.2.2.2.1, ← HY.out.2.2.2.2.1] at h1
        exact h1
      case measure => have := HJ.out; simp only [intOf]; omega
    · have hlt' : ¬ (j : Int) < (M : Int) := by omega
      have hjM : M - j = 0 := by omega
      have HG1 : Hid (igo M [] l3 e3 = (acc, l, e)) := Lib.hid (by rw [HR.out.1, hjM]; rfl)
      have hids := own_ids HR.out.2.2.2.2 HR.out.2.2.1
      have HIDS : Hid (Ids wr (fun k => w.heap.size < k) A9 j c9 acc) := Lib.hid (by
        obtain ⟨A', c', hv, hi⟩ := hids
        injection hv with h1 h2 h3
        subst h1 h3
        have h4 := H9.out.l1
        have h5 := H9.out.l2
        exact hi.mono fun k _ (hk : q6 + 1 ≤ k) => by omega)
      clear hlt hj hjM hids hzi
      have HX : Hid ((e = 0 → m = l) ∧ getO b = endO ({ obZ with k := 2, z := z, ids := acc }, 0, l, e)) := Lib.hid ⟨HR.out.2.2.2.1, by rw [HGO.out.1, HG1.out]⟩
      have HO : Hid (Ois wr (fun k => w.heap.size < k) ⟨none, 0, 0, A9, j, c9, none, 0, 0⟩ { obZ with k := 2, z := z, ids := acc }) := Lib.hid ⟨⟨(by decide : 2 < 256), HU.out.2.2.2, HR.out.2.2.1, obZ_wf.es⟩, (obj_zero wr (fun _ => False)).o.lb, (obj_zero wr (fun _ => False)).o.nm, (obj_zero wr (fun _ => False)).o.bl, HIDS.out, Ens.nil _ _ _ _ (Nat.zero_le _)⟩
      have HEL : Hid (0 ≤ 100000000) := Lib.hid (by omega)
      have hen := ref_end m e wr
      obtain ⟨XO, hXO⟩ : ∃ XO, XO = omV ⟨none, 0, 0, A9, j, c9, none, 0, 0⟩ { obZ with k := 2, z := z, ids := acc } := ⟨_, rfl⟩
      have HXO : Hid (XO = omV ⟨none, 0, 0, A9, j, c9, none, 0, 0⟩ { obZ with k := 2, z := z, ids := acc } ∧ XO.size = 6 ∧ XO.all (·.oneCell') = true) := Lib.hid ⟨hXO, by rw [hXO]; rfl, by rw [hXO]; exact omV_one _ _⟩
      have HGS : Hid (wr.heap[w.heap.size]? = some (.cells ZO 37 (0, 0)) ∧ wr.heap[q6]? = some (.cells XO 37 (0, 0)) ∧ wr.heap[q4]? = some (.cells (rvC m e) 75 (0, 0)) ∧ Below w.heap.size w wr) := Lib.hid ⟨by have := H9.out.res; rwa [HZS.out.2.2.2] at this, by rw [hXO]; exact H9.out.o, H9.out.r, H9.out.bel⟩
      clear hXO
      by_cases hE : endE m e = 0
      · rw [hE] at hen
        obtain ⟨he0, hm0⟩ := fend_zero hE
        have HXE : Hid (getO b = endO ({ obZ with k := 2, z := z, ids := acc }, 0, [], 0)) := Lib.hid (by rw [HX.out.2, ← HX.out.1 he0, hm0, he0])
        have hck := fun (W : World) (hW : Below wr.heap.size wr W) => rchk_any (HO.out.below hW) (by have := HEL.out; exact this)
        rw [← HXO.out.1] at hck
        clear hE he0 hm0
        by_cases hc : chkO { obZ with k := 2, z := z, ids := acc } = 0
        · rw [hc] at hck
          have HG : Hid (getO b = ({ obZ with k := 2, z := z, ids := acc }, 0)) := Lib.hid (by rw [HXE.out]; exact endO_fine hc)
          clear hc
          go_wp2_with (first
            | (refine wpList_load_row (by rfl) 75 (.tmp 4) (by rfl) q4 (by rfl) 75 (rvC m e) (0, 0) _ HGS.out.2.2.1 Tryd.underlying75 (by rfl) r_info ?_)
            | (go_at_call 37; refine hen.mono ?_; clear hen; rintro _ w9 ⟨rfl, hb9⟩; have hck9 := hck w9 hb9; clear hck; have hx9 := (hb9.block _ (lt_of_cells HGS.out.2.1)).trans HGS.out.2.1)
            | (refine wpList_load_row (o := ⟨some 140, _, _, _, _, _⟩) (by rfl) 37 (.tmp 6) (by rfl) q6 (by rfl) 37 XO (0, 0) _ hx9 Tryd.underlying37 (by rfl) (by rw [HXO.out.2.1]; exact om_info) ?_)
            | (go_at_call 13; refine hck9.mono ?_; clear hck9; rintro _ w8 ⟨rfl, hb8⟩; have hx8 := (hb8.block _ (lt_of_cells hx9)).trans hx9; have hr8 := (hb8.block _ (lt_of_cells ((hb9.block _ (lt_of_cells HGS.out.1)).trans HGS.out.1))).trans ((hb9.block _ (lt_of_cells HGS.out.1)).trans HGS.out.1))
            | (refine wpList_load_row (o := ⟨some 144, _, _, _, _, _⟩) (by rfl) 37 (.tmp 6) (by rfl) q6 (by rfl) 37 XO (0, 0) _ hx8 Tryd.underlying37 (by rfl) (by rw [HXO.out.2.1]; exact om_info) ?_)
            | (refine wpList_store_row (by rfl) 37 (.tmp 2) (.tmp 144) (by rfl) w.heap.size XO (by rfl) (by rfl) 37 _ hr8 (by rw [HXO.out.2.1]; exact om_info) (by rw [HXO.out.2.1, HZS.out.1]) HXO.out.2.2 ?_))
          have hrf : (w8.setRow w.heap.size XO).heap[w.heap.size]? = some (.cells XO 37 (0, 0)) := setRow_at hr8
          have hb98 := hb9.trans (hb8.mono hb9.size)
          have hg : w8.grownBy (w8.setRow w.heap.size XO) (some w.heap.size) := gr_row w8 _ _
          refine bodyPost_ret (results_ct rfl _ _ ⟨w.heap.size, 0, none⟩ (.agg XO) (.int .i64 0) rfl rfl (run_loadVar_row _ _ _ _ _ _ _ hrf Tryd.underlying37 rfl (by rw [HXO.out.2.1]; exact om_info))) rfl ⟨⟨none, 0, 0, A9, j, c9, none, 0, 0⟩, by rw [HG.out, HXO.out.1], by rw [HG.out]; exact ((HO.out.below hb98).turned (T := fun k => k = w.heap.size) (Turned.of_gr hg fun g e => by injection e with e; exact e.symm) fun k _ (hk : w.heap.size < k) e => by omega).mono fun k _ (hk : w.heap.size < k) => by omega, below_setRow (HGS.out.2.2.2.trans (hb98.mono HGS.out.2.2.2.size)) (Nat.le_refl _) _⟩
        · have hc1 : chkO { obZ with k := 2, z := z, ids := acc } = 1 := by unfold chkO at hc ⊢; split <;> simp_all
          rw [hc1] at hck
          have HG : Hid (getO b = (obZ, 11)) := Lib.hid (by rw [HXE.out]; unfold endO; simp only; rw [if_neg (by simp), if_neg (by simp [endE]), if_pos hc])
          clear hc hc1
          go_wp2_with (first
            | (refine wpList_load_row (by rfl) 75 (.tmp 4) (by rfl) q4 (by rfl) 75 (rvC m e) (0, 0) _ HGS.out.2.2.1 Tryd.underlying75 (by rfl) r_info ?_)
            | (go_at_call 37; refine hen.mono ?_; clear hen; rintro _ w9 ⟨rfl, hb9⟩; have hck9 := hck w9 hb9; clear hck; have hx9 := (hb9.block _ (lt_of_cells HGS.out.2.1)).trans HGS.out.2.1)
            | (refine wpList_load_row (o := ⟨some 140, _, _, _, _, _⟩) (by rfl) 37 (.tmp 6) (by rfl) q6 (by rfl) 37 XO (0, 0) _ hx9 Tryd.underlying37 (by rfl) (by rw [HXO.out.2.1]; exact om_info) ?_)
            | (go_at_call 13; refine hck9.mono ?_; clear hck9; rintro _ w8 ⟨rfl, hb8⟩; have hr8 := (hb8.block _ (lt_of_cells ((hb9.block _ (lt_of_cells HGS.out.1)).trans HGS.out.1))).trans ((hb9.block _ (lt_of_cells HGS.out.1)).trans HGS.out.1))
            | (refine wpList_build0 (by rfl) 37 (by rfl) (.agg ZO) hbd ?_)
            | (refine wpList_store_row (by rfl) 37 (.tmp 2) (.tmp 143) (by rfl) w.heap.size ZO (by rfl) (by rfl) 37 _ hr8 (by rw [HZS.out.1]; exact om_info) (by rfl) HZS.out.2.1 ?_))
          have hb98 := hb9.trans (hb8.mono hb9.size)
          have hrf : (w8.setRow w.heap.size ZO).heap[w.heap.size]? = some (.cells ZO 37 (0, 0)) := setRow_at hr8
          refine bodyPost_ret (results_ct rfl _ _ ⟨w.heap.size, 0, none⟩ (.agg ZO) (.int .i64 11) rfl rfl (run_loadVar_row _ _ _ _ _ _ _ hrf Tryd.underlying37 rfl (by rw [HZS.out.1]; exact om_info))) rfl ⟨atZ, by rw [HG.out, ← HZS.out.2.2.1], by rw [HG.out]; exact ois_zero _ _, below_setRow (HGS.out.2.2.2.trans (hb98.mono HGS.out.2.2.2.size)) (Nat.le_refl _) _⟩
      · have hne : (endE m e != 0) = true := by simpa using hE
        have HG : Hid (getO b = (obZ, endE m e)) := Lib.hid (by
          rw [HX.out.2]
          unfold endO
          simp only
          rw [if_neg (by simp), ← alike_e HX.out.1, if_pos hE])
        obtain ⟨E, hEE⟩ : ∃ E, E = endE m e := ⟨_, rfl⟩
        rw [← hEE] at hen hne HG
        clear hE hEE
        go_wp2_with (first
          | (refine wpList_load_row (by rfl) 75 (.tmp 4) (by rfl) q4 (by rfl) 75 (rvC m e) (0, 0) _ HGS.out.2.2.1 Tryd.underlying75 (by rfl) r_info ?_)
          | (go_at_call 37; refine hen.mono ?_; clear hen; rintro _ w9 ⟨rfl, hb9⟩; have hr9 := (hb9.block _ (lt_of_cells HGS.out.1)).trans HGS.out.1)
          | (refine wpList_build0 (by rfl) 37 (by rfl) (.agg ZO) hbd ?_)
          | (refine wpList_store_row (by rfl) 37 (.tmp 2) (.tmp 138) (by rfl) w.heap.size ZO (by rfl) (by rfl) 37 _ hr9 (by rw [HZS.out.1]; exact om_info) (by rfl) HZS.out.2.1 ?_))
        have hrf : (w9.setRow w.heap.size ZO).heap[w.heap.size]? = some (.cells ZO 37 (0, 0)) := setRow_at hr9
        refine bodyPost_ret (results_ct rfl _ _ ⟨w.heap.size, 0, none⟩ (.agg ZO) (.int .i64 E) rfl rfl (run_loadVar_row _ _ _ _ _ _ _ hrf Tryd.underlying37 rfl (by rw [HZS.out.1]; exact om_info))) rfl ⟨atZ, by rw [HG.out, ← HZS.out.2.2.1], by rw [HG.out]; exact ois_zero _ _, below_setRow (HGS.out.2.2.2.trans (hb9.mono HGS.out.2.2.2.size)) (Nat.le_refl _) _⟩
set_option maxHeartbeats 16000000 in
set_option maxRecDepth 100000 in
theorem rget3 (b : List UInt8) (w : World) (h0 : uiE b 0 = 0) (hk : uiX b 0 = 3) :
    Calls Tryd.prog 16 #[.string (st b)] w (OrPost w (getO b)) := by
  have hzo : ∀ W, (zeroValue 37).run Tryd.prog W = .ok (.agg zeroOm) W := zero_om
  have hzr := zero_r2
  have hb0 : Below w.heap.size w (w.alloc (.cells zeroOm 37)) := (Below.refl _ _).alloc (Nat.le_refl _) _
  have hui := ref_uint b 0 (w.alloc (.cells zeroOm 37))
  have HN : Hid ((w.alloc (.cells zeroOm 37)).heap[w.heap.size]? = some (.cells zeroOm 37 (0, 0)) ∧ Below w.heap.size w (w.alloc (.cells zeroOm 37))) := Lib.hid ⟨heap_alloc_new w _, hb0⟩
  obtain ⟨ZO, hZO⟩ : ∃ ZO, ZO = zeroOm := ⟨_, rfl⟩
  rw [← hZO] at hui hzo HN
  have HZS : Hid (ZO.size = 6 ∧ ZO.all (·.oneCell') = true ∧ ZO = omV atZ obZ ∧ zeroOm = ZO) := Lib.hid ⟨by rw [hZO]; rfl, by rw [hZO]; exact omV_one atZ obZ, by rw [hZO]; rfl, hZO.symm⟩
  have hbd : ∀ W, (Instr.build 37 #[]).run Tryd.prog W = .ok (.agg ZO) W := fun W => by rw [hZO]; exact build_om W
  clear hZO hb0
  have HRO := Lib.hid (And.intro h0 hk)
  rw [h0, hk] at hui
  have hui : Calls Tryd.prog 33 #[RV b 0] (w.alloc (.cells ZO 37)) (RGot (w.alloc (.cells ZO 37)) 0 (uiL b 0) (.int .u64 3)) := hui
  obtain ⟨l1, hl1⟩ : ∃ l1, l1 = uiL b 0 := ⟨_, rfl⟩
  rw [← hl1] at hui
  have HL := Lib.hid hl1
  clear h0 hk hl1
  obtain ⟨KO, hKO⟩ : ∃ KO, KO = omV atZ { obZ with k := 3 } := ⟨_, rfl⟩
  have hbt : Tryd.prog.built 37 [(0, .int .u8 3)] = some KO := by rw [hKO]; exact built_om _ rfl
  have HKO : Hid (KO = omV atZ { obZ with k := 3 } ∧ KO.size = 6 ∧ KO.all (·.oneCell') = true) := Lib.hid ⟨hKO, by rw [hKO]; rfl, by rw [hKO]; exact omV_one _ _⟩
  clear hKO
  go_enter Tryd.func16, Tryd.ntmps16
  go_upto_region 2 with (first
    | (go_at_call 33; refine hui.mono ?_; clear hui; rintro _ w1 ⟨m0, rfl, hm0, hb1⟩; have HM0 := Lib.hid hm0; clear hm0)
    | (refine wpList_store_row (by rfl) 75 (.tmp 4) (.tmp 16) (by rfl) w1.heap.size (rvC m0 0) (by rfl) (by rfl) 75 _ (heap_alloc_new w1 _) r_info (by rfl) (rvC_one _ _) ?_))
  obtain ⟨q4, hq4⟩ : ∃ q4, q4 = w1.heap.size := ⟨_, rfl⟩
  have hal : Below w1.heap.size w1 ((w1.alloc (.cells #[.string ⟨#[]⟩, .int .i64 0] 75)).setRow w1.heap.size (rvC m0 0)) := below_setRow ((Below.refl _ _).alloc (Nat.le_refl _) _) (Nat.le_refl _) _
  have H2 : Hid (((w1.alloc (.cells #[.string ⟨#[]⟩, .int .i64 0] 75)).setRow w1.heap.size (rvC m0 0)).heap[w.heap.size]? = some (.cells ZO 37 (0, 0)) ∧ ((w1.alloc (.cells #[.string ⟨#[]⟩, .int .i64 0] 75)).setRow w1.heap.size (rvC m0 0)).heap[w1.heap.size]? = some (.cells (rvC m0 0) 75 (0, 0)) ∧ w.heap.size < w1.heap.size ∧ Below w.heap.size w ((w1.alloc (.cells #[.string ⟨#[]⟩, .int .i64 0] 75)).setRow w1.heap.size (rvC m0 0))) := Lib.hid (by
    have h1 := (hb1.block _ (lt_of_cells HN.out.1)).trans HN.out.1
    have h2 := HN.out.2.trans (hb1.mono HN.out.2.size)
    exact ⟨(hal.block _ (lt_of_cells h1)).trans h1, setRow_at (heap_alloc_new w1 _), lt_of_cells h1, h2.trans (hal.mono h2.size)⟩)
  rw [← hq4] at H2 ⊢
  clear hal hb1 hzr hq4
  generalize (w1.alloc (.cells #[.string ⟨#[]⟩, .int .i64 0] 75)).setRow q4 (rvC m0 0) = w2 at *
  have hc1 : w2.cell? ⟨q4, 1, none⟩ = some (.int .i64 0) := (cell_of_cells H2.out.2.1 1).trans rfl
  go_upto_region 7 with (first
    | (refine wpList_built (by rfl) 37 #[(0, .tmp 32)] (by rfl) [(0, .int .u8 3)] (by simp [Act.eval]) KO hbt ?_)
    | (refine wpList_store_row (by rfl) 37 (.tmp 6) (.tmp 33) (by rfl) w2.heap.size KO (by rfl) (by rfl) 37 _ (heap_alloc_new w2 _) (by rw [HKO.out.2.1]; exact om_info) (by rw [HKO.out.2.1, HZS.out.1]) HKO.out.2.2 ?_))
  obtain ⟨q6, hq6⟩ : ∃ q6, q6 = w2.heap.size := ⟨_, rfl⟩
  obtain rfl : m0 = l1 := by have h := HM0.out; simpa using h
  have hal : Below w2.heap.size w2 ((w2.alloc (.cells ZO 37)).setRow w2.heap.size KO) := below_setRow ((Below.refl _ _).alloc (Nat.le_refl _) _) (Nat.le_refl _) _
  have hpa : ((w2.alloc (.cells ZO 37)).setRow w2.heap.size KO).heap[w2.heap.size]? = some (.cells KO 37 (0, 0)) := setRow_at (heap_alloc_new w2 _)
  have H3 : Hid (GoS w ((w2.alloc (.cells ZO 37)).setRow w2.heap.size KO) q4 q6 m0 0 (omV atZ { obZ with k := 3 })) := Lib.hid ⟨(hal.block _ (lt_of_cells H2.out.1)).trans (by rw [HZS.out.2.2.2]; exact H2.out.1), (hal.block _ (lt_of_cells H2.out.2.1)).trans H2.out.2.1, by rw [hq6, ← HKO.out.1]; exact hpa, H2.out.2.2.1, by rw [hq6]; exact lt_of_cells H2.out.2.1, H2.out.2.2.2.trans (hal.mono H2.out.2.2.2.size)⟩
  clear hal hpa hzo hbt hc1 HM0
  generalize (w2.alloc (.cells ZO 37)).setRow w2.heap.size KO = w3 at *
  rw [← hq6]
  clear hq6 H2
  have hu3 := ref_uint m0 0 w3
  obtain ⟨a1, a2, a3⟩ := galike_ui (l := m0) (m := m0) (e := 0) (fun _ => rfl)
  obtain ⟨M, hM⟩ : ∃ M, M = uiX m0 0 := ⟨_, rfl⟩
  obtain ⟨l3, hl3⟩ : ∃ l3, l3 = uiL m0 0 := ⟨_, rfl⟩
  obtain ⟨e3, he3⟩ : ∃ e3, e3 = uiE m0 0 := ⟨_, rfl⟩
  rw [a1, a2, ← hM, ← he3] at hu3
  have HC : Hid (M = uiX m0 0 ∧ l3 = uiL m0 0 ∧ e3 = uiE m0 0 ∧ (e3 = 0 → uiL m0 0 = l3)) := Lib.hid ⟨hM, hl3, he3, fun h => by first | (rw [hl3]; done) | (rw [hl3]; exact a3 (by rw [← he3]; exact h))⟩
  clear hM hl3 he3 a1 a2 a3
  go_upto_region 14 with (first
    | (refine wpList_load_row (by rfl) 75 (.tmp 4) (by rfl) q4 (by rfl) 75 (rvC m0 0) (0, 0) _ H3.out.r Tryd.underlying75 (by rfl) r_info ?_)
    | (go_at_call 33; refine hu3.mono ?_; clear hu3; rintro _ w7 ⟨m3, rfl, hm3, hb7⟩; have H7 := Lib.hid (H3.out.later hb7); clear hb7)
    | (refine wpList_store_row (by rfl) 75 (.tmp 4) (.tmp 63) (by rfl) q4 (rvC m3 e3) (by rfl) (by rfl) 75 _ H7.out.r r_info (by rfl) (rvC_one _ _) ?_))
  have H8 := Lib.hid (H7.out.setr m3 e3)
  have HM3 : Hid (e3 = 0 → m3 = l3) := Lib.hid fun h => by rw [hm3 h]; exact HC.out.2.2.2 h
  clear hm3 H7
  generalize w7.setRow q4 (rvC m3 e3) = w8 at *
  by_cases hbig : 500 < M
  · have hb' : (M : Int) > 500 := by omega
    have HG : Hid (getO b = (obZ, 11)) := Lib.hid (by
      unfold getO
      unfold readO; rw [if_neg (by rw [HRO.out.1]; simp), if_neg (by rw [HRO.out.2]; omega), if_neg (by rw [HRO.out.2]; omega), if_neg (by rw [HRO.out.2]; omega), if_pos HRO.out.2, ← HL.out, if_pos (by rw [← HC.out.1]; exact hbig)]
      rfl)
    have hr8 := H8.out.res
    rw [HZS.out.2.2.2] at hr8
    have HB8 := Lib.hid H8.out.bel
    clear hbig
    go_wp2_with (first
      | (refine wpList_build0 (by rfl) 37 (by rfl) (.agg ZO) hbd ?_)
      | (refine wpList_store_row (by rfl) 37 (.tmp 2) (.tmp 79) (by rfl) w.heap.size ZO (by rfl) (by rfl) 37 _ hr8 (by rw [HZS.out.1]; exact om_info) (by rfl) HZS.out.2.1 ?_))
    have hrf : (w8.setRow w.heap.size ZO).heap[w.heap.size]? = some (.cells ZO 37 (0, 0)) := setRow_at hr8
    refine bodyPost_ret (results_ct rfl _ _ ⟨w.heap.size, 0, none⟩ (.agg ZO) (.int .i64 11) rfl rfl (run_loadVar_row _ _ _ _ _ _ _ hrf Tryd.underlying37 rfl (by rw [HZS.out.1]; exact om_info))) rfl ⟨atZ, by rw [HG.out, ← HZS.out.2.2.1], by rw [HG.out]; exact ois_zero _ _, below_setRow HB8.out (Nat.le_refl _) _⟩
  have HGO : Hid (getO b = endO (let r := ego M [] l3 e3; ({ obZ with k := 3, es := r.1 }, 0, r.2.1, r.2.2)) ∧ M ≤ 500) := Lib.hid ⟨by
    unfold getO
    unfold readO; rw [if_neg (by rw [HRO.out.1]; simp), if_neg (by rw [HRO.out.2]; omega), if_neg (by rw [HRO.out.2]; omega), if_neg (by rw [HRO.out.2]; omega), if_pos HRO.out.2, ← HL.out, if_neg (by rw [← HC.out.1]; exact hbig), ← HC.out.1, ← HC.out.2.1, ← HC.out.2.2.1], by omega⟩
  have hb' : ¬ (M : Int) > 500 := by omega
  clear hbig
  have H0 : Hid (GeR w q4 q6 M l3 e3 (.int .u64 0) w8) := Lib.hid ⟨0, [], [], l3, e3, m3, none, 0, Nat.zero_le _, rfl, rfl, rfl, (fun _ h => absurd h (by simp)), (fun _ h => absurd h (by simp)), fun h => ⟨HM3.out h, rfl⟩, H8.out, World.ownsRow_nil _ _ _ _⟩
  have hzn := zero_nn
  go_wp2_with fail
  go_loopw [8] (fun i9 wr => GeR w q4 q6 M l3 e3 i9 wr) (fun i9 _ => M - (intOf i9).toNat)
  case atStart => exact H0.out
  case round =>
    obtain ⟨j, acc, acr, l, e, m, A9, c9, hj, rfl, hgo, hac, ha32, han, hml, hG9, hown⟩ := hrel
    have H9 := Lib.hid hG9
    have HR := Lib.hid (And.intro hgo (And.intro hac (And.intro ha32 (And.intro hml (And.intro hown han)))))
    clear hgo hac ha32 hml hown hG9 H0 han
    by_cases hlt : j < M
    · have hlt' : (j : Int) < (M : Int) := by omega
      have hadd := IntWalk.u64_in ((j : Int) + 1) (by have := HGO.out.2; omega)
      have HJ := Lib.hid hlt
      clear hlt hj
      obtain ⟨ZE, hZE⟩ : ∃ ZE, ZE = zeroEn := ⟨_, rfl⟩
      rw [← hZE] at hzn
      have HZE : Hid (ZE = enV ([], false, List.replicate 32 0)) := Lib.hid (by rw [hZE, zeroEn_en])
      have hbz : Below wr.heap.size wr (wr.alloc (.cells ZE 62)) := (Below.refl _ _).alloc (Nat.le_refl _) _
      have hiw := heap_alloc_new wr (.cells ZE 62)
      have H10 : Hid (GnS w (wr.alloc (.cells ZE 62)) q4 q6 wr.heap.size m e (omV ⟨none, 0, 0, none, 0, 0, A9, j, c9⟩ { obZ with k := 3, es := acr }) ([], false, List.replicate 32 0) (.slice A9 j c9) j acr) := Lib.hid ⟨H9.out.later hbz, by rw [hiw, HZE.out], own_below HR.out.2.2.2.2.1 hbz, lt_of_cells H9.out.o, fun g hg => (HR.out.2.2.2.2.1.lt g hg).2, by simp⟩
      clear hZE hbz hiw H9
      go_upto_region 21 with fail
      clear hzn
      generalize wr.alloc (.cells ZE 62) = w10 at *
      generalize wr.heap.size = x0 at *
      have hby := ref_bytes m e 255 w10 (by decide)
      obtain ⟨a1, a2, a3⟩ := galike_by (l := l) (m := m) (e := e) 255 (fun h => (HR.out.2.2.2.1 h).1)
      obtain ⟨K, hK⟩ : ∃ K, K = enN l e := ⟨_, rfl⟩
      obtain ⟨l1, hl1⟩ : ∃ l1, l1 = enL1 l e := ⟨_, rfl⟩
      obtain ⟨e1, he1⟩ : ∃ e1, e1 = enE1 l e := ⟨_, rfl⟩
      rw [a1, a2, show byB l e 255 = K from hK.symm, show byE l e 255 = e1 from he1.symm] at hby
      have HE1 : Hid (K = enN l e ∧ l1 = enL1 l e ∧ e1 = enE1 l e ∧ (e1 = 0 → byL m e 255 = l1) ∧ K.length ≤ 255) := Lib.hid ⟨hK, hl1, he1, fun h => by rw [hl1]; exact a3 (by rw [he1] at h; exact h), by rw [hK]; exact by_few l e 255⟩
      clear hK hl1 he1 a1 a2 a3
      go_upto_region 22 with (first
        | (refine wpList_load_row (by rfl) 75 (.tmp 4) (by rfl) q4 (by rfl) 75 (rvC m e) (0, 0) _ H10.out.g.r Tryd.underlying75 (by rfl) r_info ?_)
        | (go_at_call 34; refine hby.mono ?_; clear hby; rintro _ w11 ⟨m1, rfl, hm1, hb11⟩; rw [strB_st]; have H11 := Lib.hid (H10.out.later hb11); have H12 := Lib.hid (H11.out.setr m1 e1); have hc0 : (w11.setRow q4 (rvC m1 e1)).cell? ⟨x0, 0, none⟩ = some (.string (st [])) := (cell_of_cells H12.out.n 0).trans (enV_0 _); have hf0 := free_of_cells H12.out.n 0; have hs0 := lt_of_cells H12.out.n; have HM1 := Lib.hid hm1; clear hb11 hm1)
        | (refine wpList_store_row (by rfl) 75 (.tmp 4) (.tmp 94) (by rfl) q4 (rvC m1 e1) (by rfl) (by rfl) 75 _ H11.out.g.r r_info (by rfl) (rvC_one _ _) ?_))
      have H13 := Lib.hid (H12.out.set 0 (.string (st K)) (K, false, List.replicate 32 0) (enV_set0 _ _) (by simp))
      clear hc0 hf0 hs0 H12 H11 H10
      generalize (w11.setRow q4 (rvC m1 e1)).setCell ⟨x0, 0, none⟩ (.string (st K)) = w13 at *
      have HA1 : Hid (e1 = 0 → m1 = l1) := Lib.hid fun h => by rw [HM1.out h]; exact HE1.out.2.2.2.1 h
      have hbo := ref_bool m1 e1 w13
      obtain ⟨b1, b2⟩ := galike_bo (l := l1) (m := m1) (e := e1) HA1.out
      obtain ⟨D, hD⟩ : ∃ D, D = enD l e := ⟨_, rfl⟩
      obtain ⟨l2, hl2⟩ : ∃ l2, l2 = enL2 l e := ⟨_, rfl⟩
      obtain ⟨e2, he2⟩ : ∃ e2, e2 = enE2 l e := ⟨_, rfl⟩
      have he2' : boE l1 e1 = e2 := by rw [he2, HE1.out.2.1, HE1.out.2.2.1]; rfl
      rw [b1, he2'] at hbo
      have HE2 : Hid (D = enD l e ∧ l2 = enL2 l e ∧ e2 = enE2 l e ∧ (e2 = 0 → boX m1 e1 = D ∧ fxL m1 e1 1 = l2 ∧ e1 = 0)) := Lib.hid ⟨hD, hl2, he2, fun h => by
        obtain ⟨c1, c2, c3⟩ := b2 (by rw [he2']; exact h)
        exact ⟨by rw [c1, hD, HE1.out.2.1, HE1.out.2.2.1]; rfl, by rw [c2, hl2, HE1.out.2.1, HE1.out.2.2.1]; rfl, c3⟩⟩
      clear hD hl2 he2 he2' b1 b2
      go_upto_region 23 with (first
        | (refine wpList_load_row (by rfl) 75 (.tmp 4) (by rfl) q4 (by rfl) 75 (rvC m1 e1) (0, 0) _ H13.out.g.r Tryd.underlying75 (by rfl) r_info ?_)
        | (go_at_call 35; refine hbo.mono ?_; clear hbo; rintro _ w14 ⟨DY, hdy, m2, rfl, hm2, hb14⟩; have H14 := Lib.hid (H13.out.later hb14); have H15 := Lib.hid (H14.out.setr m2 e2); have hc1 : (w14.setRow q4 (rvC m2 e2)).cell? ⟨x0, 1, none⟩ = some (.bool false) := (cell_of_cells H15.out.n 1).trans (enV_1 _); have hf1 := free_of_cells H15.out.n 1; have hs1 := lt_of_cells H15.out.n; have HM2 := Lib.hid (And.intro hm2 hdy); clear hb14 hm2 hdy)
        | (refine wpList_store_row (by rfl) 75 (.tmp 4) (.tmp 100) (by rfl) q4 (rvC m2 e2) (by rfl) (by rfl) 75 _ H14.out.g.r r_info (by rfl) (rvC_one _ _) ?_))
      have H16 := Lib.hid (H15.out.set 1 (.bool DY) (K, DY, List.replicate 32 0) (enV_set1 _ _) (by simp))
      clear hc1 hf1 hs1 H15 H14 H13
      generalize (w14.setRow q4 (rvC m2 e2)).setCell ⟨x0, 1, none⟩ (.bool DY) = w16 at *
      have HA2 : Hid (e2 = 0 → m2 = l2 ∧ DY = D ∧ e1 = 0) := Lib.hid fun h => ⟨by rw [HM2.out.1 h]; exact (HE2.out.2.2.2 h).2.1, by rw [HM2.out.2 h]; exact (HE2.out.2.2.2 h).1, (HE2.out.2.2.2 h).2.2⟩
      have hid := ref_id m2 e2 w16
      rw [alike_i (l := l2) (fun h => (HA2.out h).1)] at hid
      obtain ⟨f1, f2, f3⟩ := galike_fx (l := l2) (m := m2) (e := e2) 32 (fun h => (HA2.out h).1)
      obtain ⟨I, hI⟩ : ∃ I, I = enI l e := ⟨_, rfl⟩
      obtain ⟨IS, hIS⟩ : ∃ IS, IS = idC l2 e2 := ⟨_, rfl⟩
      obtain ⟨l5, hl5⟩ : ∃ l5, l5 = enL3 l e := ⟨_, rfl⟩
      obtain ⟨m5, hm5⟩ : ∃ m5, m5 = fxL m2 e2 32 := ⟨_, rfl⟩
      obtain ⟨e5, he5⟩ : ∃ e5, e5 = enE3 l e := ⟨_, rfl⟩
      have he5' : tkE l2 e2 32 = e5 := by rw [he5, HE2.out.2.1, HE2.out.2.2.1]; rfl
      rw [f2, he5', ← hIS, ← hm5] at hid
      have HE3 : Hid (I = enI l e ∧ l5 = enL3 l e ∧ e5 = enE3 l e ∧ (e5 = 0 → m5 = l5 ∧ e2 = 0) ∧ I.length = 32 ∧ IS = (u8s I).toArray) := Lib.hid ⟨hI, hl5, he5, fun h => ⟨by rw [hm5, f3 (by rw [he5']; exact h), hl5, HE2.out.2.1, HE2.out.2.2.1]; rfl, (tkE_zero (by rw [he5']; exact h)).1⟩, by rw [hI]; exact idL_length _ _, by rw [hIS, hI, HE2.out.2.1, HE2.out.2.2.1]; rfl⟩
      obtain ⟨EV, hEV⟩ : ∃ EV, EV = enV (K, DY, I) := ⟨_, rfl⟩
      have HEV : Hid (EV = enV (K, DY, I) ∧ EV.size = 34) := Lib.hid ⟨hEV, by rw [hEV]; exact enV_size HE3.out.2.2.2.2.1⟩
      clear hI hIS hl5 hm5 he5 he5' f1 f2 f3 hEV
      go_upto_region 24 with (first
        | (refine wpList_load_row (by rfl) 75 (.tmp 4) (by rfl) q4 (by rfl) 75 (rvC m2 e2) (0, 0) _ H16.out.g.r Tryd.underlying75 (by rfl) r_info ?_)
        | (go_at_call 36; refine hid.mono ?_; clear hid; rintro _ w17 ⟨rfl, hb17⟩; have H17 := Lib.hid (H16.out.later hb17); have H18 := Lib.hid (H17.out.setr m5 e5); have hrw := H18.out.n; clear hb17)
        | (refine wpList_store_row (by rfl) 75 (.tmp 4) (.tmp 106) (by rfl) q4 (rvC m5 e5) (by rfl) (by rfl) 75 _ H17.out.g.r r_info (by rfl) (rvC_one _ _) ?_)
        | (refine wpList_store_part (by rfl) 49 (.tmp 108) (.tmp 107) (by rfl) hrw (u8s I) 2 (by rw [u8s_length, HE3.out.2.2.2.2.1, enV_size (by simp)]; decide) (u8s_one I) (by rw [u8s_length, HE3.out.2.2.2.2.1]; exact id_info) EV (by rw [HEV.out.1]; exact enV_setI _ I (by simp) HE3.out.2.2.2.2.1) (by rfl) (by rw [← HE3.out.2.2.2.2.2]; rfl) ?_))
      have H19 := Lib.hid (H18.out.setn (K, DY, I) HE3.out.2.2.2.2.1)
      rw [← HEV.out.1] at H19
      clear hrw H18 H17 H16
      generalize (w17.setRow q4 (rvC m5 e5)).setRow x0 EV = w19 at *
      have hc4 : w19.cell? ⟨q6, 4, none⟩ = some (.slice A9 j c9) := (cell_of_cells H19.out.g.o 4).trans rfl
      have HXE : Hid (w19.heap[x0]? = some (.cells EV 62 (0, 0))) := Lib.hid (by rw [HEV.out.1]; exact H19.out.n)
      have hbs := run_ens_lit nn_info3 Tryd.underlying35 w19 EV HEV.out.1 HE3.out.2.2.2.2.1
      have hb20 : Below w19.heap.size w19 (w19.alloc (.cells EV 62)) := (Below.refl _ _).alloc (Nat.le_refl _) _
      obtain ⟨Y, hY⟩ : ∃ Y : En, Y = (K, DY, I) := ⟨_, rfl⟩
      have HYI : Hid (Y.2.2.length = 32 ∧ EV = enV Y ∧ Y = (K, DY, I)) := Lib.hid ⟨by rw [hY]; exact HE3.out.2.2.2.2.1, by rw [hY]; exact HEV.out.1, hY⟩
      clear hY
      obtain ⟨A14, c14, w20, hap, hown20, hbl20, _⟩ := own_ens_app nn_info3 Tryd.underlying35 (l := acr) (m := [Y]) (n2 := 1) (c2 := 1) (a := ⟨w19.heap.size, 0, none⟩) (v := .slice A9 j c9) (by rw [HR.out.2.1]; exact own_below H19.out.own hb20) (by have h1 := lt_of_cells H19.out.g.o; have h2 := hb20.size; omega) (fun y hy => (List.mem_append.1 hy).elim (HR.out.2.2.1 y) fun hy => by rw [List.mem_singleton.1 hy]; exact HYI.out.1) rfl (fun o u hu => by
        rw [add_plain, Nat.zero_add, cell_of_cells (heap_alloc_new w19 _), HYI.out.2.1]
        simpa [enCells] using hu) (by have h1 := HR.out.2.1; have h2 := HJ.out; have h3 := HGO.out.2; omega) 35
      have hl20 : (acr ++ [Y]).length = j + 1 := by rw [List.length_append, HR.out.2.1]; rfl
      rw [hl20] at hap hown20
      have H20 := Lib.hid (And.intro ((H19.out.g.later hb20).own hbl20) hown20)
      clear hb20 hown20 hbl20 hl20
      have hc4b : w20.cell? ⟨q6, 4, none⟩ = some (.slice A9 j c9) := (cell_of_cells H20.out.1.o 4).trans rfl
      have hf4b := free_of_cells H20.out.1.o 4
      have hs4b := lt_of_cells H20.out.1.o
      have H21 := Lib.hid (And.intro (H20.out.1.set 4 (.slice A14 (j + 1) c14) (omV ⟨none, 0, 0, none, 0, 0, A14, j + 1, c14⟩ { obZ with k := 3, es := acr ++ [Y] }) rfl) (own_grown H20.out.2 (gr_set (gr_refl w20 (some q6)) 4 (.slice A14 (j + 1) c14)) (Nat.lt_succ_self _)))
      clear H20 H19
      go_wp2_with (first
        | (refine wpList_load_row (by rfl) 62 (.tmp 9) (by rfl) x0 (by rfl) 62 EV (0, 0) _ HXE.out Tryd.underlying62 (by rfl) (by rw [HEV.out.2]; exact nn_info) ?_)
        | (refine wpList_lit1 (by rfl) 35 (.tmp 111) (by rfl) (by rfl) hbs ?_)
        | (at_builtin; refine wpList_app (by rfl) (.tmp 110) (.tmp 112) 35 (by rfl) (by rfl) (by rfl) hap ?_))
      go_roundw
      case rel =>
        unfold GeR
        refine ⟨j + 1, acc ++ [(enN l e, enD l e, enI l e)], acr ++ [Y], l5, e5, m5, A14, c14, by have := HJ.out; omega, by simp, ?_, by rw [List.length_append, HR.out.2.1]; rfl, fun y hy => (List.mem_append.1 hy).elim (HR.out.2.2.1 y) fun hy => by rw [List.mem_singleton.1 hy]; exact HYI.out.1, fun y hy => (List.mem_append.1 hy).elim (HR.out.2.2.2.2.2 y) fun hy => by rw [List.mem_singleton.1 hy, HYI.out.2.2]; exact HE1.out.2.2.2.2, fun h => ?_, H21.out.1, H21.out.2⟩
        · have h1 := HR.out.1
          rw [show M - j = (M - (j + 1)) + 1 by have := HJ.out; omega, ego, ← HE3.out.2.1, ← HE3.out.2.2.1] at h1
          exact h1
        · obtain ⟨g1, g2⟩ := HE3.out.2.2.2.1 h
          obtain ⟨g3, g4, g5⟩ := HA2.out g2
          have g6 : byE l e 255 = 0 := by rw [HE1.out.2.2.1] at g5; exact g5
          obtain ⟨g7, _⟩ := by_take l e 255 (.inr g6)
          exact ⟨g1, by rw [(HR.out.2.2.2.1 g7).2, HYI.out.2.2, g4, HE1.out.1, HE2.out.1, HE3.out.1]⟩
      case measure => have := HJ.out; simp only [intOf]; omega
    · have hlt' : ¬ (j : Int) < (M : Int) := by omega
      have hjM : M - j = 0 := by omega
      have HG1 : Hid (ego M [] l3 e3 = (acc, l, e)) := Lib.hid (by rw [HR.out.1, hjM]; rfl)
      have hens := own_ens (l := acr) (v := .slice A9 j c9) HR.out.2.2.1 (by rw [HR.out.2.1]; exact HR.out.2.2.2.2.1)
      have HENS : Hid (Ens wr (fun k => w.heap.size < k) A9 j c9 acr) := Lib.hid (by
        obtain ⟨A', c', hv, hi⟩ := hens
        injection hv with h1 h2 h3
        subst h1 h3
        rw [← h2] at hi
        have h4 := H9.out.l1
        have h5 := H9.out.l2
        exact hi.mono fun k _ (hk : q6 + 1 ≤ k) => by omega)
      have HX : Hid ((e = 0 → m = l) ∧ getO b = endO ({ obZ with k := 3, es := acc }, 0, l, e) ∧ (e = 0 → ({ obZ with k := 3, es := acc } : Ob) = { obZ with k := 3, es := acr })) := Lib.hid ⟨fun h => (HR.out.2.2.2.1 h).1, by rw [HGO.out.1, HG1.out], fun h => by rw [(HR.out.2.2.2.1 h).2]⟩
      have HO : Hid (Ois wr (fun k => w.heap.size < k) ⟨none, 0, 0, none, 0, 0, A9, j, c9⟩ { obZ with k := 3, es := acr }) := Lib.hid ⟨⟨(by decide : 3 < 256), obZ_wf.z, obZ_wf.ids, HR.out.2.2.1⟩, (obj_zero wr (fun _ => False)).o.lb, (fun y hy => by have := HR.out.2.2.2.2.2 y hy; unfold maxLen; omega), (obj_zero wr (fun _ => False)).o.bl, Ids.nil _ _ _ _ (Nat.zero_le _), HENS.out⟩
      have HEL : Hid (j ≤ 100000000) := Lib.hid (by have := HGO.out.2; omega)
      clear hlt hj hjM hens hzn
      have hen := ref_end m e wr
      obtain ⟨XO, hXO⟩ : ∃ XO, XO = omV ⟨none, 0, 0, none, 0, 0, A9, j, c9⟩ { obZ with k := 3, es := acr } := ⟨_, rfl⟩
      have HXO : Hid (XO = omV ⟨none, 0, 0, none, 0, 0, A9, j, c9⟩ { obZ with k := 3, es := acr } ∧ XO.size = 6 ∧ XO.all (·.oneCell') = true) := Lib.hid ⟨hXO, by rw [hXO]; rfl, by rw [hXO]; exact omV_one _ _⟩
      have HGS : Hid (wr.heap[w.heap.size]? = some (.cells ZO 37 (0, 0)) ∧ wr.heap[q6]? = some (.cells XO 37 (0, 0)) ∧ wr.heap[q4]? = some (.cells (rvC m e) 75 (0, 0)) ∧ Below w.heap.size w wr) := Lib.hid ⟨by have := H9.out.res; rwa [HZS.out.2.2.2] at this, by rw [hXO]; exact H9.out.o, H9.out.r, H9.out.bel⟩
      clear hXO
      by_cases hE : endE m e = 0
      · rw [hE] at hen
        obtain ⟨he0, hm0⟩ := fend_zero hE
        have HXE : Hid (getO b = endO ({ obZ with k := 3, es := acr }, 0, [], 0)) := Lib.hid (by rw [HX.out.2.1, HX.out.2.2 he0, ← HX.out.1 he0, hm0, he0])
        have hck := fun (W : World) (hW : Below wr.heap.size wr W) => rchk_any (HO.out.below hW) (by have := HEL.out; exact this)
        rw [← HXO.out.1] at hck
        clear hE he0 hm0
        by_cases hc : chkO { obZ with k := 3, es := acr } = 0
        · rw [hc] at hck
          have HG : Hid (getO b = ({ obZ with k := 3, es := acr }, 0)) := Lib.hid (by rw [HXE.out]; exact endO_fine hc)
          clear hc
          go_wp2_with (first
            | (refine wpList_load_row (by rfl) 75 (.tmp 4) (by rfl) q4 (by rfl) 75 (rvC m e) (0, 0) _ HGS.out.2.2.1 Tryd.underlying75 (by rfl) r_info ?_)
            | (go_at_call 37; refine hen.mono ?_; clear hen; rintro _ w9 ⟨rfl, hb9⟩; have hck9 := hck w9 hb9; clear hck; have hx9 := (hb9.block _ (lt_of_cells HGS.out.2.1)).trans HGS.out.2.1)
            | (refine wpList_load_row (o := ⟨some 140, _, _, _, _, _⟩) (by rfl) 37 (.tmp 6) (by rfl) q6 (by rfl) 37 XO (0, 0) _ hx9 Tryd.underlying37 (by rfl) (by rw [HXO.out.2.1]; exact om_info) ?_)
            | (go_at_call 13; refine hck9.mono ?_; clear hck9; rintro _ w8 ⟨rfl, hb8⟩; have hx8 := (hb8.block _ (lt_of_cells hx9)).trans hx9; have hr8 := (hb8.block _ (lt_of_cells ((hb9.block _ (lt_of_cells HGS.out.1)).trans HGS.out.1))).trans ((hb9.block _ (lt_of_cells HGS.out.1)).trans HGS.out.1))
            | (refine wpList_load_row (o := ⟨some 144, _, _, _, _, _⟩) (by rfl) 37 (.tmp 6) (by rfl) q6 (by rfl) 37 XO (0, 0) _ hx8 Tryd.underlying37 (by rfl) (by rw [HXO.out.2.1]; exact om_info) ?_)
            | (refine wpList_store_row (by rfl) 37 (.tmp 2) (.tmp 144) (by rfl) w.heap.size XO (by rfl) (by rfl) 37 _ hr8 (by rw [HXO.out.2.1]; exact om_info) (by rw [HXO.out.2.1, HZS.out.1]) HXO.out.2.2 ?_))
          have hrf : (w8.setRow w.heap.size XO).heap[w.heap.size]? = some (.cells XO 37 (0, 0)) := setRow_at hr8
          have hb98 := hb9.trans (hb8.mono hb9.size)
          have hg : w8.grownBy (w8.setRow w.heap.size XO) (some w.heap.size) := gr_row w8 _ _
          refine bodyPost_ret (results_ct rfl _ _ ⟨w.heap.size, 0, none⟩ (.agg XO) (.int .i64 0) rfl rfl (run_loadVar_row _ _ _ _ _ _ _ hrf Tryd.underlying37 rfl (by rw [HXO.out.2.1]; exact om_info))) rfl ⟨⟨none, 0, 0, none, 0, 0, A9, j, c9⟩, by rw [HG.out, HXO.out.1], by rw [HG.out]; exact ((HO.out.below hb98).turned (T := fun k => k = w.heap.size) (Turned.of_gr hg fun g e => by injection e with e; exact e.symm) fun k _ (hk : w.heap.size < k) e => by omega).mono fun k _ (hk : w.heap.size < k) => by omega, below_setRow (HGS.out.2.2.2.trans (hb98.mono HGS.out.2.2.2.size)) (Nat.le_refl _) _⟩
        · have hc1 : chkO { obZ with k := 3, es := acr } = 1 := by unfold chkO at hc ⊢; split <;> simp_all
          rw [hc1] at hck
          have HG : Hid (getO b = (obZ, 11)) := Lib.hid (by rw [HXE.out]; unfold endO; simp only; rw [if_neg (by simp), if_neg (by simp [endE]), if_pos hc])
          clear hc hc1
          go_wp2_with (first
            | (refine wpList_load_row (by rfl) 75 (.tmp 4) (by rfl) q4 (by rfl) 75 (rvC m e) (0, 0) _ HGS.out.2.2.1 Tryd.underlying75 (by rfl) r_info ?_)
            | (go_at_call 37; refine hen.mono ?_; clear hen; rintro _ w9 ⟨rfl, hb9⟩; have hck9 := hck w9 hb9; clear hck; have hx9 := (hb9.block _ (lt_of_cells HGS.out.2.1)).trans HGS.out.2.1)
            | (refine wpList_load_row (o := ⟨some 140, _, _, _, _, _⟩) (by rfl) 37 (.tmp 6) (by rfl) q6 (by rfl) 37 XO (0, 0) _ hx9 Tryd.underlying37 (by rfl) (by rw [HXO.out.2.1]; exact om_info) ?_)
            | (go_at_call 13; refine hck9.mono ?_; clear hck9; rintro _ w8 ⟨rfl, hb8⟩; have hr8 := (hb8.block _ (lt_of_cells ((hb9.block _ (lt_of_cells HGS.out.1)).trans HGS.out.1))).trans ((hb9.block _ (lt_of_cells HGS.out.1)).trans HGS.out.1))
            | (refine wpList_build0 (by rfl) 37 (by rfl) (.agg ZO) hbd ?_)
            | (refine wpList_store_row (by rfl) 37 (.tmp 2) (.tmp 143) (by rfl) w.heap.size ZO (by rfl) (by rfl) 37 _ hr8 (by rw [HZS.out.1]; exact om_info) (by rfl) HZS.out.2.1 ?_))
          have hb98 := hb9.trans (hb8.mono hb9.size)
          have hrf : (w8.setRow w.heap.size ZO).heap[w.heap.size]? = some (.cells ZO 37 (0, 0)) := setRow_at hr8
          refine bodyPost_ret (results_ct rfl _ _ ⟨w.heap.size, 0, none⟩ (.agg ZO) (.int .i64 11) rfl rfl (run_loadVar_row _ _ _ _ _ _ _ hrf Tryd.underlying37 rfl (by rw [HZS.out.1]; exact om_info))) rfl ⟨atZ, by rw [HG.out, ← HZS.out.2.2.1], by rw [HG.out]; exact ois_zero _ _, below_setRow (HGS.out.2.2.2.trans (hb98.mono HGS.out.2.2.2.size)) (Nat.le_refl _) _⟩
      · have hne : (endE m e != 0) = true := by simpa using hE
        have HG : Hid (getO b = (obZ, endE m e)) := Lib.hid (by
          rw [HX.out.2.1]
          unfold endO
          simp only
          rw [if_neg (by simp), ← alike_e HX.out.1, if_pos hE])
        obtain ⟨E, hEE⟩ : ∃ E, E = endE m e := ⟨_, rfl⟩
        rw [← hEE] at hen hne HG
        clear hE hEE
        go_wp2_with (first
          | (refine wpList_load_row (by rfl) 75 (.tmp 4) (by rfl) q4 (by rfl) 75 (rvC m e) (0, 0) _ HGS.out.2.2.1 Tryd.underlying75 (by rfl) r_info ?_)
          | (go_at_call 37; refine hen.mono ?_; clear hen; rintro _ w9 ⟨rfl, hb9⟩; have hr9 := (hb9.block _ (lt_of_cells HGS.out.1)).trans HGS.out.1)
          | (refine wpList_build0 (by rfl) 37 (by rfl) (.agg ZO) hbd ?_)
          | (refine wpList_store_row (by rfl) 37 (.tmp 2) (.tmp 138) (by rfl) w.heap.size ZO (by rfl) (by rfl) 37 _ hr9 (by rw [HZS.out.1]; exact om_info) (by rfl) HZS.out.2.1 ?_))
        have hrf : (w9.setRow w.heap.size ZO).heap[w.heap.size]? = some (.cells ZO 37 (0, 0)) := setRow_at hr9
        refine bodyPost_ret (results_ct rfl _ _ ⟨w.heap.size, 0, none⟩ (.agg ZO) (.int .i64 E) rfl rfl (run_loadVar_row _ _ _ _ _ _ _ hrf Tryd.underlying37 rfl (by rw [HZS.out.1]; exact om_info))) rfl ⟨atZ, by rw [HG.out, ← HZS.out.2.2.1], by rw [HG.out]; exact ois_zero _ _, below_setRow (HGS.out.2.2.2.trans (hb9.mono HGS.out.2.2.2.size)) (Nat.le_refl _) _⟩
set_option maxHeartbeats 16000000 in
set_option maxRecDepth 100000 in
theorem rget4 (b : List UInt8) (w : World) (h0 : uiE b 0 = 0) (hk : uiX b 0 = 4) :
    Calls Tryd.prog 16 #[.string (st b)] w (OrPost w (getO b)) := by
  have hzo : ∀ W, (zeroValue 37).run Tryd.prog W = .ok (.agg zeroOm) W := zero_om
  have hzr := zero_r2
  have hb0 : Below w.heap.size w (w.alloc (.cells zeroOm 37)) := (Below.refl _ _).alloc (Nat.le_refl _) _
  have hui := ref_uint b 0 (w.alloc (.cells zeroOm 37))
  have HN : Hid ((w.alloc (.cells zeroOm 37)).heap[w.heap.size]? = some (.cells zeroOm 37 (0, 0)) ∧ Below w.heap.size w (w.alloc (.cells zeroOm 37))) := Lib.hid ⟨heap_alloc_new w _, hb0⟩
  obtain ⟨ZO, hZO⟩ : ∃ ZO, ZO = zeroOm := ⟨_, rfl⟩
  rw [← hZO] at hui hzo HN
  have HZS : Hid (ZO.size = 6 ∧ ZO.all (·.oneCell') = true ∧ ZO = omV atZ obZ ∧ zeroOm = ZO) := Lib.hid ⟨by rw [hZO]; rfl, by rw [hZO]; exact omV_one atZ obZ, by rw [hZO]; rfl, hZO.symm⟩
  have hbd : ∀ W, (Instr.build 37 #[]).run Tryd.prog W = .ok (.agg ZO) W := fun W => by rw [hZO]; exact build_om W
  clear hZO hb0
  have HRO := Lib.hid (And.intro h0 hk)
  rw [h0, hk] at hui
  have hui : Calls Tryd.prog 33 #[RV b 0] (w.alloc (.cells ZO 37)) (RGot (w.alloc (.cells ZO 37)) 0 (uiL b 0) (.int .u64 4)) := hui
  obtain ⟨l1, hl1⟩ : ∃ l1, l1 = uiL b 0 := ⟨_, rfl⟩
  rw [← hl1] at hui
  have HL := Lib.hid hl1
  clear h0 hk hl1
  obtain ⟨KO, hKO⟩ : ∃ KO, KO = omV atZ { obZ with k := 4 } := ⟨_, rfl⟩
  have hbt : Tryd.prog.built 37 [(0, .int .u8 4)] = some KO := by rw [hKO]; exact built_om _ rfl
  have HKO : Hid (KO = omV atZ { obZ with k := 4 } ∧ KO.size = 6 ∧ KO.all (·.oneCell') = true) := Lib.hid ⟨hKO, by rw [hKO]; rfl, by rw [hKO]; exact omV_one _ _⟩
  clear hKO
  go_enter Tryd.func16, Tryd.ntmps16
  go_upto_region 2 with (first
    | (go_at_call 33; refine hui.mono ?_; clear hui; rintro _ w1 ⟨m0, rfl, hm0, hb1⟩; have HM0 := Lib.hid hm0; clear hm0)
    | (refine wpList_store_row (by rfl) 75 (.tmp 4) (.tmp 16) (by rfl) w1.heap.size (rvC m0 0) (by rfl) (by rfl) 75 _ (heap_alloc_new w1 _) r_info (by rfl) (rvC_one _ _) ?_))
  obtain ⟨q4, hq4⟩ : ∃ q4, q4 = w1.heap.size := ⟨_, rfl⟩
  have hal : Below w1.heap.size w1 ((w1.alloc (.cells #[.string ⟨#[]⟩, .int .i64 0] 75)).setRow w1.heap.size (rvC m0 0)) := below_setRow ((Below.refl _ _).alloc (Nat.le_refl _) _) (Nat.le_refl _) _
  have H2 : Hid (((w1.alloc (.cells #[.string ⟨#[]⟩, .int .i64 0] 75)).setRow w1.heap.size (rvC m0 0)).heap[w.heap.size]? = some (.cells ZO 37 (0, 0)) ∧ ((w1.alloc (.cells #[.string ⟨#[]⟩, .int .i64 0] 75)).setRow w1.heap.size (rvC m0 0)).heap[w1.heap.size]? = some (.cells (rvC m0 0) 75 (0, 0)) ∧ w.heap.size < w1.heap.size ∧ Below w.heap.size w ((w1.alloc (.cells #[.string ⟨#[]⟩, .int .i64 0] 75)).setRow w1.heap.size (rvC m0 0))) := Lib.hid (by
    have h1 := (hb1.block _ (lt_of_cells HN.out.1)).trans HN.out.1
    have h2 := HN.out.2.trans (hb1.mono HN.out.2.size)
    exact ⟨(hal.block _ (lt_of_cells h1)).trans h1, setRow_at (heap_alloc_new w1 _), lt_of_cells h1, h2.trans (hal.mono h2.size)⟩)
  rw [← hq4] at H2 ⊢
  clear hal hb1 hzr hq4
  generalize (w1.alloc (.cells #[.string ⟨#[]⟩, .int .i64 0] 75)).setRow q4 (rvC m0 0) = w2 at *
  have hc1 : w2.cell? ⟨q4, 1, none⟩ = some (.int .i64 0) := (cell_of_cells H2.out.2.1 1).trans rfl
  go_upto_region 7 with (first
    | (refine wpList_built (by rfl) 37 #[(0, .tmp 32)] (by rfl) [(0, .int .u8 4)] (by simp [Act.eval]) KO hbt ?_)
    | (refine wpList_store_row (by rfl) 37 (.tmp 6) (.tmp 33) (by rfl) w2.heap.size KO (by rfl) (by rfl) 37 _ (heap_alloc_new w2 _) (by rw [HKO.out.2.1]; exact om_info) (by rw [HKO.out.2.1, HZS.out.1]) HKO.out.2.2 ?_))
  obtain ⟨q6, hq6⟩ : ∃ q6, q6 = w2.heap.size := ⟨_, rfl⟩
  obtain rfl : m0 = l1 := by have h := HM0.out; simpa using h
  have hal : Below w2.heap.size w2 ((w2.alloc (.cells ZO 37)).setRow w2.heap.size KO) := below_setRow ((Below.refl _ _).alloc (Nat.le_refl _) _) (Nat.le_refl _) _
  have hpa : ((w2.alloc (.cells ZO 37)).setRow w2.heap.size KO).heap[w2.heap.size]? = some (.cells KO 37 (0, 0)) := setRow_at (heap_alloc_new w2 _)
  have H3 : Hid (GoS w ((w2.alloc (.cells ZO 37)).setRow w2.heap.size KO) q4 q6 m0 0 (omV atZ { obZ with k := 4 })) := Lib.hid ⟨(hal.block _ (lt_of_cells H2.out.1)).trans (by rw [HZS.out.2.2.2]; exact H2.out.1), (hal.block _ (lt_of_cells H2.out.2.1)).trans H2.out.2.1, by rw [hq6, ← HKO.out.1]; exact hpa, H2.out.2.2.1, by rw [hq6]; exact lt_of_cells H2.out.2.1, H2.out.2.2.2.trans (hal.mono H2.out.2.2.2.size)⟩
  clear hal hpa hzo hbt hc1 HM0
  generalize (w2.alloc (.cells ZO 37)).setRow w2.heap.size KO = w3 at *
  rw [← hq6]
  clear hq6 H2
  have hu2 := ref_uint m0 0 w3
  obtain ⟨z, hz⟩ : ∃ z, z = uiX m0 0 := ⟨_, rfl⟩
  obtain ⟨l2, hl2⟩ : ∃ l2, l2 = uiL m0 0 := ⟨_, rfl⟩
  obtain ⟨e2, he2⟩ : ∃ e2, e2 = uiE m0 0 := ⟨_, rfl⟩
  rw [← hz, ← hl2, ← he2] at hu2
  have HU : Hid (z = uiX m0 0 ∧ l2 = uiL m0 0 ∧ e2 = uiE m0 0 ∧ z < 18446744073709551616) := Lib.hid ⟨hz, hl2, he2, by rw [hz]; exact uiX_lt _ _⟩
  clear hz hl2 he2
  go_upto_region 12 with (first
    | (refine wpList_load_row (by rfl) 75 (.tmp 4) (by rfl) q4 (by rfl) 75 (rvC m0 0) (0, 0) _ H3.out.r Tryd.underlying75 (by rfl) r_info ?_)
    | (go_at_call 33; refine hu2.mono ?_; clear hu2; rintro _ w4 ⟨m2, rfl, hm2, hb4⟩; have H4 := Lib.hid (H3.out.later hb4); have H5 := Lib.hid (H4.out.setr m2 e2); have hc2 : (w4.setRow q4 (rvC m2 e2)).cell? ⟨q6, 2, none⟩ = some (.int .u64 0) := (cell_of_cells H5.out.o 2).trans rfl; have hf2 := free_of_cells H5.out.o 2; have hs2 := lt_of_cells H5.out.o; clear hb4)
    | (refine wpList_store_row (by rfl) 75 (.tmp 4) (.tmp 51) (by rfl) q4 (rvC m2 e2) (by rfl) (by rfl) 75 _ H4.out.r r_info (by rfl) (rvC_one _ _) ?_))
  have H6 := Lib.hid (H5.out.set 2 (.int .u64 (z : Int)) (omV atZ { obZ with k := 4, z := z }) rfl)
  have HM2 := Lib.hid hm2
  clear hc2 hf2 hs2 H4 H5 H3 hm2
  generalize (w4.setRow q4 (rvC m2 e2)).setCell ⟨q6, 2, none⟩ (.int .u64 (z : Int)) = w6 at *
  obtain ⟨m3, hm3⟩ : ∃ m3, m3 = m2 := ⟨_, rfl⟩
  subst hm3
  obtain ⟨w8, hw8⟩ : ∃ w8, w8 = w6 := ⟨_, rfl⟩
  obtain ⟨M, hM⟩ : ∃ M, M = 1 := ⟨_, rfl⟩
  have H8 : Hid (GoS w w8 q4 q6 m3 e2 (omV atZ { obZ with k := 4, z := z })) := Lib.hid (by rw [hw8]; exact H6.out)
  have HM3 := HM2
  have HGO : Hid (getO b = endO (let r := igo M [] l2 e2; ({ obZ with k := 4, z := z, ids := r.1, lb := byB r.2.1 r.2.2 255 }, 0, byL r.2.1 r.2.2 255, byE r.2.1 r.2.2 255)) ∧ M = 1) := Lib.hid ⟨by
    unfold getO readO
    rw [if_neg (by rw [HRO.out.1]; simp), if_neg (by rw [HRO.out.2]; omega), if_neg (by rw [HRO.out.2]; omega), if_neg (by rw [HRO.out.2]; omega), if_neg (by rw [HRO.out.2]; omega), ← HL.out, ← HU.out.1, ← HU.out.2.1, ← HU.out.2.2.1, hM]
    rfl, hM⟩
  clear hM
  rw [← hw8]
  clear hw8
  have H0 : Hid (GiR w q4 q6 4 z M l2 e2 (.int .u64 0) w8) := Lib.hid ⟨0, [], l2, e2, m3, none, 0, Nat.zero_le _, rfl, rfl, rfl, (fun _ h => absurd h (by simp)), HM3.out, H8.out, World.ownsRow_nil _ _ _ _⟩
  have hzi := zero_id
  go_wp2_with fail
  go_loopw [8] (fun i9 wr => GiR w q4 q6 4 z M l2 e2 i9 wr) (fun i9 _ => M - (intOf i9).toNat)
  case atStart => exact H0.out
  case round =>
    obtain ⟨j, acc, l, e, m, A9, c9, hj, rfl, hgo, hac, ha32, hml, hG9, hown⟩ := hrel
    have H9 := Lib.hid hG9
    have HR := Lib.hid (And.intro hgo (And.intro hac (And.intro ha32 (And.intro hml hown))))
    clear hgo hac ha32 hml hown hG9 H0
    by_cases hlt : j < M
    · have hlt' : (j : Int) < 1 := by have := HGO.out.2; omega
      have hadd := IntWalk.u64_in ((j : Int) + 1) (by have := HGO.out.2; omega)
      have HJ := Lib.hid hlt
      clear hlt hj
      obtain ⟨ZI, hZI⟩ : ∃ ZI, ZI = zerosId := ⟨_, rfl⟩
      rw [← hZI] at hzi
      have HZI : Hid (ZI.size = 32) := Lib.hid (by rw [hZI]; simp [zerosId, u8s_length])
      have hbz : Below wr.heap.size wr (wr.alloc (.cells ZI 49)) := (Below.refl _ _).alloc (Nat.le_refl _) _
      have hiw := heap_alloc_new wr (.cells ZI 49)
      have H10 := Lib.hid (And.intro (H9.out.later hbz) (And.intro (own_below HR.out.2.2.2.2 hbz) hiw))
      have HX0 : Hid (q6 < wr.heap.size ∧ ∀ g, (Value.slice A9 j c9).ownBlock = some g → g < wr.heap.size) := Lib.hid ⟨lt_of_cells H9.out.o, fun g hg => (HR.out.2.2.2.2.lt g hg).2⟩
      clear hZI hbz hiw H9
      go_upto_region 26 with fail
      clear hzi
      generalize wr.alloc (.cells ZI 49) = w10 at *
      generalize wr.heap.size = x0 at *
      have hid := ref_id m e w10
      rw [alike_i HR.out.2.2.2.1] at hid
      obtain ⟨a1, a2, a3⟩ := galike_fx (l := l) (m := m) (e := e) 32 HR.out.2.2.2.1
      obtain ⟨Y, hY⟩ : ∃ Y, Y = idL l e := ⟨_, rfl⟩
      obtain ⟨XS, hXS⟩ : ∃ XS, XS = idC l e := ⟨_, rfl⟩
      obtain ⟨l5, hl5⟩ : ∃ l5, l5 = fxL l e 32 := ⟨_, rfl⟩
      obtain ⟨m5, hm5⟩ : ∃ m5, m5 = fxL m e 32 := ⟨_, rfl⟩
      obtain ⟨e5, he5⟩ : ∃ e5, e5 = tkE l e 32 := ⟨_, rfl⟩
      rw [a2, ← hXS, ← hm5, ← he5] at hid
      have HY : Hid (XS = row8 Y ∧ Y.length = 32 ∧ Y = idL l e ∧ l5 = fxL l e 32 ∧ e5 = tkE l e 32 ∧ (e5 = 0 → m5 = l5) ∧ XS.size = 32 ∧ XS.all (·.oneCell') = true) := Lib.hid ⟨by rw [hXS, hY]; rfl, by rw [hY]; exact idL_length _ _, hY, hl5, he5, fun h => by rw [hm5, hl5]; exact a3 (by rw [← he5]; exact h), by rw [hXS]; show (row8 (idL l e)).size = 32; rw [row8_size, idL_length], by rw [hXS]; exact row8_one (idL l e)⟩
      clear hY hXS hl5 hm5 he5 a1 a2 a3
      go_upto_region 27 with (first
        | (refine wpList_load_row (by rfl) 75 (.tmp 4) (by rfl) q4 (by rfl) 75 (rvC m e) (0, 0) _ H10.out.1.r Tryd.underlying75 (by rfl) r_info ?_)
        | (go_at_call 36; refine hid.mono ?_; clear hid; rintro _ w11 ⟨rfl, hb11⟩; have H11 := Lib.hid (And.intro (H10.out.1.later hb11) (And.intro (own_below H10.out.2.1 hb11) ((hb11.block _ (lt_of_cells H10.out.2.2)).trans H10.out.2.2))); clear hb11)
        | (refine wpList_store_row (by rfl) 75 (.tmp 4) (.tmp 118) (by rfl) q4 (rvC m5 e5) (by rfl) (by rfl) 75 _ H11.out.1.r r_info (by rfl) (rvC_one _ _) ?_)
        | (refine wpList_store_row (by rfl) 49 (.tmp 10) (.tmp 119) (by rfl) x0 XS (by rfl) (by rfl) 49 _ ((setRow_ne w11 _ _ _ (by have h1 := HX0.out.1; have h2 := H11.out.1.l2; omega)).trans H11.out.2.2) (by rw [HY.out.2.2.2.2.2.2.1]; exact id_info) (by rw [HY.out.2.2.2.2.2.2.1, HZI.out]) HY.out.2.2.2.2.2.2.2 ?_))
      have H12 : Hid (GoS w ((w11.setRow q4 (rvC m5 e5)).setRow x0 XS) q4 q6 m5 e5 (omV ⟨none, 0, 0, A9, j, c9, none, 0, 0⟩ { obZ with k := 4, z := z, ids := acc }) ∧ ((w11.setRow q4 (rvC m5 e5)).setRow x0 XS).ownsRow (q6 + 1) 49 32 (.slice A9 j c9) j (idsC acc) ∧ ((w11.setRow q4 (rvC m5 e5)).setRow x0 XS).heap[x0]? = some (.cells XS 49 (0, 0))) := Lib.hid (by
        have h1 := H11.out.1.setr m5 e5
        have h2 := own_grown H11.out.2.1 (gr_setr w11 q4 (rvC m5 e5)) (by have := h1.l2; omega)
        have h3 : (w11.setRow q4 (rvC m5 e5)).heap[x0]? = some (.cells ZI 49 (0, 0)) := (setRow_ne w11 _ _ _ (by have h4 := HX0.out.1; have h5 := H11.out.1.l2; omega)).trans H11.out.2.2
        exact ⟨h1.own (below_setRow (Below.refl _ _) (by have := HX0.out.1; omega) _), own_gr2 h2 (gr_setr _ x0 XS) fun g hg => by have := HX0.out.2 g hg; omega, setRow_at h3⟩)
      have HM5 : Hid (e5 = 0 → m5 = l5) := Lib.hid HY.out.2.2.2.2.2.1
      clear H11 H10
      generalize (w11.setRow q4 (rvC m5 e5)).setRow x0 XS = w12 at *
      have hc3 : w12.cell? ⟨q6, 3, none⟩ = some (.slice A9 j c9) := (cell_of_cells H12.out.1.o 3).trans rfl
      have hbs := run_ids_lit w12 XS HY.out.1 HY.out.2.1
      have hb13 : Below w12.heap.size w12 (w12.alloc (.cells XS 49)) := (Below.refl _ _).alloc (Nat.le_refl _) _
      obtain ⟨A14, c14, w14, hap, hown14, hb14, _⟩ := own_ids_app (l := acc) (m := [Y]) (n2 := 1) (c2 := 1) (a := ⟨w12.heap.size, 0, none⟩) (v := .slice A9 j c9) (by rw [HR.out.2.1]; exact own_below H12.out.2.1 hb13) (by have h1 := lt_of_cells H12.out.1.o; have h2 := hb13.size; omega) (fun y hy => (List.mem_append.1 hy).elim (HR.out.2.2.1 y) fun hy => by rw [List.mem_singleton.1 hy]; exact HY.out.2.1) rfl (fun o u hu => by
        rw [add_plain, Nat.zero_add, cell_of_cells (heap_alloc_new w12 _), HY.out.1]
        simpa [idsC, row8] using hu) (by have h1 := HR.out.2.1; have h2 := HJ.out; have h3 := HGO.out.2; omega) 24
      have hl14 : (acc ++ [Y]).length = j + 1 := by rw [List.length_append, HR.out.2.1]; rfl
      rw [hl14] at hap hown14
      have H14 := Lib.hid (And.intro ((H12.out.1.later hb13).own hb14) hown14)
      clear hb13 hown14 hb14 hl14
      have hc3b : w14.cell? ⟨q6, 3, none⟩ = some (.slice A9 j c9) := (cell_of_cells H14.out.1.o 3).trans rfl
      have hf3b := free_of_cells H14.out.1.o 3
      have hs3b := lt_of_cells H14.out.1.o
      have H15 := Lib.hid (And.intro (H14.out.1.set 3 (.slice A14 (j + 1) c14) (omV ⟨none, 0, 0, A14, j + 1, c14, none, 0, 0⟩ { obZ with k := 4, z := z, ids := acc ++ [Y] }) rfl) (own_grown H14.out.2 (gr_set (gr_refl w14 (some q6)) 3 (.slice A14 (j + 1) c14)) (Nat.lt_succ_self _)))
      have HX12 : Hid (w12.heap[x0]? = some (.cells XS 49 (0, 0))) := Lib.hid H12.out.2.2
      clear H14 H12
      go_wp2_with (first
        | (refine wpList_load_row (by rfl) 49 (.tmp 10) (by rfl) x0 (by rfl) 49 XS (0, 0) _ HX12.out Tryd.underlying49 (by rfl) (by rw [HY.out.2.2.2.2.2.2.1]; exact id_info) ?_)
        | (refine wpList_lit1 (by rfl) 24 (.tmp 122) (by rfl) (by rfl) hbs ?_)
        | (at_builtin; refine wpList_app (by rfl) (.tmp 121) (.tmp 123) 24 (by rfl) (by rfl) (by rfl) hap ?_))
      go_roundw
      case rel =>
        unfold GiR
        refine ⟨j + 1, acc ++ [Y], l5, e5, m5, A14, c14, by have := HJ.out; omega, by simp, ?_, by rw [List.length_append, HR.out.2.1]; rfl, fun y hy => (List.mem_append.1 hy).elim (HR.out.2.2.1 y) fun hy => by rw [List.mem_singleton.1 hy]; exact HY.out.2.1, HM5.out, H15.out.1, H15.out.2⟩
        have h1 := HR.out.1
        rw [show M - j = (M - (j + 1)) + 1 by have := HJ.out; omega, igo, ← HY.out.2.2.1, ← HY.out.2.2.2.1, ← HY.out.2.2.2.2.1] at h1
        exact h1
      case measure => have := HJ.out; simp only [intOf]; omega
    · have hlt' : ¬ (j : Int) < 1 := by have := HGO.out.2; omega
      have hjM : M - j = 0 := by omega
      have HG1 : Hid (igo M [] l2 e2 = (acc, l, e)) := Lib.hid (by rw [HR.out.1, hjM]; rfl)
      have hids := own_ids HR.out.2.2.2.2 HR.out.2.2.1
      have HIDS : Hid (Ids wr (fun k => w.heap.size < k) A9 j c9 acc) := Lib.hid (by
        obtain ⟨A', c', hv, hi⟩ := hids
        injection hv with h1 h2 h3
        subst h1 h3
        have h4 := H9.out.l1
        have h5 := H9.out.l2
        exact hi.mono fun k _ (hk : q6 + 1 ≤ k) => by omega)
      clear hlt hj hjM hids hzi
      have hby := ref_bytes m e 255 wr (by decide)
      obtain ⟨a1, a2, a3⟩ := galike_by (l := l) (m := m) (e := e) 255 HR.out.2.2.2.1
      obtain ⟨B, hB⟩ : ∃ B, B = byB l e 255 := ⟨_, rfl⟩
      obtain ⟨l6, hl6⟩ : ∃ l6, l6 = byL l e 255 := ⟨_, rfl⟩
      obtain ⟨e6, he6⟩ : ∃ e6, e6 = byE l e 255 := ⟨_, rfl⟩
      rw [a1, a2, ← hB, ← he6] at hby
      have HB6 : Hid (B = byB l e 255 ∧ l6 = byL l e 255 ∧ e6 = byE l e 255 ∧ (e6 = 0 → byL m e 255 = l6) ∧ B.length ≤ 255) := Lib.hid ⟨hB, hl6, he6, fun h => by rw [hl6]; exact a3 (by rw [← he6]; exact h), by rw [hB]; exact by_few l e 255⟩
      clear hB hl6 he6 a1 a2 a3
      go_upto_region 30 with (first
        | (refine wpList_load_row (by rfl) 75 (.tmp 4) (by rfl) q4 (by rfl) 75 (rvC m e) (0, 0) _ H9.out.r Tryd.underlying75 (by rfl) r_info ?_)
        | (go_at_call 34; refine hby.mono ?_; clear hby; rintro _ w21 ⟨m6, rfl, hm6, hb21⟩; rw [strB_st]; have H21 := Lib.hid (H9.out.later hb21); have HB21 := Lib.hid hb21; have H22 := Lib.hid (H21.out.setr m6 e6); have hc5 : (w21.setRow q4 (rvC m6 e6)).cell? ⟨q6, 5, none⟩ = some (.string ⟨#[]⟩) := (cell_of_cells H22.out.o 5).trans rfl; have hf5 := free_of_cells H22.out.o 5; have hs5 := lt_of_cells H22.out.o; have HM6 := Lib.hid hm6; clear hb21 hm6)
        | (refine wpList_store_row (by rfl) 75 (.tmp 4) (.tmp 131) (by rfl) q4 (rvC m6 e6) (by rfl) (by rfl) 75 _ H21.out.r r_info (by rfl) (rvC_one _ _) ?_))
      have H23 := Lib.hid (H22.out.set 5 (.string (st B)) (omV ⟨none, 0, 0, A9, j, c9, none, 0, 0⟩ { obZ with k := 4, z := z, ids := acc, lb := B }) rfl)
      have HI23 : Hid (Ids ((w21.setRow q4 (rvC m6 e6)).setCell ⟨q6, 5, none⟩ (.string (st B))) (fun k => w.heap.size < k) A9 j c9 acc) := Lib.hid (by
        have hids := own_ids HR.out.2.2.2.2 HR.out.2.2.1
        obtain ⟨A', c', hv, hi⟩ := hids
        injection hv with h1 h2 h3
        subst h1 h3
        have h4 := H9.out.l1
        have h5 := H9.out.l2
        have h6 := hi.below HB21.out
        have h7 := h6.turned (T := fun k => k = q4) (Turned.of_gr (gr_setr w21 q4 (rvC m6 e6)) fun g e => by injection e with e; exact e.symm) fun k _ (hk : q6 + 1 ≤ k) e => by omega
        exact (h7.turned (T := fun k => k = q6) (Turned.of_gr (gr_set (gr_refl _ (some q6)) 5 (.string (st B))) fun g e => by injection e with e; exact e.symm) fun k _ (hk : q6 + 1 ≤ k) e => by omega).mono fun k _ (hk : q6 + 1 ≤ k) => by omega)
      have HX : Hid ((e6 = 0 → m6 = l6) ∧ getO b = endO ({ obZ with k := 4, z := z, ids := acc, lb := B }, 0, l6, e6)) := Lib.hid ⟨fun h => by rw [HM6.out h]; exact HB6.out.2.2.2.1 h, by rw [HGO.out.1, HG1.out]; simp only; rw [← HB6.out.1, ← HB6.out.2.1, ← HB6.out.2.2.1]⟩
      clear hc5 hf5 hs5 H22 H21
      generalize (w21.setRow q4 (rvC m6 e6)).setCell ⟨q6, 5, none⟩ (.string (st B)) = w24 at *
      have HO : Hid (Ois w24 (fun k => w.heap.size < k) ⟨none, 0, 0, A9, j, c9, none, 0, 0⟩ { obZ with k := 4, z := z, ids := acc, lb := B }) := Lib.hid ⟨⟨(by decide : 4 < 256), HU.out.2.2.2, HR.out.2.2.1, obZ_wf.es⟩, (by have := HB6.out.2.2.2.2; unfold maxLen; simp only; omega), (obj_zero w24 (fun _ => False)).o.nm, (obj_zero w24 (fun _ => False)).o.bl, HI23.out, Ens.nil _ _ _ _ (Nat.zero_le _)⟩
      have HEL : Hid (0 ≤ 100000000) := Lib.hid (by omega)
      have hen := ref_end m6 e6 w24
      obtain ⟨XO, hXO⟩ : ∃ XO, XO = omV ⟨none, 0, 0, A9, j, c9, none, 0, 0⟩ { obZ with k := 4, z := z, ids := acc, lb := B } := ⟨_, rfl⟩
      have HXO : Hid (XO = omV ⟨none, 0, 0, A9, j, c9, none, 0, 0⟩ { obZ with k := 4, z := z, ids := acc, lb := B } ∧ XO.size = 6 ∧ XO.all (·.oneCell') = true) := Lib.hid ⟨hXO, by rw [hXO]; rfl, by rw [hXO]; exact omV_one _ _⟩
      have HGS : Hid (w24.heap[w.heap.size]? = some (.cells ZO 37 (0, 0)) ∧ w24.heap[q6]? = some (.cells XO 37 (0, 0)) ∧ w24.heap[q4]? = some (.cells (rvC m6 e6) 75 (0, 0)) ∧ Below w.heap.size w w24) := Lib.hid ⟨by have := H23.out.res; rwa [HZS.out.2.2.2] at this, by rw [hXO]; exact H23.out.o, H23.out.r, H23.out.bel⟩
      clear hXO
      by_cases hE : endE m6 e6 = 0
      · rw [hE] at hen
        obtain ⟨he0, hm0⟩ := fend_zero hE
        have HXE : Hid (getO b = endO ({ obZ with k := 4, z := z, ids := acc, lb := B }, 0, [], 0)) := Lib.hid (by rw [HX.out.2, ← HX.out.1 he0, hm0, he0])
        have hck := fun (W : World) (hW : Below w24.heap.size w24 W) => rchk_any (HO.out.below hW) (by have := HEL.out; exact this)
        rw [← HXO.out.1] at hck
        clear hE he0 hm0
        by_cases hc : chkO { obZ with k := 4, z := z, ids := acc, lb := B } = 0
        · rw [hc] at hck
          have HG : Hid (getO b = ({ obZ with k := 4, z := z, ids := acc, lb := B }, 0)) := Lib.hid (by rw [HXE.out]; exact endO_fine hc)
          clear hc
          go_wp2_with (first
            | (refine wpList_load_row (by rfl) 75 (.tmp 4) (by rfl) q4 (by rfl) 75 (rvC m6 e6) (0, 0) _ HGS.out.2.2.1 Tryd.underlying75 (by rfl) r_info ?_)
            | (go_at_call 37; refine hen.mono ?_; clear hen; rintro _ w9 ⟨rfl, hb9⟩; have hck9 := hck w9 hb9; clear hck; have hx9 := (hb9.block _ (lt_of_cells HGS.out.2.1)).trans HGS.out.2.1)
            | (refine wpList_load_row (o := ⟨some 140, _, _, _, _, _⟩) (by rfl) 37 (.tmp 6) (by rfl) q6 (by rfl) 37 XO (0, 0) _ hx9 Tryd.underlying37 (by rfl) (by rw [HXO.out.2.1]; exact om_info) ?_)
            | (go_at_call 13; refine hck9.mono ?_; clear hck9; rintro _ w8 ⟨rfl, hb8⟩; have hx8 := (hb8.block _ (lt_of_cells hx9)).trans hx9; have hr8 := (hb8.block _ (lt_of_cells ((hb9.block _ (lt_of_cells HGS.out.1)).trans HGS.out.1))).trans ((hb9.block _ (lt_of_cells HGS.out.1)).trans HGS.out.1))
            | (refine wpList_load_row (o := ⟨some 144, _, _, _, _, _⟩) (by rfl) 37 (.tmp 6) (by rfl) q6 (by rfl) 37 XO (0, 0) _ hx8 Tryd.underlying37 (by rfl) (by rw [HXO.out.2.1]; exact om_info) ?_)
            | (refine wpList_store_row (by rfl) 37 (.tmp 2) (.tmp 144) (by rfl) w.heap.size XO (by rfl) (by rfl) 37 _ hr8 (by rw [HXO.out.2.1]; exact om_info) (by rw [HXO.out.2.1, HZS.out.1]) HXO.out.2.2 ?_))
          have hrf : (w8.setRow w.heap.size XO).heap[w.heap.size]? = some (.cells XO 37 (0, 0)) := setRow_at hr8
          have hb98 := hb9.trans (hb8.mono hb9.size)
          have hg : w8.grownBy (w8.setRow w.heap.size XO) (some w.heap.size) := gr_row w8 _ _
          refine bodyPost_ret (results_ct rfl _ _ ⟨w.heap.size, 0, none⟩ (.agg XO) (.int .i64 0) rfl rfl (run_loadVar_row _ _ _ _ _ _ _ hrf Tryd.underlying37 rfl (by rw [HXO.out.2.1]; exact om_info))) rfl ⟨⟨none, 0, 0, A9, j, c9, none, 0, 0⟩, by rw [HG.out, HXO.out.1], by rw [HG.out]; exact ((HO.out.below hb98).turned (T := fun k => k = w.heap.size) (Turned.of_gr hg fun g e => by injection e with e; exact e.symm) fun k _ (hk : w.heap.size < k) e => by omega).mono fun k _ (hk : w.heap.size < k) => by omega, below_setRow (HGS.out.2.2.2.trans (hb98.mono HGS.out.2.2.2.size)) (Nat.le_refl _) _⟩
        · have hc1 : chkO { obZ with k := 4, z := z, ids := acc, lb := B } = 1 := by unfold chkO at hc ⊢; split <;> simp_all
          rw [hc1] at hck
          have HG : Hid (getO b = (obZ, 11)) := Lib.hid (by rw [HXE.out]; unfold endO; simp only; rw [if_neg (by simp), if_neg (by simp [endE]), if_pos hc])
          clear hc hc1
          go_wp2_with (first
            | (refine wpList_load_row (by rfl) 75 (.tmp 4) (by rfl) q4 (by rfl) 75 (rvC m6 e6) (0, 0) _ HGS.out.2.2.1 Tryd.underlying75 (by rfl) r_info ?_)
            | (go_at_call 37; refine hen.mono ?_; clear hen; rintro _ w9 ⟨rfl, hb9⟩; have hck9 := hck w9 hb9; clear hck; have hx9 := (hb9.block _ (lt_of_cells HGS.out.2.1)).trans HGS.out.2.1)
            | (refine wpList_load_row (o := ⟨some 140, _, _, _, _, _⟩) (by rfl) 37 (.tmp 6) (by rfl) q6 (by rfl) 37 XO (0, 0) _ hx9 Tryd.underlying37 (by rfl) (by rw [HXO.out.2.1]; exact om_info) ?_)
            | (go_at_call 13; refine hck9.mono ?_; clear hck9; rintro _ w8 ⟨rfl, hb8⟩; have hr8 := (hb8.block _ (lt_of_cells ((hb9.block _ (lt_of_cells HGS.out.1)).trans HGS.out.1))).trans ((hb9.block _ (lt_of_cells HGS.out.1)).trans HGS.out.1))
            | (refine wpList_build0 (by rfl) 37 (by rfl) (.agg ZO) hbd ?_)
            | (refine wpList_store_row (by rfl) 37 (.tmp 2) (.tmp 143) (by rfl) w.heap.size ZO (by rfl) (by rfl) 37 _ hr8 (by rw [HZS.out.1]; exact om_info) (by rfl) HZS.out.2.1 ?_))
          have hb98 := hb9.trans (hb8.mono hb9.size)
          have hrf : (w8.setRow w.heap.size ZO).heap[w.heap.size]? = some (.cells ZO 37 (0, 0)) := setRow_at hr8
          refine bodyPost_ret (results_ct rfl _ _ ⟨w.heap.size, 0, none⟩ (.agg ZO) (.int .i64 11) rfl rfl (run_loadVar_row _ _ _ _ _ _ _ hrf Tryd.underlying37 rfl (by rw [HZS.out.1]; exact om_info))) rfl ⟨atZ, by rw [HG.out, ← HZS.out.2.2.1], by rw [HG.out]; exact ois_zero _ _, below_setRow (HGS.out.2.2.2.trans (hb98.mono HGS.out.2.2.2.size)) (Nat.le_refl _) _⟩
      · have hne : (endE m6 e6 != 0) = true := by simpa using hE
        have HG : Hid (getO b = (obZ, endE m6 e6)) := Lib.hid (by
          rw [HX.out.2]
          unfold endO
          simp only
          rw [if_neg (by simp), ← alike_e HX.out.1, if_pos hE])
        obtain ⟨E, hEE⟩ : ∃ E, E = endE m6 e6 := ⟨_, rfl⟩
        rw [← hEE] at hen hne HG
        clear hE hEE
        go_wp2_with (first
          | (refine wpList_load_row (by rfl) 75 (.tmp 4) (by rfl) q4 (by rfl) 75 (rvC m6 e6) (0, 0) _ HGS.out.2.2.1 Tryd.underlying75 (by rfl) r_info ?_)
          | (go_at_call 37; refine hen.mono ?_; clear hen; rintro _ w9 ⟨rfl, hb9⟩; have hr9 := (hb9.block _ (lt_of_cells HGS.out.1)).trans HGS.out.1)
          | (refine wpList_build0 (by rfl) 37 (by rfl) (.agg ZO) hbd ?_)
          | (refine wpList_store_row (by rfl) 37 (.tmp 2) (.tmp 138) (by rfl) w.heap.size ZO (by rfl) (by rfl) 37 _ hr9 (by rw [HZS.out.1]; exact om_info) (by rfl) HZS.out.2.1 ?_))
        have hrf : (w9.setRow w.heap.size ZO).heap[w.heap.size]? = some (.cells ZO 37 (0, 0)) := setRow_at hr9
        refine bodyPost_ret (results_ct rfl _ _ ⟨w.heap.size, 0, none⟩ (.agg ZO) (.int .i64 E) rfl rfl (run_loadVar_row _ _ _ _ _ _ _ hrf Tryd.underlying37 rfl (by rw [HZS.out.1]; exact om_info))) rfl ⟨atZ, by rw [HG.out, ← HZS.out.2.2.1], by rw [HG.out]; exact ois_zero _ _, below_setRow (HGS.out.2.2.2.trans (hb9.mono HGS.out.2.2.2.size)) (Nat.le_refl _) _⟩
theorem rget_obj (b : List UInt8) (w : World) :
    Calls Tryd.prog 16 #[.string (st b)] w (OrPost w (getO b)) := by
  by_cases h0 : uiE b 0 = 0
  · by_cases hk : uiX b 0 < 1 ∨ 4 < uiX b 0
    · exact rget_kind b w h0 hk
    · have h4 : uiX b 0 = 1 ∨ uiX b 0 = 2 ∨ uiX b 0 = 3 ∨ uiX b 0 = 4 := by omega
      rcases h4 with h4 | h4 | h4 | h4
      · exact rget1 b w h0 h4
      · exact rget2 b w h0 h4
      · exact rget3 b w h0 h4
      · exact rget4 b w h0 h4
  · exact rget_err b w h0
end Go.Proofs.YtmakpjcgiiljfaaDoor
