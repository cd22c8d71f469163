/-
  Dedup, the reference: Get.
-/
import Derived.Test.YtmmibldchfmleaaPkGt01
import Derived.Test.YtmmibldchfmleaaPkGt02
import Derived.Test.YtmmibldchfmleaaPk06
/-! Dedup, the reference: Get. -/
namespace Go.Proofs.Ytmmibldchfmleaa
open Go.RowKit Go.Maps Codec

theorem dr_info : (Try.prog.info? 82).map (·.size) = some 2 := by kernel_rfl
def drvC (m : List UInt8) (e : Int) : Array Value := #[.string (strB m), .int .i64 e]
theorem drvC_one (m : List UInt8) (e : Int) : (drvC m e).all (·.oneCell') = true := by simp [drvC, Value.oneCell']
theorem dzero_r : ∀ W, (zeroValue 82).run Try.prog W = .ok (.agg #[.string ⟨#[]⟩, .int .i64 0]) W := fun W => by kernel_rfl
theorem dzero_e : ∀ W, (zeroValue 41).run Try.prog W = .ok (.agg zEC) W := fun W => by unfold zEC eC zE u8s; kernel_rfl
/-- An id stored as a part of a block. -/
theorem wpList_store_idp {ops : Array Oper} {rest : List Oper} {op : Oper} {a : Act} {w : World} {Q : Exit → Act → World → Prop} (hgd : op.guard = none) (x y : Operand) (ho : op.op = .store 31 x y)
    {g o : Nat} {CS DS CT : Array Value} {t : TypeId} (hg : w.heap[g]? = some (.cells CS t (0, 0))) (hsz : o + 32 ≤ CS.size) (d : List UInt8) (hDS : DS = row8 d) (hd : d.length = 32)
    (hx : a.eval x = .pointer (some ⟨g, o, none⟩)) (hy : a.eval y = .agg DS) (hCT : CT = (CS.toList.take o ++ u8s d ++ CS.toList.drop (o + 32)).toArray)
    (hK : wpList Try.prog ops Q rest (a.put op.dst undef) (w.setRow g CT)) : wpList Try.prog ops Q (op :: rest) a w :=
  wpList_plain hgd fun K hK' => by
    have hst := run_storeCells_at (P := Try.prog) g o t (u8s d) 0 CS w hg (by rw [u8s_length, hd]; omega) (u8s_one d)
    rw [u8s_length, hd, Nat.add_zero, ← hCT] at hst
    have hr : (Instr.storeAt 31 (.pointer (some ⟨g, o, none⟩)) (.agg DS)).run Try.prog w = .ok () (w.setRow g CT) := by
      subst hDS
      have hq := id_info
      cases hi2 : Try.prog.info? 31 with
      | none => simp [hi2] at hq
      | some inf =>
        have hsz : inf.size = 32 := by simpa [hi2] using hq
        have hrs : (row8 d).size = 32 := by rw [row8_size, hd]
        have hl2 : (row8 d).toList = u8s d := by simp [row8]
        simp [Instr.storeAt, Instr.sureAddr, Sem.run_bind, storeVar, sizeOf, typeInfo, hi2, hsz, Value.cells, hrs, hl2, hst, Result.andThen]
    unfold Oper.wp execOp
    simp only [ho, hx, hy, Sem.run_bind, hr, Result.andThen_ok, Sem.run_pure]
    exact hK' _ _ hK
theorem eC_put0 {a b : List UInt8} {X : Int} (d : List UInt8) (ha : a.length = 32) : (eC (d, b, X)).toArray = ((eC (a, b, X)).toArray.toList.take 0 ++ u8s d ++ (eC (a, b, X)).toArray.toList.drop (0 + 32)).toArray := by
  have h1 : (u8s a).length = 32 := by simp [u8s, ha]
  simp only [eC, List.take_zero, List.nil_append, Nat.zero_add]
  rw [List.drop_append_of_le_length (by omega), List.drop_of_length_le (by omega), List.nil_append]
theorem eC_put1 {a b : List UInt8} {X : Int} (d : List UInt8) (ha : a.length = 32) (hb : b.length = 32) : (eC (a, d, X)).toArray = ((eC (a, b, X)).toArray.toList.take 32 ++ u8s d ++ (eC (a, b, X)).toArray.toList.drop (32 + 32)).toArray := by
  have h1 : (u8s a).length = 32 := by simp [u8s, ha]
  have h2 : (u8s b).length = 32 := by simp [u8s, hb]
  simp only [eC]
  rw [List.take_append_of_le_length (by omega), List.take_of_length_le (by omega), List.drop_append, h1, List.drop_of_length_le (by omega), List.nil_append, List.drop_append_of_le_length (by omega), List.drop_of_length_le (by omega), List.nil_append, List.append_assoc]
theorem eC_put2 {a b : List UInt8} {X : Int} (Y : Int) (ha : a.length = 32) (hb : b.length = 32) : (eC (a, b, X)).toArray.setIfInBounds 64 (.int .i64 Y) = (eC (a, b, Y)).toArray := by
  have h1 : (u8s a).length = 32 := by simp [u8s, ha]
  have h2 : (u8s b).length = 32 := by simp [u8s, hb]
  apply Array.toList_inj.1
  simp only [eC, Array.toList_setIfInBounds]
  rw [List.set_append_right _ _ (by omega), h1, List.set_append_right _ _ (by omega), h2]
  rfl
/-- What the reference keeps of a row: a number that is too great is none. -/
def gdK (X : Nat) : Nat := if 1023 < X then 0 else X
def gdO (acc : List DRow) : Tv Pl := acc.map fun y => (y.1, y.2.1, (gdK y.2.2 : Int))
theorem gdO_snoc (acc : List DRow) (y : DRow) : gdO (acc ++ [y]) = gdO acc ++ [(y.1, y.2.1, (gdK y.2.2 : Int))] := by simp [gdO]
theorem gdO_len (acc : List DRow) : (gdO acc).length = acc.length := by simp [gdO]
theorem gdO_may {acc : List DRow} (h : mayG acc = true) : gdO acc = gdL acc := by
  unfold mayG at h
  rw [Bool.and_eq_true, List.all_eq_true] at h
  unfold gdO gdL
  refine List.map_congr_left fun y hy => ?_
  have := of_decide_eq_true (h.1 y hy)
  unfold gdK
  rw [if_neg (by omega)]
theorem gdO_each {acc : List DRow} (h : ∀ y ∈ acc, y.1.length = 32 ∧ y.2.1.length = 32) : ∀ e ∈ gdO acc, e.1.length = 32 ∧ e.2.1.length = 32 := fun e he => by
  obtain ⟨y, hy, rfl⟩ := List.mem_map.1 he
  exact h y hy
/-- While rows are read: the reader's block q, the rows ahead. -/
structure DgO (w W : World) (q : Nat) (m : List UInt8) (e : Int) (v : Value) (t : Tv Pl) : Prop where
  qw : w.heap.size ≤ q
  row : W.heap[q]? = some (.cells (drvC m e) 82 (0, 0))
  own : W.ownsRow (q + 1) 41 65 v t.length (eCs t)
  bel : Below w.heap.size w W
/-- .. and the row, in a block x0 of its own. -/
structure DgS (w W : World) (q x0 : Nat) (m : List UInt8) (e : Int) (v : Value) (t : Tv Pl) (F : List UInt8 × Pl) (FS : Array Value) : Prop where
  o : DgO w W q m e v t
  qx : q < x0
  ol : ∀ g, v.ownBlock = some g → g < x0
  fl : F.1.length = 32 ∧ F.2.1.length = 32
  fs : FS = (eC F).toArray
  frow : W.heap[x0]? = some (.cells FS 41 (0, 0))
section
variable {w W W' : World} {q x0 : Nat} {m m' : List UInt8} {e e' : Int} {v : Value} {t : Tv Pl} {F : List UInt8 × Pl} {FS : Array Value}
theorem DgO.later (h : DgO w W q m e v t) (hb : Below W.heap.size W W') : DgO w W' q m e v t :=
  ⟨h.qw, (hb.block q (lt_of_cells h.row)).trans h.row, row_below h.own hb, h.bel.trans (hb.mono h.bel.size)⟩
theorem DgO.setr (h : DgO w W q m e v t) (m' : List UInt8) (e' : Int) : DgO w (W.setRow q (drvC m' e')) q m' e' v t :=
  ⟨h.qw, setRow_at h.row, row_keep h.own fun g hg => setRow_ne _ _ _ _ (by have := (h.own.lt g hg).1; omega), below_setRow h.bel h.qw _⟩
theorem DgO.cell1 (h : DgO w W q m e v t) : W.cell? ⟨q, 1, none⟩ = some (.int .i64 e) := by
  rw [cell_of_cells h.row]
  rfl
theorem DgO.file (h : DgO w W q m e v t) {ZE : Array Value} (hZ : ZE = zEC) : DgS w (W.alloc (.cells ZE 41)) q W.heap.size m e v t zE ZE :=
  ⟨h.later ((Below.refl _ _).alloc (Nat.le_refl _) _), lt_of_cells h.row, fun g hg => (h.own.lt g hg).2, by simp [zE], hZ, heap_alloc_new W _⟩
theorem DgS.size (h : DgS w W q x0 m e v t F FS) : FS.size = 65 := by rw [h.fs, List.size_toArray, eC_len h.fl.1 h.fl.2]
theorem DgS.later (h : DgS w W q x0 m e v t F FS) (hb : Below W.heap.size W W') : DgS w W' q x0 m e v t F FS :=
  ⟨h.o.later hb, h.qx, h.ol, h.fl, h.fs, (hb.block x0 (lt_of_cells h.frow)).trans h.frow⟩
theorem DgS.setr (h : DgS w W q x0 m e v t F FS) (m' : List UInt8) (e' : Int) : DgS w (W.setRow q (drvC m' e')) q x0 m' e' v t F FS :=
  ⟨h.o.setr m' e', h.qx, h.ol, h.fl, h.fs, (setRow_ne _ _ _ _ (by have := h.qx; omega)).trans h.frow⟩
theorem DgS.put (h : DgS w W q x0 m e v t F FS) {G : List UInt8 × Pl} {GS : Array Value} (hG : G.1.length = 32 ∧ G.2.1.length = 32) (hs : GS = (eC G).toArray) : DgS w (W.setRow x0 GS) q x0 m e v t G GS := by
  have hqx := h.qx
  exact ⟨⟨h.o.qw, (setRow_ne _ _ _ _ (by omega)).trans h.o.row, row_keep h.o.own fun g hg => setRow_ne _ _ _ _ (by have := h.ol g hg; omega), below_setRow h.o.bel (by have := h.o.qw; omega) _⟩, hqx, h.ol, hG, hs, setRow_at h.frow⟩
theorem DgS.setn (h : DgS w W q x0 m e v t F FS) (Y : Int) {GS : Array Value} (hs : GS = (eC (F.1, F.2.1, Y)).toArray) : DgS w (W.setCell ⟨x0, 64, none⟩ (.int .i64 Y)) q x0 m e v t (F.1, F.2.1, Y) GS := by
  have hqx := h.qx
  have hk : ∀ g, g ≠ x0 → (W.setCell ⟨x0, 64, none⟩ (.int .i64 Y)).heap[g]? = W.heap[g]? := fun g hg => Below.heap_setCell _ _ _ _ hg
  refine ⟨⟨h.o.qw, (hk q (by omega)).trans h.o.row, row_keep h.o.own fun g hg => hk g (by have := h.ol g hg; omega), h.o.bel.setCell (p := ⟨x0, 64, none⟩) (by have := h.o.qw; show w.heap.size ≤ x0; omega) _⟩, hqx, h.ol, h.fl, hs, ?_⟩
  have h1 := set_of_cells h.frow 64 (.int .i64 Y)
  rw [h.fs, eC_put2 Y h.fl.1 h.fl.2] at h1
  rw [hs]
  exact h1
end
def DrgPost (w : World) (r : Tv Pl × Int) (e : Ending) (w' : World) : Prop :=
  ∃ A c, e = .returned (.tuple #[.slice A r.1.length c, .int .i64 r.2]) ∧ Es w' (w.heap.size ≤ ·) A r.1.length c r.1 ∧ Below w.heap.size w w'
theorem drgPost_nil {w w' : World} {r : Tv Pl × Int} {E : Int} (hr : r = ([], E)) (hb : Below w.heap.size w w') : DrgPost w r (.returned (.tuple #[.slice none 0 0, .int .i64 E])) w' := by
  subst hr
  exact ⟨none, 0, rfl, Es.nil _ _ _ _ (Nat.zero_le _), hb⟩
theorem dend_bad {acc : List DRow} {l : List UInt8} {e : Int} (h : e ≠ 0) : getDEnd (acc, l, e) = ([], e) := by
  unfold getDEnd
  simp only
  rw [endE_bad h, if_pos h]
/-- The loop's state. -/
def DgR (w : World) (q M : Nat) (R0 : Tv Pl × Int) (v f i : Value) (wr : World) : Prop :=
  ∃ j : Nat, i = .int .u64 (j : Int) ∧ j ≤ M ∧ ((∃ acc l, R0 = getDEnd (gdGo (M - j) acc l 0) ∧ DgO w wr q l 0 v (gdO acc) ∧ f = .bool (mayG acc) ∧ acc.length = j ∧ j * 65 + l.length ≤ 1000000 ∧ (∀ y ∈ acc, y.1.length = 32 ∧ y.2.1.length = 32)) ∨ ∃ e m t B, e ≠ 0 ∧ R0 = ([], e) ∧ f = .bool B ∧ DgO w wr q m e v t)
theorem dg_next {w W : World} {q M j X Y : Nat} {R0 : Tv Pl × Int} {acc : List DRow} {l K P l1 l2 l3 m3 : List UInt8} {e1 e2 e3 : Int} {v : Value} {B : Bool} (hj : j < M)
    (hg : R0 = getDEnd (gdGo (M - j) acc l 0) ∧ acc.length = j ∧ j * 65 + l.length ≤ 1000000 ∧ ∀ y ∈ acc, y.1.length = 32 ∧ y.2.1.length = 32)
    (h1 : K = idL l 0 ∧ l1 = fxL l 0 32 ∧ e1 = tkE l 0 32) (h2 : P = idL l1 e1 ∧ l2 = fxL l1 e1 32 ∧ e2 = tkE l1 e1 32) (h3 : X = uiX l2 e2 ∧ l3 = uiL l2 e2 ∧ e3 = uiE l2 e2) (hm : e3 = 0 → m3 = l3)
    (hY : Y = gdK X) (hB : B = mayG (acc ++ [(K, P, X)])) (hO : DgO w W q m3 e3 v (gdO acc ++ [(K, P, (Y : Int))])) : DgR w q M R0 v (.bool B) (.int .u64 ((j + 1 : Nat) : Int)) W := by
  have hr : dgR l 0 = (K, P, X) := by unfold dgR; rw [h3.1, h2.1, h2.2.1, h2.2.2, h1.1, h1.2.1, h1.2.2]
  have hl : dgL l 0 = l3 := by unfold dgL; rw [h3.2.1, h2.2.1, h2.2.2, h1.2.1, h1.2.2]
  have he : dgE l 0 = e3 := by unfold dgE; rw [h3.2.2, h2.2.1, h2.2.2, h1.2.1, h1.2.2]
  have hstep : R0 = getDEnd (gdGo (M - (j + 1)) (acc ++ [(K, P, X)]) l3 e3) := by
    rw [hg.1, show M - j = (M - (j + 1)) + 1 by omega, gdGo, if_pos rfl, hr, hl, he]
  refine ⟨j + 1, rfl, by omega, ?_⟩
  by_cases h0 : e3 = 0
  · left
    refine ⟨acc ++ [(K, P, X)], l3, by rw [hstep, h0], ?_, by rw [hB], by simp [hg.2.1], ?_, ?_⟩
    · rw [gdO_snoc, ← hY, ← hm h0]
      rw [h0] at hO
      exact hO
    · have := dg_len (l := l) (e := 0) (by rw [he, h0])
      rw [hl] at this
      have := hg.2.2.1
      omega
    · intro y hy
      rcases List.mem_append.1 hy with hy | hy
      · exact hg.2.2.2 y hy
      · simp only [List.mem_singleton] at hy
        subst hy
        exact ⟨by rw [h1.1]; exact idL_length _ _, by rw [h2.1]; exact idL_length _ _⟩
  · right
    exact ⟨e3, m3, _, B, h0, by rw [hstep, gdGo_bad h0]; exact dend_bad h0, rfl, hO⟩
theorem dd_run_geq (t : TypeId) (a b : List UInt8) (W : World) : (binOp .geq t (.string (st a)) (.string (st b))).run Try.prog W = .ok (.bool (!decide (a < b))) W := by
  rw [← bytes_less]
  simp [binOp, Op.stringOp, st_list]
theorem mayS_one {acc : List DRow} {y : DRow} {j : Nat} (hj : acc.length = j) (h0 : ¬ 0 < j) : mayS acc y = decide (y.2.2 ≤ 1023) := by
  obtain rfl : acc = [] := List.eq_nil_of_length_eq_zero (by omega)
  simp [mayS]
theorem mayS_two {acc : List DRow} {y z : DRow} {j : Nat} (hj : acc.length = j) (hz : acc[j - 1]? = some z) : mayS acc y = (decide (y.2.2 ≤ 1023) && decide (z.1 < y.1)) := by
  unfold mayS
  rw [List.getLast?_eq_getElem?, hj, hz]
set_option maxHeartbeats 16000000 in
set_option maxRecDepth 100000 in
theorem drget_any (b : List UInt8) (hbl : b.length ≤ 1000000) (w : World) :
    Calls Try.prog 20 #[.string (st b)] w fun e w' => DrgPost w (getD b) e w' := by
  have HGF : Hid (getD b = getDEnd (gdGo (uiX b 0) [] (uiL b 0) (uiE b 0))) := Lib.hid rfl
  obtain ⟨R0, hR0⟩ : ∃ R0, R0 = getD b := ⟨_, rfl⟩
  rw [← hR0] at HGF ⊢
  clear hR0
  have hui := ref_uint b 0 w
  have hzr := dzero_r
  obtain ⟨ZE, hZE⟩ : ∃ ZE, ZE = zEC := ⟨_, rfl⟩
  have hze : ∀ W, (zeroValue 41).run Try.prog W = .ok (.agg ZE) W := fun W => by rw [hZE]; exact dzero_e W
  have HZE := Lib.hid hZE
  clear hZE
  have HL0 : Hid ((uiL b 0).length ≤ 1000000) := Lib.hid (Nat.le_trans (uiL_length b 0) hbl)
  have hMx := uiX_lt b 0
  clear hbl
  obtain ⟨M, hM⟩ : ∃ M, M = uiX b 0 := ⟨_, rfl⟩
  obtain ⟨e0, he0⟩ : ∃ e0, e0 = uiE b 0 := ⟨_, rfl⟩
  obtain ⟨l0, hl0⟩ : ∃ l0, l0 = uiL b 0 := ⟨_, rfl⟩
  rw [← hM, ← he0, ← hl0] at hui HGF
  rw [← hl0] at HL0
  rw [← hM] at hMx
  have HMX := Lib.hid hMx
  clear hM he0 hl0 hMx
  go_enter Try.func20, Try.ntmps20
  go_upto_region 2 with (first
    | (go_at_call 35; refine hui.mono ?_; clear hui; rintro _ w1 ⟨m0, rfl, hm0, hb1⟩)
    | (refine wpList_store_row (by rfl) 82 (.tmp 4) (.tmp 16) (by rfl) w1.heap.size (drvC m0 e0) (by rfl) (by rfl) 82 _ (heap_alloc_new w1 _) dr_info (by rfl) (drvC_one _ _) ?_))
  have H2 : Hid (DgO w ((w1.alloc (.cells #[.string ⟨#[]⟩, .int .i64 0] 82)).setRow w1.heap.size (drvC m0 e0)) w1.heap.size m0 e0 (.slice none 0 0) []) :=
    Lib.hid ⟨hb1.size, setRow_at (heap_alloc_new w1 _), World.ownsRow_nil _ _ _ _, below_setRow (hb1.alloc hb1.size _) hb1.size _⟩
  have HM0 := Lib.hid hm0
  clear hm0 hb1 hzr
  obtain ⟨q, hq⟩ : ∃ q, q = w1.heap.size := ⟨_, rfl⟩
  rw [← hq] at H2 ⊢
  generalize (w1.alloc (.cells #[.string ⟨#[]⟩, .int .i64 0] 82)).setRow q (drvC m0 e0) = w2 at *
  clear hq
  have H0 : Hid (DgR w q M R0 (.slice none 0 0) (.bool true) (.int .u64 0) w2) := Lib.hid (by
    by_cases he : e0 = 0
    · subst he
      obtain rfl : m0 = l0 := HM0.out rfl
      exact ⟨0, rfl, Nat.zero_le _, .inl ⟨[], m0, HGF.out, H2.out, rfl, rfl, by have := HL0.out; omega, by simp⟩⟩
    · exact ⟨0, rfl, Nat.zero_le _, .inr ⟨e0, m0, [], true, he, by rw [HGF.out, gdGo_bad he]; exact dend_bad he, rfl, H2.out⟩⟩)
  clear HGF HM0 HL0 H2
  go_upto_region 5 with fail
  go_loopw [6, 7, 8] (fun v f i wr => DgR w q M R0 v f i wr) (fun _ _ i _ => M - (intOf i).toNat)
  case atStart => exact H0.out
  case round =>
    obtain ⟨j, rfl, hj, hrel⟩ := hrel
    clear H0
    rcases hrel with ⟨acc, l, hgo, hO, rfl, hac, hll, h32⟩ | ⟨e, m, t, B, he, hgo, rfl, hO⟩
    · have HO := Lib.hid hO
      have hc1 := HO.out.cell1
      have HG := Lib.hid (And.intro hgo (And.intro hac (And.intro hll h32)))
      obtain ⟨Fb, hFb⟩ : ∃ Fb, Fb = mayG acc := ⟨_, rfl⟩
      rw [← hFb]
      have HFb := Lib.hid hFb
      obtain ⟨Av, cv, rfl, _⟩ := row_slice hO.own
      clear hO hgo hac hll h32 hFb
      by_cases hlt : j < M
      · have hlt' : (j : Int) < (M : Int) := by omega
        have hadd : IntKind.u64.wrap ((j : Int) + 1) = (j : Int) + 1 := IntWalk.u64_in _ (by have := HMX.out; omega)
        have H5 := Lib.hid (HO.out.file HZE.out)
        have HLT := Lib.hid hlt
        clear hlt
        go_upto_region 9 with fail
        clear hc1
        obtain ⟨x0, hx0⟩ : ∃ x0, x0 = wr.heap.size := ⟨_, rfl⟩
        rw [← hx0] at H5 ⊢
        generalize wr.alloc (.cells ZE 41) = w5 at *
        clear hx0 HO
        have hid1 := ref_id l 0 w5
        obtain ⟨K, hK⟩ : ∃ K, K = idL l 0 := ⟨_, rfl⟩
        obtain ⟨KC, hKC⟩ : ∃ KC, KC = idC l 0 := ⟨_, rfl⟩
        obtain ⟨l1, hl1⟩ : ∃ l1, l1 = fxL l 0 32 := ⟨_, rfl⟩
        obtain ⟨e1, he1⟩ : ∃ e1, e1 = tkE l 0 32 := ⟨_, rfl⟩
        rw [← hKC, ← hl1, ← he1] at hid1
        have HK : Hid (KC = row8 K ∧ K.length = 32) := Lib.hid ⟨by rw [hKC, hK]; rfl, by rw [hK]; exact idL_length _ _⟩
        have HEQ := Lib.hid (And.intro hK (And.intro hl1 he1))
        obtain ⟨G1, hG1⟩ : ∃ G1, G1 = (eC (K, zE.2.1, zE.2.2)).toArray := ⟨_, rfl⟩
        have HG1 := Lib.hid hG1
        clear hK hKC hl1 he1 hG1
        go_upto_region 10 with (first
          | (refine wpList_load_row (by rfl) 82 (.tmp 4) (by rfl) q (by rfl) 82 (drvC l 0) (0, 0) _ H5.out.o.row Try.underlying82 (by rfl) dr_info ?_)
          | (go_at_call 36; refine hid1.mono ?_; clear hid1; rintro _ w6 ⟨rfl, hb6⟩; have H6 := Lib.hid (H5.out.later hb6); clear hb6)
          | (refine wpList_store_row (by rfl) 82 (.tmp 4) (.tmp 31) (by rfl) q (drvC l1 e1) (by rfl) (by rfl) 82 _ H6.out.o.row dr_info (by rfl) (drvC_one _ _) ?_
             have H7 := Lib.hid (H6.out.setr l1 e1)
             clear H6)
          | (refine wpList_store_idp (o := 0) (by rfl) (.tmp 33) (.tmp 32) (by rfl) H7.out.frow (by have := H7.out.size; omega) K HK.out.1 HK.out.2 (by rfl) (by rfl) (CT := G1) (by rw [H7.out.fs, HG1.out]; exact eC_put0 K H7.out.fl.1) ?_
             have H8 := Lib.hid (H7.out.put (G := (K, zE.2.1, zE.2.2)) ⟨HK.out.2, H7.out.fl.2⟩ HG1.out)
             clear H7
             generalize (w6.setRow q (drvC l1 e1)).setRow x0 G1 = w8 at H8 ⊢))
        clear H5
        have hid2 := ref_id l1 e1 w8
        obtain ⟨P, hP⟩ : ∃ P, P = idL l1 e1 := ⟨_, rfl⟩
        obtain ⟨PC, hPC⟩ : ∃ PC, PC = idC l1 e1 := ⟨_, rfl⟩
        obtain ⟨l2, hl2⟩ : ∃ l2, l2 = fxL l1 e1 32 := ⟨_, rfl⟩
        obtain ⟨e2, he2⟩ : ∃ e2, e2 = tkE l1 e1 32 := ⟨_, rfl⟩
        rw [← hPC, ← hl2, ← he2] at hid2
        have HP : Hid (PC = row8 P ∧ P.length = 32) := Lib.hid ⟨by rw [hPC, hP]; rfl, by rw [hP]; exact idL_length _ _⟩
        have HEQ2 := Lib.hid (And.intro hP (And.intro hl2 he2))
        obtain ⟨G2, hG2⟩ : ∃ G2, G2 = (eC (K, P, zE.2.2)).toArray := ⟨_, rfl⟩
        have HG2 := Lib.hid hG2
        clear hP hPC hl2 he2 hG2
        go_upto_region 11 with (first
          | (refine wpList_load_row (by rfl) 82 (.tmp 4) (by rfl) q (by rfl) 82 (drvC l1 e1) (0, 0) _ H8.out.o.row Try.underlying82 (by rfl) dr_info ?_)
          | (go_at_call 36; refine hid2.mono ?_; clear hid2; rintro _ w9 ⟨rfl, hb9⟩; have H9 := Lib.hid (H8.out.later hb9); clear hb9)
          | (refine wpList_store_row (by rfl) 82 (.tmp 4) (.tmp 37) (by rfl) q (drvC l2 e2) (by rfl) (by rfl) 82 _ H9.out.o.row dr_info (by rfl) (drvC_one _ _) ?_
             have H10 := Lib.hid (H9.out.setr l2 e2)
             clear H9)
          | (refine wpList_store_idp (o := 32) (by rfl) (.tmp 39) (.tmp 38) (by rfl) H10.out.frow (by have := H10.out.size; omega) P HP.out.1 HP.out.2 (by rfl) (by rfl) (CT := G2) (by rw [H10.out.fs, HG2.out]; exact eC_put1 P H10.out.fl.1 H10.out.fl.2) ?_
             have H11 := Lib.hid (H10.out.put (G := (K, P, zE.2.2)) ⟨HK.out.2, HP.out.2⟩ HG2.out)
             clear H10
             generalize (w9.setRow q (drvC l2 e2)).setRow x0 G2 = w11 at H11 ⊢))
        clear H8
        have hui3 := ref_uint l2 e2 w11
        obtain ⟨X, hX⟩ : ∃ X, X = uiX l2 e2 := ⟨_, rfl⟩
        obtain ⟨l3, hl3⟩ : ∃ l3, l3 = uiL l2 e2 := ⟨_, rfl⟩
        obtain ⟨e3, he3⟩ : ∃ e3, e3 = uiE l2 e2 := ⟨_, rfl⟩
        rw [← hX, ← hl3, ← he3] at hui3
        have HEQ3 := Lib.hid (And.intro hX (And.intro hl3 he3))
        clear hX hl3 he3
        go_upto_region 12 with (first
          | (refine wpList_load_row (by rfl) 82 (.tmp 4) (by rfl) q (by rfl) 82 (drvC l2 e2) (0, 0) _ H11.out.o.row Try.underlying82 (by rfl) dr_info ?_)
          | (go_at_call 35; refine hui3.mono ?_; clear hui3; rintro _ w12 ⟨m3, rfl, hm3, hb12⟩; have HM3 := Lib.hid hm3; have H12 := Lib.hid (H11.out.later hb12); clear hb12 hm3)
          | (refine wpList_store_row (by rfl) 82 (.tmp 4) (.tmp 43) (by rfl) q (drvC m3 e3) (by rfl) (by rfl) 82 _ H12.out.o.row dr_info (by rfl) (drvC_one _ _) ?_
             have H13 := Lib.hid (H12.out.setr m3 e3)
             clear H12
             generalize w12.setRow q (drvC m3 e3) = w13 at H13 ⊢))
        clear H11
        by_cases hbig : 1023 < X
        · have hkX : (X : Int) > 1023 := by omega
          have HY : Hid (0 = gdK X) := Lib.hid (by unfold gdK; rw [if_pos hbig])
          have hcl : w13.cell? ⟨x0, 64, none⟩ = some (.int .i64 zE.2.2) := by
            rw [cell_of_cells H13.out.frow, H13.out.fs, List.getElem?_toArray]
            unfold eC
            rw [List.getElem?_append_right (by rw [u8s_length, HK.out.2]; omega), List.getElem?_append_right (by rw [u8s_length, u8s_length, HK.out.2, HP.out.2]; omega), u8s_length, u8s_length, HK.out.2, HP.out.2]
            rfl
          have hfz := free_of_cells H13.out.frow 64
          obtain ⟨G3, hG3⟩ : ∃ G3, G3 = (eC (K, P, (0 : Int))).toArray := ⟨_, rfl⟩
          have H16 := Lib.hid ((H13.out.setn (0 : Int) hG3).later (below_drew (Below.refl _ _)))
          have HG3 := Lib.hid hG3
          obtain ⟨NT, hNT⟩ : ∃ NT, NT = (gdO acc).length := ⟨_, rfl⟩
          rw [← hNT] at H16 ⊢
          have HNT : Hid (NT = (gdO acc).length ∧ NT = j) := Lib.hid ⟨hNT, by rw [hNT, gdO_len, HG.out.2.1]⟩
          clear hG3 hNT H13
          by_cases hj0 : 0 < j
          · obtain ⟨z, hz⟩ : ∃ z, acc[j - 1]? = some z := ⟨_, List.getElem?_eq_getElem (by have := HG.out.2.1; omega)⟩
            have hz32 := HG.out.2.2.2 z (List.mem_of_getElem? hz)
            have hzo : (gdO acc)[j - 1]? = some (z.1, z.2.1, (gdK z.2.2 : Int)) := by unfold gdO; rw [List.getElem?_map, hz]; rfl
            have ho16 := H16.out.o.own
            rw [← HNT.out.1] at ho16
            obtain ⟨g, hA, hg1, hg2, _, _, _, hcc⟩ := row_cells ho16 (by rw [HNT.out.2]; exact hj0)
            subst hA
            have hby : Byt ((w13.setCell ⟨x0, 64, none⟩ (.int .i64 (0 : Int))).drew) (fun _ => True) (some ⟨g, (j - 1) * 65, none⟩) 32 32 z.1 := esByt (fun u x hu => by
              rw [add_plain]
              refine hcc _ _ (eCs_at (gdO_each HG.out.2.2.2) hzo ?_)
              rw [row8, List.getElem?_toArray] at hu
              rw [eC, List.getElem?_append_left (List.getElem?_eq_some_iff.1 hu).1]
              exact hu) hg2 hz32.1
            have hbx : Byt ((w13.setCell ⟨x0, 64, none⟩ (.int .i64 (0 : Int))).drew) (fun _ => True) (some ⟨x0, 0, none⟩) 32 32 K := esByt (fun u x hu => by
              rw [add_plain, Nat.zero_add, cell_of_cells H16.out.frow, H16.out.fs, List.getElem?_toArray, eC]
              rw [row8, List.getElem?_toArray] at hu
              rw [List.getElem?_append_left (List.getElem?_eq_some_iff.1 hu).1]
              exact hu) (lt_of_cells H16.out.frow) HK.out.2
            have hC : (fun W : World => Byt W (fun _ => True) (some ⟨g, (j - 1) * 65, none⟩) 32 32 z.1 ∧ Byt W (fun _ => True) (some ⟨x0, 0, none⟩) 32 32 K) ((w13.setCell ⟨x0, 64, none⟩ (.int .i64 (0 : Int))).drew) := ⟨hby, hbx⟩
            have hsub : IntKind.u64.wrap ((j : Int) - 1) = ((j - 1 : Nat) : Int) := by rw [IntWalk.u64_in _ (by have := HMX.out; have := HLT.out; omega)]; omega
            have hil : ((j - 1 : Nat) : Int) < (NT : Int) := by have := HNT.out.2; omega
            have hjp : decide (0 < j) = true := by simpa using hj0
            obtain ⟨SZ, hSZ⟩ : ∃ SZ, SZ = st z.1 := ⟨_, rfl⟩
            obtain ⟨SK, hSK⟩ : ∃ SK, SK = st K := ⟨_, rfl⟩
            have HSS := Lib.hid (And.intro hSZ hSK)
            have HZ := Lib.hid hz
            clear ho16 hz hz32 hzo hcc hg1 hg2 hby hbx hj0
            rcases hlt2 : decide (z.1 < K) with _ | _
            · have hgq : ∀ W, (binOp .geq 9 (.string SZ) (.string SK)).run Try.prog W = .ok (.bool true) W := fun W => by rw [hSZ, hSK, dd_run_geq, hlt2]; rfl
              have HMB : Hid (false = mayG (acc ++ [(K, P, X)])) := Lib.hid (by rw [mayG_snoc, mayS_two HG.out.2.1 HZ.out]; simp only; rw [hlt2]; simp)
              clear hlt2 hSZ hSK
              go_wp2
              refine wp_region_plan (fun W : World => Byt W (fun _ => True) (some ⟨g, (j - 1) * 65, none⟩) 32 32 z.1 ∧ Byt W (fun _ => True) (some ⟨x0, 0, none⟩) 32 32 K) [] [0, 1, 2, 3, 4, 5, 6, 7, 8, 9, 10, 11, 12, 13, 14] (by kernel_rfl) (by kernel_rfl) (fun _ _ d _ _ h => by cases d <;> exact h) hC ?_
              refine plan_last ?_
              refine seg_read ?v1 (by rfl) (by rfl) ?h1 ?_
              case h1 => intro W hW; go_simp; with_reducible rfl
              try simp only [Act.put, List.setIfInBounds_toArray, List.set_cons_zero, List.set_cons_succ]
              refine seg_read ?v2 (by rfl) (by rfl) ?h2 ?_
              case h2 => intro W hW; go_simp; with_reducible rfl
              try simp only [Act.put, List.setIfInBounds_toArray, List.set_cons_zero, List.set_cons_succ]
              refine seg_read ?v3 (by rfl) (by rfl) ?h3 ?_
              case h3 => intro W hW; go_simp; with_reducible rfl
              try simp only [Act.put, List.setIfInBounds_toArray, List.set_cons_zero, List.set_cons_succ]
              refine seg_read ?v4 (by rfl) (by rfl) ?h4 ?_
              case h4 => intro W hW; go_simp; with_reducible rfl
              try simp only [Act.put, List.setIfInBounds_toArray, List.set_cons_zero, List.set_cons_succ]
              refine seg_read ?v5 (by rfl) (by rfl) ?h5 ?_
              case h5 => intro W hW; go_simp; with_reducible rfl
              try simp only [Act.put, List.setIfInBounds_toArray, List.set_cons_zero, List.set_cons_succ]
              refine seg_read ?v6 (by rfl) (by rfl) ?h6 ?_
              case h6 => intro W hW; go_simp; with_reducible rfl
              try simp only [Act.put, List.setIfInBounds_toArray, List.set_cons_zero, List.set_cons_succ]
              refine seg_read ?v7 (by rfl) (by rfl) ?h7 ?_
              case h7 => intro W hW; go_simp; with_reducible rfl
              try simp only [Act.put, List.setIfInBounds_toArray, List.set_cons_zero, List.set_cons_succ]
              refine seg_read ?v8 (by rfl) (by rfl) ?h8 ?_
              case h8 => intro W hW; go_simp; with_reducible rfl
              try simp only [Act.put, List.setIfInBounds_toArray, List.set_cons_zero, List.set_cons_succ]
              refine seg_read ?v9 (by rfl) (by rfl) ?h9 ?_
              case h9 => intro W hW; go_simp; with_reducible rfl
              try simp only [Act.put, List.setIfInBounds_toArray, List.set_cons_zero, List.set_cons_succ]
              refine seg_read ?v10 (by rfl) (by rfl) ?h10 ?_
              case h10 => intro W hW; have hcv := byt_string hW.1; rw [show (⟨z.1.toArray⟩ : ByteArray) = SZ from HSS.out.1.symm] at hcv; go_simp; with_reducible rfl
              try simp only [Act.put, List.setIfInBounds_toArray, List.set_cons_zero, List.set_cons_succ]
              refine seg_read ?v11 (by rfl) (by rfl) ?h11 ?_
              case h11 => intro W hW; go_simp; with_reducible rfl
              try simp only [Act.put, List.setIfInBounds_toArray, List.set_cons_zero, List.set_cons_succ]
              refine seg_read ?v12 (by rfl) (by rfl) ?h12 ?_
              case h12 => intro W hW; go_simp; with_reducible rfl
              try simp only [Act.put, List.setIfInBounds_toArray, List.set_cons_zero, List.set_cons_succ]
              refine seg_read ?v13 (by rfl) (by rfl) ?h13 ?_
              case h13 => intro W hW; have hcv := byt_string hW.2; rw [show (⟨K.toArray⟩ : ByteArray) = SK from HSS.out.2.symm] at hcv; go_simp; with_reducible rfl
              try simp only [Act.put, List.setIfInBounds_toArray, List.set_cons_zero, List.set_cons_succ]
              refine seg_read ?v14 (by rfl) (by rfl) ?h14 ?_
              case h14 => intro W hW; have hgw := hgq W; go_simp; with_reducible rfl
              try simp only [Act.put, List.setIfInBounds_toArray, List.set_cons_zero, List.set_cons_succ]
              refine seg_read ?v15 (by rfl) (by rfl) ?h15 ?_
              case h15 => intro W hW; go_simp; with_reducible rfl
              try simp only [Act.put, List.setIfInBounds_toArray, List.set_cons_zero, List.set_cons_succ]
              refine seg_nil ?_
              generalize (w13.setCell ⟨x0, 64, none⟩ (.int .i64 (0 : Int))).drew = w16 at H16 ⊢
              have hlit := run_e_lit w16 G3 HG3.out HK.out.2 HP.out.2
              obtain ⟨A7, c7, w17, hap, how, hb17⟩ := epush (W := w16) (B := q + 1) (t := gdO acc) (e := (K, P, (0 : Int))) (v := .slice (some ⟨g, 0, none⟩) NT cv) H16.out.o.own HK.out.2 HP.out.2 (by have := lt_of_cells H16.out.o.row; omega) (by rw [gdO_len]; have := HG.out.2.2.1; have := HG.out.2.1; omega) 26
              rw [← HG3.out, ← HNT.out.1] at hap
              rw [← HNT.out.1] at how
              have HAP := Lib.hid hap
              have H17 : Hid (DgO w w17 q m3 e3 (.slice A7 (NT + 1) c7) (gdO acc ++ [(K, P, (0 : Int))])) := Lib.hid ⟨H16.out.o.qw, (hb17.block q (by omega)).trans H16.out.o.row, how, H16.out.o.bel.trans (hb17.mono (by have := H16.out.o.qw; omega))⟩
              clear hap how hb17
              go_wp2_with (first
                | (refine wpList_load_row (by rfl) 41 (.tmp 9) (by rfl) x0 (by rfl) 41 G3 (0, 0) _ H16.out.frow Try.underlying41 (by rfl) (by rw [H16.out.size]; exact e_size) ?_)
                | (refine wpList_lit1 (by rfl) 26 (.tmp 66) (by rfl) (by rfl) hlit ?_)
                | (at_builtin; refine wpList_app (by rfl) (.tmp 65) (.tmp 67) 26 (by rfl) (by rfl) (by rfl) HAP.out ?_))
              exact ⟨by
                rw [show ((j : Int) + 1) = ((j + 1 : Nat) : Int) by simp]
                exact dg_next HLT.out HG.out HEQ.out HEQ2.out HEQ3.out HM3.out HY.out HMB.out H17.out, by have := HLT.out; simp only [intOf]; omega⟩
            · have hgq : ∀ W, (binOp .geq 9 (.string SZ) (.string SK)).run Try.prog W = .ok (.bool false) W := fun W => by rw [hSZ, hSK, dd_run_geq, hlt2]; rfl
              have HMB : Hid (false = mayG (acc ++ [(K, P, X)])) := Lib.hid (by rw [mayG_snoc, mayS_two HG.out.2.1 HZ.out]; simp only; rw [hlt2]; simp [show ¬ X ≤ 1023 by omega])
              clear hlt2 hSZ hSK
              go_wp2
              refine wp_region_plan (fun W : World => Byt W (fun _ => True) (some ⟨g, (j - 1) * 65, none⟩) 32 32 z.1 ∧ Byt W (fun _ => True) (some ⟨x0, 0, none⟩) 32 32 K) [] [0, 1, 2, 3, 4, 5, 6, 7, 8, 9, 10, 11, 12, 13, 14] (by kernel_rfl) (by kernel_rfl) (fun _ _ d _ _ h => by cases d <;> exact h) hC ?_
              refine plan_last ?_
              refine seg_read ?v16 (by rfl) (by rfl) ?h16 ?_
              case h16 => intro W hW; go_simp; with_reducible rfl
              try simp only [Act.put, List.setIfInBounds_toArray, List.set_cons_zero, List.set_cons_succ]
              refine seg_read ?v17 (by rfl) (by rfl) ?h17 ?_
              case h17 => intro W hW; go_simp; with_reducible rfl
              try simp only [Act.put, List.setIfInBounds_toArray, List.set_cons_zero, List.set_cons_succ]
              refine seg_read ?v18 (by rfl) (by rfl) ?h18 ?_
              case h18 => intro W hW; go_simp; with_reducible rfl
              try simp only [Act.put, List.setIfInBounds_toArray, List.set_cons_zero, List.set_cons_succ]
              refine seg_read ?v19 (by rfl) (by rfl) ?h19 ?_
              case h19 => intro W hW; go_simp; with_reducible rfl
              try simp only [Act.put, List.setIfInBounds_toArray, List.set_cons_zero, List.set_cons_succ]
              refine seg_read ?v20 (by rfl) (by rfl) ?h20 ?_
              case h20 => intro W hW; go_simp; with_reducible rfl
              try simp only [Act.put, List.setIfInBounds_toArray, List.set_cons_zero, List.set_cons_succ]
              refine seg_read ?v21 (by rfl) (by rfl) ?h21 ?_
              case h21 => intro W hW; go_simp; with_reducible rfl
              try simp only [Act.put, List.setIfInBounds_toArray, List.set_cons_zero, List.set_cons_succ]
              refine seg_read ?v22 (by rfl) (by rfl) ?h22 ?_
              case h22 => intro W hW; go_simp; with_reducible rfl
              try simp only [Act.put, List.setIfInBounds_toArray, List.set_cons_zero, List.set_cons_succ]
              refine seg_read ?v23 (by rfl) (by rfl) ?h23 ?_
              case h23 => intro W hW; go_simp; with_reducible rfl
              try simp only [Act.put, List.setIfInBounds_toArray, List.set_cons_zero, List.set_cons_succ]
              refine seg_read ?v24 (by rfl) (by rfl) ?h24 ?_
              case h24 => intro W hW; go_simp; with_reducible rfl
              try simp only [Act.put, List.setIfInBounds_toArray, List.set_cons_zero, List.set_cons_succ]
              refine seg_read ?v25 (by rfl) (by rfl) ?h25 ?_
              case h25 => intro W hW; have hcv := byt_string hW.1; rw [show (⟨z.1.toArray⟩ : ByteArray) = SZ from HSS.out.1.symm] at hcv; go_simp; with_reducible rfl
              try simp only [Act.put, List.setIfInBounds_toArray, List.set_cons_zero, List.set_cons_succ]
              refine seg_read ?v26 (by rfl) (by rfl) ?h26 ?_
              case h26 => intro W hW; go_simp; with_reducible rfl
              try simp only [Act.put, List.setIfInBounds_toArray, List.set_cons_zero, List.set_cons_succ]
              refine seg_read ?v27 (by rfl) (by rfl) ?h27 ?_
              case h27 => intro W hW; go_simp; with_reducible rfl
              try simp only [Act.put, List.setIfInBounds_toArray, List.set_cons_zero, List.set_cons_succ]
              refine seg_read ?v28 (by rfl) (by rfl) ?h28 ?_
              case h28 => intro W hW; have hcv := byt_string hW.2; rw [show (⟨K.toArray⟩ : ByteArray) = SK from HSS.out.2.symm] at hcv; go_simp; with_reducible rfl
              try simp only [Act.put, List.setIfInBounds_toArray, List.set_cons_zero, List.set_cons_succ]
              refine seg_read ?v29 (by rfl) (by rfl) ?h29 ?_
              case h29 => intro W hW; have hgw := hgq W; go_simp; with_reducible rfl
              try simp only [Act.put, List.setIfInBounds_toArray, List.set_cons_zero, List.set_cons_succ]
              refine seg_read ?v30 (by rfl) (by rfl) ?h30 ?_
              case h30 => intro W hW; go_simp; with_reducible rfl
              try simp only [Act.put, List.setIfInBounds_toArray, List.set_cons_zero, List.set_cons_succ]
              refine seg_nil ?_
              generalize (w13.setCell ⟨x0, 64, none⟩ (.int .i64 (0 : Int))).drew = w16 at H16 ⊢
              have hlit := run_e_lit w16 G3 HG3.out HK.out.2 HP.out.2
              obtain ⟨A7, c7, w17, hap, how, hb17⟩ := epush (W := w16) (B := q + 1) (t := gdO acc) (e := (K, P, (0 : Int))) (v := .slice (some ⟨g, 0, none⟩) NT cv) H16.out.o.own HK.out.2 HP.out.2 (by have := lt_of_cells H16.out.o.row; omega) (by rw [gdO_len]; have := HG.out.2.2.1; have := HG.out.2.1; omega) 26
              rw [← HG3.out, ← HNT.out.1] at hap
              rw [← HNT.out.1] at how
              have HAP := Lib.hid hap
              have H17 : Hid (DgO w w17 q m3 e3 (.slice A7 (NT + 1) c7) (gdO acc ++ [(K, P, (0 : Int))])) := Lib.hid ⟨H16.out.o.qw, (hb17.block q (by omega)).trans H16.out.o.row, how, H16.out.o.bel.trans (hb17.mono (by have := H16.out.o.qw; omega))⟩
              clear hap how hb17
              go_wp2_with (first
                | (refine wpList_load_row (by rfl) 41 (.tmp 9) (by rfl) x0 (by rfl) 41 G3 (0, 0) _ H16.out.frow Try.underlying41 (by rfl) (by rw [H16.out.size]; exact e_size) ?_)
                | (refine wpList_lit1 (by rfl) 26 (.tmp 66) (by rfl) (by rfl) hlit ?_)
                | (at_builtin; refine wpList_app (by rfl) (.tmp 65) (.tmp 67) 26 (by rfl) (by rfl) (by rfl) HAP.out ?_))
              exact ⟨by
                rw [show ((j : Int) + 1) = ((j + 1 : Nat) : Int) by simp]
                exact dg_next HLT.out HG.out HEQ.out HEQ2.out HEQ3.out HM3.out HY.out HMB.out H17.out, by have := HLT.out; simp only [intOf]; omega⟩
          · have hjp : decide (0 < j) = false := by simpa using hj0
            have HMB : Hid (false = mayG (acc ++ [(K, P, X)])) := Lib.hid (by rw [mayG_snoc, mayS_one HG.out.2.1 hj0]; simp only; simp [show ¬ X ≤ 1023 by omega])
            clear hj0
            go_wp2
            refine wp_region_plan (fun _ : World => True) [] [0, 1, 2, 3, 4, 5, 6, 7, 8, 9, 10, 11, 12, 13, 14] (by kernel_rfl) (by kernel_rfl) (fun _ _ d _ _ h => by cases d <;> exact h) trivial ?_
            refine plan_last ?_
            refine seg_read ?v31 (by rfl) (by rfl) ?h31 ?_
            case h31 => intro W hW; go_simp; with_reducible rfl
            try simp only [Act.put, List.setIfInBounds_toArray, List.set_cons_zero, List.set_cons_succ]
            refine seg_read ?v32 (by rfl) (by rfl) ?h32 ?_
            case h32 => intro W hW; go_simp; with_reducible rfl
            try simp only [Act.put, List.setIfInBounds_toArray, List.set_cons_zero, List.set_cons_succ]
            refine seg_read ?v33 (by rfl) (by rfl) ?h33 ?_
            case h33 => intro W hW; go_simp; with_reducible rfl
            try simp only [Act.put, List.setIfInBounds_toArray, List.set_cons_zero, List.set_cons_succ]
            refine seg_off (by rfl) (by rfl) ?_
            try simp only [Act.put, List.setIfInBounds_toArray, List.set_cons_zero, List.set_cons_succ]
            refine seg_off (by rfl) (by rfl) ?_
            try simp only [Act.put, List.setIfInBounds_toArray, List.set_cons_zero, List.set_cons_succ]
            refine seg_off (by rfl) (by rfl) ?_
            try simp only [Act.put, List.setIfInBounds_toArray, List.set_cons_zero, List.set_cons_succ]
            refine seg_off (by rfl) (by rfl) ?_
            try simp only [Act.put, List.setIfInBounds_toArray, List.set_cons_zero, List.set_cons_succ]
            refine seg_off (by rfl) (by rfl) ?_
            try simp only [Act.put, List.setIfInBounds_toArray, List.set_cons_zero, List.set_cons_succ]
            refine seg_off (by rfl) (by rfl) ?_
            try simp only [Act.put, List.setIfInBounds_toArray, List.set_cons_zero, List.set_cons_succ]
            refine seg_off (by rfl) (by rfl) ?_
            try simp only [Act.put, List.setIfInBounds_toArray, List.set_cons_zero, List.set_cons_succ]
            refine seg_off (by rfl) (by rfl) ?_
            try simp only [Act.put, List.setIfInBounds_toArray, List.set_cons_zero, List.set_cons_succ]
            refine seg_off (by rfl) (by rfl) ?_
            try simp only [Act.put, List.setIfInBounds_toArray, List.set_cons_zero, List.set_cons_succ]
            refine seg_off (by rfl) (by rfl) ?_
            try simp only [Act.put, List.setIfInBounds_toArray, List.set_cons_zero, List.set_cons_succ]
            refine seg_off (by rfl) (by rfl) ?_
            try simp only [Act.put, List.setIfInBounds_toArray, List.set_cons_zero, List.set_cons_succ]
            refine seg_read ?v34 (by rfl) (by rfl) ?h34 ?_
            case h34 => intro W hW; go_simp; with_reducible rfl
            try simp only [Act.put, List.setIfInBounds_toArray, List.set_cons_zero, List.set_cons_succ]
            refine seg_nil ?_
            generalize (w13.setCell ⟨x0, 64, none⟩ (.int .i64 (0 : Int))).drew = w16 at H16 ⊢
            have hlit := run_e_lit w16 G3 HG3.out HK.out.2 HP.out.2
            obtain ⟨A7, c7, w17, hap, how, hb17⟩ := epush (W := w16) (B := q + 1) (t := gdO acc) (e := (K, P, (0 : Int))) (v := .slice Av NT cv) H16.out.o.own HK.out.2 HP.out.2 (by have := lt_of_cells H16.out.o.row; omega) (by rw [gdO_len]; have := HG.out.2.2.1; have := HG.out.2.1; omega) 26
            rw [← HG3.out, ← HNT.out.1] at hap
            rw [← HNT.out.1] at how
            have HAP := Lib.hid hap
            have H17 : Hid (DgO w w17 q m3 e3 (.slice A7 (NT + 1) c7) (gdO acc ++ [(K, P, (0 : Int))])) := Lib.hid ⟨H16.out.o.qw, (hb17.block q (by omega)).trans H16.out.o.row, how, H16.out.o.bel.trans (hb17.mono (by have := H16.out.o.qw; omega))⟩
            clear hap how hb17
            go_wp2_with (first
              | (refine wpList_load_row (by rfl) 41 (.tmp 9) (by rfl) x0 (by rfl) 41 G3 (0, 0) _ H16.out.frow Try.underlying41 (by rfl) (by rw [H16.out.size]; exact e_size) ?_)
              | (refine wpList_lit1 (by rfl) 26 (.tmp 66) (by rfl) (by rfl) hlit ?_)
              | (at_builtin; refine wpList_app (by rfl) (.tmp 65) (.tmp 67) 26 (by rfl) (by rfl) (by rfl) HAP.out ?_))
            exact ⟨by
              rw [show ((j : Int) + 1) = ((j + 1 : Nat) : Int) by simp]
              exact dg_next HLT.out HG.out HEQ.out HEQ2.out HEQ3.out HM3.out HY.out HMB.out H17.out, by have := HLT.out; simp only [intOf]; omega⟩
        · have hkX : ¬ (X : Int) > 1023 := by omega
          have hXw := IntWalk.i64_in (X : Int) (by omega)
          have HY : Hid (X = gdK X) := Lib.hid (by unfold gdK; rw [if_neg hbig])
          have hcl : w13.cell? ⟨x0, 64, none⟩ = some (.int .i64 zE.2.2) := by
            rw [cell_of_cells H13.out.frow, H13.out.fs, List.getElem?_toArray]
            unfold eC
            rw [List.getElem?_append_right (by rw [u8s_length, HK.out.2]; omega), List.getElem?_append_right (by rw [u8s_length, u8s_length, HK.out.2, HP.out.2]; omega), u8s_length, u8s_length, HK.out.2, HP.out.2]
            rfl
          have hfz := free_of_cells H13.out.frow 64
          obtain ⟨G3, hG3⟩ : ∃ G3, G3 = (eC (K, P, (X : Int))).toArray := ⟨_, rfl⟩
          have H16 := Lib.hid ((H13.out.setn (X : Int) hG3).later (below_drew (Below.refl _ _)))
          have HG3 := Lib.hid hG3
          obtain ⟨NT, hNT⟩ : ∃ NT, NT = (gdO acc).length := ⟨_, rfl⟩
          rw [← hNT] at H16 ⊢
          have HNT : Hid (NT = (gdO acc).length ∧ NT = j) := Lib.hid ⟨hNT, by rw [hNT, gdO_len, HG.out.2.1]⟩
          clear hG3 hNT H13
          by_cases hj0 : 0 < j
          · obtain ⟨z, hz⟩ : ∃ z, acc[j - 1]? = some z := ⟨_, List.getElem?_eq_getElem (by have := HG.out.2.1; omega)⟩
            have hz32 := HG.out.2.2.2 z (List.mem_of_getElem? hz)
            have hzo : (gdO acc)[j - 1]? = some (z.1, z.2.1, (gdK z.2.2 : Int)) := by unfold gdO; rw [List.getElem?_map, hz]; rfl
            have ho16 := H16.out.o.own
            rw [← HNT.out.1] at ho16
            obtain ⟨g, hA, hg1, hg2, _, _, _, hcc⟩ := row_cells ho16 (by rw [HNT.out.2]; exact hj0)
            subst hA
            have hby : Byt ((w13.setCell ⟨x0, 64, none⟩ (.int .i64 (X : Int))).drew) (fun _ => True) (some ⟨g, (j - 1) * 65, none⟩) 32 32 z.1 := esByt (fun u x hu => by
              rw [add_plain]
              refine hcc _ _ (eCs_at (gdO_each HG.out.2.2.2) hzo ?_)
              rw [row8, List.getElem?_toArray] at hu
              rw [eC, List.getElem?_append_left (List.getElem?_eq_some_iff.1 hu).1]
              exact hu) hg2 hz32.1
            have hbx : Byt ((w13.setCell ⟨x0, 64, none⟩ (.int .i64 (X : Int))).drew) (fun _ => True) (some ⟨x0, 0, none⟩) 32 32 K := esByt (fun u x hu => by
              rw [add_plain, Nat.zero_add, cell_of_cells H16.out.frow, H16.out.fs, List.getElem?_toArray, eC]
              rw [row8, List.getElem?_toArray] at hu
              rw [List.getElem?_append_left (List.getElem?_eq_some_iff.1 hu).1]
              exact hu) (lt_of_cells H16.out.frow) HK.out.2
            have hC : (fun W : World => Byt W (fun _ => True) (some ⟨g, (j - 1) * 65, none⟩) 32 32 z.1 ∧ Byt W (fun _ => True) (some ⟨x0, 0, none⟩) 32 32 K) ((w13.setCell ⟨x0, 64, none⟩ (.int .i64 (X : Int))).drew) := ⟨hby, hbx⟩
            have hsub : IntKind.u64.wrap ((j : Int) - 1) = ((j - 1 : Nat) : Int) := by rw [IntWalk.u64_in _ (by have := HMX.out; have := HLT.out; omega)]; omega
            have hil : ((j - 1 : Nat) : Int) < (NT : Int) := by have := HNT.out.2; omega
            have hjp : decide (0 < j) = true := by simpa using hj0
            obtain ⟨SZ, hSZ⟩ : ∃ SZ, SZ = st z.1 := ⟨_, rfl⟩
            obtain ⟨SK, hSK⟩ : ∃ SK, SK = st K := ⟨_, rfl⟩
            have HSS := Lib.hid (And.intro hSZ hSK)
            have HZ := Lib.hid hz
            clear ho16 hz hz32 hzo hcc hg1 hg2 hby hbx hj0
            rcases hlt2 : decide (z.1 < K) with _ | _
            · have hgq : ∀ W, (binOp .geq 9 (.string SZ) (.string SK)).run Try.prog W = .ok (.bool true) W := fun W => by rw [hSZ, hSK, dd_run_geq, hlt2]; rfl
              have HMB : Hid (false = mayG (acc ++ [(K, P, X)])) := Lib.hid (by rw [mayG_snoc, mayS_two HG.out.2.1 HZ.out]; simp only; rw [hlt2]; simp)
              clear hlt2 hSZ hSK
              go_wp2
              refine wp_region_plan (fun W : World => Byt W (fun _ => True) (some ⟨g, (j - 1) * 65, none⟩) 32 32 z.1 ∧ Byt W (fun _ => True) (some ⟨x0, 0, none⟩) 32 32 K) [] [0, 1, 2, 3, 4, 5, 6, 7, 8, 9, 10, 11, 12, 13, 14] (by kernel_rfl) (by kernel_rfl) (fun _ _ d _ _ h => by cases d <;> exact h) hC ?_
              refine plan_last ?_
              refine seg_read ?v35 (by rfl) (by rfl) ?h35 ?_
              case h35 => intro W hW; go_simp; with_reducible rfl
              try simp only [Act.put, List.setIfInBounds_toArray, List.set_cons_zero, List.set_cons_succ]
              refine seg_read ?v36 (by rfl) (by rfl) ?h36 ?_
              case h36 => intro W hW; go_simp; with_reducible rfl
              try simp only [Act.put, List.setIfInBounds_toArray, List.set_cons_zero, List.set_cons_succ]
              refine seg_read ?v37 (by rfl) (by rfl) ?h37 ?_
              case h37 => intro W hW; go_simp; with_reducible rfl
              try simp only [Act.put, List.setIfInBounds_toArray, List.set_cons_zero, List.set_cons_succ]
              refine seg_read ?v38 (by rfl) (by rfl) ?h38 ?_
              case h38 => intro W hW; go_simp; with_reducible rfl
              try simp only [Act.put, List.setIfInBounds_toArray, List.set_cons_zero, List.set_cons_succ]
              refine seg_read ?v39 (by rfl) (by rfl) ?h39 ?_
              case h39 => intro W hW; go_simp; with_reducible rfl
              try simp only [Act.put, List.setIfInBounds_toArray, List.set_cons_zero, List.set_cons_succ]
              refine seg_read ?v40 (by rfl) (by rfl) ?h40 ?_
              case h40 => intro W hW; go_simp; with_reducible rfl
              try simp only [Act.put, List.setIfInBounds_toArray, List.set_cons_zero, List.set_cons_succ]
              refine seg_read ?v41 (by rfl) (by rfl) ?h41 ?_
              case h41 => intro W hW; go_simp; with_reducible rfl
              try simp only [Act.put, List.setIfInBounds_toArray, List.set_cons_zero, List.set_cons_succ]
              refine seg_read ?v42 (by rfl) (by rfl) ?h42 ?_
              case h42 => intro W hW; go_simp; with_reducible rfl
              try simp only [Act.put, List.setIfInBounds_toArray, List.set_cons_zero, List.set_cons_succ]
              refine seg_read ?v43 (by rfl) (by rfl) ?h43 ?_
              case h43 => intro W hW; go_simp; with_reducible rfl
              try simp only [Act.put, List.setIfInBounds_toArray, List.set_cons_zero, List.set_cons_succ]
              refine seg_read ?v44 (by rfl) (by rfl) ?h44 ?_
              case h44 => intro W hW; have hcv := byt_string hW.1; rw [show (⟨z.1.toArray⟩ : ByteArray) = SZ from HSS.out.1.symm] at hcv; go_simp; with_reducible rfl
              try simp only [Act.put, List.setIfInBounds_toArray, List.set_cons_zero, List.set_cons_succ]
              refine seg_read ?v45 (by rfl) (by rfl) ?h45 ?_
              case h45 => intro W hW; go_simp; with_reducible rfl
              try simp only [Act.put, List.setIfInBounds_toArray, List.set_cons_zero, List.set_cons_succ]
              refine seg_read ?v46 (by rfl) (by rfl) ?h46 ?_
              case h46 => intro W hW; go_simp; with_reducible rfl
              try simp only [Act.put, List.setIfInBounds_toArray, List.set_cons_zero, List.set_cons_succ]
              refine seg_read ?v47 (by rfl) (by rfl) ?h47 ?_
              case h47 => intro W hW; have hcv := byt_string hW.2; rw [show (⟨K.toArray⟩ : ByteArray) = SK from HSS.out.2.symm] at hcv; go_simp; with_reducible rfl
              try simp only [Act.put, List.setIfInBounds_toArray, List.set_cons_zero, List.set_cons_succ]
              refine seg_read ?v48 (by rfl) (by rfl) ?h48 ?_
              case h48 => intro W hW; have hgw := hgq W; go_simp; with_reducible rfl
              try simp only [Act.put, List.setIfInBounds_toArray, List.set_cons_zero, List.set_cons_succ]
              refine seg_read ?v49 (by rfl) (by rfl) ?h49 ?_
              case h49 => intro W hW; go_simp; with_reducible rfl
              try simp only [Act.put, List.setIfInBounds_toArray, List.set_cons_zero, List.set_cons_succ]
              refine seg_nil ?_
              generalize (w13.setCell ⟨x0, 64, none⟩ (.int .i64 (X : Int))).drew = w16 at H16 ⊢
              have hlit := run_e_lit w16 G3 HG3.out HK.out.2 HP.out.2
              obtain ⟨A7, c7, w17, hap, how, hb17⟩ := epush (W := w16) (B := q + 1) (t := gdO acc) (e := (K, P, (X : Int))) (v := .slice (some ⟨g, 0, none⟩) NT cv) H16.out.o.own HK.out.2 HP.out.2 (by have := lt_of_cells H16.out.o.row; omega) (by rw [gdO_len]; have := HG.out.2.2.1; have := HG.out.2.1; omega) 26
              rw [← HG3.out, ← HNT.out.1] at hap
              rw [← HNT.out.1] at how
              have HAP := Lib.hid hap
              have H17 : Hid (DgO w w17 q m3 e3 (.slice A7 (NT + 1) c7) (gdO acc ++ [(K, P, (X : Int))])) := Lib.hid ⟨H16.out.o.qw, (hb17.block q (by omega)).trans H16.out.o.row, how, H16.out.o.bel.trans (hb17.mono (by have := H16.out.o.qw; omega))⟩
              clear hap how hb17
              go_wp2_with (first
                | (refine wpList_load_row (by rfl) 41 (.tmp 9) (by rfl) x0 (by rfl) 41 G3 (0, 0) _ H16.out.frow Try.underlying41 (by rfl) (by rw [H16.out.size]; exact e_size) ?_)
                | (refine wpList_lit1 (by rfl) 26 (.tmp 66) (by rfl) (by rfl) hlit ?_)
                | (at_builtin; refine wpList_app (by rfl) (.tmp 65) (.tmp 67) 26 (by rfl) (by rfl) (by rfl) HAP.out ?_))
              exact ⟨by
                rw [show ((j : Int) + 1) = ((j + 1 : Nat) : Int) by simp]
                exact dg_next HLT.out HG.out HEQ.out HEQ2.out HEQ3.out HM3.out HY.out HMB.out H17.out, by have := HLT.out; simp only [intOf]; omega⟩
            · have hgq : ∀ W, (binOp .geq 9 (.string SZ) (.string SK)).run Try.prog W = .ok (.bool false) W := fun W => by rw [hSZ, hSK, dd_run_geq, hlt2]; rfl
              have HMB : Hid (Fb = mayG (acc ++ [(K, P, X)])) := Lib.hid (by rw [mayG_snoc, mayS_two HG.out.2.1 HZ.out]; simp only; rw [hlt2]; simp [show X ≤ 1023 by omega, HFb.out])
              clear hlt2 hSZ hSK
              go_wp2
              refine wp_region_plan (fun W : World => Byt W (fun _ => True) (some ⟨g, (j - 1) * 65, none⟩) 32 32 z.1 ∧ Byt W (fun _ => True) (some ⟨x0, 0, none⟩) 32 32 K) [] [0, 1, 2, 3, 4, 5, 6, 7, 8, 9, 10, 11, 12, 13, 14] (by kernel_rfl) (by kernel_rfl) (fun _ _ d _ _ h => by cases d <;> exact h) hC ?_
              refine plan_last ?_
              refine seg_read ?v50 (by rfl) (by rfl) ?h50 ?_
              case h50 => intro W hW; go_simp; with_reducible rfl
              try simp only [Act.put, List.setIfInBounds_toArray, List.set_cons_zero, List.set_cons_succ]
              refine seg_read ?v51 (by rfl) (by rfl) ?h51 ?_
              case h51 => intro W hW; go_simp; with_reducible rfl
              try simp only [Act.put, List.setIfInBounds_toArray, List.set_cons_zero, List.set_cons_succ]
              refine seg_read ?v52 (by rfl) (by rfl) ?h52 ?_
              case h52 => intro W hW; go_simp; with_reducible rfl
              try simp only [Act.put, List.setIfInBounds_toArray, List.set_cons_zero, List.set_cons_succ]
              refine seg_read ?v53 (by rfl) (by rfl) ?h53 ?_
              case h53 => intro W hW; go_simp; with_reducible rfl
              try simp only [Act.put, List.setIfInBounds_toArray, List.set_cons_zero, List.set_cons_succ]
              refine seg_read ?v54 (by rfl) (by rfl) ?h54 ?_
              case h54 => intro W hW; go_simp; with_reducible rfl
              try simp only [Act.put, List.setIfInBounds_toArray, List.set_cons_zero, List.set_cons_succ]
              refine seg_read ?v55 (by rfl) (by rfl) ?h55 ?_
              case h55 => intro W hW; go_simp; with_reducible rfl
              try simp only [Act.put, List.setIfInBounds_toArray, List.set_cons_zero, List.set_cons_succ]
              refine seg_read ?v56 (by rfl) (by rfl) ?h56 ?_
              case h56 => intro W hW; go_simp; with_reducible rfl
              try simp only [Act.put, List.setIfInBounds_toArray, List.set_cons_zero, List.set_cons_succ]
              refine seg_read ?v57 (by rfl) (by rfl) ?h57 ?_
              case h57 => intro W hW; go_simp; with_reducible rfl
              try simp only [Act.put, List.setIfInBounds_toArray, List.set_cons_zero, List.set_cons_succ]
              refine seg_read ?v58 (by rfl) (by rfl) ?h58 ?_
              case h58 => intro W hW; go_simp; with_reducible rfl
              try simp only [Act.put, List.setIfInBounds_toArray, List.set_cons_zero, List.set_cons_succ]
              refine seg_read ?v59 (by rfl) (by rfl) ?h59 ?_
              case h59 => intro W hW; have hcv := byt_string hW.1; rw [show (⟨z.1.toArray⟩ : ByteArray) = SZ from HSS.out.1.symm] at hcv; go_simp; with_reducible rfl
              try simp only [Act.put, List.setIfInBounds_toArray, List.set_cons_zero, List.set_cons_succ]
              refine seg_read ?v60 (by rfl) (by rfl) ?h60 ?_
              case h60 => intro W hW; go_simp; with_reducible rfl
              try simp only [Act.put, List.setIfInBounds_toArray, List.set_cons_zero, List.set_cons_succ]
              refine seg_read ?v61 (by rfl) (by rfl) ?h61 ?_
              case h61 => intro W hW; go_simp; with_reducible rfl
              try simp only [Act.put, List.setIfInBounds_toArray, List.set_cons_zero, List.set_cons_succ]
              refine seg_read ?v62 (by rfl) (by rfl) ?h62 ?_
              case h62 => intro W hW; have hcv := byt_string hW.2; rw [show (⟨K.toArray⟩ : ByteArray) = SK from HSS.out.2.symm] at hcv; go_simp; with_reducible rfl
              try simp only [Act.put, List.setIfInBounds_toArray, List.set_cons_zero, List.set_cons_succ]
              refine seg_read ?v63 (by rfl) (by rfl) ?h63 ?_
              case h63 => intro W hW; have hgw := hgq W; go_simp; with_reducible rfl
              try simp only [Act.put, List.setIfInBounds_toArray, List.set_cons_zero, List.set_cons_succ]
              refine seg_read ?v64 (by rfl) (by rfl) ?h64 ?_
              case h64 => intro W hW; go_simp; with_reducible rfl
              try simp only [Act.put, List.setIfInBounds_toArray, List.set_cons_zero, List.set_cons_succ]
              refine seg_nil ?_
              generalize (w13.setCell ⟨x0, 64, none⟩ (.int .i64 (X : Int))).drew = w16 at H16 ⊢
              have hlit := run_e_lit w16 G3 HG3.out HK.out.2 HP.out.2
              obtain ⟨A7, c7, w17, hap, how, hb17⟩ := epush (W := w16) (B := q + 1) (t := gdO acc) (e := (K, P, (X : Int))) (v := .slice (some ⟨g, 0, none⟩) NT cv) H16.out.o.own HK.out.2 HP.out.2 (by have := lt_of_cells H16.out.o.row; omega) (by rw [gdO_len]; have := HG.out.2.2.1; have := HG.out.2.1; omega) 26
              rw [← HG3.out, ← HNT.out.1] at hap
              rw [← HNT.out.1] at how
              have HAP := Lib.hid hap
              have H17 : Hid (DgO w w17 q m3 e3 (.slice A7 (NT + 1) c7) (gdO acc ++ [(K, P, (X : Int))])) := Lib.hid ⟨H16.out.o.qw, (hb17.block q (by omega)).trans H16.out.o.row, how, H16.out.o.bel.trans (hb17.mono (by have := H16.out.o.qw; omega))⟩
              clear hap how hb17
              go_wp2_with (first
                | (refine wpList_load_row (by rfl) 41 (.tmp 9) (by rfl) x0 (by rfl) 41 G3 (0, 0) _ H16.out.frow Try.underlying41 (by rfl) (by rw [H16.out.size]; exact e_size) ?_)
                | (refine wpList_lit1 (by rfl) 26 (.tmp 66) (by rfl) (by rfl) hlit ?_)
                | (at_builtin; refine wpList_app (by rfl) (.tmp 65) (.tmp 67) 26 (by rfl) (by rfl) (by rfl) HAP.out ?_))
              exact ⟨by
                rw [show ((j : Int) + 1) = ((j + 1 : Nat) : Int) by simp]
                exact dg_next HLT.out HG.out HEQ.out HEQ2.out HEQ3.out HM3.out HY.out HMB.out H17.out, by have := HLT.out; simp only [intOf]; omega⟩
          · have hjp : decide (0 < j) = false := by simpa using hj0
            have HMB : Hid (Fb = mayG (acc ++ [(K, P, X)])) := Lib.hid (by rw [mayG_snoc, mayS_one HG.out.2.1 hj0]; simp only; simp [show X ≤ 1023 by omega, HFb.out])
            clear hj0
            go_wp2
            refine wp_region_plan (fun _ : World => True) [] [0, 1, 2, 3, 4, 5, 6, 7, 8, 9, 10, 11, 12, 13, 14] (by kernel_rfl) (by kernel_rfl) (fun _ _ d _ _ h => by cases d <;> exact h) trivial ?_
            refine plan_last ?_
            refine seg_read ?v65 (by rfl) (by rfl) ?h65 ?_
            case h65 => intro W hW; go_simp; with_reducible rfl
            try simp only [Act.put, List.setIfInBounds_toArray, List.set_cons_zero, List.set_cons_succ]
            refine seg_read ?v66 (by rfl) (by rfl) ?h66 ?_
            case h66 => intro W hW; go_simp; with_reducible rfl
            try simp only [Act.put, List.setIfInBounds_toArray, List.set_cons_zero, List.set_cons_succ]
            refine seg_read ?v67 (by rfl) (by rfl) ?h67 ?_
            case h67 => intro W hW; go_simp; with_reducible rfl
            try simp only [Act.put, List.setIfInBounds_toArray, List.set_cons_zero, List.set_cons_succ]
            refine seg_off (by rfl) (by rfl) ?_
            try simp only [Act.put, List.setIfInBounds_toArray, List.set_cons_zero, List.set_cons_succ]
            refine seg_off (by rfl) (by rfl) ?_
            try simp only [Act.put, List.setIfInBounds_toArray, List.set_cons_zero, List.set_cons_succ]
            refine seg_off (by rfl) (by rfl) ?_
            try simp only [Act.put, List.setIfInBounds_toArray, List.set_cons_zero, List.set_cons_succ]
            refine seg_off (by rfl) (by rfl) ?_
            try simp only [Act.put, List.setIfInBounds_toArray, List.set_cons_zero, List.set_cons_succ]
            refine seg_off (by rfl) (by rfl) ?_
            try simp only [Act.put, List.setIfInBounds_toArray, List.set_cons_zero, List.set_cons_succ]
            refine seg_off (by rfl) (by rfl) ?_
            try simp only [Act.put, List.setIfInBounds_toArray, List.set_cons_zero, List.set_cons_succ]
            refine seg_off (by rfl) (by rfl) ?_
            try simp only [Act.put, List.setIfInBounds_toArray, List.set_cons_zero, List.set_cons_succ]
            refine seg_off (by rfl) (by rfl) ?_
            try simp only [Act.put, List.setIfInBounds_toArray, List.set_cons_zero, List.set_cons_succ]
            refine seg_off (by rfl) (by rfl) ?_
            try simp only [Act.put, List.setIfInBounds_toArray, List.set_cons_zero, List.set_cons_succ]
            refine seg_off (by rfl) (by rfl) ?_
            try simp only [Act.put, List.setIfInBounds_toArray, List.set_cons_zero, List.set_cons_succ]
            refine seg_off (by rfl) (by rfl) ?_
            try simp only [Act.put, List.setIfInBounds_toArray, List.set_cons_zero, List.set_cons_succ]
            refine seg_read ?v68 (by rfl) (by rfl) ?h68 ?_
            case h68 => intro W hW; go_simp; with_reducible rfl
            try simp only [Act.put, List.setIfInBounds_toArray, List.set_cons_zero, List.set_cons_succ]
            refine seg_nil ?_
            generalize (w13.setCell ⟨x0, 64, none⟩ (.int .i64 (X : Int))).drew = w16 at H16 ⊢
            have hlit := run_e_lit w16 G3 HG3.out HK.out.2 HP.out.2
            obtain ⟨A7, c7, w17, hap, how, hb17⟩ := epush (W := w16) (B := q + 1) (t := gdO acc) (e := (K, P, (X : Int))) (v := .slice Av NT cv) H16.out.o.own HK.out.2 HP.out.2 (by have := lt_of_cells H16.out.o.row; omega) (by rw [gdO_len]; have := HG.out.2.2.1; have := HG.out.2.1; omega) 26
            rw [← HG3.out, ← HNT.out.1] at hap
            rw [← HNT.out.1] at how
            have HAP := Lib.hid hap
            have H17 : Hid (DgO w w17 q m3 e3 (.slice A7 (NT + 1) c7) (gdO acc ++ [(K, P, (X : Int))])) := Lib.hid ⟨H16.out.o.qw, (hb17.block q (by omega)).trans H16.out.o.row, how, H16.out.o.bel.trans (hb17.mono (by have := H16.out.o.qw; omega))⟩
            clear hap how hb17
            go_wp2_with (first
              | (refine wpList_load_row (by rfl) 41 (.tmp 9) (by rfl) x0 (by rfl) 41 G3 (0, 0) _ H16.out.frow Try.underlying41 (by rfl) (by rw [H16.out.size]; exact e_size) ?_)
              | (refine wpList_lit1 (by rfl) 26 (.tmp 66) (by rfl) (by rfl) hlit ?_)
              | (at_builtin; refine wpList_app (by rfl) (.tmp 65) (.tmp 67) 26 (by rfl) (by rfl) (by rfl) HAP.out ?_))
            exact ⟨by
              rw [show ((j : Int) + 1) = ((j + 1 : Nat) : Int) by simp]
              exact dg_next HLT.out HG.out HEQ.out HEQ2.out HEQ3.out HM3.out HY.out HMB.out H17.out, by have := HLT.out; simp only [intOf]; omega⟩
      · have hlt' : ¬ (j : Int) < (M : Int) := by omega
        have hjM : M - j = 0 := by omega
        have HF : Hid (R0 = getDEnd (acc, l, 0)) := Lib.hid (by rw [HG.out.1, hjM]; rfl)
        clear hlt hjM
        have hen1 := ref_end l 0 wr
        by_cases h0 : endE l 0 = 0
        · rw [h0] at hen1
          rcases Fb with _ | _
          · have HR : Hid (R0 = ([], 11)) := Lib.hid (by rw [HF.out]; unfold getDEnd; simp only; rw [if_neg (by simp [h0]), ← HFb.out]; rfl)
            clear h0
            go_wp2_with (first
              | (refine wpList_load_row (by rfl) 82 (.tmp 4) (by rfl) q (by rfl) 82 (drvC l 0) (0, 0) _ HO.out.row Try.underlying82 (by rfl) dr_info ?_)
              | (go_at_call 37; refine hen1.mono ?_; clear hen1; rintro _ w9 ⟨rfl, hb9⟩))
            go_ret2
            exact drgPost_nil HR.out (HO.out.bel.trans (hb9.mono HO.out.bel.size))
          · have HR : Hid (R0 = (gdO acc, 0)) := Lib.hid (by rw [HF.out]; unfold getDEnd; simp only; rw [if_neg (by simp [h0]), ← HFb.out, if_pos rfl, gdO_may HFb.out.symm])
            have HE := Lib.hid ((Es.of_own HO.out.own (gdO_each HG.out.2.2.2) rfl).mono (T := (w.heap.size ≤ ·)) fun k _ h => by have h1 := HO.out.qw; have h2 : q + 1 ≤ k := h; show w.heap.size ≤ k; omega)
            obtain ⟨NT, hNT⟩ : ∃ NT, NT = (gdO acc).length := ⟨_, rfl⟩
            rw [← hNT]
            have HNT := Lib.hid hNT
            clear h0 hNT
            go_wp2_with (first
              | (refine wpList_load_row (by rfl) 82 (.tmp 4) (by rfl) q (by rfl) 82 (drvC l 0) (0, 0) _ HO.out.row Try.underlying82 (by rfl) dr_info ?_)
              | (go_at_call 37; refine hen1.mono ?_; clear hen1; rintro _ w9 ⟨rfl, hb9⟩))
            go_ret2
            unfold DrgPost
            rw [HR.out]
            exact ⟨Av, cv, by rw [← HNT.out]; rfl, HE.out.below hb9, HO.out.bel.trans (hb9.mono HO.out.bel.size)⟩
        · have hen0 : (endE l 0 != 0) = true := by simpa using h0
          have HR : Hid (R0 = ([], endE l 0)) := Lib.hid (by rw [HF.out]; unfold getDEnd; simp only; rw [if_pos (by simpa using h0)])
          obtain ⟨E, hE⟩ : ∃ E, E = endE l 0 := ⟨_, rfl⟩
          rw [← hE] at hen1 hen0 HR
          clear h0 hE
          go_wp2_with (first
            | (refine wpList_load_row (by rfl) 82 (.tmp 4) (by rfl) q (by rfl) 82 (drvC l 0) (0, 0) _ HO.out.row Try.underlying82 (by rfl) dr_info ?_)
            | (go_at_call 37; refine hen1.mono ?_; clear hen1; rintro _ w9 ⟨rfl, hb9⟩))
          go_ret2
          exact drgPost_nil HR.out (HO.out.bel.trans (hb9.mono HO.out.bel.size))
    · have HO := Lib.hid hO
      have hc1 := HO.out.cell1
      have HF := Lib.hid hgo
      have heq0 : (e == 0) = false := by simpa using he
      have hne : (e != 0) = true := by simpa using he
      have hen := ref_end m e wr
      rw [endE_bad he] at hen
      clear he hO hgo
      by_cases hlt : j < M
      · have hlt' : (j : Int) < (M : Int) := by omega
        clear hlt
        go_wp2_with (first
          | (refine wpList_load_row (by rfl) 82 (.tmp 4) (by rfl) q (by rfl) 82 (drvC m e) (0, 0) _ HO.out.row Try.underlying82 (by rfl) dr_info ?_)
          | (go_at_call 37; refine hen.mono ?_; clear hen; rintro _ w9 ⟨rfl, hb9⟩))
        go_ret2
        exact drgPost_nil HF.out (HO.out.bel.trans (hb9.mono HO.out.bel.size))
      · have hlt' : ¬ (j : Int) < (M : Int) := by omega
        clear hlt
        go_wp2_with (first
          | (refine wpList_load_row (by rfl) 82 (.tmp 4) (by rfl) q (by rfl) 82 (drvC m e) (0, 0) _ HO.out.row Try.underlying82 (by rfl) dr_info ?_)
          | (go_at_call 37; refine hen.mono ?_; clear hen; rintro _ w9 ⟨rfl, hb9⟩))
        go_ret2
        exact drgPost_nil HF.out (HO.out.bel.trans (hb9.mono HO.out.bel.size))
end Go.Proofs.Ytmmibldchfmleaa
