/-
  A row of ids that is written in: a byte of each goes up by one.
  A byte that is stored in a row, behind a drawn region.
  The law ObjectsBelow.
-/
import Derived.Test.YtmakpjcgiiljfaaDoorPk07
import Derived.Test.YtmakpjcgiiljfaaDoorPk02
import Derived.Test.YtmakpjcgiiljfaaDoorPk06
import Derived.Test.YtmakpjcgiiljfaaDoorPk01
import Derived.Test.YtmakpjcgiiljfaaDoorPk15
/-! A row of ids that is written in: a byte of each goes up by one. -/
namespace Go.Proofs.YtmakpjcgiiljfaaDoor
open Go.RowKit Codec

def inc0 (y : List UInt8) : List UInt8 := y.set 0 (y[0]?.getD 0 + 1)
theorem inc0_len (y : List UInt8) : (inc0 y).length = y.length := by simp [inc0]
theorem inc0_ne {y : List UInt8} (h : y.length = 32) : inc0 y ≠ y := fun e => by
  have h0 : (inc0 y)[0]? = some (y[0]?.getD 0 + 1) := by unfold inc0; rw [List.getElem?_set_self (by omega)]
  have h1 : y[0]? = some (y[0]'(by omega)) := List.getElem?_eq_getElem _
  rw [e, h1] at h0
  simp at h0
def incs (j : Nat) (l : List (List UInt8)) : List (List UInt8) := (l.take j).map inc0 ++ l.drop j
theorem incs_0 (l : List (List UInt8)) : incs 0 l = l := by simp [incs]
theorem incs_len (j : Nat) (l : List (List UInt8)) : (incs j l).length = l.length := by simp [incs]; omega
theorem incs_at {l : List (List UInt8)} {j : Nat} (h : j < l.length) : (incs j l)[j]? = l[j]? := by
  unfold incs
  rw [List.getElem?_append_right (by simp; omega)]
  simp [Nat.min_eq_left (Nat.le_of_lt h)]
theorem incs_set {l : List (List UInt8)} {j : Nat} {y : List UInt8} (h : l[j]? = some y) : (incs j l).set j (inc0 y) = incs (j + 1) l := by
  have hj : j < l.length := (List.getElem?_eq_some_iff.1 h).1
  unfold incs
  rw [List.set_append, if_neg (by simp; omega), List.take_add_one, h]
  simp [Nat.min_eq_left (Nat.le_of_lt hj)]
  rw [List.drop_eq_getElem_cons hj]
  rfl
theorem incs_each {l : List (List UInt8)} (j : Nat) (h : ∀ y ∈ l, y.length = 32) : ∀ y ∈ incs j l, y.length = 32 := fun y hy => by
  rcases List.mem_append.1 hy with hy | hy
  · obtain ⟨z, hz, rfl⟩ := List.mem_map.1 hy
    rw [inc0_len]
    exact h z (List.mem_of_mem_take hz)
  · exact h y (List.mem_of_mem_drop hy)
theorem incs_full {l : List (List UInt8)} : incs l.length l = l.map inc0 := by simp [incs]
theorem flat_set0 : ∀ (l : List (List UInt8)) (j : Nat) (y : List UInt8) (a : UInt8), (∀ y ∈ l, y.length = 32) → l[j]? = some y → (l.set j (y.set 0 a)).flatten = l.flatten.set (j * 32) a
  | [], _, _, _, _, h => by simp at h
  | x :: l, 0, y, a, hw, h => by
    simp at h
    subst h
    have hx := hw x List.mem_cons_self
    simp only [List.set_cons_zero, List.flatten_cons, Nat.zero_mul]
    rw [List.set_append, if_pos (by omega)]
  | x :: l, j + 1, y, a, hw, h => by
    have h' : l[j]? = some y := by simpa using h
    have hx := hw x List.mem_cons_self
    simp only [List.set_cons_succ, List.flatten_cons]
    rw [flat_set0 l j y a (fun z hz => hw z (List.mem_cons_of_mem _ hz)) h', List.set_append, if_neg (by omega), hx]
    congr 2
    omega
theorem idsC_set {l : List (List UInt8)} {j : Nat} {y : List UInt8} (hw : ∀ y ∈ l, y.length = 32) (h : l[j]? = some y) (a : UInt8) : idsC (l.set j (y.set 0 a)) = (idsC l).set (j * 32) (.int .u8 (a.toNat : Int)) := by
  unfold idsC u8s
  rw [flat_set0 l j y a hw h, List.map_set]
/-- A ROW OF IDS OF THE CALL'S OWN, in blocks of B or above. -/
structure Rw (W : World) (B : Nat) (A : Option Addr) (n c : Nat) (l : List (List UInt8)) : Prop where
  ids : Ids W (B ≤ ·) A n c l
  own : 0 < n → ∃ g o cur, A = some ⟨g, o, none⟩ ∧ B ≤ g ∧ W.heap[g]? = some (.cells cur 49 (0, 0)) ∧ o + n * 32 ≤ cur.size
theorem rw_own {W : World} {B : Nat} {A : Option Addr} {n c : Nat} {l : List (List UInt8)} (h : W.ownsRow B 49 32 (.slice A n c) n (idsC l)) (hl : ∀ y ∈ l, y.length = 32) : Rw W B A n c l := by
  obtain ⟨A', c', e, hi⟩ := own_ids h hl
  injection e with e1 _ e2
  subst e1 e2
  refine ⟨hi, fun h0 => ?_⟩
  obtain ⟨e1, e2⟩ := h
  rcases e2 with ⟨e2, e3⟩ | ⟨g, cap, cur, e2, e3, e4, e5, e6, e7, e8⟩
  · injection e2 with _ e2 _
    omega
  · injection e2 with e2 _ _
    subst e2
    refine ⟨g, 0, cur, rfl, e3, e4, ?_⟩
    have h1 := congrArg List.length e8
    rw [List.length_take, e1] at h1
    have : n * 32 ≤ cur.toList.length := by omega
    simpa using this
theorem Rw.below {W W' : World} {B : Nat} {A : Option Addr} {n c : Nat} {l : List (List UInt8)} (h : Rw W B A n c l) (hb : Below W.heap.size W W') : Rw W' B A n c l :=
  ⟨h.ids.below hb, fun h0 => by
    obtain ⟨g, o, cur, h1, h2, h3, h4⟩ := h.own h0
    exact ⟨g, o, cur, h1, h2, (hb.block _ (lt_of_cells h3)).trans h3, h4⟩⟩
theorem Rw.set {W : World} {B g o n c : Nat} {l : List (List UInt8)} (h : Rw W B (some ⟨g, o, none⟩) n c l) {j : Nat} {y : List UInt8} (hy : l[j]? = some y) (a : UInt8) : Rw (W.setCell ⟨g, o + j * 32, none⟩ (.int .u8 (a.toNat : Int))) B (some ⟨g, o, none⟩) n c (l.set j (y.set 0 a)) := by
  have hj : j < n := by rw [← h.ids.len]; exact (List.getElem?_eq_some_iff.1 hy).1
  obtain ⟨g', o', cur, e1, h2, h3, h4⟩ := h.own (by omega)
  injection e1 with e1
  injection e1 with e1 e2
  subst e1 e2
  have hy32 : y.length = 32 := h.ids.each y (List.mem_of_getElem? hy)
  have hw2 : ∀ z ∈ l.set j (y.set 0 a), z.length = 32 := fun z hz => by
    rcases List.mem_or_eq_of_mem_set hz with hz | rfl
    · exact h.ids.each z hz
    · simpa using hy32
  have hs := set_of_cells h3 (o + j * 32) (.int .u8 (a.toNat : Int))
  refine ⟨⟨by rw [List.length_set]; exact h.ids.len, hw2, h.ids.cap, h.ids.max, fun _ => ⟨g, o, rfl, h2, lt_of_cells hs, fun i k hi hk => ?_⟩⟩, fun _ => ⟨g, o, _, rfl, h2, hs, by simpa using h4⟩⟩
  obtain ⟨g1, o1, e1, _, _, hc⟩ := h.ids.row (by omega)
  injection e1 with e1
  injection e1 with e1 e2
  subst e1 e2
  have hci := hc i k hi hk
  rw [cell_of_cells h3] at hci
  rw [cell_of_cells hs, Array.getElem?_setIfInBounds]
  have hlen := h.ids.len
  by_cases hij : i = j
  · subst hij
    have e : ((l.set i (y.set 0 a))[i]?.getD []) = y.set 0 a := by rw [List.getElem?_set_self (by omega)]; rfl
    rw [e]
    by_cases hk0 : k = 0
    · subst hk0
      rw [if_pos (by omega), if_pos (by omega), List.getElem?_set_self (by omega)]
      rfl
    · rw [if_neg (by omega), hci, hy, List.getElem?_set_ne (by omega)]
      rfl
  · rw [if_neg (by omega), hci, List.getElem?_set_ne (by omega)]
end Go.Proofs.YtmakpjcgiiljfaaDoor

/-! A byte that is stored in a row, behind a drawn region. -/
namespace Go.Proofs.YtmakpjcgiiljfaaDoor
open Go.RowKit

theorem run_store_byte {w : World} {g k : Nat} {cur : Array Value} {t : TypeId} (h : w.heap[g]? = some (.cells cur t (0, 0))) {x v : Int} (hc : w.cell? ⟨g, k, none⟩ = some (.int .u8 x)) : (Instr.storeAt 5 (.pointer (some ⟨g, k, none⟩)) (.int .u8 v)).run Tryd.prog w = .ok () (w.setCell ⟨g, k, none⟩ (.int .u8 v)) := by
  have hfr := free_of_cells h k
  go_simp
theorem storeIn_cell {F : Fence} {n : Nat} {P : Program} {o : Oper} {a : Act} {w w' : World} {K : Act → World → Prop} {Q : Exit → Act → World → Prop} (ty : TypeId) (x y : Operand) (ho : o.op = .store ty x y)
    (ad : Addr) (u : Value) (hx : a.eval x = .pointer (some ad)) (hy : a.eval y = u) (hrun : (Instr.storeAt ty (.pointer (some ad)) u).run P w = .ok () w')
    (h : K (a.put o.dst undef) w') : o.wpIn F n P a w K Q := by
  unfold Oper.wpIn
  refine ⟨?_, ?_⟩
  · simp [Oper.about, ho]
  · rw [Oper.semAt_plain F _ _ (by rw [ho]; intro c hc; cases hc)]
    unfold execOp
    simp only [ho, hx, hy, Sem.run_bind, hrun, Result.andThen_ok, Sem.run_pure]
    exact h
end Go.Proofs.YtmakpjcgiiljfaaDoor

/-! The law ObjectsBelow. -/
namespace Go.Proofs.YtmakpjcgiiljfaaDoor
open Go.RowKit Codec

theorem wrap_inc (x : UInt8) : IntKind.u8.wrap ((x.toNat : Int) + 1) = ((x + 1).toNat : Int) := by
  have h := x.toNat_lt
  have e : (x + 1).toNat = (x.toNat + 1) % 256 := by simp [UInt8.toNat_add]
  rw [e]
  simp [IntKind.wrap, IntKind.signed, IntKind.bits]
/-- Between two rounds of the first loop. -/
def RBw (w w0 : World) (A : Option Addr) (n c : Nat) (L : List (List UInt8)) (i : Value) (wr : World) : Prop :=
  ∃ j : Nat, j ≤ n ∧ i = .int .i64 (j : Int) ∧ Rw wr w.heap.size A n c (incs j L) ∧ Below w.heap.size w wr ∧ wr.heap[w.heap.size]? = w0.heap[w.heap.size]?
theorem below_at {x : Ob} {j : Nat} (h : j < x.ids.length) : x.below[j]? = x.ids[j]? := by
  unfold Ob.below
  rw [List.getElem?_append_left h]
theorem below_at2 {x : Ob} {j : Nat} (h : ¬ j < x.ids.length) : x.below[j]? = (x.es[j - x.ids.length]?).map (·.2.2) := by
  unfold Ob.below
  rw [List.getElem?_append_right (by omega), List.getElem?_map]
theorem below_len (x : Ob) : x.below.length = x.ids.length + x.es.length := by simp [Ob.below]
theorem below_each {x : Ob} (h : x.Wf) : ∀ y ∈ x.below, y.length = 32 := fun y hy => by
  rcases List.mem_append.1 hy with hy | hy
  · exact h.ids y hy
  · obtain ⟨e, he, rfl⟩ := List.mem_map.1 hy
    exact h.es e he
set_option maxHeartbeats 16000000 in
set_option maxRecDepth 100000 in
theorem law_obelow {w : World} {p : At} {x : Ob} (h : Obm w (· < w.heap.size) p x) :
    Calls Tryd.prog 5 #[.agg (obV p x)] w fun e w' => e = .returned (.bool true) ∧ Below w.heap.size w w' := by
  obtain ⟨XV, hXV⟩ : ∃ XV, XV = obV p x := ⟨_, rfl⟩
  obtain ⟨w0, hw0⟩ : ∃ w0, w0 = w.alloc (.cells XV 27) := ⟨_, rfl⟩
  have hb0 : Below w.heap.size w w0 := by rw [hw0]; exact (Below.refl _ _).alloc (Nat.le_refl _) _
  have haw := oawake_true w0
  have HX : Hid (XV = obV p x ∧ XV.size = 6 ∧ XV.all (·.oneCell') = true ∧ w0.heap[w.heap.size]? = some (.cells XV 27 (0, 0)) ∧ Below w.heap.size w w0 ∧ Obm w (· < w.heap.size) p x) := Lib.hid ⟨hXV, by rw [hXV]; rfl, by rw [hXV]; exact obV_one _ _, by rw [hw0]; exact heap_alloc_new w _, hb0, h⟩
  rw [← hXV]
  clear h hb0 hXV
  rw [hw0] at haw
  go_enter Tryd.func5, Tryd.ntmps5
  go_upto_region 4 with (go_at_call 7; refine haw.mono ?_; clear haw; rintro _ w1 ⟨rfl, hb1⟩)
  rw [← hw0] at hb1
  clear hw0
  have HB1 : Hid (Below w.heap.size w w1 ∧ w1.heap[w.heap.size]? = some (.cells XV 27 (0, 0)) ∧ Below w0.heap.size w0 w1) := Lib.hid ⟨HX.out.2.2.2.2.1.trans (hb1.mono HX.out.2.2.2.2.1.size), (hb1.block _ (lt_of_cells HX.out.2.2.2.1)).trans HX.out.2.2.2.1, hb1⟩
  have hsm := osmall_any (HX.out.2.2.2.2.2.below HB1.out.1)
  rw [← HX.out.1] at hsm
  have hcx : ∀ (a : Nat) (v : Value), XV[a]? = some v → w1.cell? ((⟨w.heap.size, 0, none⟩ : Addr).add a) = some v := fun a v hv => by rw [add_plain, Nat.zero_add, cell_of_cells HB1.out.2.1]; exact hv
  clear hb1
  go_upto_region 5 with (first
    | (refine wpList_load_at (by rfl) 27 (.tmp 1) (by rfl) ⟨w.heap.size, 0, none⟩ (by rfl) XV _ hcx Tryd.underlying27 (by rfl) (by rw [HX.out.2.1]; exact ob_info) ?_)
    | (go_at_call 8; refine hsm.mono ?_; clear hsm; rintro _ w2 ⟨SB, rfl, hSB, hb2⟩))
  clear hcx
  have HB2 : Hid (Below w.heap.size w w2 ∧ w2.heap[w.heap.size]? = some (.cells XV 27 (0, 0))) := Lib.hid ⟨HB1.out.1.trans (hb2.mono HB1.out.1.size), (hb2.block _ (lt_of_cells HB1.out.2.1)).trans HB1.out.2.1⟩
  have HSB := Lib.hid hSB
  clear hb2 hSB
  cases SB
  · go_wp2_with fail
    go_ret
    exact ⟨rfl, HB2.out.1⟩
  have hle := HSB.out rfl
  have hbl := below_any (HX.out.2.2.2.2.2.below HB2.out.1) (by omega) (by omega)
  rw [← HX.out.1] at hbl
  have hcx : ∀ (a : Nat) (v : Value), XV[a]? = some v → w2.cell? ((⟨w.heap.size, 0, none⟩ : Addr).add a) = some v := fun a v hv => by rw [add_plain, Nat.zero_add, cell_of_cells HB2.out.2]; exact hv
  have HLE := Lib.hid hle
  clear hle
  obtain ⟨L, hL⟩ : ∃ L, L = x.below := ⟨_, rfl⟩
  have HL : Hid (L = x.below ∧ L.length = x.ids.length + x.es.length ∧ ∀ y ∈ L, y.length = 32) := Lib.hid ⟨hL, by rw [hL]; exact below_len x, by rw [hL]; exact below_each HX.out.2.2.2.2.2.o.wf⟩
  rw [← hL] at hbl
  clear hL
  go_upto_region 8 with (first
    | (refine wpList_load_at (by rfl) 27 (.tmp 1) (by rfl) ⟨w.heap.size, 0, none⟩ (by rfl) XV _ hcx Tryd.underlying27 (by rfl) (by rw [HX.out.2.1]; exact ob_info) ?_)
    | (go_at_call 17; refine hbl.mono ?_; clear hbl; rintro _ w3 ⟨A, n, c, rfl, hown3, hLn, hb3⟩))
  clear hcx
  have HB3 : Hid (Below w.heap.size w w3 ∧ w3.heap[w.heap.size]? = some (.cells XV 27 (0, 0)) ∧ w.heap.size < w2.heap.size) := Lib.hid ⟨HB2.out.1.trans (hb3.mono HB2.out.1.size), (hb3.block _ (lt_of_cells HB2.out.2)).trans HB2.out.2, lt_of_cells HB2.out.2⟩
  have HR3 : Hid (Rw w3 (w.heap.size + 1) A n c L ∧ L.length = n) := Lib.hid ⟨by
    have h1 := rw_own hown3 HL.out.2.2
    exact ⟨h1.ids.mono fun k _ hk => by have : w2.heap.size ≤ k := hk; have := HB3.out.2.2; omega, fun h0 => by
      obtain ⟨g, o, cur, e1, e2, e3⟩ := h1.own h0
      exact ⟨g, o, cur, e1, by have := HB3.out.2.2; omega, e3⟩⟩, hLn⟩
  clear hown3 hLn hb3
  obtain ⟨PA, Pn, Pc, IA, iN, ic, EA, eN, ec⟩ := p
  obtain ⟨k, b, z, ids, es, lb⟩ := x
  have HN : Hid (ids.length = iN ∧ es.length = eN ∧ iN ≤ 40 ∧ eN ≤ 40 ∧ L.length = iN + eN ∧ n = iN + eN) := Lib.hid (by
    have h1 := HX.out.2.2.2.2.2.o.ids.len
    have h2 := HX.out.2.2.2.2.2.o.es.len
    have h3 := HLE.out
    have h4 := HL.out.2.1
    have h5 := HR3.out.2
    simp only at h1 h2 h3 h4
    omega)
  have HCX : Hid (∀ W : World, W.heap[w.heap.size]? = some (.cells XV 27 (0, 0)) → W.cell? ⟨w.heap.size, 3, none⟩ = some (.slice IA iN ic) ∧ W.cell? ⟨w.heap.size, 4, none⟩ = some (.slice EA eN ec)) := Lib.hid fun W hW => by
    rw [cell_of_cells hW, cell_of_cells hW, HX.out.1]
    exact ⟨rfl, rfl⟩
  obtain ⟨hc3, hc4⟩ := HCX.out w3 HB3.out.2.1
  have hsum := IntWalk.i64_in ((iN : Int) + (eN : Int)) (by have := HN.out; omega)
  have hne : (((n : Nat) : Int) != (iN : Int) + (eN : Int)) = false := by
    have : ((n : Nat) : Int) = (iN : Int) + (eN : Int) := by have := HN.out; omega
    simp [this]
  go_upto_region 10 with fail
  clear hsum hne hc3 hc4
  go_wp2_with fail
  go_loopw [6] (fun i wr => ∃ j : Nat, j ≤ n ∧ i = .int .i64 (j : Int) ∧ Rw wr (w.heap.size + 1) A n c (incs j L) ∧ Below w.heap.size w wr ∧ wr.heap[w.heap.size]? = some (.cells XV 27 (0, 0))) (fun i _ => n - (intOf i).toNat)
  case atStart => exact ⟨0, Nat.zero_le _, rfl, by rw [incs_0]; exact HR3.out.1, HB3.out.1, HB3.out.2.1⟩
  case round =>
    obtain ⟨j, hj, rfl, hrw, hbw, hxw⟩ := hrel
    by_cases hlt : j < n
    · have hlt' : (j : Int) < (n : Int) := by omega
      obtain ⟨hc3, hc4⟩ := HCX.out wr hxw
      obtain ⟨g, o, _, rfl, hg, _, _⟩ := hrw.own (by omega)
      obtain ⟨y, hy⟩ : ∃ y, L[j]? = some y := ⟨_, List.getElem?_eq_getElem (by have := HN.out; omega)⟩
      have hy32 := HL.out.2.2 y (List.mem_of_getElem? hy)
      obtain ⟨IS, hIS⟩ : ∃ IS, IS = row8 y := ⟨_, rfl⟩
      obtain ⟨ZI, hZI⟩ : ∃ ZI, ZI = zerosId := ⟨_, rfl⟩
      have hbd : ∀ W, (Instr.build 49 #[]).run Tryd.prog W = .ok (.agg ZI) W := fun W => by rw [hZI]; exact build_id W
      have hzi : ∀ W, (zeroValue 49).run Tryd.prog W = .ok (.agg ZI) W := fun W => by rw [hZI]; exact zero_id W
      have HZI : Hid (ZI.size = 32 ∧ ZI.all (·.oneCell') = true) := Lib.hid (by
        have e : ZI = row8 (List.replicate 32 0) := hZI
        exact ⟨by rw [e, row8_size]; simp, by rw [e]; exact row8_one _⟩)
      have HY : Hid (L[j]? = some y ∧ IS = row8 y ∧ IS.size = 32 ∧ j < n ∧ j < L.length ∧ n ≤ 80) := Lib.hid ⟨hy, hIS, by rw [hIS, row8_size, hy32], hlt, by have := HN.out; omega, by have := HN.out; omega⟩
      have HISO : Hid (IS.all (·.oneCell') = true) := Lib.hid (by rw [hIS]; exact row8_one _)
      have HEQ : Hid (∀ W, (Op.equalIn 10000 49 (.agg IS) (.agg IS)).run Tryd.prog W = .ok true W) := Lib.hid fun W => by rw [hIS]; have := id_eq2 y y hy32 hy32 9998 W; rwa [decide_eq_true rfl] at this
      have HRW := Lib.hid hrw
      have HBW := Lib.hid (And.intro hbw (And.intro hxw hg))
      clear hrw hbw hxw hj hlt hy hy32 hIS hZI hg
      go_upto_region 14 with (first
        | (refine wpList_build0 (by rfl) 49 (by rfl) (.agg ZI) hbd ?_)
        | (refine wpList_store_row (by rfl) 49 (.tmp 7) (.tmp 35) (by rfl) wr.heap.size ZI (by rfl) (by rfl) 49 _ (heap_alloc_new wr _) (by rw [HZI.out.1]; exact id_info) (by rfl) HZI.out.2 ?_))
      have hal : Below wr.heap.size wr ((wr.alloc (.cells ZI 49)).setRow wr.heap.size ZI) := below_setRow ((Below.refl _ _).alloc (Nat.le_refl _) _) (Nat.le_refl _) _
      have hpa : ((wr.alloc (.cells ZI 49)).setRow wr.heap.size ZI).heap[wr.heap.size]? = some (.cells ZI 49 (0, 0)) := setRow_at (heap_alloc_new wr _)
      have H5 := Lib.hid (And.intro hal hpa)
      obtain ⟨hc3', hc4'⟩ := HCX.out _ ((hal.block _ (lt_of_cells HBW.out.2.1)).trans HBW.out.2.1)
      have hbs := hal.size
      obtain ⟨q, hq⟩ : ∃ q, q = wr.heap.size := ⟨_, rfl⟩
      rw [← hq] at H5 hc3' hc4' ⊢
      have HQ0 : Hid (q = wr.heap.size) := Lib.hid hq
      clear hal hpa hc3 hc4 hzi hbd hq hbs
      generalize (wr.alloc (.cells ZI 49)).setRow q ZI = w5 at *
      by_cases hin : j < iN
      · have hin' : (j : Int) < (iN : Int) := by omega
        obtain ⟨g2, o2, eA, _, _, hci⟩ := ((HX.out.2.2.2.2.2.o.ids.below HBW.out.1).below (by have := H5.out.1; rw [HQ0.out] at this; exact this)).at_ hin
        simp only at eA hci
        subst eA
        have hci2 : ∀ (a : Nat) (v : Value), IS[a]? = some v → w5.cell? ((⟨g2, o2 + j * 32, none⟩ : Addr).add a) = some v := fun a v hv => hci a v (by
          have h1 := HY.out.1
          rw [HL.out.1, below_at (by have := HN.out.1; simp only; omega)] at h1
          simp only at h1
          rw [h1]
          rw [HY.out.2.1] at hv
          exact hv)
        clear hci
        go_upto_region 17 with (first
          | (refine wpList_load_at (by rfl) 49 (.tmp 44) (by rfl) ⟨g2, o2 + j * 32, none⟩ (by rfl) IS _ hci2 Tryd.underlying49 (by rfl) (by rw [HY.out.2.2.1]; exact id_info) ?_)
          | (refine wpList_store_row (by rfl) 49 (.tmp 7) (.tmp 45) (by rfl) q IS (by rfl) (by rfl) 49 _ H5.out.2 (by rw [HY.out.2.2.1]; exact id_info) (by rw [HZI.out.1, HY.out.2.2.1]) HISO.out ?_))
        have H6 : Hid ((w5.setRow q IS).heap[q]? = some (.cells IS 49 (0, 0)) ∧ Below wr.heap.size wr (w5.setRow q IS)) := Lib.hid ⟨setRow_at H5.out.2, below_setRow (by have := H5.out.1; rw [HQ0.out] at this; exact this) (by rw [HQ0.out]; exact Nat.le_refl _) _⟩
        clear hci2 hin hc3' hc4' hin'
        generalize w5.setRow q IS = w6 at *
        have HLQ : Hid (q < w6.drew.heap.size ∧ ∀ (a : Nat) (v : Value), IS[a]? = some v → w6.drew.cell? ((⟨q, 0, none⟩ : Addr).add a) = some v) := Lib.hid ⟨lt_of_cells H6.out.1, fun a v hv => by
          rw [add_plain, Nat.zero_add]
          exact (cell_of_cells H6.out.1 a).trans hv⟩
        have HQ : Hid (Below wr.heap.size wr w6 ∧ Rw w6 (w.heap.size + 1) (some ⟨g, o, none⟩) n c (incs j L)) := Lib.hid ⟨H6.out.2, HRW.out.below H6.out.2⟩
        have HLL : Hid (g < w6.drew.heap.size ∧ ∀ (a : Nat) (v : Value), IS[a]? = some v → w6.drew.cell? ((⟨g, o + j * 32, none⟩ : Addr).add a) = some v) := Lib.hid (by
          obtain ⟨g1, o1, e1, h5, _, hc⟩ := HQ.out.2.ids.at_ HY.out.2.2.2.1
          injection e1 with e1
          injection e1 with e1 e2
          subst e1 e2
          rw [incs_at HY.out.2.2.2.2.1, HY.out.1] at hc
          exact ⟨h5, fun a v hv => hc a v (by rw [HY.out.2.1] at hv; exact hv)⟩)
        go_wp2_with fail
        refine wp_region_grow (fun W W' => Below W.heap.size W W') (Grow.nth [fun v _ => v = .slice (some ⟨g, o, none⟩) n c, fun v _ => v = .int .i64 (j : Int), fun v _ => v = .pointer (some ⟨g, o + j * 32, none⟩), fun v _ => v = .agg IS, fun v _ => v = .agg IS, fun v _ => v = .bool false]) 87 (by kernel_rfl) (by kernel_rfl) (by rfl) (fun W => Below.refl _ W) (fun _ _ _ h1 h2 => h1.trans (h2.mono h1.size)) (Grow.mono_nth ?gmono) ?gsteps ?gfin
        case gmono => exact ⟨fun _ _ _ h _ => h, fun _ _ _ h _ => h, fun _ _ _ h _ => h, fun _ _ _ h _ => h, fun _ _ _ h _ => h, fun _ _ _ h _ => h, trivial⟩
        case gsteps =>
          show Grow.allBelow _ 6
          refine And.intro ?_ ?s5
          refine And.intro ?_ ?s4
          refine And.intro ?_ ?s3
          refine And.intro ?_ ?s2
          refine And.intro ?_ ?s1
          refine And.intro ?_ ?s0
          exact trivial
          case s0 =>
            refine Grow.step_in (by rfl) (by rfl) ?_
            intro E W ec eg ef hG hd hu R HR
            have e5 : E (.tmp 5) = .slice (some ⟨g, o, none⟩) n c := hu 5 (by kernel_rfl)
            clear hd hu
            go_simp
            exact HR.out _ _ (Below.refl _ _) rfl
          case s1 =>
            refine Grow.step_in (by rfl) (by rfl) ?_
            intro E W ec eg ef hG hd hu R HR
            have e6 : E (.tmp 6) = .int .i64 (j : Int) := hu 6 (by kernel_rfl)
            clear hd hu
            go_simp
            exact HR.out _ _ (Below.refl _ _) rfl
          case s2 =>
            refine Grow.step_in (by rfl) (by rfl) ?_
            intro E W ec eg ef hG hd hu R HR
            have e56 : E (.tmp 56) = .slice (some ⟨g, o, none⟩) n c := hd 0 56 (by kernel_rfl)
            have e57 : E (.tmp 57) = .int .i64 (j : Int) := hd 1 57 (by kernel_rfl)
            clear hd hu
            have hjl := HY.out.2.2.2.1
            go_simp
            first | exact HR.out _ _ (Below.refl _ _) rfl | (rw [if_pos ⟨by omega, by omega⟩]; exact HR.out _ _ (Below.refl _ _) rfl)
          case s3 =>
            refine Grow.step_in (by rfl) (by rfl) ?_
            intro E W ec eg ef hG hd hu R HR
            have e58 : E (.tmp 58) = .pointer (some ⟨g, o + j * 32, none⟩) := hd 2 58 (by kernel_rfl)
            clear hd hu
            exact runs_load_at 49 (.tmp 58) rfl ⟨g, o + j * 32, none⟩ e58 IS (fun a v hv => by have hh := HLL.out.2 a v hv; rw [add_plain] at hh ⊢; exact (hG.cell (p := ⟨_, _, none⟩) HLL.out.1).trans hh) Tryd.underlying49 (by rw [HY.out.2.2.1]; exact id_info) (HR.out _ _ (Below.refl _ _) rfl)
          case s4 =>
            refine Grow.step_in (by rfl) (by rfl) ?_
            intro E W ec eg ef hG hd hu R HR
            have e7 : E (.tmp 7) = .pointer (some ⟨q, 0, none⟩) := hu 7 (by kernel_rfl)
            clear hd hu
            exact runs_load_at 49 (.tmp 7) rfl ⟨q, 0, none⟩ e7 IS (fun a v hv => by have hh := HLQ.out.2 a v hv; rw [add_plain] at hh ⊢; exact (hG.cell (p := ⟨_, _, none⟩) HLQ.out.1).trans hh) Tryd.underlying49 (by rw [HY.out.2.2.1]; exact id_info) (HR.out _ _ (Below.refl _ _) rfl)
          case s5 =>
            refine Grow.step_in (by rfl) (by rfl) ?_
            intro E W ec eg ef hG hd hu R HR
            have e59 : E (.tmp 59) = .agg IS := hd 3 59 (by kernel_rfl)
            have e60 : E (.tmp 60) = .agg IS := hd 4 60 (by kernel_rfl)
            clear hd hu
            have hq := HEQ.out
            go_simp
            exact HR.out _ _ (Below.refl _ _) rfl
        case gfin =>
          intro W hG
          refine Grow.fin_dst (by rfl) ?_
          rintro _ rfl
          refine Grow.fin_dst (by rfl) ?_
          rintro _ rfl
          refine Grow.fin_dst (by rfl) ?_
          rintro _ rfl
          refine Grow.fin_dst (by rfl) ?_
          rintro _ rfl
          refine Grow.fin_dst (by rfl) ?_
          rintro _ rfl
          refine Grow.fin_dst (by rfl) ?_
          rintro _ rfl
          simp only [Act.put, List.setIfInBounds_toArray, List.set_cons_zero, List.set_cons_succ]
          refine Grow.fin_end ?_
          have HW7 : Hid (Below wr.heap.size wr W ∧ Rw W (w.heap.size + 1) (some ⟨g, o, none⟩) n c (incs j L)) := Lib.hid (by
            have h1 := HQ.out.1.trans ((Grow.below_of_drew hG).mono HQ.out.1.size)
            exact ⟨h1, HRW.out.below h1⟩)
          clear hG
          obtain ⟨gx, ox, cur, ex, hgx, hcur, hsz⟩ := HW7.out.2.own (by have := HY.out.2.2.2.1; omega)
          injection ex with ex
          injection ex with ex ex2
          subst ex ex2
          have hcy : W.cell? ⟨g, o + j * 32, none⟩ = some (.int .u8 ((y[0]?.getD 0).toNat : Int)) := by
            obtain ⟨g1, o1, e1, _, _, hc⟩ := HW7.out.2.ids.row (by have := HY.out.2.2.2.1; omega)
            injection e1 with e1
            injection e1 with e1 e2
            subst e1 e2
            have := hc j 0 HY.out.2.2.2.1 (by decide)
            rw [incs_at HY.out.2.2.2.2.1, HY.out.1] at this
            exact this
          have hfr := free_of_cells hcur (o + j * 32)
          have hjn := HY.out.2.2.2.1
          have hjn2 : (j : Int) < (n : Int) := by omega
          have hadd := IntWalk.i64_in ((j : Int) + 1) (by have := HY.out.2.2.2.2.2; omega)
          obtain ⟨V, hV⟩ : ∃ V, V = IntKind.u8.wrap (((y[0]?.getD 0).toNat : Int) + 1) := ⟨_, rfl⟩
          have HV : Hid (V = (((y[0]?.getD 0) + 1).toNat : Int)) := Lib.hid (by rw [hV]; exact wrap_inc _)
          generalize ((y[0]?.getD 0).toNat : Int) = Y0 at hcy hV
          have HCU : Hid (W.heap[g]? = some (.cells cur 49 (0, 0)) ∧ o + n * 32 ≤ cur.size) := Lib.hid ⟨hcur, hsz⟩
          clear hcur hsz
          have hV2 := hV.symm
          clear hV
          go_wp2_with fail
          have HCY : Hid (g < W.drew.heap.size ∧ W.drew.cell? ⟨g, o + j * 32, none⟩ = some (.int .u8 Y0)) := Lib.hid ⟨lt_of_cells HCU.out.1, hcy⟩
          have HV2 := Lib.hid hV2
          clear hcy hV2 hfr hjn hjn2 hadd
          refine (wpIn_wide (n := 3)).1 ?_
          refine wpIn_region_growL (Grow.open_wide _ _) (fun W W' => Below W.heap.size W W') (Grow.nth [fun v _ => v = .slice (some ⟨g, o, none⟩) n c, fun v _ => v = .int .i64 (j : Int), fun v _ => v = .pointer (some ⟨g, o + j * 32, none⟩), fun v _ => v = .pointer (some ⟨g, o + j * 32, none⟩), fun v _ => v = .int .u8 Y0, fun v _ => v = .int .u8 V, fun v _ => v = .pointer (some ⟨g, o + j * 32, none⟩), fun v _ => v = .pointer (some ⟨g, o + j * 32, none⟩)]) 87 (by kernel_rfl) (by kernel_rfl) (by kernel_rfl) (by kernel_rfl) (by rfl) (fun W => Below.refl _ W) (fun _ _ _ h1 h2 => h1.trans (h2.mono h1.size)) (Grow.mono_nth ?gmono) 8 (by rfl) (by rfl) (by rfl) ?gsteps ?gfin
          case gmono => exact ⟨fun _ _ _ h _ => h, fun _ _ _ h _ => h, fun _ _ _ h _ => h, fun _ _ _ h _ => h, fun _ _ _ h _ => h, fun _ _ _ h _ => h, fun _ _ _ h _ => h, fun _ _ _ h _ => h, trivial⟩
          case gsteps =>
            show Grow.allBelow _ 8
            refine And.intro ?_ ?s7
            refine And.intro ?_ ?s6
            refine And.intro ?_ ?s5
            refine And.intro ?_ ?s4
            refine And.intro ?_ ?s3
            refine And.intro ?_ ?s2
            refine And.intro ?_ ?s1
            refine And.intro ?_ ?s0
            exact trivial
            case s0 =>
              refine Grow.step_in (by rfl) (by rfl) ?_
              intro E W ec eg ef hG hd hu R HR
              have e5 : E (.tmp 5) = .slice (some ⟨g, o, none⟩) n c := hu 5 (by kernel_rfl)
              clear hd hu
              go_simp
              exact HR.out _ _ (Below.refl _ _) rfl
            case s1 =>
              refine Grow.step_in (by rfl) (by rfl) ?_
              intro E W ec eg ef hG hd hu R HR
              have e6 : E (.tmp 6) = .int .i64 (j : Int) := hu 6 (by kernel_rfl)
              clear hd hu
              go_simp
              exact HR.out _ _ (Below.refl _ _) rfl
            case s2 =>
              refine Grow.step_in (by rfl) (by rfl) ?_
              intro E W ec eg ef hG hd hu R HR
              have e62 : E (.tmp 62) = .slice (some ⟨g, o, none⟩) n c := hd 0 62 (by kernel_rfl)
              have e63 : E (.tmp 63) = .int .i64 (j : Int) := hd 1 63 (by kernel_rfl)
              clear hd hu
              have hjl := HY.out.2.2.2.1
              go_simp
              first | exact HR.out _ _ (Below.refl _ _) rfl | (rw [if_pos ⟨by omega, by omega⟩]; exact HR.out _ _ (Below.refl _ _) rfl)
            case s3 =>
              refine Grow.step_in (by rfl) (by rfl) ?_
              intro E W ec eg ef hG hd hu R HR
              have e64 : E (.tmp 64) = .pointer (some ⟨g, o + j * 32, none⟩) := hd 2 64 (by kernel_rfl)
              clear hd hu
              go_simp
              first | exact HR.out _ _ (Below.refl _ _) rfl | (rw [if_pos ⟨by omega, by omega⟩]; exact HR.out _ _ (Below.refl _ _) rfl)
            case s4 =>
              refine Grow.step_in (by rfl) (by rfl) ?_
              intro E W ec eg ef hG hd hu R HR
              have e65 : E (.tmp 65) = .pointer (some ⟨g, o + j * 32, none⟩) := hd 3 65 (by kernel_rfl)
              clear hd hu
              have hcl := (hG.cell (p := ⟨g, o + j * 32, none⟩) HCY.out.1).trans HCY.out.2
              go_simp
              exact HR.out _ _ (Below.refl _ _) rfl
            case s5 =>
              refine Grow.step_in (by rfl) (by rfl) ?_
              intro E W ec eg ef hG hd hu R HR
              have e66 : E (.tmp 66) = .int .u8 Y0 := hd 4 66 (by kernel_rfl)
              clear hd hu
              have hv := HV2.out
              go_simp
              exact HR.out _ _ (Below.refl _ _) rfl
            case s6 =>
              refine Grow.step_in (by rfl) (by rfl) ?_
              intro E W ec eg ef hG hd hu R HR
              have e62 : E (.tmp 62) = .slice (some ⟨g, o, none⟩) n c := hd 0 62 (by kernel_rfl)
              have e63 : E (.tmp 63) = .int .i64 (j : Int) := hd 1 63 (by kernel_rfl)
              clear hd hu
              have hjl := HY.out.2.2.2.1
              go_simp
              first | exact HR.out _ _ (Below.refl _ _) rfl | (rw [if_pos ⟨by omega, by omega⟩]; exact HR.out _ _ (Below.refl _ _) rfl)
            case s7 =>
              refine Grow.step_in (by rfl) (by rfl) ?_
              intro E W ec eg ef hG hd hu R HR
              have e68 : E (.tmp 68) = .pointer (some ⟨g, o + j * 32, none⟩) := hd 6 68 (by kernel_rfl)
              clear hd hu
              go_simp
              first | exact HR.out _ _ (Below.refl _ _) rfl | (rw [if_pos ⟨by omega, by omega⟩]; exact HR.out _ _ (Below.refl _ _) rfl)
          case gfin =>
            intro W1 hG
            refine Grow.fin_dst (by rfl) ?_
            rintro _ rfl
            refine Grow.fin_dst (by rfl) ?_
            rintro _ rfl
            refine Grow.fin_dst (by rfl) ?_
            rintro _ rfl
            refine Grow.fin_dst (by rfl) ?_
            rintro _ rfl
            refine Grow.fin_dst (by rfl) ?_
            rintro _ rfl
            refine Grow.fin_dst (by rfl) ?_
            rintro _ rfl
            refine Grow.fin_dst (by rfl) ?_
            rintro _ rfl
            refine Grow.fin_dst (by rfl) ?_
            rintro _ rfl
            simp only [Act.put, List.setIfInBounds_toArray, List.set_cons_zero, List.set_cons_succ]
            refine Grow.fin_end ?_
            have hGb := Grow.below_of_drew hG
            have hcur2 := (hGb.block _ (lt_of_cells HCU.out.1)).trans HCU.out.1
            have hrs := run_store_byte (v := V) hcur2 ((hGb.cell (p := ⟨g, o + j * 32, none⟩) HCY.out.1).trans HCY.out.2)
            have hst := (HW7.out.2.below hGb).set (j := j) (y := y) (by rw [incs_at HY.out.2.2.2.2.1]; exact HY.out.1) ((y[0]?.getD 0) + 1)
            rw [show (incs j L).set j (y.set 0 ((y[0]?.getD 0) + 1)) = incs (j + 1) L from incs_set HY.out.1, ← HV.out] at hst
            have HZ : Hid (Rw (W1.setCell ⟨g, o + j * 32, none⟩ (.int .u8 V)) (w.heap.size + 1) (some ⟨g, o, none⟩) n c (incs (j + 1) L) ∧ Below w.heap.size w (W1.setCell ⟨g, o + j * 32, none⟩ (.int .u8 V)) ∧ (W1.setCell ⟨g, o + j * 32, none⟩ (.int .u8 V)).heap[w.heap.size]? = some (.cells XV 27 (0, 0))) := Lib.hid (by
              have h1 : Below wr.heap.size wr W1 := HW7.out.1.trans (hGb.mono HW7.out.1.size)
              refine ⟨hst, (HBW.out.1.trans (h1.mono HBW.out.1.size)).setCell (by have := HBW.out.2.2; show w.heap.size ≤ g; omega) _, ?_⟩
              rw [Below.heap_setCell _ _ _ _ (by have := HBW.out.2.2; show w.heap.size ≠ g; omega)]
              exact (h1.block _ (lt_of_cells HBW.out.2.1)).trans HBW.out.2.1)
            refine storeIn_cell 5 (.tmp 69) (.tmp 67) (by rfl) ⟨g, o + j * 32, none⟩ (.int .u8 V) (by rfl) (by rfl) hrs ?_
            simp only [Act.put]
            clear hG hGb hcur2 hrs hst
            generalize W1.setCell ⟨g, o + j * 32, none⟩ (.int .u8 V) = W2 at *
            have hadd := IntWalk.i64_in ((j : Int) + 1) (by have := HY.out.2.2.2.2.2; have := HY.out.2.2.2.1; omega)
            go_wp2_with fail
            go_roundw
            case rel => exact ⟨j + 1, by have := HY.out.2.2.2.1; omega, by simp, HZ.out.1, HZ.out.2.1, HZ.out.2.2⟩
            case measure => have := HY.out.2.2.2.1; simp only [intOf]; omega
      · have hin' : ¬ (j : Int) < (iN : Int) := by omega
        obtain ⟨i2, hi2⟩ : ∃ i2, i2 = j - iN := ⟨_, rfl⟩
        have hlt2 : i2 < eN := by have := HN.out; have := HY.out.2.2.2.1; omega
        have hlt2' : (i2 : Int) < (eN : Int) := by omega
        have hsw : wrap64 ((j : Int) - (iN : Int)) = (i2 : Int) := by
          have := HN.out
          have := HY.out.2.2.2.1
          unfold wrap64
          omega
        obtain ⟨g2, o2, z2, eA, _, _, hz2, h32, hci⟩ := ((HX.out.2.2.2.2.2.o.es.below HBW.out.1).below (by have := H5.out.1; rw [HQ0.out] at this; exact this)).at_ hlt2
        simp only at eA hci hz2
        subst eA
        have hyz : y = z2.2.2 := by
          have h1 := HY.out.1
          rw [HL.out.1, below_at2 (by have := HN.out.1; simp only; omega)] at h1
          simp only at h1
          rw [HN.out.1, ← hi2, hz2] at h1
          simpa using h1.symm
        have hci2 : ∀ (a : Nat) (v : Value), IS[a]? = some v → w5.cell? ((⟨g2, o2 + i2 * 34 + 2, none⟩ : Addr).add a) = some v := fun a v hv => by
          have h2 := hci (2 + a) v (enV_id (by rw [HY.out.2.1, hyz] at hv; exact hv))
          rw [add_plain, Nat.add_assoc (o2 + i2 * 34) 2 a]
          exact h2
        clear hci hyz hz2 hi2
        go_upto_region 17 with (first
          | (refine wpList_load_at (by rfl) 49 (.tmp 54) (by rfl) ⟨g2, o2 + i2 * 34 + 2, none⟩ (by rfl) IS _ hci2 Tryd.underlying49 (by rfl) (by rw [HY.out.2.2.1]; exact id_info) ?_)
          | (refine wpList_store_row (by rfl) 49 (.tmp 7) (.tmp 55) (by rfl) q IS (by rfl) (by rfl) 49 _ H5.out.2 (by rw [HY.out.2.2.1]; exact id_info) (by rw [HZI.out.1, HY.out.2.2.1]) HISO.out ?_))
        have H6 : Hid ((w5.setRow q IS).heap[q]? = some (.cells IS 49 (0, 0)) ∧ Below wr.heap.size wr (w5.setRow q IS)) := Lib.hid ⟨setRow_at H5.out.2, below_setRow (by have := H5.out.1; rw [HQ0.out] at this; exact this) (by rw [HQ0.out]; exact Nat.le_refl _) _⟩
        clear hci2 hin hc3' hc4' hin' hsw hlt2 hlt2'
        generalize w5.setRow q IS = w6 at *
        have HLQ : Hid (q < w6.drew.heap.size ∧ ∀ (a : Nat) (v : Value), IS[a]? = some v → w6.drew.cell? ((⟨q, 0, none⟩ : Addr).add a) = some v) := Lib.hid ⟨lt_of_cells H6.out.1, fun a v hv => by
          rw [add_plain, Nat.zero_add]
          exact (cell_of_cells H6.out.1 a).trans hv⟩
        have HQ : Hid (Below wr.heap.size wr w6 ∧ Rw w6 (w.heap.size + 1) (some ⟨g, o, none⟩) n c (incs j L)) := Lib.hid ⟨H6.out.2, HRW.out.below H6.out.2⟩
        have HLL : Hid (g < w6.drew.heap.size ∧ ∀ (a : Nat) (v : Value), IS[a]? = some v → w6.drew.cell? ((⟨g, o + j * 32, none⟩ : Addr).add a) = some v) := Lib.hid (by
          obtain ⟨g1, o1, e1, h5, _, hc⟩ := HQ.out.2.ids.at_ HY.out.2.2.2.1
          injection e1 with e1
          injection e1 with e1 e2
          subst e1 e2
          rw [incs_at HY.out.2.2.2.2.1, HY.out.1] at hc
          exact ⟨h5, fun a v hv => hc a v (by rw [HY.out.2.1] at hv; exact hv)⟩)
        go_wp2_with fail
        refine wp_region_grow (fun W W' => Below W.heap.size W W') (Grow.nth [fun v _ => v = .slice (some ⟨g, o, none⟩) n c, fun v _ => v = .int .i64 (j : Int), fun v _ => v = .pointer (some ⟨g, o + j * 32, none⟩), fun v _ => v = .agg IS, fun v _ => v = .agg IS, fun v _ => v = .bool false]) 87 (by kernel_rfl) (by kernel_rfl) (by rfl) (fun W => Below.refl _ W) (fun _ _ _ h1 h2 => h1.trans (h2.mono h1.size)) (Grow.mono_nth ?gmono) ?gsteps ?gfin
        case gmono => exact ⟨fun _ _ _ h _ => h, fun _ _ _ h _ => h, fun _ _ _ h _ => h, fun _ _ _ h _ => h, fun _ _ _ h _ => h, fun _ _ _ h _ => h, trivial⟩
        case gsteps =>
          show Grow.allBelow _ 6
          refine And.intro ?_ ?s5
          refine And.intro ?_ ?s4
          refine And.intro ?_ ?s3
          refine And.intro ?_ ?s2
          refine And.intro ?_ ?s1
          refine And.intro ?_ ?s0
          exact trivial
          case s0 =>
            refine Grow.step_in (by rfl) (by rfl) ?_
            intro E W ec eg ef hG hd hu R HR
            have e5 : E (.tmp 5) = .slice (some ⟨g, o, none⟩) n c := hu 5 (by kernel_rfl)
            clear hd hu
            go_simp
            exact HR.out _ _ (Below.refl _ _) rfl
          case s1 =>
            refine Grow.step_in (by rfl) (by rfl) ?_
            intro E W ec eg ef hG hd hu R HR
            have e6 : E (.tmp 6) = .int .i64 (j : Int) := hu 6 (by kernel_rfl)
            clear hd hu
            go_simp
            exact HR.out _ _ (Below.refl _ _) rfl
          case s2 =>
            refine Grow.step_in (by rfl) (by rfl) ?_
            intro E W ec eg ef hG hd hu R HR
            have e56 : E (.tmp 56) = .slice (some ⟨g, o, none⟩) n c := hd 0 56 (by kernel_rfl)
            have e57 : E (.tmp 57) = .int .i64 (j : Int) := hd 1 57 (by kernel_rfl)
            clear hd hu
            have hjl := HY.out.2.2.2.1
            go_simp
            first | exact HR.out _ _ (Below.refl _ _) rfl | (rw [if_pos ⟨by omega, by omega⟩]; exact HR.out _ _ (Below.refl _ _) rfl)
          case s3 =>
            refine Grow.step_in (by rfl) (by rfl) ?_
            intro E W ec eg ef hG hd hu R HR
            have e58 : E (.tmp 58) = .pointer (some ⟨g, o + j * 32, none⟩) := hd 2 58 (by kernel_rfl)
            clear hd hu
            exact runs_load_at 49 (.tmp 58) rfl ⟨g, o + j * 32, none⟩ e58 IS (fun a v hv => by have hh := HLL.out.2 a v hv; rw [add_plain] at hh ⊢; exact (hG.cell (p := ⟨_, _, none⟩) HLL.out.1).trans hh) Tryd.underlying49 (by rw [HY.out.2.2.1]; exact id_info) (HR.out _ _ (Below.refl _ _) rfl)
          case s4 =>
            refine Grow.step_in (by rfl) (by rfl) ?_
            intro E W ec eg ef hG hd hu R HR
            have e7 : E (.tmp 7) = .pointer (some ⟨q, 0, none⟩) := hu 7 (by kernel_rfl)
            clear hd hu
            exact runs_load_at 49 (.tmp 7) rfl ⟨q, 0, none⟩ e7 IS (fun a v hv => by have hh := HLQ.out.2 a v hv; rw [add_plain] at hh ⊢; exact (hG.cell (p := ⟨_, _, none⟩) HLQ.out.1).trans hh) Tryd.underlying49 (by rw [HY.out.2.2.1]; exact id_info) (HR.out _ _ (Below.refl _ _) rfl)
          case s5 =>
            refine Grow.step_in (by rfl) (by rfl) ?_
            intro E W ec eg ef hG hd hu R HR
            have e59 : E (.tmp 59) = .agg IS := hd 3 59 (by kernel_rfl)
            have e60 : E (.tmp 60) = .agg IS := hd 4 60 (by kernel_rfl)
            clear hd hu
            have hq := HEQ.out
            go_simp
            exact HR.out _ _ (Below.refl _ _) rfl
        case gfin =>
          intro W hG
          refine Grow.fin_dst (by rfl) ?_
          rintro _ rfl
          refine Grow.fin_dst (by rfl) ?_
          rintro _ rfl
          refine Grow.fin_dst (by rfl) ?_
          rintro _ rfl
          refine Grow.fin_dst (by rfl) ?_
          rintro _ rfl
          refine Grow.fin_dst (by rfl) ?_
          rintro _ rfl
          refine Grow.fin_dst (by rfl) ?_
          rintro _ rfl
          simp only [Act.put, List.setIfInBounds_toArray, List.set_cons_zero, List.set_cons_succ]
          refine Grow.fin_end ?_
          have HW7 : Hid (Below wr.heap.size wr W ∧ Rw W (w.heap.size + 1) (some ⟨g, o, none⟩) n c (incs j L)) := Lib.hid (by
            have h1 := HQ.out.1.trans ((Grow.below_of_drew hG).mono HQ.out.1.size)
            exact ⟨h1, HRW.out.below h1⟩)
          clear hG
          obtain ⟨gx, ox, cur, ex, hgx, hcur, hsz⟩ := HW7.out.2.own (by have := HY.out.2.2.2.1; omega)
          injection ex with ex
          injection ex with ex ex2
          subst ex ex2
          have hcy : W.cell? ⟨g, o + j * 32, none⟩ = some (.int .u8 ((y[0]?.getD 0).toNat : Int)) := by
            obtain ⟨g1, o1, e1, _, _, hc⟩ := HW7.out.2.ids.row (by have := HY.out.2.2.2.1; omega)
            injection e1 with e1
            injection e1 with e1 e2
            subst e1 e2
            have := hc j 0 HY.out.2.2.2.1 (by decide)
            rw [incs_at HY.out.2.2.2.2.1, HY.out.1] at this
            exact this
          have hfr := free_of_cells hcur (o + j * 32)
          have hjn := HY.out.2.2.2.1
          have hjn2 : (j : Int) < (n : Int) := by omega
          have hadd := IntWalk.i64_in ((j : Int) + 1) (by have := HY.out.2.2.2.2.2; omega)
          obtain ⟨V, hV⟩ : ∃ V, V = IntKind.u8.wrap (((y[0]?.getD 0).toNat : Int) + 1) := ⟨_, rfl⟩
          have HV : Hid (V = (((y[0]?.getD 0) + 1).toNat : Int)) := Lib.hid (by rw [hV]; exact wrap_inc _)
          generalize ((y[0]?.getD 0).toNat : Int) = Y0 at hcy hV
          have HCU : Hid (W.heap[g]? = some (.cells cur 49 (0, 0)) ∧ o + n * 32 ≤ cur.size) := Lib.hid ⟨hcur, hsz⟩
          clear hcur hsz
          have hV2 := hV.symm
          clear hV
          go_wp2_with fail
          have HCY : Hid (g < W.drew.heap.size ∧ W.drew.cell? ⟨g, o + j * 32, none⟩ = some (.int .u8 Y0)) := Lib.hid ⟨lt_of_cells HCU.out.1, hcy⟩
          have HV2 := Lib.hid hV2
          clear hcy hV2 hfr hjn hjn2 hadd
          refine (wpIn_wide (n := 3)).1 ?_
          refine wpIn_region_growL (Grow.open_wide _ _) (fun W W' => Below W.heap.size W W') (Grow.nth [fun v _ => v = .slice (some ⟨g, o, none⟩) n c, fun v _ => v = .int .i64 (j : Int), fun v _ => v = .pointer (some ⟨g, o + j * 32, none⟩), fun v _ => v = .pointer (some ⟨g, o + j * 32, none⟩), fun v _ => v = .int .u8 Y0, fun v _ => v = .int .u8 V, fun v _ => v = .pointer (some ⟨g, o + j * 32, none⟩), fun v _ => v = .pointer (some ⟨g, o + j * 32, none⟩)]) 87 (by kernel_rfl) (by kernel_rfl) (by kernel_rfl) (by kernel_rfl) (by rfl) (fun W => Below.refl _ W) (fun _ _ _ h1 h2 => h1.trans (h2.mono h1.size)) (Grow.mono_nth ?gmono) 8 (by rfl) (by rfl) (by rfl) ?gsteps ?gfin
          case gmono => exact ⟨fun _ _ _ h _ => h, fun _ _ _ h _ => h, fun _ _ _ h _ => h, fun _ _ _ h _ => h, fun _ _ _ h _ => h, fun _ _ _ h _ => h, fun _ _ _ h _ => h, fun _ _ _ h _ => h, trivial⟩
          case gsteps =>
            show Grow.allBelow _ 8
            refine And.intro ?_ ?s7
            refine And.intro ?_ ?s6
            refine And.intro ?_ ?s5
            refine And.intro ?_ ?s4
            refine And.intro ?_ ?s3
            refine And.intro ?_ ?s2
            refine And.intro ?_ ?s1
            refine And.intro ?_ ?s0
            exact trivial
            case s0 =>
              refine Grow.step_in (by rfl) (by rfl) ?_
              intro E W ec eg ef hG hd hu R HR
              have e5 : E (.tmp 5) = .slice (some ⟨g, o, none⟩) n c := hu 5 (by kernel_rfl)
              clear hd hu
              go_simp
              exact HR.out _ _ (Below.refl _ _) rfl
            case s1 =>
              refine Grow.step_in (by rfl) (by rfl) ?_
              intro E W ec eg ef hG hd hu R HR
              have e6 : E (.tmp 6) = .int .i64 (j : Int) := hu 6 (by kernel_rfl)
              clear hd hu
              go_simp
              exact HR.out _ _ (Below.refl _ _) rfl
            case s2 =>
              refine Grow.step_in (by rfl) (by rfl) ?_
              intro E W ec eg ef hG hd hu R HR
              have e62 : E (.tmp 62) = .slice (some ⟨g, o, none⟩) n c := hd 0 62 (by kernel_rfl)
              have e63 : E (.tmp 63) = .int .i64 (j : Int) := hd 1 63 (by kernel_rfl)
              clear hd hu
              have hjl := HY.out.2.2.2.1
              go_simp
              first | exact HR.out _ _ (Below.refl _ _) rfl | (rw [if_pos ⟨by omega, by omega⟩]; exact HR.out _ _ (Below.refl _ _) rfl)
            case s3 =>
              refine Grow.step_in (by rfl) (by rfl) ?_
              intro E W ec eg ef hG hd hu R HR
              have e64 : E (.tmp 64) = .pointer (some ⟨g, o + j * 32, none⟩) := hd 2 64 (by kernel_rfl)
              clear hd hu
              go_simp
              first | exact HR.out _ _ (Below.refl _ _) rfl | (rw [if_pos ⟨by omega, by omega⟩]; exact HR.out _ _ (Below.refl _ _) rfl)
            case s4 =>
              refine Grow.step_in (by rfl) (by rfl) ?_
              intro E W ec eg ef hG hd hu R HR
              have e65 : E (.tmp 65) = .pointer (some ⟨g, o + j * 32, none⟩) := hd 3 65 (by kernel_rfl)
              clear hd hu
              have hcl := (hG.cell (p := ⟨g, o + j * 32, none⟩) HCY.out.1).trans HCY.out.2
              go_simp
              exact HR.out _ _ (Below.refl _ _) rfl
            case s5 =>
              refine Grow.step_in (by rfl) (by rfl) ?_
              intro E W ec eg ef hG hd hu R HR
              have e66 : E (.tmp 66) = .int .u8 Y0 := hd 4 66 (by kernel_rfl)
              clear hd hu
              have hv := HV2.out
              go_simp
              exact HR.out _ _ (Below.refl _ _) rfl
            case s6 =>
              refine Grow.step_in (by rfl) (by rfl) ?_
              intro E W ec eg ef hG hd hu R HR
              have e62 : E (.tmp 62) = .slice (some ⟨g, o, none⟩) n c := hd 0 62 (by kernel_rfl)
              have e63 : E (.tmp 63) = .int .i64 (j : Int) := hd 1 63 (by kernel_rfl)
              clear hd hu
              have hjl := HY.out.2.2.2.1
              go_simp
              first | exact HR.out _ _ (Below.refl _ _) rfl | (rw [if_pos ⟨by omega, by omega⟩]; exact HR.out _ _ (Below.refl _ _) rfl)
            case s7 =>
              refine Grow.step_in (by rfl) (by rfl) ?_
              intro E W ec eg ef hG hd hu R HR
              have e68 : E (.tmp 68) = .pointer (some ⟨g, o + j * 32, none⟩) := hd 6 68 (by kernel_rfl)
              clear hd hu
              go_simp
              first | exact HR.out _ _ (Below.refl _ _) rfl | (rw [if_pos ⟨by omega, by omega⟩]; exact HR.out _ _ (Below.refl _ _) rfl)
          case gfin =>
            intro W1 hG
            refine Grow.fin_dst (by rfl) ?_
            rintro _ rfl
            refine Grow.fin_dst (by rfl) ?_
            rintro _ rfl
            refine Grow.fin_dst (by rfl) ?_
            rintro _ rfl
            refine Grow.fin_dst (by rfl) ?_
            rintro _ rfl
            refine Grow.fin_dst (by rfl) ?_
            rintro _ rfl
            refine Grow.fin_dst (by rfl) ?_
            rintro _ rfl
            refine Grow.fin_dst (by rfl) ?_
            rintro _ rfl
            refine Grow.fin_dst (by rfl) ?_
            rintro _ rfl
            simp only [Act.put, List.setIfInBounds_toArray, List.set_cons_zero, List.set_cons_succ]
            refine Grow.fin_end ?_
            have hGb := Grow.below_of_drew hG
            have hcur2 := (hGb.block _ (lt_of_cells HCU.out.1)).trans HCU.out.1
            have hrs := run_store_byte (v := V) hcur2 ((hGb.cell (p := ⟨g, o + j * 32, none⟩) HCY.out.1).trans HCY.out.2)
            have hst := (HW7.out.2.below hGb).set (j := j) (y := y) (by rw [incs_at HY.out.2.2.2.2.1]; exact HY.out.1) ((y[0]?.getD 0) + 1)
            rw [show (incs j L).set j (y.set 0 ((y[0]?.getD 0) + 1)) = incs (j + 1) L from incs_set HY.out.1, ← HV.out] at hst
            have HZ : Hid (Rw (W1.setCell ⟨g, o + j * 32, none⟩ (.int .u8 V)) (w.heap.size + 1) (some ⟨g, o, none⟩) n c (incs (j + 1) L) ∧ Below w.heap.size w (W1.setCell ⟨g, o + j * 32, none⟩ (.int .u8 V)) ∧ (W1.setCell ⟨g, o + j * 32, none⟩ (.int .u8 V)).heap[w.heap.size]? = some (.cells XV 27 (0, 0))) := Lib.hid (by
              have h1 : Below wr.heap.size wr W1 := HW7.out.1.trans (hGb.mono HW7.out.1.size)
              refine ⟨hst, (HBW.out.1.trans (h1.mono HBW.out.1.size)).setCell (by have := HBW.out.2.2; show w.heap.size ≤ g; omega) _, ?_⟩
              rw [Below.heap_setCell _ _ _ _ (by have := HBW.out.2.2; show w.heap.size ≠ g; omega)]
              exact (h1.block _ (lt_of_cells HBW.out.2.1)).trans HBW.out.2.1)
            refine storeIn_cell 5 (.tmp 69) (.tmp 67) (by rfl) ⟨g, o + j * 32, none⟩ (.int .u8 V) (by rfl) (by rfl) hrs ?_
            simp only [Act.put]
            clear hG hGb hcur2 hrs hst
            generalize W1.setCell ⟨g, o + j * 32, none⟩ (.int .u8 V) = W2 at *
            have hadd := IntWalk.i64_in ((j : Int) + 1) (by have := HY.out.2.2.2.2.2; have := HY.out.2.2.2.1; omega)
            go_wp2_with fail
            go_roundw
            case rel => exact ⟨j + 1, by have := HY.out.2.2.2.1; omega, by simp, HZ.out.1, HZ.out.2.1, HZ.out.2.2⟩
            case measure => have := HY.out.2.2.2.1; simp only [intOf]; omega
    · have hlt' : ¬ (j : Int) < (n : Int) := by omega
      obtain rfl : j = n := by omega
      have hbl := below_any (HX.out.2.2.2.2.2.below hbw) (by have := HN.out; simp only; omega) (by have := HN.out; simp only; omega)
      rw [← HX.out.1, ← HL.out.1] at hbl
      have hcx : ∀ (a : Nat) (v : Value), XV[a]? = some v → wr.cell? ((⟨w.heap.size, 0, none⟩ : Addr).add a) = some v := fun a v hv => by rw [add_plain, Nat.zero_add, cell_of_cells hxw]; exact hv
      have HBW := Lib.hid (And.intro hbw hrw)
      clear hrw hbw hxw hlt hj
      go_upto_region 21 with (first
        | (refine wpList_load_at (by rfl) 27 (.tmp 1) (by rfl) ⟨w.heap.size, 0, none⟩ (by rfl) XV _ hcx Tryd.underlying27 (by rfl) (by rw [HX.out.2.1]; exact ob_info) ?_)
        | (go_at_call 17; refine hbl.mono ?_; clear hbl; rintro _ w7 ⟨A7, n7, c7, rfl, hown7, hLn7, hb7⟩))
      obtain rfl : j = n7 := by rw [← hLn7, ← HR3.out.2]
      clear hcx hlt' hLn7
      have HR7 : Hid (Ids w7 (wr.heap.size ≤ ·) A7 j c7 L ∧ Ids w7 (w.heap.size + 1 ≤ ·) A j c (incs j L) ∧ Below w.heap.size w w7) := Lib.hid (by
        obtain ⟨A', c', e, hi⟩ := own_ids hown7 HL.out.2.2
        injection e with e1 _ e2
        subst e1 e2
        exact ⟨hi, HBW.out.2.ids.below hb7, HBW.out.1.trans (hb7.mono HBW.out.1.size)⟩)
      clear hown7 hb7
      go_wp2_with fail
      go_loopw [9] (fun i W => ∃ k : Nat, k ≤ j ∧ i = .int .i64 (k : Int) ∧ Below w7.heap.size w7 W) (fun i _ => j - (intOf i).toNat)
      case atStart => exact ⟨0, Nat.zero_le _, rfl, Below.refl _ _⟩
      case round =>
        obtain ⟨m, hm, rfl, hbm⟩ := hrel
        by_cases hlt : m < j
        · have hlt' : (m : Int) < (j : Int) := by omega
          have hadd := IntWalk.i64_in ((m : Int) + 1) (by have := HN.out; omega)
          obtain ⟨g, o, rfl, hg, h32, hc⟩ := (HR7.out.1.below hbm).at_ hlt
          obtain ⟨g1, o1, rfl, hg1, h321, hc1⟩ := (HR7.out.2.1.below hbm).at_ hlt
          obtain ⟨y, hy⟩ : ∃ y, L[m]? = some y := ⟨_, List.getElem?_eq_getElem (by have := HN.out; omega)⟩
          obtain ⟨z2, hz2⟩ : ∃ z2, z2 = (incs j L)[m]?.getD [] := ⟨_, rfl⟩
          have hzy : z2 = inc0 y := by
            rw [hz2, ← HR3.out.2, incs_full, List.getElem?_map, hy]
            rfl
          rw [hy] at h32 hc
          rw [← hz2] at h321 hc1
          simp only [Option.getD_some] at h32 hc
          obtain ⟨IS, hIS⟩ : ∃ IS, IS = row8 y := ⟨_, rfl⟩
          obtain ⟨JS, hJS⟩ : ∃ JS, JS = row8 z2 := ⟨_, rfl⟩
          rw [← hIS] at hc
          rw [← hJS] at hc1
          have HY : Hid (IS.size = 32 ∧ JS.size = 32 ∧ m < j) := Lib.hid ⟨by rw [hIS, row8_size, h32], by rw [hJS, row8_size, h321], hlt⟩
          have HEQ : Hid (∀ W, (Op.equalIn 10000 49 (.agg IS) (.agg JS)).run Tryd.prog W = .ok false W) := Lib.hid fun W => by
            rw [hIS, hJS]
            have := id_eq2 y z2 h32 h321 9998 W
            rwa [decide_eq_false (by rw [hzy]; exact (inc0_ne h32).symm)] at this
          have HC := Lib.hid (And.intro hg hc)
          have HC1 := Lib.hid (And.intro hg1 hc1)
          have HBM := Lib.hid hbm
          clear hc hc1 hg hg1 h32 h321 hy hz2 hzy hIS hJS hbm hlt hm
          go_wp2_with fail
          refine wp_region_grow (fun W W' => Below W.heap.size W W') (Grow.nth [fun v _ => v = .slice (some ⟨g, o, none⟩) j c7, fun v _ => v = .int .i64 (m : Int), fun v _ => v = .pointer (some ⟨g, o + m * 32, none⟩), fun v _ => v = .agg IS, fun v _ => v = .slice (some ⟨g1, o1, none⟩) j c, fun v _ => v = .int .i64 (m : Int), fun v _ => v = .pointer (some ⟨g1, o1 + m * 32, none⟩), fun v _ => v = .agg JS, fun v _ => v = .bool false]) 87 (by kernel_rfl) (by kernel_rfl) (by rfl) (fun W => Below.refl _ W) (fun _ _ _ h1 h2 => h1.trans (h2.mono h1.size)) (Grow.mono_nth ?gmono) ?gsteps ?gfin
          case gmono => exact ⟨fun _ _ _ h _ => h, fun _ _ _ h _ => h, fun _ _ _ h _ => h, fun _ _ _ h _ => h, fun _ _ _ h _ => h, fun _ _ _ h _ => h, fun _ _ _ h _ => h, fun _ _ _ h _ => h, fun _ _ _ h _ => h, trivial⟩
          case gsteps =>
            show Grow.allBelow _ 9
            refine And.intro ?_ ?s8
            refine And.intro ?_ ?s7
            refine And.intro ?_ ?s6
            refine And.intro ?_ ?s5
            refine And.intro ?_ ?s4
            refine And.intro ?_ ?s3
            refine And.intro ?_ ?s2
            refine And.intro ?_ ?s1
            refine And.intro ?_ ?s0
            exact trivial
            case s0 =>
              refine Grow.step_in (by rfl) (by rfl) ?_
              intro E W ec eg ef hG hd hu R HR
              have e8 : E (.tmp 8) = .slice (some ⟨g, o, none⟩) j c7 := hu 8 (by kernel_rfl)
              clear hd hu
              go_simp
              exact HR.out _ _ (Below.refl _ _) rfl
            case s1 =>
              refine Grow.step_in (by rfl) (by rfl) ?_
              intro E W ec eg ef hG hd hu R HR
              have e9 : E (.tmp 9) = .int .i64 (m : Int) := hu 9 (by kernel_rfl)
              clear hd hu
              go_simp
              exact HR.out _ _ (Below.refl _ _) rfl
            case s2 =>
              refine Grow.step_in (by rfl) (by rfl) ?_
              intro E W ec eg ef hG hd hu R HR
              have e78 : E (.tmp 78) = .slice (some ⟨g, o, none⟩) j c7 := hd 0 78 (by kernel_rfl)
              have e79 : E (.tmp 79) = .int .i64 (m : Int) := hd 1 79 (by kernel_rfl)
              clear hd hu
              have hjl := HY.out.2.2
              go_simp
              first | exact HR.out _ _ (Below.refl _ _) rfl | (rw [if_pos ⟨by omega, by omega⟩]; exact HR.out _ _ (Below.refl _ _) rfl)
            case s3 =>
              refine Grow.step_in (by rfl) (by rfl) ?_
              intro E W ec eg ef hG hd hu R HR
              have e80 : E (.tmp 80) = .pointer (some ⟨g, o + m * 32, none⟩) := hd 2 80 (by kernel_rfl)
              clear hd hu
              exact runs_load_at 49 (.tmp 80) rfl ⟨g, o + m * 32, none⟩ e80 IS (fun a v hv => by have hh := HC.out.2 a v hv; rw [add_plain] at hh ⊢; exact (hG.cell (p := ⟨_, _, none⟩) HC.out.1).trans hh) Tryd.underlying49 (by rw [HY.out.1]; exact id_info) (HR.out _ _ (Below.refl _ _) rfl)
            case s4 =>
              refine Grow.step_in (by rfl) (by rfl) ?_
              intro E W ec eg ef hG hd hu R HR
              have e5 : E (.tmp 5) = .slice (some ⟨g1, o1, none⟩) j c := hu 5 (by kernel_rfl)
              clear hd hu
              go_simp
              exact HR.out _ _ (Below.refl _ _) rfl
            case s5 =>
              refine Grow.step_in (by rfl) (by rfl) ?_
              intro E W ec eg ef hG hd hu R HR
              have e9 : E (.tmp 9) = .int .i64 (m : Int) := hu 9 (by kernel_rfl)
              clear hd hu
              go_simp
              exact HR.out _ _ (Below.refl _ _) rfl
            case s6 =>
              refine Grow.step_in (by rfl) (by rfl) ?_
              intro E W ec eg ef hG hd hu R HR
              have e82 : E (.tmp 82) = .slice (some ⟨g1, o1, none⟩) j c := hd 4 82 (by kernel_rfl)
              have e83 : E (.tmp 83) = .int .i64 (m : Int) := hd 5 83 (by kernel_rfl)
              clear hd hu
              have hjl := HY.out.2.2
              go_simp
              first | exact HR.out _ _ (Below.refl _ _) rfl | (rw [if_pos ⟨by omega, by omega⟩]; exact HR.out _ _ (Below.refl _ _) rfl)
            case s7 =>
              refine Grow.step_in (by rfl) (by rfl) ?_
              intro E W ec eg ef hG hd hu R HR
              have e84 : E (.tmp 84) = .pointer (some ⟨g1, o1 + m * 32, none⟩) := hd 6 84 (by kernel_rfl)
              clear hd hu
              exact runs_load_at 49 (.tmp 84) rfl ⟨g1, o1 + m * 32, none⟩ e84 JS (fun a v hv => by have hh := HC1.out.2 a v hv; rw [add_plain] at hh ⊢; exact (hG.cell (p := ⟨_, _, none⟩) HC1.out.1).trans hh) Tryd.underlying49 (by rw [HY.out.2.1]; exact id_info) (HR.out _ _ (Below.refl _ _) rfl)
            case s8 =>
              refine Grow.step_in (by rfl) (by rfl) ?_
              intro E W ec eg ef hG hd hu R HR
              have e81 : E (.tmp 81) = .agg IS := hd 3 81 (by kernel_rfl)
              have e85 : E (.tmp 85) = .agg JS := hd 7 85 (by kernel_rfl)
              clear hd hu
              have hq := HEQ.out
              go_simp
              exact HR.out _ _ (Below.refl _ _) rfl
          case gfin =>
            intro W hG
            refine Grow.fin_dst (by rfl) ?_
            rintro _ rfl
            refine Grow.fin_dst (by rfl) ?_
            rintro _ rfl
            refine Grow.fin_dst (by rfl) ?_
            rintro _ rfl
            refine Grow.fin_dst (by rfl) ?_
            rintro _ rfl
            refine Grow.fin_dst (by rfl) ?_
            rintro _ rfl
            refine Grow.fin_dst (by rfl) ?_
            rintro _ rfl
            refine Grow.fin_dst (by rfl) ?_
            rintro _ rfl
            refine Grow.fin_dst (by rfl) ?_
            rintro _ rfl
            refine Grow.fin_dst (by rfl) ?_
            rintro _ rfl
            simp only [Act.put, List.setIfInBounds_toArray, List.set_cons_zero, List.set_cons_succ]
            refine Grow.fin_end ?_
            have HB3 : Hid (Below w7.heap.size w7 W) := Lib.hid (HBM.out.trans ((Grow.below_of_drew hG).mono HBM.out.size))
            clear hG
            go_wp2_with fail
            go_roundw
            case rel => exact ⟨m + 1, by have := HY.out.2.2; omega, by simp, HB3.out⟩
            case measure => have := HY.out.2.2; simp only [intOf]; omega
        · have hlt' : ¬ (m : Int) < (j : Int) := by omega
          have HBM := Lib.hid hbm
          clear hbm hlt hm
          go_wp2_with fail
          go_ret
          exact ⟨rfl, HR7.out.2.2.trans (HBM.out.mono HR7.out.2.2.size)⟩
end Go.Proofs.YtmakpjcgiiljfaaDoor
