/-
  Objects: what is checked of each kind.
  Objects: Check.
  A codec.Writer that writes within blocks of S, from a world on.
-/
import Derived.Test.YtmakpjcgiiljfaaDoorPk07
import Derived.Test.YtmakpjcgiiljfaaDoorPk08
import Derived.Carry
import Derived.MapKept
/-! Objects: what is checked of each kind. -/
namespace Go.Proofs.YtmakpjcgiiljfaaDoor
open Go.RowKit Codec

set_option maxHeartbeats 4000000 in
set_option maxRecDepth 100000 in
theorem piece_any {w : World} {S : Nat → Prop} {p : At} {x : Ob} (h : Obm w S p x) :
    Calls Tryd.prog 40 #[.agg (obV p x)] w fun e w' => e = .returned (.bool x.piece) ∧ Below w.heap.size w w' := by
  have hlb := h.b.len
  have hli := h.o.ids.len
  have hle := h.o.es.len
  have hls := st_size x.lb
  unfold Ob.piece
  obtain ⟨A, n, c, IA, i, ic, EA, m, mc⟩ := p
  obtain ⟨k, b, z, ids, es, lb⟩ := x
  simp only at hlb hli hle hls ⊢
  have hbl : Below w.heap.size w (w.alloc (.cells (obV ⟨none, 0, 0, IA, i, ic, EA, m, mc⟩ ⟨k, [], z, ids, es, lb⟩) 27)) := (Below.refl _ _).alloc (Nat.le_refl _) _
  have hbl0 : Below w.heap.size w (w.alloc (.cells (obV ⟨A, n, c, IA, i, ic, EA, m, mc⟩ ⟨k, b, z, ids, es, lb⟩) 27)) := (Below.refl _ _).alloc (Nat.le_refl _) _
  have ho : Obm (w.alloc (.cells (obV ⟨none, 0, 0, IA, i, ic, EA, m, mc⟩ ⟨k, [], z, ids, es, lb⟩) 27)) S ⟨none, 0, 0, IA, i, ic, EA, m, mc⟩ ⟨k, [], z, ids, es, lb⟩ :=
    have h1 := h.o.below hbl
    ⟨⟨⟨h1.wf.k, h1.wf.z, h1.wf.ids, h1.wf.es⟩, h1.lb, h1.nm, by simp, h1.ids, h1.es⟩, Byt.nil _ _ _ _ (Nat.zero_le _)⟩
  have hno := nothing_any ho
  have HB := Lib.hid hbl
  clear h hbl ho
  unfold obV at HB hbl0 hno ⊢
  simp only at HB hbl0 hno ⊢
  have HB0 := Lib.hid hbl0
  clear hbl0
  rw [hlb]
  clear hli hle hls hlb
  by_cases h1 : n ≤ 32768
  · have h1' : (n : Int) ≤ 32768 := by omega
    rw [decide_eq_true h1]
    clear h1
    go_enter Tryd.func40, Tryd.ntmps40
    go_wp2_with (go_at_call 52; refine hno.mono ?_; clear hno; rintro _ w2 ⟨rfl, hb2⟩)
    go_ret
    exact ⟨by simp, HB.out.trans (hb2.mono HB.out.size)⟩
  · have h1' : ¬ (n : Int) ≤ 32768 := by omega
    rw [decide_eq_false h1]
    clear h1 hno
    go_enter Tryd.func40, Tryd.ntmps40
    go_wp2_with fail
    go_ret
    exact ⟨by simp, HB.out⟩
set_option maxHeartbeats 4000000 in
set_option maxRecDepth 100000 in
theorem list_any {w : World} {S : Nat → Prop} {p : At} {x : Ob} (h : Obm w S p x) :
    Calls Tryd.prog 41 #[.agg (obV p x)] w fun e w' => e = .returned (.bool x.list) ∧ Below w.heap.size w w' := by
  have hlb := h.b.len
  have hli := h.o.ids.len
  have hle := h.o.es.len
  have hls := st_size x.lb
  unfold Ob.list
  obtain ⟨A, n, c, IA, i, ic, EA, m, mc⟩ := p
  obtain ⟨k, b, z, ids, es, lb⟩ := x
  simp only at hlb hli hle hls ⊢
  have hbl : Below w.heap.size w (w.alloc (.cells (obV ⟨A, n, c, none, 0, 0, EA, m, mc⟩ ⟨k, b, 0, [], es, lb⟩) 27)) := (Below.refl _ _).alloc (Nat.le_refl _) _
  have hbl0 : Below w.heap.size w (w.alloc (.cells (obV ⟨A, n, c, IA, i, ic, EA, m, mc⟩ ⟨k, b, z, ids, es, lb⟩) 27)) := (Below.refl _ _).alloc (Nat.le_refl _) _
  have ho : Obm (w.alloc (.cells (obV ⟨A, n, c, none, 0, 0, EA, m, mc⟩ ⟨k, b, 0, [], es, lb⟩) 27)) S ⟨A, n, c, none, 0, 0, EA, m, mc⟩ ⟨k, b, 0, [], es, lb⟩ :=
    have h1 := h.o.below hbl
    ⟨⟨⟨h1.wf.k, by simp, (fun _ h => by cases h), h1.wf.es⟩, h1.lb, h1.nm, h1.bl, Ids.nil _ _ _ _ (Nat.zero_le _), h1.es⟩, h.b.below hbl⟩
  have hno := nothing_any ho
  have HB := Lib.hid hbl
  clear h hbl ho
  unfold obV at HB hbl0 hno ⊢
  simp only at HB hbl0 hno ⊢
  have HB0 := Lib.hid hbl0
  clear hbl0
  rw [hli]
  clear hli hle hls hlb
  have e1 := cast_zero i
  have e2 := cast_zero z
  by_cases h1 : i ≤ 1000
  · have h1' : (i : Int) ≤ 1000 := by omega
    rw [decide_eq_true h1]
    by_cases h2 : z ≤ 1048576
    · have h2' : (z : Int) ≤ 1048576 := by omega
      rw [decide_eq_true h2]
      clear h1 h2
      by_cases h3 : i = 0
      · rw [decide_eq_true h3] at e1 ⊢
        by_cases h4 : z = 0
        · rw [decide_eq_true h4] at e2 ⊢
          clear h3 h4
          go_enter Tryd.func41, Tryd.ntmps41
          go_wp2_with (go_at_call 52; refine hno.mono ?_; clear hno; rintro _ w2 ⟨rfl, hb2⟩)
          go_ret
          exact ⟨by simp, HB.out.trans (hb2.mono HB.out.size)⟩
        · rw [decide_eq_false h4] at e2 ⊢
          clear h3 h4 hno
          go_enter Tryd.func41, Tryd.ntmps41
          go_wp2_with fail
          go_ret
          exact ⟨by simp, HB.out⟩
      · rw [decide_eq_false h3] at e1 ⊢
        by_cases h4 : z = 0
        · rw [decide_eq_true h4] at e2 ⊢
          clear h3 h4 hno
          go_enter Tryd.func41, Tryd.ntmps41
          go_wp2_with fail
          go_ret
          exact ⟨by simp, HB.out⟩
        · rw [decide_eq_false h4] at e2 ⊢
          clear h3 h4
          go_enter Tryd.func41, Tryd.ntmps41
          go_wp2_with (go_at_call 52; refine hno.mono ?_; clear hno; rintro _ w2 ⟨rfl, hb2⟩)
          go_ret
          exact ⟨by simp, HB.out.trans (hb2.mono HB.out.size)⟩
    · have h2' : ¬ (z : Int) ≤ 1048576 := by omega
      rw [decide_eq_false h2]
      clear h1 h2 hno e1 e2
      go_enter Tryd.func41, Tryd.ntmps41
      go_wp2_with fail
      go_ret
      exact ⟨by simp, HB.out⟩
  · have h1' : ¬ (i : Int) ≤ 1000 := by omega
    rw [decide_eq_false h1]
    clear h1 hno e1 e2
    go_enter Tryd.func41, Tryd.ntmps41
    go_wp2_with fail
    go_ret
    exact ⟨by simp, HB.out⟩
set_option maxHeartbeats 4000000 in
set_option maxRecDepth 100000 in
theorem dir_any {w : World} {S : Nat → Prop} {p : At} {x : Ob} (h : Obm w S p x) :
    Calls Tryd.prog 42 #[.agg (obV p x)] w fun e w' => e = .returned (.bool x.dir) ∧ Below w.heap.size w w' := by
  have hlb := h.b.len
  have hli := h.o.ids.len
  have hle := h.o.es.len
  have hls := st_size x.lb
  unfold Ob.dir
  obtain ⟨A, n, c, IA, i, ic, EA, m, mc⟩ := p
  obtain ⟨k, b, z, ids, es, lb⟩ := x
  simp only at hlb hli hle hls ⊢
  have hbl : Below w.heap.size w (w.alloc (.cells (obV ⟨A, n, c, IA, i, ic, none, 0, 0⟩ ⟨k, b, z, ids, [], lb⟩) 27)) := (Below.refl _ _).alloc (Nat.le_refl _) _
  have hbl0 : Below w.heap.size w (w.alloc (.cells (obV ⟨A, n, c, IA, i, ic, EA, m, mc⟩ ⟨k, b, z, ids, es, lb⟩) 27)) := (Below.refl _ _).alloc (Nat.le_refl _) _
  have ho : Obm (w.alloc (.cells (obV ⟨A, n, c, IA, i, ic, none, 0, 0⟩ ⟨k, b, z, ids, [], lb⟩) 27)) S ⟨A, n, c, IA, i, ic, none, 0, 0⟩ ⟨k, b, z, ids, [], lb⟩ :=
    have h1 := h.o.below hbl
    ⟨⟨⟨h1.wf.k, h1.wf.z, h1.wf.ids, (fun _ h => by cases h)⟩, h1.lb, (fun _ h => by cases h), h1.bl, h1.ids, Ens.nil _ _ _ _ (Nat.zero_le _)⟩, h.b.below hbl⟩
  have hno := nothing_any ho
  have HB := Lib.hid hbl
  have HE := Lib.hid h.o.es
  have HN := Lib.hid h.o.nm
  have HO : Hid (Obm w S ⟨A, n, c, IA, i, ic, none, 0, 0⟩ ⟨k, b, z, ids, [], lb⟩) := Lib.hid ⟨⟨⟨h.o.wf.k, h.o.wf.z, h.o.wf.ids, (fun _ h => by cases h)⟩, h.o.lb, (fun _ h => by cases h), h.o.bl, h.o.ids, Ens.nil _ _ _ _ (Nat.zero_le _)⟩, h.b⟩
  clear h hbl ho
  unfold obV at HB hbl0 hno ⊢
  simp only at HB hbl0 hno ⊢
  have HB0 := Lib.hid hbl0
  clear hbl0
  rw [hle]
  clear hli hls hlb hle
  by_cases h1 : m ≤ 500
  · have h1' : (m : Int) ≤ 500 := by omega
    rw [decide_eq_true h1]
    have hri := rise_any (HE.out.below HB0.out) (show m ≤ 100000000 by omega) HN.out
    obtain ⟨RB, hRB⟩ : ∃ RB, RB = riseE es := ⟨_, rfl⟩
    rw [← hRB] at hri ⊢
    clear h1 hRB
    cases RB
    · clear hno HO
      go_enter Tryd.func42, Tryd.ntmps42
      go_upto_region 2 with (go_at_call 53; refine hri.mono ?_; clear hri; rintro _ w1 ⟨rfl, hb1⟩)
      have HR := Lib.hid ((hb1.block w.heap.size (by simp)).trans (heap_alloc_new w _))
      have HB1 := Lib.hid (HB0.out.trans (hb1.mono HB0.out.size))
      have hs1 : w.heap.size < w1.heap.size := lt_of_cells HR.out
      have hf := free_of_cells HR.out 4
      have hc4 : w1.cell? ⟨w.heap.size, 4, none⟩ = some (.slice EA m mc) := (cell_of_cells HR.out 4).trans rfl
      clear hb1
      go_wp2_with fail
      go_ret
      exact ⟨by simp, HB1.out.setCell (Nat.le_refl _) _⟩
    · clear hno
      go_enter Tryd.func42, Tryd.ntmps42
      go_upto_region 2 with (go_at_call 53; refine hri.mono ?_; clear hri; rintro _ w1 ⟨rfl, hb1⟩)
      have HR := Lib.hid ((hb1.block w.heap.size (by simp)).trans (heap_alloc_new w _))
      have HB1 := Lib.hid (HB0.out.trans (hb1.mono HB0.out.size))
      have hs1 : w.heap.size < w1.heap.size := lt_of_cells HR.out
      have hf := free_of_cells HR.out 4
      have hc4 : w1.cell? ⟨w.heap.size, 4, none⟩ = some (.slice EA m mc) := (cell_of_cells HR.out 4).trans rfl
      clear hb1
      go_upto_region 3 with fail
      have hset := set_of_cells HR.out 4 (.slice none 0 0)
      have hb2 : Below w.heap.size w (w1.setCell ⟨w.heap.size, 4, none⟩ (.slice none 0 0)) := HB1.out.setCell (Nat.le_refl _) _
      have HS := Lib.hid (And.intro hset hb2)
      have hno := nothing_any (HO.out.below hb2)
      clear hset hb2 hf hs1 hc4
      generalize w1.setCell ⟨w.heap.size, 4, none⟩ (.slice none 0 0) = w3 at *
      unfold obV at hno
      simp only at hno
      obtain ⟨CS, hCS⟩ : ∃ CS : Array Value, CS = #[.int .u8 (k : Int), .slice A n c, .int .u64 (z : Int), .slice IA i ic, .slice none 0 0, .string (st lb)] := ⟨_, rfl⟩
      rw [← hCS] at hno
      have HCS : Hid (w3.heap[w.heap.size]? = some (.cells CS 27 (0, 0)) ∧ CS.size = 6) := Lib.hid ⟨by rw [hCS]; exact HS.out.1, by rw [hCS]; rfl⟩
      clear hCS
      go_wp2_with (first
        | (refine wpList_load_row_on (by rfl) 27 (.tmp 1) (by rfl) w.heap.size (by rfl) 27 CS (0, 0) _ HCS.out.1 Tryd.underlying27 (by rfl) (by rw [HCS.out.2]; exact ob_info) ?_)
        | (go_at_call 52; refine hno.mono ?_; clear hno; rintro _ w4 ⟨rfl, hb4⟩))
      go_ret
      exact ⟨by simp, HS.out.2.trans (hb4.mono HS.out.2.size)⟩
  · have h1' : ¬ (m : Int) ≤ 500 := by omega
    rw [decide_eq_false h1]
    clear h1 hno HO
    go_enter Tryd.func42, Tryd.ntmps42
    go_wp2_with fail
    go_ret
    exact ⟨by simp, HB.out⟩
set_option maxHeartbeats 4000000 in
set_option maxRecDepth 100000 in
theorem snap_any {w : World} {S : Nat → Prop} {p : At} {x : Ob} (h : Obm w S p x) :
    Calls Tryd.prog 43 #[.agg (obV p x)] w fun e w' => e = .returned (.bool x.snap) ∧ Below w.heap.size w w' := by
  have hlb := h.b.len
  have hli := h.o.ids.len
  have hle := h.o.es.len
  have hls := st_size x.lb
  unfold Ob.snap
  obtain ⟨A, n, c, IA, i, ic, EA, m, mc⟩ := p
  obtain ⟨k, b, z, ids, es, lb⟩ := x
  simp only at hlb hli hle hls ⊢
  have hbl : Below w.heap.size w (w.alloc (.cells (obV ⟨A, n, c, none, 0, 0, EA, m, mc⟩ ⟨k, b, 0, [], es, []⟩) 27)) := (Below.refl _ _).alloc (Nat.le_refl _) _
  have hbl0 : Below w.heap.size w (w.alloc (.cells (obV ⟨A, n, c, IA, i, ic, EA, m, mc⟩ ⟨k, b, z, ids, es, lb⟩) 27)) := (Below.refl _ _).alloc (Nat.le_refl _) _
  have ho : Obm (w.alloc (.cells (obV ⟨A, n, c, none, 0, 0, EA, m, mc⟩ ⟨k, b, 0, [], es, []⟩) 27)) S ⟨A, n, c, none, 0, 0, EA, m, mc⟩ ⟨k, b, 0, [], es, []⟩ :=
    have h1 := h.o.below hbl
    ⟨⟨⟨h1.wf.k, by simp, (fun _ h => by cases h), h1.wf.es⟩, by simp, h1.nm, h1.bl, Ids.nil _ _ _ _ (Nat.zero_le _), h1.es⟩, h.b.below hbl⟩
  have hno := nothing_any ho
  have HB := Lib.hid hbl
  clear h hbl ho
  unfold obV at HB hbl0 hno ⊢
  simp only at HB hbl0 hno ⊢
  have HB0 := Lib.hid hbl0
  clear hbl0
  rw [hli]
  obtain ⟨L, hL⟩ : ∃ L, L = lb.length := ⟨_, rfl⟩
  rw [← hL] at hls ⊢
  clear hli hle hlb hL
  by_cases h1 : i = 1
  · have h1' : ((i : Int) == 1) = true := by rw [h1]; rfl
    rw [decide_eq_true h1]
    clear h1
    by_cases h2 : L ≤ 255
    · have h2' : (L : Int) ≤ 255 := by omega
      rw [decide_eq_true h2]
      clear h2
      go_enter Tryd.func43, Tryd.ntmps43
      go_wp2_with (go_at_call 52; refine hno.mono ?_; clear hno; rintro _ w2 ⟨rfl, hb2⟩)
      go_ret
      exact ⟨by simp, HB.out.trans (hb2.mono HB.out.size)⟩
    · have h2' : ¬ (L : Int) ≤ 255 := by omega
      rw [decide_eq_false h2]
      clear h2 hno
      go_enter Tryd.func43, Tryd.ntmps43
      go_wp2_with fail
      go_ret
      exact ⟨by simp, HB.out⟩
  · have h1' : ((i : Int) == 1) = false := by simp; omega
    rw [decide_eq_false h1]
    clear h1 hno
    go_enter Tryd.func43, Tryd.ntmps43
    go_wp2_with fail
    go_ret
    exact ⟨by simp, HB.out⟩
end Go.Proofs.YtmakpjcgiiljfaaDoor

/-! Objects: Check. -/
namespace Go.Proofs.YtmakpjcgiiljfaaDoor
open Go.RowKit Codec

def fnV (k : FuncId) : Value := .func (.func k) #[] #[]
def k1V : Value := fnV 40
def k2V : Value := fnV 41
def k3V : Value := fnV 42
def k4V : Value := fnV 43
theorem heap_of_alloc (w : World) (o : Obj) : (w.alloc o).heap = w.heap.push o := rfl
/-- What is checked of each kind, in a map. -/
def kindsM : Array MapEntry := #[⟨.int .u8 1, k1V, 0⟩, ⟨.int .u8 2, k2V, 1⟩, ⟨.int .u8 3, k3V, 2⟩, ⟨.int .u8 4, k4V, 3⟩]
theorem run_insert (w : World) (es : Array MapEntry) (cl : Nat) (k : Int) (v : Value) (hf : Instr.findNow (.int .u8) (.int .u8 k) es.toList 0 = some none) :
    (Instr.mapUpdate 65 (.map (some w.heap.size)) (.int .u8 k) v).run Tryd.prog (w.alloc (.map es cl)) = .ok () (w.alloc (.map (es.push ⟨.int .u8 k, v, cl⟩) (cl + 1))) := by
  have hb : (w.alloc (.map es cl)).heap[w.heap.size]? = some (.map es cl) := heap_alloc_new w _
  have hu := Tryd.underlying5
  have hc : (Instr.checkKey false 10000 5 (.int .u8 k)).run Tryd.prog (w.alloc (.map es cl)) = .ok () (w.alloc (.map es cl)) := MapKept.run_checkKey (k := .int .u8 k) hu (by simp [MapKept.IsKey]) false 9999
  have hset : ({ w.alloc (.map es cl) with heap := (w.alloc (.map es cl)).heap.setIfInBounds w.heap.size (.map (es.push ⟨.int .u8 k, v, cl⟩) (cl + 1)) } : World) = w.alloc (.map (es.push ⟨.int .u8 k, v, cl⟩) (cl + 1)) := by
    have hh : (w.alloc (.map es cl)).heap.setIfInBounds w.heap.size (.map (es.push ⟨.int .u8 k, v, cl⟩) (cl + 1)) = (w.alloc (.map (es.push ⟨.int .u8 k, v, cl⟩) (cl + 1))).heap := by
      rw [heap_of_alloc, heap_of_alloc]
      apply Array.toList_inj.1
      rw [Array.toList_setIfInBounds, Array.toList_push, Array.toList_push, List.set_append_right _ _ (by simp)]
      simp
    rw [hh]
    rfl
  simp [Instr.mapUpdate, run_underlying Tryd.underlying65, MapKept.run_getObj_map hb, hc, MapKept.run_findKey hu hf, MapKept.run_setObj_map _ hb, Result.andThen]
  exact hset
set_option maxRecDepth 100000 in
theorem needs_any (w : World) : Calls Tryd.prog 27 #[] w fun e w' => e = .returned (.map (some w.heap.size)) ∧ w' = w.alloc (.map kindsM 4) := by
  have hmm := @run_makeMap Tryd.prog
  have h1 : (Instr.mapUpdate 65 (.map (some w.heap.size)) (.int .u8 1) (fnV 40)).run Tryd.prog (w.alloc (.map #[] 0)) = .ok () (w.alloc (.map #[⟨.int .u8 1, fnV 40, 0⟩] 1)) := run_insert w _ _ _ _ rfl
  have h2 : (Instr.mapUpdate 65 (.map (some w.heap.size)) (.int .u8 2) (fnV 41)).run Tryd.prog (w.alloc (.map #[⟨.int .u8 1, fnV 40, 0⟩] 1)) = .ok () (w.alloc (.map #[⟨.int .u8 1, fnV 40, 0⟩, ⟨.int .u8 2, fnV 41, 1⟩] 2)) := run_insert w _ _ _ _ rfl
  have h3 : (Instr.mapUpdate 65 (.map (some w.heap.size)) (.int .u8 3) (fnV 42)).run Tryd.prog (w.alloc (.map #[⟨.int .u8 1, fnV 40, 0⟩, ⟨.int .u8 2, fnV 41, 1⟩] 2)) = .ok () (w.alloc (.map #[⟨.int .u8 1, fnV 40, 0⟩, ⟨.int .u8 2, fnV 41, 1⟩, ⟨.int .u8 3, fnV 42, 2⟩] 3)) := run_insert w _ _ _ _ rfl
  have h4 : (Instr.mapUpdate 65 (.map (some w.heap.size)) (.int .u8 4) (fnV 43)).run Tryd.prog (w.alloc (.map #[⟨.int .u8 1, fnV 40, 0⟩, ⟨.int .u8 2, fnV 41, 1⟩, ⟨.int .u8 3, fnV 42, 2⟩] 3)) = .ok () (w.alloc (.map #[⟨.int .u8 1, fnV 40, 0⟩, ⟨.int .u8 2, fnV 41, 1⟩, ⟨.int .u8 3, fnV 42, 2⟩, ⟨.int .u8 4, fnV 43, 3⟩] 4)) := run_insert w _ _ _ _ rfl
  unfold fnV at h1 h2 h3 h4
  go_enter Tryd.func27, Tryd.ntmps27
  go_wp2_with fail
  go_ret
  exact ⟨rfl, rfl⟩
theorem run_kind (w : World) (r : Nat) (cl : Nat) (k : Nat) (hb : w.heap[r]? = some (.map kindsM cl)) :
    (Instr.lookup 65 (.map (some r)) (.int .u8 (k : Int)) true).run Tryd.prog w = .ok (.tuple (if k = 1 then #[k1V, .bool true] else if k = 2 then #[k2V, .bool true] else if k = 3 then #[k3V, .bool true] else if k = 4 then #[k4V, .bool true] else #[.nilFunc, .bool false])) w := by
  have hu := Tryd.underlying5
  have hc : (Instr.checkKey false 10000 5 (.int .u8 (k : Int))).run Tryd.prog w = .ok () w := MapKept.run_checkKey (k := .int .u8 k) hu (by simp [MapKept.IsKey]) false 9999
  have hf : ∃ a, Instr.findNow (.int .u8) (.int .u8 (k : Int)) kindsM.toList 0 = some a ∧ (match a with | some (_, v) => #[v, .bool true] | none => #[.nilFunc, .bool false]) = (if k = 1 then #[k1V, .bool true] else if k = 2 then #[k2V, .bool true] else if k = 3 then #[k3V, .bool true] else if k = 4 then #[k4V, .bool true] else #[.nilFunc, .bool false]) := by
    by_cases h1 : k = 1
    · subst h1; exact ⟨some (0, k1V), rfl, rfl⟩
    by_cases h2 : k = 2
    · subst h2; exact ⟨some (1, k2V), rfl, rfl⟩
    by_cases h3 : k = 3
    · subst h3; exact ⟨some (2, k3V), rfl, rfl⟩
    by_cases h4 : k = 4
    · subst h4; exact ⟨some (3, k4V), rfl, rfl⟩
    have e1 : ((k : Int) == 1) = false := by simp; omega
    have e2 : ((k : Int) == 2) = false := by simp; omega
    have e3 : ((k : Int) == 3) = false := by simp; omega
    have e4 : ((k : Int) == 4) = false := by simp; omega
    refine ⟨none, ?_, by rw [if_neg h1, if_neg h2, if_neg h3, if_neg h4]⟩
    simp [kindsM, Instr.findNow, Instr.sameNow, e1, e2, e3, e4]
  obtain ⟨a, hf, he⟩ := hf
  rw [← he]
  have hempty : kindsM.isEmpty = false := rfl
  cases a with
  | none => simp [Instr.lookup, run_underlying Tryd.underlying65, MapKept.run_getObj_map hb, hempty, hc, MapKept.run_findKey hu hf, Result.andThen]
  | some q => obtain ⟨i, v⟩ := q; simp [Instr.lookup, run_underlying Tryd.underlying65, MapKept.run_getObj_map hb, hempty, hc, MapKept.run_findKey hu hf, Result.andThen]
set_option maxHeartbeats 8000000 in
set_option maxRecDepth 100000 in
theorem check1 {w : World} {S : Nat → Prop} {p : At} {x : Ob} (h : Obm w S p x) (hk : x.k = 1) :
    Calls Tryd.prog 12 #[.agg (obV p x)] w fun e w' => e = .returned (.int .i64 (chkO x)) ∧ Below w.heap.size w w' := by
  have hmay : mayO x = x.piece := by unfold mayO; rw [if_pos hk]
  unfold chkO
  rw [hmay]
  have HH := Lib.hid h
  have HBX : Hid (Below w.heap.size w (w.alloc (.cells (obV p x) 27)) ∧ (w.alloc (.cells (obV p x) 27)).heap[w.heap.size]? = some (.cells (obV p x) 27 (0, 0))) := Lib.hid ⟨(Below.refl _ _).alloc (Nat.le_refl _) _, heap_alloc_new w _⟩
  obtain ⟨CS, hCS⟩ : ∃ CS, CS = obV p x := ⟨_, rfl⟩
  rw [← hCS] at HBX ⊢
  obtain ⟨k, hke⟩ : ∃ k, k = x.k := ⟨_, rfl⟩
  rw [← hke] at hk
  have HCS : Hid (CS = obV p x ∧ k = x.k) := Lib.hid ⟨hCS, hke⟩
  have HCK : Hid (∀ W, Below (w.alloc (.cells CS 27)).drew.heap.size (w.alloc (.cells CS 27)).drew W → W.cell? ⟨w.heap.size, 0, none⟩ = some (.int .u8 (k : Int))) := Lib.hid fun W hW => by
    rw [(Grow.below_of_drew hW).cell (p := ⟨w.heap.size, 0, none⟩) (lt_of_cells HBX.out.2), cell_of_cells HBX.out.2, HCS.out.1, HCS.out.2]
    rfl
  have HK : Hid (k = 1) := Lib.hid (by omega)
  clear h hmay hCS hke hk
  obtain ⟨R, hR⟩ : ∃ R, R = x.piece := ⟨_, rfl⟩
  rw [← hR]
  have HR0 := Lib.hid hR
  clear hR
  go_enter Tryd.func12, Tryd.ntmps12
  go_upto_region 1 with fail
  refine wp_region_grow (fun W W' => Below W.heap.size W W') (Grow.nth [fun v W => ∃ r, v = .map (some r) ∧ W.heap[r]? = some (.map kindsM 4), fun v _ => v = .pointer (some ⟨w.heap.size, 0, none⟩), fun v _ => v = .int .u8 (k : Int), fun v _ => v = .tuple #[.func (.func 40) #[] #[], .bool true], fun v _ => v = .tuple #[.func (.func 40) #[] #[], .bool true], fun v _ => v = .func (.func 40) #[] #[], fun v _ => v = .bool true, fun v _ => v = .func (.func 40) #[] #[], fun v _ => v = .bool true]) 20 (by kernel_rfl) (by kernel_rfl) (by rfl) (fun W => Below.refl _ W) (fun _ _ _ h1 h2 => h1.trans (h2.mono h1.size)) (Grow.mono_nth ?gmono) ?gsteps ?gfin
  case gmono => exact ⟨fun _ _ _ ⟨r, h1, h2⟩ hg => ⟨r, h1, (hg.block r (Array.getElem?_eq_some_iff.1 h2).1).trans h2⟩, fun _ _ _ h _ => h, fun _ _ _ h _ => h, fun _ _ _ h _ => h, fun _ _ _ h _ => h, fun _ _ _ h _ => h, fun _ _ _ h _ => h, fun _ _ _ h _ => h, fun _ _ _ h _ => h, trivial⟩
  case gsteps =>
    show Grow.allBelow _ 9
    refine And.intro ?_ ?s8
    refine And.intro ?_ ?s7
    refine And.intro ?_ ?s6
    refine And.intro ?_ ?s5
    refine And.intro ?_ ?s4
    refine And.intro ?_ ?s3
    refine And.intro ?_ ?s2
    refine And.intro ?_ ?s1
    refine And.intro ?_ ?s0
    exact trivial
    case s0 =>
      refine Grow.step_in (by rfl) (by rfl) ?_
      intro E W ec eg ef hG hd hu R HR
      clear hd hu
      go_simp
      refine (needs_any W).mono ?_
      rintro _ w' ⟨rfl, rfl⟩
      exact ⟨_, rfl, HR.out _ _ ((Below.refl _ _).alloc (Nat.le_refl _) _) ⟨_, rfl, heap_alloc_new W _⟩⟩
    case s1 =>
      refine Grow.step_in (by rfl) (by rfl) ?_
      intro E W ec eg ef hG hd hu R HR
      have e1 : E (.tmp 1) = .pointer (some ⟨w.heap.size, 0, none⟩) := hu 1 (by kernel_rfl)
      clear hd hu
      go_simp
      exact HR.out _ _ (Below.refl _ _) rfl
    case s2 =>
      refine Grow.step_in (by rfl) (by rfl) ?_
      intro E W ec eg ef hG hd hu R HR
      have e7 : E (.tmp 7) = .pointer (some ⟨w.heap.size, 0, none⟩) := hd 1 7 (by kernel_rfl)
      clear hd hu
      have k1 := HCK.out W hG
      go_simp
      exact HR.out _ _ (Below.refl _ _) rfl
    case s3 =>
      refine Grow.step_in (by rfl) (by rfl) ?_
      intro E W ec eg ef hG hd hu R HR
      have h6 := hd 0 6 (by kernel_rfl)
      have e8 : E (.tmp 8) = .int .u8 (k : Int) := hd 2 8 (by kernel_rfl)
      clear hd hu
      obtain ⟨r, e6, hr⟩ := h6
      have hrun := run_kind W r 4 k hr
      rw [if_pos HK.out] at hrun
      simp [execOp, e6, e8, hrun, Result.andThen, Grow.runsTo]
      exact HR.out _ _ (Below.refl _ _) rfl
    case s4 =>
      refine Grow.step_in (by rfl) (by rfl) ?_
      intro E W ec eg ef hG hd hu R HR
      have e9 : E (.tmp 9) = .tuple #[.func (.func 40) #[] #[], .bool true] := hd 3 9 (by kernel_rfl)
      clear hd hu
      go_simp
      exact HR.out _ _ (Below.refl _ _) rfl
    case s5 =>
      refine Grow.step_in (by rfl) (by rfl) ?_
      intro E W ec eg ef hG hd hu R HR
      have e5 : E (.tmp 5) = .tuple #[.func (.func 40) #[] #[], .bool true] := hd 4 5 (by kernel_rfl)
      clear hd hu
      go_simp
      exact HR.out _ _ (Below.refl _ _) rfl
    case s6 =>
      refine Grow.step_in (by rfl) (by rfl) ?_
      intro E W ec eg ef hG hd hu R HR
      have e5 : E (.tmp 5) = .tuple #[.func (.func 40) #[] #[], .bool true] := hd 4 5 (by kernel_rfl)
      clear hd hu
      go_simp
      exact HR.out _ _ (Below.refl _ _) rfl
    case s7 =>
      refine Grow.step_in (by rfl) (by rfl) ?_
      intro E W ec eg ef hG hd hu R HR
      have e10 : E (.tmp 10) = .func (.func 40) #[] #[] := hd 5 10 (by kernel_rfl)
      clear hd hu
      go_simp
      exact HR.out _ _ (Below.refl _ _) rfl
    case s8 =>
      refine Grow.step_in (by rfl) (by rfl) ?_
      intro E W ec eg ef hG hd hu R HR
      have e11 : E (.tmp 11) = .bool true := hd 6 11 (by kernel_rfl)
      clear hd hu
      go_simp
      exact HR.out _ _ (Below.refl _ _) rfl
  case gfin =>
    intro W hG
    refine Grow.fin_dst (by rfl) ?_
    rintro _ ⟨r6, rfl, hr6⟩
    refine Grow.fin_dst (by rfl) ?_
    rintro _ rfl
    refine Grow.fin_dst (by rfl) ?_
    rintro _ rfl
    refine Grow.fin_dst (by rfl) ?_
    rintro _ rfl
    refine Grow.fin_dst (by rfl) ?_
    rintro _ rfl
    refine Grow.fin_dst (by rfl) ?_
    rintro _ rfl
    refine Grow.fin_dst (by rfl) ?_
    rintro _ rfl
    refine Grow.fin_dst (by rfl) ?_
    rintro _ rfl
    refine Grow.fin_dst (by rfl) ?_
    rintro _ rfl
    simp only [Act.put, List.setIfInBounds_toArray, List.set_cons_zero, List.set_cons_succ]
    refine Grow.fin_end ?_
    have HG := Lib.hid (And.intro (Grow.below_of_drew hG) hr6)
    clear hG hr6
    have HWB : Hid (Below w.heap.size w W) := Lib.hid (HBX.out.1.trans (HG.out.1.mono HBX.out.1.size))
    have HWR : Hid (W.heap[w.heap.size]? = some (.cells CS 27 (0, 0)) ∧ CS.size = 6) := Lib.hid ⟨(HG.out.1.block w.heap.size (lt_of_cells HBX.out.2)).trans HBX.out.2, by rw [HCS.out.1]; rfl⟩
    have hpc := piece_any (HH.out.below HWB.out)
    rw [← HCS.out.1] at hpc
    rw [← HR0.out] at hpc
    clear HR0
    cases R
    all_goals
      go_wp2_with (first
        | (refine wpList_load_row_on (by rfl) 27 (.tmp 1) (by rfl) w.heap.size (by rfl) 27 CS (0, 0) _ HWR.out.1 Tryd.underlying27 (by rfl) (by rw [HWR.out.2]; exact ob_info) ?_)
        | (go_at_call 40; refine hpc.mono ?_; clear hpc; rintro _ w4 ⟨rfl, hb4⟩))
      go_ret
      exact ⟨by simp, HWB.out.trans (hb4.mono HWB.out.size)⟩
set_option maxHeartbeats 8000000 in
set_option maxRecDepth 100000 in
theorem check2 {w : World} {S : Nat → Prop} {p : At} {x : Ob} (h : Obm w S p x) (hk : x.k = 2) (h1 : ¬ x.k = 1) :
    Calls Tryd.prog 12 #[.agg (obV p x)] w fun e w' => e = .returned (.int .i64 (chkO x)) ∧ Below w.heap.size w w' := by
  have hmay : mayO x = x.list := by unfold mayO; rw [if_neg h1, if_pos hk]
  unfold chkO
  rw [hmay]
  have HH := Lib.hid h
  have HBX : Hid (Below w.heap.size w (w.alloc (.cells (obV p x) 27)) ∧ (w.alloc (.cells (obV p x) 27)).heap[w.heap.size]? = some (.cells (obV p x) 27 (0, 0))) := Lib.hid ⟨(Below.refl _ _).alloc (Nat.le_refl _) _, heap_alloc_new w _⟩
  obtain ⟨CS, hCS⟩ : ∃ CS, CS = obV p x := ⟨_, rfl⟩
  rw [← hCS] at HBX ⊢
  obtain ⟨k, hke⟩ : ∃ k, k = x.k := ⟨_, rfl⟩
  rw [← hke] at hk h1
  have HCS : Hid (CS = obV p x ∧ k = x.k) := Lib.hid ⟨hCS, hke⟩
  have HCK : Hid (∀ W, Below (w.alloc (.cells CS 27)).drew.heap.size (w.alloc (.cells CS 27)).drew W → W.cell? ⟨w.heap.size, 0, none⟩ = some (.int .u8 (k : Int))) := Lib.hid fun W hW => by
    rw [(Grow.below_of_drew hW).cell (p := ⟨w.heap.size, 0, none⟩) (lt_of_cells HBX.out.2), cell_of_cells HBX.out.2, HCS.out.1, HCS.out.2]
    rfl
  have HK : Hid (k = 2) := Lib.hid (by omega)
  clear h hmay hCS hke hk h1
  obtain ⟨R, hR⟩ : ∃ R, R = x.list := ⟨_, rfl⟩
  rw [← hR]
  have HR0 := Lib.hid hR
  clear hR
  go_enter Tryd.func12, Tryd.ntmps12
  go_upto_region 1 with fail
  refine wp_region_grow (fun W W' => Below W.heap.size W W') (Grow.nth [fun v W => ∃ r, v = .map (some r) ∧ W.heap[r]? = some (.map kindsM 4), fun v _ => v = .pointer (some ⟨w.heap.size, 0, none⟩), fun v _ => v = .int .u8 (k : Int), fun v _ => v = .tuple #[.func (.func 41) #[] #[], .bool true], fun v _ => v = .tuple #[.func (.func 41) #[] #[], .bool true], fun v _ => v = .func (.func 41) #[] #[], fun v _ => v = .bool true, fun v _ => v = .func (.func 41) #[] #[], fun v _ => v = .bool true]) 20 (by kernel_rfl) (by kernel_rfl) (by rfl) (fun W => Below.refl _ W) (fun _ _ _ h1 h2 => h1.trans (h2.mono h1.size)) (Grow.mono_nth ?gmono) ?gsteps ?gfin
  case gmono => exact ⟨fun _ _ _ ⟨r, h1, h2⟩ hg => ⟨r, h1, (hg.block r (Array.getElem?_eq_some_iff.1 h2).1).trans h2⟩, fun _ _ _ h _ => h, fun _ _ _ h _ => h, fun _ _ _ h _ => h, fun _ _ _ h _ => h, fun _ _ _ h _ => h, fun _ _ _ h _ => h, fun _ _ _ h _ => h, fun _ _ _ h _ => h, trivial⟩
  case gsteps =>
    show Grow.allBelow _ 9
    refine And.intro ?_ ?s8
    refine And.intro ?_ ?s7
    refine And.intro ?_ ?s6
    refine And.intro ?_ ?s5
    refine And.intro ?_ ?s4
    refine And.intro ?_ ?s3
    refine And.intro ?_ ?s2
    refine And.intro ?_ ?s1
    refine And.intro ?_ ?s0
    exact trivial
    case s0 =>
      refine Grow.step_in (by rfl) (by rfl) ?_
      intro E W ec eg ef hG hd hu R HR
      clear hd hu
      go_simp
      refine (needs_any W).mono ?_
      rintro _ w' ⟨rfl, rfl⟩
      exact ⟨_, rfl, HR.out _ _ ((Below.refl _ _).alloc (Nat.le_refl _) _) ⟨_, rfl, heap_alloc_new W _⟩⟩
    case s1 =>
      refine Grow.step_in (by rfl) (by rfl) ?_
      intro E W ec eg ef hG hd hu R HR
      have e1 : E (.tmp 1) = .pointer (some ⟨w.heap.size, 0, none⟩) := hu 1 (by kernel_rfl)
      clear hd hu
      go_simp
      exact HR.out _ _ (Below.refl _ _) rfl
    case s2 =>
      refine Grow.step_in (by rfl) (by rfl) ?_
      intro E W ec eg ef hG hd hu R HR
      have e7 : E (.tmp 7) = .pointer (some ⟨w.heap.size, 0, none⟩) := hd 1 7 (by kernel_rfl)
      clear hd hu
      have k1 := HCK.out W hG
      go_simp
      exact HR.out _ _ (Below.refl _ _) rfl
    case s3 =>
      refine Grow.step_in (by rfl) (by rfl) ?_
      intro E W ec eg ef hG hd hu R HR
      have h6 := hd 0 6 (by kernel_rfl)
      have e8 : E (.tmp 8) = .int .u8 (k : Int) := hd 2 8 (by kernel_rfl)
      clear hd hu
      obtain ⟨r, e6, hr⟩ := h6
      have hrun := run_kind W r 4 k hr
      rw [if_neg (by have := HK.out; omega), if_pos HK.out] at hrun
      simp [execOp, e6, e8, hrun, Result.andThen, Grow.runsTo]
      exact HR.out _ _ (Below.refl _ _) rfl
    case s4 =>
      refine Grow.step_in (by rfl) (by rfl) ?_
      intro E W ec eg ef hG hd hu R HR
      have e9 : E (.tmp 9) = .tuple #[.func (.func 41) #[] #[], .bool true] := hd 3 9 (by kernel_rfl)
      clear hd hu
      go_simp
      exact HR.out _ _ (Below.refl _ _) rfl
    case s5 =>
      refine Grow.step_in (by rfl) (by rfl) ?_
      intro E W ec eg ef hG hd hu R HR
      have e5 : E (.tmp 5) = .tuple #[.func (.func 41) #[] #[], .bool true] := hd 4 5 (by kernel_rfl)
      clear hd hu
      go_simp
      exact HR.out _ _ (Below.refl _ _) rfl
    case s6 =>
      refine Grow.step_in (by rfl) (by rfl) ?_
      intro E W ec eg ef hG hd hu R HR
      have e5 : E (.tmp 5) = .tuple #[.func (.func 41) #[] #[], .bool true] := hd 4 5 (by kernel_rfl)
      clear hd hu
      go_simp
      exact HR.out _ _ (Below.refl _ _) rfl
    case s7 =>
      refine Grow.step_in (by rfl) (by rfl) ?_
      intro E W ec eg ef hG hd hu R HR
      have e10 : E (.tmp 10) = .func (.func 41) #[] #[] := hd 5 10 (by kernel_rfl)
      clear hd hu
      go_simp
      exact HR.out _ _ (Below.refl _ _) rfl
    case s8 =>
      refine Grow.step_in (by rfl) (by rfl) ?_
      intro E W ec eg ef hG hd hu R HR
      have e11 : E (.tmp 11) = .bool true := hd 6 11 (by kernel_rfl)
      clear hd hu
      go_simp
      exact HR.out _ _ (Below.refl _ _) rfl
  case gfin =>
    intro W hG
    refine Grow.fin_dst (by rfl) ?_
    rintro _ ⟨r6, rfl, hr6⟩
    refine Grow.fin_dst (by rfl) ?_
    rintro _ rfl
    refine Grow.fin_dst (by rfl) ?_
    rintro _ rfl
    refine Grow.fin_dst (by rfl) ?_
    rintro _ rfl
    refine Grow.fin_dst (by rfl) ?_
    rintro _ rfl
    refine Grow.fin_dst (by rfl) ?_
    rintro _ rfl
    refine Grow.fin_dst (by rfl) ?_
    rintro _ rfl
    refine Grow.fin_dst (by rfl) ?_
    rintro _ rfl
    refine Grow.fin_dst (by rfl) ?_
    rintro _ rfl
    simp only [Act.put, List.setIfInBounds_toArray, List.set_cons_zero, List.set_cons_succ]
    refine Grow.fin_end ?_
    have HG := Lib.hid (And.intro (Grow.below_of_drew hG) hr6)
    clear hG hr6
    have HWB : Hid (Below w.heap.size w W) := Lib.hid (HBX.out.1.trans (HG.out.1.mono HBX.out.1.size))
    have HWR : Hid (W.heap[w.heap.size]? = some (.cells CS 27 (0, 0)) ∧ CS.size = 6) := Lib.hid ⟨(HG.out.1.block w.heap.size (lt_of_cells HBX.out.2)).trans HBX.out.2, by rw [HCS.out.1]; rfl⟩
    have hpc := list_any (HH.out.below HWB.out)
    rw [← HCS.out.1] at hpc
    rw [← HR0.out] at hpc
    clear HR0
    cases R
    all_goals
      go_wp2_with (first
        | (refine wpList_load_row_on (by rfl) 27 (.tmp 1) (by rfl) w.heap.size (by rfl) 27 CS (0, 0) _ HWR.out.1 Tryd.underlying27 (by rfl) (by rw [HWR.out.2]; exact ob_info) ?_)
        | (go_at_call 41; refine hpc.mono ?_; clear hpc; rintro _ w4 ⟨rfl, hb4⟩))
      go_ret
      exact ⟨by simp, HWB.out.trans (hb4.mono HWB.out.size)⟩
set_option maxHeartbeats 8000000 in
set_option maxRecDepth 100000 in
theorem check3 {w : World} {S : Nat → Prop} {p : At} {x : Ob} (h : Obm w S p x) (hk : x.k = 3) (h1 : ¬ x.k = 1) (h2 : ¬ x.k = 2) :
    Calls Tryd.prog 12 #[.agg (obV p x)] w fun e w' => e = .returned (.int .i64 (chkO x)) ∧ Below w.heap.size w w' := by
  have hmay : mayO x = x.dir := by unfold mayO; rw [if_neg h1, if_neg h2, if_pos hk]
  unfold chkO
  rw [hmay]
  have HH := Lib.hid h
  have HBX : Hid (Below w.heap.size w (w.alloc (.cells (obV p x) 27)) ∧ (w.alloc (.cells (obV p x) 27)).heap[w.heap.size]? = some (.cells (obV p x) 27 (0, 0))) := Lib.hid ⟨(Below.refl _ _).alloc (Nat.le_refl _) _, heap_alloc_new w _⟩
  obtain ⟨CS, hCS⟩ : ∃ CS, CS = obV p x := ⟨_, rfl⟩
  rw [← hCS] at HBX ⊢
  obtain ⟨k, hke⟩ : ∃ k, k = x.k := ⟨_, rfl⟩
  rw [← hke] at hk h1 h2
  have HCS : Hid (CS = obV p x ∧ k = x.k) := Lib.hid ⟨hCS, hke⟩
  have HCK : Hid (∀ W, Below (w.alloc (.cells CS 27)).drew.heap.size (w.alloc (.cells CS 27)).drew W → W.cell? ⟨w.heap.size, 0, none⟩ = some (.int .u8 (k : Int))) := Lib.hid fun W hW => by
    rw [(Grow.below_of_drew hW).cell (p := ⟨w.heap.size, 0, none⟩) (lt_of_cells HBX.out.2), cell_of_cells HBX.out.2, HCS.out.1, HCS.out.2]
    rfl
  have HK : Hid (k = 3) := Lib.hid (by omega)
  clear h hmay hCS hke hk h1 h2
  obtain ⟨R, hR⟩ : ∃ R, R = x.dir := ⟨_, rfl⟩
  rw [← hR]
  have HR0 := Lib.hid hR
  clear hR
  go_enter Tryd.func12, Tryd.ntmps12
  go_upto_region 1 with fail
  refine wp_region_grow (fun W W' => Below W.heap.size W W') (Grow.nth [fun v W => ∃ r, v = .map (some r) ∧ W.heap[r]? = some (.map kindsM 4), fun v _ => v = .pointer (some ⟨w.heap.size, 0, none⟩), fun v _ => v = .int .u8 (k : Int), fun v _ => v = .tuple #[.func (.func 42) #[] #[], .bool true], fun v _ => v = .tuple #[.func (.func 42) #[] #[], .bool true], fun v _ => v = .func (.func 42) #[] #[], fun v _ => v = .bool true, fun v _ => v = .func (.func 42) #[] #[], fun v _ => v = .bool true]) 20 (by kernel_rfl) (by kernel_rfl) (by rfl) (fun W => Below.refl _ W) (fun _ _ _ h1 h2 => h1.trans (h2.mono h1.size)) (Grow.mono_nth ?gmono) ?gsteps ?gfin
  case gmono => exact ⟨fun _ _ _ ⟨r, h1, h2⟩ hg => ⟨r, h1, (hg.block r (Array.getElem?_eq_some_iff.1 h2).1).trans h2⟩, fun _ _ _ h _ => h, fun _ _ _ h _ => h, fun _ _ _ h _ => h, fun _ _ _ h _ => h, fun _ _ _ h _ => h, fun _ _ _ h _ => h, fun _ _ _ h _ => h, fun _ _ _ h _ => h, trivial⟩
  case gsteps =>
    show Grow.allBelow _ 9
    refine And.intro ?_ ?s8
    refine And.intro ?_ ?s7
    refine And.intro ?_ ?s6
    refine And.intro ?_ ?s5
    refine And.intro ?_ ?s4
    refine And.intro ?_ ?s3
    refine And.intro ?_ ?s2
    refine And.intro ?_ ?s1
    refine And.intro ?_ ?s0
    exact trivial
    case s0 =>
      refine Grow.step_in (by rfl) (by rfl) ?_
      intro E W ec eg ef hG hd hu R HR
      clear hd hu
      go_simp
      refine (needs_any W).mono ?_
      rintro _ w' ⟨rfl, rfl⟩
      exact ⟨_, rfl, HR.out _ _ ((Below.refl _ _).alloc (Nat.le_refl _) _) ⟨_, rfl, heap_alloc_new W _⟩⟩
    case s1 =>
      refine Grow.step_in (by rfl) (by rfl) ?_
      intro E W ec eg ef hG hd hu R HR
      have e1 : E (.tmp 1) = .pointer (some ⟨w.heap.size, 0, none⟩) := hu 1 (by kernel_rfl)
      clear hd hu
      go_simp
      exact HR.out _ _ (Below.refl _ _) rfl
    case s2 =>
      refine Grow.step_in (by rfl) (by rfl) ?_
      intro E W ec eg ef hG hd hu R HR
      have e7 : E (.tmp 7) = .pointer (some ⟨w.heap.size, 0, none⟩) := hd 1 7 (by kernel_rfl)
      clear hd hu
      have k1 := HCK.out W hG
      go_simp
      exact HR.out _ _ (Below.refl _ _) rfl
    case s3 =>
      refine Grow.step_in (by rfl) (by rfl) ?_
      intro E W ec eg ef hG hd hu R HR
      have h6 := hd 0 6 (by kernel_rfl)
      have e8 : E (.tmp 8) = .int .u8 (k : Int) := hd 2 8 (by kernel_rfl)
      clear hd hu
      obtain ⟨r, e6, hr⟩ := h6
      have hrun := run_kind W r 4 k hr
      rw [if_neg (by have := HK.out; omega), if_neg (by have := HK.out; omega), if_pos HK.out] at hrun
      simp [execOp, e6, e8, hrun, Result.andThen, Grow.runsTo]
      exact HR.out _ _ (Below.refl _ _) rfl
    case s4 =>
      refine Grow.step_in (by rfl) (by rfl) ?_
      intro E W ec eg ef hG hd hu R HR
      have e9 : E (.tmp 9) = .tuple #[.func (.func 42) #[] #[], .bool true] := hd 3 9 (by kernel_rfl)
      clear hd hu
      go_simp
      exact HR.out _ _ (Below.refl _ _) rfl
    case s5 =>
      refine Grow.step_in (by rfl) (by rfl) ?_
      intro E W ec eg ef hG hd hu R HR
      have e5 : E (.tmp 5) = .tuple #[.func (.func 42) #[] #[], .bool true] := hd 4 5 (by kernel_rfl)
      clear hd hu
      go_simp
      exact HR.out _ _ (Below.refl _ _) rfl
    case s6 =>
      refine Grow.step_in (by rfl) (by rfl) ?_
      intro E W ec eg ef hG hd hu R HR
      have e5 : E (.tmp 5) = .tuple #[.func (.func 42) #[] #[], .bool true] := hd 4 5 (by kernel_rfl)
      clear hd hu
      go_simp
      exact HR.out _ _ (Below.refl _ _) rfl
    case s7 =>
      refine Grow.step_in (by rfl) (by rfl) ?_
      intro E W ec eg ef hG hd hu R HR
      have e10 : E (.tmp 10) = .func (.func 42) #[] #[] := hd 5 10 (by kernel_rfl)
      clear hd hu
      go_simp
      exact HR.out _ _ (Below.refl _ _) rfl
    case s8 =>
      refine Grow.step_in (by rfl) (by rfl) ?_
      intro E W ec eg ef hG hd hu R HR
      have e11 : E (.tmp 11) = .bool true := hd 6 11 (by kernel_rfl)
      clear hd hu
      go_simp
      exact HR.out _ _ (Below.refl _ _) rfl
  case gfin =>
    intro W hG
    refine Grow.fin_dst (by rfl) ?_
    rintro _ ⟨r6, rfl, hr6⟩
    refine Grow.fin_dst (by rfl) ?_
    rintro _ rfl
    refine Grow.fin_dst (by rfl) ?_
    rintro _ rfl
    refine Grow.fin_dst (by rfl) ?_
    rintro _ rfl
    refine Grow.fin_dst (by rfl) ?_
    rintro _ rfl
    refine Grow.fin_dst (by rfl) ?_
    rintro _ rfl
    refine Grow.fin_dst (by rfl) ?_
    rintro _ rfl
    refine Grow.fin_dst (by rfl) ?_
    rintro _ rfl
    refine Grow.fin_dst (by rfl) ?_
    rintro _ rfl
    simp only [Act.put, List.setIfInBounds_toArray, List.set_cons_zero, List.set_cons_succ]
    refine Grow.fin_end ?_
    have HG := Lib.hid (And.intro (Grow.below_of_drew hG) hr6)
    clear hG hr6
    have HWB : Hid (Below w.heap.size w W) := Lib.hid (HBX.out.1.trans (HG.out.1.mono HBX.out.1.size))
    have HWR : Hid (W.heap[w.heap.size]? = some (.cells CS 27 (0, 0)) ∧ CS.size = 6) := Lib.hid ⟨(HG.out.1.block w.heap.size (lt_of_cells HBX.out.2)).trans HBX.out.2, by rw [HCS.out.1]; rfl⟩
    have hpc := dir_any (HH.out.below HWB.out)
    rw [← HCS.out.1] at hpc
    rw [← HR0.out] at hpc
    clear HR0
    cases R
    all_goals
      go_wp2_with (first
        | (refine wpList_load_row_on (by rfl) 27 (.tmp 1) (by rfl) w.heap.size (by rfl) 27 CS (0, 0) _ HWR.out.1 Tryd.underlying27 (by rfl) (by rw [HWR.out.2]; exact ob_info) ?_)
        | (go_at_call 42; refine hpc.mono ?_; clear hpc; rintro _ w4 ⟨rfl, hb4⟩))
      go_ret
      exact ⟨by simp, HWB.out.trans (hb4.mono HWB.out.size)⟩
set_option maxHeartbeats 8000000 in
set_option maxRecDepth 100000 in
theorem check4 {w : World} {S : Nat → Prop} {p : At} {x : Ob} (h : Obm w S p x) (hk : x.k = 4) (h1 : ¬ x.k = 1) (h2 : ¬ x.k = 2) (h3 : ¬ x.k = 3) :
    Calls Tryd.prog 12 #[.agg (obV p x)] w fun e w' => e = .returned (.int .i64 (chkO x)) ∧ Below w.heap.size w w' := by
  have hmay : mayO x = x.snap := by unfold mayO; rw [if_neg h1, if_neg h2, if_neg h3, if_pos hk]
  unfold chkO
  rw [hmay]
  have HH := Lib.hid h
  have HBX : Hid (Below w.heap.size w (w.alloc (.cells (obV p x) 27)) ∧ (w.alloc (.cells (obV p x) 27)).heap[w.heap.size]? = some (.cells (obV p x) 27 (0, 0))) := Lib.hid ⟨(Below.refl _ _).alloc (Nat.le_refl _) _, heap_alloc_new w _⟩
  obtain ⟨CS, hCS⟩ : ∃ CS, CS = obV p x := ⟨_, rfl⟩
  rw [← hCS] at HBX ⊢
  obtain ⟨k, hke⟩ : ∃ k, k = x.k := ⟨_, rfl⟩
  rw [← hke] at hk h1 h2 h3
  have HCS : Hid (CS = obV p x ∧ k = x.k) := Lib.hid ⟨hCS, hke⟩
  have HCK : Hid (∀ W, Below (w.alloc (.cells CS 27)).drew.heap.size (w.alloc (.cells CS 27)).drew W → W.cell? ⟨w.heap.size, 0, none⟩ = some (.int .u8 (k : Int))) := Lib.hid fun W hW => by
    rw [(Grow.below_of_drew hW).cell (p := ⟨w.heap.size, 0, none⟩) (lt_of_cells HBX.out.2), cell_of_cells HBX.out.2, HCS.out.1, HCS.out.2]
    rfl
  have HK : Hid (k = 4) := Lib.hid (by omega)
  clear h hmay hCS hke hk h1 h2 h3
  obtain ⟨R, hR⟩ : ∃ R, R = x.snap := ⟨_, rfl⟩
  rw [← hR]
  have HR0 := Lib.hid hR
  clear hR
  go_enter Tryd.func12, Tryd.ntmps12
  go_upto_region 1 with fail
  refine wp_region_grow (fun W W' => Below W.heap.size W W') (Grow.nth [fun v W => ∃ r, v = .map (some r) ∧ W.heap[r]? = some (.map kindsM 4), fun v _ => v = .pointer (some ⟨w.heap.size, 0, none⟩), fun v _ => v = .int .u8 (k : Int), fun v _ => v = .tuple #[.func (.func 43) #[] #[], .bool true], fun v _ => v = .tuple #[.func (.func 43) #[] #[], .bool true], fun v _ => v = .func (.func 43) #[] #[], fun v _ => v = .bool true, fun v _ => v = .func (.func 43) #[] #[], fun v _ => v = .bool true]) 20 (by kernel_rfl) (by kernel_rfl) (by rfl) (fun W => Below.refl _ W) (fun _ _ _ h1 h2 => h1.trans (h2.mono h1.size)) (Grow.mono_nth ?gmono) ?gsteps ?gfin
  case gmono => exact ⟨fun _ _ _ ⟨r, h1, h2⟩ hg => ⟨r, h1, (hg.block r (Array.getElem?_eq_some_iff.1 h2).1).trans h2⟩, fun _ _ _ h _ => h, fun _ _ _ h _ => h, fun _ _ _ h _ => h, fun _ _ _ h _ => h, fun _ _ _ h _ => h, fun _ _ _ h _ => h, fun _ _ _ h _ => h, fun _ _ _ h _ => h, trivial⟩
  case gsteps =>
    show Grow.allBelow _ 9
    refine And.intro ?_ ?s8
    refine And.intro ?_ ?s7
    refine And.intro ?_ ?s6
    refine And.intro ?_ ?s5
    refine And.intro ?_ ?s4
    refine And.intro ?_ ?s3
    refine And.intro ?_ ?s2
    refine And.intro ?_ ?s1
    refine And.intro ?_ ?s0
    exact trivial
    case s0 =>
      refine Grow.step_in (by rfl) (by rfl) ?_
      intro E W ec eg ef hG hd hu R HR
      clear hd hu
      go_simp
      refine (needs_any W).mono ?_
      rintro _ w' ⟨rfl, rfl⟩
      exact ⟨_, rfl, HR.out _ _ ((Below.refl _ _).alloc (Nat.le_refl _) _) ⟨_, rfl, heap_alloc_new W _⟩⟩
    case s1 =>
      refine Grow.step_in (by rfl) (by rfl) ?_
      intro E W ec eg ef hG hd hu R HR
      have e1 : E (.tmp 1) = .pointer (some ⟨w.heap.size, 0, none⟩) := hu 1 (by kernel_rfl)
      clear hd hu
      go_simp
      exact HR.out _ _ (Below.refl _ _) rfl
    case s2 =>
      refine Grow.step_in (by rfl) (by rfl) ?_
      intro E W ec eg ef hG hd hu R HR
      have e7 : E (.tmp 7) = .pointer (some ⟨w.heap.size, 0, none⟩) := hd 1 7 (by kernel_rfl)
      clear hd hu
      have k1 := HCK.out W hG
      go_simp
      exact HR.out _ _ (Below.refl _ _) rfl
    case s3 =>
      refine Grow.step_in (by rfl) (by rfl) ?_
      intro E W ec eg ef hG hd hu R HR
      have h6 := hd 0 6 (by kernel_rfl)
      have e8 : E (.tmp 8) = .int .u8 (k : Int) := hd 2 8 (by kernel_rfl)
      clear hd hu
      obtain ⟨r, e6, hr⟩ := h6
      have hrun := run_kind W r 4 k hr
      rw [if_neg (by have := HK.out; omega), if_neg (by have := HK.out; omega), if_neg (by have := HK.out; omega), if_pos HK.out] at hrun
      simp [execOp, e6, e8, hrun, Result.andThen, Grow.runsTo]
      exact HR.out _ _ (Below.refl _ _) rfl
    case s4 =>
      refine Grow.step_in (by rfl) (by rfl) ?_
      intro E W ec eg ef hG hd hu R HR
      have e9 : E (.tmp 9) = .tuple #[.func (.func 43) #[] #[], .bool true] := hd 3 9 (by kernel_rfl)
      clear hd hu
      go_simp
      exact HR.out _ _ (Below.refl _ _) rfl
    case s5 =>
      refine Grow.step_in (by rfl) (by rfl) ?_
      intro E W ec eg ef hG hd hu R HR
      have e5 : E (.tmp 5) = .tuple #[.func (.func 43) #[] #[], .bool true] := hd 4 5 (by kernel_rfl)
      clear hd hu
      go_simp
      exact HR.out _ _ (Below.refl _ _) rfl
    case s6 =>
      refine Grow.step_in (by rfl) (by rfl) ?_
      intro E W ec eg ef hG hd hu R HR
      have e5 : E (.tmp 5) = .tuple #[.func (.func 43) #[] #[], .bool true] := hd 4 5 (by kernel_rfl)
      clear hd hu
      go_simp
      exact HR.out _ _ (Below.refl _ _) rfl
    case s7 =>
      refine Grow.step_in (by rfl) (by rfl) ?_
      intro E W ec eg ef hG hd hu R HR
      have e10 : E (.tmp 10) = .func (.func 43) #[] #[] := hd 5 10 (by kernel_rfl)
      clear hd hu
      go_simp
      exact HR.out _ _ (Below.refl _ _) rfl
    case s8 =>
      refine Grow.step_in (by rfl) (by rfl) ?_
      intro E W ec eg ef hG hd hu R HR
      have e11 : E (.tmp 11) = .bool true := hd 6 11 (by kernel_rfl)
      clear hd hu
      go_simp
      exact HR.out _ _ (Below.refl _ _) rfl
  case gfin =>
    intro W hG
    refine Grow.fin_dst (by rfl) ?_
    rintro _ ⟨r6, rfl, hr6⟩
    refine Grow.fin_dst (by rfl) ?_
    rintro _ rfl
    refine Grow.fin_dst (by rfl) ?_
    rintro _ rfl
    refine Grow.fin_dst (by rfl) ?_
    rintro _ rfl
    refine Grow.fin_dst (by rfl) ?_
    rintro _ rfl
    refine Grow.fin_dst (by rfl) ?_
    rintro _ rfl
    refine Grow.fin_dst (by rfl) ?_
    rintro _ rfl
    refine Grow.fin_dst (by rfl) ?_
    rintro _ rfl
    refine Grow.fin_dst (by rfl) ?_
    rintro _ rfl
    simp only [Act.put, List.setIfInBounds_toArray, List.set_cons_zero, List.set_cons_succ]
    refine Grow.fin_end ?_
    have HG := Lib.hid (And.intro (Grow.below_of_drew hG) hr6)
    clear hG hr6
    have HWB : Hid (Below w.heap.size w W) := Lib.hid (HBX.out.1.trans (HG.out.1.mono HBX.out.1.size))
    have HWR : Hid (W.heap[w.heap.size]? = some (.cells CS 27 (0, 0)) ∧ CS.size = 6) := Lib.hid ⟨(HG.out.1.block w.heap.size (lt_of_cells HBX.out.2)).trans HBX.out.2, by rw [HCS.out.1]; rfl⟩
    have hpc := snap_any (HH.out.below HWB.out)
    rw [← HCS.out.1] at hpc
    rw [← HR0.out] at hpc
    clear HR0
    cases R
    all_goals
      go_wp2_with (first
        | (refine wpList_load_row_on (by rfl) 27 (.tmp 1) (by rfl) w.heap.size (by rfl) 27 CS (0, 0) _ HWR.out.1 Tryd.underlying27 (by rfl) (by rw [HWR.out.2]; exact ob_info) ?_)
        | (go_at_call 43; refine hpc.mono ?_; clear hpc; rintro _ w4 ⟨rfl, hb4⟩))
      go_ret
      exact ⟨by simp, HWB.out.trans (hb4.mono HWB.out.size)⟩
set_option maxHeartbeats 8000000 in
set_option maxRecDepth 100000 in
theorem check5 {w : World} {S : Nat → Prop} {p : At} {x : Ob} (h : Obm w S p x) (h1 : ¬ x.k = 1) (h2 : ¬ x.k = 2) (h3 : ¬ x.k = 3) (h4 : ¬ x.k = 4) :
    Calls Tryd.prog 12 #[.agg (obV p x)] w fun e w' => e = .returned (.int .i64 (chkO x)) ∧ Below w.heap.size w w' := by
  have hmay : mayO x = false := by unfold mayO; rw [if_neg h1, if_neg h2, if_neg h3, if_neg h4]
  unfold chkO
  rw [hmay]
  have HH := Lib.hid h
  have HBX : Hid (Below w.heap.size w (w.alloc (.cells (obV p x) 27)) ∧ (w.alloc (.cells (obV p x) 27)).heap[w.heap.size]? = some (.cells (obV p x) 27 (0, 0))) := Lib.hid ⟨(Below.refl _ _).alloc (Nat.le_refl _) _, heap_alloc_new w _⟩
  obtain ⟨CS, hCS⟩ : ∃ CS, CS = obV p x := ⟨_, rfl⟩
  rw [← hCS] at HBX ⊢
  obtain ⟨k, hke⟩ : ∃ k, k = x.k := ⟨_, rfl⟩
  rw [← hke] at h1 h2 h3 h4
  have HCS : Hid (CS = obV p x ∧ k = x.k) := Lib.hid ⟨hCS, hke⟩
  have HCK : Hid (∀ W, Below (w.alloc (.cells CS 27)).drew.heap.size (w.alloc (.cells CS 27)).drew W → W.cell? ⟨w.heap.size, 0, none⟩ = some (.int .u8 (k : Int))) := Lib.hid fun W hW => by
    rw [(Grow.below_of_drew hW).cell (p := ⟨w.heap.size, 0, none⟩) (lt_of_cells HBX.out.2), cell_of_cells HBX.out.2, HCS.out.1, HCS.out.2]
    rfl
  have HK : Hid (¬ k = 1 ∧ ¬ k = 2 ∧ ¬ k = 3 ∧ ¬ k = 4) := Lib.hid (by omega)
  clear h hmay hCS hke h1 h2 h3 h4
  go_enter Tryd.func12, Tryd.ntmps12
  go_upto_region 1 with fail
  refine wp_region_grow (fun W W' => Below W.heap.size W W') (Grow.nth [fun v W => ∃ r, v = .map (some r) ∧ W.heap[r]? = some (.map kindsM 4), fun v _ => v = .pointer (some ⟨w.heap.size, 0, none⟩), fun v _ => v = .int .u8 (k : Int), fun v _ => v = .tuple #[.nilFunc, .bool false], fun v _ => v = .tuple #[.nilFunc, .bool false], fun v _ => v = .nilFunc, fun v _ => v = .bool false, fun v _ => v = .nilFunc, fun v _ => v = .bool false]) 20 (by kernel_rfl) (by kernel_rfl) (by rfl) (fun W => Below.refl _ W) (fun _ _ _ h1 h2 => h1.trans (h2.mono h1.size)) (Grow.mono_nth ?gmono) ?gsteps ?gfin
  case gmono => exact ⟨fun _ _ _ ⟨r, h1, h2⟩ hg => ⟨r, h1, (hg.block r (Array.getElem?_eq_some_iff.1 h2).1).trans h2⟩, fun _ _ _ h _ => h, fun _ _ _ h _ => h, fun _ _ _ h _ => h, fun _ _ _ h _ => h, fun _ _ _ h _ => h, fun _ _ _ h _ => h, fun _ _ _ h _ => h, fun _ _ _ h _ => h, trivial⟩
  case gsteps =>
    show Grow.allBelow _ 9
    refine And.intro ?_ ?s8
    refine And.intro ?_ ?s7
    refine And.intro ?_ ?s6
    refine And.intro ?_ ?s5
    refine And.intro ?_ ?s4
    refine And.intro ?_ ?s3
    refine And.intro ?_ ?s2
    refine And.intro ?_ ?s1
    refine And.intro ?_ ?s0
    exact trivial
    case s0 =>
      refine Grow.step_in (by rfl) (by rfl) ?_
      intro E W ec eg ef hG hd hu R HR
      clear hd hu
      go_simp
      refine (needs_any W).mono ?_
      rintro _ w' ⟨rfl, rfl⟩
      exact ⟨_, rfl, HR.out _ _ ((Below.refl _ _).alloc (Nat.le_refl _) _) ⟨_, rfl, heap_alloc_new W _⟩⟩
    case s1 =>
      refine Grow.step_in (by rfl) (by rfl) ?_
      intro E W ec eg ef hG hd hu R HR
      have e1 : E (.tmp 1) = .pointer (some ⟨w.heap.size, 0, none⟩) := hu 1 (by kernel_rfl)
      clear hd hu
      go_simp
      exact HR.out _ _ (Below.refl _ _) rfl
    case s2 =>
      refine Grow.step_in (by rfl) (by rfl) ?_
      intro E W ec eg ef hG hd hu R HR
      have e7 : E (.tmp 7) = .pointer (some ⟨w.heap.size, 0, none⟩) := hd 1 7 (by kernel_rfl)
      clear hd hu
      have k1 := HCK.out W hG
      go_simp
      exact HR.out _ _ (Below.refl _ _) rfl
    case s3 =>
      refine Grow.step_in (by rfl) (by rfl) ?_
      intro E W ec eg ef hG hd hu R HR
      have h6 := hd 0 6 (by kernel_rfl)
      have e8 : E (.tmp 8) = .int .u8 (k : Int) := hd 2 8 (by kernel_rfl)
      clear hd hu
      obtain ⟨r, e6, hr⟩ := h6
      have hrun := run_kind W r 4 k hr
      rw [if_neg (by have := HK.out; omega), if_neg (by have := HK.out; omega), if_neg (by have := HK.out; omega), if_neg (by have := HK.out; omega)] at hrun
      simp [execOp, e6, e8, hrun, Result.andThen, Grow.runsTo]
      exact HR.out _ _ (Below.refl _ _) rfl
    case s4 =>
      refine Grow.step_in (by rfl) (by rfl) ?_
      intro E W ec eg ef hG hd hu R HR
      have e9 : E (.tmp 9) = .tuple #[.nilFunc, .bool false] := hd 3 9 (by kernel_rfl)
      clear hd hu
      go_simp
      exact HR.out _ _ (Below.refl _ _) rfl
    case s5 =>
      refine Grow.step_in (by rfl) (by rfl) ?_
      intro E W ec eg ef hG hd hu R HR
      have e5 : E (.tmp 5) = .tuple #[.nilFunc, .bool false] := hd 4 5 (by kernel_rfl)
      clear hd hu
      go_simp
      exact HR.out _ _ (Below.refl _ _) rfl
    case s6 =>
      refine Grow.step_in (by rfl) (by rfl) ?_
      intro E W ec eg ef hG hd hu R HR
      have e5 : E (.tmp 5) = .tuple #[.nilFunc, .bool false] := hd 4 5 (by kernel_rfl)
      clear hd hu
      go_simp
      exact HR.out _ _ (Below.refl _ _) rfl
    case s7 =>
      refine Grow.step_in (by rfl) (by rfl) ?_
      intro E W ec eg ef hG hd hu R HR
      have e10 : E (.tmp 10) = .nilFunc := hd 5 10 (by kernel_rfl)
      clear hd hu
      go_simp
      exact HR.out _ _ (Below.refl _ _) rfl
    case s8 =>
      refine Grow.step_in (by rfl) (by rfl) ?_
      intro E W ec eg ef hG hd hu R HR
      have e11 : E (.tmp 11) = .bool false := hd 6 11 (by kernel_rfl)
      clear hd hu
      go_simp
      exact HR.out _ _ (Below.refl _ _) rfl
  case gfin =>
    intro W hG
    refine Grow.fin_dst (by rfl) ?_
    rintro _ ⟨r6, rfl, hr6⟩
    refine Grow.fin_dst (by rfl) ?_
    rintro _ rfl
    refine Grow.fin_dst (by rfl) ?_
    rintro _ rfl
    refine Grow.fin_dst (by rfl) ?_
    rintro _ rfl
    refine Grow.fin_dst (by rfl) ?_
    rintro _ rfl
    refine Grow.fin_dst (by rfl) ?_
    rintro _ rfl
    refine Grow.fin_dst (by rfl) ?_
    rintro _ rfl
    refine Grow.fin_dst (by rfl) ?_
    rintro _ rfl
    refine Grow.fin_dst (by rfl) ?_
    rintro _ rfl
    simp only [Act.put, List.setIfInBounds_toArray, List.set_cons_zero, List.set_cons_succ]
    refine Grow.fin_end ?_
    have HG := Lib.hid (And.intro (Grow.below_of_drew hG) hr6)
    clear hG hr6
    have HWB : Hid (Below w.heap.size w W) := Lib.hid (HBX.out.1.trans (HG.out.1.mono HBX.out.1.size))
    go_wp2_with fail
    go_ret
    exact ⟨by simp, HWB.out⟩
theorem check_obj {w : World} {S : Nat → Prop} {p : At} {x : Ob} (h : Obm w S p x) :
    Calls Tryd.prog 12 #[.agg (obV p x)] w fun e w' => e = .returned (.int .i64 (chkO x)) ∧ Below w.heap.size w w' := by
  by_cases h1 : x.k = 1
  · exact check1 h h1
  by_cases h2 : x.k = 2
  · exact check2 h h2 h1
  by_cases h3 : x.k = 3
  · exact check3 h h3 h1 h2
  by_cases h4 : x.k = 4
  · exact check4 h h4 h1 h2 h3
  exact check5 h h1 h2 h3 h4
end Go.Proofs.YtmakpjcgiiljfaaDoor

/-! A codec.Writer that writes within blocks of S, from a world on. -/
namespace Go.Proofs.YtmakpjcgiiljfaaDoor
open Go.RowKit Codec

/-- The writer, and what has turned since 'wb'. -/
structure OpT (S : Nat → Prop) (wb W : World) (q : Nat) (l : List UInt8) : Prop where
  up : ∀ b, wb.heap.size ≤ b → S b
  wr : Wr W S q l
  tn : Turned S wb W
section
variable {S : Nat → Prop} {wb W W' : World} {q : Nat} {l l' : List UInt8}
theorem OpT.did {e : Ending} (h : OpT S wb W q l) (hp : Put W S q l' e W') : OpT S wb W' q l' :=
  ⟨h.up, hp.2.1.mono fun b _ hb => hb.elim id fun hb => h.up b (Nat.le_trans h.tn.size hb), h.tn.trans hp.2.2 fun _ _ h => h⟩
theorem OpT.below (h : OpT S wb W q l) (hb : Below W.heap.size W W') : OpT S wb W' q l :=
  ⟨h.up, h.wr.turned (T := fun _ => False) (Turned.of_below hb) fun _ _ _ h => h, h.tn.trans (Turned.of_below (S := S) hb) fun _ _ h => h⟩
theorem OpT.uint (h : OpT S wb W q l) {x : Nat} (hx : x < 18446744073709551616) (hb : l.length + 10 ≤ 140737488355328) :
    Calls Tryd.prog 19 #[.pointer (some ⟨q, 0, none⟩), .int .u64 x] W fun e W' => e = .returned (.tuple #[]) ∧ OpT S wb W' q (l ++ put x) :=
  (wuint h.wr hx hb).mono fun _ _ hp => ⟨hp.1, h.did hp⟩
theorem OpT.bool (h : OpT S wb W q l) (x : Bool) (hb : l.length + 1 ≤ 140737488355328) :
    Calls Tryd.prog 22 #[.pointer (some ⟨q, 0, none⟩), .bool x] W fun e W' => e = .returned (.tuple #[]) ∧ OpT S wb W' q (l ++ yesB x) :=
  (wbool h.wr x hb).mono fun _ _ hp => ⟨hp.1, by
    have := h.did hp
    cases x <;> exact this⟩
theorem OpT.fixed (h : OpT S wb W q l) {T : Nat → Prop} {A : Option Addr} {n c : Nat} {m : List UInt8} (hm : Byt W T A n c m) (hb : l.length + n ≤ 140737488355328) :
    Calls Tryd.prog 21 #[.pointer (some ⟨q, 0, none⟩), .slice A n c] W fun e W' => e = .returned (.tuple #[]) ∧ OpT S wb W' q (l ++ m) :=
  (wfixed h.wr hm hb).mono fun _ _ hp => ⟨hp.1, h.did hp⟩
theorem OpT.bytes (h : OpT S wb W q l) {T : Nat → Prop} {A : Option Addr} {n c : Nat} {m : List UInt8} (hm : Byt W T A n c m) (hd : ∀ b, b < W.heap.size → T b → ¬ S b) (hb : l.length + 10 + n ≤ 140737488355328) :
    Calls Tryd.prog 20 #[.pointer (some ⟨q, 0, none⟩), .slice A n c] W fun e W' => e = .returned (.tuple #[]) ∧ OpT S wb W' q (l ++ (put m.length ++ m)) :=
  (wbytes h.wr hm hd hb).mono fun _ _ hp => ⟨hp.1, h.did hp⟩
/-- Bytes that lie in a block made since. -/
theorem OpT.bytes_new (h : OpT S wb W q l) {W1 : World} (hbl : Below W.heap.size W W1) {A : Option Addr} {n c : Nat} {m : List UInt8} (hm : Byt W1 (W.heap.size ≤ ·) A n c m) (hb : l.length + 10 + n ≤ 140737488355328) :
    Calls Tryd.prog 20 #[.pointer (some ⟨q, 0, none⟩), .slice A n c] W1 fun e W' => e = .returned (.tuple #[]) ∧ OpT S wb W' q (l ++ (put m.length ++ m)) := by
  have hw : Wr W1 (fun k => S k ∧ k < W.heap.size) q l := (h.wr.mono (T := fun k => S k ∧ k < W.heap.size) fun k hk hs => ⟨hs, hk⟩).turned (T := fun _ => False) (Turned.of_below hbl) fun _ _ _ h => h
  refine (wbytes hw hm (fun b _ h1 h2 => by have := h2.2; omega) hb).mono fun _ W2 hp => ⟨hp.1, h.up, hp.2.1.mono fun b _ hb => ?_, ?_⟩
  · rcases hb with hb | hb
    · exact hb.1
    · exact h.up b (Nat.le_trans h.tn.size (Nat.le_trans hbl.size hb))
  · exact (h.tn.trans (Turned.of_below (S := S) hbl) fun _ _ h => h).trans hp.2.2 fun _ _ h => h.1
end
/-- All from here on is the writer's. -/
theorem OpT.start {w0 w1 : World} {q : Nat} (h : Wr w1 (w0.heap.size ≤ ·) q []) (hb : Below w0.heap.size w0 w1) : OpT (w0.heap.size ≤ ·) w0 w1 q [] :=
  ⟨fun _ h => h, h, Turned.of_below hb⟩
theorem OpT.bel {w0 W : World} {q : Nat} {l : List UInt8} (h : OpT (w0.heap.size ≤ ·) w0 W q l) : Below w0.heap.size w0 W := h.tn.below (Nat.le_refl _)
/-- But for a block made just now. -/
theorem OpT.but {w0 wr w5 : World} {q e0 : Nat} {l : List UInt8} (h : OpT (w0.heap.size ≤ ·) w0 wr q l) (hb : Below wr.heap.size wr w5) (he : e0 = wr.heap.size) (hs : w5.heap.size = wr.heap.size + 1) : OpT (fun k => w0.heap.size ≤ k ∧ k ≠ e0) w5 w5 q l :=
  ⟨fun b hb' => ⟨by have := h.tn.size; omega, by omega⟩, (h.wr.mono (T := fun k => w0.heap.size ≤ k ∧ k ≠ e0) fun k hk hs => ⟨hs, by omega⟩).turned (T := fun _ => False) (Turned.of_below hb) fun _ _ _ h => h, Turned.refl _ _⟩
theorem OpT.back {w0 wr w5 W : World} {q e0 : Nat} {l l' : List UInt8} (h0 : OpT (w0.heap.size ≤ ·) w0 wr q l) (hb : Below wr.heap.size wr w5) (h : OpT (fun k => w0.heap.size ≤ k ∧ k ≠ e0) w5 W q l') : OpT (w0.heap.size ≤ ·) w0 W q l' :=
  ⟨fun _ h => h, h.wr.mono fun _ _ h => h.1, (h0.tn.trans (Turned.of_below (S := (w0.heap.size ≤ ·)) hb) fun _ _ h => h).trans h.tn fun _ _ h => h.1⟩
/-- A digest in memory, as bytes. -/
theorem byt_id {W : World} {S : Nat → Prop} {b off : Nat} {y : List UInt8} (hS : S b) (hlt : b < W.heap.size) (h32 : y.length = 32) (hc : ∀ (j : Nat) (v : Value), (row8 y)[j]? = some v → W.cell? ⟨b, off + j, none⟩ = some v) : Byt W S (some ⟨b, off, none⟩) 32 32 y :=
  ⟨h32, Nat.le_refl _, by unfold maxLen; omega, fun _ => ⟨b, off, rfl, hS, hlt, fun i hi => hc i _ (by
    rw [row8, List.getElem?_toArray]
    simp [u8s, show i < y.length by omega])⟩⟩
end Go.Proofs.YtmakpjcgiiljfaaDoor
