/-
  A slice literal of one digest.
  Objects: its bytes.
  codec.Reader.Id of a reader that is none.
  The document's example at the head of each statement of layer 1: it answers true, and writes nothing that was there.
  A region that draws its order where, at one place, either of two operations may come up first: the plan is a tree.
  The document's answers that the codec's statements use: how a number is put (by calling itself), and a row with its length.
-/
import Derived.Test.YtmakpjcgiiljfaaDoorPk02
import Derived.Great.BuildSlice
import Derived.Test.YtmakpjcgiiljfaaDoorPk09
import Derived.Test.YtmakpjcgiiljfaaDoorPk05
import Derived.Test.YtmakpjcgiiljfaaDoorPk07
import Derived.Test.YtmakpjcgiiljfaaDoorPk04
import Derived.Test.YtmakpjcgiiljfaaDoorPk01
import Derived.BigQuiet
import Derived.Lib.SlBytesConst
/-! A slice literal of one digest. -/
namespace Go.Proofs.YtmakpjcgiiljfaaDoor
open Go.RowKit

theorem list32' {l : List UInt8} (h : l.length = 32) : ∃ a0 a1 a2 a3 a4 a5 a6 a7 a8 a9 b0 b1 b2 b3 b4 b5 b6 b7 b8 b9 c0 c1 c2 c3 c4 c5 c6 c7 c8 c9 d0 d1, l = [a0, a1, a2, a3, a4, a5, a6, a7, a8, a9, b0, b1, b2, b3, b4, b5, b6, b7, b8, b9, c0, c1, c2, c3, c4, c5, c6, c7, c8, c9, d0, d1] := by
  match l, h with
  | [a0, a1, a2, a3, a4, a5, a6, a7, a8, a9, b0, b1, b2, b3, b4, b5, b6, b7, b8, b9, c0, c1, c2, c3, c4, c5, c6, c7, c8, c9, d0, d1], _ => exact ⟨_, _, _, _, _, _, _, _, _, _, _, _, _, _, _, _, _, _, _, _, _, _, _, _, _, _, _, _, _, _, _, _, rfl⟩
set_option maxRecDepth 100000 in
theorem fill_id {l : List UInt8} (hl : l.length = 32) : Instr.fill (fun i => some (i * 32, 32)) (row8 (List.replicate 1 (List.replicate 32 0)).flatten) [(0, .agg (row8 l))] = some (row8 l) := by
  obtain ⟨a0, a1, a2, a3, a4, a5, a6, a7, a8, a9, b0, b1, b2, b3, b4, b5, b6, b7, b8, b9, c0, c1, c2, c3, c4, c5, c6, c7, c8, c9, d0, d1, rfl⟩ := list32' hl
  unfold row8 u8s
  kernel_rfl
/-- []api.Id{x} -/
theorem run_ids_lit (w : World) (XS : Array Value) {l : List UInt8} (h : XS = row8 l) (hl : l.length = 32) : (Instr.buildSlice 24 1 #[(0, .agg XS)]).run Tryd.prog w = .ok (.slice (some ⟨w.heap.size, 0, none⟩) 1 1) (w.alloc (.cells XS 49)) := by
  obtain ⟨i0, hi, hz0, hz1, _⟩ := info_parts id_info3
  have hm := made_ids 1
  unfold madeCells at hm
  subst h
  refine run_buildSlice w 24 49 1 #[(0, .agg (row8 l))] (row8 l) i0 (.agg zerosId) Tryd.underlying24 hi hz0 (by rw [hz1]; omega) (by rw [hz1]; omega) ?_
  rw [hz1, hm]
  exact fill_id hl
end Go.Proofs.YtmakpjcgiiljfaaDoor

/-! Objects: its bytes. -/
namespace Go.Proofs.YtmakpjcgiiljfaaDoor
open Go.RowKit Codec

/-- What Put ends in. -/
def OpPost (w : World) (x : Ob) (e : Ending) (w' : World) : Prop :=
  ∃ A n c, e = .returned (.tuple #[.slice A n c, .int .i64 (chkO x)]) ∧ Byt w' (w.heap.size ≤ ·) A n c (poB x) ∧ Below w.heap.size w w'
theorem ens_take {l : List En} (h1 : l.length ≤ 500) (h2 : ∀ y ∈ l, y.1.length ≤ 255) (h3 : ∀ y ∈ l, y.2.2.length = 32) (j : Nat) : (ensB (l.take j)).length ≤ 200000 := by
  have key : ∀ m : List En, (∀ y ∈ m, y.1.length ≤ 255) → (∀ y ∈ m, y.2.2.length = 32) → (ensB m).length ≤ 300 * m.length := by
    intro m
    induction m with
    | nil => intro _ _; simp [ensB]
    | cons y m ih =>
      intro g1 g2
      have e : ensB (y :: m) = enB y ++ ensB m := by simp [ensB]
      have i1 := ih (fun z hz => g1 z (List.mem_cons_of_mem _ hz)) fun z hz => g2 z (List.mem_cons_of_mem _ hz)
      have i2 := g1 y List.mem_cons_self
      have i3 := g2 y List.mem_cons_self
      have i4 := put_length_64 (x := y.1.length) (by omega)
      have i5 : (yesB y.2.1).length = 1 := by cases y.2.1 <;> rfl
      rw [e, List.length_append, List.length_cons]
      unfold enB
      simp only [List.length_append]
      omega
  have h := key (l.take j) (fun y hy => h2 y (List.mem_of_mem_take hy)) fun y hy => h3 y (List.mem_of_mem_take hy)
  have h5 : (l.take j).length ≤ l.length := by rw [List.length_take]; omega
  omega
theorem ids_take {l : List (List UInt8)} (h1 : l.length ≤ 1000) (h2 : ∀ y ∈ l, y.length = 32) (j : Nat) : (l.take j).flatten.length ≤ 32000 := by
  have h := flatten_length32 (l := l.take j) fun y hy => h2 y (List.mem_of_mem_take hy)
  have h5 : (l.take j).length ≤ l.length := by rw [List.length_take]; omega
  omega
theorem ids_succ {l : List (List UInt8)} {j : Nat} {y : List UInt8} (h : l[j]? = some y) : (l.take (j + 1)).flatten = (l.take j).flatten ++ y := by
  rw [List.take_add_one, h]
  simp
theorem ens_succ {l : List En} {j : Nat} {y : En} (h : l[j]? = some y) : ensB (l.take (j + 1)) = ensB (l.take j) ++ enB y := by
  rw [List.take_add_one, h]
  simp [ensB]
def OpI (w0 : World) (q : Nat) (pre : List UInt8) (ids : List (List UInt8)) (i : Value) (wr : World) : Prop :=
  ∃ j : Nat, j ≤ ids.length ∧ i = .int .i64 (j : Int) ∧ OpT (w0.heap.size ≤ ·) w0 wr q (pre ++ (ids.take j).flatten)
def OpE (w0 : World) (q : Nat) (pre : List UInt8) (es : List En) (i : Value) (wr : World) : Prop :=
  ∃ j : Nat, j ≤ es.length ∧ i = .int .i64 (j : Int) ∧ OpT (w0.heap.size ≤ ·) w0 wr q (pre ++ ensB (es.take j))
set_option maxHeartbeats 4000000 in
set_option maxRecDepth 100000 in
theorem oput_bad {w : World} {S : Nat → Prop} {p : At} {x : Ob} (h : Obm w S p x) (h0 : chkO x ≠ 0) :
    Calls Tryd.prog 9 #[.agg (obV p x)] w (OpPost w x) := by
  have hbl : Below w.heap.size w (w.alloc (.cells (obV p x) 27)) := (Below.refl _ _).alloc (Nat.le_refl _) _
  have hck := check_obj (h.below hbl)
  have hnew := heap_alloc_new w (.cells (obV p x) 27)
  have HPO : Hid (poB x = []) := Lib.hid (by unfold poB; rw [if_neg h0])
  have hne : (chkO x != 0) = true := by simpa using h0
  obtain ⟨E, hE⟩ : ∃ E, E = chkO x := ⟨_, rfl⟩
  rw [← hE] at hck hne
  have HE := Lib.hid hE
  obtain ⟨CS, hCS⟩ : ∃ CS, CS = obV p x := ⟨_, rfl⟩
  rw [← hCS] at hbl hck hnew ⊢
  have HCS := Lib.hid hCS
  have HX := Lib.hid (And.intro hbl hnew)
  clear h h0 hE hCS hbl hnew
  go_enter Tryd.func9, Tryd.ntmps9
  go_wp2_with (first
    | (refine wpList_load_row (by rfl) 27 (.tmp 1) (by rfl) w.heap.size (by rfl) 27 CS (0, 0) _ HX.out.2 Tryd.underlying27 (by rfl) (by rw [HCS.out]; exact ob_info) ?_)
    | (go_at_call 12; refine hck.mono ?_; clear hck; rintro _ w0 ⟨rfl, hb0⟩))
  go_ret2
  exact ⟨none, 0, 0, by rw [← HE.out]; rfl, by rw [HPO.out]; exact Byt.nil _ _ _ _ (Nat.zero_le _), HX.out.1.trans (hb0.mono HX.out.1.size)⟩
set_option maxHeartbeats 16000000 in
set_option maxRecDepth 100000 in
theorem oput1 {w : World} {S : Nat → Prop} {p : At} {x : Ob} (h : Obm w S p x) (h0 : chkO x = 0) (hk : x.k = 1) :
    Calls Tryd.prog 9 #[.agg (obV p x)] w (OpPost w x) := by
  have hbl : Below w.heap.size w (w.alloc (.cells (obV p x) 27)) := (Below.refl _ _).alloc (Nat.le_refl _) _
  have hck := check_obj (h.below hbl)
  have hnew := heap_alloc_new w (.cells (obV p x) 27)
  rw [h0] at hck
  have hs := may_small (chk_may h0)
  have hm := (h.mono (T := fun k => k < w.heap.size) fun k hk _ => hk).below hbl
  have HPO : Hid (chkO x = 0 ∧ poB x = putO x) := Lib.hid ⟨h0, by unfold poB; rw [if_pos h0]⟩
  clear h h0
  obtain ⟨A, n, c, IA, i, ic, EA, m, mc⟩ := p
  obtain ⟨k, b, z, ids, es, lb⟩ := x
  simp only at hk
  subst hk
  obtain ⟨CS, hCS⟩ : ∃ CS, CS = obV ⟨A, n, c, IA, i, ic, EA, m, mc⟩ ⟨1, b, z, ids, es, lb⟩ := ⟨_, rfl⟩
  rw [← hCS] at hbl hck hnew hm ⊢
  have HCS := Lib.hid hCS
  have HS := Lib.hid hs
  have HX := Lib.hid (And.intro hbl (And.intro hnew hm))
  clear hbl hnew hm hCS hs
  go_enter Tryd.func9, Tryd.ntmps9
  go_upto_region 4 with (first
    | (refine wpList_load_row (by rfl) 27 (.tmp 1) (by rfl) w.heap.size (by rfl) 27 CS (0, 0) _ HX.out.2.1 Tryd.underlying27 (by rfl) (by rw [HCS.out]; exact ob_info) ?_)
    | (go_at_call 12; refine hck.mono ?_; clear hck; rintro _ w0 ⟨rfl, hb0⟩))
  have HB0 : Hid (Below w.heap.size w w0 ∧ w.heap.size < w0.heap.size) := Lib.hid ⟨HX.out.1.trans (hb0.mono HX.out.1.size), Nat.lt_of_lt_of_le (lt_of_cells HX.out.2.1) hb0.size⟩
  have HC : Hid (∀ W, Below w0.heap.size w0 W → ∀ j, W.cell? ⟨w.heap.size, j, none⟩ = (obV ⟨A, n, c, IA, i, ic, EA, m, mc⟩ ⟨1, b, z, ids, es, lb⟩)[j]?) := Lib.hid fun W hW j => by
    have h1 := (hb0.block w.heap.size (lt_of_cells HX.out.2.1)).trans HX.out.2.1
    have h2 := (hW.block w.heap.size (lt_of_cells h1)).trans h1
    rw [cell_of_cells h2, HCS.out]
  have HM : Hid (∀ W, Below w0.heap.size w0 W → Obm W (fun k => k < w0.heap.size) ⟨A, n, c, IA, i, ic, EA, m, mc⟩ ⟨1, b, z, ids, es, lb⟩) := Lib.hid fun W hW => ((HX.out.2.2.mono (T := fun k => k < w0.heap.size) fun k _ h => by have := HB0.out.2; omega).below hb0).below hW
  have hnw := newWriter w0
  clear hb0
  go_upto_region 5 with (go_at_call 18; refine hnw.mono ?_; clear hnw; rintro _ w1 ⟨q, rfl, hw1, hb1⟩)
  have HO := Lib.hid (OpT.start hw1 hb1)
  clear hw1 hb1
  have hc0 : w1.cell? ⟨w.heap.size, 0, none⟩ = some (.int .u8 1) := (HC.out _ HO.out.bel 0).trans rfl
  have h2 := HO.out.uint (x := 1) (by omega) (by simp)
  go_upto_region 6 with (go_at_call 19; refine h2.mono ?_; clear h2; rintro _ w2 ⟨rfl, ho2⟩)
  have HO2 := Lib.hid ho2
  have hc0 : w2.cell? ⟨w.heap.size, 0, none⟩ = some (.int .u8 1) := (HC.out _ HO2.out.bel 0).trans rfl
  have hc1 : w2.cell? ⟨w.heap.size, 1, none⟩ = some (.slice A n c) := (HC.out _ HO2.out.bel 1).trans rfl
  have hlen := (HM.out _ HO2.out.bel).b.len
  have h3 := HO2.out.bytes (HM.out _ HO2.out.bel).b (fun k _ h1 h2 => by omega) (by have := HS.out.b; simp only at this hlen ⊢; have := put_length_64 (x := 1) (by omega); simp; omega)
  have HLEN := Lib.hid hlen
  clear ho2 hlen
  go_upto_region 30 with (go_at_call 20; refine h3.mono ?_; clear h3; rintro _ wz ⟨rfl, ho3⟩)
  have HF : Hid (OpT (w0.heap.size ≤ ·) w0 wz q (putO ⟨1, b, z, ids, es, lb⟩) ∧ (putO ⟨1, b, z, ids, es, lb⟩).length ≤ 1000000) := Lib.hid ⟨by simpa [putO] using ho3, by have h1 := HS.out.b; have h2 := put_length_64 (x := 1) (by omega); have h3 := put_length_64 (x := b.length) (by simp only at h1; omega); simp only at h1; simp only [putO, if_pos, List.length_append]; omega⟩
  have hout := wout HF.out.1.wr (by have := HF.out.2; omega)
  obtain ⟨M, hM⟩ : ∃ M, M = (putO ⟨1, b, z, ids, es, lb⟩).length := ⟨_, rfl⟩
  rw [← hM] at hout
  clear hM
  go_wp2_with (go_at_call 23; refine hout.mono ?_; clear hout; rintro _ w8 ⟨A8, c8, rfl, hy8, hb8, _⟩; have H8 := Lib.hid (And.intro hy8 hb8); clear hy8 hb8)
  go_ret2
  have hbz := HB0.out.1.trans (HF.out.1.bel.mono HB0.out.1.size)
  exact ⟨A8, _, c8, by rw [HPO.out.1]; rfl, by rw [HPO.out.2]; exact H8.out.1.mono fun k _ hk => Nat.le_trans hbz.size hk, hbz.trans (H8.out.2.mono hbz.size)⟩
set_option maxHeartbeats 16000000 in
set_option maxRecDepth 100000 in
theorem oput2 {w : World} {S : Nat → Prop} {p : At} {x : Ob} (h : Obm w S p x) (h0 : chkO x = 0) (hk : x.k = 2) :
    Calls Tryd.prog 9 #[.agg (obV p x)] w (OpPost w x) := by
  have hbl : Below w.heap.size w (w.alloc (.cells (obV p x) 27)) := (Below.refl _ _).alloc (Nat.le_refl _) _
  have hck := check_obj (h.below hbl)
  have hnew := heap_alloc_new w (.cells (obV p x) 27)
  rw [h0] at hck
  have hs := may_small (chk_may h0)
  have hm := (h.mono (T := fun k => k < w.heap.size) fun k hk _ => hk).below hbl
  have HPO : Hid (chkO x = 0 ∧ poB x = putO x) := Lib.hid ⟨h0, by unfold poB; rw [if_pos h0]⟩
  clear h h0
  obtain ⟨A, n, c, IA, i, ic, EA, m, mc⟩ := p
  obtain ⟨k, b, z, ids, es, lb⟩ := x
  simp only at hk
  subst hk
  obtain ⟨CS, hCS⟩ : ∃ CS, CS = obV ⟨A, n, c, IA, i, ic, EA, m, mc⟩ ⟨2, b, z, ids, es, lb⟩ := ⟨_, rfl⟩
  rw [← hCS] at hbl hck hnew hm ⊢
  have HCS := Lib.hid hCS
  have HS := Lib.hid hs
  have HX := Lib.hid (And.intro hbl (And.intro hnew hm))
  clear hbl hnew hm hCS hs
  go_enter Tryd.func9, Tryd.ntmps9
  go_upto_region 4 with (first
    | (refine wpList_load_row (by rfl) 27 (.tmp 1) (by rfl) w.heap.size (by rfl) 27 CS (0, 0) _ HX.out.2.1 Tryd.underlying27 (by rfl) (by rw [HCS.out]; exact ob_info) ?_)
    | (go_at_call 12; refine hck.mono ?_; clear hck; rintro _ w0 ⟨rfl, hb0⟩))
  have HB0 : Hid (Below w.heap.size w w0 ∧ w.heap.size < w0.heap.size) := Lib.hid ⟨HX.out.1.trans (hb0.mono HX.out.1.size), Nat.lt_of_lt_of_le (lt_of_cells HX.out.2.1) hb0.size⟩
  have HC : Hid (∀ W, Below w0.heap.size w0 W → ∀ j, W.cell? ⟨w.heap.size, j, none⟩ = (obV ⟨A, n, c, IA, i, ic, EA, m, mc⟩ ⟨2, b, z, ids, es, lb⟩)[j]?) := Lib.hid fun W hW j => by
    have h1 := (hb0.block w.heap.size (lt_of_cells HX.out.2.1)).trans HX.out.2.1
    have h2 := (hW.block w.heap.size (lt_of_cells h1)).trans h1
    rw [cell_of_cells h2, HCS.out]
  have HM : Hid (∀ W, Below w0.heap.size w0 W → Obm W (fun k => k < w0.heap.size) ⟨A, n, c, IA, i, ic, EA, m, mc⟩ ⟨2, b, z, ids, es, lb⟩) := Lib.hid fun W hW => ((HX.out.2.2.mono (T := fun k => k < w0.heap.size) fun k _ h => by have := HB0.out.2; omega).below hb0).below hW
  have hnw := newWriter w0
  clear hb0
  go_upto_region 5 with (go_at_call 18; refine hnw.mono ?_; clear hnw; rintro _ w1 ⟨q, rfl, hw1, hb1⟩)
  have HO := Lib.hid (OpT.start hw1 hb1)
  clear hw1 hb1
  have hc0 : w1.cell? ⟨w.heap.size, 0, none⟩ = some (.int .u8 2) := (HC.out _ HO.out.bel 0).trans rfl
  have h2 := HO.out.uint (x := 2) (by omega) (by simp)
  go_upto_region 6 with (go_at_call 19; refine h2.mono ?_; clear h2; rintro _ w2 ⟨rfl, ho2⟩)
  have HO2 := Lib.hid ho2
  have hc0 : w2.cell? ⟨w.heap.size, 0, none⟩ = some (.int .u8 2) := (HC.out _ HO2.out.bel 0).trans rfl
  have hc2 : w2.cell? ⟨w.heap.size, 2, none⟩ = some (.int .u64 (z : Int)) := (HC.out _ HO2.out.bel 2).trans rfl
  have h3 := HO2.out.uint (x := z) (HM.out _ HO2.out.bel).o.wf.z (by have := put_length_64 (x := 2) (by omega); simp; omega)
  clear ho2
  go_upto_region 11 with (go_at_call 19; refine h3.mono ?_; clear h3; rintro _ w3 ⟨rfl, ho3⟩)
  have HO3 := Lib.hid ho3
  clear ho3
  have hc3 : w3.cell? ⟨w.heap.size, 3, none⟩ = some (.slice IA i ic) := (HC.out _ HO3.out.bel 3).trans rfl
  have hlen := (HM.out _ HO3.out.bel).o.ids.len
  have HI : Hid (ids.length = i ∧ i ≤ 1000 ∧ z < 18446744073709551616) := Lib.hid ⟨hlen, by have := HS.out.ids; simp only at this hlen; omega, (HM.out _ HO3.out.bel).o.wf.z⟩
  clear hlen
  have h4 := HO3.out.uint (x := i) (by have := HI.out.2.1; omega) (by have := put_length_64 (x := 2) (by omega); have := put_length_64 (x := z) HI.out.2.2; simp; omega)
  have hcv := IntWalk.u64_in (i : Int) (by have := HI.out.2.1; omega)
  go_upto_region 12 with (go_at_call 19; refine h4.mono ?_; clear h4; rintro _ w4 ⟨rfl, ho4⟩)
  have hc3b : w4.cell? ⟨w.heap.size, 3, none⟩ = some (.slice IA i ic) := (HC.out _ ho4.bel 3).trans rfl
  obtain ⟨pre, hpre⟩ : ∃ pre, pre = ([] ++ put 2 ++ put z ++ put i : List UInt8) := ⟨_, rfl⟩
  rw [← hpre] at ho4
  have HPRE : Hid (pre = put 2 ++ put z ++ put i ∧ pre.length ≤ 30) := Lib.hid ⟨by rw [hpre]; simp, by rw [hpre]; have := put_length_64 (x := 2) (by omega); have := put_length_64 (x := z) HI.out.2.2; have := put_length_64 (x := i) (by have := HI.out.2.1; omega); simp; omega⟩
  have HOI : Hid (OpI w0 q pre ids (.int .i64 0) w4) := Lib.hid ⟨0, Nat.zero_le _, rfl, by simpa using ho4⟩
  have hzi := zero_id
  clear ho4 hpre hcv hc3 hc2 hc0
  go_wp2_with fail
  clear hc3b
  go_loopw [44] (fun i wr => OpI w0 q pre ids i wr) (fun v _ => i - (intOf v).toNat)
  case atStart => exact HOI.out
  case round =>
    obtain ⟨j, hj, rfl, hop⟩ := hrel
    have HOP := Lib.hid hop
    clear hop HOI
    by_cases hlt : j < i
    · have hlt' : (j : Int) < (i : Int) := by omega
      have hadd := IntWalk.i64_in ((j : Int) + 1) (by have := HI.out.2.1; omega)
      have hids := (HM.out _ HOP.out.bel).o.ids
      obtain ⟨g, off, hIA, hglt, h32, hcs⟩ := hids.at_ hlt
      simp only at hIA
      subst hIA
      have hy : ids[j]? = some (ids[j]?.getD []) := by
        rw [List.getElem?_eq_getElem (by have := HI.out.1; omega)]
        rfl
      generalize ids[j]?.getD [] = y at *
      have HY := Lib.hid (And.intro hy (And.intro h32 hlt))
      obtain ⟨YS, hYS⟩ : ∃ YS, YS = row8 y := ⟨_, rfl⟩
      rw [← hYS] at hcs
      have HYS : Hid (YS = row8 y ∧ YS.size = 32 ∧ (∀ (j_1 : Nat) (v : Value), YS[j_1]? = some v → wr.cell? ((⟨g, off + j * 32, none⟩ : Addr).add j_1) = some v) ∧ YS.all (·.oneCell') = true) := Lib.hid ⟨hYS, by rw [hYS, row8_size, h32], hcs, by rw [hYS]; exact row8_one y⟩
      obtain ⟨ZI, hZI⟩ : ∃ ZI, ZI = zerosId := ⟨_, rfl⟩
      rw [← hZI] at hzi
      have HZI : Hid (ZI.size = 32) := Lib.hid (by rw [hZI]; simp [zerosId, u8s_length])
      clear hids hy h32 hYS hcs hlt hj hglt hZI
      go_upto_region 15 with (first
        | (refine wpList_load_at (by rfl) 49 (.tmp 46) (by rfl) ⟨g, off + j * 32, none⟩ (by rfl) YS _ HYS.out.2.2.1 Tryd.underlying49 (by rfl) (by rw [HYS.out.2.1]; exact id_info) ?_)
        | (refine wpList_store_row (by rfl) 49 (.tmp 7) (.tmp 47) (by rfl) wr.heap.size YS (by rfl) (by rfl) 49 _ (heap_alloc_new wr _) (by rw [HYS.out.2.1]; exact id_info) (by rw [HYS.out.2.1, HZI.out]) HYS.out.2.2.2 ?_))
      have hal : Below wr.heap.size wr ((wr.alloc (.cells ZI 49)).setRow wr.heap.size YS) := below_setRow ((Below.refl _ _).alloc (Nat.le_refl _) _) (Nat.le_refl _) _
      have hpa : ((wr.alloc (.cells ZI 49)).setRow wr.heap.size YS).heap[wr.heap.size]? = some (.cells YS 49 (0, 0)) := setRow_at (heap_alloc_new wr _)
      have H5 := Lib.hid (And.intro hal hpa)
      clear hal hpa hzi
      generalize (wr.alloc (.cells ZI 49)).setRow wr.heap.size YS = w5 at *
      have hby : Byt w5 (fun _ => True) (some ⟨wr.heap.size, 0, none⟩) 32 32 y := byt_id trivial (lt_of_cells H5.out.2) HY.out.2.1 fun j v hv => by rw [Nat.zero_add, cell_of_cells H5.out.2, HYS.out.1]; exact hv
      have htk := ids_take (l := ids) (by have := HI.out.1; have := HI.out.2.1; omega) (HM.out _ HOP.out.bel).o.wf.ids j
      have h6 := (HOP.out.below H5.out.1).fixed hby (by have := HPRE.out.2; rw [List.length_append]; omega)
      clear hby htk
      have HW0 : Hid (wr.heap.size < w5.heap.size) := Lib.hid (lt_of_cells H5.out.2)
      generalize wr.heap.size = e0 at *
      go_wp2_with (go_at_call 21; refine h6.mono ?_; clear h6; rintro _ w6 ⟨rfl, ho6⟩; have HO6 := Lib.hid ho6; clear ho6)
      go_roundw
      case rel =>
        unfold OpI
        refine ⟨j + 1, by have := HY.out.2.2; have := HI.out.1; omega, by simp, ?_⟩
        rw [ids_succ HY.out.1, ← List.append_assoc]
        exact HO6.out
      case measure => have := HY.out.2.2; simp only [intOf]; omega
    · have hlt' : ¬ (j : Int) < (i : Int) := by omega
      have hfull : ids.take j = ids := List.take_of_length_le (by have := HI.out.1; omega)
      have ho3 := HOP.out
      rw [hfull] at ho3
      have htk := ids_take (l := ids) (by have := HI.out.1; have := HI.out.2.1; omega) (HM.out _ HOP.out.bel).o.wf.ids ids.length
      rw [List.take_length] at htk
      obtain ⟨wz, hwz⟩ : ∃ wz, wz = wr := ⟨_, rfl⟩
      rw [← hwz] at ho3
      subst hwz
      have HF : Hid (OpT (w0.heap.size ≤ ·) w0 wz q (putO ⟨2, b, z, ids, es, lb⟩) ∧ (putO ⟨2, b, z, ids, es, lb⟩).length ≤ 1000000) := Lib.hid ⟨by have h := ho3; rw [HPRE.out.1] at h; simp only [putO, HI.out.1]; exact h, by have h1 := HPRE.out.1; have h2 := HPRE.out.2; have h3 : putO ⟨2, b, z, ids, es, lb⟩ = pre ++ ids.flatten := (by show put 2 ++ put z ++ put ids.length ++ ids.flatten = _; rw [h1, HI.out.1]); rw [h3, List.length_append]; omega⟩
      clear ho3 htk hfull hj hlt
      have hout := wout HF.out.1.wr (by have := HF.out.2; omega)
      obtain ⟨M, hM⟩ : ∃ M, M = (putO ⟨2, b, z, ids, es, lb⟩).length := ⟨_, rfl⟩
      rw [← hM] at hout
      clear hM
      go_wp2_with (go_at_call 23; refine hout.mono ?_; clear hout; rintro _ w8 ⟨A8, c8, rfl, hy8, hb8, _⟩; have H8 := Lib.hid (And.intro hy8 hb8); clear hy8 hb8)
      go_ret2
      have hbz := HB0.out.1.trans (HF.out.1.bel.mono HB0.out.1.size)
      exact ⟨A8, _, c8, by rw [HPO.out.1]; rfl, by rw [HPO.out.2]; exact H8.out.1.mono fun k _ hk => Nat.le_trans hbz.size hk, hbz.trans (H8.out.2.mono hbz.size)⟩
set_option maxHeartbeats 16000000 in
set_option maxRecDepth 100000 in
theorem oput3 {w : World} {S : Nat → Prop} {p : At} {x : Ob} (h : Obm w S p x) (h0 : chkO x = 0) (hk : x.k = 3) :
    Calls Tryd.prog 9 #[.agg (obV p x)] w (OpPost w x) := by
  have hbl : Below w.heap.size w (w.alloc (.cells (obV p x) 27)) := (Below.refl _ _).alloc (Nat.le_refl _) _
  have hck := check_obj (h.below hbl)
  have hnew := heap_alloc_new w (.cells (obV p x) 27)
  rw [h0] at hck
  have hs := may_small (chk_may h0)
  have hm := (h.mono (T := fun k => k < w.heap.size) fun k hk _ => hk).below hbl
  have HPO : Hid (chkO x = 0 ∧ poB x = putO x) := Lib.hid ⟨h0, by unfold poB; rw [if_pos h0]⟩
  clear h h0
  obtain ⟨A, n, c, IA, i, ic, EA, m, mc⟩ := p
  obtain ⟨k, b, z, ids, es, lb⟩ := x
  simp only at hk
  subst hk
  obtain ⟨CS, hCS⟩ : ∃ CS, CS = obV ⟨A, n, c, IA, i, ic, EA, m, mc⟩ ⟨3, b, z, ids, es, lb⟩ := ⟨_, rfl⟩
  rw [← hCS] at hbl hck hnew hm ⊢
  have HCS := Lib.hid hCS
  have HS := Lib.hid hs
  have HX := Lib.hid (And.intro hbl (And.intro hnew hm))
  clear hbl hnew hm hCS hs
  go_enter Tryd.func9, Tryd.ntmps9
  go_upto_region 4 with (first
    | (refine wpList_load_row (by rfl) 27 (.tmp 1) (by rfl) w.heap.size (by rfl) 27 CS (0, 0) _ HX.out.2.1 Tryd.underlying27 (by rfl) (by rw [HCS.out]; exact ob_info) ?_)
    | (go_at_call 12; refine hck.mono ?_; clear hck; rintro _ w0 ⟨rfl, hb0⟩))
  have HB0 : Hid (Below w.heap.size w w0 ∧ w.heap.size < w0.heap.size) := Lib.hid ⟨HX.out.1.trans (hb0.mono HX.out.1.size), Nat.lt_of_lt_of_le (lt_of_cells HX.out.2.1) hb0.size⟩
  have HC : Hid (∀ W, Below w0.heap.size w0 W → ∀ j, W.cell? ⟨w.heap.size, j, none⟩ = (obV ⟨A, n, c, IA, i, ic, EA, m, mc⟩ ⟨3, b, z, ids, es, lb⟩)[j]?) := Lib.hid fun W hW j => by
    have h1 := (hb0.block w.heap.size (lt_of_cells HX.out.2.1)).trans HX.out.2.1
    have h2 := (hW.block w.heap.size (lt_of_cells h1)).trans h1
    rw [cell_of_cells h2, HCS.out]
  have HM : Hid (∀ W, Below w0.heap.size w0 W → Obm W (fun k => k < w0.heap.size) ⟨A, n, c, IA, i, ic, EA, m, mc⟩ ⟨3, b, z, ids, es, lb⟩) := Lib.hid fun W hW => ((HX.out.2.2.mono (T := fun k => k < w0.heap.size) fun k _ h => by have := HB0.out.2; omega).below hb0).below hW
  have hnw := newWriter w0
  clear hb0
  go_upto_region 5 with (go_at_call 18; refine hnw.mono ?_; clear hnw; rintro _ w1 ⟨q, rfl, hw1, hb1⟩)
  have HO := Lib.hid (OpT.start hw1 hb1)
  clear hw1 hb1
  have hc0 : w1.cell? ⟨w.heap.size, 0, none⟩ = some (.int .u8 3) := (HC.out _ HO.out.bel 0).trans rfl
  have h2 := HO.out.uint (x := 3) (by omega) (by simp)
  go_upto_region 6 with (go_at_call 19; refine h2.mono ?_; clear h2; rintro _ w2 ⟨rfl, ho2⟩)
  have HO2 := Lib.hid ho2
  have hc0 : w2.cell? ⟨w.heap.size, 0, none⟩ = some (.int .u8 3) := (HC.out _ HO2.out.bel 0).trans rfl
  have hc4 : w2.cell? ⟨w.heap.size, 4, none⟩ = some (.slice EA m mc) := (HC.out _ HO2.out.bel 4).trans rfl
  have hlen := (HM.out _ HO2.out.bel).o.es.len
  have HI : Hid (es.length = m ∧ m ≤ 500 ∧ (∀ y ∈ es, y.1.length ≤ 255) ∧ ∀ y ∈ es, y.2.2.length = 32) := Lib.hid ⟨hlen, by have := HS.out.es; simp only at this hlen; omega, HS.out.nm, (HM.out _ HO2.out.bel).o.wf.es⟩
  clear hlen ho2
  have h3 := HO2.out.uint (x := m) (by have := HI.out.2.1; omega) (by have := put_length_64 (x := 3) (by omega); simp; omega)
  have hcv := IntWalk.u64_in (m : Int) (by have := HI.out.2.1; omega)
  go_upto_region 19 with (go_at_call 19; refine h3.mono ?_; clear h3; rintro _ w3 ⟨rfl, ho3⟩)
  have hc4b : w3.cell? ⟨w.heap.size, 4, none⟩ = some (.slice EA m mc) := (HC.out _ ho3.bel 4).trans rfl
  obtain ⟨pre, hpre⟩ : ∃ pre, pre = ([] ++ put 3 ++ put m : List UInt8) := ⟨_, rfl⟩
  rw [← hpre] at ho3
  have HPRE : Hid (pre = put 3 ++ put m ∧ pre.length ≤ 20) := Lib.hid ⟨by rw [hpre]; simp, by rw [hpre]; have := put_length_64 (x := 3) (by omega); have := put_length_64 (x := m) (by have := HI.out.2.1; omega); simp; omega⟩
  have HOI : Hid (OpE w0 q pre es (.int .i64 0) w3) := Lib.hid ⟨0, Nat.zero_le _, rfl, by simpa [ensB] using ho3⟩
  have hze := zero_en
  clear ho3 hpre hcv hc0 hc4
  go_wp2_with fail
  clear hc4b
  go_loopw [63] (fun i wr => OpE w0 q pre es i wr) (fun v _ => m - (intOf v).toNat)
  case atStart => exact HOI.out
  case round =>
    obtain ⟨j, hj, rfl, hop⟩ := hrel
    have HOP := Lib.hid hop
    clear hop HOI
    by_cases hlt : j < m
    · have hlt' : (j : Int) < (m : Int) := by omega
      have hadd := IntWalk.i64_in ((j : Int) + 1) (by have := HI.out.2.1; omega)
      obtain ⟨g, off, y, hEA, _, hglt, hy, h32, hcs⟩ := (HM.out _ HOP.out.bel).o.es.at_ hlt
      simp only at hEA hy
      subst hEA
      have HY := Lib.hid (And.intro hy (And.intro h32 (And.intro hlt (And.intro (HI.out.2.2.1 y (List.mem_of_getElem? hy)) (ens_take (by have := HI.out.1; have := HI.out.2.1; omega) HI.out.2.2.1 HI.out.2.2.2 j)))))
      obtain ⟨YS, hYS⟩ : ∃ YS, YS = enV y := ⟨_, rfl⟩
      rw [← hYS] at hcs
      have HYS : Hid (YS = enV y ∧ YS.size = 34 ∧ (∀ (j_1 : Nat) (v : Value), YS[j_1]? = some v → wr.cell? ((⟨g, off + j * 34, none⟩ : Addr).add j_1) = some v) ∧ YS.all (·.oneCell') = true) := Lib.hid ⟨hYS, by rw [hYS, enV_size h32], fun a v hv => by rw [add_plain]; exact hcs a v hv, by rw [hYS]; exact enV_all y⟩
      obtain ⟨ZE, hZE⟩ : ∃ ZE, ZE = zeroEn := ⟨_, rfl⟩
      rw [← hZE] at hze
      have HZE : Hid (ZE.size = 34) := Lib.hid (by rw [hZE, zeroEn_en, enV_size (by simp)])
      clear hy h32 hYS hcs hlt hj hglt hZE
      go_upto_region 22 with (first
        | (refine wpList_load_at (by rfl) 51 (.tmp 65) (by rfl) ⟨g, off + j * 34, none⟩ (by rfl) YS _ HYS.out.2.2.1 Tryd.underlying51 (by rfl) (by rw [HYS.out.2.1]; exact en_info) ?_)
        | (refine wpList_store_row (by rfl) 51 (.tmp 9) (.tmp 66) (by rfl) wr.heap.size YS (by rfl) (by rfl) 51 _ (heap_alloc_new wr _) (by rw [HYS.out.2.1]; exact en_info) (by rw [HYS.out.2.1, HZE.out]) HYS.out.2.2.2 ?_))
      have hal : Below wr.heap.size wr ((wr.alloc (.cells ZE 51)).setRow wr.heap.size YS) := below_setRow ((Below.refl _ _).alloc (Nat.le_refl _) _) (Nat.le_refl _) _
      have hpa : ((wr.alloc (.cells ZE 51)).setRow wr.heap.size YS).heap[wr.heap.size]? = some (.cells YS 51 (0, 0)) := setRow_at (heap_alloc_new wr _)
      have H5 := Lib.hid (And.intro hal (And.intro hpa (show ((wr.alloc (.cells ZE 51)).setRow wr.heap.size YS).heap.size = wr.heap.size + 1 by simp [World.setRow])))
      clear hal hpa hze
      generalize (wr.alloc (.cells ZE 51)).setRow wr.heap.size YS = w5 at *
      have HO5 := Lib.hid (HOP.out.but H5.out.1 rfl H5.out.2.2)
      obtain ⟨e0, he0⟩ : ∃ e0, e0 = wr.heap.size := ⟨_, rfl⟩
      have HE5 : Hid (w5.heap[e0]? = some (.cells YS 51 (0, 0)) ∧ e0 < w5.heap.size) := Lib.hid ⟨by rw [he0]; exact H5.out.2.1, by rw [he0, H5.out.2.2]; omega⟩
      have HCE : Hid (∀ W, Turned (fun k => w0.heap.size ≤ k ∧ k ≠ e0) w5 W → W.heap[e0]? = some (.cells YS 51 (0, 0))) := Lib.hid fun W hW => (hW.block e0 HE5.out.2 (fun h => h.2 rfl)).trans HE5.out.1
      have HW0 := Lib.hid he0
      rw [← he0] at HO5
      rw [← he0]
      clear he0
      have hf0 : w5.cell? ⟨e0, 0, none⟩ = some (.string (st y.1)) := by rw [cell_of_cells HE5.out.1, HYS.out.1]; exact enV_0 y
      obtain ⟨c6, w6, hcv6, hb6, hy6⟩ := conv_bytes y.1 (by have := HY.out.2.2.2.1; omega) w5
      have h6 := HO5.out.bytes_new hb6 (hy6.mono fun k _ (h : k = w5.heap.size) => by omega) (by have := HPRE.out.2; have := HY.out.2.2.2.1; have := HY.out.2.2.2.2; rw [List.length_append]; omega)
      clear hb6 hy6
      go_upto_region 23 with (go_at_call 20; refine h6.mono ?_; clear h6; rintro _ w7 ⟨rfl, ho7⟩; have HO7 := Lib.hid ho7; clear ho7)
      clear hcv6 hf0
      have hf1 : w7.cell? ⟨e0, 1, none⟩ = some (.bool y.2.1) := by rw [cell_of_cells (HCE.out _ HO7.out.tn), HYS.out.1]; exact enV_1 y
      have hpl := put_length_64 (x := y.1.length) (by have := HY.out.2.2.2.1; omega)
      have h7 := HO7.out.bool y.2.1 (by have := HPRE.out.2; have := HY.out.2.2.2.1; have := HY.out.2.2.2.2; simp only [List.length_append]; omega)
      have HPL := Lib.hid hpl
      clear hpl
      go_upto_region 24 with (go_at_call 22; refine h7.mono ?_; clear h7; rintro _ w8 ⟨rfl, ho8⟩; have HO8 := Lib.hid ho8; clear ho8)
      clear hf1
      have hby : Byt w8 (fun _ => True) (some ⟨e0, 2, none⟩) 32 32 y.2.2 := byt_id trivial (lt_of_cells (HCE.out _ HO8.out.tn)) HY.out.2.1 fun a v hv => by rw [cell_of_cells (HCE.out _ HO8.out.tn), HYS.out.1]; exact enV_id hv
      have h8 := HO8.out.fixed hby (by have := HPRE.out.2; have := HY.out.2.2.2.1; have := HY.out.2.2.2.2; have := HPL.out; have : (yesB y.2.1).length = 1 := (by cases y.2.1 <;> rfl); simp only [List.length_append]; omega)
      clear hby
      have hge : e0 < w8.heap.size := lt_of_cells (HCE.out _ HO8.out.tn)
      go_wp2_with (go_at_call 21; refine h8.mono ?_; clear h8; rintro _ w9 ⟨rfl, ho9⟩; have HO9 := Lib.hid ho9; clear ho9)
      go_roundw
      case rel =>
        unfold OpE
        refine ⟨j + 1, by have := HY.out.2.2.1; have := HI.out.1; omega, by simp, ?_⟩
        rw [ens_succ HY.out.1, show pre ++ (ensB (es.take j) ++ enB y) = pre ++ ensB (es.take j) ++ (put y.1.length ++ y.1) ++ yesB y.2.1 ++ y.2.2 by simp [enB]]
        exact OpT.back HOP.out H5.out.1 HO9.out
      case measure => have := HY.out.2.2.1; simp only [intOf]; omega
    · have hlt' : ¬ (j : Int) < (m : Int) := by omega
      have hfull : es.take j = es := List.take_of_length_le (by have := HI.out.1; omega)
      have ho3 := HOP.out
      rw [hfull] at ho3
      have htk := ens_take (l := es) (by have := HI.out.1; have := HI.out.2.1; omega) HI.out.2.2.1 HI.out.2.2.2 es.length
      rw [List.take_length] at htk
      obtain ⟨wz, hwz⟩ : ∃ wz, wz = wr := ⟨_, rfl⟩
      rw [← hwz] at ho3
      subst hwz
      have HF : Hid (OpT (w0.heap.size ≤ ·) w0 wz q (putO ⟨3, b, z, ids, es, lb⟩) ∧ (putO ⟨3, b, z, ids, es, lb⟩).length ≤ 1000000) := Lib.hid ⟨by have h := ho3; rw [HPRE.out.1] at h; simp only [putO, HI.out.1]; exact h, by have h1 := HPRE.out.1; have h2 := HPRE.out.2; have h3 : putO ⟨3, b, z, ids, es, lb⟩ = pre ++ ensB es := (by show put 3 ++ put es.length ++ ensB es = _; rw [h1, HI.out.1]); rw [h3, List.length_append]; omega⟩
      clear ho3 htk hfull hj hlt
      have hout := wout HF.out.1.wr (by have := HF.out.2; omega)
      obtain ⟨M, hM⟩ : ∃ M, M = (putO ⟨3, b, z, ids, es, lb⟩).length := ⟨_, rfl⟩
      rw [← hM] at hout
      clear hM
      go_wp2_with (go_at_call 23; refine hout.mono ?_; clear hout; rintro _ w8 ⟨A8, c8, rfl, hy8, hb8, _⟩; have H8 := Lib.hid (And.intro hy8 hb8); clear hy8 hb8)
      go_ret2
      have hbz := HB0.out.1.trans (HF.out.1.bel.mono HB0.out.1.size)
      exact ⟨A8, _, c8, by rw [HPO.out.1]; rfl, by rw [HPO.out.2]; exact H8.out.1.mono fun k _ hk => Nat.le_trans hbz.size hk, hbz.trans (H8.out.2.mono hbz.size)⟩
set_option maxHeartbeats 16000000 in
set_option maxRecDepth 100000 in
theorem oput4 {w : World} {S : Nat → Prop} {p : At} {x : Ob} (h : Obm w S p x) (h0 : chkO x = 0) (hk : x.k = 4) :
    Calls Tryd.prog 9 #[.agg (obV p x)] w (OpPost w x) := by
  have hbl : Below w.heap.size w (w.alloc (.cells (obV p x) 27)) := (Below.refl _ _).alloc (Nat.le_refl _) _
  have hck := check_obj (h.below hbl)
  have hnew := heap_alloc_new w (.cells (obV p x) 27)
  rw [h0] at hck
  have hs := may_small (chk_may h0)
  have hm := (h.mono (T := fun k => k < w.heap.size) fun k hk _ => hk).below hbl
  have HPO : Hid (chkO x = 0 ∧ poB x = putO x) := Lib.hid ⟨h0, by unfold poB; rw [if_pos h0]⟩
  clear h h0
  obtain ⟨A, n, c, IA, i, ic, EA, m, mc⟩ := p
  obtain ⟨k, b, z, ids, es, lb⟩ := x
  simp only at hk
  subst hk
  obtain ⟨CS, hCS⟩ : ∃ CS, CS = obV ⟨A, n, c, IA, i, ic, EA, m, mc⟩ ⟨4, b, z, ids, es, lb⟩ := ⟨_, rfl⟩
  rw [← hCS] at hbl hck hnew hm ⊢
  have HCS := Lib.hid hCS
  have HS := Lib.hid hs
  have HX := Lib.hid (And.intro hbl (And.intro hnew hm))
  clear hbl hnew hm hCS hs
  go_enter Tryd.func9, Tryd.ntmps9
  go_upto_region 4 with (first
    | (refine wpList_load_row (by rfl) 27 (.tmp 1) (by rfl) w.heap.size (by rfl) 27 CS (0, 0) _ HX.out.2.1 Tryd.underlying27 (by rfl) (by rw [HCS.out]; exact ob_info) ?_)
    | (go_at_call 12; refine hck.mono ?_; clear hck; rintro _ w0 ⟨rfl, hb0⟩))
  have HB0 : Hid (Below w.heap.size w w0 ∧ w.heap.size < w0.heap.size) := Lib.hid ⟨HX.out.1.trans (hb0.mono HX.out.1.size), Nat.lt_of_lt_of_le (lt_of_cells HX.out.2.1) hb0.size⟩
  have HC : Hid (∀ W, Below w0.heap.size w0 W → ∀ j, W.cell? ⟨w.heap.size, j, none⟩ = (obV ⟨A, n, c, IA, i, ic, EA, m, mc⟩ ⟨4, b, z, ids, es, lb⟩)[j]?) := Lib.hid fun W hW j => by
    have h1 := (hb0.block w.heap.size (lt_of_cells HX.out.2.1)).trans HX.out.2.1
    have h2 := (hW.block w.heap.size (lt_of_cells h1)).trans h1
    rw [cell_of_cells h2, HCS.out]
  have HM : Hid (∀ W, Below w0.heap.size w0 W → Obm W (fun k => k < w0.heap.size) ⟨A, n, c, IA, i, ic, EA, m, mc⟩ ⟨4, b, z, ids, es, lb⟩) := Lib.hid fun W hW => ((HX.out.2.2.mono (T := fun k => k < w0.heap.size) fun k _ h => by have := HB0.out.2; omega).below hb0).below hW
  have hnw := newWriter w0
  clear hb0
  go_upto_region 5 with (go_at_call 18; refine hnw.mono ?_; clear hnw; rintro _ w1 ⟨q, rfl, hw1, hb1⟩)
  have HO := Lib.hid (OpT.start hw1 hb1)
  clear hw1 hb1
  have hc0 : w1.cell? ⟨w.heap.size, 0, none⟩ = some (.int .u8 4) := (HC.out _ HO.out.bel 0).trans rfl
  have h2 := HO.out.uint (x := 4) (by omega) (by simp)
  go_upto_region 6 with (go_at_call 19; refine h2.mono ?_; clear h2; rintro _ w2 ⟨rfl, ho2⟩)
  have HO2 := Lib.hid ho2
  have hc0 : w2.cell? ⟨w.heap.size, 0, none⟩ = some (.int .u8 4) := (HC.out _ HO2.out.bel 0).trans rfl
  have hc2 : w2.cell? ⟨w.heap.size, 2, none⟩ = some (.int .u64 (z : Int)) := (HC.out _ HO2.out.bel 2).trans rfl
  have HZ := Lib.hid (show z < 18446744073709551616 from (HM.out _ HO2.out.bel).o.wf.z)
  have HL4 : Hid (ids.length = 1 ∧ lb.length ≤ 255) := Lib.hid (by
    rcases may_cases (chk_may HPO.out.1) with h | h | h | h
    · exact absurd h.1 (by simp)
    · exact absurd h.1 (by simp)
    · exact absurd h.1 (by simp)
    · exact ⟨h.2.1, h.2.2.1⟩)
  have h3 := HO2.out.uint (x := z) HZ.out (by have := put_length_64 (x := 4) (by omega); simp; omega)
  clear ho2
  go_upto_region 28 with (go_at_call 19; refine h3.mono ?_; clear h3; rintro _ w3 ⟨rfl, ho3⟩)
  have HO3 := Lib.hid ho3
  clear ho3 hc2 hc0
  have hids := (HM.out _ HO3.out.bel).o.ids
  have hi1 : i = 1 := by have h1 := hids.len; have h2 := HL4.out.1; simp only at h1; omega
  subst hi1
  obtain ⟨g, off, hIA, hglt, h32, hcs⟩ := hids.at_ (i := 0) (by simp)
  simp only at hIA
  subst hIA
  have hy : ids = [ids[0]?.getD []] := by
    obtain ⟨a, rfl⟩ := List.length_eq_one_iff.1 HL4.out.1
    rfl
  generalize ids[0]?.getD [] = y at *
  have HY := Lib.hid (And.intro hy h32)
  have hby : Byt w3 (fun _ => True) (some ⟨g, off, none⟩) 32 32 y := byt_id trivial hglt h32 fun a v hv => by
    have := hcs a v hv
    rw [add_plain] at this
    simpa using this
  have hc3 : w3.cell? ⟨w.heap.size, 3, none⟩ = some (.slice (some ⟨g, off, none⟩) 1 ic) := (HC.out _ HO3.out.bel 3).trans rfl
  have h4 := HO3.out.fixed hby (by have := put_length_64 (x := 4) (by omega); have := put_length_64 (x := z) HZ.out; simp; omega)
  clear hids hcs hby hy h32
  go_upto_region 29 with (go_at_call 21; refine h4.mono ?_; clear h4; rintro _ w4 ⟨rfl, ho4⟩)
  clear hc3
  have HO4 := Lib.hid ho4
  clear ho4 hglt
  have hc5 : w4.cell? ⟨w.heap.size, 5, none⟩ = some (.string (st lb)) := (HC.out _ HO4.out.bel 5).trans rfl
  obtain ⟨c6, w6, hcv6, hb6, hy6⟩ := conv_bytes lb (by have := HL4.out.2; omega) w4
  have h5 := HO4.out.bytes_new hb6 (hy6.mono fun k _ (h : k = w4.heap.size) => by omega) (by have := put_length_64 (x := 4) (by omega); have := put_length_64 (x := z) HZ.out; have := HL4.out.2; have := HY.out.2; simp; omega)
  clear hb6 hy6
  go_upto_region 30 with (go_at_call 20; refine h5.mono ?_; clear h5; rintro _ wz ⟨rfl, ho5⟩)
  clear hcv6 hc5
  have HF : Hid (OpT (w0.heap.size ≤ ·) w0 wz q (putO ⟨4, b, z, ids, es, lb⟩) ∧ (putO ⟨4, b, z, ids, es, lb⟩).length ≤ 1000000) := Lib.hid ⟨by have h := ho5; simp only [putO]; rw [show ids.flatten = y by (rw [HY.out.1]; simp)]; simpa using h, by have h1 := HL4.out.2; have h2 := put_length_64 (x := 4) (by omega); have h3 := put_length_64 (x := z) HZ.out; have h4 := put_length_64 (x := lb.length) (by omega); have h5 := HY.out.2; have h6 : putO ⟨4, b, z, ids, es, lb⟩ = put 4 ++ put z ++ ids.flatten ++ (put lb.length ++ lb) := rfl; rw [h6, show ids.flatten = y by (rw [HY.out.1]; simp)]; simp only [List.length_append]; omega⟩
  clear ho5
  have hout := wout HF.out.1.wr (by have := HF.out.2; omega)
  obtain ⟨M, hM⟩ : ∃ M, M = (putO ⟨4, b, z, ids, es, lb⟩).length := ⟨_, rfl⟩
  rw [← hM] at hout
  clear hM
  go_wp2_with (go_at_call 23; refine hout.mono ?_; clear hout; rintro _ w8 ⟨A8, c8, rfl, hy8, hb8, _⟩; have H8 := Lib.hid (And.intro hy8 hb8); clear hy8 hb8)
  go_ret2
  have hbz := HB0.out.1.trans (HF.out.1.bel.mono HB0.out.1.size)
  exact ⟨A8, _, c8, by rw [HPO.out.1]; rfl, by rw [HPO.out.2]; exact H8.out.1.mono fun k _ hk => Nat.le_trans hbz.size hk, hbz.trans (H8.out.2.mono hbz.size)⟩
theorem oput_any {w : World} {S : Nat → Prop} {p : At} {x : Ob} (h : Obm w S p x) :
    Calls Tryd.prog 9 #[.agg (obV p x)] w (OpPost w x) := by
  by_cases h0 : chkO x = 0
  · rcases may_cases (chk_may h0) with h1 | h1 | h1 | h1
    · exact oput1 h h0 h1.1
    · exact oput2 h h0 h1.1
    · exact oput3 h h0 h1.1
    · exact oput4 h h0 h1.1
  · exact oput_bad h h0
end Go.Proofs.YtmakpjcgiiljfaaDoor

/-! codec.Reader.Id of a reader that is none. -/
namespace Go.Proofs.YtmakpjcgiiljfaaDoor
open Go.RowKit Codec

set_option maxHeartbeats 1000000 in
theorem id_nil (w : World) : Calls Tryd.prog 48 #[.pointer none] w fun r w' => r = .returned (.agg Z32) ∧ Below w.heap.size w w' := by
  have hnil := fun (w : World) (a : Option Addr) (n c : Nat) => Lib.run_eql_slice_nil (P := Tryd.prog) w 22 5 a n c 0 0 Tryd.underlying22
  go_enter Tryd.func48, Tryd.ntmps48
  go_wp2_with fail
  refine (take_nil _ _).mono ?_
  rintro _ _ ⟨rfl, rfl⟩
  have hg1 := heap_alloc_new w (.cells #[.int .u8 0, .int .u8 0, .int .u8 0, .int .u8 0, .int .u8 0, .int .u8 0, .int .u8 0, .int .u8 0, .int .u8 0, .int .u8 0, .int .u8 0, .int .u8 0, .int .u8 0, .int .u8 0, .int .u8 0, .int .u8 0,
    .int .u8 0, .int .u8 0, .int .u8 0, .int .u8 0, .int .u8 0, .int .u8 0, .int .u8 0, .int .u8 0, .int .u8 0, .int .u8 0, .int .u8 0, .int .u8 0, .int .u8 0, .int .u8 0, .int .u8 0, .int .u8 0] 49)
  go_wp2_with (first | (refine wpList_build0 (by rfl) 49 (by rfl) (.agg Z32) build_id ?_) | (refine wpList_store_row (by rfl) 49 (.tmp 2) (.tmp 8) (by rfl) w.heap.size Z32 (by rfl) (by rfl) 49 _ hg1 (by unfold Z32; rw [zeros32]; exact id_info) (by unfold Z32; rw [zeros32]) (u8s_allc _) ?_))
  refine bodyPost_ret (results_cell_row rfl _ _ w.heap.size 49 Z32 (0, 0) _ rfl (setRow_at hg1) Tryd.underlying49 rfl (by unfold Z32; rw [zeros32]; exact id_info)) rfl ⟨rfl, ?_⟩
  have h1 : Below w.heap.size w (w.alloc (.cells #[.int .u8 0, .int .u8 0, .int .u8 0, .int .u8 0, .int .u8 0, .int .u8 0, .int .u8 0, .int .u8 0, .int .u8 0, .int .u8 0, .int .u8 0, .int .u8 0, .int .u8 0, .int .u8 0, .int .u8 0, .int .u8 0,
    .int .u8 0, .int .u8 0, .int .u8 0, .int .u8 0, .int .u8 0, .int .u8 0, .int .u8 0, .int .u8 0, .int .u8 0, .int .u8 0, .int .u8 0, .int .u8 0, .int .u8 0, .int .u8 0, .int .u8 0, .int .u8 0] 49)) := (Below.refl _ _).alloc (Nat.le_refl _) _
  exact h1.trans (below_gr (gr_row _ _ _) (Nat.le_refl _) (by simp))
end Go.Proofs.YtmakpjcgiiljfaaDoor

/-! The document's example at the head of each statement of layer 1: it answers true, and writes nothing that was there. -/
namespace Go.Proofs.YtmakpjcgiiljfaaDoor
open Go.RowKit Codec

theorem Wr.drew {w : World} {S : Nat → Prop} {p : Nat} {l : List UInt8} (h : Wr w S p l) : Wr w.drew S p l := h.turned (T := fun _ => False) ((Turned.refl _ w).drew) (fun _ _ _ hf => hf)
theorem Rd.drew {w : World} {S : Nat → Prop} {p : Nat} {l : List UInt8} {e : Int} (h : Rd w S p l e) : Rd w.drew S p l e := h.turned (T := fun _ => False) ((Turned.refl _ w).drew) (fun _ _ _ hf => hf)
theorem Wr.drewN {w : World} {S : Nat → Prop} {p : Nat} {l : List UInt8} (h : Wr w S p l) (k : Nat) : Wr (w.drewN k) S p l := h.turned (T := fun _ => False) ((Turned.refl _ w).drewN k) (fun _ _ _ hf => hf)
theorem Rd.drewN {w : World} {S : Nat → Prop} {p : Nat} {l : List UInt8} {e : Int} (h : Rd w S p l e) (k : Nat) : Rd (w.drewN k) S p l e := h.turned (T := fun _ => False) ((Turned.refl _ w).drewN k) (fun _ _ _ hf => hf)


theorem put300 : put 300 = [172, 2] := by rw [put_big (by omega), put_small (by omega)]; rfl
theorem put2 : put 2 = [2] := by rw [put_small (by omega)]; rfl

end Go.Proofs.YtmakpjcgiiljfaaDoor

/-! A region that draws its order where, at one place, either of two operations may come up first: the plan is a tree. -/
namespace Go.Proofs.YtmakpjcgiiljfaaDoor
open Go.RowKit
inductive Tree where
  | last (q : List Nat)
  | one (q : List Nat) (e : Nat) (t : Tree)
  | two (q : List Nat) (e1 : Nat) (t1 : Tree) (e2 : Nat) (t2 : Tree)
namespace Tree
def size : Tree → Nat
  | last q => q.length
  | one q _ t => q.length + (t.size + 1)
  | two q _ t1 _ _ => q.length + (t1.size + 1)
end Tree
section
variable {P : Program} {ops : Array Oper} {Q : Exit → Act → World → Prop} {md : Region.Mode}
def wpTree (P : Program) (ops : Array Oper) (Q : Exit → Act → World → Prop) : (World → Prop) → Tree → Act → World → Prop
  | C, .last q, a, w => wpSeg P ops C (fun a' => Q .normal a' w) q a
  | C, .one q e t, a, w => wpSeg P ops C (fun a1 => wpOp P ops Q e (fun a2 w2 => ∃ C' : World → Prop, C' w2 ∧ (∀ W, C' W → C W) ∧ wpTree P ops Q C' t a2 w2) a1 w) q a
  | C, .two q e1 t1 e2 t2, a, w => wpSeg P ops C (fun a1 => wpOp P ops Q e1 (fun a2 w2 => ∃ C' : World → Prop, C' w2 ∧ (∀ W, C' W → C W) ∧ wpTree P ops Q C' t1 a2 w2) a1 w ∧
      wpOp P ops Q e2 (fun a2 w2 => ∃ C' : World → Prop, C' w2 ∧ (∀ W, C' W → C W) ∧ wpTree P ops Q C' t2 a2 w2) a1 w) q a
def treeB (md : Region.Mode) (ops : Array Oper) : Array Bool → Tree → Bool
  | listed, .last q => segB md ops listed q && (Region.ready md ops (listedBy listed q)).isEmpty
  | listed, .one q e t => segB md ops listed q && (Region.ready md ops (listedBy listed q) == [e]) && treeB md ops ((listedBy listed q).setIfInBounds e true) t
  | listed, .two q e1 t1 e2 t2 => segB md ops listed q && (Region.ready md ops (listedBy listed q) == [e1, e2]) && (treeB md ops ((listedBy listed q).setIfInBounds e1 true) t1 && (treeB md ops ((listedBy listed q).setIfInBounds e2 true) t2 && (t1.size == t2.size)))

theorem wpAnyH_tree (hs : Region.noSelect ops = true) (hQ : ∀ c a d v w, Q (.panic c) (Act.put a d v) w → Q (.panic c) a w) :
    ∀ (t : Tree) (C : World → Prop) (listed : Array Bool) (a : Act) (w : World), C w → treeB md ops listed t = true → wpTree P ops Q C t a w → wpAnyH P md ops Q C t.size listed a w
  | .last q, C, listed, a, w, hC, hB, h => by
    simp only [treeB, Bool.and_eq_true] at hB
    have := wpAnyH_seg (fuel := 0) hs hQ hC q listed a hB.1 h fun a' h' => wpAnyH_done (by simpa using hB.2) h' 0
    simpa [Tree.size] using this
  | .one q e t, C, listed, a, w, hC, hB, h => by
    simp only [treeB, Bool.and_eq_true, beq_iff_eq] at hB
    obtain ⟨⟨hB1, hB2⟩, hB3⟩ := hB
    have := wpAnyH_seg (fuel := t.size + 1) hs hQ hC q listed a hB1 h fun a' h' => by
      refine wpAnyH_all hB2 (by simp) fun i hi => ?_
      rw [List.mem_singleton.1 hi]
      refine wpOp_mono ?_ h'
      rintro a2 w2 ⟨C', hC', hsub, hp⟩
      exact ⟨hsub _ hC', wpAnyH_mono hsub _ _ _ _ (wpAnyH_tree hs hQ t C' _ a2 w2 hC' hB3 hp)⟩
    simpa [Tree.size, Nat.add_comm, Nat.add_left_comm] using this
  | .two q e1 t1 e2 t2, C, listed, a, w, hC, hB, h => by
    simp only [treeB, Bool.and_eq_true, beq_iff_eq] at hB
    obtain ⟨⟨hB1, hB2⟩, hB3, hB4, hB5⟩ := hB
    have := wpAnyH_seg (fuel := t1.size + 1) hs hQ hC q listed a hB1 h fun a' h' => by
      refine wpAnyH_all hB2 (by simp) fun i hi => ?_
      simp only [List.mem_cons, List.not_mem_nil, or_false] at hi
      rcases hi with rfl | rfl
      · refine wpOp_mono ?_ h'.1
        rintro a2 w2 ⟨C', hC', hsub, hp⟩
        exact ⟨hsub _ hC', wpAnyH_mono hsub _ _ _ _ (wpAnyH_tree hs hQ t1 C' _ a2 w2 hC' hB3 hp)⟩
      · refine wpOp_mono ?_ h'.2
        rintro a2 w2 ⟨C', hC', hsub, hp⟩
        rw [hB5]
        exact ⟨hsub _ hC', wpAnyH_mono hsub _ _ _ _ (wpAnyH_tree hs hQ t2 C' _ a2 w2 hC' hB4 hp)⟩
    simpa [Tree.size, Nat.add_comm, Nat.add_left_comm] using this

/-- THE LAW. -/
theorem wp_region_tree {id : Nat} {a : Act} {w : World} (C : World → Prop) (t : Tree) (hm : P.follows .mixedOrders = true)
    (hB : (Region.noSelect ops && treeB .any ops (Array.replicate ops.size false) t && (t.size == ops.size)) = true)
    (hQ : ∀ c a d v w, Q (.panic c) (Act.put a d v) w → Q (.panic c) a w) (hC : C w.drew) (h : wpTree P ops Q C t a w.drew) : (Code.region id ops true).wp P Q a w := by
  simp only [Bool.and_eq_true, beq_iff_eq] at hB
  obtain ⟨⟨h1, h2⟩, h3⟩ := hB
  have hf := wpAnyH_tree (md := .any) h1 hQ t C _ a _ hC h2 h
  rw [h3] at hf
  exact wp_region_held hm hf
theorem tree_last {C : World → Prop} {q : List Nat} {a : Act} {w : World} (h : wpSeg P ops C (fun a' => Q .normal a' w) q a) : wpTree P ops Q C (.last q) a w := h
theorem tree_one {C : World → Prop} {q : List Nat} {e : Nat} {t : Tree} {a : Act} {w : World}
    (h : wpSeg P ops C (fun a1 => wpOp P ops Q e (fun a2 w2 => ∃ C' : World → Prop, C' w2 ∧ (∀ W, C' W → C W) ∧ wpTree P ops Q C' t a2 w2) a1 w) q a) : wpTree P ops Q C (.one q e t) a w := h
theorem tree_two {C : World → Prop} {q : List Nat} {e1 e2 : Nat} {t1 t2 : Tree} {a : Act} {w : World}
    (h : wpSeg P ops C (fun a1 => wpOp P ops Q e1 (fun a2 w2 => ∃ C' : World → Prop, C' w2 ∧ (∀ W, C' W → C W) ∧ wpTree P ops Q C' t1 a2 w2) a1 w ∧
      wpOp P ops Q e2 (fun a2 w2 => ∃ C' : World → Prop, C' w2 ∧ (∀ W, C' W → C W) ∧ wpTree P ops Q C' t2 a2 w2) a1 w) q a) : wpTree P ops Q C (.two q e1 t1 e2 t2) a w := h
end
end Go.Proofs.YtmakpjcgiiljfaaDoor

/-! The document's answers that the codec's statements use: how a number is put (by calling itself), and a row with its length. -/
namespace Go.Proofs.YtmakpjcgiiljfaaDoor
open Go.RowKit Codec

def strB (l : List UInt8) : ByteArray := ⟨l.toArray⟩
theorem strB_append (l m : List UInt8) : strB l ++ strB m = strB (l ++ m) := by
  apply ByteArray.ext; simp [strB]

/-- One byte in a slice of its own. -/
theorem byt_one (w : World) (v : UInt8) : Byt (w.alloc (.cells #[.int .u8 (v.toNat : Int)] 5)) (w.heap.size ≤ ·) (some ⟨w.heap.size, 0, none⟩) 1 1 [v] :=
  ⟨rfl, Nat.le_refl _, by unfold maxLen; omega, fun _ => ⟨w.heap.size, 0, rfl, Nat.le_refl _, by simp, fun i hi => by
    obtain rfl : i = 0 := by omega
    rw [cell_of_cells (heap_alloc_new w _)]; rfl⟩⟩
/-- 'string([]byte{v})'. -/
theorem str_one (w : World) (v : UInt8) : (convert 22 9 (.slice (some ⟨w.heap.size, 0, none⟩) 1 1)).run Tryd.prog (w.alloc (.cells #[.int .u8 (v.toNat : Int)] 5)) = .ok (.string (strB [v])) (w.alloc (.cells #[.int .u8 (v.toNat : Int)] 5)) :=
  byt_string (byt_one w v)
theorem u8_small {x : Nat} (h : x < 256) : ((UInt8.ofNat x).toNat : Int) = (x : Int) := by simp; omega

theorem wrap_quo (x : Nat) (hx : x < 18446744073709551616) : IntKind.u64.wrap ((x : Int) / 128) = ((x / 128 : Nat) : Int) := by
  have : ((x : Int) / 128) = ((x / 128 : Nat) : Int) := by omega
  rw [this]; unfold IntKind.wrap; simp [IntKind.signed, IntKind.bits]; omega
theorem wrap_byte (x : Nat) : IntKind.u8.wrap (IntKind.u64.wrap ((x : Int).tmod 128 + 128)) = ((UInt8.ofNat (x % 128 + 128)).toNat : Int) := by
  have e : (x : Int).tmod 128 = ((x % 128 : Nat) : Int) := by
    rw [Int.tmod_eq_emod_of_nonneg (by omega)]; omega
  have h2 : x % 128 < 128 := Nat.mod_lt _ (by omega)
  rw [e, u8_small (by omega)]
  have e2 : IntKind.u64.wrap (((x % 128 : Nat) : Int) + 128) = ((x % 128 + 128 : Nat) : Int) := by unfold IntKind.wrap; simp [IntKind.signed, IntKind.bits]; omega
  rw [e2]; unfold IntKind.wrap; simp [IntKind.signed, IntKind.bits]; omega

set_option maxHeartbeats 2000000 in
set_option maxRecDepth 100000 in
theorem ref_put_small (x : Nat) (w : World) (h : x < 128) : Calls Tryd.prog 25 #[.int .u64 x] w fun e w' => e = .returned (.string (strB (put x))) ∧ Below w.heap.size w w' := by
  rw [put_small h]
  have hcv := str_one w (UInt8.ofNat x)
  rw [u8_small (by omega)] at hcv
  go_enter Tryd.func25, Tryd.ntmps25
  go_wp2_with fail
  go_ret
  exact ⟨rfl, (Below.refl _ _).alloc (Nat.le_refl _) _⟩

set_option maxHeartbeats 2000000 in
set_option maxRecDepth 100000 in
theorem ref_put : ∀ (k x : Nat) (w : World), x < 128 ^ k → x < 18446744073709551616 → Calls Tryd.prog 25 #[.int .u64 x] w fun e w' => e = .returned (.string (strB (put x))) ∧ Below w.heap.size w w' := by
  intro k
  induction k with
  | zero =>
    intro x w hx hx2
    have hx : x < 1 := by simpa using hx
    exact ref_put_small x w (by omega)
  | succ k ih =>
    intro x w hx hx2
    by_cases h : x < 128
    · exact ref_put_small x w h
    · rw [put_big (by omega)]
      have hq : x / 128 < 128 ^ k := by
        rw [Nat.pow_succ] at hx; exact Nat.div_lt_of_lt_mul (by omega)
      have hq2 : x / 128 < 18446744073709551616 := by omega
      have WQ := Lib.hid (wrap_quo x hx2)
      have WB := Lib.hid (wrap_byte x)
      have IH := fun w => ih (x / 128) w hq hq2
      clear ih
      obtain ⟨v, hv⟩ : ∃ v, UInt8.ofNat (x % 128 + 128) = v := ⟨_, rfl⟩
      obtain ⟨y, hy⟩ : ∃ y, x / 128 = y := ⟨_, rfl⟩
      have HS := Lib.hid (strB_append [v] (put y))
      rw [hv] at WB ⊢
      rw [hy] at WQ IH ⊢
      have HZ : Hid (¬ 9223372036854775807 < 1 + (strB (put y)).size) := Lib.hid (by
        have := put_length_64 (x := y) (by omega)
        rw [show (strB (put y)).size = (put y).length by simp [strB, ByteArray.size]]; omega)
      clear hv hy hq hq2
      go_enter Tryd.func25, Tryd.ntmps25
      go_wp2_with fail
      refine wp_region_tree (fun W => Below w.heap.size w W) (.two [0, 1, 2, 3, 6, 7] 4 (.one [5] 8 (.last [9, 10])) 8 (.one [] 4 (.last [5, 9, 10]))) (by kernel_rfl) (by kernel_rfl) (fun _ _ d _ _ h => by cases d <;> exact h) ((Below.refl _ _).drew) ?_
      refine tree_two ?_
      refine seg_read ?v1 (by rfl) (by rfl) ?h1 ?_
      case h1 => intro W hW; go_simp; with_reducible rfl
      try simp only [Act.put, List.setIfInBounds_toArray, List.set_cons_zero, List.set_cons_succ]
      refine seg_read ?v2 (by rfl) (by rfl) ?h2 ?_
      case h2 => intro W hW; go_simp; with_reducible rfl
      try simp only [Act.put, List.setIfInBounds_toArray, List.set_cons_zero, List.set_cons_succ]
      refine seg_read ?v3 (by rfl) (by rfl) ?h3 ?_
      case h3 => intro W hW; go_simp; with_reducible rfl
      try simp only [Act.put, List.setIfInBounds_toArray, List.set_cons_zero, List.set_cons_succ]
      refine seg_read ?v4 (by rfl) (by rfl) ?h4 ?_
      case h4 => intro W hW; go_simp; with_reducible rfl
      try simp only [Act.put, List.setIfInBounds_toArray, List.set_cons_zero, List.set_cons_succ]
      refine seg_read ?v5 (by rfl) (by rfl) ?h5 ?_
      case h5 => intro W hW; go_simp; with_reducible rfl
      try simp only [Act.put, List.setIfInBounds_toArray, List.set_cons_zero, List.set_cons_succ]
      refine seg_read ?v6 (by rfl) (by rfl) ?h6 ?_
      case h6 => intro W hW; go_simp; with_reducible rfl
      try simp only [Act.put, List.setIfInBounds_toArray, List.set_cons_zero, List.set_cons_succ]
      rw [WQ.out, WB.out]
      refine seg_nil ⟨?_, ?_⟩
      · refine eff_step (by rfl) (fun K hK => ?_)
        go_simp
        obtain ⟨w1, hw1⟩ : ∃ w1, w1 = (w.alloc (.cells #[.int .u8 (v.toNat : Int)] 5)).drew := ⟨_, rfl⟩
        have hb1 : Below w.heap.size w w1 := by rw [hw1]; exact ((Below.refl _ _).alloc (Nat.le_refl _) _).drew
        have hY : Byt w1 (w.heap.size ≤ ·) (some ⟨w.heap.size, 0, none⟩) 1 1 [v] := by
          rw [hw1]; exact (byt_one w _).below ((Below.refl _ _).drew)
        rw [← hw1]
        clear hw1
        refine hK _ _ ⟨fun W => Below w1.heap.size w1 W, Below.refl _ _, fun W h => hb1.trans (h.mono hb1.size), ?_⟩
        clear hK K
        refine tree_one ?_
        refine seg_read ?v7 (by rfl) (by rfl) ?h7 ?_
        case h7 => intro W hW; have hcv := byt_string (hY.below hW); go_simp; with_reducible rfl
        try simp only [Act.put, List.setIfInBounds_toArray, List.set_cons_zero, List.set_cons_succ]
        refine seg_nil ?_
        refine eff_step (by rfl) (fun K hK => ?_)
        go_simp
        refine (IH _).mono ?_
        rintro _ w2 ⟨rfl, hb2⟩
        refine hK _ _ ⟨fun W => W = w2, rfl, fun W e => e ▸ hb2, ?_⟩
        clear hK K
        refine tree_last ?_
        refine seg_step (by rfl) (fun K hK => ?_)
        go_simp
        refine ⟨_, if_neg HZ.out, ?_⟩
        refine hK _ ?_
        clear hK K
        refine seg_step (by rfl) (fun K hK => ?_)
        go_simp
        refine hK _ ?_
        clear hK K
        refine seg_nil ?_
        go_wp2
        go_ret
        exact ⟨by rw [show (⟨[v].toArray⟩ : ByteArray) = strB [v] from rfl, HS.out]; rfl, hb1.trans (hb2.mono hb1.size)⟩
      · refine eff_step (by rfl) (fun K hK => ?_)
        go_simp
        refine (IH _).mono ?_
        rintro _ w2 ⟨rfl, hb2⟩
        have hb2 : Below w.heap.size w w2 := ((Below.refl _ w).drew).trans hb2
        refine hK _ _ ⟨fun W => Below w2.heap.size w2 W, Below.refl _ _, fun W h => hb2.trans (h.mono hb2.size), ?_⟩
        clear hK K
        refine tree_one ?_
        refine seg_nil ?_
        refine eff_step (by rfl) (fun K hK => ?_)
        go_simp
        obtain ⟨w3, hw3⟩ : ∃ w3, w3 = (w2.alloc (.cells #[.int .u8 (v.toNat : Int)] 5)) := ⟨_, rfl⟩
        have hb3 : Below w2.heap.size w2 w3 := by rw [hw3]; exact ((Below.refl _ _).alloc (Nat.le_refl _) _)
        have hY := byt_string (byt_one w2 v)
        rw [← hw3] at hY ⊢
        clear hw3
        refine hK _ _ ⟨fun W => W = w3, rfl, fun W e => e ▸ hb3, ?_⟩
        clear hK K
        refine tree_last ?_
        refine seg_step (by rfl) (fun K hK => ?_)
        go_simp
        refine hK _ ?_
        clear hK K
        refine seg_step (by rfl) (fun K hK => ?_)
        go_simp
        refine ⟨_, if_neg HZ.out, ?_⟩
        refine hK _ ?_
        clear hK K
        refine seg_step (by rfl) (fun K hK => ?_)
        go_simp
        refine hK _ ?_
        clear hK K
        refine seg_nil ?_
        go_wp2
        go_ret
        exact ⟨by rw [show (⟨[v].toArray⟩ : ByteArray) = strB [v] from rfl, HS.out]; rfl, hb2.trans (hb3.mono hb2.size)⟩

theorem strB_size (l : List UInt8) : (strB l).size = l.length := by simp [strB, ByteArray.size]

set_option maxHeartbeats 2000000 in
set_option maxRecDepth 100000 in
theorem ref_with (l : List UInt8) (w : World) (hl : l.length ≤ 140737488355328) : Calls Tryd.prog 24 #[.string (strB l)] w fun e w' => e = .returned (.string (strB (put l.length ++ l))) ∧ Below w.heap.size w w' := by
  have hp := fun w => ref_put 10 l.length w (by omega) (by omega)
  have HS := Lib.hid (strB_append (put l.length) l)
  have HL := Lib.hid (strB_size l)
  have h10 := put_length_64 (x := l.length) (by omega)
  have hsz : ¬ 9223372036854775807 < (strB (put l.length)).size + (strB l).size := by rw [strB_size, strB_size]; omega
  have HZ := Lib.hid hsz
  clear hsz h10
  go_enter Tryd.func24, Tryd.ntmps24
  go_wp2_with fail
  rw [HL.out, show IntKind.u64.wrap (l.length : Int) = (l.length : Int) by unfold IntKind.wrap; simp [IntKind.signed, IntKind.bits]; omega]
  refine (hp _).mono ?_
  rintro _ w1 ⟨rfl, hb⟩
  have hsz := HZ.out
  go_wp2_with fail
  go_ret
  exact ⟨rfl, hb⟩
end Go.Proofs.YtmakpjcgiiljfaaDoor
