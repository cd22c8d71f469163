/-
  slices.Chunk of a row of bytes, parts of 64: its iterator's contract.
  What stands behind some parts, whichever they are; what holds between the rounds of Over.
  stream.Over.
-/
import Derived.Test.YtlkkocgjpljibaaDoorCells
import Derived.Test.YtlkkocgjpljibaaDoorChaPart
import Derived.Test.YtlkkocgjpljibaaDoorGrowIn
import Derived.RangeFuncNested
import Derived.RangeFuncBound
import Derived.RangeFuncCalls
import Derived.RangeFuncLeaves
import Derived.Shelf.Abstract
import Derived.Shelf.RegionOpen
import Derived.WalkKit
import Derived.OwnWalkIn
import Derived.TacticsInMore
import Derived.LoopNIn
import Derived.LoopIn
/-! slices.Chunk of a row of bytes, parts of 64: its iterator's contract. -/
namespace Go.Proofs.YtlkkocgjpljibaaDoor
open Go.RowKit Go.Shelf
attribute [local go_sem] Oper.semAt_some

/-- Part m of n bytes that begin at b, off. -/
def chunkV (b off n m : Nat) : Array Value := #[.slice (some ⟨b, off + 64 * m, none⟩) (min 64 (n - 64 * m)) (min 64 (n - 64 * m))]
def chunkN (n : Nat) : Nat := (n + 63) / 64
/-- What a round must leave as it was: the iterator's two boxes. -/
def chunkK (Bs Bn : Nat) (W W' : World) : Prop := W'.heap[Bs]? = W.heap[Bs]? ∧ W'.heap[Bn]? = W.heap[Bn]?
theorem gr_drew (W : World) : W.grownBy W.drew none := ⟨rfl, rfl, rfl, Nat.le_refl _, fun _ _ _ => rfl⟩

/-- s[i:j:j] -/
theorem run_part_of {P : Program} (t e : TypeId) (ht : P.underlying t = some (.slice e)) (hz : ∀ w, (Go.sizeOf e).run P w = .ok 1 w) (b off n c i m : Nat) (h1 : i + m ≤ c) (h0 : 0 < m) (W : World) :
    (Instr.slice t (.slice (some ⟨b, off, none⟩) n c) (some (.int .i64 (i : Int))) (some (.int .i64 ((i : Int) + (m : Int)))) (some (.int .i64 ((i : Int) + (m : Int))))).run P W = .ok (.slice (some ⟨b, off + i, none⟩) m m) W := by
  have ht' : P.underlying t = some (.slice (P.elem t)) := by simp [Program.elem, ht]
  have he : P.elem t = e := by simp [Program.elem, ht]
  rw [run_slice_lhm W t (some ⟨b, off, none⟩) n c ht' .i64 .i64 .i64 (i : Int) ((i : Int) + (m : Int)) ((i : Int) + (m : Int)) (by omega) (by omega) (by omega) (by omega), he, hz]
  have e1 : ((i : Int) + (m : Int)).toNat = i + m := by omega
  have e2 : ((i : Int)).toNat = i := by omega
  simp [Result.andThen, sliced, e1, e2, add_plain]
  omega

set_option maxHeartbeats 2000000 in
/-- slices.Chunk(s, 64) itself. -/
theorem chunk_in (n : Nat) (A : Option Addr) (len cap : Nat) (w : World) :
    CallsIn Fence.wide n Tryd.prog 28 #[.slice A len cap, .int .i64 64] w fun e w' => e = .returned (.func (.func 36) #[] #[.pointer (some ⟨w.heap.size, 0, none⟩), .pointer (some ⟨w.heap.size + 1, 0, none⟩)]) ∧
      w' = (w.alloc (.cells #[.slice A len cap] 25)).alloc (.cells #[.int .i64 64] 3) := by
  refine callsIn_of_wp Tryd.func28 rfl trivial ?_ rfl
  simp only [Tryd.ntmps28, List.size_toArray, List.length_cons, List.length_nil, Nat.reduceAdd, Nat.reduceSub, Array.replicate_succ, Array.replicate_zero, List.push_toArray, List.append_toArray, List.nil_append, List.cons_append]
  have hmf : ∀ (fn : Fn) (first cap : Array Value) (w : World), (Instr.makeFunc fn first cap).run Tryd.prog w = .ok (.func fn first cap) w := fun _ _ _ _ => rfl
  gi_wp2
  go_ret
  exact ⟨rfl, rfl⟩

set_option maxHeartbeats 4000000 in
set_option maxRecDepth 100000 in
theorem chunk1_in (n : Nat) (hn : 1 ≤ n) (l Bs Bn b off len cap : Nat) (A : Option Addr) (hA : 0 < len → A = some ⟨b, off, none⟩) (hlc : len ≤ cap) (hcm : cap ≤ maxLen) (hbg : len < 4611686018427387904) (J Jx : List Nat → World → Prop) (B : Nat) (hJ : AbidesFrom B J)
    (hY : ∀ pre x W, J pre W → pre.length < chunkN len → YieldAt Fence.wide (n - 1) Tryd.prog l (chunkV b off len x) W fun e W' =>
      (e = .returned (.bool true) ∧ J (pre ++ [x]) W' ∧ chunkK Bs Bn W W') ∨ (e = .returned (.bool false) ∧ Jx (pre ++ [x]) W'))
    (W : World) (hs : W.heap[Bs]? = some (.cells #[.slice A len cap] 25 (0, 0))) (hb : W.heap[Bn]? = some (.cells #[.int .i64 64] 3 (0, 0))) (h0 : J [] W) :
    CallsIn Fence.wide n Tryd.prog 36 #[.func (.yield l) #[] #[], .pointer (some ⟨Bs, 0, none⟩), .pointer (some ⟨Bn, 0, none⟩)] W fun e W' => (∃ v, e = .returned v) ∧
      ((∃ ys, ys = List.range (chunkN len) ∧ J ys W') ∨ (∃ pre, True ∧ Jx pre W')) := by
  have HA := Lib.hid hA
  have HB := Lib.hid (And.intro hs hb)
  have HC := Lib.hid (And.intro hlc hcm)
  have HBG := Lib.hid hbg
  clear hA hs hb hlc hcm hbg
  refine callsIn_of_wp Tryd.func36 rfl trivial ?_ rfl
  simp only [Tryd.ntmps36, List.size_toArray, List.length_cons, List.length_nil, Nat.reduceAdd, Nat.reduceSub, Array.replicate_succ, Array.replicate_zero, List.push_toArray, List.append_toArray, List.nil_append, List.cons_append]
  gi_wp2
  gi_loopw [4] (fun i wr => ∃ k : Nat, 64 * k < len + 64 ∧ i = .int .i64 ((64 * k : Nat) : Int) ∧ J (List.range k) wr ∧ wr.heap[Bs]? = some (.cells #[.slice A len cap] 25 (0, 0)) ∧ wr.heap[Bn]? = some (.cells #[.int .i64 64] 3 (0, 0)))
    (fun i _ => len + 64 - (intOf i).toNat)
  case atStart => exact ⟨0, by omega, rfl, h0, HB.out⟩
  case round =>
    obtain ⟨k, hk, rfl, hJs, hb1, hb2⟩ := hrel
    have hc1 := cell_of_cells hb1 0
    have hc2 := cell_of_cells hb2 0
    simp only [List.getElem?_toArray, List.getElem?_cons_zero] at hc1 hc2
    have HX := Lib.hid (And.intro hb1 hb2)
    clear hb1 hb2 HB
    obtain ⟨i, hi⟩ : ∃ i, i = 64 * k := ⟨_, rfl⟩
    rw [← hi] at hk ⊢
    have HI := Lib.hid hi
    clear hi
    by_cases hlt : i < len
    · have hAe := HA.out (by omega)
      have hl1 := HC.out.1
      have hl2 := HC.out.2
      subst hAe
      have hsl := fun W => run_cut (P := Tryd.prog) 25 5 Tryd.underlying25 u8_size (some ⟨b, off, none⟩) len cap i (by omega) W
      have hcut : cutA (some ⟨b, off, none⟩) cap i = some ⟨b, off + i, none⟩ := by
        unfold cutA
        rw [if_neg (by omega)]
        simp [add_plain]
      rw [hcut] at hsl
      obtain ⟨m, hm⟩ : ∃ m, m = min 64 (len - i) := ⟨_, rfl⟩
      have HM := Lib.hid hm
      clear hm hcut
      gi_wp2
      gi_region
      rw [show (min 64 ((len - i : Nat) : Int)) = (m : Int) by rw [HM.out]; omega]
      have hm0 : 0 < m := by rw [HM.out]; omega
      have him : i + m ≤ cap := by rw [HM.out]; omega
      have hs2 := fun W => run_part_of (P := Tryd.prog) 25 5 Tryd.underlying25 u8_size b off len cap i m him hm0 W
      have hJd : J (List.range k) wr.drew := hJ _ _ _ none hJs (gr_drew wr) (fun r e => by cases e)
      have hlen : (List.range k).length < chunkN len := by
        have := HI.out
        rw [List.length_range]
        unfold chunkN
        omega
      obtain ⟨fn, tmps, assign, body, hy, hR⟩ := hY _ k _ hJd hlen
      have hch : chunkV b off len k = #[.slice (some ⟨b, off + i, none⟩) m m] := by
        unfold chunkV
        rw [← HI.out, ← HM.out]
      rw [hch] at hy
      have HX : Hid (wr.drew.heap[Bs]? = some (.cells #[.slice (some ⟨b, off, none⟩) len cap] 25 (0, 0)) ∧ wr.drew.heap[Bn]? = some (.cells #[.int .i64 64] 3 (0, 0))) := Lib.hid HX.out
      have hc1 := cell_of_cells HX.out.1 0
      simp only [List.getElem?_toArray, List.getElem?_cons_zero] at hc1
      have HR := Lib.hid hR
      clear hlen hch hsl hR hc2
      generalize wr.drew = wd at *
      have hwi := IntWalk.i64_in ((i : Int) + (m : Int)) (by have h1 := HC.out.2; have h2 := him; unfold maxLen at h1; omega)
      gi_wp2
      refine HR.out.mono ?_
      rintro e W3 (⟨rfl, hJ3, hk3⟩ | ⟨rfl, hJx3⟩)
      · have hb1 := hk3.1.trans HX.out.1
        have hb2 := hk3.2.trans HX.out.2
        have hc2 := cell_of_cells hb2 0
        simp only [List.getElem?_toArray, List.getElem?_cons_zero] at hc2
        have H3 := Lib.hid (And.intro hb1 (And.intro hb2 hJ3))
        have hw6 := IntWalk.i64_in ((i : Int) + 64) (by have h1 := HBG.out; omega)
        clear hb1 hb2 hJ3 hk3 hc1 HR hy hs2 hJd hwi HX
        gi_wp2
        go_roundw
        case rel => exact ⟨k + 1, by have := HI.out; omega, by have := HI.out; go_num, by rw [List.range_succ]; exact H3.out.2.2, H3.out.1, H3.out.2.1⟩
        case measure => simp [intOf]; omega
      · gi_wp2
        refine bodyPost_ret (results_none rfl _ _ _) rfl ?_
        exact ⟨⟨_, rfl⟩, .inr ⟨_, trivial, hJx3⟩⟩
    · have hkN : k = chunkN len := by
        have := HI.out
        unfold chunkN
        omega
      have HJ := Lib.hid (hkN ▸ hJs)
      clear hkN hJs
      gi_wp2
      go_end0
      exact ⟨⟨_, rfl⟩, .inl ⟨_, rfl, HJ.out⟩⟩

/-- ITS CONTRACT, as loops over it want it. -/
theorem chunk_stops (n : Nat) (hn : 1 ≤ n) (Bs Bn b off len cap : Nat) (A : Option Addr) (hA : 0 < len → A = some ⟨b, off, none⟩) (hlc : len ≤ cap) (hcm : cap ≤ maxLen) (hbg : len < 4611686018427387904) (w : World)
    (hs : w.heap[Bs]? = some (.cells #[.slice A len cap] 25 (0, 0))) (hb : w.heap[Bn]? = some (.cells #[.int .i64 64] 3 (0, 0))) :
    SeqStopsK Fence.wide n Tryd.prog 36 #[.pointer (some ⟨Bs, 0, none⟩), .pointer (some ⟨Bn, 0, none⟩)] (chunkV b off len) (chunkK Bs Bn) (fun ys => ys = List.range (chunkN len)) (fun _ => True) (chunkN len) w :=
  fun l J Jx W hW hJ _ hY h0 =>
    chunk1_in n hn l Bs Bn b off len cap A hA hlc hcm hbg J Jx _ hJ hY W ((hW.block _ (lt_of_cells hs)).trans hs) ((hW.block _ (lt_of_cells hb)).trans hb) h0
end Go.Proofs.YtlkkocgjpljibaaDoor

/-! What stands behind some parts, whichever they are; what holds between the rounds of Over. -/
namespace Go.Proofs.YtlkkocgjpljibaaDoor
open Go.RowKit

/-- The bytes of part x, the stream's part j laid over them. -/
def chunkO (k no b : List UInt8) (j x : Nat) : List UInt8 := (List.range (min 64 (b.length - 64 * x))).map fun i => (b[64 * x + i]?.getD 0) ^^^ ((partL k no (BitVec.ofNat 32 j))[i]?.getD 0)
theorem chunkO_length (k no b : List UInt8) (j x : Nat) : (chunkO k no b j x).length = min 64 (b.length - 64 * x) := by simp [chunkO]
theorem chunkO_at (k no b : List UInt8) (j x i : Nat) (h : i < min 64 (b.length - 64 * x)) : (chunkO k no b j x)[i]? = some ((b[64 * x + i]?.getD 0) ^^^ ((partL k no (BitVec.ofNat 32 j))[i]?.getD 0)) := by
  rw [chunkO, List.getElem?_map, List.getElem?_range h]
  rfl
/-- .. of parts, one behind the other. -/
def outp (k no b : List UInt8) (pre : List Nat) : List UInt8 := (pre.zipIdx.map fun p => chunkO k no b p.2 p.1).flatten
theorem outp_snoc (k no b : List UInt8) (pre : List Nat) (x : Nat) : outp k no b (pre ++ [x]) = outp k no b pre ++ chunkO k no b pre.length x := by
  simp [outp, List.zipIdx_append]
theorem outp_length (k no b : List UInt8) (pre : List Nat) : (outp k no b pre).length ≤ 64 * pre.length := by
  have h : ∀ (l : List (Nat × Nat)), ((l.map fun p => chunkO k no b p.2 p.1).flatten).length ≤ 64 * l.length := by
    intro l
    induction l with
    | nil => simp
    | cons p l ih =>
      rw [List.map_cons, List.flatten_cons, List.length_append, chunkO_length, List.length_cons]
      omega
  have := h pre.zipIdx
  rwa [List.length_zipIdx] at this
theorem over_more (k no b : List UInt8) (m e : Nat) (he : e ≤ 64) : overN k no b (64 * m + e) = overN k no b (64 * m) ++ (List.range e).map fun i => (b[64 * m + i]?.getD 0) ^^^ ((partL k no (BitVec.ofNat 32 m))[i]?.getD 0) := by
  have h : ∀ i, i < e → overAt k no b (64 * m + i) = (b[64 * m + i]?.getD 0) ^^^ ((partL k no (BitVec.ofNat 32 m))[i]?.getD 0) := fun i hi => by
    rw [overAt, show (64 * m + i) / 64 = m by omega, show (64 * m + i) % 64 = i by omega]
  have e2 : (List.range e).map (overAt k no b ∘ (64 * m + ·)) = (List.range e).map fun i => (b[64 * m + i]?.getD 0) ^^^ ((partL k no (BitVec.ofNat 32 m))[i]?.getD 0) :=
    List.map_congr_left fun i hi => h i (List.mem_range.1 hi)
  rw [overN, List.range_add, List.map_append, List.map_map, e2, overN]
theorem outp_range (k no b : List UInt8) (m : Nat) : outp k no b (List.range m) = overN k no b (min b.length (64 * m)) := by
  induction m with
  | zero => simp [outp, overN]
  | succ m ih =>
    rw [List.range_succ, outp_snoc, ih, List.length_range]
    by_cases h : 64 * m ≤ b.length
    · have e1 : min b.length (64 * m) = 64 * m := by omega
      have e2 : min b.length (64 * (m + 1)) = 64 * m + min 64 (b.length - 64 * m) := by omega
      rw [e1, e2, over_more k no b m _ (Nat.min_le_left _ _), chunkO]
    · have e1 : min b.length (64 * m) = b.length := by omega
      have e2 : min b.length (64 * (m + 1)) = b.length := by omega
      have e3 : chunkO k no b m m = [] := by
        apply List.eq_nil_of_length_eq_zero
        rw [chunkO_length]
        omega
      rw [e1, e2, e3, List.append_nil]
theorem outp_all (k no b : List UInt8) : outp k no b (List.range (chunkN b.length)) = overL k no b := by
  rw [outp_range, overL, show min b.length (64 * chunkN b.length) = b.length by unfold chunkN; omega]

/-- A block of cells stays where only a block that is none turns. -/
theorem cells_kept {W W' : World} {row : Option Nat} {p : Nat} {cs : Array Value} {t : TypeId} {f : Nat × Nat} (h : W.heap[p]? = some (.cells cs t f)) (hg : W.grownBy W' row) (hr : ∀ r, row = some r → ∃ o : Obj, W.heap[r]? = some o ∧ o.isCells = false) : W'.heap[p]? = some (.cells cs t f) :=
  (hg.block p (lt_of_cells h) (fun e => by
    obtain ⟨o, ho, hc⟩ := hr p e.symm
    rw [h] at ho
    cases ho
    cases hc)).trans h

/-- What holds all through Over, but for the bytes laid so far. -/
structure OBase (w0 : World) (B7 : Nat) (KS NS : Array Value) (A : Option Addr) (n c : Nat) (b : List UInt8) (j : Nat) (W : World) : Prop where
  below : Below w0.heap.size w0 W
  key : W.heap[w0.heap.size]? = some (.cells KS 23 (0, 0))
  non : W.heap[w0.heap.size + 1]? = some (.cells NS 47 (0, 0))
  tab : QTab W
  src : Byt W (fun x => x < w0.heap.size) A n c b
  num : Boxed W (B7 + 1) 59 (.int .u32 (nv (BitVec.ofNat 32 j)))
  bs : W.heap[B7 + 2]? = some (.cells #[.slice A n c] 25 (0, 0))
  bn : W.heap[B7 + 3]? = some (.cells #[.int .i64 64] 3 (0, 0))
/-- The bytes laid so far. -/
structure ORow (w0 : World) (B7 : Nat) (out : List UInt8) (v : Value) (W : World) : Prop where
  box : Boxed W B7 25 v
  own : W.ownsRow w0.heap.size 5 1 v out.length (u8s out)
  isl : ∃ a l c, v = .slice a l c
section
variable {w0 W W' : World} {B7 : Nat} {KS NS : Array Value} {A : Option Addr} {n c : Nat} {b : List UInt8} {j : Nat} {out : List UInt8} {v : Value}
theorem QTab.kept (h : QTab W) {row : Option Nat} (hg : W.grownBy W' row) (hr : ∀ r, row = some r → ∃ o : Obj, W.heap[r]? = some o ∧ o.isCells = false) : QTab W' := ⟨fun i hi => cell_kept (h.at_ i hi) hg hr⟩
theorem Byt.kept {S : Nat → Prop} {l : List UInt8} (h : Byt W S A n c l) {row : Option Nat} (hg : W.grownBy W' row) (hr : ∀ r, row = some r → ∃ o : Obj, W.heap[r]? = some o ∧ o.isCells = false) : Byt W' S A n c l :=
  ⟨h.len, h.cap, h.max, fun h0 => by
    obtain ⟨x, off, hA, hB, hb, hc⟩ := h.row h0
    exact ⟨x, off, hA, hB, Nat.lt_of_lt_of_le hb hg.size, fun i hi => cell_kept (hc i hi) hg hr⟩⟩
theorem OBase.kept (h : OBase w0 B7 KS NS A n c b j W) {row : Option Nat} (hg : W.grownBy W' row) (hr : ∀ r, row = some r → w0.heap.size ≤ r ∧ ∃ o : Obj, W.heap[r]? = some o ∧ o.isCells = false) : OBase w0 B7 KS NS A n c b j W' := by
  have hr2 : ∀ r, row = some r → ∃ o : Obj, W.heap[r]? = some o ∧ o.isCells = false := fun r e => (hr r e).2
  exact ⟨h.below.grown hg h.below.size (fun k e => (hr k e).1), cells_kept h.key hg hr2, cells_kept h.non hg hr2, h.tab.kept hg hr2, h.src.kept hg hr2, cells_kept h.num hg hr2, cells_kept h.bs hg hr2, cells_kept h.bn hg hr2⟩
theorem OBase.belo (h : OBase w0 B7 KS NS A n c b j W) (hb : Below W.heap.size W W') : OBase w0 B7 KS NS A n c b j W' :=
  ⟨h.below.trans (hb.mono h.below.size), (hb.block _ (lt_of_cells h.key)).trans h.key, (hb.block _ (lt_of_cells h.non)).trans h.non, h.tab.below hb, h.src.below hb, (hb.block _ h.num.lt).trans h.num, (hb.block _ (lt_of_cells h.bs)).trans h.bs, (hb.block _ (lt_of_cells h.bn)).trans h.bn⟩
theorem OBase.drew (h : OBase w0 B7 KS NS A n c b j W) : OBase w0 B7 KS NS A n c b j W.drew := ⟨below_drew h.below, h.key, h.non, h.tab.drew, h.src.drew, h.num, h.bs, h.bn⟩
/-- .. where none of its blocks turns. -/
theorem OBase.turned (h : OBase w0 B7 KS NS A n c b j W) {S : Nat → Prop} (ht : Turned S W W') (hlt : QTab w0) (h1 : ∀ x, S x → w0.heap.size + 2 ≤ x ∧ x ≠ B7 + 1 ∧ x ≠ B7 + 2 ∧ x ≠ B7 + 3) : OBase w0 B7 KS NS A n c b j W' := by
  have hg := hlt.lt
  have hk : ∀ x cs t f, ¬ S x → W.heap[x]? = some (.cells cs t f) → W'.heap[x]? = some (.cells cs t f) := fun x cs t f hx hc => (ht.block x (lt_of_cells hc) hx).trans hc
  exact ⟨h.below.trans ((ht.mono (T := (w0.heap.size ≤ ·)) fun x _ hx => by have := h1 x hx; omega).below h.below.size), hk _ _ _ _ (fun hx => by have := h1 _ hx; omega) h.key, hk _ _ _ _ (fun hx => by have := h1 _ hx; omega) h.non,
    h.tab.turned ht (fun hx => by have := h1 _ hx; omega), h.src.turned ht (fun x _ hx hs => by have := h1 _ hs; omega), hk _ _ _ _ (fun hx => (h1 _ hx).2.1 rfl) h.num, hk _ _ _ _ (fun hx => (h1 _ hx).2.2.1 rfl) h.bs, hk _ _ _ _ (fun hx => (h1 _ hx).2.2.2 rfl) h.bn⟩
theorem ORow.belo (h : ORow w0 B7 out v W) (hb : Below W.heap.size W W') : ORow w0 B7 out v W' := by
  refine ⟨(hb.block _ h.box.lt).trans h.box, ?_, h.isl⟩
  refine h.own.kept (w' := W') (row := none) ⟨hb.os, hb.tape, hb.output, hb.size, fun k hk _ => hb.block k hk⟩ ?_
  rcases h.own.2 with ⟨rfl, _⟩ | ⟨g, cap, cur, rfl, _⟩
  · exact .inl rfl
  · exact .inr (by simp [Value.ownBlock])
theorem ORow.kept (h : ORow w0 B7 out v W) {row : Option Nat} (hg : W.grownBy W' row) (hr : ∀ r, row = some r → ∃ o : Obj, W.heap[r]? = some o ∧ o.isCells = false) : ORow w0 B7 out v W' := by
  refine ⟨cells_kept h.box hg hr, h.own.kept hg ?_, h.isl⟩
  rcases h.own.2 with ⟨rfl, _⟩ | ⟨g, cap, cur, rfl, _, hgb, _⟩
  · exact .inl rfl
  · refine .inr fun e' => ?_
    obtain ⟨o, ho, hc⟩ := hr g (by simpa [Value.ownBlock] using e'.symm)
    rw [hgb] at ho
    cases ho
    cases hc
theorem ORow.drew (h : ORow w0 B7 out v W) : ORow w0 B7 out v W.drew := h.belo ⟨rfl, rfl, rfl, Nat.le_refl _, fun _ _ => rfl⟩
/-- .. where a row of bytes turns, which is none of them. -/
theorem OBase.rowed (h : OBase w0 B7 KS NS A n c b j W) (h0 : QTab w0) {row : Option Nat} (hg : W.grownBy W' row) (hr : ∀ r, row = some r → w0.heap.size ≤ r ∧ ∃ cs f, W.heap[r]? = some (.cells cs 5 f)) : OBase w0 B7 KS NS A n c b j W' := by
  have hlt := h0.lt
  have hk : ∀ (x : Nat) (cs : Array Value) (t : TypeId) (f : Nat × Nat), t ≠ 5 → W.heap[x]? = some (.cells cs t f) → W'.heap[x]? = some (.cells cs t f) := fun x cs t f ht hc => (hg.block x (lt_of_cells hc) (fun e => by
    obtain ⟨_, cs2, f2, h2⟩ := hr x e.symm
    rw [hc] at h2
    injection h2 with h2
    injection h2 with _ h3 _
    exact ht h3)).trans hc
  have hlo : ∀ (x : Nat), x < W.heap.size → x < w0.heap.size → W'.heap[x]? = W.heap[x]? := fun x hx h1 => hg.block x hx (fun e => by
    have := (hr x e.symm).1
    omega)
  exact ⟨h.below.grown hg h.below.size (fun k e => (hr k e).1), hk _ _ _ _ (by decide) h.key, hk _ _ _ _ (by decide) h.non, ⟨fun i hi => (World.cell?_of_block (hlo _ h.tab.lt hlt)).trans (h.tab.at_ i hi)⟩,
    ⟨h.src.len, h.src.cap, h.src.max, fun hn => by
      obtain ⟨x, off, hA, hB, hb, hc⟩ := h.src.row hn
      exact ⟨x, off, hA, hB, Nat.lt_of_lt_of_le hb hg.size, fun i hi => (World.cell?_of_block (w := W) (a := ⟨x, off + i, none⟩) (hlo _ hb hB)).trans (hc i hi)⟩⟩,
    hk _ _ _ _ (by decide) h.num, hk _ _ _ _ (by decide) h.bs, hk _ _ _ _ (by decide) h.bn⟩
/-- The next part's number. -/
theorem OBase.next (h : OBase w0 B7 KS NS A n c b j W) (h0 : QTab w0) (hB : w0.heap.size + 1 < B7) : OBase w0 B7 KS NS A n c b (j + 1) (W.setCell ⟨B7 + 1, 0, none⟩ (.int .u32 (nv (BitVec.ofNat 32 (j + 1))))) := by
  have hg := h0.lt
  have hk : ∀ (x : Nat), x ≠ B7 + 1 → (W.setCell ⟨B7 + 1, 0, none⟩ (.int .u32 (nv (BitVec.ofNat 32 (j + 1))))).heap[x]? = W.heap[x]? := fun x hx => Below.heap_setCell _ _ _ _ hx
  have ht : Turned (· = B7 + 1) W (W.setCell ⟨B7 + 1, 0, none⟩ (.int .u32 (nv (BitVec.ofNat 32 (j + 1))))) := (Turned.refl (· = B7 + 1) W).set (p := B7 + 1) rfl _ _
  exact ⟨h.below.setCell (by dsimp only; omega) _, (hk _ (by omega)).trans h.key, (hk _ (by omega)).trans h.non, h.tab.turned ht (by omega), h.src.turned ht (fun x _ hx hs => by omega), h.num.set _, (hk _ (by omega)).trans h.bs, (hk _ (by omega)).trans h.bn⟩
theorem ORow.other (h : ORow w0 B7 out v W) {p : Nat} (hp : p ≠ B7) {u0 : Value} {t : TypeId} (hb : Boxed W p t u0) (ht : t ≠ 5) (u : Value) : ORow w0 B7 out v (W.setCell ⟨p, 0, none⟩ u) :=
  ⟨(Below.heap_setCell _ _ _ _ (fun e => hp e.symm)).trans h.box, h.own.kept (grownBy_setCell' W p u) (.inr (hb.not_row ht h.own).symm), h.isl⟩
theorem own_row {base : Nat} {e : TypeId} {size k : Nat} {xs : List Value} (h : W.ownsRow base e size v k xs) : ∀ r, v.ownBlock = some r → base ≤ r ∧ ∃ cs f, W.heap[r]? = some (.cells cs e f) := by
  intro r hr
  rcases h.2 with ⟨rfl, _⟩ | ⟨g, cap, cur, rfl, hb, hgb, _⟩
  · simp [Value.ownBlock] at hr
  · obtain rfl : g = r := by simpa [Value.ownBlock] using hr
    exact ⟨hb, _, _, hgb⟩
theorem keeps_grown {row : Option Nat} (hg : W.grownBy W' row) {t : TypeId} (hr : ∀ r, row = some r → ∃ cs f, W.heap[r]? = some (.cells cs t f)) : KeepsOthers W W' :=
  KeepsOthers.of_grownBy hg fun j o ej hj => by
    obtain ⟨cs, f, hc⟩ := hr j ej
    rw [hc] at hj
    cases hj
    rfl
theorem cells_other {row : Option Nat} (hg : W.grownBy W' row) {t t2 : TypeId} (ht : t2 ≠ t) (hr : ∀ r, row = some r → ∃ cs f, W.heap[r]? = some (.cells cs t f)) {p : Nat} {cs : Array Value} {f : Nat × Nat} (h : W.heap[p]? = some (.cells cs t2 f)) : W'.heap[p]? = some (.cells cs t2 f) :=
  (hg.block p (lt_of_cells h) (fun e => by
    obtain ⟨cs2, f2, h2⟩ := hr p e.symm
    rw [h] at h2
    injection h2 with h2
    injection h2 with _ h3 _
    exact ht h3)).trans h
end
end Go.Proofs.YtlkkocgjpljibaaDoor

/-! stream.Over. -/
namespace Go.Proofs.YtlkkocgjpljibaaDoor
open Go.RowKit Go.Shelf
attribute [local go_sem] Oper.semAt_some

theorem keeps_below {W W' : World} (h : Below W.heap.size W W') : KeepsOthers W W' := ⟨h.size, fun k _ hk _ => (h.block k (Array.getElem?_eq_some_iff.1 hk).1).trans hk⟩
/-- What an append to a row of the call's own comes to. -/
theorem runs_append {P : Program} {R : Value → World → Prop} {E : Operand → Value} {o : Oper} (w : World) (s x : Operand) (t : TypeId) (hop : o.op = Op.call { callee := Callee.builtin Builtin.append, args := #[s, x], argTypes := #[t, t] })
    (base : Nat) (e : TypeId) (i : TypeInfo) (z : Value) (size bytes : Nat) (h1 : P.underlying t = some (.slice e)) (h2 : P.info? e = some i) (h3 : i.zero = some z) (h4 : i.size = size) (h5 : i.bytes = bytes) (h6 : z.cells.size = size) (h7 : 0 < size)
    (v : Value) (k : Nat) (xs : List Value) (hs : E s = v) (hown : w.ownsRow base e size v k xs) (ad : Addr) (m c : Nat) (news : List Value) (hx : E x = .slice (some ad) m c) (hn : news.length = m * size)
    (hc : ∀ j u, news[j]? = some u → w.cell? (ad.add j) = some u) (h1c : ∀ u ∈ news, u.oneCell' = true) (b1 : k + m ≤ maxLen) (b2 : (k + m) * bytes ≤ 140737488355328) (b3 : base ≤ w.heap.size)
    (hK : ∀ v' w', w'.ownsRow base e size v' (k + m) (xs ++ news) → w.grownBy w' v.ownBlock → R v' w') : Grow.runsTo P R ((execOp E o).run P w) := by
  obtain ⟨v', w', hrun, r1, r2, _⟩ := run_append_own (P := P) w base t o.type e i z size bytes h1 h2 h3 h4 h5 h6 h7 v k xs hown ad m c news hn hc h1c b1 b2 b3
  simp [execOp, hop, resolve, invoke, builtin, hs, hx, hrun, Result.andThen, Grow.runsTo]
  exact hK v' w' r1 r2

set_option maxHeartbeats 4000000 in
set_option maxRecDepth 100000 in
theorem sover_any {w : World} {S : Nat → Prop} {A : Option Addr} {n c : Nat} {b : List UInt8} (h : Byt w S A n c b) (k no : List UInt8) (hk : k.length = 32) (hno : no.length = 12) (htab : QTab w) (hn : n ≤ 100000000000000) :
    Calls Tryd.prog 17 #[.agg (row8 k), .agg (row8 no), .slice A n c] w fun e w' => ∃ A' c', e = .returned (.slice A' n c') ∧ Byt w' (w.heap.size ≤ ·) A' n c' (overL k no b) ∧ Below w.heap.size w w' := by
  have hz6 := zero64q
  obtain ⟨i0, hi, hz0, hz1, hz2⟩ := info_parts u8_info
  obtain ⟨KS, hKS⟩ : ∃ KS, KS = row8 k := ⟨_, rfl⟩
  obtain ⟨NS, hNS⟩ : ∃ NS, NS = row8 no := ⟨_, rfl⟩
  rw [← hKS, ← hNS]
  have hks : KS.size = 32 := by rw [hKS, row8_size, hk]
  have hns : NS.size = 12 := by rw [hNS, row8_size, hno]
  obtain ⟨W0, hW0⟩ : ∃ W0, ((w.alloc (.cells KS 23)).alloc (.cells NS 47)) = W0 := ⟨_, rfl⟩
  have hg0 := heap_alloc_new w (.cells KS 23)
  have hg1 := heap_alloc_new (w.alloc (.cells KS 23)) (.cells NS 47)
  have hb0 : Below w.heap.size w W0 := by rw [← hW0]; exact ((Below.refl _ _).alloc (Nat.le_refl _) _).alloc (by simp) _
  simp only [World.size_alloc] at hg1
  have HG : Hid (W0.heap[w.heap.size]? = some (.cells KS 23 (0, 0)) ∧ W0.heap[w.heap.size + 1]? = some (.cells NS 47 (0, 0)) ∧ Below w.heap.size w W0) := Lib.hid (by
    refine ⟨?_, ?_, hb0⟩
    · rw [← hW0]; exact (Below.heap_alloc _ _ _ (by simp)).trans hg0
    · rw [← hW0]; exact hg1)
  have HH := Lib.hid (And.intro h (And.intro htab hn))
  have HK := Lib.hid (And.intro hKS (And.intro hNS (And.intro hk hno)))
  have HKS := Lib.hid (And.intro hks hns)
  have HI := Lib.hid (And.intro hi (And.intro hz0 (And.intro hz1 hz2)))
  clear hg0 hg1 hb0 hKS hNS hk hno hks hns h htab hi hz0 hz1 hz2
  refine (callsIn_wide (n := 3)).1 ?_
  refine callsIn_of_wp_marks Tryd.func17 rfl trivial ?_ rfl
  simp only [Tryd.ntmps17, List.size_toArray, List.length_cons, List.length_nil, Nat.reduceAdd, Nat.reduceSub, Array.replicate_succ, Array.replicate_zero, List.push_toArray, List.append_toArray, List.nil_append, List.cons_append]
  gi_wp2_with (gi_at_make; refine wpListIn_make_own _ (by rfl) _ _ 25 (by rfl) w.heap.size 5 i0 (.int .u8 0) 1 Tryd.underlying25 HI.out.1 HI.out.2.1 HI.out.2.2.1 .i64 .i64 (n : Int) n (by rfl) (by rfl) rfl (by rw [HI.out.2.2.2]; omega) (by unfold maxLen; omega) HG.out.2.2.size ?_)
  intro W1 hown1 hgr1
  have H1 : Hid (W1.heap[w.heap.size]? = some (.cells KS 23 (0, 0)) ∧ W1.heap[w.heap.size + 1]? = some (.cells NS 47 (0, 0)) ∧ Below w.heap.size w W1) := Lib.hid ⟨(hgr1.block _ (lt_of_cells HG.out.1) (by simp)).trans HG.out.1, (hgr1.block _ (lt_of_cells HG.out.2.1) (by simp)).trans HG.out.2.1, HG.out.2.2.grown hgr1 HG.out.2.2.size (fun _ e => by cases e)⟩
  have HO1 := Lib.hid hown1
  have hq : w.heap.size + 1 < W1.heap.size := lt_of_cells H1.out.2.1
  clear hown1 hgr1 HG hW0
  generalize W0.heap.size = g0 at *
  gi_wp2_with (refine ⟨trivial, ?_⟩; gi_at_call 28; refine (chunk_in _ _ _ _ _).mono ?_; rintro e w' ⟨rfl, rfl⟩)
  try simp only [World.size_alloc]
  obtain ⟨B7, hB7⟩ : ∃ B7, W1.heap.size = B7 := ⟨_, rfl⟩
  have HB7 := Lib.hid hB7
  rw [hB7] at hq
  have hbx := Boxed.new W1 25 (.slice (some ⟨g0, 0, none⟩) 0 n)
  have hnx := Boxed.new (W1.alloc (.cells #[.slice (some ⟨g0, 0, none⟩) 0 n] 25)) 59 (.int .u32 0)
  have hsx := heap_alloc_new ((W1.alloc (.cells #[.slice (some ⟨g0, 0, none⟩) 0 n] 25)).alloc (.cells #[.int .u32 0] 59)) (.cells #[.slice A n c] 25)
  have hcx := heap_alloc_new (((W1.alloc (.cells #[.slice (some ⟨g0, 0, none⟩) 0 n] 25)).alloc (.cells #[.int .u32 0] 59)).alloc (.cells #[.slice A n c] 25)) (.cells #[.int .i64 64] 3)
  simp only [World.size_alloc, hB7] at hbx hnx hsx hcx ⊢
  have hbelow : Below W1.heap.size W1 ((((W1.alloc (.cells #[.slice (some ⟨g0, 0, none⟩) 0 n] 25)).alloc (.cells #[.int .u32 0] 59)).alloc (.cells #[.slice A n c] 25)).alloc (.cells #[.int .i64 64] 3)) := ((((Below.refl _ _).alloc (Nat.le_refl _) _).alloc (by simp) _).alloc (by simp; omega) _).alloc (by simp; omega) _
  obtain ⟨W2, hW2⟩ : ∃ W2, ((((W1.alloc (.cells #[.slice (some ⟨g0, 0, none⟩) 0 n] 25)).alloc (.cells #[.int .u32 0] 59)).alloc (.cells #[.slice A n c] 25)).alloc (.cells #[.int .i64 64] 3)) = W2 := ⟨_, rfl⟩
  have hsz2 : W2.heap.size = B7 + 4 := by rw [← hW2]; simp [hB7]
  have HBase : Hid (OBase w B7 KS NS A n c b 0 W2) := Lib.hid (by
    rw [hW2] at hbelow
    refine ⟨H1.out.2.2.trans (hbelow.mono H1.out.2.2.size), (hbelow.block _ (lt_of_cells H1.out.1)).trans H1.out.1, (hbelow.block _ (lt_of_cells H1.out.2.1)).trans H1.out.2.1, (HH.out.2.1.below H1.out.2.2).below hbelow, ((HH.out.1.mono (T := fun x => x < w.heap.size) fun x hx _ => hx).below H1.out.2.2).below hbelow, ?_, ?_, ?_⟩
    · rw [← hW2]; exact ((hnx.alloc _).alloc _)
    · rw [← hW2]; exact (Below.heap_alloc _ _ _ (by simp [hB7])).trans hsx
    · rw [← hW2]; exact hcx)
  have HRow : Hid (ORow w B7 [] (.slice (some ⟨g0, 0, none⟩) 0 n) W2) := Lib.hid (by
    rw [hW2] at hbelow
    refine ⟨by rw [← hW2]; exact ((hbx.alloc _).alloc _).alloc _, ?_, ⟨_, _, _, rfl⟩⟩
    exact HO1.out.kept (w' := W2) (row := none) ⟨hbelow.os, hbelow.tape, hbelow.output, hbelow.size, fun k hk _ => hbelow.block k hk⟩ (.inr (by simp [Value.ownBlock])))
  rw [hW2]
  clear hbx hnx hsx hcx hbelow hW2 H1 HO1
  obtain ⟨bb, off, hA⟩ : ∃ bb off, 0 < n → A = some ⟨bb, off, none⟩ := by
    by_cases h0 : 0 < n
    · obtain ⟨x, o, hA, _⟩ := HH.out.1.row h0
      exact ⟨x, o, fun _ => hA⟩
    · exact ⟨0, 0, fun h => absurd h h0⟩
  have HA := Lib.hid hA
  clear hA hB7
  refine wpIn_rangeFunc_ownG rfl (by omega) (gf := 36) (lb := #[.pointer (some ⟨B7 + 2, 0, none⟩), .pointer (some ⟨B7 + 3, 0, none⟩)]) rfl trivial (enters_of Tryd.func36 (by kernel_rfl) rfl)
    (chunk_stops 2 (by omega) (B7 + 2) (B7 + 3) bb off n c A HA.out HH.out.1.cap HH.out.1.max (by omega) W2 HBase.out.bs HBase.out.bn)
    (fun h1 h2 => ⟨h2.1.trans h1.1, h2.2.trans h1.2⟩)
    (fun W l o o' hl _ _ _ => ⟨World.putObj_heap_other (by omega), World.putObj_heap_other (by omega)⟩) (Below.refl _ _) (fun _ => rfl)
    (fun pre W => OBase w B7 KS NS A n c b pre.length W ∧ ∃ v, ORow w B7 (outp k no b pre) v W)
    (fun _ _ _ => False)
    (fun pre X Y row hs hg hr => ⟨hs.1.kept hg (fun r e => ⟨by have := (hr r e).1; omega, (hr r e).2⟩), by
      obtain ⟨v, hv⟩ := hs.2
      exact ⟨v, hv.kept hg (fun r e => (hr r e).2)⟩⟩)
    (fun _ _ _ _ _ hs _ _ => hs)
    ⟨HBase.out, ⟨_, HRow.out⟩⟩
    (fun x => { tmps := #[.agg KS, .agg NS, .slice A n c, .pointer (some ⟨w.heap.size, 0, none⟩), .pointer (some ⟨w.heap.size + 1, 0, none⟩), undef, .slice none 0 0, .pointer (some ⟨B7, 0, none⟩), .pointer (some ⟨B7 + 1, 0, none⟩), .slice (some ⟨bb, off + 64 * x, none⟩) (min 64 (n - 64 * x)) (min 64 (n - 64 * x)), undef, undef, undef, .slice A n c, .int .i64 n, .slice (some ⟨g0, 0, none⟩) 0 n, .slice A n c, .func (.func 36) #[] #[.pointer (some ⟨B7 + 2, 0, none⟩), .pointer (some ⟨B7 + 3, 0, none⟩)], .slice (some ⟨bb, off + 64 * x, none⟩) (min 64 (n - 64 * x)) (min 64 (n - 64 * x)), undef, undef, undef, undef, undef, undef, undef, undef, undef, undef, undef, undef, undef, undef, undef, undef, undef, undef, undef, undef, undef, undef, undef], defers := [] }) ?assign ?body ?done ?stop
  case assign =>
    intro l x W K hK
    unfold chunkV
    gi_wp2
    exact hK
  case body =>
    rintro l pre x W ⟨hbase, v, hrow⟩ hlen
    have HB := Lib.hid hbase
    have HR := Lib.hid hrow
    clear hbase hrow HBase HRow
    obtain ⟨M, hM⟩ : ∃ M, M = min 64 (n - 64 * x) := ⟨_, rfl⟩
    obtain ⟨O, hO⟩ : ∃ O, O = off + 64 * x := ⟨_, rfl⟩
    rw [← hM, ← hO]
    have hbl := HH.out.1.len
    have HS : Hid (∀ W', OBase w B7 KS NS A n c b pre.length W' → ∀ i, i < M → W'.cell? ⟨bb, O + i, none⟩ = some (.int .u8 ((b[64 * x + i]?.getD 0).toNat : Int))) := Lib.hid fun W' h i hi => by
      obtain ⟨y, o, hA1, _, _, hc⟩ := h.src.row (by omega)
      have := (HA.out (by omega)).symm.trans hA1
      injection this with this
      injection this with e1 e2
      rw [e1, hO, e2, Nat.add_assoc]
      exact hc (64 * x + i) (by omega)
    have HML : Hid (M ≤ 64 ∧ (chunkO k no b pre.length x).length = M) := Lib.hid ⟨by omega, by rw [chunkO_length, hM, hbl]⟩
    have HCO : Hid (∀ i, i < M → (chunkO k no b pre.length x)[i]? = some ((b[64 * x + i]?.getD 0) ^^^ ((partL k no (BitVec.ofNat 32 pre.length))[i]?.getD 0))) := Lib.hid fun i hi => chunkO_at k no b pre.length x i (by rw [hbl, ← hM]; exact hi)
    have HOS := Lib.hid (outp_snoc k no b pre x)
    have HOL := Lib.hid (outp_length k no b pre)
    have HPL := Lib.hid (partL_length k no (BitVec.ofNat 32 pre.length))
    have HPC : Hid (∀ W', QTab W' → Calls Tryd.prog 29 #[.agg KS, .agg NS, .int .u32 (nv (BitVec.ofNat 32 pre.length))] W' fun e w' => e = .returned (.agg (row8 (partL k no (BitVec.ofNat 32 pre.length)))) ∧ Below W'.heap.size W' w') := Lib.hid fun W' h => by
      rw [HK.out.1, HK.out.2.1]
      exact part_any k no HK.out.2.2.1 HK.out.2.2.2 _ h
    have HLN := Lib.hid hlen
    have HMO := Lib.hid (And.intro hM hO)
    clear hM hO hbl hlen
    have HNUM : Hid (nv (BitVec.ofNat 32 pre.length + 1#32) = nv (BitVec.ofNat 32 (pre.length + 1))) := Lib.hid (by rw [BitVec.ofNat_add])
    generalize chunkO k no b pre.length x = CO at *
    generalize outp k no b pre = OU at *
    obtain ⟨OU2, hOU2⟩ : ∃ OU2, OU2 = outp k no b (pre ++ [x]) := ⟨_, rfl⟩
    rw [← hOU2] at HOS
    have HU2 := Lib.hid hOU2
    clear hOU2
    generalize partL k no (BitVec.ofNat 32 pre.length) = PL at *
    generalize hY : BitVec.ofNat 32 pre.length = Y at *
    have HYE := Lib.hid hY
    clear hY
    obtain ⟨PS, hPS⟩ : ∃ PS, PS = row8 PL := ⟨_, rfl⟩
    rw [← hPS] at HPC
    have HPS : Hid (PS.size = 64 ∧ PS.all (·.oneCell') = true ∧ PS = row8 PL) := Lib.hid ⟨by rw [hPS, row8_size, HPL.out], by rw [hPS]; exact row8_one _, hPS⟩
    clear hPS
    have hn8 := HB.out.num
    rw [HYE.out] at hn8
    have hc8 := hn8.cell
    clear hn8
    gi_wp2_with (first | (refine wpListIn_load_row (by rfl) 23 (.tmp 3) (by rfl) w.heap.size (by rfl) 23 KS (0, 0) _ HB.out.key Tryd.underlying23 (by rfl) (by rw [HKS.out.1]; exact info32s) ?_) | (refine wpListIn_load_row (by rfl) 47 (.tmp 4) (by rfl) (w.heap.size + 1) (by rfl) 47 NS (0, 0) _ HB.out.non Tryd.underlying47 (by rfl) (by rw [HKS.out.2]; exact info12s) ?_))
    refine ⟨trivial, (CallsIn.inRound l (callsIn_wide.2 (HPC.out _ HB.out.tab))).mono ?_⟩
    rintro _ W5 ⟨rfl, hb5⟩
    have HG5 := Lib.hid (heap_alloc_new W5 (.cells zeros64q 63))
    gi_wp2_with (refine wpListIn_store_row (by rfl) 63 (.tmp 10) (.tmp 22) (by rfl) W5.heap.size PS (by rfl) (by rfl) 63 _ HG5.out (by rw [HPS.out.1]; exact info64q) (by rw [HPS.out.1]; rfl) HPS.out.2.1 ?_)
    have hb6 : Below W.heap.size W ((W5.alloc (.cells zeros64q 63)).setRow W5.heap.size PS) := hb5.trans ((below_setRow ((Below.refl _ _).alloc (Nat.le_refl _) _) (Nat.le_refl _) _ : Below W5.heap.size W5 _).mono hb5.size)
    have H6 : Hid (OBase w B7 KS NS A n c b pre.length ((W5.alloc (.cells zeros64q 63)).setRow W5.heap.size PS) ∧ (∃ v, ORow w B7 (OU ++ CO.take 0) v ((W5.alloc (.cells zeros64q 63)).setRow W5.heap.size PS)) ∧ ((W5.alloc (.cells zeros64q 63)).setRow W5.heap.size PS).heap[W5.heap.size]? = some (.cells PS 63 (0, 0)) ∧ KeepsOthers W ((W5.alloc (.cells zeros64q 63)).setRow W5.heap.size PS) ∧ B7 + 3 < W5.heap.size) := Lib.hid ⟨HB.out.belo hb6, ⟨v, by rw [List.take_zero, List.append_nil]; exact HR.out.belo hb6⟩, setRow_at HG5.out, keeps_below hb6, Nat.lt_of_lt_of_le (lt_of_cells HB.out.bn) hb5.size⟩
    clear HG5 hb5 hb6 HPC hc8
    generalize (W5.alloc (.cells zeros64q 63)).setRow W5.heap.size PS = W6 at *
    generalize W5.heap.size = PB at *
    gi_loopw [25] (fun i wr => ∃ m : Nat, m ≤ M ∧ i = .int .i64 m ∧ OBase w B7 KS NS A n c b pre.length wr ∧ (∃ v, ORow w B7 (OU ++ CO.take m) v wr) ∧ wr.heap[PB]? = some (.cells PS 63 (0, 0)) ∧ KeepsOthers W wr) (fun i _ => M - (intOf i).toNat)
    case atStart => exact ⟨0, Nat.zero_le _, rfl, H6.out.1, H6.out.2.1, H6.out.2.2.1, H6.out.2.2.2.1⟩
    case round =>
      obtain ⟨m, hm, rfl, hbs, ⟨v2, hrw⟩, hpb, hko⟩ := hrel
      have HX := Lib.hid (And.intro hbs (And.intro hrw (And.intro hpb hko)))
      have HPB := Lib.hid H6.out.2.2.2.2
      clear hbs hrw hpb hko H6 HR v
      by_cases hml : m < M
      · have hcell := HS.out _ HX.out.1 m hml
        obtain ⟨ch, hch⟩ : ∃ ch, b[64 * x + m]?.getD 0 = ch := ⟨_, rfl⟩
        rw [hch] at hcell
        have HCH := Lib.hid hch
        clear hch
        gi_wp2
        obtain ⟨a2, l2, c2, hv2⟩ := HX.out.2.1.isl
        subst hv2
        have HTH : Hid (OBase w B7 KS NS A n c b pre.length wr.drew ∧ wr.drew.heap[PB]? = some (.cells PS 63 (0, 0)) ∧ KeepsOthers W wr.drew) := Lib.hid ⟨HX.out.1.drew, HX.out.2.2.1, HX.out.2.2.2.trans (KeepsOthers.drew _)⟩
        have HRW : Hid (ORow w B7 (OU ++ CO.take m) (.slice a2 l2 c2) wr.drew) := Lib.hid HX.out.2.1.drew
        obtain ⟨pl, hpl⟩ : ∃ pl, PL[m]?.getD 0 = pl := ⟨_, rfl⟩
        have HPC : Hid (∀ V : World, V.heap[PB]? = some (.cells PS 63 (0, 0)) → V.cell? ⟨PB, m, none⟩ = some (.int .u8 (pl.toNat : Int))) := Lib.hid fun V hV => by
          have h1 := HML.out.1
          have h2 := u8s_cell (w := V) (p := PB) (l := PL) (t := 63) (by rw [hV, HPS.out.2.2]; rfl) m (by rw [HPL.out]; omega)
          rw [h2, hpl]
        have HCT : Hid (CO.take (m + 1) = CO.take m ++ [ch ^^^ pl]) := Lib.hid (by
          have h1 := HCO.out m hml
          rw [hpl, HCH.out] at h1
          rw [List.take_add_one, h1]
          rfl)
        have hx8 := xor8 ch pl
        have i64 : (m : Int) < 64 := by have := HML.out.1; omega
        have HLE : Hid ((OU ++ CO.take m).length < 100000000000200) := Lib.hid (by
          have h1 := HOL.out
          have h2 := HLN.out
          have h3 := HML.out.1
          have h4 := HH.out.2.2
          unfold chunkN at h2
          rw [List.length_append, List.length_take]
          omega)
        have HZ : Hid (w.heap.size ≤ B7) := Lib.hid (by omega)
        clear hpl HX hcell
        refine wpIn_region_grow (fun V => OBase w B7 KS NS A n c b pre.length V ∧ V.heap[PB]? = some (.cells PS 63 (0, 0)) ∧ KeepsOthers W V) (fun j V => (j = 7 → V.ownsRow w.heap.size 5 1 (.slice a2 l2 c2) (OU ++ CO.take m).length (u8s (OU ++ CO.take m))) ∧ (j = 8 → Boxed V B7 25 (.slice a2 l2 c2)))
          (Grow.nth [fun u _ => u = .slice a2 l2 c2, fun u _ => u = .int .u8 (ch.toNat : Int), fun u _ => u = .int .i64 (m : Int), fun u _ => u = .pointer (some ⟨PB, m, none⟩), fun u _ => u = .int .u8 (pl.toNat : Int), fun u _ => u = .int .u8 ((ch ^^^ pl).toNat : Int), fun u V => ∃ q, u = .slice (some ⟨q, 0, none⟩) 1 1 ∧ V.heap[q]? = some (.cells #[.int .u8 ((ch ^^^ pl).toNat : Int)] 5 (0, 0)) ∧ q ≠ B7 ∧ some q ≠ (Value.slice a2 l2 c2).ownBlock, fun u V => ∃ g l c, u = .slice (some ⟨g, 0, none⟩) l c ∧ V.ownsRow w.heap.size 5 1 u ((OU ++ CO.take m).length + 1) (u8s (OU ++ CO.take m) ++ [.int .u8 ((ch ^^^ pl).toNat : Int)]) ∧ some B7 ≠ u.ownBlock, fun _ V => ∃ u, ORow w B7 (OU ++ CO.take (m + 1)) u V]) 42 (by kernel_rfl) (by kernel_rfl) (by kernel_rfl) (by rfl) HTH.out (fun j hj => ⟨fun _ => HRW.out.own, fun _ => HRW.out.box⟩) ?gsteps ?gfin
        case gsteps =>
          show Grow.allBelow _ 9
          refine And.intro ?_ ?s8
          refine And.intro ?_ ?s7
          refine And.intro ?_ ?s6
          refine And.intro ?_ ?s5
          refine And.intro ?_ ?s4
          refine And.intro ?_ ?s3
          refine And.intro ?_ ?s2
          refine And.intro ?_ ?s1
          refine And.intro ?_ ?s0
          exact trivial
          case s0 =>
            refine Grow.stepY_in (by rfl) (by rfl) ?_
            intro E V ec eg ef hT hd hu hy R HR
            have e7 : E (.tmp 7) = .pointer (some ⟨B7, 0, none⟩) := hu 7 (by kernel_rfl)
            clear hd hu
            have hb := (hy 8 (by decide) (.inr (by kernel_rfl))).2 rfl
            have hc := hb.cell
            go_simp
            exact HR.out _ _ hT rfl (fun _ _ _ _ _ h => h) (fun _ _ _ h => h)
          case s1 =>
            refine Grow.stepY_in (by rfl) (by rfl) ?_
            intro E V ec eg ef hT hd hu hy R HR
            have e12 : E (.tmp 12) = .int .u8 (ch.toNat : Int) := hu 12 (by kernel_rfl)
            clear hd hu
            go_simp
            exact HR.out _ _ hT rfl (fun _ _ _ _ _ h => h) (fun _ _ _ h => h)
          case s2 =>
            refine Grow.stepY_in (by rfl) (by rfl) ?_
            intro E V ec eg ef hT hd hu hy R HR
            have e11 : E (.tmp 11) = .int .i64 (m : Int) := hu 11 (by kernel_rfl)
            clear hd hu
            go_simp
            exact HR.out _ _ hT rfl (fun _ _ _ _ _ h => h) (fun _ _ _ h => h)
          case s3 =>
            refine Grow.stepY_in (by rfl) (by rfl) ?_
            intro E V ec eg ef hT hd hu hy R HR
            have e10 : E (.tmp 10) = .pointer (some ⟨PB, 0, none⟩) := hu 10 (by kernel_rfl)
            have e32 : E (.tmp 32) = .int .i64 (m : Int) := hd 2 32 (by kernel_rfl)
            clear hd hu
            go_simp
            exact HR.out _ _ hT rfl (fun _ _ _ _ _ h => h) (fun _ _ _ h => h)
          case s4 =>
            refine Grow.stepY_in (by rfl) (by rfl) ?_
            intro E V ec eg ef hT hd hu hy R HR
            have e33 : E (.tmp 33) = .pointer (some ⟨PB, m, none⟩) := hd 3 33 (by kernel_rfl)
            clear hd hu
            have hc := HPC.out V hT.2.1
            go_simp
            exact HR.out _ _ hT rfl (fun _ _ _ _ _ h => h) (fun _ _ _ h => h)
          case s5 =>
            refine Grow.stepY_in (by rfl) (by rfl) ?_
            intro E V ec eg ef hT hd hu hy R HR
            have e31 : E (.tmp 31) = .int .u8 (ch.toNat : Int) := hd 1 31 (by kernel_rfl)
            have e34 : E (.tmp 34) = .int .u8 (pl.toNat : Int) := hd 4 34 (by kernel_rfl)
            clear hd hu
            go_simp
            exact HR.out _ _ hT rfl (fun _ _ _ _ _ h => h) (fun _ _ _ h => h)
          case s6 =>
            refine Grow.stepY_in (by rfl) (by rfl) ?_
            intro E V ec eg ef hT hd hu hy R HR
            have e35 : E (.tmp 35) = .int .u8 ((ch ^^^ pl).toNat : Int) := hd 5 35 (by kernel_rfl)
            have hown := (hy 7 (by decide) (.inr (by kernel_rfl))).1 rfl
            have hb7 := hT.1.num.lt
            have HT := Lib.hid hT
            clear hd hu hy hT
            generalize ch ^^^ pl = xo at *
            go_simp
            have hbl := (Below.refl V.heap.size V).alloc (Nat.le_refl _) (.cells #[.int .u8 (xo.toNat : Int)] 5)
            refine HR.out _ _ ⟨HT.out.1.belo hbl, (hbl.block _ (lt_of_cells HT.out.2.1)).trans HT.out.2.1, HT.out.2.2.trans (keeps_below hbl)⟩ ⟨V.heap.size, rfl, heap_alloc_new V _, by omega, fun e => ?_⟩ (fun j hj hne hw u hu => ?_) (fun j _ _ h => ⟨fun e => ?_, fun e => (h.2 e).alloc _⟩)
            · obtain ⟨_, cs, f, hc⟩ := own_row hown _ e.symm
              have := lt_of_cells hc
              omega
            · have h9 : j < 9 := hj
              rcases (show j = 0 ∨ j = 1 ∨ j = 2 ∨ j = 3 ∨ j = 4 ∨ j = 5 ∨ j = 6 ∨ j = 7 ∨ j = 8 by omega) with rfl | rfl | rfl | rfl | rfl | rfl | rfl | rfl | rfl
              · exact hu
              · exact hu
              · exact hu
              · exact hu
              · exact hu
              · exact hu
              · exact absurd rfl hne
              · cases hw.symm.trans (show Grow.waitsB _ 7 6 = true by kernel_rfl)
              · cases hw.symm.trans (show Grow.waitsB _ 8 6 = true by kernel_rfl)
            · have h1 := h.1 e
              refine h1.kept (World.grownBy_alloc V _ none) ?_
              rcases h1.2 with ⟨h2, _⟩ | ⟨g, cap, cur, h2, _⟩
              · exact .inl (by rw [h2]; rfl)
              · exact .inr (by rw [h2]; simp [Value.ownBlock])
          case s7 =>
            refine Grow.stepY_in (by rfl) (by rfl) ?_
            intro E V ec eg ef hT hd hu hy R HR
            have e30 : E (.tmp 30) = .slice a2 l2 c2 := hd 0 30 (by kernel_rfl)
            obtain ⟨q, e36, hq0, hqb, hqr⟩ := hd 6 36 (by kernel_rfl)
            have hown := (hy 7 (by decide) (.inl rfl)).1 rfl
            have hbox := (hy 8 (by decide) (.inr (by kernel_rfl))).2 rfl
            clear hd hu hy
            have hor := own_row hown
            refine runs_append (P := Tryd.prog) V (.tmp 30) (.tmp 36) 25 (by rfl) w.heap.size 5 i0 (.int .u8 0) 1 1 Tryd.underlying25 HI.out.1 HI.out.2.1 HI.out.2.2.1 HI.out.2.2.2 rfl (by decide) (.slice a2 l2 c2) _ _ e30 hown ⟨q, 0, none⟩ 1 1 [.int .u8 ((ch ^^^ pl).toNat : Int)] e36 rfl ?_ (by simp [Value.oneCell']) (by have := HLE.out; unfold maxLen; omega) (by have := HLE.out; omega) hT.1.below.size ?_
            · intro j u hj
              have hj0 : j = 0 := by
                have := (List.getElem?_eq_some_iff.1 hj).1
                simpa using this
              subst hj0
              rw [add_plain, cell_of_cells hq0]
              simpa using hj
            · intro v' W' hown' hgr
              obtain ⟨g', cap', rfl⟩ := ownsRow_succ hown'
              have hr2 : ∀ r, (Value.slice a2 l2 c2).ownBlock = some r → ∃ cs f, V.heap[r]? = some (.cells cs 5 f) := fun r e => (hor r e).2
              have hbox' : Boxed W' B7 25 (.slice a2 l2 c2) := cells_other hgr (by decide) hr2 hbox
              refine HR.out _ _ ⟨hT.1.rowed HH.out.2.1 hgr hor, cells_other hgr (by decide) hr2 hT.2.1, hT.2.2.trans (keeps_grown hgr hr2)⟩ ⟨_, _, _, rfl, hown', hbox'.not_row (by decide) hown'⟩ (fun j hj hne hw u hu => ?_) (fun j _ hne h => ⟨fun e => absurd e hne, fun _ => hbox'⟩)
              have h9 : j < 9 := hj
              rcases (show j = 0 ∨ j = 1 ∨ j = 2 ∨ j = 3 ∨ j = 4 ∨ j = 5 ∨ j = 6 ∨ j = 7 ∨ j = 8 by omega) with rfl | rfl | rfl | rfl | rfl | rfl | rfl | rfl | rfl
              · exact hu
              · exact hu
              · exact hu
              · exact hu
              · exact hu
              · exact hu
              · obtain ⟨q2, h1, h2, h3, h4⟩ := hu
                exact ⟨q2, h1, (hgr.block _ (lt_of_cells h2) h4).trans h2, h3, h4⟩
              · exact absurd rfl hne
              · cases hw.symm.trans (show Grow.waitsB _ 8 7 = true by kernel_rfl)
          case s8 =>
            refine Grow.stepY_in (by rfl) (by rfl) ?_
            intro E V ec eg ef hT hd hu hy R HR
            have e7 : E (.tmp 7) = .pointer (some ⟨B7, 0, none⟩) := hu 7 (by kernel_rfl)
            obtain ⟨g', l', c', e37, hown, hbr⟩ := hd 7 37 (by kernel_rfl)
            have hbox := (hy 8 (by decide) (.inl rfl)).2 rfl
            have hc := hbox.cell
            have hf := hbox.frozen
            rw [e37] at hown hbr
            have HT := Lib.hid hT
            have HO := Lib.hid (And.intro hown (And.intro hbr hbox))
            clear hd hu hy hT hown hbr hbox
            go_simp
            have hgb := grownBy_setCell' V B7 (.slice (some ⟨g', 0, none⟩) l' c')
            have htu : Turned (· = B7) V (V.setCell ⟨B7, 0, none⟩ (.slice (some ⟨g', 0, none⟩) l' c')) := (Turned.refl (· = B7) V).set (p := B7) rfl _ _
            refine HR.out _ _ ⟨HT.out.1.turned htu HH.out.2.1 (fun y e => by omega), (htu.block _ (lt_of_cells HT.out.2.1) (by have := HPB.out; omega)).trans HT.out.2.1, HT.out.2.2.trans (KeepsOthers.setCell _ _ _)⟩ ⟨_, HO.out.2.2.set _, ?_, ⟨_, _, _, rfl⟩⟩ (fun j hj hne hw u hu => ?_) (fun j _ hne h => ⟨fun e => ?_, fun e => absurd e hne⟩)
            · rw [HCT.out, ← List.append_assoc, List.length_append, List.length_singleton, u8s_append]
              exact HO.out.1.kept hgb (.inr HO.out.2.1.symm)
            · have h9 : j < 9 := hj
              rcases (show j = 0 ∨ j = 1 ∨ j = 2 ∨ j = 3 ∨ j = 4 ∨ j = 5 ∨ j = 6 ∨ j = 7 ∨ j = 8 by omega) with rfl | rfl | rfl | rfl | rfl | rfl | rfl | rfl | rfl
              · exact hu
              · exact hu
              · exact hu
              · exact hu
              · exact hu
              · exact hu
              · obtain ⟨q2, h1, h2, h3, h4⟩ := hu
                exact ⟨q2, h1, (hgb.block _ (lt_of_cells h2) (fun e => by injection e with e; exact h3 e)).trans h2, h3, h4⟩
              · obtain ⟨g2, l2', c2', h1, h2, h3⟩ := hu
                exact ⟨g2, l2', c2', h1, h2.kept hgb (.inr h3.symm), h3⟩
              · exact absurd rfl hne
            · exact (h.1 e).kept hgb (.inr (HO.out.2.2.not_row (by decide) (h.1 e)).symm)
        case gfin =>
          intro V hT
          refine Grow.fin_dst (by rfl) ?_
          rintro _ rfl
          refine Grow.fin_dst (by rfl) ?_
          rintro _ rfl
          refine Grow.fin_dst (by rfl) ?_
          rintro _ rfl
          refine Grow.fin_dst (by rfl) ?_
          rintro _ rfl
          refine Grow.fin_dst (by rfl) ?_
          rintro _ rfl
          refine Grow.fin_dst (by rfl) ?_
          rintro _ rfl
          refine Grow.fin_dst (by rfl) ?_
          rintro _ ⟨q, rfl, _⟩
          refine Grow.fin_dst (by rfl) ?_
          rintro _ ⟨g', l', c', rfl, _⟩
          refine Grow.fin_told (by rfl) ?_
          rintro ⟨_, u, hO⟩
          simp only [Act.put, List.setIfInBounds_toArray, List.set_cons_zero, List.set_cons_succ]
          refine Grow.fin_end ?_
          have HF := Lib.hid (And.intro hT hO)
          clear hT hO
          gi_wp2
          go_roundw
          case rel => exact ⟨m + 1, by omega, by go_num, HF.out.1.1, ⟨u, HF.out.2⟩, HF.out.1.2.1, HF.out.1.2.2⟩
          case measure => simp [intOf]; omega
      · obtain rfl : m = M := by omega
        have hco : CO.take CO.length = CO := List.take_length
        rw [HML.out.2] at hco
        have HX2 : Hid (OBase w B7 KS NS A n c b pre.length wr ∧ ORow w B7 OU2 v2 wr ∧ KeepsOthers W wr) := Lib.hid ⟨HX.out.1, by rw [HOS.out]; have := HX.out.2.1; rw [hco] at this; exact this, HX.out.2.2.2⟩
        have hnb : Boxed wr (B7 + 1) 59 (.int .u32 (nv Y)) := by rw [← HYE.out]; exact HX.out.1.num
        have hc := hnb.cell
        have hf := hnb.frozen
        have hadd : (nv Y + 1) % 4294967296 = nv (Y + 1#32) := W32.add_ Y 1#32
        have HNB := Lib.hid hnb
        clear HX hco hnb
        gi_wp2
        rw [HNUM.out]
        have hnx := HX2.out.1.next HH.out.2.1 (by omega)
        refine ⟨(HX2.out.2.2.trans (KeepsOthers.setCell _ _ _)).from _, ⟨hnx.bs.trans HB.out.bs.symm, hnx.bn.trans HB.out.bn.symm⟩, by rw [List.length_append]; exact hnx, ⟨v2, by rw [← HU2.out]; exact HX2.out.2.1.other (by omega) HNB.out (by decide) _⟩⟩
  case done =>
    rintro D xs W hD rfl ⟨hbs, v, hrw⟩ hK
    have hall := outp_all k no b
    rw [HH.out.1.len] at hall
    rw [hall] at hrw
    obtain ⟨a', l', c', rfl⟩ := hrw.isl
    have hc := hrw.box.cell
    have HF := Lib.hid (And.intro hbs hrw)
    clear hbs hrw hall
    gi_wp2
    refine ⟨by simp, .inl ⟨_, _, rfl, run_takeDeferred hK, ?_⟩⟩
    have hown := ownsRow_putObj HF.out.2.own (.deferred none) hK rfl
    rw [overL_length, HH.out.1.len] at hown
    obtain ⟨A', c2, e1, hby⟩ := own_byt hown
    exact ⟨_, results_tmp rfl _ _ _, A', c2, by rw [e1]; rfl, hby, HF.out.1.below.trans (belowK_b (w := w) (Nat.le_refl _) W D _ _ (by omega) hK rfl rfl)⟩
  case stop =>
    rintro D c pre W _ _ h _
    exact h.elim
end Go.Proofs.YtlkkocgjpljibaaDoor
