/-
  slices.Chunk of a row of bytes, parts of 64: its iterator's contract.
-/
import Derived.RangeFuncNested
import Derived.RangeFuncBound
import Derived.RangeFuncCalls
import Derived.RangeFuncLeaves
import Derived.Shelf.Abstract
import Derived.Shelf.RegionOpen
import Derived.WalkKit
import Derived.OwnWalkIn
import Derived.TacticsInMore
import Derived.LoopNIn
import Derived.LoopIn
import Derived.Test.YtmgglcllfpikcaaDoorCells
namespace Go.Proofs.YtmgglcllfpikcaaDoor
open Go.RowKit Go.Shelf
attribute [local go_sem] Oper.semAt_some

/-- Part m of n bytes that begin at b, off. -/
def chunkV (b off n m : Nat) : Array Value := #[.slice (some ⟨b, off + 64 * m, none⟩) (min 64 (n - 64 * m)) (min 64 (n - 64 * m))]
def chunkN (n : Nat) : Nat := (n + 63) / 64
/-- What a round must leave as it was: the iterator's two boxes. -/
def chunkK (Bs Bn : Nat) (W W' : World) : Prop := W'.heap[Bs]? = W.heap[Bs]? ∧ W'.heap[Bn]? = W.heap[Bn]?
theorem gr_drew (W : World) : W.grownBy W.drew none := ⟨rfl, rfl, rfl, Nat.le_refl _, fun _ _ _ => rfl⟩

/-- s[i:j:j] -/
theorem run_part_of {P : Program} (t e : TypeId) (ht : P.underlying t = some (.slice e)) (hz : ∀ w, (Go.sizeOf e).run P w = .ok 1 w) (b off n c i m : Nat) (h1 : i + m ≤ c) (h0 : 0 < m) (W : World) :
    (Instr.slice t (.slice (some ⟨b, off, none⟩) n c) (some (.int .i64 (i : Int))) (some (.int .i64 ((i : Int) + (m : Int)))) (some (.int .i64 ((i : Int) + (m : Int))))).run P W = .ok (.slice (some ⟨b, off + i, none⟩) m m) W := by
  have ht' : P.underlying t = some (.slice (P.elem t)) := by simp [Program.elem, ht]
  have he : P.elem t = e := by simp [Program.elem, ht]
  rw [run_slice_lhm W t (some ⟨b, off, none⟩) n c ht' .i64 .i64 .i64 (i : Int) ((i : Int) + (m : Int)) ((i : Int) + (m : Int)) (by omega) (by omega) (by omega) (by omega), he, hz]
  have e1 : ((i : Int) + (m : Int)).toNat = i + m := by omega
  have e2 : ((i : Int)).toNat = i := by omega
  simp [Result.andThen, sliced, e1, e2, add_plain]
  omega

set_option maxHeartbeats 2000000 in
/-- slices.Chunk(s, 64) itself. -/
theorem chunk_in (n : Nat) (A : Option Addr) (len cap : Nat) (w : World) :
    CallsIn Fence.wide n Tryd.prog 17 #[.slice A len cap, .int .i64 64] w fun e w' => e = .returned (.func (.func 21) #[] #[.pointer (some ⟨w.heap.size, 0, none⟩), .pointer (some ⟨w.heap.size + 1, 0, none⟩)]) ∧
      w' = (w.alloc (.cells #[.slice A len cap] 30)).alloc (.cells #[.int .i64 64] 3) := by
  refine callsIn_of_wp Tryd.func17 rfl trivial ?_ rfl
  simp only [Tryd.ntmps17, List.size_toArray, List.length_cons, List.length_nil, Nat.reduceAdd, Nat.reduceSub, Array.replicate_succ, Array.replicate_zero, List.push_toArray, List.append_toArray, List.nil_append, List.cons_append]
  have hmf : ∀ (fn : Fn) (first cap : Array Value) (w : World), (Instr.makeFunc fn first cap).run Tryd.prog w = .ok (.func fn first cap) w := fun _ _ _ _ => rfl
  gi_wp2
  go_ret
  exact ⟨rfl, rfl⟩

set_option maxHeartbeats 4000000 in
set_option maxRecDepth 100000 in
theorem chunk1_in (n : Nat) (hn : 1 ≤ n) (l Bs Bn b off len cap : Nat) (A : Option Addr) (hA : 0 < len → A = some ⟨b, off, none⟩) (hlc : len ≤ cap) (hcm : cap ≤ maxLen) (hbg : len < 4611686018427387904) (J Jx : List Nat → World → Prop) (B : Nat) (hJ : AbidesFrom B J)
    (hY : ∀ pre x W, J pre W → pre.length < chunkN len → YieldAt Fence.wide (n - 1) Tryd.prog l (chunkV b off len x) W fun e W' =>
      (e = .returned (.bool true) ∧ J (pre ++ [x]) W' ∧ chunkK Bs Bn W W') ∨ (e = .returned (.bool false) ∧ Jx (pre ++ [x]) W'))
    (W : World) (hs : W.heap[Bs]? = some (.cells #[.slice A len cap] 30 (0, 0))) (hb : W.heap[Bn]? = some (.cells #[.int .i64 64] 3 (0, 0))) (h0 : J [] W) :
    CallsIn Fence.wide n Tryd.prog 21 #[.func (.yield l) #[] #[], .pointer (some ⟨Bs, 0, none⟩), .pointer (some ⟨Bn, 0, none⟩)] W fun e W' => (∃ v, e = .returned v) ∧
      ((∃ ys, ys = List.range (chunkN len) ∧ J ys W') ∨ (∃ pre, True ∧ Jx pre W')) := by
  have HA := Lib.hid hA
  have HB := Lib.hid (And.intro hs hb)
  have HC := Lib.hid (And.intro hlc hcm)
  have HBG := Lib.hid hbg
  clear hA hs hb hlc hcm hbg
  refine callsIn_of_wp Tryd.func21 rfl trivial ?_ rfl
  simp only [Tryd.ntmps21, List.size_toArray, List.length_cons, List.length_nil, Nat.reduceAdd, Nat.reduceSub, Array.replicate_succ, Array.replicate_zero, List.push_toArray, List.append_toArray, List.nil_append, List.cons_append]
  gi_wp2
  gi_loopw [4] (fun i wr => ∃ k : Nat, 64 * k < len + 64 ∧ i = .int .i64 ((64 * k : Nat) : Int) ∧ J (List.range k) wr ∧ wr.heap[Bs]? = some (.cells #[.slice A len cap] 30 (0, 0)) ∧ wr.heap[Bn]? = some (.cells #[.int .i64 64] 3 (0, 0)))
    (fun i _ => len + 64 - (intOf i).toNat)
  case atStart => exact ⟨0, by omega, rfl, h0, HB.out⟩
  case round =>
    obtain ⟨k, hk, rfl, hJs, hb1, hb2⟩ := hrel
    have hc1 := cell_of_cells hb1 0
    have hc2 := cell_of_cells hb2 0
    simp only [List.getElem?_toArray, List.getElem?_cons_zero] at hc1 hc2
    have HX := Lib.hid (And.intro hb1 hb2)
    clear hb1 hb2 HB
    obtain ⟨i, hi⟩ : ∃ i, i = 64 * k := ⟨_, rfl⟩
    rw [← hi] at hk ⊢
    have HI := Lib.hid hi
    clear hi
    by_cases hlt : i < len
    · have hAe := HA.out (by omega)
      have hl1 := HC.out.1
      have hl2 := HC.out.2
      subst hAe
      have hsl := fun W => run_cut (P := Tryd.prog) 30 5 Tryd.underlying30 u8_size (some ⟨b, off, none⟩) len cap i (by omega) W
      have hcut : cutA (some ⟨b, off, none⟩) cap i = some ⟨b, off + i, none⟩ := by
        unfold cutA
        rw [if_neg (by omega)]
        simp [add_plain]
      rw [hcut] at hsl
      obtain ⟨m, hm⟩ : ∃ m, m = min 64 (len - i) := ⟨_, rfl⟩
      have HM := Lib.hid hm
      clear hm hcut
      gi_wp2
      gi_region
      rw [show (min 64 ((len - i : Nat) : Int)) = (m : Int) by rw [HM.out]; omega]
      have hm0 : 0 < m := by rw [HM.out]; omega
      have him : i + m ≤ cap := by rw [HM.out]; omega
      have hs2 := fun W => run_part_of (P := Tryd.prog) 30 5 Tryd.underlying30 u8_size b off len cap i m him hm0 W
      have hJd : J (List.range k) wr.drew := hJ _ _ _ none hJs (gr_drew wr) (fun r e => by cases e)
      have hlen : (List.range k).length < chunkN len := by
        have := HI.out
        rw [List.length_range]
        unfold chunkN
        omega
      obtain ⟨fn, tmps, assign, body, hy, hR⟩ := hY _ k _ hJd hlen
      have hch : chunkV b off len k = #[.slice (some ⟨b, off + i, none⟩) m m] := by
        unfold chunkV
        rw [← HI.out, ← HM.out]
      rw [hch] at hy
      have HX : Hid (wr.drew.heap[Bs]? = some (.cells #[.slice (some ⟨b, off, none⟩) len cap] 30 (0, 0)) ∧ wr.drew.heap[Bn]? = some (.cells #[.int .i64 64] 3 (0, 0))) := Lib.hid HX.out
      have hc1 := cell_of_cells HX.out.1 0
      simp only [List.getElem?_toArray, List.getElem?_cons_zero] at hc1
      have HR := Lib.hid hR
      clear hlen hch hsl hR hc2
      generalize wr.drew = wd at *
      have hwi := IntWalk.i64_in ((i : Int) + (m : Int)) (by have h1 := HC.out.2; have h2 := him; unfold maxLen at h1; omega)
      gi_wp2
      refine HR.out.mono ?_
      rintro e W3 (⟨rfl, hJ3, hk3⟩ | ⟨rfl, hJx3⟩)
      · have hb1 := hk3.1.trans HX.out.1
        have hb2 := hk3.2.trans HX.out.2
        have hc2 := cell_of_cells hb2 0
        simp only [List.getElem?_toArray, List.getElem?_cons_zero] at hc2
        have H3 := Lib.hid (And.intro hb1 (And.intro hb2 hJ3))
        have hw6 := IntWalk.i64_in ((i : Int) + 64) (by have h1 := HBG.out; omega)
        clear hb1 hb2 hJ3 hk3 hc1 HR hy hs2 hJd hwi HX
        gi_wp2
        go_roundw
        case rel => exact ⟨k + 1, by have := HI.out; omega, by have := HI.out; go_num, by rw [List.range_succ]; exact H3.out.2.2, H3.out.1, H3.out.2.1⟩
        case measure => simp [intOf]; omega
      · gi_wp2
        refine bodyPost_ret (results_none rfl _ _ _) rfl ?_
        exact ⟨⟨_, rfl⟩, .inr ⟨_, trivial, hJx3⟩⟩
    · have hkN : k = chunkN len := by
        have := HI.out
        unfold chunkN
        omega
      have HJ := Lib.hid (hkN ▸ hJs)
      clear hkN hJs
      gi_wp2
      go_end0
      exact ⟨⟨_, rfl⟩, .inl ⟨_, rfl, HJ.out⟩⟩

/-- ITS CONTRACT, as loops over it want it. -/
theorem chunk_stops (n : Nat) (hn : 1 ≤ n) (Bs Bn b off len cap : Nat) (A : Option Addr) (hA : 0 < len → A = some ⟨b, off, none⟩) (hlc : len ≤ cap) (hcm : cap ≤ maxLen) (hbg : len < 4611686018427387904) (w : World)
    (hs : w.heap[Bs]? = some (.cells #[.slice A len cap] 30 (0, 0))) (hb : w.heap[Bn]? = some (.cells #[.int .i64 64] 3 (0, 0))) :
    SeqStopsK Fence.wide n Tryd.prog 21 #[.pointer (some ⟨Bs, 0, none⟩), .pointer (some ⟨Bn, 0, none⟩)] (chunkV b off len) (chunkK Bs Bn) (fun ys => ys = List.range (chunkN len)) (fun _ => True) (chunkN len) w :=
  fun l J Jx W hW hJ _ hY h0 =>
    chunk1_in n hn l Bs Bn b off len cap A hA hlc hcm hbg J Jx _ hJ hY W ((hW.block _ (lt_of_cells hs)).trans hs) ((hW.block _ (lt_of_cells hb)).trans hb) h0
end Go.Proofs.YtmgglcllfpikcaaDoor
