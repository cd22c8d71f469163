/-
  Cells, the reference: a store in memory; what Open answers.
-/
import Derived.Test.YtmioifcbkhpdaaaGreatPkPl16
import Derived.Test.YtmioifcbkhpdaaaGreatPkPl01
import Derived.Test.YtmioifcbkhpdaaaGreatPkPl06
namespace Go.Proofs.YtmioifcbkhpdaaaGreat
set_option maxHeartbeats 16000000
set_option maxRecDepth 100000
open Go.RowKit
structure OpW (w0 : World) (DV ZV LV : Array Value) (w : World) : Prop where
 dv : w.heap[w0.heap.size]? = some (.cells DV 30 (0, 0))
 zv : w.heap[w0.heap.size + 1]? = some (.cells ZV 39 (0, 0))
 lv : w.heap[w0.heap.size + 2]? = some (.cells LV 39 (0, 0))
 bel : Below w0.heap.size w0 w
theorem OpW.set {w0 w : World} {DV ZV LV : Array Value} (h : OpW w0 DV ZV LV w) (i : Nat) (u : Value) : OpW w0 DV ZV (LV.setIfInBounds i u) (w.setCell ⟨w0.heap.size + 2, i, none⟩ u) :=
 ⟨(Below.heap_setCell _ _ _ _ (by simp)).trans h.dv, (Below.heap_setCell _ _ _ _ (by simp)).trans h.zv, zG h.lv i u, h.bel.setCell (by simp) u⟩
def RO1 (bs : List (List UInt8)) (from_ n : Nat) (w3 : World) (most i : Value) (wr : World) : Prop := ∃ j : Nat, j ≤ n ∧ i = .int .i64 ((from_ + j : Nat) : Int) ∧ most = .int .u64 (xQ (bs.take j) : Int) ∧ wr = w3
theorem take_one {l : List (List UInt8)} {from_ n j : Nat} (h : from_ + n ≤ l.length) (hj : j < n) : ((l.drop from_).take n).take (j + 1) = ((l.drop from_).take n).take j ++ [l[from_ + j]?.getD []] := by
 have hl : j < ((l.drop from_).take n).length := by rw [List.length_take, List.length_drop]; omega
 rw [List.take_succ_eq_append_getElem hl]
 congr 2
 rw [List.getElem_take, List.getElem_drop, List.getElem?_eq_getElem (by omega)];rfl
def lvA (from_ n : Int) (first NX have_ : Nat) (v : Value) : Array Value := #[.int .i64 from_, .int .i64 n, .int .u64 (first : Int), .int .u64 (NX : Int), .int .i64 (have_ : Int), v, .int .i64 0]
structure RO2 (w0 : World) (DV ZV : Array Value) (bs : List (List UInt8)) (from_ n : Int) (NX : Nat) (j : Nat) (s : WS) (v : Value) (wr : World) : Prop where
 scan : zk bs 0 ws0 = zk (bs.drop j) j s
 op : OpW w0 DV ZV (lvA from_ n s.first NX s.have_ v) wr
 own : wr.ownsRow (w0.heap.size + 3) 9 1 v s.recs.length (yq s.recs)
 now : s.now.length ≤ 110 * j
 few : s.recs.length ≤ j
 ahd : s.ahead < 18446744073709551616
theorem scan_at {bs : List (List UInt8)} {j : Nat} (h : j < bs.length) (s : WS) : zk (bs.drop j) j s = if badW s (ze (bs[j]?.getD [])).1 = true then s else zk (bs.drop (j + 1)) (j + 1) (zf j s (ze (bs[j]?.getD [])).1 (ze (bs[j]?.getD [])).2.1 (ze (bs[j]?.getD [])).2.2) := by
 rw [List.drop_eq_getElem_cons h, zk, List.getElem?_eq_getElem h];rfl
theorem OpW.below {w0 w w' : World} {DV ZV LV : Array Value} (h : OpW w0 DV ZV LV w) (hb : Below w.heap.size w w') : OpW w0 DV ZV LV w' :=
 ⟨(hb.block _ (zB h.dv)).trans h.dv, (hb.block _ (zB h.zv)).trans h.zv, (hb.block _ (zB h.lv)).trans h.lv, h.bel.trans (hb.mono h.bel.size)⟩
theorem own_set {w : World} {B : Nat} {e : TypeId} {v : Value} {k : Nat} {xs : List Value} (h : w.ownsRow B e 1 v k xs) {p : Nat} (hp : p < B) (i : Nat) (u : Value) : (w.setCell ⟨p, i, none⟩ u).ownsRow B e 1 v k xs := by
 refine h.kept (gr_set (gr_refl w (some p)) i u) ?_;rcases hv : v.ownBlock with _ | g
 ·exact .inl rfl
 ·refine .inr fun e => ?_
  injection e with e
  have := (h.lt g hv).1;omega
theorem open_post {w w' : World} {DV ZV : Array Value} {bs : List (List UInt8)} {from_ n : Int} {NX : Nat} {j : Nat} {s : WS} {v : Value} (h : RO2 w DV ZV bs from_ n NX j s v w') (hs : zk (bs.drop j) j s = s) (hn : NX = (xQ bs + 1) % 18446744073709551616) :
    yl w bs from_ n 0 (.returned (.tuple #[.agg (lvA from_ n s.first NX s.have_ v), .int .i64 0])) (w'.setRow (w.heap.size + 1) (lvA from_ n s.first NX s.have_ v)) := by
 have hm : yd bs from_ n = ⟨from_, n, s.first, NX, s.have_, s.recs, 0⟩ := by
  unfold yd;rw [h.scan, hs, ← hn]
 obtain ⟨A, c, rfl, hst⟩ := own_strs h.own;unfold yl;rw [if_pos rfl, hm];exact ⟨A, _, c, rfl, (hst.turned (zO (w := w') (g := w.heap.size + 1) _) fun b _ h1 h2 => by omega).mono fun b _ hb => by omega, zD h.op.bel (by omega) _⟩
def RO3 (w0 : World) (DV ZV : Array Value) (bs : List (List UInt8)) (from_ n : Int) (NX N : Nat) (nw wi ah fs i : Value) (wr : World) : Prop :=
 ∃ (j : Nat) (s : WS) (v : Value), j ≤ N ∧ nw = .string (st s.now) ∧ wi = .bool s.within ∧ ah = .int .u64 (s.ahead : Int) ∧ fs = .int .u64 (s.fst : Int) ∧ i = .int .i64 (j : Int) ∧ RO2 w0 DV ZV bs from_ n NX j s v wr
theorem lvA_one (from_ n : Int) (a b c : Nat) {v : Value} (h : v.oneCell' = true) : (lvA from_ n a b c v).all (·.oneCell') = true := by
 have hi : ∀ k m, (Value.int k m).oneCell' = true := fun _ _ => rfl
 simp [lvA, h, hi]
theorem own_one {w : World} {B : Nat} {e : TypeId} {v : Value} {k : Nat} {xs : List Value} (h : w.ownsRow B e 1 v k xs) : v.oneCell' = true := by
 rcases h.2 with ⟨rfl, _⟩ | ⟨g, cap, cur, rfl, _⟩ <;> rfl
theorem op_grown {w0 w w' : World} {o : Obj} {DV ZV LV : Array Value} {e : TypeId} {v : Value} {k : Nat} {xs : List Value} (h : OpW w0 DV ZV LV w) (ho : w.ownsRow (w0.heap.size + 3) e 1 v k xs) (hg : (w.alloc o).grownBy w' v.ownBlock) : OpW w0 DV ZV LV w' := by
 have hl := ho.lt;have keep : ∀ i, i < w0.heap.size + 3 → i < w.heap.size → w'.heap[i]? = w.heap[i]? := fun i hi hi2 => (hg.block i (by simp; omega) (fun e => by have := (hl i e.symm).1; omega)).trans (heap_alloc_old _ _ hi2)
 exact ⟨(keep _ (by omega) (zB h.dv)).trans h.dv, (keep _ (by omega) (zB h.zv)).trans h.zv, (keep _ (by omega) (zB h.lv)).trans h.lv, (h.bel.alloc h.bel.size o).grown hg (by simp; have := h.bel.size; omega) fun i hi => by have := (hl i hi).1; omega⟩
theorem str_info3 : (Tryz.prog.info? 9).map (fun i => (i.zero, i.size, i.bytes)) = some (some (.string ByteArray.empty), 1, 16) := by kernel_rfl
theorem rwopen_run {w : World} {T : Nat → Prop} {A : Option Addr} {nl c : Nat} {d : DM} (h : Strs w T A nl c d.l) (ok : d.Ok) (hn : nl ≤ 1000000) (from_ n : Nat) (h1 : 1 ≤ n) (h3 : from_ + n ≤ nl) (h5 : d.down = false) :
    Calls Tryz.prog 31 #[.agg (dmV d A nl c), .int .i64 (from_ : Int), .int .i64 (n : Int)] w fun e w' => yl w ((d.l.drop from_).take n) (from_ : Int) (n : Int) 0 e w' := by
 obtain ⟨bs, hbs⟩ := sqz ((d.l.drop from_).take n);rw [← hbs];have HBS := Lib.hid hbs;clear hbs;have hz := yb;obtain ⟨ZV, hZV⟩ := sqz (lmV lm0 none 0 0);rw [← hZV] at hz;obtain ⟨DV, hDV⟩ := sqz (dmV d A nl c);rw [← hDV];have hd0 := heap_alloc_new w (.cells DV 30);have hd1 := (heap_alloc_old (w.alloc (.cells DV 30)) (.cells ZV 39) (zB hd0)).trans hd0;have hz1 := heap_alloc_new (w.alloc (.cells DV 30)) (.cells ZV 39);rw [World.size_alloc] at hz1;have hb1 := zi w (.cells DV 30) (.cells ZV 39);have hsz2 : ((w.alloc (.cells DV 30)).alloc (.cells ZV 39)).heap.size = w.heap.size + 2 := by simp
 have HV := sq2 hZV hDV;have HH := sq6 h ok hn h1 h3 h.len;clear hZV hDV h ok
 go_enter Tryz.func31, Tryz.ntmps31
 go_upto_region 1 with fail
 generalize (w.alloc (.cells DV 30)).alloc (.cells ZV 39) = w2 at *
 have hc0 : w2.cell? ⟨w.heap.size, 0, none⟩ = some (.slice A nl c) := by rw [zA hd1, HV.out.2]; rfl
 have hc3 : w2.cell? ⟨w.heap.size, 3, none⟩ = some (.bool false) := by rw [zA hd1, HV.out.2, ← h5]; rfl
 have hk1 : ¬ (from_ : Int) < 0 := by omega
 have hk2 : ¬ (n : Int) < 1 := by omega
 have hk3 : ¬ (nl : Int) < (from_ : Int) := by omega
 have hk4 : ¬ (nl : Int) - (from_ : Int) < (n : Int) := by omega
 have hsub := IntWalk.i64_in ((nl : Int) - (from_ : Int)) (by omega);have H2 := sq4 hd1 hz1 hb1 hsz2;clear hd0 hd1 hz1 hb1 h1 h3 h5 hn hz
 go_upto_region 6 with fail
 have hO : OpW w DV ZV #[.int .i64 (from_ : Int), .int .i64 (n : Int), .int .u64 0, .int .u64 0, .int .i64 0, .slice none 0 0, .int .i64 0] (w2.alloc (.cells #[.int .i64 (from_ : Int), .int .i64 (n : Int), .int .u64 0, .int .u64 0, .int .i64 0, .slice none 0 0, .int .i64 0] 39)) := by
  have hn2 := heap_alloc_new w2 (.cells #[.int .i64 (from_ : Int), .int .i64 (n : Int), .int .u64 0, .int .u64 0, .int .i64 0, .slice none 0 0, .int .i64 0] 39);rw [H2.out.2.2.2] at hn2;exact ⟨(heap_alloc_old _ _ (zB H2.out.1)).trans H2.out.1, (heap_alloc_old _ _ (zB H2.out.2.1)).trans H2.out.2.1, hn2, H2.out.2.2.1.alloc (by omega) _⟩
 have HO := Lib.hid hO;clear hO hc0 hc3 hk1 hk2 hk3 hk4 hsub hsz2 H2
 generalize w2.alloc (.cells #[.int .i64 (from_ : Int), .int .i64 (n : Int), .int .u64 0, .int .u64 0, .int .i64 0, .slice none 0 0, .int .i64 0] 39) = w3 at *
 have hfn := IntWalk.i64_in ((from_ : Int) + (n : Int)) (by have h2 := HH.out.2.2.1; have h3 := HH.out.2.2.2.2.1; omega);have hc0 : w3.cell? ⟨w.heap.size, 0, none⟩ = some (.slice A nl c) := by rw [zA HO.out.dv, HV.out.2]; rfl
 go_wp2_with fail
 go_loopw [9, 10] (fun m i wr => RO1 bs from_ n w3 m i wr) (fun _ i _ => from_ + n - (intOf i).toNat)
 case atStart => exact ⟨0, Nat.zero_le _, by simp, by simp [xQ], rfl⟩
 case round =>
  obtain ⟨j, hj, rfl, rfl, rfl⟩ := hrel
  by_cases hlt : j < n
  ·(have hlt' : ((from_ + j : Nat) : Int) < (from_ : Int) + (n : Int) := by omega);obtain ⟨I, hI⟩ := sqz (from_ + j);obtain ⟨X, hX⟩ := sqz (d.l[I]?.getD []);obtain ⟨q, o, hA, _, _, hcl⟩ := (HH.out.1.below (HO.out.bel)).row (by have h3 := HH.out.2.2.2.2.1; omega);subst hA;have hsc := hcl I (by have h3 := HH.out.2.2.2.2.1; omega);rw [← hX] at hsc
   have hXl : X.length = 128 := by
    have h3 := HH.out.2.2.2.2.1;have h4 := HH.out.2.2.2.2.2;rw [hX, List.getElem?_eq_getElem (show I < d.l.length by omega)];exact HH.out.2.1.each _ (List.getElem_mem _)
   have hmo : xQ (bs.take (j + 1)) = mostS (xQ (bs.take j)) X := by
    rw [HBS.out, take_one (by rw [HH.out.2.2.2.2.2]; exact HH.out.2.2.2.2.1) hlt, most_snoc, hX, hI]
   rw [← hI] at hlt' ⊢;obtain ⟨M, hM⟩ := sqz (xQ (bs.take j));obtain ⟨a, ha⟩ := sqz (yC (X.take 8));obtain ⟨b, hb⟩ := sqz (yC (X.drop 120));unfold mostS at hmo;rw [← hM, ← ha, ← hb] at hmo;rw [← hM];have hto := st_to 9 Tryz.underlying9 X wr 8 8 rfl (by omega);have hfr := st_from 9 Tryz.underlying9 X wr 120 120 rfl (by omega);have hv1 := rwvalue_any (X.take 8) (by rw [List.length_take]; omega) wr;have hv2 := rwvalue_any (X.drop 120) (by rw [List.length_drop]; omega) wr;rw [← ha] at hv1;rw [← hb] at hv2;(have hin : (I : Int) < (nl : Int) := by have h3 := HH.out.2.2.2.2.1; omega);have hadd := IntWalk.i64_in ((I : Int) + 1) (by have h3 := HH.out.2.2.2.2.1; have h2 := HH.out.2.2.1; omega);have HX := sq3 hlt hI hmo
   generalize st (X.take 8) = S8 at *
   generalize st (X.drop 120) = S120 at *
   (generalize st X = SX at *);clear hX hXl hM ha hb hmo hI hj hlt hcl
   go_upto_region 11 with (go_at_call 57; refine hv1.mono ?_; clear hv1; rintro _ _ ⟨rfl, rfl⟩)
   go_upto_region 12 with (go_at_call 57; refine hv2.mono ?_; clear hv2; rintro _ _ ⟨rfl, rfl⟩)
   clear hto hfr hsc
   by_cases h1 : M < a
   ·have h1' : (M : Int) < (a : Int) := by omega
    by_cases h2 : a < b
    ·have h2' : (a : Int) < (b : Int) := by omega
     go_wp2_with fail
     go_roundw
     case rel => unfold RO1; exact ⟨j + 1, by have := HX.out.1; omega, by simp; have := HX.out.2.1; omega, by rw [HX.out.2.2]; congr 1; omega, rfl⟩
     case measure => simp only [intOf]; have h5 := HX.out.1; have h6 := HX.out.2.1; omega
    ·have h2' : ¬ (a : Int) < (b : Int) := by omega
     go_wp2_with fail
     go_roundw
     case rel => unfold RO1; exact ⟨j + 1, by have := HX.out.1; omega, by simp; have := HX.out.2.1; omega, by rw [HX.out.2.2]; congr 1; omega, rfl⟩
     case measure => simp only [intOf]; have h5 := HX.out.1; have h6 := HX.out.2.1; omega
   ·have h1' : ¬ (M : Int) < (a : Int) := by omega
    by_cases h2 : M < b
    ·have h2' : (M : Int) < (b : Int) := by omega
     go_wp2_with fail
     go_roundw
     case rel => unfold RO1; exact ⟨j + 1, by have := HX.out.1; omega, by simp; have := HX.out.2.1; omega, by rw [HX.out.2.2]; congr 1; omega, rfl⟩
     case measure => simp only [intOf]; have h5 := HX.out.1; have h6 := HX.out.2.1; omega
    ·have h2' : ¬ (M : Int) < (b : Int) := by omega
     go_wp2_with fail
     go_roundw
     case rel => unfold RO1; exact ⟨j + 1, by have := HX.out.1; omega, by simp; have := HX.out.2.1; omega, by rw [HX.out.2.2]; congr 1; omega, rfl⟩
     case measure => simp only [intOf]; have h5 := HX.out.1; have h6 := HX.out.2.1; omega
  ·(have hlt' : ¬ ((from_ + j : Nat) : Int) < (from_ : Int) + (n : Int) := by omega);(obtain rfl : n = j := by omega);(have hbl : bs.length = n := by have h3 := HH.out.2.2.2.2.1; have h4 := HH.out.2.2.2.2.2; rw [HBS.out, List.length_take, List.length_drop]; omega);have htk : bs.take n = bs := List.take_of_length_le (by omega);rw [htk]
   have hMl : xQ bs < 18446744073709551616 := most_lt bs (fun b hb => by
    rw [HBS.out] at hb;exact HH.out.2.1.each b (List.mem_of_mem_drop (List.mem_of_mem_take hb))) 0 (by omega)
   obtain ⟨M, hM⟩ := sqz (xQ bs);obtain ⟨NX, hNX⟩ := sqz ((M + 1) % 18446744073709551616);rw [← hM] at hMl ⊢;(have hw1 : IntKind.u64.wrap ((M : Int) + 1) = (NX : Int) := by rw [IntKind.wrap_u64, hNX]; omega);have HNX := Lib.hid (show NX = (xQ bs + 1) % 18446744073709551616 by rw [← hM, hNX]);have hc3 : wr.cell? ⟨w.heap.size + 2, 3, none⟩ = some (.int .u64 0) := zA HO.out.lv 3;have hf3 := zC HO.out.lv 3;have HBL := Lib.hid hbl;clear hM hNX hMl htk hbl hj hlt
   go_upto_region 17 with fail
   have hO4 := HO.out.set 3 (.int .u64 (NX : Int));clear hc3 hf3 hc0
   (generalize wr.setCell ⟨w.heap.size + 2, 3, none⟩ (.int .u64 (NX : Int)) = w4 at *);have H4 : Hid (OpW w DV ZV (lvA (from_ : Int) (n : Int) 0 NX 0 (.slice none 0 0)) w4) := Lib.hid hO4;obtain ⟨i0, hi, hz0, hz1, hz2⟩ := info_parts str_info3;have HI := sq4 hi hz0 hz1 hz2;clear hO4 hi hz0 hz1 hz2 hlt'
   go_wp2_with fail
   go_loopw [13, 14, 15, 16, 17] (fun nw wi ah fs i wr => RO3 w DV ZV bs (from_ : Int) (n : Int) NX n nw wi ah fs i wr) (fun _ _ _ _ i _ => n - (intOf i).toNat)
   case atStart => exact ⟨0, ws0, .slice none 0 0, Nat.zero_le _, rfl, rfl, rfl, rfl, rfl, by rw [List.drop_zero], H4.out, World.ownsRow_nil _ _ _ _, by simp [ws0], by simp [ws0], by simp [ws0]⟩
   case round =>
    obtain ⟨j, s, v, hj, rfl, rfl, rfl, rfl, rfl, hS⟩ := hrel
    by_cases hlt : j < n
    ·(have hlt2 : (j : Int) < (n : Int) := by omega);obtain ⟨X, hX⟩ := sqz (bs[j]?.getD []);obtain ⟨I, hI⟩ := sqz (from_ + j)
     have hXd : X = d.l[I]?.getD [] := by
      (have hlb : j < bs.length := by rw [HBL.out]; exact hlt);rw [hX, hI, List.getElem?_eq_getElem hlb, Option.getD_some];have h3 := HH.out.2.2.2.2.1;have h4 := HH.out.2.2.2.2.2;rw [List.getElem?_eq_getElem (show from_ + j < d.l.length by omega), Option.getD_some];have hB := HBS.out;subst hB;rw [List.getElem_take, List.getElem_drop]
     (obtain ⟨K, PT, E, hR⟩ : ∃ K PT E, ze X = (K, PT, E) := ⟨_, _, _, rfl⟩);have hsm := readL_small X;have hrw := rwread_any X wr;rw [hR] at hsm hrw;simp only at hsm hrw;obtain ⟨q, o, hA, _, _, hcl⟩ := (HH.out.1.below hS.op.bel).row (by have h3 := HH.out.2.2.2.2.1; omega);subst hA;have hsc := hcl I (by have h3 := HH.out.2.2.2.2.1; omega);rw [← hXd] at hsc;(have hc0 : wr.cell? ⟨w.heap.size, 0, none⟩ = some (.slice (some ⟨q, o, none⟩) nl c) := by rw [zA hS.op.dv, HV.out.2]; rfl);have hfj := IntWalk.i64_in ((from_ : Int) + (j : Int)) (by have h2 := HH.out.2.2.1; have h3 := HH.out.2.2.2.2.1; omega);(have hfi : (from_ : Int) + (j : Int) = (I : Int) := by omega);(have hin : (I : Int) < (nl : Int) := by have h3 := HH.out.2.2.2.2.1; omega);have hadd := IntWalk.i64_in ((j : Int) + 1) (by have h2 := HH.out.2.2.1; have h3 := HH.out.2.2.2.2.1; omega);rw [hfi] at hfj;obtain ⟨SN, hSN⟩ := sqz (st s.now);obtain ⟨SP, hSP⟩ := sqz (st PT)
     have hss : ¬ 9223372036854775807 < SN.size + SP.size := by
      have h1 := hS.now;have h2 := HH.out.2.2.1;have h3 := HH.out.2.2.2.2.1;rw [hSN, hSP, zN, zN];omega
     have HAP := Lib.hid (show SN ++ SP = st (s.now ++ PT) by rw [hSN, hSP, xA]);have HSN := Lib.hid hSN;rw [← hSP] at hrw;rw [← hSN];have HKL := Lib.hid hsm.1;have HJ := sq4 (show j + 1 ≤ n by omega) (show j < bs.length by rw [HBL.out]; exact hlt) (show ze (bs[j]?.getD []) = (K, PT, E) by rw [← hX, hR]) hsm.2;have hA := Lib.hid hS.ahd;have HSq := Lib.hid hS
     (generalize st X = SX at *);clear hX hI hXd hR hsm hcl hSN hSP hS hj hlt
     go_upto_region 25 with (go_at_call 58; refine hrw.mono ?_; clear hrw; rintro _ w5 ⟨rfl, hb5⟩)
     have HS : Hid (RO2 w DV ZV bs (from_ : Int) (n : Int) NX j s v w5) := Lib.hid ⟨HSq.out.scan, HSq.out.op.below hb5, yN HSq.out.own hb5, HSq.out.now, HSq.out.few, HSq.out.ahd⟩;clear hb5 hsc hc0 hfj HSq;obtain ⟨AH, hAH⟩ := sqz s.ahead;obtain ⟨WI, hWI⟩ := sqz s.within;obtain ⟨FS, hFS⟩ := sqz s.fst;rw [← hAH, ← hWI, ← hFS];have HQ := sq3 hAH hWI hFS;(have hAl : AH < 18446744073709551616 := by rw [hAH]; exact hA.out);(have hbw : badW s K = (decide (K = 0) || decide (K ≤ AH) || (WI && decide (K - AH ≠ 1))) := by rw [badW, hAH, hWI]);clear hAH hWI hFS hA
     by_cases hk0 : K = 0
     ·(have hK0 : ((K : Int) == 0) = true := by simp; omega);(have hbad : badW s K = true := by rw [hbw, hk0]; simp);clear hbw hk0 hAl;have hvo := Lib.hid (own_one HS.out.own);(obtain ⟨LV, hLV⟩ : ∃ LV, LV = lvA (from_ : Int) (n : Int) s.first NX s.have_ v := ⟨_, rfl⟩);have HLV := sq2 (hLV ▸ HS.out.op) hLV;have HBD := Lib.hid hbad;clear hLV hbad
      go_wp2_with (first
       | (refine yA 8 HLV.out.1.lv Tryz.underlying39 (by rw [HLV.out.2]; exact zL) ?_)
       | (refine zl 6 116 LV HLV.out.1.zv (by rw [HLV.out.2]; exact zL) (by rw [HV.out.1, HLV.out.2]; rfl) (by rw [HLV.out.2]; exact lvA_one _ _ _ _ _ hvo.out) ?_))
      (try simp only [Exit.inBlock, Exit.then])
      refine bodyPost_ret (yi (p := 6) (u := 7) rfl _ _ (w.heap.size + 1) LV rfl (zF HLV.out.1.zv) (by rw [HLV.out.2]; rfl)) rfl ?_;rw [HLV.out.2];exact open_post HS.out (by rw [scan_at HJ.out.2.1, HJ.out.2.2.1, if_pos HBD.out]) HNX.out
     ·have hK0 : ((K : Int) == 0) = false := by simp; omega
      by_cases hka : K ≤ AH
      ·(have hKA : (K : Int) ≤ (AH : Int) := by omega);(have hbad : badW s K = true := by rw [hbw]; simp [hka]);clear hbw hk0 hAl hka;have hvo := Lib.hid (own_one HS.out.own);(obtain ⟨LV, hLV⟩ : ∃ LV, LV = lvA (from_ : Int) (n : Int) s.first NX s.have_ v := ⟨_, rfl⟩);have HLV := sq2 (hLV ▸ HS.out.op) hLV;have HBD := Lib.hid hbad;clear hLV hbad
       go_wp2_with (first
        | (refine yA 8 HLV.out.1.lv Tryz.underlying39 (by rw [HLV.out.2]; exact zL) ?_)
        | (refine zl 6 116 LV HLV.out.1.zv (by rw [HLV.out.2]; exact zL) (by rw [HV.out.1, HLV.out.2]; rfl) (by rw [HLV.out.2]; exact lvA_one _ _ _ _ _ hvo.out) ?_))
       (try simp only [Exit.inBlock, Exit.then])
       refine bodyPost_ret (yi (p := 6) (u := 7) rfl _ _ (w.heap.size + 1) LV rfl (zF HLV.out.1.zv) (by rw [HLV.out.2]; rfl)) rfl ?_;rw [HLV.out.2];exact open_post HS.out (by rw [scan_at HJ.out.2.1, HJ.out.2.2.1, if_pos HBD.out]) HNX.out
      ·(have hKA : ¬ (K : Int) ≤ (AH : Int) := by omega);(have hKs : IntKind.u64.wrap ((K : Int) - (AH : Int)) = ((K - AH : Nat) : Int) := by rw [IntWalk.u64_in _ (by have := HKL.out; omega)]; omega);obtain ⟨DD, hDD⟩ := sqz (K - AH);rw [← hDD] at hKs;(have hbw2 : badW s K = (WI && decide (DD ≠ 1)) := by rw [hbw, hDD]; simp [hk0]; omega);have hkk := hk0;clear hbw hDD hka hAl hK0
       cases WI
       ·(have hbad : badW s K = false := by rw [hbw2]; rfl);clear hbw2;have HKK := Lib.hid hkk;clear hkk hk0
        cases E
        ·by_cases hj00 : j = 0
         ·(have hK0 : ((K : Int) == 0) = false := by have := HKK.out; simp; omega);(have hj0 : ((j : Int) == 0) = true := by simp; omega);have HNS := Lib.hid (show zk (bs.drop j) j s = zk (bs.drop (j + 1)) (j + 1) (zf j s K PT false) by rw [scan_at HJ.out.2.1, HJ.out.2.2.1, if_neg (by rw [hbad]; simp)]);have HJ0 := Lib.hid (show (if j = 0 then K else s.fst) = K by rw [if_pos hj00]);clear hbad hj00
          go_wp2_with fail
          go_roundw
          case rel =>
           refine ⟨_, _, _, _, _, _, ?_, rfl, rfl, rfl, rfl, rfl, rfl⟩;unfold RO3;refine ⟨j + 1, zf j s K PT false, v, HJ.out.1, by rw [HAP.out]; rfl, rfl, rfl, ?_, by simp, ?_⟩
           ·show _ = Value.int .u64 (((if j = 0 then K else s.fst : Nat)) : Int);rw [HJ0.out]
           ·exact ⟨HS.out.scan.trans HNS.out, HS.out.op, HS.out.own, by have h1 := HS.out.now; have h2 := HJ.out.2.2.2; simp only [zf, Bool.false_eq_true, if_false, List.length_append]; omega, by have := HS.out.few; simp only [zf, Bool.false_eq_true, if_false]; omega, HKL.out⟩
          case measure => simp only [intOf]; have := HJ.out.1; omega
         ·(have hK0 : ((K : Int) == 0) = false := by have := HKK.out; simp; omega);(have hj0 : ((j : Int) == 0) = false := by simp; omega);have HNS := Lib.hid (show zk (bs.drop j) j s = zk (bs.drop (j + 1)) (j + 1) (zf j s K PT false) by rw [scan_at HJ.out.2.1, HJ.out.2.2.1, if_neg (by rw [hbad]; simp)]);have HJ0 := Lib.hid (show (if j = 0 then K else s.fst) = FS by rw [if_neg hj00]; exact HQ.out.2.2.symm);clear hbad hj00
          go_wp2_with fail
          go_roundw
          case rel =>
           refine ⟨_, _, _, _, _, _, ?_, rfl, rfl, rfl, rfl, rfl, rfl⟩;unfold RO3;refine ⟨j + 1, zf j s K PT false, v, HJ.out.1, by rw [HAP.out]; rfl, rfl, rfl, ?_, by simp, ?_⟩
           ·show _ = Value.int .u64 (((if j = 0 then K else s.fst : Nat)) : Int);rw [HJ0.out]
           ·exact ⟨HS.out.scan.trans HNS.out, HS.out.op, HS.out.own, by have h1 := HS.out.now; have h2 := HJ.out.2.2.2; simp only [zf, Bool.false_eq_true, if_false, List.length_append]; omega, by have := HS.out.few; simp only [zf, Bool.false_eq_true, if_false]; omega, HKL.out⟩
          case measure => simp only [intOf]; have := HJ.out.1; omega
        ·by_cases hj00 : j = 0
         ·(have hK0 : ((K : Int) == 0) = false := by have := HKK.out; simp; omega);(have hj0 : ((j : Int) == 0) = true := by simp; omega);have HNS := Lib.hid (show zk (bs.drop j) j s = zk (bs.drop (j + 1)) (j + 1) (zf j s K PT true) by rw [scan_at HJ.out.2.1, HJ.out.2.2.1, if_neg (by rw [hbad]; simp)]);have HJ0 := Lib.hid (show (if j = 0 then K else s.fst) = K by rw [if_pos hj00]);clear hbad hj00;have hc5 : w5.cell? ⟨w.heap.size + 2, 5, none⟩ = some v := zA HS.out.op.lv 5
          go_upto_region 33 with fail
          go_wp2_with (at_builtin; refine wpList_append_own_at _ rfl _ _ 28 rfl (w.heap.size + 3) 9 i0 (.string ByteArray.empty) 1 16 Tryz.underlying28 HI.out.1 HI.out.2.1 HI.out.2.2.1 HI.out.2.2.2 rfl (by decide) _ s.recs.length (yq s.recs) rfl (HS.out.own.alloc _) ⟨w5.heap.size, 0, none⟩ 1 1 [.string (SN ++ SP)] rfl rfl (cell_one_new _ _ _) (one_of rfl) (by have h1 := HS.out.few; have h2 := HJ.out.1; have h3 := HH.out.2.2.1; have h4 := HH.out.2.2.2.2.1; unfold maxLen; omega) (by have h1 := HS.out.few; have h2 := HJ.out.1; have h3 := HH.out.2.2.1; have h4 := HH.out.2.2.2.2.1; omega) (by have := zB HS.out.op.lv; simp; omega) ?_)
          intro V6 w6 hown6 hgrow _ _;obtain ⟨g6, cap6, hv6, _, _⟩ := hown6.form (by omega);subst hv6;have HG6 := sq2 hown6 hgrow;have HO6 : Hid (OpW w DV ZV (lvA (from_ : Int) (n : Int) s.first NX s.have_ v) w6) := Lib.hid (op_grown HS.out.op HS.out.own hgrow);have hc56 : w6.cell? ⟨w.heap.size + 2, 5, none⟩ = some v := zA HO6.out.lv 5;have hf56 := zC HO6.out.lv 5;clear hown6 hgrow hc5
          go_upto_region 34 with fail
          have hO7 := HO6.out.set 5 (.slice (some ⟨g6, 0, none⟩) (s.recs.length + 1) cap6);have hw7 := own_set (p := w.heap.size + 2) HG6.out.1 (by omega) 5 (.slice (some ⟨g6, 0, none⟩) (s.recs.length + 1) cap6);clear hc56 hf56
          (generalize w6.setCell ⟨w.heap.size + 2, 5, none⟩ (.slice (some ⟨g6, 0, none⟩) (s.recs.length + 1) cap6) = w7 at *);have HO7 := sq2 hO7 hw7;have hc4 : w7.cell? ⟨w.heap.size + 2, 4, none⟩ = some (.int .i64 (s.have_ : Int)) := zA HO7.out.1.lv 4;have hf4 := zC HO7.out.1.lv 4;clear hO7 hw7
          go_upto_region 35 with fail
          have hO8 := HO7.out.1.set 4 (.int .i64 ((j : Int) + 1));have hw8 := own_set (p := w.heap.size + 2) HO7.out.2 (by omega) 4 (.int .i64 ((j : Int) + 1));clear hc4 hf4
          (generalize w7.setCell ⟨w.heap.size + 2, 4, none⟩ (.int .i64 ((j : Int) + 1)) = w8 at *);have HO8 := sq2 hO8 hw8;have hc2 : w8.cell? ⟨w.heap.size + 2, 2, none⟩ = some (.int .u64 (s.first : Int)) := zA HO8.out.1.lv 2;have hf2 := zC HO8.out.1.lv 2;clear hO8 hw8
          go_upto_region 36 with fail
          have hO9 := HO8.out.1.set 2 (.int .u64 (K : Int));have hw9 := own_set (p := w.heap.size + 2) HO8.out.2 (by omega) 2 (.int .u64 (K : Int));clear hc2 hf2
          (generalize w8.setCell ⟨w.heap.size + 2, 2, none⟩ (.int .u64 (K : Int)) = w9 at *);have HO9 := sq2 hO9 hw9;clear hO9 hw9
          go_wp2_with fail
          go_roundw
          case rel =>
           repeat (apply Exists.intro)
           refine And.intro ?hrl3 ?heq3
           case' heq3 => (repeat' (first | rfl | apply And.intro))
           unfold RO3;refine ⟨j + 1, zf j s K PT true, (.slice (some ⟨g6, 0, none⟩) (s.recs.length + 1) cap6), HJ.out.1, rfl, rfl, rfl, ?_, by simp, ?_⟩
           ·show _ = Value.int .u64 (((if j = 0 then K else s.fst : Nat)) : Int);rw [HJ0.out]
           ·refine ⟨HS.out.scan.trans HNS.out, ?_, ?_, by simp [zf], by have := HS.out.few; simp only [zf, if_true, List.length_append, List.length_singleton]; omega, HKL.out⟩
            ·show OpW w DV ZV (lvA (from_ : Int) (n : Int) (if j = 0 then K else s.fst) NX (j + 1) (.slice (some ⟨g6, 0, none⟩) (s.recs.length + 1) cap6)) w9;rw [HJ0.out];exact HO9.out.1
            ·show w9.ownsRow (w.heap.size + 3) 9 1 (.slice (some ⟨g6, 0, none⟩) (s.recs.length + 1) cap6) (s.recs ++ [s.now ++ PT]).length (yq (s.recs ++ [s.now ++ PT]));have h9 := HO9.out.2;rw [HAP.out] at h9;rw [List.length_append, yq, List.map_append];exact h9
          case measure =>
           show n - (intOf (.int .i64 ((j : Int) + 1))).toNat < n - (intOf (.int .i64 (j : Int))).toNat;simp only [intOf];have := HJ.out.1;omega
         ·(have hK0 : ((K : Int) == 0) = false := by have := HKK.out; simp; omega);(have hj0 : ((j : Int) == 0) = false := by simp; omega);have HNS := Lib.hid (show zk (bs.drop j) j s = zk (bs.drop (j + 1)) (j + 1) (zf j s K PT true) by rw [scan_at HJ.out.2.1, HJ.out.2.2.1, if_neg (by rw [hbad]; simp)]);have HJ0 := Lib.hid (show (if j = 0 then K else s.fst) = FS by rw [if_neg hj00]; exact HQ.out.2.2.symm);clear hbad hj00;have hc5 : w5.cell? ⟨w.heap.size + 2, 5, none⟩ = some v := zA HS.out.op.lv 5
          go_upto_region 33 with fail
          go_wp2_with (at_builtin; refine wpList_append_own_at _ rfl _ _ 28 rfl (w.heap.size + 3) 9 i0 (.string ByteArray.empty) 1 16 Tryz.underlying28 HI.out.1 HI.out.2.1 HI.out.2.2.1 HI.out.2.2.2 rfl (by decide) _ s.recs.length (yq s.recs) rfl (HS.out.own.alloc _) ⟨w5.heap.size, 0, none⟩ 1 1 [.string (SN ++ SP)] rfl rfl (cell_one_new _ _ _) (one_of rfl) (by have h1 := HS.out.few; have h2 := HJ.out.1; have h3 := HH.out.2.2.1; have h4 := HH.out.2.2.2.2.1; unfold maxLen; omega) (by have h1 := HS.out.few; have h2 := HJ.out.1; have h3 := HH.out.2.2.1; have h4 := HH.out.2.2.2.2.1; omega) (by have := zB HS.out.op.lv; simp; omega) ?_)
          intro V6 w6 hown6 hgrow _ _;obtain ⟨g6, cap6, hv6, _, _⟩ := hown6.form (by omega);subst hv6;have HG6 := sq2 hown6 hgrow;have HO6 : Hid (OpW w DV ZV (lvA (from_ : Int) (n : Int) s.first NX s.have_ v) w6) := Lib.hid (op_grown HS.out.op HS.out.own hgrow);have hc56 : w6.cell? ⟨w.heap.size + 2, 5, none⟩ = some v := zA HO6.out.lv 5;have hf56 := zC HO6.out.lv 5;clear hown6 hgrow hc5
          go_upto_region 34 with fail
          have hO7 := HO6.out.set 5 (.slice (some ⟨g6, 0, none⟩) (s.recs.length + 1) cap6);have hw7 := own_set (p := w.heap.size + 2) HG6.out.1 (by omega) 5 (.slice (some ⟨g6, 0, none⟩) (s.recs.length + 1) cap6);clear hc56 hf56
          (generalize w6.setCell ⟨w.heap.size + 2, 5, none⟩ (.slice (some ⟨g6, 0, none⟩) (s.recs.length + 1) cap6) = w7 at *);have HO7 := sq2 hO7 hw7;have hc4 : w7.cell? ⟨w.heap.size + 2, 4, none⟩ = some (.int .i64 (s.have_ : Int)) := zA HO7.out.1.lv 4;have hf4 := zC HO7.out.1.lv 4;clear hO7 hw7
          go_upto_region 35 with fail
          have hO8 := HO7.out.1.set 4 (.int .i64 ((j : Int) + 1));have hw8 := own_set (p := w.heap.size + 2) HO7.out.2 (by omega) 4 (.int .i64 ((j : Int) + 1));clear hc4 hf4
          (generalize w7.setCell ⟨w.heap.size + 2, 4, none⟩ (.int .i64 ((j : Int) + 1)) = w8 at *);have HO8 := sq2 hO8 hw8;have hc2 : w8.cell? ⟨w.heap.size + 2, 2, none⟩ = some (.int .u64 (s.first : Int)) := zA HO8.out.1.lv 2;have hf2 := zC HO8.out.1.lv 2;clear hO8 hw8
          go_upto_region 36 with fail
          have hO9 := HO8.out.1.set 2 (.int .u64 (FS : Int));have hw9 := own_set (p := w.heap.size + 2) HO8.out.2 (by omega) 2 (.int .u64 (FS : Int));clear hc2 hf2
          (generalize w8.setCell ⟨w.heap.size + 2, 2, none⟩ (.int .u64 (FS : Int)) = w9 at *);have HO9 := sq2 hO9 hw9;clear hO9 hw9
          go_wp2_with fail
          go_roundw
          case rel =>
           repeat (apply Exists.intro)
           refine And.intro ?hrl4 ?heq4
           case' heq4 => (repeat' (first | rfl | apply And.intro))
           unfold RO3;refine ⟨j + 1, zf j s K PT true, (.slice (some ⟨g6, 0, none⟩) (s.recs.length + 1) cap6), HJ.out.1, rfl, rfl, rfl, ?_, by simp, ?_⟩
           ·show _ = Value.int .u64 (((if j = 0 then K else s.fst : Nat)) : Int);rw [HJ0.out]
           ·refine ⟨HS.out.scan.trans HNS.out, ?_, ?_, by simp [zf], by have := HS.out.few; simp only [zf, if_true, List.length_append, List.length_singleton]; omega, HKL.out⟩
            ·show OpW w DV ZV (lvA (from_ : Int) (n : Int) (if j = 0 then K else s.fst) NX (j + 1) (.slice (some ⟨g6, 0, none⟩) (s.recs.length + 1) cap6)) w9;rw [HJ0.out];exact HO9.out.1
            ·show w9.ownsRow (w.heap.size + 3) 9 1 (.slice (some ⟨g6, 0, none⟩) (s.recs.length + 1) cap6) (s.recs ++ [s.now ++ PT]).length (yq (s.recs ++ [s.now ++ PT]));have h9 := HO9.out.2;rw [HAP.out] at h9;rw [List.length_append, yq, List.map_append];exact h9
          case measure =>
           show n - (intOf (.int .i64 ((j : Int) + 1))).toNat < n - (intOf (.int .i64 (j : Int))).toNat;simp only [intOf];have := HJ.out.1;omega
       ·by_cases hd1 : DD = 1
        ·(have hD1 : ((DD : Int) != 1) = false := by simp; omega);(have hbad : badW s K = false := by rw [hbw2, hd1]; rfl);clear hbw2 hd1;have HKK := Lib.hid hkk;clear hkk hk0
         cases E
         ·by_cases hj00 : j = 0
          ·(have hK0 : ((K : Int) == 0) = false := by have := HKK.out; simp; omega);(have hj0 : ((j : Int) == 0) = true := by simp; omega);have HNS := Lib.hid (show zk (bs.drop j) j s = zk (bs.drop (j + 1)) (j + 1) (zf j s K PT false) by rw [scan_at HJ.out.2.1, HJ.out.2.2.1, if_neg (by rw [hbad]; simp)]);have HJ0 := Lib.hid (show (if j = 0 then K else s.fst) = K by rw [if_pos hj00]);clear hbad hj00
           go_wp2_with fail
           go_roundw
           case rel =>
            refine ⟨_, _, _, _, _, _, ?_, rfl, rfl, rfl, rfl, rfl, rfl⟩;unfold RO3;refine ⟨j + 1, zf j s K PT false, v, HJ.out.1, by rw [HAP.out]; rfl, rfl, rfl, ?_, by simp, ?_⟩
            ·show _ = Value.int .u64 (((if j = 0 then K else s.fst : Nat)) : Int);rw [HJ0.out]
            ·exact ⟨HS.out.scan.trans HNS.out, HS.out.op, HS.out.own, by have h1 := HS.out.now; have h2 := HJ.out.2.2.2; simp only [zf, Bool.false_eq_true, if_false, List.length_append]; omega, by have := HS.out.few; simp only [zf, Bool.false_eq_true, if_false]; omega, HKL.out⟩
           case measure => simp only [intOf]; have := HJ.out.1; omega
          ·(have hK0 : ((K : Int) == 0) = false := by have := HKK.out; simp; omega);(have hj0 : ((j : Int) == 0) = false := by simp; omega);have HNS := Lib.hid (show zk (bs.drop j) j s = zk (bs.drop (j + 1)) (j + 1) (zf j s K PT false) by rw [scan_at HJ.out.2.1, HJ.out.2.2.1, if_neg (by rw [hbad]; simp)]);have HJ0 := Lib.hid (show (if j = 0 then K else s.fst) = FS by rw [if_neg hj00]; exact HQ.out.2.2.symm);clear hbad hj00
           go_wp2_with fail
           go_roundw
           case rel =>
            refine ⟨_, _, _, _, _, _, ?_, rfl, rfl, rfl, rfl, rfl, rfl⟩;unfold RO3;refine ⟨j + 1, zf j s K PT false, v, HJ.out.1, by rw [HAP.out]; rfl, rfl, rfl, ?_, by simp, ?_⟩
            ·show _ = Value.int .u64 (((if j = 0 then K else s.fst : Nat)) : Int);rw [HJ0.out]
            ·exact ⟨HS.out.scan.trans HNS.out, HS.out.op, HS.out.own, by have h1 := HS.out.now; have h2 := HJ.out.2.2.2; simp only [zf, Bool.false_eq_true, if_false, List.length_append]; omega, by have := HS.out.few; simp only [zf, Bool.false_eq_true, if_false]; omega, HKL.out⟩
           case measure => simp only [intOf]; have := HJ.out.1; omega
         ·by_cases hj00 : j = 0
          ·(have hK0 : ((K : Int) == 0) = false := by have := HKK.out; simp; omega);(have hj0 : ((j : Int) == 0) = true := by simp; omega);have HNS := Lib.hid (show zk (bs.drop j) j s = zk (bs.drop (j + 1)) (j + 1) (zf j s K PT true) by rw [scan_at HJ.out.2.1, HJ.out.2.2.1, if_neg (by rw [hbad]; simp)]);have HJ0 := Lib.hid (show (if j = 0 then K else s.fst) = K by rw [if_pos hj00]);clear hbad hj00;have hc5 : w5.cell? ⟨w.heap.size + 2, 5, none⟩ = some v := zA HS.out.op.lv 5
           go_upto_region 33 with fail
           go_wp2_with (at_builtin; refine wpList_append_own_at _ rfl _ _ 28 rfl (w.heap.size + 3) 9 i0 (.string ByteArray.empty) 1 16 Tryz.underlying28 HI.out.1 HI.out.2.1 HI.out.2.2.1 HI.out.2.2.2 rfl (by decide) _ s.recs.length (yq s.recs) rfl (HS.out.own.alloc _) ⟨w5.heap.size, 0, none⟩ 1 1 [.string (SN ++ SP)] rfl rfl (cell_one_new _ _ _) (one_of rfl) (by have h1 := HS.out.few; have h2 := HJ.out.1; have h3 := HH.out.2.2.1; have h4 := HH.out.2.2.2.2.1; unfold maxLen; omega) (by have h1 := HS.out.few; have h2 := HJ.out.1; have h3 := HH.out.2.2.1; have h4 := HH.out.2.2.2.2.1; omega) (by have := zB HS.out.op.lv; simp; omega) ?_)
           intro V6 w6 hown6 hgrow _ _;obtain ⟨g6, cap6, hv6, _, _⟩ := hown6.form (by omega);subst hv6;have HG6 := sq2 hown6 hgrow;have HO6 : Hid (OpW w DV ZV (lvA (from_ : Int) (n : Int) s.first NX s.have_ v) w6) := Lib.hid (op_grown HS.out.op HS.out.own hgrow);have hc56 : w6.cell? ⟨w.heap.size + 2, 5, none⟩ = some v := zA HO6.out.lv 5;have hf56 := zC HO6.out.lv 5;clear hown6 hgrow hc5
           go_upto_region 34 with fail
           have hO7 := HO6.out.set 5 (.slice (some ⟨g6, 0, none⟩) (s.recs.length + 1) cap6);have hw7 := own_set (p := w.heap.size + 2) HG6.out.1 (by omega) 5 (.slice (some ⟨g6, 0, none⟩) (s.recs.length + 1) cap6);clear hc56 hf56
           (generalize w6.setCell ⟨w.heap.size + 2, 5, none⟩ (.slice (some ⟨g6, 0, none⟩) (s.recs.length + 1) cap6) = w7 at *);have HO7 := sq2 hO7 hw7;have hc4 : w7.cell? ⟨w.heap.size + 2, 4, none⟩ = some (.int .i64 (s.have_ : Int)) := zA HO7.out.1.lv 4;have hf4 := zC HO7.out.1.lv 4;clear hO7 hw7
           go_upto_region 35 with fail
           have hO8 := HO7.out.1.set 4 (.int .i64 ((j : Int) + 1));have hw8 := own_set (p := w.heap.size + 2) HO7.out.2 (by omega) 4 (.int .i64 ((j : Int) + 1));clear hc4 hf4
           (generalize w7.setCell ⟨w.heap.size + 2, 4, none⟩ (.int .i64 ((j : Int) + 1)) = w8 at *);have HO8 := sq2 hO8 hw8;have hc2 : w8.cell? ⟨w.heap.size + 2, 2, none⟩ = some (.int .u64 (s.first : Int)) := zA HO8.out.1.lv 2;have hf2 := zC HO8.out.1.lv 2;clear hO8 hw8
           go_upto_region 36 with fail
           have hO9 := HO8.out.1.set 2 (.int .u64 (K : Int));have hw9 := own_set (p := w.heap.size + 2) HO8.out.2 (by omega) 2 (.int .u64 (K : Int));clear hc2 hf2
           (generalize w8.setCell ⟨w.heap.size + 2, 2, none⟩ (.int .u64 (K : Int)) = w9 at *);have HO9 := sq2 hO9 hw9;clear hO9 hw9
           go_wp2_with fail
           go_roundw
           case rel =>
            repeat (apply Exists.intro)
            refine And.intro ?hrl7 ?heq7
            case' heq7 => (repeat' (first | rfl | apply And.intro))
            unfold RO3;refine ⟨j + 1, zf j s K PT true, (.slice (some ⟨g6, 0, none⟩) (s.recs.length + 1) cap6), HJ.out.1, rfl, rfl, rfl, ?_, by simp, ?_⟩
            ·show _ = Value.int .u64 (((if j = 0 then K else s.fst : Nat)) : Int);rw [HJ0.out]
            ·refine ⟨HS.out.scan.trans HNS.out, ?_, ?_, by simp [zf], by have := HS.out.few; simp only [zf, if_true, List.length_append, List.length_singleton]; omega, HKL.out⟩
             ·show OpW w DV ZV (lvA (from_ : Int) (n : Int) (if j = 0 then K else s.fst) NX (j + 1) (.slice (some ⟨g6, 0, none⟩) (s.recs.length + 1) cap6)) w9;rw [HJ0.out];exact HO9.out.1
             ·show w9.ownsRow (w.heap.size + 3) 9 1 (.slice (some ⟨g6, 0, none⟩) (s.recs.length + 1) cap6) (s.recs ++ [s.now ++ PT]).length (yq (s.recs ++ [s.now ++ PT]));have h9 := HO9.out.2;rw [HAP.out] at h9;rw [List.length_append, yq, List.map_append];exact h9
           case measure =>
            show n - (intOf (.int .i64 ((j : Int) + 1))).toNat < n - (intOf (.int .i64 (j : Int))).toNat;simp only [intOf];have := HJ.out.1;omega
          ·(have hK0 : ((K : Int) == 0) = false := by have := HKK.out; simp; omega);(have hj0 : ((j : Int) == 0) = false := by simp; omega);have HNS := Lib.hid (show zk (bs.drop j) j s = zk (bs.drop (j + 1)) (j + 1) (zf j s K PT true) by rw [scan_at HJ.out.2.1, HJ.out.2.2.1, if_neg (by rw [hbad]; simp)]);have HJ0 := Lib.hid (show (if j = 0 then K else s.fst) = FS by rw [if_neg hj00]; exact HQ.out.2.2.symm);clear hbad hj00;have hc5 : w5.cell? ⟨w.heap.size + 2, 5, none⟩ = some v := zA HS.out.op.lv 5
           go_upto_region 33 with fail
           go_wp2_with (at_builtin; refine wpList_append_own_at _ rfl _ _ 28 rfl (w.heap.size + 3) 9 i0 (.string ByteArray.empty) 1 16 Tryz.underlying28 HI.out.1 HI.out.2.1 HI.out.2.2.1 HI.out.2.2.2 rfl (by decide) _ s.recs.length (yq s.recs) rfl (HS.out.own.alloc _) ⟨w5.heap.size, 0, none⟩ 1 1 [.string (SN ++ SP)] rfl rfl (cell_one_new _ _ _) (one_of rfl) (by have h1 := HS.out.few; have h2 := HJ.out.1; have h3 := HH.out.2.2.1; have h4 := HH.out.2.2.2.2.1; unfold maxLen; omega) (by have h1 := HS.out.few; have h2 := HJ.out.1; have h3 := HH.out.2.2.1; have h4 := HH.out.2.2.2.2.1; omega) (by have := zB HS.out.op.lv; simp; omega) ?_)
           intro V6 w6 hown6 hgrow _ _;obtain ⟨g6, cap6, hv6, _, _⟩ := hown6.form (by omega);subst hv6;have HG6 := sq2 hown6 hgrow;have HO6 : Hid (OpW w DV ZV (lvA (from_ : Int) (n : Int) s.first NX s.have_ v) w6) := Lib.hid (op_grown HS.out.op HS.out.own hgrow);have hc56 : w6.cell? ⟨w.heap.size + 2, 5, none⟩ = some v := zA HO6.out.lv 5;have hf56 := zC HO6.out.lv 5;clear hown6 hgrow hc5
           go_upto_region 34 with fail
           have hO7 := HO6.out.set 5 (.slice (some ⟨g6, 0, none⟩) (s.recs.length + 1) cap6);have hw7 := own_set (p := w.heap.size + 2) HG6.out.1 (by omega) 5 (.slice (some ⟨g6, 0, none⟩) (s.recs.length + 1) cap6);clear hc56 hf56
           (generalize w6.setCell ⟨w.heap.size + 2, 5, none⟩ (.slice (some ⟨g6, 0, none⟩) (s.recs.length + 1) cap6) = w7 at *);have HO7 := sq2 hO7 hw7;have hc4 : w7.cell? ⟨w.heap.size + 2, 4, none⟩ = some (.int .i64 (s.have_ : Int)) := zA HO7.out.1.lv 4;have hf4 := zC HO7.out.1.lv 4;clear hO7 hw7
           go_upto_region 35 with fail
           have hO8 := HO7.out.1.set 4 (.int .i64 ((j : Int) + 1));have hw8 := own_set (p := w.heap.size + 2) HO7.out.2 (by omega) 4 (.int .i64 ((j : Int) + 1));clear hc4 hf4
           (generalize w7.setCell ⟨w.heap.size + 2, 4, none⟩ (.int .i64 ((j : Int) + 1)) = w8 at *);have HO8 := sq2 hO8 hw8;have hc2 : w8.cell? ⟨w.heap.size + 2, 2, none⟩ = some (.int .u64 (s.first : Int)) := zA HO8.out.1.lv 2;have hf2 := zC HO8.out.1.lv 2;clear hO8 hw8
           go_upto_region 36 with fail
           have hO9 := HO8.out.1.set 2 (.int .u64 (FS : Int));have hw9 := own_set (p := w.heap.size + 2) HO8.out.2 (by omega) 2 (.int .u64 (FS : Int));clear hc2 hf2
           (generalize w8.setCell ⟨w.heap.size + 2, 2, none⟩ (.int .u64 (FS : Int)) = w9 at *);have HO9 := sq2 hO9 hw9;clear hO9 hw9
           go_wp2_with fail
           go_roundw
           case rel =>
            repeat (apply Exists.intro)
            refine And.intro ?hrl8 ?heq8
            case' heq8 => (repeat' (first | rfl | apply And.intro))
            unfold RO3;refine ⟨j + 1, zf j s K PT true, (.slice (some ⟨g6, 0, none⟩) (s.recs.length + 1) cap6), HJ.out.1, rfl, rfl, rfl, ?_, by simp, ?_⟩
            ·show _ = Value.int .u64 (((if j = 0 then K else s.fst : Nat)) : Int);rw [HJ0.out]
            ·refine ⟨HS.out.scan.trans HNS.out, ?_, ?_, by simp [zf], by have := HS.out.few; simp only [zf, if_true, List.length_append, List.length_singleton]; omega, HKL.out⟩
             ·show OpW w DV ZV (lvA (from_ : Int) (n : Int) (if j = 0 then K else s.fst) NX (j + 1) (.slice (some ⟨g6, 0, none⟩) (s.recs.length + 1) cap6)) w9;rw [HJ0.out];exact HO9.out.1
             ·show w9.ownsRow (w.heap.size + 3) 9 1 (.slice (some ⟨g6, 0, none⟩) (s.recs.length + 1) cap6) (s.recs ++ [s.now ++ PT]).length (yq (s.recs ++ [s.now ++ PT]));have h9 := HO9.out.2;rw [HAP.out] at h9;rw [List.length_append, yq, List.map_append];exact h9
           case measure =>
            show n - (intOf (.int .i64 ((j : Int) + 1))).toNat < n - (intOf (.int .i64 (j : Int))).toNat;simp only [intOf];have := HJ.out.1;omega
        ·(have hD1 : ((DD : Int) != 1) = true := by simp; omega);(have hK0 : ((K : Int) == 0) = false := by simp; omega);(have hbad : badW s K = true := by rw [hbw2]; simp [hd1]);clear hbw2 hd1 hkk hk0;have hvo := Lib.hid (own_one HS.out.own);(obtain ⟨LV, hLV⟩ : ∃ LV, LV = lvA (from_ : Int) (n : Int) s.first NX s.have_ v := ⟨_, rfl⟩);have HLV := sq2 (hLV ▸ HS.out.op) hLV;have HBD := Lib.hid hbad;clear hLV hbad
         go_wp2_with (first
          | (refine yA 8 HLV.out.1.lv Tryz.underlying39 (by rw [HLV.out.2]; exact zL) ?_)
          | (refine zl 6 116 LV HLV.out.1.zv (by rw [HLV.out.2]; exact zL) (by rw [HV.out.1, HLV.out.2]; rfl) (by rw [HLV.out.2]; exact lvA_one _ _ _ _ _ hvo.out) ?_))
         (try simp only [Exit.inBlock, Exit.then])
         refine bodyPost_ret (yi (p := 6) (u := 7) rfl _ _ (w.heap.size + 1) LV rfl (zF HLV.out.1.zv) (by rw [HLV.out.2]; rfl)) rfl ?_;rw [HLV.out.2];exact open_post HS.out (by rw [scan_at HJ.out.2.1, HJ.out.2.2.1, if_pos HBD.out]) HNX.out
    ·(have hlt2 : ¬ (j : Int) < (n : Int) := by omega);(obtain rfl : n = j := by omega);have HS := Lib.hid hS;have hvo := Lib.hid (own_one hS.own);(obtain ⟨LV, hLV⟩ : ∃ LV, LV = lvA (from_ : Int) (n : Int) s.first NX s.have_ v := ⟨_, rfl⟩);have HLV := sq2 (hLV ▸ hS.op) hLV;clear hLV hS hj hlt
     go_wp2_with (first
      | (refine yA 8 HLV.out.1.lv Tryz.underlying39 (by rw [HLV.out.2]; exact zL) ?_)
      | (refine zl 6 138 LV HLV.out.1.zv (by rw [HLV.out.2]; exact zL) (by rw [HV.out.1, HLV.out.2]; rfl) (by rw [HLV.out.2]; exact lvA_one _ _ _ _ _ hvo.out) ?_))
     (try simp only [Exit.inBlock, Exit.then])
     refine bodyPost_ret (yi (p := 6) (u := 7) rfl _ _ (w.heap.size + 1) LV rfl (zF HLV.out.1.zv) (by rw [HLV.out.2]; rfl)) rfl ?_;rw [HLV.out.2];exact open_post HS.out (by rw [show bs.drop n = [] from List.drop_of_length_le (by rw [HBL.out]; exact Nat.le_refl _), zk]) HNX.out
theorem open_err {w : World} {bs bs' : List (List UInt8)} {from_ n E : Int} {e : Ending} {w' : World} (hE : E ≠ 0) (h : yl w bs from_ n E e w') : yl w bs' from_ n E e w' := by
 unfold yl at *;rw [if_neg hE] at *;exact h
theorem rwopen_any {w : World} {T : Nat → Prop} {A : Option Addr} {nl c : Nat} {d : DM} (h : Strs w T A nl c d.l) (ok : d.Ok) (hn : nl ≤ 1000000) (from_ n : Int) :
    Calls Tryz.prog 31 #[.agg (dmV d A nl c), .int .i64 from_, .int .i64 n] w fun e w' => yl w (zW d.l from_ n) from_ n (zo nl d.down from_ n) e w' := by
 by_cases h1 : from_ < 0
 ·rw [zo, if_pos (.inl h1)];exact (rwopen_a from_ n h1).mono fun e w' hp => open_err (by decide) hp
 ·by_cases h2 : n < 1
  ·rw [zo, if_pos (.inr (.inl h2))];exact (rwopen_b from_ n h1 h2).mono fun e w' hp => open_err (by decide) hp
  ·by_cases h3 : (nl : Int) < from_
   ·rw [zo, if_pos (.inr (.inr (.inl h3)))];exact (rwopen_c from_ n h1 h2 h3).mono fun e w' hp => open_err (by decide) hp
   ·by_cases h4 : (nl : Int) - from_ < n
    ·rw [zo, if_pos (.inr (.inr (.inr h4)))];exact (rwopen_d hn from_ n h1 h2 h3 h4).mono fun e w' hp => open_err (by decide) hp
    ·rw [zo, if_neg (by omega)]
     cases h5 : d.down with
     | true =>
       rw [if_pos rfl];exact (rwopen_e hn from_ n h1 h2 h3 h4 h5).mono fun e w' hp => open_err (by decide) hp
     | false =>
       obtain ⟨f, rfl⟩ := Int.eq_ofNat_of_zero_le (show 0 ≤ from_ by omega);obtain ⟨k, rfl⟩ := Int.eq_ofNat_of_zero_le (show 0 ≤ n by omega);rw [if_neg (by simp)];exact rwopen_run h ok hn f k (by omega) (by omega) h5
def xL (w : World) (M : LM) (from_ n : Int) (least : Nat) (E : Int) (e : Ending) (w' : World) : Prop :=
 e = .returned (.tuple #[.agg (lmV (if E = 0 then zj M from_ n least else lm0) none 0 0), .int .i64 E]) ∧ Below w.heap.size w w'
theorem rwbegin_any {w : World} {T : Nat → Prop} {A : Option Addr} {nl c : Nat} {d : DM} (h : Strs w T A nl c d.l) (ok : d.Ok) (hn : nl ≤ 1000000) (from_ n : Int) (least : Nat) :
    Calls Tryz.prog 33 #[.agg (dmV d A nl c), .int .i64 from_, .int .i64 n, .int .u64 (least : Int)] w fun e w' => xL w (yd (zW d.l from_ n) from_ n) from_ n least (zo nl d.down from_ n) e w' := by
 have hz := yb;obtain ⟨ZV, hZV⟩ := sqz (lmV lm0 none 0 0);rw [← hZV] at hz;obtain ⟨DV, hDV⟩ := sqz (dmV d A nl c);rw [← hDV];obtain ⟨E, hE⟩ := sqz (zo nl d.down from_ n);obtain ⟨M, hM⟩ := sqz (yd (zW d.l from_ n) from_ n);have hop := fun (W : World) (hb : Below w.heap.size w W) => rwopen_any (w := W) (h.below hb) ok hn from_ n
 rw [← hE] at hop ⊢;rw [← hDV] at hop;rw [← hM];have hd0 := heap_alloc_new w (.cells DV 30);have hd1 := (heap_alloc_old (w.alloc (.cells DV 30)) (.cells ZV 39) (zB hd0)).trans hd0;have hz1 := heap_alloc_new (w.alloc (.cells DV 30)) (.cells ZV 39);rw [World.size_alloc] at hz1;have hb1 := zi w (.cells DV 30) (.cells ZV 39);have hsz2 : ((w.alloc (.cells DV 30)).alloc (.cells ZV 39)).heap.size = w.heap.size + 2 := by simp
 have HV := sq2 hZV hDV;clear hZV hDV hd0
 go_enter Tryz.func33, Tryz.ntmps33
 go_upto_region 1 with fail
 generalize (w.alloc (.cells DV 30)).alloc (.cells ZV 39) = w2 at *
 have hoq := hop w2 hb1;unfold yl at hoq;rw [← hM] at hoq;have H2 := sq4 hd1 hz1 hb1 hsz2;have HM := Lib.hid hM;clear hop hd1 hz1 hb1 hE hM h ok;obtain ⟨R, hR⟩ := sqz ((if E = 0 then M else lm0));rw [← hR] at hoq;have HR := Lib.hid hR;clear hR;have hld : w2.heap[w.heap.size]? = some (.cells DV 30 (0, 0)) := H2.out.1;have HLD := Lib.hid hld;clear hld
 go_upto_region 2 with (first
  | (refine yA 4 HLD.out Tryz.underlying30 (by rw [HV.out.2]; exact zI) ?_)
  | (go_at_call 31; refine hoq.mono ?_; clear hoq; rintro _ w3 ⟨A1, k1, c1, rfl, hs3, hb3⟩; obtain ⟨RV, hRV⟩ := sqz (lmV R A1 k1 c1); rw [← hRV]; have H3 := sq2 hb3 hRV; clear hs3 hb3 hRV)
  | (refine zl 10 18 RV (heap_alloc_new w3 _) (by rw [H3.out.2]; exact zL) (by rw [H3.out.2, HV.out.1]; rfl) (by rw [H3.out.2]; exact zw _ _ _ _) ?_))
 have hb4 : Below w.heap.size w ((w3.alloc (.cells ZV 39)).setRow w3.heap.size RV) := zD ((H2.out.2.2.1.trans (H3.out.1.mono H2.out.2.2.1.size)).alloc (by have h1 := H2.out.2.2.1.size; have h2 := H3.out.1.size; omega) _) (by have h1 := H2.out.2.2.1.size; have h2 := H3.out.1.size; omega) _
 have hz4 : ((w3.alloc (.cells ZV 39)).setRow w3.heap.size RV).heap[w.heap.size + 1]? = some (.cells ZV 39 (0, 0)) := by
  have h1 := H2.out.2.2.2;have h2 := H3.out.1.size;rw [zM _ _ _ _ (by omega)];exact (heap_alloc_old _ _ (by omega)).trans ((H3.out.1.block _ (by omega)).trans H2.out.2.1)
 have hr4 : ((w3.alloc (.cells ZV 39)).setRow w3.heap.size RV).heap[w3.heap.size]? = some (.cells RV 39 (0, 0)) := zF (heap_alloc_new w3 _);have hs4 : ((w3.alloc (.cells ZV 39)).setRow w3.heap.size RV).heap.size = w3.heap.size + 1 := by simp [World.setRow]
 have H4 := sq4 hb4 hz4 hr4 hs4;have HS3 := Lib.hid (show w.heap.size + 2 ≤ w3.heap.size by have h1 := H2.out.2.2.2; have h2 := H3.out.1.size; omega);clear hb4 hz4 hr4 hs4
 generalize (w3.alloc (.cells ZV 39)).setRow w3.heap.size RV = w4 at *
 generalize w3.heap.size = p3 at *
 by_cases hE0 : E = 0
 ·have HRM : Hid (R = M) := Lib.hid (by rw [HR.out, if_pos hE0]);subst hE0;have hc3 : w4.cell? ⟨p3, 3, none⟩ = some (.int .u64 (M.next : Int)) := by rw [zA H4.out.2.2.1, H3.out.2, HRM.out]; rfl
  clear hz HR
  go_upto_region 5 with fail
  have hb5 := H4.out.1.alloc H4.out.1.size (.cells #[.int .i64 from_, .int .i64 n, .int .u64 0, .int .u64 (M.next : Int), .int .i64 0, .slice none 0 0, .int .i64 0] 39);have hz5 := (heap_alloc_old w4 (.cells #[.int .i64 from_, .int .i64 n, .int .u64 0, .int .u64 (M.next : Int), .int .i64 0, .slice none 0 0, .int .i64 0] 39) (zB H4.out.2.1)).trans H4.out.2.1;have hr5 := (heap_alloc_old w4 (.cells #[.int .i64 from_, .int .i64 n, .int .u64 0, .int .u64 (M.next : Int), .int .i64 0, .slice none 0 0, .int .i64 0] 39) (zB H4.out.2.2.1)).trans H4.out.2.2.1;have hn5 := heap_alloc_new w4 (.cells #[.int .i64 from_, .int .i64 n, .int .u64 0, .int .u64 (M.next : Int), .int .i64 0, .slice none 0 0, .int .i64 0] 39);have hp4 : w.heap.size + 2 ≤ w4.heap.size := by have := HS3.out; have := H4.out.2.2.2; omega
  clear hc3
  generalize w4.alloc (.cells #[.int .i64 from_, .int .i64 n, .int .u64 0, .int .u64 (M.next : Int), .int .i64 0, .slice none 0 0, .int .i64 0] 39) = w5 at *
  generalize w4.heap.size = p4 at *
  have hc3 : w5.cell? ⟨p3, 3, none⟩ = some (.int .u64 (M.next : Int)) := by rw [zA hr5, H3.out.2, HRM.out]; rfl
  have hc4 : w5.cell? ⟨p4, 3, none⟩ = some (.int .u64 (M.next : Int)) := zA hn5 3;have hf4 := zC hn5 3;have H5 := sq4 hb5 hz5 hn5 hp4;clear hb5 hz5 hr5 hn5 hp4
  by_cases hg : 0 < M.next ∧ M.next < least
  ·(have hq1 : (0 : Int) < (M.next : Int) := by omega);(have hq2 : (M.next : Int) < (least : Int) := by omega);have hb6 := H5.out.1.setCell (p := ⟨p4, 3, none⟩) (by show w.heap.size ≤ p4; have := H5.out.2.2.2; omega) (.int .u64 (least : Int));have hz6 := (Below.heap_setCell w5 ⟨p4, 3, none⟩ (.int .u64 (least : Int)) (w.heap.size + 1) (by have := H5.out.2.2.2; show w.heap.size + 1 ≠ p4; omega)).trans H5.out.2.1;have hn6 := zG H5.out.2.2.1 3 (.int .u64 (least : Int));obtain ⟨NV, hNV⟩ := sqz (lmV ⟨from_, n, 0, least, 0, [], 0⟩ none 0 0);(have hn6' : (w5.setCell ⟨p4, 3, none⟩ (.int .u64 (least : Int))).heap[p4]? = some (.cells NV 39 (0, 0)) := by rw [hn6, hNV]; rfl);have H6 := sq4 hb6 hz6 hn6' hNV;have HB := Lib.hid (show zj M from_ n least = ⟨from_, n, 0, least, 0, [], 0⟩ by rw [zj, if_pos hg]);clear hb6 hz6 hn6 hn6' hNV hg
   go_wp2_with (first
    | (refine yA 12 H6.out.2.2.1 Tryz.underlying39 (by rw [H6.out.2.2.2]; exact zL) ?_)
    | (refine zl 8 40 NV H6.out.2.1 (by rw [H6.out.2.2.2]; exact zL) (by rw [H6.out.2.2.2, HV.out.1]; rfl) (by rw [H6.out.2.2.2]; exact zw _ _ _ _) ?_))
   (try simp only [Exit.inBlock, Exit.then])
   refine bodyPost_ret (yi (p := 8) (u := 9) rfl _ _ (w.heap.size + 1) NV rfl (zF H6.out.2.1) (by rw [H6.out.2.2.2]; rfl)) rfl ?_;exact (show xL w M from_ n least 0 _ _ from ⟨by rw [show (if (0 : Int) = 0 then zj M from_ n least else lm0) = zj M from_ n least from if_pos rfl, HB.out, H6.out.2.2.2]; rfl, zD H6.out.1 (by omega) _⟩)
  ·obtain ⟨NV, hNV⟩ := sqz (lmV ⟨from_, n, 0, M.next, 0, [], 0⟩ none 0 0);(have hn6' : w5.heap[p4]? = some (.cells NV 39 (0, 0)) := by rw [H5.out.2.2.1, hNV]; rfl);have H6 := sq2 hn6' hNV;have HB := Lib.hid (show zj M from_ n least = ⟨from_, n, 0, M.next, 0, [], 0⟩ by rw [zj, if_neg hg]);clear hn6' hNV
   by_cases hq : 0 < M.next
   ·(have hq1 : (0 : Int) < (M.next : Int) := by omega);(have hq2 : ¬ (M.next : Int) < (least : Int) := by omega);clear hg hq
    go_wp2_with (first
     | (refine yA 12 H6.out.1 Tryz.underlying39 (by rw [H6.out.2]; exact zL) ?_)
     | (refine zl 8 40 NV H5.out.2.1 (by rw [H6.out.2]; exact zL) (by rw [H6.out.2, HV.out.1]; rfl) (by rw [H6.out.2]; exact zw _ _ _ _) ?_))
    (try simp only [Exit.inBlock, Exit.then])
    refine bodyPost_ret (yi (p := 8) (u := 9) rfl _ _ (w.heap.size + 1) NV rfl (zF H5.out.2.1) (by rw [H6.out.2]; rfl)) rfl ?_;exact (show xL w M from_ n least 0 _ _ from ⟨by rw [show (if (0 : Int) = 0 then zj M from_ n least else lm0) = zj M from_ n least from if_pos rfl, HB.out, H6.out.2]; rfl, zD H5.out.1 (by omega) _⟩)
   ·(have hq1 : ¬ (0 : Int) < (M.next : Int) := by omega);clear hg hq
    go_wp2_with (first
     | (refine yA 12 H6.out.1 Tryz.underlying39 (by rw [H6.out.2]; exact zL) ?_)
     | (refine zl 8 40 NV H5.out.2.1 (by rw [H6.out.2]; exact zL) (by rw [H6.out.2, HV.out.1]; rfl) (by rw [H6.out.2]; exact zw _ _ _ _) ?_))
    (try simp only [Exit.inBlock, Exit.then])
    refine bodyPost_ret (yi (p := 8) (u := 9) rfl _ _ (w.heap.size + 1) NV rfl (zF H5.out.2.1) (by rw [H6.out.2]; rfl)) rfl ?_;exact (show xL w M from_ n least 0 _ _ from ⟨by rw [show (if (0 : Int) = 0 then zj M from_ n least else lm0) = zj M from_ n least from if_pos rfl, HB.out, H6.out.2]; rfl, zD H5.out.1 (by omega) _⟩)
 ·have hE1 : (E != 0) = true := by simpa using hE0
  have HE0 := Lib.hid hE0;clear hE0
  go_wp2_with (refine zl 8 22 ZV H4.out.2.1 (by rw [HV.out.1]; exact zL) rfl (by rw [HV.out.1]; exact zw _ _ _ _) ?_)
  (try simp only [Exit.inBlock, Exit.then])
  refine bodyPost_ret (yi (p := 8) (u := 9) rfl _ _ (w.heap.size + 1) ZV rfl (zF H4.out.2.1) (by rw [HV.out.1]; rfl)) rfl ?_;exact (show xL w M from_ n least E _ _ from ⟨by rw [if_neg HE0.out, HV.out.1]; rfl, zD H4.out.1 (by omega) _⟩)
open Codec
def smV (s : SM) (At : Option Addr) (nt ct : Nat) (A : Option Addr) (n c : Nat) : Array Value :=
 #[.slice At nt ct, .int .i64 (s.half : Int), .int .i64 s.log.from_, .int .i64 s.log.n, .int .u64 (s.log.first : Int), .int .u64 (s.log.next : Int), .int .i64 (s.log.have_ : Int), .slice A n c, .int .i64 s.log.e, .int .i64 (s.turns : Int), .int .i64 s.e]
def sm0 : SM := ⟨[], 0, lm0, 0, 0⟩
theorem za : (Tryz.prog.info? 41).map (·.size) = some 11 := by kernel_rfl
theorem zero_sm : ∀ W, (zeroValue 41).run Tryz.prog W = .ok (.agg (smV sm0 none 0 0 none 0 0)) W := fun W => by kernel_rfl
theorem yL (s : SM) (At : Option Addr) (nt ct : Nat) (A : Option Addr) (n c : Nat) : (smV s At nt ct A n c).all (·.oneCell') = true := by simp [smV, Value.oneCell']
theorem sm_result {fn : Func} {p u : Tmp} (h : fn.results = #[.cell p 41, .tmp u]) (tmps : Array Value) (w : World) (g : Nat) (cs : Array Value) (hp : tmps.getD p undef = .pointer (some ⟨g, 0, none⟩)) (hg : w.heap[g]? = some (.cells cs 41 (0, 0))) (hs : cs.size = 11) :
    (results fn tmps).run Tryz.prog w = .ok (.tuple #[.agg cs, tmps.getD u undef]) w := by
 rw [results_cell_tmp h tmps];have hp' : tmps[p]?.getD undef = .pointer (some ⟨g, 0, none⟩) := by simpa using hp
 simp [hp', asAddr, Result.andThen, run_loadVar_row w g 41 41 cs (0, 0) _ hg Tryz.underlying41 rfl (by rw [hs]; exact za)]
def ROpPost (w : World) (r : SM × Int) (e : Ending) (w' : World) : Prop :=
 ∃ At nt ct A n c, e = .returned (.tuple #[.agg (smV r.1 At nt ct A n c), .int .i64 r.2]) ∧ Cms w' (w.heap.size ≤ ·) At nt ct (tb2 r.1.t) ∧ Strs w' (w.heap.size ≤ ·) A n c r.1.log.l ∧ Below w.heap.size w w'
theorem ropPost_err {w w' : World} {r : SM × Int} {E : Int} (hr : r = (sm0, E)) (hb : Below w.heap.size w w') : ROpPost w r (.returned (.tuple #[.agg (smV sm0 none 0 0 none 0 0), .int .i64 E])) w' := by
 subst hr;exact ⟨none, 0, 0, none, 0, 0, rfl, Cms.nil _ _ _ _ (Nat.zero_le _), Strs.nil _ _ _ _ (Nat.zero_le _), hb⟩
theorem rcopen_few {w : World} {S : Nat → Prop} {A : Option Addr} {nl c : Nat} {d : DM} (h : Strs w S A nl c d.l) (hn1 : hn d < 1) :
    Calls Tryz.prog 8 #[.agg (dmV d A nl c)] w fun e w' => ROpPost w (zY d) e w' := by
 have hz := zero_sm;obtain ⟨ZV, hZV⟩ := sqz (smV sm0 none 0 0 none 0 0);rw [← hZV] at hz;obtain ⟨DV, hDV⟩ := sqz (dmV d A nl c);rw [← hDV];have hd0 := heap_alloc_new w (.cells DV 30);have hd1 := (heap_alloc_old (w.alloc (.cells DV 30)) (.cells ZV 41) (zB hd0)).trans hd0;have hz1 := heap_alloc_new (w.alloc (.cells DV 30)) (.cells ZV 41);rw [World.size_alloc] at hz1;have hb1 := zi w (.cells DV 30) (.cells ZV 41);have HV := sq2 hZV hDV;have hnl : nl < 2 := by have h1 : hn d = d.l.length / 2 := rfl; have := h.len; omega
 have hq : IntKind.i64.wrap ((nl : Int) / 2) = 0 := by rw [show (nl : Int) / 2 = 0 by omega]; rfl
 have HO : Hid (zY d = (sm0, 1)) := Lib.hid (by unfold zY; rw [if_pos hn1]; rfl);clear hZV hDV h hn1
 go_enter Tryz.func8, Tryz.ntmps8
 go_upto_region 1 with fail
 generalize (w.alloc (.cells DV 30)).alloc (.cells ZV 41) = w2 at *
 have hc0 : w2.cell? ⟨w.heap.size, 0, none⟩ = some (.slice A nl c) := by rw [zA hd1, HV.out.2]; rfl
 have HZ := sq3 HV.out.1 hz1 hb1;clear hd0 hd1 hz1 hb1 hnl
 go_wp2_with (refine zl 2 24 ZV HZ.out.2.1 (by rw [HZ.out.1]; exact za) rfl (by rw [HZ.out.1]; exact yL _ _ _ _ _ _ _) ?_)
 (try simp only [Exit.inBlock, Exit.then])
 refine bodyPost_ret (sm_result (p := 2) (u := 3) rfl _ _ (w.heap.size + 1) ZV rfl (zF HZ.out.2.1) (by rw [HZ.out.1]; rfl)) rfl ?_;rw [HZ.out.1];exact ropPost_err HO.out (zD HZ.out.2.2 (by omega) _)
end Go.Proofs.YtmioifcbkhpdaaaGreat
