/-
  The code's: a block's number, its part, whether it is the last one; a block laid.
  The code's: a block laid.
  The code's Whole: what it tells by its tests; where it says no at once.
  The code's Whole.
-/
import Derived.Test.YtmioifcbkhpdaaaGreatPkPl07
import Derived.Test.YtmioifcbkhpdaaaGreatPkPl08
import Derived.Test.YtmioifcbkhpdaaaGreatPkPl01
import Derived.Test.YtmioifcbkhpdaaaGreatPkPl02
import Derived.Laws.CopyOwn
import Derived.Laws.Cover3
set_option maxHeartbeats 16000000
set_option maxRecDepth 100000
/-! The code's: a block's number, its part, whether it is the last one; a block laid. -/
namespace Go.Proofs.YtmioifcbkhpdaaaGreat
open Go.RowKit
theorem u64_or8 (V : Nat) (b : UInt8) (h : V * 256 + 255 < 18446744073709551616) : bits .or .u64 ((V : Int) * 256) (b.toNat : Int) = ((V * 256 + b.toNat : Nat) : Int) := by
 have hb := b.toNat_lt;show IntKind.u64.wrap ((BitVec.ofInt 64 ((V : Int) * 256) ||| BitVec.ofInt 64 (b.toNat : Int)).toNat : Int) = _;have e0 : ((V : Int) * 256) = ((V * 256 : Nat) : Int) := by omega
 have e1 : (BitVec.ofInt 64 ((V : Int) * 256)).toNat = V * 256 := by rw [e0, BitVec.ofInt_natCast, BitVec.toNat_ofNat]; omega
 have e2 : (BitVec.ofInt 64 (b.toNat : Int)).toNat = b.toNat := by rw [BitVec.ofInt_natCast, BitVec.toNat_ofNat]; omega
 rw [BitVec.toNat_or, e1, e2]
 have e3 : V * 256 ||| b.toNat = V * 256 + b.toNat := by
  have := Nat.shiftLeft_add_eq_or_of_lt (i := 8) (b := b.toNat) (by omega) V;rw [Nat.shiftLeft_eq] at this;exact this.symm
 rw [e3];exact IntWalk.u64_in _ (by omega)
def WNm (w1 : World) (l : List UInt8) (n i : Value) (wr : World) : Prop := ∃ j : Nat, j ≤ 8 ∧ i = .int .i64 (j : Int) ∧ n = .int .u64 (yC (l.take j) : Int) ∧ wr = w1
theorem yo {w : World} {S : Nat → Prop} {A : Option Addr} {n c : Nat} {l : List UInt8} (h : Byt w S A n c l) (hn : 8 ≤ n) :
    Calls Tryz.prog 102 #[.slice A n c] w fun e w' => e = .returned (.int .u64 (yC (l.take 8) : Int)) ∧ w = w' := by
 have hcap := h.cap;have hto : (Instr.slice 54 (.slice A n c) none (some (.int .i64 8)) none).run Tryz.prog w = .ok (.slice A 8 c) w := run_to (P := Tryz.prog) 54 5 Tryz.underlying54 u8_size A n c 8 (by omega) w;obtain ⟨b, off, rfl, _, _, hc⟩ := h.row (by omega);have hlen := h.len;have HC := Lib.hid hc;have HN := sq2 hn hlen;clear hc h hn hcap hlen
 go_enter Tryz.func102, Tryz.ntmps102
 go_wp2_with fail
 go_loopw [3, 9] (fun n i wr => WNm w l n i wr) (fun _ i _ => 8 - (intOf i).toNat)
 case atStart => exact ⟨0, Nat.zero_le _, rfl, by simp [yC], rfl⟩
 case round =>
  obtain ⟨j, hj, rfl, rfl, rfl⟩ := hrel
  by_cases hlt : j < 8
  ·(have hlt' : (j : Int) < 8 := by omega);have hcj := HC.out j (by have := HN.out; omega);have hsm := val_small (l := l.take 8) (j := j) (by rw [List.length_take]; omega) (by rw [List.length_take]; have := HN.out; omega);rw [List.take_take, Nat.min_eq_left (by omega)] at hsm;obtain ⟨V, hV⟩ := sqz (yC (l.take j));obtain ⟨x, hx⟩ := sqz (l[j]?.getD 0)
   have hnx : yC (l.take (j + 1)) = V * 256 + x.toNat := by
    (have hjl : j < l.length := by have := HN.out; omega);rw [List.take_succ_eq_append_getElem hjl, valL_snoc, hV, hx, List.getElem?_eq_getElem hjl];rfl
   rw [← hV] at hsm ⊢;rw [← hx] at hcj;have hor := u64_or8 V x hsm;have hb2 := x.toNat_lt;have hm := IntWalk.u64_in ((V : Int) * 256) (by omega);have hb64 := IntWalk.u64_in (x.toNat : Int) (by omega);have hadd := IntWalk.i64_in ((j : Int) + 1) (by omega);have HX := sq2 hlt hnx;clear hV hx hnx hsm hj hlt
   go_wp2_with fail
   go_roundw
   case rel => unfold WNm; exact ⟨j + 1, HX.out.1, by simp, by rw [HX.out.2, Int.natCast_add, Int.natCast_mul]; rfl, rfl⟩
   case measure => simp only [intOf]; have := HX.out.1; omega
  ·(obtain rfl : j = 8 := by omega);clear hlt hj
   go_wp2_with fail
   go_ret
   exact ⟨rfl, rfl⟩
/-! A block by value. -/
theorem zQ : (Tryz.prog.info? 159).map (·.size) = some 128 := by kernel_rfl
theorem byt_sub {w : World} {g : Nat} {l : List UInt8} {t : TypeId} {f : Nat × Nat} (h : w.heap[g]? = some (.cells (u8s l).toArray t f)) {o m c : Nat} (h1 : o + m ≤ l.length) (h2 : m ≤ c) (hc : c ≤ maxLen) {S : Nat → Prop} (hS : S g) : Byt w S (some ⟨g, o, none⟩) m c ((l.drop o).take m) :=
 ⟨by rw [List.length_take, List.length_drop]; omega, h2, hc, fun _ => ⟨g, o, rfl, hS, zB h, fun i hi => by
   rw [zA h, List.getElem?_toArray, List.getElem?_take_of_lt hi, List.getElem?_drop];simp [u8s, List.getElem?_map, List.getElem?_eq_getElem (show o + i < l.length by omega)]⟩⟩
theorem row8_at {l : List UInt8} {i : Nat} (h : i < l.length) : (zy l)[i]? = some (.int .u8 ((l[i]?.getD 0).toNat : Int)) := by
 simp [zy, u8s, List.getElem?_map, List.getElem?_eq_getElem h]
theorem beq_eq_decide_nat (x y : Nat) : ((x : Int) == (y : Int)) = decide (x = y) := by
 by_cases h : x = y
 ·subst h; simp
 ·have : ((x : Int) == (y : Int)) = false := by simp; omega
  rw [this, decide_eq_false h]
theorem wlast_any (l : List UInt8) (hl : l.length = 128) (w : World) :
    Calls Tryz.prog 105 #[.agg (zy l)] w fun e w' => e = .returned (.bool (decide ((l[9]?.getD 0).toNat = 1))) ∧ Below w.heap.size w w' := by
 have hc : (w.alloc (.cells (zy l) 159)).cell? ⟨w.heap.size, 9, none⟩ = some (.int .u8 ((l[9]?.getD 0).toNat : Int)) := by
  rw [zA (heap_alloc_new w _)];exact row8_at (by omega)
 generalize (l[9]?.getD 0).toNat = x at *
 obtain ⟨KS, hK⟩ := sqz (zy l);rw [← hK] at hc ⊢;clear hK hl
 go_enter Tryz.func105, Tryz.ntmps105
 go_wp2_with fail
 go_ret
 exact ⟨congrArg (fun b => Ending.returned (.bool b)) (beq_eq_decide_nat x 1), (Below.refl _ _).alloc (Nat.le_refl _) _⟩
theorem wpart_any (l : List UInt8) (hl : l.length = 128) (hk : (l[8]?.getD 0).toNat ≤ 110) (w : World) :
    Calls Tryz.prog 104 #[.agg (zy l)] w fun e w' => ∃ A n c, e = .returned (.slice A n c) ∧ Byt w' (w.heap.size ≤ ·) A n c ((l.drop 10).take (l[8]?.getD 0).toNat) ∧ Below w.heap.size w w' := by
 have hc : (w.alloc (.cells (zy l) 159)).cell? ⟨w.heap.size, 8, none⟩ = some (.int .u8 ((l[8]?.getD 0).toNat : Int)) := by
  rw [zA (heap_alloc_new w _)];exact row8_at (by omega)
 have HB := Lib.hid ((Below.refl w.heap.size w).alloc (Nat.le_refl _) (.cells (zy l) 159));have HY := Lib.hid (byt_sub (heap_alloc_new w (.cells (zy l) 159)) (o := 10) (m := (l[8]?.getD 0).toNat) (c := 118) (by omega) (by omega) (by decide) (S := (w.heap.size ≤ ·)) (Nat.le_refl _))
 generalize (l[8]?.getD 0).toNat = x at *
 obtain ⟨KS, hK⟩ := sqz (zy l);rw [← hK] at hc HB HY ⊢;have hadd := IntWalk.i64_in (10 + (x : Int)) (by omega);have hcv := IntWalk.i64_in (x : Int) (by omega);have h1 : ¬ (128 : Int) < 10 + (x : Int) := by omega
 have h2 : (10 : Int) + (x : Int) ≤ 128 := by omega
 have h3 : (10 : Int) ≤ 10 + (x : Int) := by omega
 clear hK hl
 go_enter Tryz.func104, Tryz.ntmps104
 go_wp2_with fail
 go_ret
 exact ⟨_, _, _, rfl, HY.out, HB.out⟩
end Go.Proofs.YtmioifcbkhpdaaaGreat
/-! The code's: a block laid. -/
namespace Go.Proofs.YtmioifcbkhpdaaaGreat
open Go.RowKit
theorem bes_at (N : Nat) : ∀ k j, j < k → (besL N k)[j]? = some (UInt8.ofNat (N / 256 ^ (k - 1 - j)))
 | 0, j, h => absurd h (by omega)
 | k + 1, 0, _ => by simp [besL]
 | k + 1, j + 1, h => by
   rw [besL, List.getElem?_cons_succ, bes_at N k j (by omega)]
   congr 4
   omega
def layA (N j : Nat) : List UInt8 := (numL N).take j ++ List.replicate (128 - j) 0
theorem layA_length {N j : Nat} (h : j ≤ 8) : (layA N j).length = 128 := by simp [layA, zV]; omega
theorem layA_set {N j : Nat} (h : j < 8) : (layA N j).set j (UInt8.ofNat (N / 256 ^ (7 - j))) = layA N (j + 1) := by
 have h1 : ((numL N).take j).length = j := by rw [List.length_take, zV]; omega
 have h2 : (numL N)[j]? = some (UInt8.ofNat (N / 256 ^ (7 - j))) := bes_at N 8 j h;unfold layA;rw [List.set_append_right _ _ (by omega), h1, Nat.sub_self, show 128 - j = (128 - (j + 1)) + 1 by omega, List.replicate_succ, List.set_cons_zero, List.take_add_one, h2];simp
theorem layA_all (N : Nat) : layA N 8 = numL N ++ List.replicate 120 0 := by
 unfold layA;rw [List.take_of_length_le (by rw [zV]; omega)]
def layB (N : Nat) (x E : UInt8) : List UInt8 := numL N ++ [x, E] ++ List.replicate 118 0
theorem layB_length (N : Nat) (x E : UInt8) : (layB N x E).length = 128 := by simp [layB, zV]
theorem layA_count (N : Nat) (x : UInt8) : (layA N 8).set 8 x = layB N x 0 := by
 rw [layA_all, List.set_append_right _ _ (by rw [zV]; omega), zV];unfold layB;rw [List.append_assoc];rfl
theorem layB_last (N : Nat) (x : UInt8) : (layB N x 0).set 9 1 = layB N x 1 := by
 unfold layB;rw [List.append_assoc, List.append_assoc, List.set_append_right _ _ (by rw [zV]; omega), zV];rfl
def layC (N : Nat) (x E : UInt8) (p : List UInt8) : List UInt8 := numL N ++ [x, E] ++ p ++ List.replicate (118 - p.length) 0
theorem layC_length (N : Nat) (x E : UInt8) {p : List UInt8} (h : p.length ≤ 110) : (layC N x E p).length = 128 := by simp [layC, zV]; omega
theorem layB_part (N : Nat) (x E : UInt8) {p : List UInt8} (h : p.length ≤ 110) : (layB N x E).take 10 ++ p ++ (layB N x E).drop (10 + p.length) = layC N x E p := by
 have h1 : (numL N ++ [x, E]).length = 10 := by simp [zV]
 unfold layB layC;rw [List.take_append_of_le_length (by omega), List.take_of_length_le (by omega), List.drop_append, List.drop_of_length_le (by omega), h1, show 10 + p.length - 10 = p.length by omega, List.drop_replicate, List.nil_append]
theorem layC_front (N : Nat) (x E : UInt8) (p : List UInt8) : (layC N x E p).take 8 = numL N := by
 unfold layC;rw [List.append_assoc, List.append_assoc, List.take_append_of_le_length (by rw [zV]; omega), List.take_of_length_le (by rw [zV]; omega)]
theorem layC_again (N : Nat) (e : Bool) {p : List UInt8} (h : p.length ≤ 110) : (layC N (UInt8.ofNat p.length) (if e then 1 else 0) p).take 120 ++ numL N = zU N p e := by
 unfold layC zU;have h1 : (numL N ++ [UInt8.ofNat p.length, if e then 1 else 0] ++ p).length = 10 + p.length := by simp [zV]; omega
 congr 1
 rw [List.take_append, List.take_of_length_le (by omega), h1, List.take_replicate]
 congr 2
 omega
theorem yf : ∀ W, (zeroValue 159).run Tryz.prog W = .ok (.agg zS) W := fun W => by unfold zS; kernel_rfl
theorem zerosB_row : zS = zy (List.replicate 128 0) := by
 unfold zS zy u8s;rw [List.map_replicate];rfl
theorem setRow_self {w : World} {q : Nat} {cs : Array Value} {t : TypeId} (h : w.heap[q]? = some (.cells cs t (0, 0))) : w.setRow q cs = w := by
 have hq := (Array.getElem?_eq_some_iff.1 h).1
 have : (w.setRow q cs).heap = w.heap := by
  apply Array.ext_getElem?;intro i
  by_cases hi : i = q
  ·subst hi;rw [zF h, h]
  ·exact zM w q i cs hi
 cases w
 simp only [World.setRow] at this ⊢;rw [this]
theorem copy_bytes {w : World} {q o m m' : Nat} {cur : List UInt8} {t : TypeId} (hq : w.heap[q]? = some (.cells (u8s cur).toArray t (0, 0))) {T : Nat → Prop} {A : Option Addr} {n c : Nat} {x : List UInt8} (hy : Byt w T A n c x) (hn : n ≤ m) (hfit : o + n ≤ cur.length) :
    (Builtin.copy_ #[54, 54] 3 #[.slice (some ⟨q, o, none⟩) m m', .slice A n c]).run Tryz.prog w = .ok (goInt (n : Nat)) (w.setRow q (zy (cur.take o ++ x ++ cur.drop (o + x.length)))) := by
 have hl := hy.len
 by_cases h0 : n = 0
 ·subst h0;have hx : x = [] := List.eq_nil_of_length_eq_zero hl;subst hx;rw [List.append_nil, List.length_nil, Nat.add_zero, List.take_append_drop];have := setRow_self hq;unfold zy;rw [this];exact run_copy_none (P := Tryz.prog) w 54 54 3 5 _ A m m' 0 c Tryz.underlying54 (by kernel_rfl) (Nat.zero_min _)
 ·obtain ⟨b, off, rfl, _, _, _⟩ := hy.row (by omega)
  have h := run_copy_row Tryz.prog w 54 54 3 5 q o m m' ⟨b, off, none⟩ n c (u8s cur).toArray t (u8s x) Tryz.underlying54 (by kernel_rfl) hq (by rw [zn, hl]; exact (Nat.min_eq_left hn).symm) (xF hy)
   (by rw [zn, hl]; simp only [List.size_toArray]; rw [zn]; omega) (u8s_one _)
  rw [zn, hl, u8s_take, u8s_drop, ← yt, ← yt] at h;rw [h, hl];rfl
theorem num_byte (N k : Nat) : (N : Int) / 2 ^ (8 * k) % 256 = (((UInt8.ofNat (N / 256 ^ k)).toNat : Nat) : Int) := by
 have h1 : (2 : Int) ^ (8 * k) = ((256 ^ k : Nat) : Int) := by
  rw [Int.natCast_pow, Int.pow_mul];rfl
 rw [h1, UInt8.toNat_ofNat'];omega
theorem layX {w wr : World} {q : Nat} {z : Array Value} {l : List UInt8} (h1 : wr.heap[q]? = some (.cells z 159 (0, 0))) (h2 : wr.heap[q + 1]? = some (.cells (u8s l).toArray 159 (0, 0))) (hb : Below q w wr) (i : Nat) (x : UInt8) :
    (wr.setCell ⟨q + 1, i, none⟩ (.int .u8 (x.toNat : Int))).heap[q]? = some (.cells z 159 (0, 0)) ∧ (wr.setCell ⟨q + 1, i, none⟩ (.int .u8 (x.toNat : Int))).heap[q + 1]? = some (.cells (u8s (l.set i x)).toArray 159 (0, 0)) ∧ Below q w (wr.setCell ⟨q + 1, i, none⟩ (.int .u8 (x.toNat : Int))) :=
 ⟨(Below.heap_setCell wr ⟨q + 1, i, none⟩ _ q (show q ≠ q + 1 by omega)).trans h1, u8s_cells_set h2 i x, hb.setCell (p := ⟨q + 1, i, none⟩) (show q ≤ q + 1 by omega) _⟩
def WLy (w1 : World) (N : Nat) (i : Value) (wr : World) : Prop := ∃ j : Nat, j ≤ 8 ∧ i = .int .i64 (j : Int) ∧ wr.heap[w1.heap.size]? = some (.cells zS 159 (0, 0)) ∧ wr.heap[w1.heap.size + 1]? = some (.cells (u8s (layA N j)).toArray 159 (0, 0)) ∧ Below w1.heap.size w1 wr
theorem wlay_last {w : World} {S : Nat → Prop} {A : Option Addr} {n c : Nat} {p : List UInt8} (N : Nat) (hN : N < 18446744073709551616) (h : Byt w S A n c p) (hn : n ≤ 110) :
    Calls Tryz.prog 93 #[.int .u64 (N : Int), .slice A n c, .bool true] w fun e w' => e = .returned (.agg (zy (zU N p true))) ∧ Below w.heap.size w w' := by
 have hz := yf;have HH := sq2 h hn;have HN := Lib.hid hN
 have H0 : Hid (WLy w N (.int .i64 0) ((w.alloc (.cells zS 159)).alloc (.cells zS 159))) := Lib.hid (by
  have h1 := heap_alloc_new w (.cells zS 159);have h2 := heap_alloc_new (w.alloc (.cells zS 159)) (.cells zS 159);rw [World.size_alloc] at h2;refine ⟨0, Nat.zero_le _, rfl, (Below.heap_alloc _ _ _ (by simp)).trans h1, ?_, ((Below.refl _ _).alloc (Nat.le_refl _) _).alloc (by simp) _⟩;rw [h2, zerosB_row];rfl)
 clear h hn hN
 go_enter Tryz.func93, Tryz.ntmps93
 go_wp2_with fail
 go_loopw [9] (fun i wr => WLy w N i wr) (fun i _ => 8 - (intOf i).toNat)
 case atStart => exact H0.out
 case round =>
  obtain ⟨j, hj, rfl, h1, h2, hb⟩ := hrel;have HX := sq3 h1 h2 hb
  by_cases hlt : j < 8
  ·have hs := IntWalk.i64_in (7 - (j : Int)) (by omega);have hm := IntWalk.i64_in (8 * (7 - (j : Int))) (by omega);have hadd := IntWalk.i64_in ((j : Int) + 1) (by omega);(have hlt' : (j : Int) < 8 := by omega);(have hlt2 : (j : Int) < 128 := by omega);have hc := u8s_cell h2 j (by rw [layA_length (by omega)]; omega);have hf := zC h2 j
   have HT : Hid ((wr.setCell ⟨w.heap.size + 1, j, none⟩ (.int .u8 ((N : Int) / 2 ^ (8 * (7 - j)) % 256))).heap[w.heap.size]? = some (.cells zS 159 (0, 0)) ∧ (wr.setCell ⟨w.heap.size + 1, j, none⟩ (.int .u8 ((N : Int) / 2 ^ (8 * (7 - j)) % 256))).heap[w.heap.size + 1]? = some (.cells (u8s (layA N (j + 1))).toArray 159 (0, 0)) ∧ Below w.heap.size w (wr.setCell ⟨w.heap.size + 1, j, none⟩ (.int .u8 ((N : Int) / 2 ^ (8 * (7 - j)) % 256)))) := Lib.hid (by
    rw [num_byte];refine ⟨(Below.heap_setCell wr ⟨w.heap.size + 1, j, none⟩ _ w.heap.size (show w.heap.size ≠ w.heap.size + 1 by omega)).trans h1, ?_, hb.setCell (p := ⟨w.heap.size + 1, j, none⟩) (show w.heap.size ≤ w.heap.size + 1 by omega) _⟩;rw [← layA_set hlt];exact u8s_cells_set h2 j _)
   clear h1 h2 hb
   go_wp2_with fail
   go_roundw
   case rel => unfold WLy; exact ⟨j + 1, by omega, by simp, HT.out.1, HT.out.2.1, HT.out.2.2⟩
   case measure => simp only [intOf]; omega
  ·(obtain rfl : j = 8 := by omega);clear hlt hj H0 HN hz;have hc := u8s_cell h2 8 (by rw [layA_length (by omega)]; omega);have hf := zC h2 8;obtain ⟨x, hx⟩ := sqz (UInt8.ofNat n);(have hxn : IntKind.u8.wrap (n : Int) = (x.toNat : Int) := by rw [hx, UInt8.toNat_ofNat', IntKind.wrap_u8]; omega);(have hxn2 : (n : Int) % 256 = (x.toNat : Int) := by rw [hx, UInt8.toNat_ofNat']; omega);have HXN := Lib.hid hx;clear h1 h2 hb hx;have HY := Lib.hid (layX (HX.out.1) (HX.out.2.1) HX.out.2.2 8 x)
   go_upto_region 9 with fail
   rw [layA_count] at HY;clear hc hf HX
   (generalize wr.setCell ⟨w.heap.size + 1, 8, none⟩ (.int .u8 (x.toNat : Int)) = w1 at *);have hc := u8s_cell HY.out.2.1 9 (by rw [layB_length]; omega);have hf := zC HY.out.2.1 9;have HZ := Lib.hid (layX HY.out.1 HY.out.2.1 HY.out.2.2 9 1);rw [layB_last] at HZ
   go_upto_region 10 with fail
   rw [show (Value.int .u8 1) = .int .u8 ((1 : UInt8).toNat : Int) from rfl];clear hc hf HY
   (generalize w1.setCell ⟨w.heap.size + 1, 9, none⟩ (.int .u8 ((1 : UInt8).toNat : Int)) = w2 at *);have hp := HH.out.1.below HZ.out.2.2;have hpl := hp.len;have hp110 := HH.out.2;have hcp := copy_bytes HZ.out.2.1 (o := 10) (m := 118) (m' := 118) hp (by omega) (by rw [layB_length]; omega);rw [layB_part N x 1 (by omega)] at hcp;have h1 := (zM w2 (w.heap.size + 1) w.heap.size (zy (layC N x 1 p)) (by omega)).trans HZ.out.1;have h2 : (w2.setRow (w.heap.size + 1) (zy (layC N x 1 p))).heap[w.heap.size + 1]? = some (.cells (u8s (layC N x 1 p)).toArray 159 (0, 0)) := zF HZ.out.2.1;have h3 := zD HZ.out.2.2 (show w.heap.size ≤ w.heap.size + 1 by omega) (zy (layC N x 1 p));have HP := sq2 hpl hp110;clear hp HZ hpl hp110 hxn hxn2
   go_upto_region 11 with fail
   clear hcp
   generalize w2.setRow (w.heap.size + 1) (zy (layC N x 1 p)) = w3 at *
   have hcp : (Builtin.copy_ #[54, 54] 3 #[.slice (some ⟨w.heap.size + 1, 120, none⟩) 8 8, .slice (some ⟨w.heap.size + 1, 0, none⟩) 8 128]).run Tryz.prog w3.drew = .ok (goInt (8 : Nat)) (w3.drew.setRow (w.heap.size + 1) (zy (zU N p true))) := by
    have hl := layC_length N x 1 (p := p) (by have := HP.out; omega);have hy := byt_sub (w := w3.drew) (o := 0) (m := 8) (c := 128) h2 (by omega) (by omega) (by decide) (S := fun _ => True) trivial;rw [List.drop_zero, layC_front] at hy;have h := copy_bytes (w := w3.drew) (o := 120) (m := 8) (m' := 8) h2 hy (Nat.le_refl _) (by omega);rw [zV, show 120 + 8 = 128 from rfl, List.drop_of_length_le (by omega), List.append_nil] at h;rw [h]
    congr 3
    have := layC_again N true (p := p) (by have := HP.out; omega);rw [← this, HXN.out, HP.out.1];rfl
   have HB := Lib.hid (show (w3.drew.setRow (w.heap.size + 1) (zy (zU N p true))).heap[w.heap.size]? = some (.cells zS 159 (0, 0)) ∧ (w3.drew.setRow (w.heap.size + 1) (zy (zU N p true))).heap[w.heap.size + 1]? = some (.cells (zy (zU N p true)) 159 (0, 0)) ∧ Below w.heap.size w (w3.drew.setRow (w.heap.size + 1) (zy (zU N p true))) from
    ⟨(zM w3.drew (w.heap.size + 1) w.heap.size _ (by omega)).trans h1, zF (w := w3.drew) h2, zD h3.drew (by omega) _⟩)
   have HS : Hid ((zy (zU N p true)).size = 128 ∧ (zy (zU N p true)).all (·.oneCell') = true) := Lib.hid ⟨by rw [yh]; exact yv N true (by have := HP.out; omega), yx _⟩;clear h1 h2 h3
   (generalize hR : zy (zU N p true) = R at *);have HR := Lib.hid hR;clear hR
   go_region
   clear hcp
   generalize w3.drew.setRow (w.heap.size + 1) R = w4 at *
   go_wp2_with (first
    | (refine yA 7 HB.out.2.1 Tryz.underlying159 (by rw [HS.out.1]; exact zQ) ?_)
    | (refine zl 6 33 R HB.out.1 (by rw [HS.out.1]; exact zQ) (by rw [HS.out.1]; exact yE) HS.out.2 ?_))
   (try simp only [Exit.inBlock, Exit.then])
   refine bodyPost_ret (results_cell_row rfl _ _ w.heap.size 159 R (0, 0) _ rfl (zF HB.out.1) Tryz.underlying159 rfl (by rw [HS.out.1]; exact zQ)) rfl ?_;exact ⟨by rw [HR.out], zD HB.out.2.2 (Nat.le_refl _) _⟩
theorem wlay_more {w : World} {S : Nat → Prop} {A : Option Addr} {n c : Nat} {p : List UInt8} (N : Nat) (hN : N < 18446744073709551616) (h : Byt w S A n c p) (hn : n ≤ 110) :
    Calls Tryz.prog 93 #[.int .u64 (N : Int), .slice A n c, .bool false] w fun e w' => e = .returned (.agg (zy (zU N p false))) ∧ Below w.heap.size w w' := by
 have hz := yf;have HH := sq2 h hn;have HN := Lib.hid hN
 have H0 : Hid (WLy w N (.int .i64 0) ((w.alloc (.cells zS 159)).alloc (.cells zS 159))) := Lib.hid (by
  have h1 := heap_alloc_new w (.cells zS 159);have h2 := heap_alloc_new (w.alloc (.cells zS 159)) (.cells zS 159);rw [World.size_alloc] at h2;refine ⟨0, Nat.zero_le _, rfl, (Below.heap_alloc _ _ _ (by simp)).trans h1, ?_, ((Below.refl _ _).alloc (Nat.le_refl _) _).alloc (by simp) _⟩;rw [h2, zerosB_row];rfl)
 clear h hn hN
 go_enter Tryz.func93, Tryz.ntmps93
 go_wp2_with fail
 go_loopw [9] (fun i wr => WLy w N i wr) (fun i _ => 8 - (intOf i).toNat)
 case atStart => exact H0.out
 case round =>
  obtain ⟨j, hj, rfl, h1, h2, hb⟩ := hrel;have HX := sq3 h1 h2 hb
  by_cases hlt : j < 8
  ·have hs := IntWalk.i64_in (7 - (j : Int)) (by omega);have hm := IntWalk.i64_in (8 * (7 - (j : Int))) (by omega);have hadd := IntWalk.i64_in ((j : Int) + 1) (by omega);(have hlt' : (j : Int) < 8 := by omega);(have hlt2 : (j : Int) < 128 := by omega);have hc := u8s_cell h2 j (by rw [layA_length (by omega)]; omega);have hf := zC h2 j
   have HT : Hid ((wr.setCell ⟨w.heap.size + 1, j, none⟩ (.int .u8 ((N : Int) / 2 ^ (8 * (7 - j)) % 256))).heap[w.heap.size]? = some (.cells zS 159 (0, 0)) ∧ (wr.setCell ⟨w.heap.size + 1, j, none⟩ (.int .u8 ((N : Int) / 2 ^ (8 * (7 - j)) % 256))).heap[w.heap.size + 1]? = some (.cells (u8s (layA N (j + 1))).toArray 159 (0, 0)) ∧ Below w.heap.size w (wr.setCell ⟨w.heap.size + 1, j, none⟩ (.int .u8 ((N : Int) / 2 ^ (8 * (7 - j)) % 256)))) := Lib.hid (by
    rw [num_byte];refine ⟨(Below.heap_setCell wr ⟨w.heap.size + 1, j, none⟩ _ w.heap.size (show w.heap.size ≠ w.heap.size + 1 by omega)).trans h1, ?_, hb.setCell (p := ⟨w.heap.size + 1, j, none⟩) (show w.heap.size ≤ w.heap.size + 1 by omega) _⟩;rw [← layA_set hlt];exact u8s_cells_set h2 j _)
   clear h1 h2 hb
   go_wp2_with fail
   go_roundw
   case rel => unfold WLy; exact ⟨j + 1, by omega, by simp, HT.out.1, HT.out.2.1, HT.out.2.2⟩
   case measure => simp only [intOf]; omega
  ·(obtain rfl : j = 8 := by omega);clear hlt hj H0 HN hz;have hc := u8s_cell h2 8 (by rw [layA_length (by omega)]; omega);have hf := zC h2 8;obtain ⟨x, hx⟩ := sqz (UInt8.ofNat n);(have hxn : IntKind.u8.wrap (n : Int) = (x.toNat : Int) := by rw [hx, UInt8.toNat_ofNat', IntKind.wrap_u8]; omega);(have hxn2 : (n : Int) % 256 = (x.toNat : Int) := by rw [hx, UInt8.toNat_ofNat']; omega);have HXN := Lib.hid hx;clear h1 h2 hb hx;have HY := Lib.hid (layX (HX.out.1) (HX.out.2.1) HX.out.2.2 8 x)
   go_upto_region 10 with fail
   rw [layA_count] at HY;clear hc hf HX
   (generalize wr.setCell ⟨w.heap.size + 1, 8, none⟩ (.int .u8 (x.toNat : Int)) = w2 at *);have HZ := Lib.hid HY.out;clear HY;have hp := HH.out.1.below HZ.out.2.2;have hpl := hp.len;have hp110 := HH.out.2;have hcp := copy_bytes HZ.out.2.1 (o := 10) (m := 118) (m' := 118) hp (by omega) (by rw [layB_length]; omega);rw [layB_part N x 0 (by omega)] at hcp;have h1 := (zM w2 (w.heap.size + 1) w.heap.size (zy (layC N x 0 p)) (by omega)).trans HZ.out.1;have h2 : (w2.setRow (w.heap.size + 1) (zy (layC N x 0 p))).heap[w.heap.size + 1]? = some (.cells (u8s (layC N x 0 p)).toArray 159 (0, 0)) := zF HZ.out.2.1;have h3 := zD HZ.out.2.2 (show w.heap.size ≤ w.heap.size + 1 by omega) (zy (layC N x 0 p));have HP := sq2 hpl hp110;clear hp HZ hpl hp110 hxn hxn2
   go_upto_region 11 with fail
   clear hcp
   generalize w2.setRow (w.heap.size + 1) (zy (layC N x 0 p)) = w3 at *
   have hcp : (Builtin.copy_ #[54, 54] 3 #[.slice (some ⟨w.heap.size + 1, 120, none⟩) 8 8, .slice (some ⟨w.heap.size + 1, 0, none⟩) 8 128]).run Tryz.prog w3.drew = .ok (goInt (8 : Nat)) (w3.drew.setRow (w.heap.size + 1) (zy (zU N p false))) := by
    have hl := layC_length N x 0 (p := p) (by have := HP.out; omega);have hy := byt_sub (w := w3.drew) (o := 0) (m := 8) (c := 128) h2 (by omega) (by omega) (by decide) (S := fun _ => True) trivial;rw [List.drop_zero, layC_front] at hy;have h := copy_bytes (w := w3.drew) (o := 120) (m := 8) (m' := 8) h2 hy (Nat.le_refl _) (by omega);rw [zV, show 120 + 8 = 128 from rfl, List.drop_of_length_le (by omega), List.append_nil] at h;rw [h]
    congr 3
    have := layC_again N false (p := p) (by have := HP.out; omega);rw [← this, HXN.out, HP.out.1];rfl
   have HB := Lib.hid (show (w3.drew.setRow (w.heap.size + 1) (zy (zU N p false))).heap[w.heap.size]? = some (.cells zS 159 (0, 0)) ∧ (w3.drew.setRow (w.heap.size + 1) (zy (zU N p false))).heap[w.heap.size + 1]? = some (.cells (zy (zU N p false)) 159 (0, 0)) ∧ Below w.heap.size w (w3.drew.setRow (w.heap.size + 1) (zy (zU N p false))) from
    ⟨(zM w3.drew (w.heap.size + 1) w.heap.size _ (by omega)).trans h1, zF (w := w3.drew) h2, zD h3.drew (by omega) _⟩)
   have HS : Hid ((zy (zU N p false)).size = 128 ∧ (zy (zU N p false)).all (·.oneCell') = true) := Lib.hid ⟨by rw [yh]; exact yv N false (by have := HP.out; omega), yx _⟩;clear h1 h2 h3
   (generalize hR : zy (zU N p false) = R at *);have HR := Lib.hid hR;clear hR
   go_region
   clear hcp
   generalize w3.drew.setRow (w.heap.size + 1) R = w4 at *
   go_wp2_with (first
    | (refine yA 7 HB.out.2.1 Tryz.underlying159 (by rw [HS.out.1]; exact zQ) ?_)
    | (refine zl 6 33 R HB.out.1 (by rw [HS.out.1]; exact zQ) (by rw [HS.out.1]; exact yE) HS.out.2 ?_))
   (try simp only [Exit.inBlock, Exit.then])
   refine bodyPost_ret (results_cell_row rfl _ _ w.heap.size 159 R (0, 0) _ rfl (zF HB.out.1) Tryz.underlying159 rfl (by rw [HS.out.1]; exact zQ)) rfl ?_;exact ⟨by rw [HR.out], zD HB.out.2.2 (Nat.le_refl _) _⟩
theorem wlay_any {w : World} {S : Nat → Prop} {A : Option Addr} {n c : Nat} {p : List UInt8} (N : Nat) (hN : N < 18446744073709551616) (h : Byt w S A n c p) (hn : n ≤ 110) (e : Bool) :
    Calls Tryz.prog 93 #[.int .u64 (N : Int), .slice A n c, .bool e] w fun r w' => r = .returned (.agg (zy (zU N p e))) ∧ Below w.heap.size w w' := by
 cases e
 ·exact wlay_more N hN h hn
 ·exact wlay_last N hN h hn
end Go.Proofs.YtmioifcbkhpdaaaGreat
/-! The code's Whole: what it tells by its tests; where it says no at once. -/
namespace Go.Proofs.YtmioifcbkhpdaaaGreat
open Go.RowKit
theorem blockL_at9 (n : Nat) (p : List UInt8) (e : Bool) : (zU n p e)[9]? = some (if e then 1 else 0) := by
 have h1 : (numL n ++ [UInt8.ofNat p.length, if e then 1 else 0]).length = 10 := by simp [zV]
 unfold zU;rw [List.append_assoc, List.append_assoc, List.getElem?_append_left (by omega), List.getElem?_append_right (by rw [zV]; omega), zV];rfl
def b8 (b : List UInt8) : Nat := (b[8]?.getD 0).toNat
def b9 (b : List UInt8) : Bool := decide ((b[9]?.getD 0).toNat = 1)
def bp (b : List UInt8) : List UInt8 := (b.drop 10).take (b8 b)
theorem bp_length {b : List UInt8} (hb : b.length = 128) (h : b8 b ≤ 110) : (bp b).length = b8 b := by
 unfold bp;rw [List.length_take, List.length_drop];omega
theorem readL_tests {b : List UInt8} (hb : b.length = 128) : (ze b).1 = if yC (b.take 8) = 0 ∨ 110 < b8 b ∨ (b9 b = false ∧ b8 b < 110) then 0 else if b = zU (yC (b.take 8)) (bp b) (b9 b) then yC (b.take 8) else 0 := by
 by_cases h1 : 110 < b8 b
 ·rw [if_pos (.inr (.inl h1)), readL_no (.inr (.inl h1))]
 ·by_cases h2 : 1 < (b[9]?.getD 0).toNat
  ·rw [readL_no (.inr (.inr h2))];have h9 : b9 b = false := decide_eq_false (by omega)
   split
   ·rfl
   ·rw [if_neg];intro he;have := congrArg (fun l => (l[9]?.getD 0).toNat) he;simp only [blockL_at9, h9] at this;simp at this;omega
  ·have hno : ¬ (b.length ≠ 128 ∨ 110 < (b[8]?.getD 0).toNat ∨ 1 < (b[9]?.getD 0).toNat) := by
     rintro (h | h | h)
     ·exact h hb
     ·exact h1 h
     ·exact h2 h
   have hbl := bp_length hb (by omega);unfold ze;rw [if_neg hno];simp only;change (if zU (yC (b.take 8)) (bp b) (b9 b) ≠ b ∨ (b[9]?.getD 0).toNat = 0 ∧ (bp b).length < 110 then ((0, [], false) : Nat × List UInt8 × Bool) else (yC (b.take 8), bp b, b9 b)).1 = _
   by_cases h3 : zU (yC (b.take 8)) (bp b) (b9 b) = b
   ·by_cases h4 : (b[9]?.getD 0).toNat = 0 ∧ (bp b).length < 110
    ·rw [if_pos (.inr h4), if_pos (.inr (.inr ⟨decide_eq_false (by omega), by omega⟩))]
    ·rw [if_neg (by rintro (h | h); exact h h3; exact h4 h)]
     by_cases h5 : yC (b.take 8) = 0
     ·rw [if_pos (.inl h5)];exact h5
     ·rw [if_neg, if_pos h3.symm];rintro (h | h | ⟨h, h6⟩)
      ·exact h5 h
      ·exact h1 h
      ·exact h4 ⟨by have := of_decide_eq_false h; omega, by omega⟩
   ·rw [if_pos (.inl h3)]
    split
    ·rfl
    ·rw [if_neg (fun h => h3 h.symm)]
theorem wblk_eql (l m : List UInt8) (hl : l.length = 128) (hm : m.length = 128) (w : World) : (Op.equalIn 10000 159 (.agg (zy l)) (.agg (zy m))).run Tryz.prog w = .ok (decide (l = m)) w := by
 obtain ⟨i0, hi, _⟩ := info_parts u8_info;exact run_equalIn_bytes (P := Tryz.prog) w Tryz.underlying159 Tryz.underlying5 hi (by kernel_rfl) 9998 l m hl hm
theorem wwhole_short {w : World} {A : Option Addr} {n c : Nat} (hn : n ≠ 128) :
    Calls Tryz.prog 103 #[.slice A n c] w fun e w' => e = .returned (.tuple #[.int .u64 0, .bool false]) ∧ w = w' := by
 have hn' : ((n : Int) != 128) = true := by simp; omega
 clear hn
 go_enter Tryz.func103, Tryz.ntmps103
 go_wp2_with fail
 go_ret2
 exact ⟨rfl, rfl⟩
theorem wwhole_zero {w : World} {S : Nat → Prop} {A : Option Addr} {c : Nat} {b : List UInt8} (h : Byt w S A 128 c b) (hk : yC (b.take 8) = 0) :
    Calls Tryz.prog 103 #[.slice A 128 c] w fun e w' => e = .returned (.tuple #[.int .u64 0, .bool false]) ∧ Below w.heap.size w w' := by
 obtain ⟨K, h0⟩ := sqz 0;rw [← h0] at hk;have hz := yf;have HK : Hid (yC (b.take 8) = K ∧ b.length = 128) := Lib.hid ⟨hk, h.len⟩;obtain ⟨bb, off, rfl, _, _, hc⟩ := h.row (by omega);obtain ⟨KS, hKS⟩ := sqz (zy b);have HKS := Lib.hid hKS;have hat : ∀ w, (Instr.arrayAt 159 (.slice (some ⟨bb, off, none⟩) 128 c)).run Tryz.prog w = .ok (.pointer (some ⟨bb, off, none⟩)) w := fun w => run_arrayAt w 159 _ _ _ _ _ Tryz.underlying159 (Nat.le_refl _)
 have HA : Hid (∀ j v, KS[j]? = some v → w.cell? ((Addr.mk bb off none).add j) = some v) := Lib.hid (fun j v hj => xF h j v (by rw [hKS] at hj; simpa [zy] using hj));have HS : Hid (KS.size = 128 ∧ KS.all (·.oneCell') = true) := Lib.hid ⟨by rw [hKS, yh, h.len], by rw [hKS]; exact yx _⟩;have HN : Hid (∀ W, Below w.heap.size w W → Calls Tryz.prog 102 #[.slice (some ⟨bb, off, none⟩) 128 c] W fun e w' => e = .returned (.int .u64 (K : Int)) ∧ W = w') := Lib.hid (fun W hb => by rw [← hk]; exact yo (h.below hb) (by omega));have HG : Hid ((w.alloc (.cells zS 159)).heap[w.heap.size]? = some (.cells zS 159 (0, 0))) := Lib.hid (heap_alloc_new w _);have hb8 : KS[8]? = some (.int .u8 (b8 b : Int)) := by rw [hKS]; exact row8_at (by rw [h.len]; omega)
 have hb9 := fun W => wlast_any b h.len W
 rw [← hKS] at hb9;have hb9 : ∀ W, Calls Tryz.prog 105 #[.agg KS] W fun e w' => e = .returned (.bool (b9 b)) ∧ Below W.heap.size W w' := hb9
 have HB9 := Lib.hid hb9;clear hb9;clear hb9 hc hKS hk
 go_enter Tryz.func103, Tryz.ntmps103
 go_upto_region 4 with (first
  | (refine sqwa 10 HA.out Tryz.underlying159 (by rw [HS.out.1]; exact zQ) ?_)
  | (refine zl 4 11 KS HG.out (by rw [HS.out.1]; exact zQ) (by rw [HS.out.1]; exact yE) HS.out.2 ?_))
 have HW : Hid (((w.alloc (.cells zS 159)).setRow w.heap.size KS).heap[w.heap.size]? = some (.cells KS 159 (0, 0)) ∧ Below w.heap.size w ((w.alloc (.cells zS 159)).setRow w.heap.size KS)) := Lib.hid ⟨zF HG.out, zD ((Below.refl _ _).alloc (Nat.le_refl _) _) (Nat.le_refl _) _⟩;clear HG HA hz hat
 generalize (w.alloc (.cells zS 159)).setRow w.heap.size KS = w1 at *
 have hnum := HN.out w1 HW.out.2;have h8 : w1.cell? ⟨w.heap.size, 8, none⟩ = some (.int .u8 (b8 b : Int)) := by rw [zA HW.out.1]; exact hb8
 clear hb8 HN h
 generalize b8 b = x at *
 go_upto_region 5 with (go_at_call 102; refine hnum.mono ?_; clear hnum; rintro _ _ ⟨rfl, rfl⟩)
 go_wp2_with fail
 go_ret2
 exact ⟨rfl, HW.out.2⟩
theorem wwhole_great {w : World} {S : Nat → Prop} {A : Option Addr} {c : Nat} {b : List UInt8} (h : Byt w S A 128 c b) {K : Nat} (hk : yC (b.take 8) = K) (h0 : K ≠ 0) (h1 : 110 < b8 b) :
    Calls Tryz.prog 103 #[.slice A 128 c] w fun e w' => e = .returned (.tuple #[.int .u64 0, .bool false]) ∧ Below w.heap.size w w' := by
 have h0' : ((K : Int) == 0) = false := by simp; omega
 have hz := yf;have HK : Hid (yC (b.take 8) = K ∧ b.length = 128) := Lib.hid ⟨hk, h.len⟩;obtain ⟨bb, off, rfl, _, _, hc⟩ := h.row (by omega);obtain ⟨KS, hKS⟩ := sqz (zy b);have HKS := Lib.hid hKS;have hat : ∀ w, (Instr.arrayAt 159 (.slice (some ⟨bb, off, none⟩) 128 c)).run Tryz.prog w = .ok (.pointer (some ⟨bb, off, none⟩)) w := fun w => run_arrayAt w 159 _ _ _ _ _ Tryz.underlying159 (Nat.le_refl _)
 have HA : Hid (∀ j v, KS[j]? = some v → w.cell? ((Addr.mk bb off none).add j) = some v) := Lib.hid (fun j v hj => xF h j v (by rw [hKS] at hj; simpa [zy] using hj));have HS : Hid (KS.size = 128 ∧ KS.all (·.oneCell') = true) := Lib.hid ⟨by rw [hKS, yh, h.len], by rw [hKS]; exact yx _⟩;have HN : Hid (∀ W, Below w.heap.size w W → Calls Tryz.prog 102 #[.slice (some ⟨bb, off, none⟩) 128 c] W fun e w' => e = .returned (.int .u64 (K : Int)) ∧ W = w') := Lib.hid (fun W hb => by rw [← hk]; exact yo (h.below hb) (by omega));have HG : Hid ((w.alloc (.cells zS 159)).heap[w.heap.size]? = some (.cells zS 159 (0, 0))) := Lib.hid (heap_alloc_new w _);have hb8 : KS[8]? = some (.int .u8 (b8 b : Int)) := by rw [hKS]; exact row8_at (by rw [h.len]; omega)
 have hb9 := fun W => wlast_any b h.len W
 rw [← hKS] at hb9;have hb9 : ∀ W, Calls Tryz.prog 105 #[.agg KS] W fun e w' => e = .returned (.bool (b9 b)) ∧ Below W.heap.size W w' := hb9
 have HB9 := Lib.hid hb9;clear hb9;clear hb9 hc hKS hk
 go_enter Tryz.func103, Tryz.ntmps103
 go_upto_region 4 with (first
  | (refine sqwa 10 HA.out Tryz.underlying159 (by rw [HS.out.1]; exact zQ) ?_)
  | (refine zl 4 11 KS HG.out (by rw [HS.out.1]; exact zQ) (by rw [HS.out.1]; exact yE) HS.out.2 ?_))
 have HW : Hid (((w.alloc (.cells zS 159)).setRow w.heap.size KS).heap[w.heap.size]? = some (.cells KS 159 (0, 0)) ∧ Below w.heap.size w ((w.alloc (.cells zS 159)).setRow w.heap.size KS)) := Lib.hid ⟨zF HG.out, zD ((Below.refl _ _).alloc (Nat.le_refl _) _) (Nat.le_refl _) _⟩;clear HG HA hz hat
 generalize (w.alloc (.cells zS 159)).setRow w.heap.size KS = w1 at *
 have hnum := HN.out w1 HW.out.2;have h8 : w1.cell? ⟨w.heap.size, 8, none⟩ = some (.int .u8 (b8 b : Int)) := by rw [zA HW.out.1]; exact hb8
 clear hb8 HN h
 generalize b8 b = x at *
 go_upto_region 5 with (go_at_call 102; refine hnum.mono ?_; clear hnum; rintro _ _ ⟨rfl, rfl⟩)
 clear h0;have hd : decide ((110 : Int) < (x : Int)) = true := decide_eq_true (by omega);clear h1
 go_wp2_with fail
 go_ret2
 exact ⟨rfl, HW.out.2⟩
end Go.Proofs.YtmioifcbkhpdaaaGreat
/-! The code's Whole. -/
namespace Go.Proofs.YtmioifcbkhpdaaaGreat
open Go.RowKit
theorem wwhole_more {w : World} {S : Nat → Prop} {A : Option Addr} {c : Nat} {b : List UInt8} (h : Byt w S A 128 c b) {K : Nat} (hk : yC (b.take 8) = K) (h0 : K ≠ 0) (h1 : b8 b < 110) (h2 : b9 b = false) :
    Calls Tryz.prog 103 #[.slice A 128 c] w fun e w' => e = .returned (.tuple #[.int .u64 0, .bool false]) ∧ Below w.heap.size w w' := by
 have h0' : ((K : Int) == 0) = false := by simp; omega
 have hz := yf;have HK : Hid (yC (b.take 8) = K ∧ b.length = 128) := Lib.hid ⟨hk, h.len⟩;obtain ⟨bb, off, rfl, _, _, hc⟩ := h.row (by omega);obtain ⟨KS, hKS⟩ := sqz (zy b);have HKS := Lib.hid hKS;have hat : ∀ w, (Instr.arrayAt 159 (.slice (some ⟨bb, off, none⟩) 128 c)).run Tryz.prog w = .ok (.pointer (some ⟨bb, off, none⟩)) w := fun w => run_arrayAt w 159 _ _ _ _ _ Tryz.underlying159 (Nat.le_refl _)
 have HA : Hid (∀ j v, KS[j]? = some v → w.cell? ((Addr.mk bb off none).add j) = some v) := Lib.hid (fun j v hj => xF h j v (by rw [hKS] at hj; simpa [zy] using hj));have HS : Hid (KS.size = 128 ∧ KS.all (·.oneCell') = true) := Lib.hid ⟨by rw [hKS, yh, h.len], by rw [hKS]; exact yx _⟩;have HN : Hid (∀ W, Below w.heap.size w W → Calls Tryz.prog 102 #[.slice (some ⟨bb, off, none⟩) 128 c] W fun e w' => e = .returned (.int .u64 (K : Int)) ∧ W = w') := Lib.hid (fun W hb => by rw [← hk]; exact yo (h.below hb) (by omega));have HG : Hid ((w.alloc (.cells zS 159)).heap[w.heap.size]? = some (.cells zS 159 (0, 0))) := Lib.hid (heap_alloc_new w _);have hb8 : KS[8]? = some (.int .u8 (b8 b : Int)) := by rw [hKS]; exact row8_at (by rw [h.len]; omega)
 have hb9 := fun W => wlast_any b h.len W
 rw [← hKS] at hb9;have hb9 : ∀ W, Calls Tryz.prog 105 #[.agg KS] W fun e w' => e = .returned (.bool (b9 b)) ∧ Below W.heap.size W w' := hb9
 have HB9 := Lib.hid hb9;clear hb9;clear hb9 hc hKS hk
 go_enter Tryz.func103, Tryz.ntmps103
 go_upto_region 4 with (first
  | (refine sqwa 10 HA.out Tryz.underlying159 (by rw [HS.out.1]; exact zQ) ?_)
  | (refine zl 4 11 KS HG.out (by rw [HS.out.1]; exact zQ) (by rw [HS.out.1]; exact yE) HS.out.2 ?_))
 have HW : Hid (((w.alloc (.cells zS 159)).setRow w.heap.size KS).heap[w.heap.size]? = some (.cells KS 159 (0, 0)) ∧ Below w.heap.size w ((w.alloc (.cells zS 159)).setRow w.heap.size KS)) := Lib.hid ⟨zF HG.out, zD ((Below.refl _ _).alloc (Nat.le_refl _) _) (Nat.le_refl _) _⟩;clear HG HA hz hat
 generalize (w.alloc (.cells zS 159)).setRow w.heap.size KS = w1 at *
 have hnum := HN.out w1 HW.out.2;have h8 : w1.cell? ⟨w.heap.size, 8, none⟩ = some (.int .u8 (b8 b : Int)) := by rw [zA HW.out.1]; exact hb8
 have HB8 := Lib.hid hb8;clear hb8 HN h
 generalize b8 b = x at *
 go_upto_region 5 with (go_at_call 102; refine hnum.mono ?_; clear hnum; rintro _ _ ⟨rfl, rfl⟩)
 clear h0;have hd : decide ((110 : Int) < (x : Int)) = false := decide_eq_false (by omega);have hd2 : decide ((x : Int) < 110) = true := decide_eq_true (by omega);clear h1;rw [h2] at HB9
 go_wp2_with (first
  | (refine yR (by rfl) 159 (.tmp 4) (by rfl) w.heap.size (by rfl) 159 KS (0, 0) _ HW.out.1 Tryz.underlying159 (by rfl) (by rw [HS.out.1]; exact zQ) ?_)
  | (go_at_call 105; refine (HB9.out _).mono ?_; rintro _ w2 ⟨rfl, hb2⟩; have HW2 := sq2 ((hb2.block _ (zB HW.out.1)).trans HW.out.1) (HW.out.2.trans (hb2.mono HW.out.2.size)); clear hb2; have h8 : w2.cell? ⟨w.heap.size, 8, none⟩ = some (.int .u8 (x : Int)) := by rw [zA HW2.out.1]; exact HB8.out))
 go_ret2
 exact ⟨rfl, HW2.out.2⟩
/-! Where it lays anew. -/
theorem wwhole_last_yes {w : World} {S : Nat → Prop} {A : Option Addr} {c : Nat} {b : List UInt8} (h : Byt w S A 128 c b) {K : Nat} (hk : yC (b.take 8) = K) (h0 : K ≠ 0) (h1 : b8 b ≤ 110) (h2 : b9 b = true) (h3 : b = zU K (bp b) true) :
    Calls Tryz.prog 103 #[.slice A 128 c] w fun e w' => e = .returned (.tuple #[.int .u64 (K : Int), .bool true]) ∧ Below w.heap.size w w' := by
 have h0' : ((K : Int) == 0) = false := by simp; omega
 have hbp := bp_length h.len (by omega);have HK2 : Hid (K < 18446744073709551616 ∧ b8 b ≤ 110 ∧ (bp b).length ≤ 110) := Lib.hid ⟨by rw [← hk]; exact val8 b, by omega, by omega⟩;obtain ⟨RS, hRS⟩ := sqz (zy (zU K (bp b) true));have HRS := Lib.hid hRS;have HQ0 := wblk_eql b (zU K (bp b) true) h.len (yv K true (by omega));rw [← hRS, decide_eq_true h3] at HQ0;have hpt : ∀ w : World, Calls Tryz.prog 104 #[.agg (zy b)] w fun e w' => ∃ A n c, e = .returned (.slice A n c) ∧ Byt w' (w.heap.size ≤ ·) A n c (bp b) ∧ Below w.heap.size w w' := wpart_any b h.len (show b8 b ≤ 110 by omega)
 clear hbp hRS h3;have hz := yf;have HK : Hid (yC (b.take 8) = K ∧ b.length = 128) := Lib.hid ⟨hk, h.len⟩;obtain ⟨bb, off, rfl, _, _, hc⟩ := h.row (by omega);obtain ⟨KS, hKS⟩ := sqz (zy b);have HKS := Lib.hid hKS;have hat : ∀ w, (Instr.arrayAt 159 (.slice (some ⟨bb, off, none⟩) 128 c)).run Tryz.prog w = .ok (.pointer (some ⟨bb, off, none⟩)) w := fun w => run_arrayAt w 159 _ _ _ _ _ Tryz.underlying159 (Nat.le_refl _)
 have HA : Hid (∀ j v, KS[j]? = some v → w.cell? ((Addr.mk bb off none).add j) = some v) := Lib.hid (fun j v hj => xF h j v (by rw [hKS] at hj; simpa [zy] using hj));have HS : Hid (KS.size = 128 ∧ KS.all (·.oneCell') = true) := Lib.hid ⟨by rw [hKS, yh, h.len], by rw [hKS]; exact yx _⟩;have HN : Hid (∀ W, Below w.heap.size w W → Calls Tryz.prog 102 #[.slice (some ⟨bb, off, none⟩) 128 c] W fun e w' => e = .returned (.int .u64 (K : Int)) ∧ W = w') := Lib.hid (fun W hb => by rw [← hk]; exact yo (h.below hb) (by omega));have HG : Hid ((w.alloc (.cells zS 159)).heap[w.heap.size]? = some (.cells zS 159 (0, 0))) := Lib.hid (heap_alloc_new w _);have hb8 : KS[8]? = some (.int .u8 (b8 b : Int)) := by rw [hKS]; exact row8_at (by rw [h.len]; omega)
 have hb9 := fun W => wlast_any b h.len W
 rw [← hKS] at hb9 HQ0 hpt;have HPT := Lib.hid hpt;have HQ := Lib.hid HQ0;clear hpt HQ0;have hb9 : ∀ W, Calls Tryz.prog 105 #[.agg KS] W fun e w' => e = .returned (.bool (b9 b)) ∧ Below W.heap.size W w' := hb9
 have HB9 := Lib.hid hb9;clear hb9;clear hb9 hc hKS hk
 go_enter Tryz.func103, Tryz.ntmps103
 go_upto_region 4 with (first
  | (refine sqwa 10 HA.out Tryz.underlying159 (by rw [HS.out.1]; exact zQ) ?_)
  | (refine zl 4 11 KS HG.out (by rw [HS.out.1]; exact zQ) (by rw [HS.out.1]; exact yE) HS.out.2 ?_))
 have HW : Hid (((w.alloc (.cells zS 159)).setRow w.heap.size KS).heap[w.heap.size]? = some (.cells KS 159 (0, 0)) ∧ Below w.heap.size w ((w.alloc (.cells zS 159)).setRow w.heap.size KS)) := Lib.hid ⟨zF HG.out, zD ((Below.refl _ _).alloc (Nat.le_refl _) _) (Nat.le_refl _) _⟩;clear HG HA hz hat
 generalize (w.alloc (.cells zS 159)).setRow w.heap.size KS = w1 at *
 have hnum := HN.out w1 HW.out.2;have h8 : w1.cell? ⟨w.heap.size, 8, none⟩ = some (.int .u8 (b8 b : Int)) := by rw [zA HW.out.1]; exact hb8
 have HB8 := Lib.hid hb8;clear hb8 HN h
 generalize b8 b = x at *
 go_upto_region 5 with (go_at_call 102; refine hnum.mono ?_; clear hnum; rintro _ _ ⟨rfl, rfl⟩)
 clear h0;have hd : decide ((110 : Int) < (x : Int)) = false := decide_eq_false (by omega);clear h1;rw [h2] at HB9
 go_upto_region 7 with (first
  | (refine yR (by rfl) 159 (.tmp 4) (by rfl) w.heap.size (by rfl) 159 KS (0, 0) _ HW.out.1 Tryz.underlying159 (by rfl) (by rw [HS.out.1]; exact zQ) ?_)
  | (go_at_call 105; refine (HB9.out _).mono ?_; rintro _ w2 ⟨rfl, hb2⟩; have HW2 := sq2 ((hb2.block _ (zB HW.out.1)).trans HW.out.1) (HW.out.2.trans (hb2.mono HW.out.2.size)); clear hb2; have h8 : w2.cell? ⟨w.heap.size, 8, none⟩ = some (.int .u8 (x : Int)) := by rw [zA HW2.out.1]; exact HB8.out))
 have HX : Hid (w2.drew.heap[w.heap.size]? = some (.cells KS 159 (0, 0)) ∧ Below w.heap.size w w2.drew) := Lib.hid ⟨HW2.out.1, HW2.out.2.drew⟩;clear h8 HW HW2;refine sqg [sqv (.agg KS), sqv (.int .u64 (K : Int)), sqv (.agg KS), fun v W => ∃ A n c, v = .slice A n c ∧ Byt W (fun _ => True) A n c (bp b), sqv (.agg KS), sqv (.bool true), sqv (.agg RS), sqv (.bool false)] 40 ?gmono ?gsteps ?gfin
 case gmono => exact ⟨sqm, sqm, sqm, fun _ _ _ ⟨A, n, c, h1, h2⟩ hg => ⟨A, n, c, h1, h2.below hg⟩, sqm, sqm, sqm, sqm, trivial⟩
 case gsteps =>
  show Grow.allBelow _ 8
  iterate 8 refine And.intro ?_ ?_
  exact trivial
  ·refine sqi ?_;intro E W ec eg ef hG hd hu R HR;have e4 : E (.tmp 4) = .pointer (some ⟨w.heap.size, 0, none⟩) := hu 4;clear hd hu;exact ym 159 (.tmp 4) rfl (w.heap.size) e4 KS (0, 0) ((hG.block _ (zB HX.out.1)).trans HX.out.1) Tryz.underlying159 (by rw [HS.out.1]; exact zQ) (HR.out _ _ (Below.refl _ _) rfl)
  ·exact squ 5
  ·refine sqi ?_;intro E W ec eg ef hG hd hu R HR;have e4 : E (.tmp 4) = .pointer (some ⟨w.heap.size, 0, none⟩) := hu 4;clear hd hu;exact ym 159 (.tmp 4) rfl (w.heap.size) e4 KS (0, 0) ((hG.block _ (zB HX.out.1)).trans HX.out.1) Tryz.underlying159 (by rw [HS.out.1]; exact zQ) (HR.out _ _ (Below.refl _ _) rfl)
  ·refine sqi ?_;intro E W ec eg ef hG hd hu R HR;have e33 := sqe (hd 2 33);clear hd hu;go_simp;refine (HPT.out W).mono ?_;rintro _ w' ⟨A, n, c, rfl, hy, hb⟩;exact ⟨_, rfl, HR.out _ _ hb ⟨A, n, c, rfl, hy.mono fun _ _ _ => trivial⟩⟩
  ·refine sqi ?_;intro E W ec eg ef hG hd hu R HR;have e4 : E (.tmp 4) = .pointer (some ⟨w.heap.size, 0, none⟩) := hu 4;clear hd hu;exact ym 159 (.tmp 4) rfl (w.heap.size) e4 KS (0, 0) ((hG.block _ (zB HX.out.1)).trans HX.out.1) Tryz.underlying159 (by rw [HS.out.1]; exact zQ) (HR.out _ _ (Below.refl _ _) rfl)
  ·refine sqi ?_;intro E W ec eg ef hG hd hu R HR;have e35 : E (.tmp 35) = .agg KS := hd 4 35;clear hd hu;go_simp;refine (HB9.out W).mono ?_;rintro _ w' ⟨rfl, hb⟩;exact ⟨_, rfl, HR.out _ _ hb rfl⟩
  ·refine sqi ?_;intro E W ec eg ef hG hd hu R HR;have e32 := sqe (hd 1 32);have h34 := hd 3 34;have e36 := sqe (hd 5 36);clear hd hu;obtain ⟨A, n, c, e34, hy⟩ := h34;go_simp;refine (wlay_any K HK2.out.1 hy (by rw [← hy.len]; exact HK2.out.2.2) true).mono ?_;rintro _ w' ⟨rfl, hb⟩;exact ⟨_, rfl, HR.out _ _ hb (congrArg Value.agg HRS.out.symm)⟩
  ·refine sqi ?_;intro E W ec eg ef hG hd hu R HR;have e31 := sqe (hd 0 31);have e37 := sqe (hd 6 37);clear hd hu;have hq := HQ.out W;go_simp;exact sqh HR
 case gfin =>
  intro W hG
  iterate 3 (refine Grow.fin_dst (by rfl) ?_; rintro _ rfl)
  refine Grow.fin_dst (by rfl) ?_;rintro _ ⟨_, _, _, rfl, _⟩
  iterate 4 (refine Grow.fin_dst (by rfl) ?_; rintro _ rfl)
  simp only [Act.put, sqp];refine Grow.fin_end ?_;have HF := Lib.hid (HX.out.2.trans (hG.mono HX.out.2.size));clear hG
  go_wp2_with fail
  go_ret2
  exact ⟨rfl, HF.out⟩
theorem wwhole_last_no {w : World} {S : Nat → Prop} {A : Option Addr} {c : Nat} {b : List UInt8} (h : Byt w S A 128 c b) {K : Nat} (hk : yC (b.take 8) = K) (h0 : K ≠ 0) (h1 : b8 b ≤ 110) (h2 : b9 b = true) (h3 : b ≠ zU K (bp b) true) :
    Calls Tryz.prog 103 #[.slice A 128 c] w fun e w' => e = .returned (.tuple #[.int .u64 0, .bool false]) ∧ Below w.heap.size w w' := by
 have h0' : ((K : Int) == 0) = false := by simp; omega
 have hbp := bp_length h.len (by omega);have HK2 : Hid (K < 18446744073709551616 ∧ b8 b ≤ 110 ∧ (bp b).length ≤ 110) := Lib.hid ⟨by rw [← hk]; exact val8 b, by omega, by omega⟩;obtain ⟨RS, hRS⟩ := sqz (zy (zU K (bp b) true));have HRS := Lib.hid hRS;have HQ0 := wblk_eql b (zU K (bp b) true) h.len (yv K true (by omega));rw [← hRS, decide_eq_false h3] at HQ0;have hpt : ∀ w : World, Calls Tryz.prog 104 #[.agg (zy b)] w fun e w' => ∃ A n c, e = .returned (.slice A n c) ∧ Byt w' (w.heap.size ≤ ·) A n c (bp b) ∧ Below w.heap.size w w' := wpart_any b h.len (show b8 b ≤ 110 by omega)
 clear hbp hRS h3;have hz := yf;have HK : Hid (yC (b.take 8) = K ∧ b.length = 128) := Lib.hid ⟨hk, h.len⟩;obtain ⟨bb, off, rfl, _, _, hc⟩ := h.row (by omega);obtain ⟨KS, hKS⟩ := sqz (zy b);have HKS := Lib.hid hKS;have hat : ∀ w, (Instr.arrayAt 159 (.slice (some ⟨bb, off, none⟩) 128 c)).run Tryz.prog w = .ok (.pointer (some ⟨bb, off, none⟩)) w := fun w => run_arrayAt w 159 _ _ _ _ _ Tryz.underlying159 (Nat.le_refl _)
 have HA : Hid (∀ j v, KS[j]? = some v → w.cell? ((Addr.mk bb off none).add j) = some v) := Lib.hid (fun j v hj => xF h j v (by rw [hKS] at hj; simpa [zy] using hj));have HS : Hid (KS.size = 128 ∧ KS.all (·.oneCell') = true) := Lib.hid ⟨by rw [hKS, yh, h.len], by rw [hKS]; exact yx _⟩;have HN : Hid (∀ W, Below w.heap.size w W → Calls Tryz.prog 102 #[.slice (some ⟨bb, off, none⟩) 128 c] W fun e w' => e = .returned (.int .u64 (K : Int)) ∧ W = w') := Lib.hid (fun W hb => by rw [← hk]; exact yo (h.below hb) (by omega));have HG : Hid ((w.alloc (.cells zS 159)).heap[w.heap.size]? = some (.cells zS 159 (0, 0))) := Lib.hid (heap_alloc_new w _);have hb8 : KS[8]? = some (.int .u8 (b8 b : Int)) := by rw [hKS]; exact row8_at (by rw [h.len]; omega)
 have hb9 := fun W => wlast_any b h.len W
 rw [← hKS] at hb9 HQ0 hpt;have HPT := Lib.hid hpt;have HQ := Lib.hid HQ0;clear hpt HQ0;have hb9 : ∀ W, Calls Tryz.prog 105 #[.agg KS] W fun e w' => e = .returned (.bool (b9 b)) ∧ Below W.heap.size W w' := hb9
 have HB9 := Lib.hid hb9;clear hb9;clear hb9 hc hKS hk
 go_enter Tryz.func103, Tryz.ntmps103
 go_upto_region 4 with (first
  | (refine sqwa 10 HA.out Tryz.underlying159 (by rw [HS.out.1]; exact zQ) ?_)
  | (refine zl 4 11 KS HG.out (by rw [HS.out.1]; exact zQ) (by rw [HS.out.1]; exact yE) HS.out.2 ?_))
 have HW : Hid (((w.alloc (.cells zS 159)).setRow w.heap.size KS).heap[w.heap.size]? = some (.cells KS 159 (0, 0)) ∧ Below w.heap.size w ((w.alloc (.cells zS 159)).setRow w.heap.size KS)) := Lib.hid ⟨zF HG.out, zD ((Below.refl _ _).alloc (Nat.le_refl _) _) (Nat.le_refl _) _⟩;clear HG HA hz hat
 generalize (w.alloc (.cells zS 159)).setRow w.heap.size KS = w1 at *
 have hnum := HN.out w1 HW.out.2;have h8 : w1.cell? ⟨w.heap.size, 8, none⟩ = some (.int .u8 (b8 b : Int)) := by rw [zA HW.out.1]; exact hb8
 have HB8 := Lib.hid hb8;clear hb8 HN h
 generalize b8 b = x at *
 go_upto_region 5 with (go_at_call 102; refine hnum.mono ?_; clear hnum; rintro _ _ ⟨rfl, rfl⟩)
 clear h0;have hd : decide ((110 : Int) < (x : Int)) = false := decide_eq_false (by omega);clear h1;rw [h2] at HB9
 go_upto_region 7 with (first
  | (refine yR (by rfl) 159 (.tmp 4) (by rfl) w.heap.size (by rfl) 159 KS (0, 0) _ HW.out.1 Tryz.underlying159 (by rfl) (by rw [HS.out.1]; exact zQ) ?_)
  | (go_at_call 105; refine (HB9.out _).mono ?_; rintro _ w2 ⟨rfl, hb2⟩; have HW2 := sq2 ((hb2.block _ (zB HW.out.1)).trans HW.out.1) (HW.out.2.trans (hb2.mono HW.out.2.size)); clear hb2; have h8 : w2.cell? ⟨w.heap.size, 8, none⟩ = some (.int .u8 (x : Int)) := by rw [zA HW2.out.1]; exact HB8.out))
 have HX : Hid (w2.drew.heap[w.heap.size]? = some (.cells KS 159 (0, 0)) ∧ Below w.heap.size w w2.drew) := Lib.hid ⟨HW2.out.1, HW2.out.2.drew⟩;clear h8 HW HW2;refine sqg [sqv (.agg KS), sqv (.int .u64 (K : Int)), sqv (.agg KS), fun v W => ∃ A n c, v = .slice A n c ∧ Byt W (fun _ => True) A n c (bp b), sqv (.agg KS), sqv (.bool true), sqv (.agg RS), sqv (.bool true)] 40 ?gmono ?gsteps ?gfin
 case gmono => exact ⟨sqm, sqm, sqm, fun _ _ _ ⟨A, n, c, h1, h2⟩ hg => ⟨A, n, c, h1, h2.below hg⟩, sqm, sqm, sqm, sqm, trivial⟩
 case gsteps =>
  show Grow.allBelow _ 8
  iterate 8 refine And.intro ?_ ?_
  exact trivial
  ·refine sqi ?_;intro E W ec eg ef hG hd hu R HR;have e4 : E (.tmp 4) = .pointer (some ⟨w.heap.size, 0, none⟩) := hu 4;clear hd hu;exact ym 159 (.tmp 4) rfl (w.heap.size) e4 KS (0, 0) ((hG.block _ (zB HX.out.1)).trans HX.out.1) Tryz.underlying159 (by rw [HS.out.1]; exact zQ) (HR.out _ _ (Below.refl _ _) rfl)
  ·exact squ 5
  ·refine sqi ?_;intro E W ec eg ef hG hd hu R HR;have e4 : E (.tmp 4) = .pointer (some ⟨w.heap.size, 0, none⟩) := hu 4;clear hd hu;exact ym 159 (.tmp 4) rfl (w.heap.size) e4 KS (0, 0) ((hG.block _ (zB HX.out.1)).trans HX.out.1) Tryz.underlying159 (by rw [HS.out.1]; exact zQ) (HR.out _ _ (Below.refl _ _) rfl)
  ·refine sqi ?_;intro E W ec eg ef hG hd hu R HR;have e33 := sqe (hd 2 33);clear hd hu;go_simp;refine (HPT.out W).mono ?_;rintro _ w' ⟨A, n, c, rfl, hy, hb⟩;exact ⟨_, rfl, HR.out _ _ hb ⟨A, n, c, rfl, hy.mono fun _ _ _ => trivial⟩⟩
  ·refine sqi ?_;intro E W ec eg ef hG hd hu R HR;have e4 : E (.tmp 4) = .pointer (some ⟨w.heap.size, 0, none⟩) := hu 4;clear hd hu;exact ym 159 (.tmp 4) rfl (w.heap.size) e4 KS (0, 0) ((hG.block _ (zB HX.out.1)).trans HX.out.1) Tryz.underlying159 (by rw [HS.out.1]; exact zQ) (HR.out _ _ (Below.refl _ _) rfl)
  ·refine sqi ?_;intro E W ec eg ef hG hd hu R HR;have e35 : E (.tmp 35) = .agg KS := hd 4 35;clear hd hu;go_simp;refine (HB9.out W).mono ?_;rintro _ w' ⟨rfl, hb⟩;exact ⟨_, rfl, HR.out _ _ hb rfl⟩
  ·refine sqi ?_;intro E W ec eg ef hG hd hu R HR;have e32 := sqe (hd 1 32);have h34 := hd 3 34;have e36 := sqe (hd 5 36);clear hd hu;obtain ⟨A, n, c, e34, hy⟩ := h34;go_simp;refine (wlay_any K HK2.out.1 hy (by rw [← hy.len]; exact HK2.out.2.2) true).mono ?_;rintro _ w' ⟨rfl, hb⟩;exact ⟨_, rfl, HR.out _ _ hb (congrArg Value.agg HRS.out.symm)⟩
  ·refine sqi ?_;intro E W ec eg ef hG hd hu R HR;have e31 := sqe (hd 0 31);have e37 := sqe (hd 6 37);clear hd hu;have hq := HQ.out W;go_simp;exact sqh HR
 case gfin =>
  intro W hG
  iterate 3 (refine Grow.fin_dst (by rfl) ?_; rintro _ rfl)
  refine Grow.fin_dst (by rfl) ?_;rintro _ ⟨_, _, _, rfl, _⟩
  iterate 4 (refine Grow.fin_dst (by rfl) ?_; rintro _ rfl)
  simp only [Act.put, sqp];refine Grow.fin_end ?_;have HF := Lib.hid (HX.out.2.trans (hG.mono HX.out.2.size));clear hG
  go_wp2_with fail
  go_ret2
  exact ⟨rfl, HF.out⟩
theorem wwhole_full_yes {w : World} {S : Nat → Prop} {A : Option Addr} {c : Nat} {b : List UInt8} (h : Byt w S A 128 c b) {K : Nat} (hk : yC (b.take 8) = K) (h0 : K ≠ 0) (h1 : b8 b = 110) (h2 : b9 b = false) (h3 : b = zU K (bp b) false) :
    Calls Tryz.prog 103 #[.slice A 128 c] w fun e w' => e = .returned (.tuple #[.int .u64 (K : Int), .bool true]) ∧ Below w.heap.size w w' := by
 have h0' : ((K : Int) == 0) = false := by simp; omega
 have hbp := bp_length h.len (by omega);have HK2 : Hid (K < 18446744073709551616 ∧ b8 b ≤ 110 ∧ (bp b).length ≤ 110) := Lib.hid ⟨by rw [← hk]; exact val8 b, by omega, by omega⟩;obtain ⟨RS, hRS⟩ := sqz (zy (zU K (bp b) false));have HRS := Lib.hid hRS;have HQ0 := wblk_eql b (zU K (bp b) false) h.len (yv K false (by omega));rw [← hRS, decide_eq_true h3] at HQ0;have hpt : ∀ w : World, Calls Tryz.prog 104 #[.agg (zy b)] w fun e w' => ∃ A n c, e = .returned (.slice A n c) ∧ Byt w' (w.heap.size ≤ ·) A n c (bp b) ∧ Below w.heap.size w w' := wpart_any b h.len (show b8 b ≤ 110 by omega)
 clear hbp hRS h3;have hz := yf;have HK : Hid (yC (b.take 8) = K ∧ b.length = 128) := Lib.hid ⟨hk, h.len⟩;obtain ⟨bb, off, rfl, _, _, hc⟩ := h.row (by omega);obtain ⟨KS, hKS⟩ := sqz (zy b);have HKS := Lib.hid hKS;have hat : ∀ w, (Instr.arrayAt 159 (.slice (some ⟨bb, off, none⟩) 128 c)).run Tryz.prog w = .ok (.pointer (some ⟨bb, off, none⟩)) w := fun w => run_arrayAt w 159 _ _ _ _ _ Tryz.underlying159 (Nat.le_refl _)
 have HA : Hid (∀ j v, KS[j]? = some v → w.cell? ((Addr.mk bb off none).add j) = some v) := Lib.hid (fun j v hj => xF h j v (by rw [hKS] at hj; simpa [zy] using hj));have HS : Hid (KS.size = 128 ∧ KS.all (·.oneCell') = true) := Lib.hid ⟨by rw [hKS, yh, h.len], by rw [hKS]; exact yx _⟩;have HN : Hid (∀ W, Below w.heap.size w W → Calls Tryz.prog 102 #[.slice (some ⟨bb, off, none⟩) 128 c] W fun e w' => e = .returned (.int .u64 (K : Int)) ∧ W = w') := Lib.hid (fun W hb => by rw [← hk]; exact yo (h.below hb) (by omega));have HG : Hid ((w.alloc (.cells zS 159)).heap[w.heap.size]? = some (.cells zS 159 (0, 0))) := Lib.hid (heap_alloc_new w _);have hb8 : KS[8]? = some (.int .u8 (b8 b : Int)) := by rw [hKS]; exact row8_at (by rw [h.len]; omega)
 have hb9 := fun W => wlast_any b h.len W
 rw [← hKS] at hb9 HQ0 hpt;have HPT := Lib.hid hpt;have HQ := Lib.hid HQ0;clear hpt HQ0;have hb9 : ∀ W, Calls Tryz.prog 105 #[.agg KS] W fun e w' => e = .returned (.bool (b9 b)) ∧ Below W.heap.size W w' := hb9
 have HB9 := Lib.hid hb9;clear hb9;clear hb9 hc hKS hk
 go_enter Tryz.func103, Tryz.ntmps103
 go_upto_region 4 with (first
  | (refine sqwa 10 HA.out Tryz.underlying159 (by rw [HS.out.1]; exact zQ) ?_)
  | (refine zl 4 11 KS HG.out (by rw [HS.out.1]; exact zQ) (by rw [HS.out.1]; exact yE) HS.out.2 ?_))
 have HW : Hid (((w.alloc (.cells zS 159)).setRow w.heap.size KS).heap[w.heap.size]? = some (.cells KS 159 (0, 0)) ∧ Below w.heap.size w ((w.alloc (.cells zS 159)).setRow w.heap.size KS)) := Lib.hid ⟨zF HG.out, zD ((Below.refl _ _).alloc (Nat.le_refl _) _) (Nat.le_refl _) _⟩;clear HG HA hz hat
 generalize (w.alloc (.cells zS 159)).setRow w.heap.size KS = w1 at *
 have hnum := HN.out w1 HW.out.2;have h8 : w1.cell? ⟨w.heap.size, 8, none⟩ = some (.int .u8 (b8 b : Int)) := by rw [zA HW.out.1]; exact hb8
 have HB8 := Lib.hid hb8;clear hb8 HN h
 generalize b8 b = x at *
 go_upto_region 5 with (go_at_call 102; refine hnum.mono ?_; clear hnum; rintro _ _ ⟨rfl, rfl⟩)
 clear h0;have hd : decide ((110 : Int) < (x : Int)) = false := decide_eq_false (by omega);have hd2 : decide ((x : Int) < 110) = false := decide_eq_false (by omega);clear h1;rw [h2] at HB9
 go_upto_region 7 with (first
  | (refine yR (by rfl) 159 (.tmp 4) (by rfl) w.heap.size (by rfl) 159 KS (0, 0) _ HW.out.1 Tryz.underlying159 (by rfl) (by rw [HS.out.1]; exact zQ) ?_)
  | (go_at_call 105; refine (HB9.out _).mono ?_; rintro _ w2 ⟨rfl, hb2⟩; have HW2 := sq2 ((hb2.block _ (zB HW.out.1)).trans HW.out.1) (HW.out.2.trans (hb2.mono HW.out.2.size)); clear hb2; have h8 : w2.cell? ⟨w.heap.size, 8, none⟩ = some (.int .u8 (x : Int)) := by rw [zA HW2.out.1]; exact HB8.out))
 have HX : Hid (w2.drew.heap[w.heap.size]? = some (.cells KS 159 (0, 0)) ∧ Below w.heap.size w w2.drew) := Lib.hid ⟨HW2.out.1, HW2.out.2.drew⟩;clear h8 HW HW2;refine sqg [sqv (.agg KS), sqv (.int .u64 (K : Int)), sqv (.agg KS), fun v W => ∃ A n c, v = .slice A n c ∧ Byt W (fun _ => True) A n c (bp b), sqv (.agg KS), sqv (.bool false), sqv (.agg RS), sqv (.bool false)] 40 ?gmono ?gsteps ?gfin
 case gmono => exact ⟨sqm, sqm, sqm, fun _ _ _ ⟨A, n, c, h1, h2⟩ hg => ⟨A, n, c, h1, h2.below hg⟩, sqm, sqm, sqm, sqm, trivial⟩
 case gsteps =>
  show Grow.allBelow _ 8
  iterate 8 refine And.intro ?_ ?_
  exact trivial
  ·refine sqi ?_;intro E W ec eg ef hG hd hu R HR;have e4 : E (.tmp 4) = .pointer (some ⟨w.heap.size, 0, none⟩) := hu 4;clear hd hu;exact ym 159 (.tmp 4) rfl (w.heap.size) e4 KS (0, 0) ((hG.block _ (zB HX.out.1)).trans HX.out.1) Tryz.underlying159 (by rw [HS.out.1]; exact zQ) (HR.out _ _ (Below.refl _ _) rfl)
  ·exact squ 5
  ·refine sqi ?_;intro E W ec eg ef hG hd hu R HR;have e4 : E (.tmp 4) = .pointer (some ⟨w.heap.size, 0, none⟩) := hu 4;clear hd hu;exact ym 159 (.tmp 4) rfl (w.heap.size) e4 KS (0, 0) ((hG.block _ (zB HX.out.1)).trans HX.out.1) Tryz.underlying159 (by rw [HS.out.1]; exact zQ) (HR.out _ _ (Below.refl _ _) rfl)
  ·refine sqi ?_;intro E W ec eg ef hG hd hu R HR;have e33 := sqe (hd 2 33);clear hd hu;go_simp;refine (HPT.out W).mono ?_;rintro _ w' ⟨A, n, c, rfl, hy, hb⟩;exact ⟨_, rfl, HR.out _ _ hb ⟨A, n, c, rfl, hy.mono fun _ _ _ => trivial⟩⟩
  ·refine sqi ?_;intro E W ec eg ef hG hd hu R HR;have e4 : E (.tmp 4) = .pointer (some ⟨w.heap.size, 0, none⟩) := hu 4;clear hd hu;exact ym 159 (.tmp 4) rfl (w.heap.size) e4 KS (0, 0) ((hG.block _ (zB HX.out.1)).trans HX.out.1) Tryz.underlying159 (by rw [HS.out.1]; exact zQ) (HR.out _ _ (Below.refl _ _) rfl)
  ·refine sqi ?_;intro E W ec eg ef hG hd hu R HR;have e35 : E (.tmp 35) = .agg KS := hd 4 35;clear hd hu;go_simp;refine (HB9.out W).mono ?_;rintro _ w' ⟨rfl, hb⟩;exact ⟨_, rfl, HR.out _ _ hb rfl⟩
  ·refine sqi ?_;intro E W ec eg ef hG hd hu R HR;have e32 := sqe (hd 1 32);have h34 := hd 3 34;have e36 := sqe (hd 5 36);clear hd hu;obtain ⟨A, n, c, e34, hy⟩ := h34;go_simp;refine (wlay_any K HK2.out.1 hy (by rw [← hy.len]; exact HK2.out.2.2) false).mono ?_;rintro _ w' ⟨rfl, hb⟩;exact ⟨_, rfl, HR.out _ _ hb (congrArg Value.agg HRS.out.symm)⟩
  ·refine sqi ?_;intro E W ec eg ef hG hd hu R HR;have e31 := sqe (hd 0 31);have e37 := sqe (hd 6 37);clear hd hu;have hq := HQ.out W;go_simp;exact sqh HR
 case gfin =>
  intro W hG
  iterate 3 (refine Grow.fin_dst (by rfl) ?_; rintro _ rfl)
  refine Grow.fin_dst (by rfl) ?_;rintro _ ⟨_, _, _, rfl, _⟩
  iterate 4 (refine Grow.fin_dst (by rfl) ?_; rintro _ rfl)
  simp only [Act.put, sqp];refine Grow.fin_end ?_;have HF := Lib.hid (HX.out.2.trans (hG.mono HX.out.2.size));clear hG
  go_wp2_with fail
  go_ret2
  exact ⟨rfl, HF.out⟩
theorem wwhole_full_no {w : World} {S : Nat → Prop} {A : Option Addr} {c : Nat} {b : List UInt8} (h : Byt w S A 128 c b) {K : Nat} (hk : yC (b.take 8) = K) (h0 : K ≠ 0) (h1 : b8 b = 110) (h2 : b9 b = false) (h3 : b ≠ zU K (bp b) false) :
    Calls Tryz.prog 103 #[.slice A 128 c] w fun e w' => e = .returned (.tuple #[.int .u64 0, .bool false]) ∧ Below w.heap.size w w' := by
 have h0' : ((K : Int) == 0) = false := by simp; omega
 have hbp := bp_length h.len (by omega);have HK2 : Hid (K < 18446744073709551616 ∧ b8 b ≤ 110 ∧ (bp b).length ≤ 110) := Lib.hid ⟨by rw [← hk]; exact val8 b, by omega, by omega⟩;obtain ⟨RS, hRS⟩ := sqz (zy (zU K (bp b) false));have HRS := Lib.hid hRS;have HQ0 := wblk_eql b (zU K (bp b) false) h.len (yv K false (by omega));rw [← hRS, decide_eq_false h3] at HQ0;have hpt : ∀ w : World, Calls Tryz.prog 104 #[.agg (zy b)] w fun e w' => ∃ A n c, e = .returned (.slice A n c) ∧ Byt w' (w.heap.size ≤ ·) A n c (bp b) ∧ Below w.heap.size w w' := wpart_any b h.len (show b8 b ≤ 110 by omega)
 clear hbp hRS h3;have hz := yf;have HK : Hid (yC (b.take 8) = K ∧ b.length = 128) := Lib.hid ⟨hk, h.len⟩;obtain ⟨bb, off, rfl, _, _, hc⟩ := h.row (by omega);obtain ⟨KS, hKS⟩ := sqz (zy b);have HKS := Lib.hid hKS;have hat : ∀ w, (Instr.arrayAt 159 (.slice (some ⟨bb, off, none⟩) 128 c)).run Tryz.prog w = .ok (.pointer (some ⟨bb, off, none⟩)) w := fun w => run_arrayAt w 159 _ _ _ _ _ Tryz.underlying159 (Nat.le_refl _)
 have HA : Hid (∀ j v, KS[j]? = some v → w.cell? ((Addr.mk bb off none).add j) = some v) := Lib.hid (fun j v hj => xF h j v (by rw [hKS] at hj; simpa [zy] using hj));have HS : Hid (KS.size = 128 ∧ KS.all (·.oneCell') = true) := Lib.hid ⟨by rw [hKS, yh, h.len], by rw [hKS]; exact yx _⟩;have HN : Hid (∀ W, Below w.heap.size w W → Calls Tryz.prog 102 #[.slice (some ⟨bb, off, none⟩) 128 c] W fun e w' => e = .returned (.int .u64 (K : Int)) ∧ W = w') := Lib.hid (fun W hb => by rw [← hk]; exact yo (h.below hb) (by omega));have HG : Hid ((w.alloc (.cells zS 159)).heap[w.heap.size]? = some (.cells zS 159 (0, 0))) := Lib.hid (heap_alloc_new w _);have hb8 : KS[8]? = some (.int .u8 (b8 b : Int)) := by rw [hKS]; exact row8_at (by rw [h.len]; omega)
 have hb9 := fun W => wlast_any b h.len W
 rw [← hKS] at hb9 HQ0 hpt;have HPT := Lib.hid hpt;have HQ := Lib.hid HQ0;clear hpt HQ0;have hb9 : ∀ W, Calls Tryz.prog 105 #[.agg KS] W fun e w' => e = .returned (.bool (b9 b)) ∧ Below W.heap.size W w' := hb9
 have HB9 := Lib.hid hb9;clear hb9;clear hb9 hc hKS hk
 go_enter Tryz.func103, Tryz.ntmps103
 go_upto_region 4 with (first
  | (refine sqwa 10 HA.out Tryz.underlying159 (by rw [HS.out.1]; exact zQ) ?_)
  | (refine zl 4 11 KS HG.out (by rw [HS.out.1]; exact zQ) (by rw [HS.out.1]; exact yE) HS.out.2 ?_))
 have HW : Hid (((w.alloc (.cells zS 159)).setRow w.heap.size KS).heap[w.heap.size]? = some (.cells KS 159 (0, 0)) ∧ Below w.heap.size w ((w.alloc (.cells zS 159)).setRow w.heap.size KS)) := Lib.hid ⟨zF HG.out, zD ((Below.refl _ _).alloc (Nat.le_refl _) _) (Nat.le_refl _) _⟩;clear HG HA hz hat
 generalize (w.alloc (.cells zS 159)).setRow w.heap.size KS = w1 at *
 have hnum := HN.out w1 HW.out.2;have h8 : w1.cell? ⟨w.heap.size, 8, none⟩ = some (.int .u8 (b8 b : Int)) := by rw [zA HW.out.1]; exact hb8
 have HB8 := Lib.hid hb8;clear hb8 HN h
 generalize b8 b = x at *
 go_upto_region 5 with (go_at_call 102; refine hnum.mono ?_; clear hnum; rintro _ _ ⟨rfl, rfl⟩)
 clear h0;have hd : decide ((110 : Int) < (x : Int)) = false := decide_eq_false (by omega);have hd2 : decide ((x : Int) < 110) = false := decide_eq_false (by omega);clear h1;rw [h2] at HB9
 go_upto_region 7 with (first
  | (refine yR (by rfl) 159 (.tmp 4) (by rfl) w.heap.size (by rfl) 159 KS (0, 0) _ HW.out.1 Tryz.underlying159 (by rfl) (by rw [HS.out.1]; exact zQ) ?_)
  | (go_at_call 105; refine (HB9.out _).mono ?_; rintro _ w2 ⟨rfl, hb2⟩; have HW2 := sq2 ((hb2.block _ (zB HW.out.1)).trans HW.out.1) (HW.out.2.trans (hb2.mono HW.out.2.size)); clear hb2; have h8 : w2.cell? ⟨w.heap.size, 8, none⟩ = some (.int .u8 (x : Int)) := by rw [zA HW2.out.1]; exact HB8.out))
 have HX : Hid (w2.drew.heap[w.heap.size]? = some (.cells KS 159 (0, 0)) ∧ Below w.heap.size w w2.drew) := Lib.hid ⟨HW2.out.1, HW2.out.2.drew⟩;clear h8 HW HW2;refine sqg [sqv (.agg KS), sqv (.int .u64 (K : Int)), sqv (.agg KS), fun v W => ∃ A n c, v = .slice A n c ∧ Byt W (fun _ => True) A n c (bp b), sqv (.agg KS), sqv (.bool false), sqv (.agg RS), sqv (.bool true)] 40 ?gmono ?gsteps ?gfin
 case gmono => exact ⟨sqm, sqm, sqm, fun _ _ _ ⟨A, n, c, h1, h2⟩ hg => ⟨A, n, c, h1, h2.below hg⟩, sqm, sqm, sqm, sqm, trivial⟩
 case gsteps =>
  show Grow.allBelow _ 8
  iterate 8 refine And.intro ?_ ?_
  exact trivial
  ·refine sqi ?_;intro E W ec eg ef hG hd hu R HR;have e4 : E (.tmp 4) = .pointer (some ⟨w.heap.size, 0, none⟩) := hu 4;clear hd hu;exact ym 159 (.tmp 4) rfl (w.heap.size) e4 KS (0, 0) ((hG.block _ (zB HX.out.1)).trans HX.out.1) Tryz.underlying159 (by rw [HS.out.1]; exact zQ) (HR.out _ _ (Below.refl _ _) rfl)
  ·exact squ 5
  ·refine sqi ?_;intro E W ec eg ef hG hd hu R HR;have e4 : E (.tmp 4) = .pointer (some ⟨w.heap.size, 0, none⟩) := hu 4;clear hd hu;exact ym 159 (.tmp 4) rfl (w.heap.size) e4 KS (0, 0) ((hG.block _ (zB HX.out.1)).trans HX.out.1) Tryz.underlying159 (by rw [HS.out.1]; exact zQ) (HR.out _ _ (Below.refl _ _) rfl)
  ·refine sqi ?_;intro E W ec eg ef hG hd hu R HR;have e33 := sqe (hd 2 33);clear hd hu;go_simp;refine (HPT.out W).mono ?_;rintro _ w' ⟨A, n, c, rfl, hy, hb⟩;exact ⟨_, rfl, HR.out _ _ hb ⟨A, n, c, rfl, hy.mono fun _ _ _ => trivial⟩⟩
  ·refine sqi ?_;intro E W ec eg ef hG hd hu R HR;have e4 : E (.tmp 4) = .pointer (some ⟨w.heap.size, 0, none⟩) := hu 4;clear hd hu;exact ym 159 (.tmp 4) rfl (w.heap.size) e4 KS (0, 0) ((hG.block _ (zB HX.out.1)).trans HX.out.1) Tryz.underlying159 (by rw [HS.out.1]; exact zQ) (HR.out _ _ (Below.refl _ _) rfl)
  ·refine sqi ?_;intro E W ec eg ef hG hd hu R HR;have e35 : E (.tmp 35) = .agg KS := hd 4 35;clear hd hu;go_simp;refine (HB9.out W).mono ?_;rintro _ w' ⟨rfl, hb⟩;exact ⟨_, rfl, HR.out _ _ hb rfl⟩
  ·refine sqi ?_;intro E W ec eg ef hG hd hu R HR;have e32 := sqe (hd 1 32);have h34 := hd 3 34;have e36 := sqe (hd 5 36);clear hd hu;obtain ⟨A, n, c, e34, hy⟩ := h34;go_simp;refine (wlay_any K HK2.out.1 hy (by rw [← hy.len]; exact HK2.out.2.2) false).mono ?_;rintro _ w' ⟨rfl, hb⟩;exact ⟨_, rfl, HR.out _ _ hb (congrArg Value.agg HRS.out.symm)⟩
  ·refine sqi ?_;intro E W ec eg ef hG hd hu R HR;have e31 := sqe (hd 0 31);have e37 := sqe (hd 6 37);clear hd hu;have hq := HQ.out W;go_simp;exact sqh HR
 case gfin =>
  intro W hG
  iterate 3 (refine Grow.fin_dst (by rfl) ?_; rintro _ rfl)
  refine Grow.fin_dst (by rfl) ?_;rintro _ ⟨_, _, _, rfl, _⟩
  iterate 4 (refine Grow.fin_dst (by rfl) ?_; rintro _ rfl)
  simp only [Act.put, sqp];refine Grow.fin_end ?_;have HF := Lib.hid (HX.out.2.trans (hG.mono HX.out.2.size));clear hG
  go_wp2_with fail
  go_ret2
  exact ⟨rfl, HF.out⟩
theorem wwhole_any {w : World} {S : Nat → Prop} {A : Option Addr} {n c : Nat} {b : List UInt8} (h : Byt w S A n c b) (hn : n ≤ 1000000) :
    Calls Tryz.prog 103 #[.slice A n c] w fun e w' => e = .returned (.tuple #[.int .u64 ((ze b).1 : Int), .bool (decide (0 < (ze b).1))]) ∧ Below w.heap.size w w' := by
 by_cases h0 : n = 128
 ·subst h0;have hl := h.len;rw [readL_tests hl]
  by_cases hk : yC (b.take 8) = 0
  ·rw [if_pos (.inl hk)];exact wwhole_zero h hk
  ·by_cases h1 : 110 < b8 b
   ·rw [if_pos (.inr (.inl h1))];exact wwhole_great h rfl hk h1
   ·cases h2 : b9 b with
    | true =>
      rw [if_neg (by simp; omega)]
      by_cases h3 : b = zU (yC (b.take 8)) (bp b) true
      ·rw [if_pos h3, decide_eq_true (by omega)];exact wwhole_last_yes h rfl hk (by omega) h2 h3
      ·rw [if_neg h3];exact wwhole_last_no h rfl hk (by omega) h2 h3
    | false =>
      by_cases h4 : b8 b < 110
      ·rw [if_pos (.inr (.inr ⟨rfl, h4⟩))];exact wwhole_more h rfl hk h4 h2
      ·rw [if_neg (by simp; omega)]
       by_cases h3 : b = zU (yC (b.take 8)) (bp b) false
       ·rw [if_pos h3, decide_eq_true (by omega)];exact wwhole_full_yes h rfl hk (by omega) h2 h3
       ·rw [if_neg h3];exact wwhole_full_no h rfl hk (by omega) h2 h3
 ·rw [readL_no (.inl (by rw [h.len]; exact h0))];refine (wwhole_short h0).mono ?_;rintro _ w' ⟨rfl, rfl⟩;exact ⟨rfl, Below.refl _ _⟩
end Go.Proofs.YtmioifcbkhpdaaaGreat
