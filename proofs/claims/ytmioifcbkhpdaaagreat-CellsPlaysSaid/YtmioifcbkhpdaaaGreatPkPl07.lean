/-
  The code's disk: what stands in memory, and what each of its methods does.
-/
import Derived.Test.YtmioifcbkhpdaaaGreatPkPl06
import Derived.Test.YtmioifcbkhpdaaaGreatPkPl04
import Derived.Test.YtmioifcbkhpdaaaGreatPkPl02
import Derived.Test.YtmioifcbkhpdaaaGreatPkPl01
namespace Go.Proofs.YtmioifcbkhpdaaaGreat
set_option maxHeartbeats 16000000
set_option maxRecDepth 100000
open Go.RowKit
/-! The reference: Number, Value, Blocks. -/
theorem bes_step (N j : Nat) : N / 256 ^ j / 256 = N / 256 ^ (j + 1) := by rw [Nat.div_div_eq_div_mul, Nat.pow_succ]
def RWn (w1 : World) (N : Nat) (x v i : Value) (wr : World) : Prop := ∃ j : Nat, j ≤ 8 ∧ i = .int .i64 (j : Int) ∧ x = .int .u64 ((N / 256 ^ j : Nat) : Int) ∧ v = .string (st (besL N j)) ∧ Below w1.heap.size w1 wr
theorem rwnumber_any (N : Nat) (hN : N < 18446744073709551616) (w : World) :
    Calls Tryz.prog 98 #[.int .u64 (N : Int)] w fun e w' => e = .returned (.string (st (numL N))) ∧ Below w.heap.size w w' := by
 have HN := Lib.hid (fun (_ : Unit) => hN);clear hN
 go_enter Tryz.func98, Tryz.ntmps98
 go_wp2_with fail
 go_loopw [0, 3, 4] (fun x v i wr => RWn w N x v i wr) (fun _ _ i _ => 8 - (intOf i).toNat)
 case atStart => exact ⟨0, Nat.zero_le _, rfl, by simp, rfl, Below.refl _ _⟩
 case round =>
  obtain ⟨j, hj, rfl, rfl, rfl, hbr⟩ := hrel;have HBR := Lib.hid hbr;clear hbr
  by_cases hlt : j < 8
  ·obtain ⟨Y, hY⟩ := sqz (N / 256 ^ j);obtain ⟨b, hb⟩ := sqz (UInt8.ofNat Y);(have hbs : besL N (j + 1) = b :: besL N j := by rw [besL, hb, hY]);(have hmb : (Y : Int) % 256 = (b.toNat : Int) := by rw [hb, UInt8.toNat_ofNat']; omega);(have hb8 : IntKind.u8.wrap (b.toNat : Int) = (b.toNat : Int) := by rw [IntKind.wrap_u8]; have := b.toNat_lt; omega);have hadd := IntWalk.i64_in ((j : Int) + 1) (by omega);rw [← hY];obtain ⟨S, hS⟩ := sqz (st (besL N j));rw [← hS];have hcv : (convert 54 9 (.slice (some ⟨wr.heap.size, 0, none⟩) 1 1)).run Tryz.prog (wr.alloc (.cells #[.int .u8 (b.toNat : Int)] 5)) = .ok (.string (st [b])) (wr.alloc (.cells #[.int .u8 (b.toNat : Int)] 5)) := yM (byt_new (w := wr) [b] 5 (0, 0) (by simp));(have hsz : ¬ 9223372036854775807 < (st [b]).size + S.size := by rw [hS, zN, zN, besL_length]; simp; omega);have HS : Hid (st [b] ++ S = st (besL N (j + 1))) := Lib.hid (by rw [hS, xA, hbs]; rfl);have HY := Lib.hid (fun (_ : Unit) => hY);have hB : Below w.heap.size w (wr.alloc (.cells #[.int .u8 (b.toNat : Int)] 5)) := HBR.out.alloc HBR.out.size _;have HB := Lib.hid hB;clear hY hb hbs hS hB
   (generalize hSB : st [b] = SB at *);clear hSB
   go_wp2_with fail
   go_roundw
   case rel => unfold RWn; exact ⟨j + 1, by omega, by simp, by rw [← bes_step, ← HY.out (), IntWalk.u64_in _ (by have h1 := HN.out (); have h2 := HY.out (); have h3 : Y ≤ N := (by rw [h2]; exact Nat.div_le_self _ _); omega)]; rfl, by rw [HS.out], HB.out⟩
   case measure => simp only [intOf]; omega
  ·(obtain rfl : j = 8 := by omega);clear hlt hj
   go_wp2_with fail
   go_ret
   exact ⟨rfl, HBR.out⟩
theorem val_small {l : List UInt8} {j : Nat} (h : l.length ≤ 8) (hj : j < l.length) : yC (l.take j) * 256 + 255 < 18446744073709551616 := by
 have h1 := valL_lt (l.take j);have h2 : (l.take j).length ≤ 7 := by rw [List.length_take]; omega
 have h3 : 256 ^ (l.take j).length ≤ 256 ^ 7 := Nat.pow_le_pow_right (by omega) h2;have h4 : (256 : Nat) ^ 7 = 72057594037927936 := by decide
 omega
def RWv (w1 : World) (l : List UInt8) (n i : Value) (wr : World) : Prop := ∃ j : Nat, j ≤ l.length ∧ i = .int .i64 (j : Int) ∧ n = .int .u64 (yC (l.take j) : Int) ∧ wr = w1
theorem rwvalue_any (l : List UInt8) (hl : l.length ≤ 8) (w : World) :
    Calls Tryz.prog 57 #[.string (st l)] w fun e w' => e = .returned (.int .u64 (yC l : Int)) ∧ w = w' := by
 have hsz := zN l;have HL := Lib.hid hl;clear hl
 go_enter Tryz.func57, Tryz.ntmps57
 go_wp2_with fail
 go_loopw [3, 4] (fun n i wr => RWv w l n i wr) (fun _ i _ => l.length - (intOf i).toNat)
 case atStart => exact ⟨0, Nat.zero_le _, rfl, by simp [yC], rfl⟩
 case round =>
  obtain ⟨j, hj, rfl, rfl, rfl⟩ := hrel
  by_cases hlt : j < l.length
  ·(have hlt' : (j : Int) < (l.length : Int) := by omega);have hsm := val_small HL.out hlt;have hix := sti_at 9 Tryz.underlying9 l wr j hlt;obtain ⟨V, hV⟩ := sqz (yC (l.take j));obtain ⟨b, hb⟩ := sqz (l[j]?.getD 0)
   have hnx : yC (l.take (j + 1)) = V * 256 + b.toNat := by
    rw [List.take_succ_eq_append_getElem hlt, valL_snoc, hV, hb, List.getElem?_eq_getElem hlt];rfl
   rw [← hV] at hsm ⊢;rw [← hb] at hix;have hb2 := b.toNat_lt;have hm := IntWalk.u64_in ((V : Int) * 256) (by omega);have hb64 := IntWalk.u64_in (b.toNat : Int) (by omega);have hs := IntWalk.u64_in ((V : Int) * 256 + (b.toNat : Int)) (by omega);have hadd := IntWalk.i64_in ((j : Int) + 1) (by have := HL.out; omega);have HX := sq2 hlt hnx;clear hV hb hnx hsm hj hlt
   go_wp2_with fail
   go_roundw
   case rel => unfold RWv; exact ⟨j + 1, HX.out.1, by simp, by rw [HX.out.2]; simp, rfl⟩
   case measure => simp only [intOf]; have := HX.out.1; omega
  ·(have hlt' : ¬ (j : Int) < (l.length : Int) := by omega);have HE : Hid (l.take j = l) := Lib.hid (List.take_of_length_le (by omega));clear hlt hj
   go_wp2_with fail
   go_ret
   exact ⟨by rw [HE.out]; rfl, rfl⟩
def RWb (w1 : World) (n : Int) (k : Value) (wr : World) : Prop := ∃ j : Nat, 1 ≤ j ∧ j ≤ 1000000 ∧ (j = 1 ∨ 110 * ((j : Int) - 1) < n) ∧ k = .int .i64 (j : Int) ∧ wr = w1
theorem xB (n : Int) (hn : n ≤ 1000000) (w : World) :
    Calls Tryz.prog 40 #[.int .i64 n] w fun e w' => e = .returned (.int .i64 (zP n.toNat : Int)) ∧ w = w' := by
 have HN := Lib.hid hn;clear hn
 go_enter Tryz.func40, Tryz.ntmps40
 go_wp2_with fail
 go_loopw [3] (fun k wr => RWb w n k wr) (fun k _ => 1000000 - (intOf k).toNat)
 case atStart => exact ⟨1, Nat.le_refl _, by omega, .inl rfl, rfl, rfl⟩
 case round =>
  obtain ⟨j, h1, h2, h3, rfl, rfl⟩ := hrel;have hm := IntWalk.i64_in (110 * (j : Int)) (by omega);have hadd := IntWalk.i64_in ((j : Int) + 1) (by omega);have HH := sq3 h1 h2 h3;clear h1 h2 h3
  by_cases hlt : 110 * (j : Int) < n
  ·have HJ : Hid (j + 1 ≤ 1000000 ∧ 110 * (((j + 1 : Nat) : Int) - 1) < n ∧ j < 1000000) := Lib.hid ⟨by have := HN.out; omega, by omega, by have := HN.out; omega⟩
   go_wp2_with fail
   go_roundw
   case rel => unfold RWb; exact ⟨j + 1, by omega, HJ.out.1, .inr HJ.out.2.1, by simp, rfl⟩
   case measure => simp only [intOf]; have := HJ.out.2.2; omega
  ·have HE : Hid (zP n.toNat = j) := Lib.hid (blocksN_at _ _ (by omega) (by have h0 := HH.out.1; rcases HH.out.2.2 with h | h; exact .inl h; exact .inr (by omega)) HH.out.1)
   go_wp2_with fail
   go_ret
   exact ⟨by rw [HE.out]; rfl, rfl⟩
/-! The reference: Block (the last one). -/
def RBl (w0 : World) (HD : List UInt8) (m : Nat) (s : Value) (wr : World) : Prop := ∃ j : Nat, j ≤ 110 - m ∧ s = .string (st (HD ++ List.replicate j 0)) ∧ Below w0.heap.size w0 wr
def sizeOf' : Value → Nat
 | .string s => s.size
 | _ => 0
def Sl2 (l : List UInt8) (v : Value) (W : World) : Prop := ∃ A n c, v = .slice A n c ∧ Byt W (fun _ => True) A n c l
theorem Sl2.below {l : List UInt8} {v : Value} {W W' : World} (h : Sl2 l v W) (hb : Below W.heap.size W W') : Sl2 l v W' := by
 obtain ⟨A, n, c, h1, h2⟩ := h;exact ⟨A, n, c, h1, h2.below hb⟩
theorem rwblock_last (N : Nat) (hN : N < 18446744073709551616) (part : List UInt8) (hp : part.length ≤ 110) (w : World) :
    Calls Tryz.prog 72 #[.int .u64 (N : Int), .string (st part), .bool true] w fun e w' => e = .returned (.string (st (zU N part true))) ∧ Below w.heap.size w w' := by
 have HNU := Lib.hid (fun W : World => rwnumber_any N hN W);obtain ⟨lb, hlb⟩ := sqz (UInt8.ofNat part.length);have hlt : (lb.toNat : Int) = (part.length : Int) := by rw [hlb, UInt8.toNat_ofNat']; omega
 have hw8 : IntKind.u8.wrap (part.length : Int) = (lb.toNat : Int) := by rw [IntKind.wrap_u8, hlt]; omega
 obtain ⟨HD, hHD⟩ := sqz (numL N ++ [lb, 1] ++ part);have hHl : HD.length = 10 + part.length := by rw [hHD]; simp [zV]; omega
 have hbl : zU N part true = HD ++ List.replicate (110 - part.length) 0 ++ numL N := by rw [hHD, zU, hlb]; rfl
 obtain ⟨SN, hSN⟩ := sqz (st (numL N));obtain ⟨SX, hSX⟩ := sqz (st [lb, 1]);obtain ⟨SP, hSP⟩ := sqz (st part);have hs1 : ¬ 9223372036854775807 < SN.size + SX.size := by rw [hSN, hSX, zN, zN, zV]; simp
 have hs2 : ¬ 9223372036854775807 < SN.size + SX.size + SP.size := by rw [hSN, hSX, hSP, zN, zN, zN, zV]; simp; omega
 have hS3 : SN ++ SX ++ SP = st HD := by rw [hSN, hSX, hSP, xA, xA, hHD]
 have hpz : (SP.size : Int) = (part.length : Int) := by rw [hSP, zN]
 rw [← hSN] at HNU;have HP := sq6 hSX hS3 hHl hbl hSN hp;rw [← hSP];clear hlt hlb hHD hSN hSX hS3 hHl hbl hp hN hSP
 go_enter Tryz.func72, Tryz.ntmps72
 go_upto_region 4 with fail
 refine sqg [sqv (.int .u64 (N : Int)), sqv (.string SN), sqv (.string SP), sqv (.int .i64 (part.length : Int)), sqv (.int .u8 (lb.toNat : Int)), sqv (.int .u8 1), Sl2 [lb, 1], sqv (.string SX), sqv (.string (SN ++ SX)), sqv (.string SP), sqv (.string (SN ++ SX ++ SP)), sqv (.string (SN ++ SX ++ SP))] 30 ?gmono ?gsteps ?gfin
 case gmono => exact ⟨sqm, sqm, sqm, sqm, sqm, sqm, fun _ _ _ h hg => h.below hg, sqm, sqm, sqm, sqm, sqm, trivial⟩
 case gsteps =>
  show Grow.allBelow _ 12
  iterate 12 refine And.intro ?_ ?_
  exact trivial
  ·exact squ 0
  ·refine sqi ?_;intro E W ec eg ef hG hd hu R HR1;have e10 := sqe (hd 0 10);clear hd hu;go_simp;refine (HNU.out _).mono ?_;rintro _ w' ⟨rfl, hb4⟩;exact ⟨_, rfl, HR1.out _ _ hb4 rfl⟩
  ·exact squ 1
  ·refine sqi ?_;intro E W ec eg ef hG hd hu R HR1;have e12 := sqe (hd 2 12);clear hd hu;go_simp;exact sqh HR1
  ·refine sqi ?_;intro E W ec eg ef hG hd hu R HR1;have e13 := sqe (hd 3 13);clear hd hu;go_simp;exact sqh HR1
  ·exact squ 7
  ·refine sqi ?_;intro E W ec eg ef hG hd hu R HR1;have e14 := sqe (hd 4 14);have e15 := sqe (hd 5 15);clear hd hu;go_simp;exact HR1.out _ _ ((Below.refl _ _).alloc (Nat.le_refl _) _) ⟨_, _, _, rfl, byt_new (w := W) [lb, 1] 5 (0, 0) (by simp)⟩
  ·refine sqi ?_;intro E W ec eg ef hG hd hu R HR1;have h16 := hd 6 16;clear hd hu;obtain ⟨A4, n4, c4, e16, hy4⟩ := h16;have hcv := yM hy4;rw [show (⟨[lb, 1].toArray⟩ : ByteArray) = SX from HP.out.1.symm] at hcv;go_simp;exact sqh HR1
  ·refine sqi ?_;intro E W ec eg ef hG hd hu R HR1;have e11 := sqe (hd 1 11);have e17 := sqe (hd 7 17);clear hd hu;go_simp
   first | exact sqh HR1 | (rw [if_neg hs1]; exact sqh HR1)
  ·exact squ 1
  ·refine sqi ?_;intro E W ec eg ef hG hd hu R HR1;have e18 := sqe (hd 8 18);have e19 := sqe (hd 9 19);clear hd hu;go_simp
   first | exact sqh HR1 | (rw [if_neg hs2]; exact sqh HR1)
  ·exact sqd 10 20
 case gfin =>
  intro W hG
  iterate 6 (refine Grow.fin_dst (by rfl) ?_; rintro _ rfl)
  refine Grow.fin_dst (by rfl) ?_;rintro _ ⟨Af, nf, cf, rfl, _⟩
  iterate 5 (refine Grow.fin_dst (by rfl) ?_; rintro _ rfl)
  simp only [Act.put, sqp];refine Grow.fin_end ?_;have HW := Lib.hid (Grow.below_of_drew hG);clear hG;rw [HP.out.2.1]
  go_wp2_with fail
  go_loopw [8] (fun s wr => RBl w HD part.length s wr) (fun s _ => 120 - (sizeOf' s))
  case atStart => exact ⟨0, Nat.zero_le _, by simp, HW.out⟩
  case round =>
   obtain ⟨j, hj, rfl, hbr⟩ := hrel;obtain ⟨S, hS⟩ := sqz (st (HD ++ List.replicate j 0));(have hSs : S.size = 10 + part.length + j := by rw [hS, zN, List.length_append, List.length_replicate, HP.out.2.2.1]);rw [← hS];have HBR := sq3 hbr hS hSs;have hp := HP.out.2.2.2.2.2
   by_cases hlt2 : j < 110 - part.length
   ·(have hlt3 : (S.size : Int) < 120 := by omega);(have hs4 : ¬ 9223372036854775807 < S.size + 1 := by omega);(have hap : S ++ ⟨#[0]⟩ = st (HD ++ List.replicate (j + 1) 0) := by rw [hS, show (⟨#[0]⟩ : ByteArray) = st [0] from rfl, xA, List.append_assoc, List.replicate_succ']);have HA := sq3 hap hlt2 hp;clear hbr hS hSs hap hj hlt2 hp
    go_wp2_with fail
    go_roundw
    case rel => unfold RBl; exact ⟨j + 1, by have := HA.out.2.1; omega, by rw [HA.out.1], HBR.out.1⟩
    case measure => rw [HA.out.1]; simp only [sizeOf', zN, List.length_append, List.length_replicate, HBR.out.2.2, HP.out.2.2.1]; have := HA.out.2; omega
   ·(have hlt3 : ¬ (S.size : Int) < 120 := by omega);(have hs5 : ¬ 9223372036854775807 < S.size + SN.size := by rw [HP.out.2.2.2.2.1, zN, zV]; omega);have HE : Hid (S ++ SN = st (zU N part true)) := Lib.hid (by rw [hS, HP.out.2.2.2.2.1, xA, HP.out.2.2.2.1, show j = 110 - part.length by omega]);clear hbr hS hSs hj hlt2 hp
    go_wp2_with (go_at_call 98; refine (HNU.out _).mono ?_; rintro _ w5 ⟨rfl, hb5⟩)
    go_ret
    exact ⟨by rw [← HE.out]; rfl, HBR.out.1.trans (hb5.mono HBR.out.1.size)⟩
/-! The reference: Block (one of more). -/
theorem rwblock_more (N : Nat) (hN : N < 18446744073709551616) (part : List UInt8) (hp : part.length ≤ 110) (w : World) :
    Calls Tryz.prog 72 #[.int .u64 (N : Int), .string (st part), .bool false] w fun e w' => e = .returned (.string (st (zU N part false))) ∧ Below w.heap.size w w' := by
 have HNU := Lib.hid (fun W : World => rwnumber_any N hN W);obtain ⟨lb, hlb⟩ := sqz (UInt8.ofNat part.length);have hlt : (lb.toNat : Int) = (part.length : Int) := by rw [hlb, UInt8.toNat_ofNat']; omega
 have hw8 : IntKind.u8.wrap (part.length : Int) = (lb.toNat : Int) := by rw [IntKind.wrap_u8, hlt]; omega
 obtain ⟨HD, hHD⟩ := sqz (numL N ++ [lb, 0] ++ part);have hHl : HD.length = 10 + part.length := by rw [hHD]; simp [zV]; omega
 have hbl : zU N part false = HD ++ List.replicate (110 - part.length) 0 ++ numL N := by rw [hHD, zU, hlb]; rfl
 obtain ⟨SN, hSN⟩ := sqz (st (numL N));obtain ⟨SX, hSX⟩ := sqz (st [lb, 0]);obtain ⟨SP, hSP⟩ := sqz (st part);have hs1 : ¬ 9223372036854775807 < SN.size + SX.size := by rw [hSN, hSX, zN, zN, zV]; simp
 have hs2 : ¬ 9223372036854775807 < SN.size + SX.size + SP.size := by rw [hSN, hSX, hSP, zN, zN, zN, zV]; simp; omega
 have hS3 : SN ++ SX ++ SP = st HD := by rw [hSN, hSX, hSP, xA, xA, hHD]
 have hpz : (SP.size : Int) = (part.length : Int) := by rw [hSP, zN]
 rw [← hSN] at HNU;have HP := sq6 hSX hS3 hHl hbl hSN hp;rw [← hSP];clear hlt hlb hHD hSN hSX hS3 hHl hbl hp hN hSP
 go_enter Tryz.func72, Tryz.ntmps72
 go_upto_region 4 with fail
 refine sqg [sqv (.int .u64 (N : Int)), sqv (.string SN), sqv (.string SP), sqv (.int .i64 (part.length : Int)), sqv (.int .u8 (lb.toNat : Int)), sqv (.int .u8 0), Sl2 [lb, 0], sqv (.string SX), sqv (.string (SN ++ SX)), sqv (.string SP), sqv (.string (SN ++ SX ++ SP)), sqv (.string (SN ++ SX ++ SP))] 30 ?gmono ?gsteps ?gfin
 case gmono => exact ⟨sqm, sqm, sqm, sqm, sqm, sqm, fun _ _ _ h hg => h.below hg, sqm, sqm, sqm, sqm, sqm, trivial⟩
 case gsteps =>
  show Grow.allBelow _ 12
  iterate 12 refine And.intro ?_ ?_
  exact trivial
  ·exact squ 0
  ·refine sqi ?_;intro E W ec eg ef hG hd hu R HR1;have e10 := sqe (hd 0 10);clear hd hu;go_simp;refine (HNU.out _).mono ?_;rintro _ w' ⟨rfl, hb4⟩;exact ⟨_, rfl, HR1.out _ _ hb4 rfl⟩
  ·exact squ 1
  ·refine sqi ?_;intro E W ec eg ef hG hd hu R HR1;have e12 := sqe (hd 2 12);clear hd hu;go_simp;exact sqh HR1
  ·refine sqi ?_;intro E W ec eg ef hG hd hu R HR1;have e13 := sqe (hd 3 13);clear hd hu;go_simp;exact sqh HR1
  ·exact squ 7
  ·refine sqi ?_;intro E W ec eg ef hG hd hu R HR1;have e14 := sqe (hd 4 14);have e15 := sqe (hd 5 15);clear hd hu;go_simp;exact HR1.out _ _ ((Below.refl _ _).alloc (Nat.le_refl _) _) ⟨_, _, _, rfl, byt_new (w := W) [lb, 0] 5 (0, 0) (by simp)⟩
  ·refine sqi ?_;intro E W ec eg ef hG hd hu R HR1;have h16 := hd 6 16;clear hd hu;obtain ⟨A4, n4, c4, e16, hy4⟩ := h16;have hcv := yM hy4;rw [show (⟨[lb, 0].toArray⟩ : ByteArray) = SX from HP.out.1.symm] at hcv;go_simp;exact sqh HR1
  ·refine sqi ?_;intro E W ec eg ef hG hd hu R HR1;have e11 := sqe (hd 1 11);have e17 := sqe (hd 7 17);clear hd hu;go_simp
   first | exact sqh HR1 | (rw [if_neg hs1]; exact sqh HR1)
  ·exact squ 1
  ·refine sqi ?_;intro E W ec eg ef hG hd hu R HR1;have e18 := sqe (hd 8 18);have e19 := sqe (hd 9 19);clear hd hu;go_simp
   first | exact sqh HR1 | (rw [if_neg hs2]; exact sqh HR1)
  ·exact sqd 10 20
 case gfin =>
  intro W hG
  iterate 6 (refine Grow.fin_dst (by rfl) ?_; rintro _ rfl)
  refine Grow.fin_dst (by rfl) ?_;rintro _ ⟨Af, nf, cf, rfl, _⟩
  iterate 5 (refine Grow.fin_dst (by rfl) ?_; rintro _ rfl)
  simp only [Act.put, sqp];refine Grow.fin_end ?_;have HW := Lib.hid (Grow.below_of_drew hG);clear hG;rw [HP.out.2.1]
  go_wp2_with fail
  go_loopw [8] (fun s wr => RBl w HD part.length s wr) (fun s _ => 120 - (sizeOf' s))
  case atStart => exact ⟨0, Nat.zero_le _, by simp, HW.out⟩
  case round =>
   obtain ⟨j, hj, rfl, hbr⟩ := hrel;obtain ⟨S, hS⟩ := sqz (st (HD ++ List.replicate j 0));(have hSs : S.size = 10 + part.length + j := by rw [hS, zN, List.length_append, List.length_replicate, HP.out.2.2.1]);rw [← hS];have HBR := sq3 hbr hS hSs;have hp := HP.out.2.2.2.2.2
   by_cases hlt2 : j < 110 - part.length
   ·(have hlt3 : (S.size : Int) < 120 := by omega);(have hs4 : ¬ 9223372036854775807 < S.size + 1 := by omega);(have hap : S ++ ⟨#[0]⟩ = st (HD ++ List.replicate (j + 1) 0) := by rw [hS, show (⟨#[0]⟩ : ByteArray) = st [0] from rfl, xA, List.append_assoc, List.replicate_succ']);have HA := sq3 hap hlt2 hp;clear hbr hS hSs hap hj hlt2 hp
    go_wp2_with fail
    go_roundw
    case rel => unfold RBl; exact ⟨j + 1, by have := HA.out.2.1; omega, by rw [HA.out.1], HBR.out.1⟩
    case measure => rw [HA.out.1]; simp only [sizeOf', zN, List.length_append, List.length_replicate, HBR.out.2.2, HP.out.2.2.1]; have := HA.out.2; omega
   ·(have hlt3 : ¬ (S.size : Int) < 120 := by omega);(have hs5 : ¬ 9223372036854775807 < S.size + SN.size := by rw [HP.out.2.2.2.2.1, zN, zV]; omega);have HE : Hid (S ++ SN = st (zU N part false)) := Lib.hid (by rw [hS, HP.out.2.2.2.2.1, xA, HP.out.2.2.2.1, show j = 110 - part.length by omega]);clear hbr hS hSs hj hlt2 hp
    go_wp2_with (go_at_call 98; refine (HNU.out _).mono ?_; rintro _ w5 ⟨rfl, hb5⟩)
    go_ret
    exact ⟨by rw [← HE.out]; rfl, HBR.out.1.trans (hb5.mono HBR.out.1.size)⟩
/-! The reference: Read. -/
theorem rwblock_any (N : Nat) (hN : N < 18446744073709551616) (part : List UInt8) (hp : part.length ≤ 110) (e : Bool) (w : World) :
    Calls Tryz.prog 72 #[.int .u64 (N : Int), .string (st part), .bool e] w fun r w' => r = .returned (.string (st (zU N part e))) ∧ Below w.heap.size w w' := by
 cases e
 ·exact rwblock_more N hN part hp w
 ·exact rwblock_last N hN part hp w
theorem yc {fn : Func} {t u v : Tmp} (h : fn.results = #[.tmp t, .tmp u, .tmp v]) (tmps : Array Value) (P : Program) (w : World) :
    (results fn tmps).run P w = .ok (.tuple #[tmps.getD t undef, tmps.getD u undef, tmps.getD v undef]) w := by
 simp [results, h]
theorem readL_no {b : List UInt8} (h : b.length ≠ 128 ∨ 110 < (b[8]?.getD 0).toNat ∨ 1 < (b[9]?.getD 0).toNat) : ze b = (0, [], false) := by rw [ze, if_pos h]
theorem readL_odd {b : List UInt8} (h : ¬ (b.length ≠ 128 ∨ 110 < (b[8]?.getD 0).toNat ∨ 1 < (b[9]?.getD 0).toNat)) (h2 : zU (yC (b.take 8)) ((b.drop 10).take (b[8]?.getD 0).toNat) (decide ((b[9]?.getD 0).toNat = 1)) ≠ b ∨ (b[9]?.getD 0).toNat = 0 ∧ ((b.drop 10).take (b[8]?.getD 0).toNat).length < 110) : ze b = (0, [], false) := by
 rw [ze, if_neg h];simp only;rw [if_pos h2]
theorem readL_yes {b : List UInt8} (h : ¬ (b.length ≠ 128 ∨ 110 < (b[8]?.getD 0).toNat ∨ 1 < (b[9]?.getD 0).toNat)) (h2 : ¬ (zU (yC (b.take 8)) ((b.drop 10).take (b[8]?.getD 0).toNat) (decide ((b[9]?.getD 0).toNat = 1)) ≠ b ∨ (b[9]?.getD 0).toNat = 0 ∧ ((b.drop 10).take (b[8]?.getD 0).toNat).length < 110)) : ze b = (yC (b.take 8), (b.drop 10).take (b[8]?.getD 0).toNat, decide ((b[9]?.getD 0).toNat = 1)) := by
 rw [ze, if_neg h];simp only;rw [if_neg h2]
theorem rwread_any (b : List UInt8) (w : World) :
    Calls Tryz.prog 58 #[.string (st b)] w fun e w' => e = .returned (.tuple #[.int .u64 ((ze b).1 : Int), .string (st (ze b).2.1), .bool (ze b).2.2]) ∧ Below w.heap.size w w' := by
 have hsz := zN b
 by_cases h1 : b.length = 128
 ·rw [h1] at hsz;have hx8 := st_index 9 Tryz.underlying9 b w 8 8 rfl (by omega);have hx9 := st_index 9 Tryz.underlying9 b w 9 9 rfl (by omega);obtain ⟨L, hL⟩ := sqz ((b[8]?.getD 0).toNat);obtain ⟨F, hF⟩ := sqz ((b[9]?.getD 0).toNat);rw [← hL] at hx8;rw [← hF] at hx9;have hL2 : L < 256 := by rw [hL]; exact UInt8.toNat_lt _
  have HLF := sq4 hL hF h1 hL2
  by_cases h2 : 110 < L
  ·(have h2' : (110 : Int) < (L : Int) := by omega);have HR : Hid (ze b = (0, [], false)) := Lib.hid (readL_no (.inr (.inl (by omega))))
   (generalize st b = SB at *);clear hL hF hL2 h1 h2
   go_enter Tryz.func58, Tryz.ntmps58
   go_wp2
   refine bodyPost_ret (yc rfl _ _ _) rfl ?_;exact ⟨by rw [HR.out]; rfl, Below.refl _ _⟩
  ·have h2' : ¬ (110 : Int) < (L : Int) := by omega
   by_cases h3 : 1 < F
   ·(have h3' : (1 : Int) < (F : Int) := by omega);have HR : Hid (ze b = (0, [], false)) := Lib.hid (readL_no (.inr (.inr (by omega))))
    (generalize st b = SB at *);clear hL hF hL2 h1 h2 h3
    go_enter Tryz.func58, Tryz.ntmps58
    go_wp2
    refine bodyPost_ret (yc rfl _ _ _) rfl ?_;exact ⟨by rw [HR.out]; rfl, Below.refl _ _⟩
   ·(have h3' : ¬ (1 : Int) < (F : Int) := by omega);obtain ⟨V, hV⟩ := sqz (yC (b.take 8));obtain ⟨PT, hPT⟩ := sqz ((b.drop 10).take L);(have hPl : PT.length = L := by rw [hPT, List.length_take, List.length_drop]; omega)
    have hVl : V < 18446744073709551616 := by
     have := valL_lt (b.take 8);rw [List.length_take, h1] at this;rw [hV];exact this
    have hto := st_to 9 Tryz.underlying9 b w 8 8 rfl (by omega);have hmid := st_mid 9 Tryz.underlying9 b w 10 (10 + L) 10 (10 + (L : Int)) rfl (by omega) (by omega) (by omega);rw [show (b.drop 10).take (10 + L - 10) = PT by rw [hPT, show 10 + L - 10 = L by omega]] at hmid;have hva := rwvalue_any (b.take 8) (by rw [List.length_take]; omega) w;rw [← hV] at hva;have hLi := IntWalk.i64_in (L : Int) (by omega);have hLs := IntWalk.i64_in (10 + (L : Int)) (by omega);have hps := zN PT;obtain ⟨SB, hSB⟩ := sqz (st b);obtain ⟨S8, hS8⟩ := sqz (st (b.take 8));obtain ⟨SP, hSP⟩ := sqz (st PT);have HX9 := Lib.hid (fun W : World => st_index 9 Tryz.underlying9 b W 9 9 rfl (by omega));rw [← hF] at HX9;rw [← hSB] at hx8 hx9 hto hmid hsz ⊢;rw [← hSB] at HX9;rw [← hS8] at hto hva;rw [← hSP] at hmid hps;rw [hPl] at hps;(have hrd : ∀ e : Bool, decide (F = 1) = e → (zU V PT e ≠ b ∨ F = 0 ∧ L < 110) → ze b = (0, [], false) := fun e he hh => readL_odd (by omega) (by rw [← hF, ← hL, ← hPT, ← hV, he, hPl]; exact hh))
    have hry : ∀ e : Bool, decide (F = 1) = e → ¬ (zU V PT e ≠ b ∨ F = 0 ∧ L < 110) → ze b = (V, PT, e) := fun e he hh => by
     rw [readL_yes (by omega) (by rw [← hF, ← hL, ← hPT, ← hV, he, hPl]; exact hh), ← hF, ← hL, ← hPT, ← hV, he]
    (have hbkk := fun e : Bool => fun W : World => rwblock_any V hVl PT (by omega) e W);rw [← hSP] at hbkk;have HRD := sq5 hrd hry hbkk hSB hSP;clear hV hPT hPl hVl hS8 hL hF hL2 h2 h3 hrd hry hbkk hSB hSP h1;have hf2 : F ≤ 1 := by omega
    by_cases hf1 : F = 1
    ·(have hq1 : ((F : Int) == 1) = true := by simp; omega);(have hq0 : ((F : Int) == 0) = false := by simp; omega);have hbk := HRD.out.2.2.1 true
     by_cases hb : zU V PT true = b
     ·rw [hb, ← HRD.out.2.2.2.1] at hbk;have HR : Hid (ze b = (V, PT, true)) := Lib.hid (HRD.out.2.1 true (by simpa using hf1) (by intro h; rcases h with h | h; exact h hb; omega));clear hb hf1
      go_enter Tryz.func58, Tryz.ntmps58
      go_upto_region 7 with (first | (go_at_call 57; refine hva.mono ?_; clear hva; rintro _ _ ⟨rfl, rfl⟩) | (go_at_call 72; refine (hbk _).mono ?_; clear hbk; rintro _ w5 ⟨rfl, hb5⟩; have HB5 := Lib.hid hb5; have hx9b := HX9.out w5; clear hb5))
      refine sqg [sqv (.int .u64 (V : Int)), sqv (.string SP), sqv (.string SB), sqv (.int .u8 (F : Int)), sqv (.bool true), sqv (.int .u64 (V : Int)), sqv (.string SP), sqv (.bool true)] 52 ?gmono ?gsteps ?gfin
      case gmono => exact ⟨sqm, sqm, sqm, sqm, sqm, sqm, sqm, sqm, trivial⟩
      case gsteps =>
       show Grow.allBelow _ 8
       iterate 8 refine And.intro ?_ ?_
       exact trivial
       ·exact squ 5
       ·exact squ 6
       ·exact squ 0
       ·refine sqi ?_;intro E W ec eg ef hG hd hu R HR1;have e49 := sqe (hd 2 49);clear hd hu;have hx := HX9.out W;go_simp;exact sqh HR1
       ·refine sqi ?_;intro E W ec eg ef hG hd hu R HR1;have e50 := sqe (hd 3 50);clear hd hu;go_simp;exact sqh HR1
       ·exact sqd 0 47
       ·exact sqd 1 48
       ·exact sqd 4 51
      case gfin =>
       intro W hG
       iterate 8 (refine Grow.fin_dst (by rfl) ?_; rintro _ rfl)
       simp only [Act.put, sqp];refine Grow.fin_end ?_;have HB := Lib.hid (HB5.out.trans ((Grow.below_of_drew hG).mono HB5.out.size));clear hG
       go_wp2_with fail
       refine bodyPost_ret (yc rfl _ _ _) rfl ?_;exact ⟨by rw [HR.out, HRD.out.2.2.2.2]; rfl, HB.out⟩
     ·have HR : Hid (ze b = (0, [], false)) := Lib.hid (HRD.out.1 true (by simpa using hf1) (.inl hb));obtain ⟨SX, hSX⟩ := sqz (st (zU V PT true));(have hne : (SX.toList == SB.toList) = false := by rw [hSX, HRD.out.2.2.2.1, st_beq]; simpa using hb);rw [← hSX] at hbk;clear hb hSX hf1
      go_enter Tryz.func58, Tryz.ntmps58
      go_wp2_with (first | (go_at_call 57; refine hva.mono ?_; clear hva; rintro _ _ ⟨rfl, rfl⟩) | (go_at_call 72; refine (hbk _).mono ?_; clear hbk; rintro _ w5 ⟨rfl, hb5⟩; have HB5 := Lib.hid hb5; have hx9b := HX9.out w5; clear hb5))
      refine bodyPost_ret (yc rfl _ _ _) rfl ?_;exact ⟨by rw [HR.out]; rfl, HB5.out⟩
    ·(have hq1 : ((F : Int) == 1) = false := by simp; omega);(have hq0 : ((F : Int) == 0) = true := by simp; omega);(have hf0 : F = 0 := by omega);have hbk := HRD.out.2.2.1 false
     by_cases hb : zU V PT false = b
     ·rw [hb, ← HRD.out.2.2.2.1] at hbk
      by_cases hl : L < 110
      ·(have hl' : (L : Int) < 110 := by omega);have HR : Hid (ze b = (0, [], false)) := Lib.hid (HRD.out.1 false (by simpa using hf1) (.inr ⟨hf0, hl⟩));clear hb hl hf1 hf0
       go_enter Tryz.func58, Tryz.ntmps58
       go_wp2_with (first | (go_at_call 57; refine hva.mono ?_; clear hva; rintro _ _ ⟨rfl, rfl⟩) | (go_at_call 72; refine (hbk _).mono ?_; clear hbk; rintro _ w5 ⟨rfl, hb5⟩; have HB5 := Lib.hid hb5; have hx9b := HX9.out w5; clear hb5))
       refine bodyPost_ret (yc rfl _ _ _) rfl ?_;exact ⟨by rw [HR.out]; rfl, HB5.out⟩
      ·(have hl' : ¬ (L : Int) < 110 := by omega);have HR : Hid (ze b = (V, PT, false)) := Lib.hid (HRD.out.2.1 false (by simpa using hf1) (by intro h; rcases h with h | h; exact h hb; omega));clear hb hl hf1 hf0
       go_enter Tryz.func58, Tryz.ntmps58
       go_upto_region 7 with (first | (go_at_call 57; refine hva.mono ?_; clear hva; rintro _ _ ⟨rfl, rfl⟩) | (go_at_call 72; refine (hbk _).mono ?_; clear hbk; rintro _ w5 ⟨rfl, hb5⟩; have HB5 := Lib.hid hb5; have hx9b := HX9.out w5; clear hb5))
       refine sqg [sqv (.int .u64 (V : Int)), sqv (.string SP), sqv (.string SB), sqv (.int .u8 (F : Int)), sqv (.bool false), sqv (.int .u64 (V : Int)), sqv (.string SP), sqv (.bool false)] 52 ?gmono ?gsteps ?gfin
       case gmono => exact ⟨sqm, sqm, sqm, sqm, sqm, sqm, sqm, sqm, trivial⟩
       case gsteps =>
        show Grow.allBelow _ 8
        iterate 8 refine And.intro ?_ ?_
        exact trivial
        ·exact squ 5
        ·exact squ 6
        ·exact squ 0
        ·refine sqi ?_;intro E W ec eg ef hG hd hu R HR1;have e49 := sqe (hd 2 49);clear hd hu;have hx := HX9.out W;go_simp;exact sqh HR1
        ·refine sqi ?_;intro E W ec eg ef hG hd hu R HR1;have e50 := sqe (hd 3 50);clear hd hu;go_simp;exact sqh HR1
        ·exact sqd 0 47
        ·exact sqd 1 48
        ·exact sqd 4 51
       case gfin =>
        intro W hG
        iterate 8 (refine Grow.fin_dst (by rfl) ?_; rintro _ rfl)
        simp only [Act.put, sqp];refine Grow.fin_end ?_;have HB := Lib.hid (HB5.out.trans ((Grow.below_of_drew hG).mono HB5.out.size));clear hG
        go_wp2_with fail
        refine bodyPost_ret (yc rfl _ _ _) rfl ?_;exact ⟨by rw [HR.out, HRD.out.2.2.2.2]; rfl, HB.out⟩
     ·have HR : Hid (ze b = (0, [], false)) := Lib.hid (HRD.out.1 false (by simpa using hf1) (.inl hb));obtain ⟨SX, hSX⟩ := sqz (st (zU V PT false));(have hne : (SX.toList == SB.toList) = false := by rw [hSX, HRD.out.2.2.2.1, st_beq]; simpa using hb);rw [← hSX] at hbk;clear hb hSX hf1 hf0
      go_enter Tryz.func58, Tryz.ntmps58
      go_wp2_with (first | (go_at_call 57; refine hva.mono ?_; clear hva; rintro _ _ ⟨rfl, rfl⟩) | (go_at_call 72; refine (hbk _).mono ?_; clear hbk; rintro _ w5 ⟨rfl, hb5⟩; have HB5 := Lib.hid hb5; have hx9b := HX9.out w5; clear hb5))
      refine bodyPost_ret (yc rfl _ _ _) rfl ?_;exact ⟨by rw [HR.out]; rfl, HB5.out⟩
 ·have h1' : ((b.length : Int) != 128) = true := by simp; omega
  have HR : Hid (ze b = (0, [], false)) := Lib.hid (readL_no (.inl h1))
  generalize st b = SB at *
  generalize b.length = n at *
  clear h1
  go_enter Tryz.func58, Tryz.ntmps58
  go_wp2
  refine bodyPost_ret (yc rfl _ _ _) rfl ?_;exact ⟨by rw [HR.out]; rfl, Below.refl _ _⟩
structure Lf (lf left : Int) : Prop where
 same : lf = left ∨ (lf < 0 ∧ left < 0)
 lo : -9223372036854775808 ≤ lf
 hi : lf ≤ 9223372036854775807
def Dk (w : World) (S : Nat → Prop) (g : Nat) (d : DM) : Prop :=
 ∃ q cap lf, S g ∧ S q ∧ g ≠ q ∧ w.heap[g]? = some (.cells #[.slice (some ⟨q, 0, none⟩) d.l.length cap, .bool d.down, .int .i64 lf, .int .i64 d.torn] 70 (0, 0)) ∧ w.heap[q]? = some (.cells (u8s d.l.flatten).toArray 102 (0, 0)) ∧ d.Ok ∧ d.l.length ≤ cap ∧ d.l.length ≤ 65536 ∧ Lf lf d.left
section
variable {w w' : World} {S T : Nat → Prop} {g : Nat} {d : DM}
theorem Dk.ok (h : Dk w S g d) : d.Ok := h.choose_spec.choose_spec.choose_spec.2.2.2.2.2.1
theorem Dk.few (h : Dk w S g d) : d.l.length ≤ 65536 := h.choose_spec.choose_spec.choose_spec.2.2.2.2.2.2.2.1
theorem Dk.turned (h : Dk w S g d) (ht : Turned T w w') (hd : ∀ b, b < w.heap.size → S b → ¬ T b) : Dk w' S g d := by
 obtain ⟨q, cap, lf, h1, h2, h3, h4, h5, h6⟩ := h;exact ⟨q, cap, lf, h1, h2, h3, (ht.block _ (zB h4) (hd _ (zB h4) h1)).trans h4, (ht.block _ (zB h5) (hd _ (zB h5) h2)).trans h5, h6⟩
theorem Dk.below (h : Dk w S g d) (hb : Below w.heap.size w w') : Dk w' S g d := by
 obtain ⟨q, cap, lf, h1, h2, h3, h4, h5, h6⟩ := h;exact ⟨q, cap, lf, h1, h2, h3, (hb.block _ (zB h4)).trans h4, (hb.block _ (zB h5)).trans h5, h6⟩
theorem Dk.mono (h : Dk w S g d) (hT : ∀ b, b < w.heap.size → S b → T b) : Dk w T g d := by
 obtain ⟨q, cap, lf, h1, h2, h3, h4, h5, h6⟩ := h;exact ⟨q, cap, lf, hT _ (zB h4) h1, hT _ (zB h5) h2, h3, h4, h5, h6⟩
theorem Dk.drew (h : Dk w S g d) : Dk w.drew S g d := h
theorem Dk.cells (h : Dk w S g d) : ∃ q cap lf, S g ∧ S q ∧ g ≠ q ∧ w.heap[g]? = some (.cells #[.slice (some ⟨q, 0, none⟩) d.l.length cap, .bool d.down, .int .i64 lf, .int .i64 d.torn] 70 (0, 0)) ∧ w.heap[q]? = some (.cells (u8s d.l.flatten).toArray 102 (0, 0)) ∧ d.Ok ∧ d.l.length ≤ cap ∧ d.l.length ≤ 65536 ∧ Lf lf d.left := h
end
/-! The methods of a disk that is none. -/
/-! What only reads. -/
theorem blen_any {w : World} {S : Nat → Prop} {g : Nat} {d : DM} (h : Dk w S g d) :
    Calls Tryz.prog 45 #[.pointer (some ⟨g, 0, none⟩)] w fun e w' => e = .returned (.int .i64 (d.l.length : Int)) ∧ w = w' := by
 obtain ⟨q, cap, lf, _, _, _, hb, _⟩ := h.cells;have hc : w.cell? ⟨g, 0, none⟩ = some (.slice (some ⟨q, 0, none⟩) d.l.length cap) := zA hb 0;clear h hb
 go_enter Tryz.func45, Tryz.ntmps45
 go_wp2
 go_ret
 exact ⟨rfl, rfl⟩
theorem bdown_any {w : World} {S : Nat → Prop} {g : Nat} {d : DM} (h : Dk w S g d) :
    Calls Tryz.prog 46 #[.pointer (some ⟨g, 0, none⟩)] w fun e w' => e = .returned (.bool d.down) ∧ w = w' := by
 obtain ⟨q, cap, lf, _, _, _, hb, _⟩ := h.cells;have hc : w.cell? ⟨g, 1, none⟩ = some (.bool d.down) := zA hb 1;clear h hb
 generalize d.down = x at *
 go_enter Tryz.func46, Tryz.ntmps46
 go_wp2
 go_ret
 exact ⟨rfl, rfl⟩
theorem bcheck_any {w : World} {S : Nat → Prop} {g : Nat} {d : DM} (h : Dk w S g d) (i : Int) :
    Calls Tryz.prog 43 #[.pointer (some ⟨g, 0, none⟩), .int .i64 i] w fun e w' => e = .returned (.int .i64 (zz d i).2) ∧ w = w' := by
 obtain ⟨q, cap, lf, _, _, _, hb, _⟩ := h.cells;have hc0 : w.cell? ⟨g, 0, none⟩ = some (.slice (some ⟨q, 0, none⟩) d.l.length cap) := zA hb 0;have hc : w.cell? ⟨g, 1, none⟩ = some (.bool d.down) := zA hb 1;clear h hb;unfold zz
 generalize d.down = x at *
 generalize d.l.length = n at *
 cases x with
 | true =>
   go_enter Tryz.func43, Tryz.ntmps43
   go_wp2
   go_ret
   exact ⟨rfl, rfl⟩
 | false =>
   by_cases h1 : i < 0
   ·rw [if_neg (by simp), if_pos (.inl h1)]
    go_enter Tryz.func43, Tryz.ntmps43
    go_wp2
    go_ret
    exact ⟨rfl, rfl⟩
   ·by_cases h2 : (n : Int) ≤ i
    ·rw [if_neg (by simp), if_pos (.inr h2)]
     go_enter Tryz.func43, Tryz.ntmps43
     go_wp2
     go_ret
     exact ⟨rfl, rfl⟩
    ·rw [if_neg (by simp), if_neg (by omega)]
     go_enter Tryz.func43, Tryz.ntmps43
     go_wp2
     go_ret
     exact ⟨rfl, rfl⟩
/-! What turns the disk. -/
theorem Dk.put {w' : World} {S : Nat → Prop} {g q cap : Nat} {d : DM} {lf : Int} (h1 : S g) (h2 : S q) (h3 : g ≠ q) (h4 : w'.heap[g]? = some (.cells #[.slice (some ⟨q, 0, none⟩) d.l.length cap, .bool d.down, .int .i64 lf, .int .i64 d.torn] 70 (0, 0))) (h5 : w'.heap[q]? = some (.cells (u8s d.l.flatten).toArray 102 (0, 0))) (h6 : d.Ok) (h7 : d.l.length ≤ cap) (h8 : d.l.length ≤ 65536) (h9 : Lf lf d.left) : Dk w' S g d := ⟨q, cap, lf, h1, h2, h3, h4, h5, h6, h7, h8, h9⟩
theorem Lf.stop {a : Int} (ha : -9223372036854775808 ≤ a ∧ a ≤ 9223372036854775807) : Lf a (if a < 0 then -1 else a) := ⟨by split <;> omega, ha.1, ha.2⟩
theorem Lf.never : Lf (-1) (-1) := ⟨.inl rfl, by decide, by decide⟩
theorem stop_clip (t : Int) : min (max t 0) 128 = (if t < 0 then 0 else if 128 < t then 128 else t) := by omega
theorem bstop_any {w : World} {S : Nat → Prop} {g : Nat} {d : DM} (h : Dk w S g d) (after torn : Int) (ha : -9223372036854775808 ≤ after ∧ after ≤ 9223372036854775807) :
    Calls Tryz.prog 13 #[.pointer (some ⟨g, 0, none⟩), .int .i64 after, .int .i64 torn] w fun e w' => e = .returned (.tuple #[]) ∧ Dk w' S g (stopM d after torn) ∧ Turned S w w' := by
 obtain ⟨q, cap, lf, hg, hq, hne, hb, hr, ok, hcap, hfew, hlf⟩ := h.cells;have ok2 := stopM_ok ok (after := after) (torn := torn) ha;have hlf2 := Lf.stop ha;obtain ⟨T, hT⟩ := sqz (min (max torn 0) 128);have hc1 : w.cell? ⟨g, 2, none⟩ = some (.int .i64 lf) := zA hb 2;have hf1 := zC hb 2;have hb2 := zG hb 2 (.int .i64 after);have hc2 : (w.setCell ⟨g, 2, none⟩ (.int .i64 after)).cell? ⟨g, 3, none⟩ = some (.int .i64 d.torn) := zA hb2 3;have hf2 := zC hb2 3;have hb3 := zG hb2 3 (.int .i64 T);have hr3 := (Below.heap_setCell (w.setCell ⟨g, 2, none⟩ (.int .i64 after)) ⟨g, 3, none⟩ (.int .i64 T) q (Ne.symm hne)).trans ((Below.heap_setCell w ⟨g, 2, none⟩ (.int .i64 after) q (Ne.symm hne)).trans hr);have HR := Lib.hid (show Dk ((w.setCell ⟨g, 2, none⟩ (.int .i64 after)).setCell ⟨g, 3, none⟩ (.int .i64 T)) S g (stopM d after torn) from Dk.put hg hq hne (by rw [hb3]; unfold stopM; simp only; rw [← stop_clip, ← hT]; rfl) hr3 ok2 hcap hfew hlf2);have HT := Lib.hid (((Turned.refl S w).set hg 2 (.int .i64 after)).set hg 3 (.int .i64 T));have HL := Lib.hid hT;clear hT;clear h ok ok2 hb hr hcap hfew hq hne hb2 hb3 hr3 hg hlf hlf2 ha
 go_enter Tryz.func13, Tryz.ntmps13
 go_wp2_with fail
 rw [← HL.out];refine bodyPost_end (results_none rfl _ _ _) rfl ?_;exact ⟨rfl, HR.out, HT.out⟩
theorem brestart_any {w : World} {S : Nat → Prop} {g : Nat} {d : DM} (h : Dk w S g d) :
    Calls Tryz.prog 17 #[.pointer (some ⟨g, 0, none⟩)] w fun e w' => e = .returned (.tuple #[]) ∧ Dk w' S g (xP d) ∧ Turned S w w' := by
 obtain ⟨q, cap, lf, hg, hq, hne, hb, hr, ok, hcap, hfew, hlf⟩ := h.cells;have ok2 := restartM_ok ok;have hc1 : w.cell? ⟨g, 1, none⟩ = some (.bool d.down) := zA hb 1;have hf1 := zC hb 1;have hb2 := zG hb 1 (.bool false);have hc3 : (w.setCell ⟨g, 1, none⟩ (.bool false)).cell? ⟨g, 2, none⟩ = some (.int .i64 lf) := zA hb2 2;have hf3 := zC hb2 2;have hb3 := zG hb2 2 (.int .i64 (-1));have hr3 := (Below.heap_setCell (w.setCell ⟨g, 1, none⟩ (.bool false)) ⟨g, 2, none⟩ (.int .i64 (-1)) q (Ne.symm hne)).trans ((Below.heap_setCell w ⟨g, 1, none⟩ (.bool false) q (Ne.symm hne)).trans hr);have HR := Lib.hid (show Dk ((w.setCell ⟨g, 1, none⟩ (.bool false)).setCell ⟨g, 2, none⟩ (.int .i64 (-1))) S g (xP d) from Dk.put hg hq hne hb3 hr3 ok2 hcap hfew Lf.never);have HT := Lib.hid (((Turned.refl S w).set hg 1 (.bool false)).set hg 2 (.int .i64 (-1)));clear h ok ok2 hb hr hcap hfew hq hne hb2 hb3 hr3 hg hlf
 go_enter Tryz.func17, Tryz.ntmps17
 go_wp2
 refine bodyPost_end (results_none rfl _ _ _) rfl ?_;exact ⟨rfl, HR.out, HT.out⟩
/-! A disk that is new. -/
theorem newM_at' (k : Nat) (h1 : 1 ≤ k) (h2 : k ≤ 65536) : (newM k).1 = ⟨List.replicate k yQ, -1, 0, false⟩ := by
 rw [newM, if_neg (by omega)];rfl
theorem blk_info : (Tryz.prog.info? 102).map (fun i => (i.zero, i.size, i.bytes)) = some (some (.agg (Array.replicate 128 (.int .u8 0))), 128, 128) := by kernel_rfl
def zS : Array Value := Array.replicate 128 (.int .u8 0)
theorem yE : zS.size = 128 := by simp [zS]
theorem zero_blk : ∀ W, (zeroValue 102).run Tryz.prog W = .ok (.agg zS) W := fun W => by unfold zS; kernel_rfl
theorem blk_size : (Tryz.prog.info? 102).map (·.size) = some 128 := by kernel_rfl
theorem u8s_all (l : List UInt8) : (u8s l).toArray.all (·.oneCell') = true := all_oneCell_toArray (u8s_one l)
theorem flat_zero (k : Nat) : (List.replicate k yQ).flatten = List.replicate (k * 128) 0 := by
 unfold yQ;rw [List.flatten_replicate_replicate]
theorem made_blk (k : Nat) : madeCells (Value.agg (Array.replicate 128 (.int .u8 0))).cells (k * 128) = (u8s (List.replicate k yQ).flatten).toArray := by
 rw [flat_zero];apply Array.ext
 ·simp [size_madeCells, u8s]
 ·intro i h1 h2;simp only [madeCells, Value.cells, Array.getElem_map, Array.getElem_range, Array.size_replicate, u8s, List.getElem_toArray, List.getElem_map, List.getElem_replicate];rw [getElem!_pos _ _ (by simpa using Nat.mod_lt i (show 0 < 128 by omega))];simp
theorem make_blks (w : World) (k : Nat) (h : k ≤ 65536) : (Instr.makeSlice 68 (.int .i64 (k : Int)) (.int .i64 (k : Int))).run Tryz.prog w = .ok (.slice (some ⟨w.heap.size, 0, none⟩) k k) (w.alloc (.cells (u8s (List.replicate k yQ).flatten).toArray 102)) := by
 obtain ⟨i0, hi, hz0, hz1, hz2⟩ := info_parts blk_info;have hmk := run_make (P := Tryz.prog) (t := 68) (e := 102) w i0 (.agg (Array.replicate 128 (.int .u8 0))) Tryz.underlying68 hi hz0 .i64 .i64 (k : Int) (k : Int) (by omega) (by omega) (by rw [hz2]; omega) (by omega);rw [hmk, hz1, Int.toNat_natCast, made_blk]
theorem bnew_ok (k : Nat) (h1 : 1 ≤ k) (h2 : k ≤ 65536) (w : World) :
    Calls Tryz.prog 5 #[.int .i64 (k : Int)] w fun e w' => ∃ g, e = .returned (.tuple #[.pointer (some ⟨g, 0, none⟩), .int .i64 0]) ∧ Dk w' (w.heap.size ≤ ·) g (newM k).1 ∧ Below w.heap.size w w' := by
 have hmk := make_blks w k h2;have ok := newM_ok (k : Int);rw [newM_at' k h1 h2] at *;have e1 : ¬ (k : Int) < 1 := by omega
 have e2 : ¬ 65536 < (k : Int) := by omega
 obtain ⟨ZS, hZS⟩ := sqz (u8s (List.replicate k yQ).flatten);rw [← hZS] at hmk;have HZ := sq3 hZS ok h2;clear hZS ok h1 h2
 go_enter Tryz.func5, Tryz.ntmps5
 go_wp2
 go_ret2
 have hw1 := heap_alloc_new w (.cells ZS.toArray 102);have hb1 : Below w.heap.size w (w.alloc (.cells ZS.toArray 102)) := (Below.refl _ _).alloc (Nat.le_refl _) _
 generalize hw2 : w.alloc (.cells ZS.toArray 102) = w1 at *
 have hsz : w1.heap.size = w.heap.size + 1 := by rw [← hw2]; simp
 have hn := heap_alloc_new w1 (.cells #[.slice (some ⟨w.heap.size, 0, none⟩) k k, .bool false, .int .i64 (-1), .int .i64 0] 70);rw [hsz] at hn;refine ⟨w.heap.size + 1, rfl, ⟨w.heap.size, k, -1, by omega, by omega, by omega, ?_, ?_, HZ.out.2.1, by simp, by simpa using HZ.out.2.2, Lf.never⟩, hb1.alloc (by omega) _⟩
 ·rw [hn];simp
 ·rw [← HZ.out.1];exact (Below.heap_alloc _ _ _ (by omega)).trans hw1
/-! Reading. -/
theorem flat_len {l : List (List UInt8)} (h : ∀ x ∈ l, x.length = 128) : l.flatten.length = l.length * 128 := by
 induction l with
 | nil => rfl
 | cons a l ih =>
   have ha := h a (by simp);rw [List.flatten_cons, List.length_append, ih fun x hx => h x (by simp [hx]), ha, List.length_cons];omega
theorem flat_at {l : List (List UInt8)} (h : ∀ x ∈ l, x.length = 128) : ∀ (i : Nat), i < l.length → ∀ j, j < 128 → l.flatten[i * 128 + j]? = (l[i]?.getD [])[j]? := by
 induction l with
 | nil => intro i hi; simp at hi
 | cons a l ih =>
   intro i hi j hj;have ha := h a (by simp)
   cases i with
   | zero => simp [List.getElem?_append_left, ha, hj]
   | succ i =>
     rw [List.flatten_cons, List.getElem?_append_right (by omega), ha, show (i + 1) * 128 + j - 128 = i * 128 + j by omega, ih (fun x hx => h x (by simp [hx])) i (by simpa using hi) j hj];simp
theorem flat_put {l : List (List UInt8)} (h : ∀ x ∈ l, x.length = 128) : ∀ (i : Nat), i < l.length → ∀ b : List UInt8, b.length ≤ 128 → l.flatten.take (i * 128) ++ b ++ l.flatten.drop (i * 128 + b.length) = (l.set i (b ++ (l[i]?.getD []).drop b.length)).flatten := by
 induction l with
 | nil => intro i hi; simp at hi
 | cons a l ih =>
   intro i hi b hb;have ha := h a (by simp)
   cases i with
   | zero =>
     simp only [Nat.zero_mul, List.take_zero, List.nil_append, Nat.zero_add, List.flatten_cons, List.set_cons_zero, List.getElem?_cons_zero, Option.getD_some];rw [List.drop_append_of_le_length (by omega), List.append_assoc]
   | succ i =>
     have := ih (fun x hx => h x (by simp [hx])) i (by simpa using hi) b hb;simp only [List.flatten_cons, List.set_cons_succ, List.getElem?_cons_succ]
     have e1 : (a ++ l.flatten).take ((i + 1) * 128) = a ++ l.flatten.take (i * 128) := by
      rw [List.take_append, List.take_of_length_le (by omega), ha, show (i + 1) * 128 - 128 = i * 128 by omega]
     have e2 : (a ++ l.flatten).drop ((i + 1) * 128 + b.length) = l.flatten.drop (i * 128 + b.length) := by
      rw [List.drop_append, List.drop_of_length_le (by omega), List.nil_append, ha, show (i + 1) * 128 + b.length - 128 = i * 128 + b.length by omega]
     rw [e1, e2, ← this];simp only [List.append_assoc]
theorem bread_any {w : World} {S : Nat → Prop} {g : Nat} {d : DM} (h : Dk w S g d) (i : Int) :
    Calls Tryz.prog 47 #[.pointer (some ⟨g, 0, none⟩), .int .i64 i] w fun e w' => ∃ A n c, e = .returned (.tuple #[.slice A n c, .int .i64 (zz d i).2]) ∧ Byt w' (w.heap.size ≤ ·) A n c (zz d i).1 ∧ Below w.heap.size w w' ∧ xO w' A := by
 have hck := bcheck_any h i
 by_cases h0 : (zz d i).2 = 0
 ·obtain ⟨hd, hi0, hi1⟩ := readM_yes h0;obtain ⟨i, rfl⟩ := Int.eq_ofNat_of_zero_le hi0;obtain ⟨q, cap, lf, _, _, _, hb, hr, ok, hcap, hfew, hlf⟩ := h.cells
  have hrm : zz d (i : Int) = (d.l[i]?.getD [], 0) := by
   unfold zz;rw [if_neg (by simp [hd]), if_neg (by omega)];rfl
  rw [hrm] at hck ⊢;have hc0 : w.cell? ⟨g, 0, none⟩ = some (.slice (some ⟨q, 0, none⟩) d.l.length cap) := zA hb 0;have hin : (i : Int) < (d.l.length : Int) := by omega
  have hil : i < d.l.length := by omega
  have hx : (d.l[i]?.getD []).length = 128 := by
   rw [List.getElem?_eq_getElem hil];exact ok.each _ (List.getElem_mem hil)
  have hz := zero_blk;obtain ⟨KS, hKS⟩ := sqz ((u8s (d.l[i]?.getD [])).toArray)
  have HKA : Hid (∀ (j : Nat) (v : Value), KS[j]? = some v → w.cell? ((Addr.mk q (i * 128) none).add j) = some v) := Lib.hid fun j v hj => by
   rw [hKS] at hj
   have hj2 : j < 128 := by
    have := (Array.getElem?_eq_some_iff.1 hj).1
    rwa [List.size_toArray, zn, hx] at this
   rw [zK, zA hr, List.getElem?_toArray, u8s, List.getElem?_map, flat_at ok.each i hil j hj2, ← hj, List.getElem?_toArray, u8s, List.getElem?_map]
  have HKS : Hid (KS.size = 128 ∧ KS.all (·.oneCell') = true) := Lib.hid ⟨by rw [hKS, List.size_toArray, zn, hx], by rw [hKS]; exact u8s_all _⟩;have HG : Hid ((w.alloc (.cells zS 102)).heap[w.heap.size]? = some (.cells zS 102 (0, 0))) := Lib.hid (heap_alloc_new w _);have HX : Hid (KS = (u8s (d.l[i]?.getD [])).toArray ∧ (d.l[i]?.getD []).length = 128) := Lib.hid ⟨hKS, hx⟩;clear h h0 hi0 hi1 hb hr ok hcap hfew hlf hx hrm hd hKS
  generalize d.l[i]?.getD [] = xl at *
  generalize d.l.length = nl at *
  clear hil
  go_enter Tryz.func47, Tryz.ntmps47
  go_wp2_with (first
   | (go_at_call 43; refine hck.mono ?_; clear hck; rintro _ _ ⟨rfl, rfl⟩)
   | (refine sqwa 19 HKA.out Tryz.underlying102 (by rw [HKS.out.1]; exact blk_size) ?_)
   | (refine zl 7 20 KS HG.out (by rw [HKS.out.1]; exact blk_size) (by rw [HKS.out.1]; exact yE) HKS.out.2 ?_))
  go_ret2
  have e4 := zF (new := KS) HG.out;have hb4 : Below w.heap.size w ((w.alloc (.cells zS 102)).setRow w.heap.size KS) := zD ((Below.refl _ _).alloc (Nat.le_refl _) _) (Nat.le_refl _) _;rw [HX.out.1] at e4;have hy := byt_whole e4 (by rw [HX.out.2]; omega);rw [HX.out.2, ← HX.out.1] at hy;rw [← HX.out.1] at e4;refine ⟨_, _, _, rfl, ⟨hy.len, hy.cap, hy.max, fun h0 => ?_⟩, hb4, fun a ha => ?_⟩
  ·obtain ⟨b, off, e, _, h3, h4⟩ := hy.row h0;(injection e with e);(injection e with e1 e2);subst e1 e2;exact ⟨_, 0, rfl, Nat.le_refl _, h3, h4⟩
  ·(injection ha with ha);subst ha;exact ⟨zB e4, fun j => zC e4 j⟩
 ·obtain ⟨E, hE⟩ := sqz ((zz d i).2)
  have hn : (zz d i).1 = [] := by
   unfold zz at h0 ⊢
   split
   ·rfl
   ·rename_i h1
    rw [if_neg h1] at h0
    split
    ·rfl
    ·rename_i h2
     rw [if_neg h2] at h0;exact absurd rfl h0
  rw [← hE] at hck ⊢;rw [hn];have hE0 : (E != 0) = true := by rw [hE]; simpa using h0
  clear h h0 hn hE
  go_enter Tryz.func47, Tryz.ntmps47
  go_wp2_with (go_at_call 43; refine hck.mono ?_; clear hck; rintro _ _ ⟨rfl, rfl⟩)
  go_ret2
  exact ⟨none, 0, 0, rfl, Byt.nil _ _ _ _ (Nat.zero_le _), Below.refl _ _, xO.none_ _⟩
/-! Writing. -/
theorem u8s_take (l : List UInt8) (k : Nat) : (u8s l).take k = u8s (l.take k) := by simp [u8s, List.map_take]
theorem u8s_drop (l : List UInt8) (k : Nat) : (u8s l).drop k = u8s (l.drop k) := by simp [u8s, List.map_drop]
theorem blk_copy {w : World} {q : Nat} {l : List (List UInt8)} (hr : w.heap[q]? = some (.cells (u8s l.flatten).toArray 102 (0, 0))) (he : ∀ x ∈ l, x.length = 128) {i : Nat} (hi : i < l.length) {T : Nat → Prop} {a : Addr} {n c : Nat} {x : List UInt8} (hy : Byt w T (some a) n c x) (hn : n ≤ 128) :
    (Builtin.copy_ #[54, 54] 3 #[.slice (some ⟨q, i * 128, none⟩) 128 128, .slice (some a) n c]).run Tryz.prog w = .ok (goInt (n : Nat)) (w.setRow q (u8s (l.set i (x ++ (l[i]?.getD []).drop n)).flatten).toArray) := by
 have hl := hy.len
 have h := run_copy_row Tryz.prog w 54 54 3 5 q (i * 128) 128 128 a n c (u8s l.flatten).toArray 102 (u8s x) Tryz.underlying54 (by kernel_rfl) hr (by rw [zn, hl]; exact (Nat.min_eq_left hn).symm) (xF hy)
  (by rw [zn, hl]; simp only [List.size_toArray]; rw [zn, flat_len he]; omega) (u8s_one _)
 rw [zn, hl, u8s_take, u8s_drop, ← yt, ← yt] at h;have hf := flat_put he i hi x (by omega);rw [hl] at hf;rw [h, hf]
theorem bwrite_any {w : World} {S T : Nat → Prop} {g : Nat} {d : DM} (h : Dk w S g d) {A : Option Addr} {n c : Nat} {b : List UInt8} (hy : Byt w T A n c b) (hT : ∀ x, x < w.heap.size → T x → ¬ S x) (i : Int) :
    Calls Tryz.prog 15 #[.pointer (some ⟨g, 0, none⟩), .int .i64 i, .slice A n c] w fun e w' => e = .returned (.int .i64 (zm d i b).2) ∧ Dk w' S g (zm d i b).1 ∧ Turned S w w' := by
 have hck := bcheck_any h i;have hbl := hy.len
 by_cases h0 : (zz d i).2 = 0
 ·rw [h0] at hck
  by_cases hn : n = 128
  ·subst hn;obtain ⟨hdn, hi0, hi1⟩ := readM_yes h0;obtain ⟨i, rfl⟩ := Int.eq_ofNat_of_zero_le hi0;obtain ⟨q, cap, lf, hg, hq, hne, hb, hr, ok, hcap, hfew, hlf⟩ := h.cells;have ok2 := writeM_ok ok (i : Int) b;(have hil : i < d.l.length := by omega);obtain ⟨bb, off, rfl, _, _, _⟩ := hy.row (by omega);have hc0 : w.cell? ⟨g, 0, none⟩ = some (.slice (some ⟨q, 0, none⟩) d.l.length cap) := zA hb 0;have hc1 : w.cell? ⟨g, 2, none⟩ = some (.int .i64 lf) := zA hb 2;have hc2 : w.cell? ⟨g, 3, none⟩ = some (.int .i64 d.torn) := zA hb 3;have hc3 : w.cell? ⟨g, 1, none⟩ = some (.bool d.down) := zA hb 1;have hin : (i : Int) < (d.l.length : Int) := by omega
   by_cases hl : d.left = 0
   ·obtain ⟨t, ht⟩ := Int.eq_ofNat_of_zero_le ok.torn.1;(have ht2 : t ≤ 128 := by have := ok.torn.2; omega)
    have hwm : zm d (i : Int) b = ({ d with l := d.l.set i (b.take t ++ (d.l[i]?.getD []).drop t), down := true }, 30) := by
     unfold zm;rw [if_neg (by simp [hdn]), if_neg (by omega), if_neg (by omega), if_pos hl, ht];rfl
    rw [hwm] at ok2 ⊢;have hcp := blk_copy hr ok.each hil (hy.to (k := t) ht2) ht2;have HSL := Lib.hid (fun W => run_to (P := Tryz.prog) 54 5 Tryz.underlying54 u8_size (some ⟨bb, off, none⟩) 128 c t (by have := hy.cap; omega) W);obtain ⟨l2, hl2⟩ := sqz (d.l.set i (b.take t ++ (d.l[i]?.getD []).drop t));rw [← hl2] at hcp;simp only at ok2 ⊢;rw [← hl2] at ok2 ⊢;(have hlen : l2.length = d.l.length := by rw [hl2, List.length_set]);have hr2 := zF (new := (u8s l2.flatten).toArray) hr;have hb2 := (zM w q g (u8s l2.flatten).toArray hne).trans hb;(have ht3 : Turned S w (w.setRow q (u8s l2.flatten).toArray) := (zO (w := w) (g := q) _).mono fun _ _ e => by rw [e]; exact hq)
    have hcpd : (Builtin.copy_ #[54, 54] 3 #[.slice (some ⟨q, i * 128, none⟩) 128 128, .slice (some ⟨bb, off, none⟩) t c]).run Tryz.prog w.drew = .ok (goInt (t : Nat)) (w.drew.setRow q (u8s l2.flatten).toArray) := by
     have := blk_copy (w := w.drew) hr ok.each hil (hy.to (k := t) ht2).drew ht2
     rwa [← hl2] at this
    have hr2 : (w.drew.setRow q (u8s l2.flatten).toArray).heap[q]? = _ := hr2;have hb2 : (w.drew.setRow q (u8s l2.flatten).toArray).heap[g]? = _ := hb2;have ht3 : Turned S w (w.drew.setRow q (u8s l2.flatten).toArray) := ⟨ht3.os, ht3.tape, ht3.output, ht3.size, ht3.block⟩
    (generalize w.drew.setRow q (u8s l2.flatten).toArray = w2 at *);have hc02 : w2.cell? ⟨g, 0, none⟩ = some (.slice (some ⟨q, 0, none⟩) d.l.length cap) := zA hb2 0;(have hc22 : w2.cell? ⟨g, 3, none⟩ = some (.int .i64 (t : Int)) := by rw [zA hb2, ← ht]; rfl);have hc32 : w2.cell? ⟨g, 1, none⟩ = some (.bool d.down) := zA hb2 1;have hf32 := zC hb2 1;have hb3 := zG hb2 1 (.bool true);have hr3 := (Below.heap_setCell w2 ⟨g, 1, none⟩ (.bool true) q (Ne.symm hne)).trans hr2;have HR := Lib.hid (show Dk (w2.setCell ⟨g, 1, none⟩ (.bool true)) S g { d with l := l2, down := true } from Dk.put (d := { d with l := l2, down := true }) (cap := cap) (lf := lf) hg hq hne (by rw [hb3, ← hlen]; rfl) hr3 ok2 (by show l2.length ≤ cap; omega) (by show l2.length ≤ 65536; omega) hlf);have HT := Lib.hid (ht3.set hg 1 (.bool true));(have hc2 : w.cell? ⟨g, 3, none⟩ = some (.int .i64 (t : Int)) := by rw [hc2, ht]);(have hlz : lf = 0 := by have := hlf.same; omega);rw [hlz] at hc1;clear h hy hbl h0 hg hq hne hb hr ok ok2 hcap hfew hil hl2 hr2 hb2 ht3 hwm hi0 hi1 hlen hdn hcp hb3 hr3 hc3 ht hlf hlz
    go_enter Tryz.func15, Tryz.ntmps15
    go_upto_region 7 with (go_at_call 43; refine hck.mono ?_; clear hck; rintro _ _ ⟨rfl, rfl⟩)
    refine sqpl (fun W => W.cell? ⟨g, 0, none⟩ = some (.slice (some ⟨q, 0, none⟩) d.l.length cap) ∧ W.cell? ⟨g, 3, none⟩ = some (.int .i64 (t : Int))) [([0, 1, 2, 3, 4, 5, 6, 7, 8, 9, 10, 11, 12], 13)] [] ⟨hc0, hc2⟩ ?_;refine zR ?_;refine sqr ?_
    try simp only [Act.put, sqp]
    refine sqr ?_
    try simp only [Act.put, sqp]
    refine sqr ?_
    try simp only [Act.put, sqp]
    refine sqr ?_ (hv := by intro W hW; obtain ⟨hc0, hc2⟩ := hW; go_simp; with_reducible rfl)
    try simp only [Act.put, sqp]
    refine sqr ?_
    try simp only [Act.put, sqp]
    refine sqr ?_
    try simp only [Act.put, sqp]
    refine sqr ?_
    try simp only [Act.put, sqp]
    refine sqr ?_
    try simp only [Act.put, sqp]
    refine sqr ?_
    try simp only [Act.put, sqp]
    refine sqr ?_
    try simp only [Act.put, sqp]
    refine sqr ?_
    try simp only [Act.put, sqp]
    refine sqr ?_ (hv := by intro W hW; obtain ⟨hc0, hc2⟩ := hW; go_simp; with_reducible rfl)
    try simp only [Act.put, sqp]
    refine zE ?v13 (by rfl) (by rfl) ?h13 ?_
    case h13 => intro W hW; have hsl := HSL.out W; go_simp; with_reducible rfl
    try simp only [Act.put, sqp]
    refine zH ?_;refine zr (by rfl) (fun K hK => ?_);go_simp;have hcp := hcpd;refine hK _ _ ⟨fun W => W = w2, rfl, fun W e => by rw [e]; exact ⟨hc02, hc22⟩, ?_⟩;clear hK K;refine zZ ?_
    repeat (refine zb (by rfl) (fun K hK => ?_); go_simp; refine hK _ ?_; clear hK K)
    refine zH ?_
    go_wp2_with fail
    go_ret
    exact ⟨rfl, HR.out, HT.out⟩
   ·have hwm : zm d (i : Int) b = ({ d with l := d.l.set i b, left := if 0 < d.left then d.left - 1 else d.left }, 0) := by
      unfold zm;rw [if_neg (by simp [hdn]), if_neg (by omega), if_neg (by omega), if_neg hl];rfl
    rw [hwm] at ok2 ⊢;have hcp := blk_copy hr ok.each hil hy (Nat.le_refl _)
    have hx : (d.l[i]?.getD []).drop 128 = [] := by
     rw [List.getElem?_eq_getElem hil];exact List.drop_of_length_le (by rw [Option.getD_some, ok.each _ (List.getElem_mem hil)]; omega)
    rw [hx, List.append_nil] at hcp;obtain ⟨l2, hl2⟩ := sqz (d.l.set i b);rw [← hl2] at hcp;simp only at ok2 ⊢;rw [← hl2] at ok2 ⊢;(have hlen : l2.length = d.l.length := by rw [hl2, List.length_set]);have hLb := ok.left
    by_cases hpos : 0 < d.left
    ·(have hlfe : lf = d.left := by have := hlf.same; omega);subst hlfe;have hsub := IntWalk.i64_in (d.left - 1) (by omega);have hf1 := zC hb 2;have hb1 := zG hb 2 (.int .i64 (d.left - 1));have hr1 := (Below.heap_setCell w ⟨g, 2, none⟩ (.int .i64 (d.left - 1)) q (Ne.symm hne)).trans hr;have ht1 : Turned S w (w.setCell ⟨g, 2, none⟩ (.int .i64 (d.left - 1))) := (Turned.refl S w).set hg 2 (.int .i64 (d.left - 1));have hy1 := hy.turned ht1 hT;have hcp := blk_copy hr1 ok.each hil hy1 (Nat.le_refl _);rw [hx, List.append_nil, ← hl2] at hcp
     (generalize hW1 : w.setCell ⟨g, 2, none⟩ (.int .i64 (d.left - 1)) = w1 at *);have hc01 : w1.cell? ⟨g, 0, none⟩ = some (.slice (some ⟨q, 0, none⟩) d.l.length cap) := zA hb1 0;have hr2 := zF (new := (u8s l2.flatten).toArray) hr1;have hb2 := (zM w1 q g (u8s l2.flatten).toArray hne).trans hb1;(have ht2 : Turned S w1 (w1.setRow q (u8s l2.flatten).toArray) := (zO (w := w1) (g := q) _).mono fun _ _ e => by rw [e]; exact hq);have ht2 := ht1.trans ht2 fun _ _ h => h
     (generalize w1.setRow q (u8s l2.flatten).toArray = w2 at *);rw [if_pos hpos] at ok2 ⊢;have HR := Lib.hid (show Dk w2 S g { d with l := l2, left := d.left - 1 } from Dk.put (d := { d with l := l2, left := d.left - 1 }) (cap := cap) (lf := d.left - 1) hg hq hne (by rw [hb2, ← hlen]; rfl) hr2 ok2 (by show l2.length ≤ cap; omega) (by show l2.length ≤ 65536; omega) ⟨.inl rfl, by omega, by omega⟩);have HT := Lib.hid ht2;have HW1 := Lib.hid (fun _ : Unit => hW1);(have hlz : (d.left == 0) = false := by simpa using hl);clear h hy hy1 hbl h0 hg hq hne hb hr hb1 hr1 ht1 ok ok2 hcap hfew hil hx hl2 hr2 hb2 ht2 hwm hi0 hi1 hlen hdn hc2 hc3 hlf hl hT hW1
     generalize d.left = lf at *
     go_enter Tryz.func15, Tryz.ntmps15
     go_upto_region 12 with (go_at_call 43; refine hck.mono ?_; clear hck; rintro _ _ ⟨rfl, rfl⟩)
     rw [HW1.out ()]
     go_wp2_with fail
     go_ret
     exact ⟨rfl, HR.out, HT.out⟩
    ·have hpos' : ¬ 0 < lf := by have := hlf.same; omega
     have hlz : (lf == 0) = false := by have := hlf.same; have : lf ≠ 0 := by omega
                                        simpa using this
     have hr2 := zF (new := (u8s l2.flatten).toArray) hr;have hb2 := (zM w q g (u8s l2.flatten).toArray hne).trans hb;have ht2 : Turned S w (w.setRow q (u8s l2.flatten).toArray) := (zO (w := w) (g := q) _).mono fun _ _ e => by rw [e]; exact hq
     (generalize w.setRow q (u8s l2.flatten).toArray = w2 at *);rw [if_neg hpos] at ok2 ⊢;have HR := Lib.hid (show Dk w2 S g { d with l := l2, left := d.left } from Dk.put (d := { d with l := l2, left := d.left }) (cap := cap) (lf := lf) hg hq hne (by rw [hb2, ← hlen]) hr2 ok2 (by show l2.length ≤ cap; omega) (by show l2.length ≤ 65536; omega) hlf);have HT := Lib.hid ht2;clear h hy hbl h0 hg hq hne hb hr ok ok2 hcap hfew hil hx hl2 hr2 hb2 ht2 hwm hi0 hi1 hlen hdn hc2 hc3 hlf hl hpos hLb hT
     go_enter Tryz.func15, Tryz.ntmps15
     go_wp2_with (go_at_call 43; refine hck.mono ?_; clear hck; rintro _ _ ⟨rfl, rfl⟩)
     go_ret
     exact ⟨rfl, HR.out, HT.out⟩
  ·(have hw : zm d i b = (d, 1) := by rw [readM_no (.inr (by omega)), if_pos h0]);rw [hw];have HH := Lib.hid h;(have hn' : ((n : Int) != 128) = true := by simp; omega);clear h hy hbl h0 hn hw
   go_enter Tryz.func15, Tryz.ntmps15
   go_wp2_with (go_at_call 43; refine hck.mono ?_; clear hck; rintro _ _ ⟨rfl, rfl⟩)
   go_ret
   exact ⟨rfl, HH.out, Turned.refl _ _⟩
 ·have hw : zm d i b = (d, (zz d i).2) := by rw [readM_no (.inl h0), if_neg h0]
  rw [hw];have HH := Lib.hid h;obtain ⟨E, hE⟩ := sqz ((zz d i).2);rw [← hE] at hck ⊢;have hE0 : (E != 0) = true := by rw [hE]; simpa using h0
  clear h hy hbl h0 hw hE
  go_enter Tryz.func15, Tryz.ntmps15
  go_wp2_with (go_at_call 43; refine hck.mono ?_; clear hck; rintro _ _ ⟨rfl, rfl⟩)
  go_ret
  exact ⟨rfl, HH.out, Turned.refl _ _⟩
end Go.Proofs.YtmioifcbkhpdaaaGreat
