/-
  The document's reading of a row with its length, by value.
-/
import Derived.Test.YtmioifcbkhpdaaaGreatPkPl14
import Derived.Test.YtmioifcbkhpdaaaGreatPkPl12
import Derived.Test.YtmioifcbkhpdaaaGreatPkPl01
import Derived.Test.YtmioifcbkhpdaaaGreatPkPl05
import Derived.Test.YtmioifcbkhpdaaaGreatPkPl02
import Derived.Test.YtmioifcbkhpdaaaGreatPkPl04
import Derived.Lib.Strings
namespace Go.Proofs.YtmioifcbkhpdaaaGreat
set_option maxHeartbeats 16000000
set_option maxRecDepth 100000
open Go.RowKit Codec
def h2V (q0 : Nat) (c0 : Bool) (v0 s0 : Value) (q1 : Nat) (c1 : Bool) (v1 s1 : Value) : Array Value := #[.pointer (some ⟨q0, 0, none⟩), .bool c0, v0, s0, .pointer (some ⟨q1, 0, none⟩), .bool c1, v1, s1]
def CntR (w1 : World) (c0 c1 : Bool) (f0 f1 : Nat) (at_ i : Value) (wr : World) : Prop :=
 Below w1.heap.size w1 wr ∧ ((i = .int .i64 0 ∧ at_ = .int .i64 (-1)) ∨ (i = .int .i64 1 ∧ at_ = .int .i64 (if c0 then 0 else -1)) ∨ (i = .int .i64 2 ∧ at_ = .int .i64 (cntM c0 c1 f0 f1)))
theorem counting_any {w : World} {S0 S1 : Nat → Prop} {q0 q1 g : Nat} {m0 m1 : LM} (h0 : Lg w S0 q0 g m0) (h1 : Lg w S1 q1 g m1) (c0 c1 : Bool) (b0 b1 : Option Nat) (A0 A1 : Option Addr) (n0 n1 k0 k1 : Nat) :
    Calls Tryz.prog 27 #[.agg (h2V q0 c0 (.map b0) (.slice A0 n0 k0) q1 c1 (.map b1) (.slice A1 n1 k1))] w fun e w' => e = .returned (.int .i64 (cntM c0 c1 m0.first m1.first)) ∧ Below w.heap.size w w' := by
 have hal : Below w.heap.size w (w.alloc (.cells #[.pointer (some ⟨q0, 0, none⟩), .bool c0, .map b0, .slice A0 n0 k0, .pointer (some ⟨q1, 0, none⟩), .bool c1, .map b1, .slice A1 n1 k1] 77)) := (Below.refl _ _).alloc (Nat.le_refl _) _;have hnew := heap_alloc_new w (.cells #[.pointer (some ⟨q0, 0, none⟩), .bool c0, .map b0, .slice A0 n0 k0, .pointer (some ⟨q1, 0, none⟩), .bool c1, .map b1, .slice A1 n1 k1] 77);have HAL := sq2 hal hnew;have HLG := sq2 (h0.below hal) (h1.below hal);have hzh := zero_half;unfold h2V;clear h0 h1 hal hnew;have hi0 : ∀ W, (Instr.index 77 (.agg #[.pointer (some ⟨q0, 0, none⟩), .bool c0, .map b0, .slice A0 n0 k0, .pointer (some ⟨q1, 0, none⟩), .bool c1, .map b1, .slice A1 n1 k1]) (.int .i64 0)).run Tryz.prog W = .ok (.agg #[.pointer (some ⟨q0, 0, none⟩), .bool c0, .map b0, .slice A0 n0 k0]) W := fun W => by kernel_rfl
 have hi1 : ∀ W, (Instr.index 77 (.agg #[.pointer (some ⟨q0, 0, none⟩), .bool c0, .map b0, .slice A0 n0 k0, .pointer (some ⟨q1, 0, none⟩), .bool c1, .map b1, .slice A1 n1 k1]) (.int .i64 1)).run Tryz.prog W = .ok (.agg #[.pointer (some ⟨q1, 0, none⟩), .bool c1, .map b1, .slice A1 n1 k1]) W := fun W => by kernel_rfl
 go_enter Tryz.func27, Tryz.ntmps27
 go_upto_region 2 with fail
 generalize w.alloc (.cells #[.pointer (some ⟨q0, 0, none⟩), .bool c0, .map b0, .slice A0 n0 k0, .pointer (some ⟨q1, 0, none⟩), .bool c1, .map b1, .slice A1 n1 k1] 77) = w1 at *
 go_upto_region 3 with (refine yA 1 HAL.out.2 Tryz.underlying77 half2_info ?_)
 have H0 : Hid (CntR w1 c0 c1 m0.first m1.first (.int .i64 (-1)) (.int .i64 0) w1) := Lib.hid ⟨Below.refl _ _, .inl ⟨rfl, rfl⟩⟩
 go_loopw [3, 7] (fun at_ i wr => CntR w1 c0 c1 m0.first m1.first at_ i wr) (fun _ i _ => 2 - (intOf i).toNat)
 case atStart => exact H0.out
 case round =>
  obtain ⟨hb, hr⟩ := hrel;clear H0;have HB := Lib.hid hb;clear hb;rcases hr with ⟨rfl, rfl⟩ | ⟨rfl, rfl⟩ | ⟨rfl, rfl⟩
  ·skip
   cases c0
   ·go_upto_region 5 with fail
    have hd5 : Below wr.heap.size wr (wr.alloc (.cells #[.pointer (some ⟨q0, 0, none⟩), .bool false, .map b0, .slice A0 n0 k0] 76)) := (Below.refl _ _).alloc (Nat.le_refl _) _;have hn5 := heap_alloc_new wr (.cells #[.pointer (some ⟨q0, 0, none⟩), .bool false, .map b0, .slice A0 n0 k0] 76);(have hs5 : wr.heap.size < (wr.alloc (.cells #[.pointer (some ⟨q0, 0, none⟩), .bool false, .map b0, .slice A0 n0 k0] 76)).heap.size := by simp);have H5 := sq4 hd5 hn5 hs5 (HB.out.trans (hd5.mono HB.out.size));clear hd5 hn5 hs5
    generalize wr.alloc (.cells #[.pointer (some ⟨q0, 0, none⟩), .bool false, .map b0, .slice A0 n0 k0] 76) = w5 at *
    have HC : Hid (wr.heap.size < w5.drew.heap.size ∧ w5.drew.cell? ⟨wr.heap.size, 0, none⟩ = some (.pointer (some ⟨q0, 0, none⟩)) ∧ w5.drew.cell? ⟨wr.heap.size, 1, none⟩ = some (.bool false) ∧ w.heap.size < w5.drew.heap.size ∧ w5.drew.cell? ⟨w.heap.size, 0, none⟩ = some (.pointer (some ⟨q0, 0, none⟩)) ∧
        (∀ W, Below w5.drew.heap.size w5.drew W → Calls Tryz.prog 54 #[.pointer (some ⟨q0, 0, none⟩)] W fun e w' => e = .returned (.int .u64 (m0.first : Int)) ∧ W = w') ∧
        (∀ W, Below w5.drew.heap.size w5.drew W → Calls Tryz.prog 54 #[.pointer (some ⟨q1, 0, none⟩)] W fun e w' => e = .returned (.int .u64 (m1.first : Int)) ∧ W = w')) :=
     Lib.hid ⟨H5.out.2.2.1, zA (w := w5.drew) H5.out.2.1 0, zA (w := w5.drew) H5.out.2.1 1, Nat.lt_of_lt_of_le (zB HAL.out.2) H5.out.2.2.2.size,
      zA (w := w5.drew) ((H5.out.2.2.2.block _ (zB HAL.out.2)).trans HAL.out.2) 0, fun W hb => yS ((HLG.out.1.below H5.out.2.2.2).drew.below hb), fun W hb => yS ((HLG.out.2.below H5.out.2.2.2).drew.below hb)⟩
    refine sqg [sqv (.pointer (some ⟨wr.heap.size, 1, none⟩)), sqv (.bool false), sqv (.bool false), sqv undef, sqv undef, sqv undef, sqv undef, sqv undef, sqv undef, sqv undef, sqv undef, sqv undef, sqv undef, sqv undef, sqv undef, sqv undef, sqv (.bool false)] 31 ?gmono ?gsteps ?gfin
    case gmono => (iterate 17 refine ⟨sqm, ?_⟩); trivial
    case gsteps =>
     show Grow.allBelow _ 17
     iterate 17 refine And.intro ?_ ?_
     exact trivial
     ·refine sqi ?_;intro E W ec eg ef hG hd hu R HR;have e5 : E (.tmp 5) = .pointer (some ⟨wr.heap.size, 0, none⟩) := hu 5;clear hd hu;go_simp;exact sqh HR
     ·refine sqi ?_;intro E W ec eg ef hG hd hu R HR;have e11 := sqe (hd 0 11);clear hd hu;have hcl := (hG.cell (p := ⟨wr.heap.size, 1, none⟩) HC.out.1).trans HC.out.2.2.1;go_simp;exact sqh HR
     ·exact sqd 1 12
     ·exact sqx 2 13
     ·exact sqx 2 13
     ·exact sqx 2 13
     ·exact sqf 5 16 false
     ·exact sqf 5 16 false
     ·exact sqf 5 16 false
     ·exact sqf 5 16 false
     ·exact sqf 5 16 false
     ·exact sqf 5 16 false
     ·exact sqf 5 16 false
     ·exact sqf 5 16 false
     ·exact sqf 5 16 false
     ·exact sqx 2 13
     ·refine sqi ?_;intro E W ec eg ef hG hd hu R HR;have e13 := sqe (hd 2 13);have e26 := sqe (hd 15 26);clear hd hu;go_simp;exact sqh HR
    case gfin =>
     intro W hG
     iterate 17 (refine Grow.fin_dst (by rfl) ?_; rintro _ rfl)
     simp only [Act.put, sqp];refine Grow.fin_end ?_;have HFG := Lib.hid (show Below w5.heap.size w5 W from ⟨hG.os, hG.tape, hG.output, hG.size, hG.block⟩);clear hG
     go_wp2_with fail
     go_roundw
     case rel =>
      unfold CntR;refine ⟨H5.out.2.2.2.trans (HFG.out.mono H5.out.2.2.2.size), .inr (.inl ?_)⟩;exact ⟨rfl, by first | rfl | simp⟩
     case measure => simp only [intOf]; omega
   ·go_upto_region 5 with fail
    have hd5 : Below wr.heap.size wr (wr.alloc (.cells #[.pointer (some ⟨q0, 0, none⟩), .bool true, .map b0, .slice A0 n0 k0] 76)) := (Below.refl _ _).alloc (Nat.le_refl _) _;have hn5 := heap_alloc_new wr (.cells #[.pointer (some ⟨q0, 0, none⟩), .bool true, .map b0, .slice A0 n0 k0] 76);(have hs5 : wr.heap.size < (wr.alloc (.cells #[.pointer (some ⟨q0, 0, none⟩), .bool true, .map b0, .slice A0 n0 k0] 76)).heap.size := by simp);have H5 := sq4 hd5 hn5 hs5 (HB.out.trans (hd5.mono HB.out.size));clear hd5 hn5 hs5
    generalize wr.alloc (.cells #[.pointer (some ⟨q0, 0, none⟩), .bool true, .map b0, .slice A0 n0 k0] 76) = w5 at *
    have HC : Hid (wr.heap.size < w5.drew.heap.size ∧ w5.drew.cell? ⟨wr.heap.size, 0, none⟩ = some (.pointer (some ⟨q0, 0, none⟩)) ∧ w5.drew.cell? ⟨wr.heap.size, 1, none⟩ = some (.bool true) ∧ w.heap.size < w5.drew.heap.size ∧ w5.drew.cell? ⟨w.heap.size, 0, none⟩ = some (.pointer (some ⟨q0, 0, none⟩)) ∧
        (∀ W, Below w5.drew.heap.size w5.drew W → Calls Tryz.prog 54 #[.pointer (some ⟨q0, 0, none⟩)] W fun e w' => e = .returned (.int .u64 (m0.first : Int)) ∧ W = w') ∧
        (∀ W, Below w5.drew.heap.size w5.drew W → Calls Tryz.prog 54 #[.pointer (some ⟨q1, 0, none⟩)] W fun e w' => e = .returned (.int .u64 (m1.first : Int)) ∧ W = w')) :=
     Lib.hid ⟨H5.out.2.2.1, zA (w := w5.drew) H5.out.2.1 0, zA (w := w5.drew) H5.out.2.1 1, Nat.lt_of_lt_of_le (zB HAL.out.2) H5.out.2.2.2.size,
      zA (w := w5.drew) ((H5.out.2.2.2.block _ (zB HAL.out.2)).trans HAL.out.2) 0, fun W hb => yS ((HLG.out.1.below H5.out.2.2.2).drew.below hb), fun W hb => yS ((HLG.out.2.below H5.out.2.2.2).drew.below hb)⟩
    refine sqg [sqv (.pointer (some ⟨wr.heap.size, 1, none⟩)), sqv (.bool true), sqv (.bool true), sqv (.int .i64 (-1)), sqv (.bool true), sqv (.bool true), sqv undef, sqv undef, sqv undef, sqv undef, sqv undef, sqv undef, sqv undef, sqv undef, sqv undef, sqv (.bool true), sqv (.bool true)] 31 ?gmono ?gsteps ?gfin
    case gmono => (iterate 17 refine ⟨sqm, ?_⟩); trivial
    case gsteps =>
     show Grow.allBelow _ 17
     iterate 17 refine And.intro ?_ ?_
     exact trivial
     ·refine sqi ?_;intro E W ec eg ef hG hd hu R HR;have e5 : E (.tmp 5) = .pointer (some ⟨wr.heap.size, 0, none⟩) := hu 5;clear hd hu;go_simp;exact sqh HR
     ·refine sqi ?_;intro E W ec eg ef hG hd hu R HR;have e11 := sqe (hd 0 11);clear hd hu;have hcl := (hG.cell (p := ⟨wr.heap.size, 1, none⟩) HC.out.1).trans HC.out.2.2.1;go_simp;exact sqh HR
     ·exact sqd 1 12
     ·exact yX 2 13 true 3
     ·refine sqo 2 13 ?_;intro E W ec eg ef hG hd hu R HR;have e14 := sqe (hd 3 14);clear hd hu;go_simp;exact sqh HR
     ·exact sqdo 2 13 true 4 15
     ·exact sqy 5 16
     ·exact sqy 5 16
     ·exact sqy 5 16
     ·exact sqy 5 16
     ·exact sqy 5 16
     ·exact sqy 5 16
     ·exact sqy 5 16
     ·exact sqy 5 16
     ·exact sqy 5 16
     ·refine sqo 2 13 ?_;intro E W ec eg ef hG hd hu R HR;have e16 := sqe (hd 5 16);have e25 := sqe (hd 14 25);clear hd hu;go_simp;exact sqh HR
     ·refine sqi ?_;intro E W ec eg ef hG hd hu R HR;have e13 := sqe (hd 2 13);have e26 := sqe (hd 15 26);clear hd hu;go_simp;exact sqh HR
    case gfin =>
     intro W hG
     iterate 17 (refine Grow.fin_dst (by rfl) ?_; rintro _ rfl)
     simp only [Act.put, sqp];refine Grow.fin_end ?_;have HFG := Lib.hid (show Below w5.heap.size w5 W from ⟨hG.os, hG.tape, hG.output, hG.size, hG.block⟩);clear hG
     go_wp2_with fail
     go_roundw
     case rel =>
      unfold CntR;refine ⟨H5.out.2.2.2.trans (HFG.out.mono H5.out.2.2.2.size), .inr (.inl ?_)⟩;exact ⟨rfl, by first | rfl | simp⟩
     case measure => simp only [intOf]; omega
  ·skip
   cases c0
   ·cases c1
    ·go_upto_region 5 with fail
     have hd5 : Below wr.heap.size wr (wr.alloc (.cells #[.pointer (some ⟨q1, 0, none⟩), .bool false, .map b1, .slice A1 n1 k1] 76)) := (Below.refl _ _).alloc (Nat.le_refl _) _;have hn5 := heap_alloc_new wr (.cells #[.pointer (some ⟨q1, 0, none⟩), .bool false, .map b1, .slice A1 n1 k1] 76);(have hs5 : wr.heap.size < (wr.alloc (.cells #[.pointer (some ⟨q1, 0, none⟩), .bool false, .map b1, .slice A1 n1 k1] 76)).heap.size := by simp);have H5 := sq4 hd5 hn5 hs5 (HB.out.trans (hd5.mono HB.out.size));clear hd5 hn5 hs5
     generalize wr.alloc (.cells #[.pointer (some ⟨q1, 0, none⟩), .bool false, .map b1, .slice A1 n1 k1] 76) = w5 at *
     have HC : Hid (wr.heap.size < w5.drew.heap.size ∧ w5.drew.cell? ⟨wr.heap.size, 0, none⟩ = some (.pointer (some ⟨q1, 0, none⟩)) ∧ w5.drew.cell? ⟨wr.heap.size, 1, none⟩ = some (.bool false) ∧ w.heap.size < w5.drew.heap.size ∧ w5.drew.cell? ⟨w.heap.size, 0, none⟩ = some (.pointer (some ⟨q0, 0, none⟩)) ∧
         (∀ W, Below w5.drew.heap.size w5.drew W → Calls Tryz.prog 54 #[.pointer (some ⟨q0, 0, none⟩)] W fun e w' => e = .returned (.int .u64 (m0.first : Int)) ∧ W = w') ∧
         (∀ W, Below w5.drew.heap.size w5.drew W → Calls Tryz.prog 54 #[.pointer (some ⟨q1, 0, none⟩)] W fun e w' => e = .returned (.int .u64 (m1.first : Int)) ∧ W = w')) :=
      Lib.hid ⟨H5.out.2.2.1, zA (w := w5.drew) H5.out.2.1 0, zA (w := w5.drew) H5.out.2.1 1, Nat.lt_of_lt_of_le (zB HAL.out.2) H5.out.2.2.2.size,
       zA (w := w5.drew) ((H5.out.2.2.2.block _ (zB HAL.out.2)).trans HAL.out.2) 0, fun W hb => yS ((HLG.out.1.below H5.out.2.2.2).drew.below hb), fun W hb => yS ((HLG.out.2.below H5.out.2.2.2).drew.below hb)⟩
     refine sqg [sqv (.pointer (some ⟨wr.heap.size, 1, none⟩)), sqv (.bool false), sqv (.bool false), sqv undef, sqv undef, sqv undef, sqv undef, sqv undef, sqv undef, sqv undef, sqv undef, sqv undef, sqv undef, sqv undef, sqv undef, sqv undef, sqv (.bool false)] 31 ?gmono ?gsteps ?gfin
     case gmono => (iterate 17 refine ⟨sqm, ?_⟩); trivial
     case gsteps =>
      show Grow.allBelow _ 17
      iterate 17 refine And.intro ?_ ?_
      exact trivial
      ·refine sqi ?_;intro E W ec eg ef hG hd hu R HR;have e5 : E (.tmp 5) = .pointer (some ⟨wr.heap.size, 0, none⟩) := hu 5;clear hd hu;go_simp;exact sqh HR
      ·refine sqi ?_;intro E W ec eg ef hG hd hu R HR;have e11 := sqe (hd 0 11);clear hd hu;have hcl := (hG.cell (p := ⟨wr.heap.size, 1, none⟩) HC.out.1).trans HC.out.2.2.1;go_simp;exact sqh HR
      ·exact sqd 1 12
      ·exact sqx 2 13
      ·exact sqx 2 13
      ·exact sqx 2 13
      ·exact sqf 5 16 false
      ·exact sqf 5 16 false
      ·exact sqf 5 16 false
      ·exact sqf 5 16 false
      ·exact sqf 5 16 false
      ·exact sqf 5 16 false
      ·exact sqf 5 16 false
      ·exact sqf 5 16 false
      ·exact sqf 5 16 false
      ·exact sqx 2 13
      ·refine sqi ?_;intro E W ec eg ef hG hd hu R HR;have e13 := sqe (hd 2 13);have e26 := sqe (hd 15 26);clear hd hu;go_simp;exact sqh HR
     case gfin =>
      intro W hG
      iterate 17 (refine Grow.fin_dst (by rfl) ?_; rintro _ rfl)
      simp only [Act.put, sqp];refine Grow.fin_end ?_;have HFG := Lib.hid (show Below w5.heap.size w5 W from ⟨hG.os, hG.tape, hG.output, hG.size, hG.block⟩);clear hG
      go_wp2_with fail
      go_roundw
      case rel =>
       unfold CntR;refine ⟨H5.out.2.2.2.trans (HFG.out.mono H5.out.2.2.2.size), .inr (.inr ?_)⟩;exact ⟨rfl, by first | rfl | simp [cntM]⟩
      case measure => simp only [intOf]; omega
    ·go_upto_region 5 with fail
     have hd5 : Below wr.heap.size wr (wr.alloc (.cells #[.pointer (some ⟨q1, 0, none⟩), .bool true, .map b1, .slice A1 n1 k1] 76)) := (Below.refl _ _).alloc (Nat.le_refl _) _;have hn5 := heap_alloc_new wr (.cells #[.pointer (some ⟨q1, 0, none⟩), .bool true, .map b1, .slice A1 n1 k1] 76);(have hs5 : wr.heap.size < (wr.alloc (.cells #[.pointer (some ⟨q1, 0, none⟩), .bool true, .map b1, .slice A1 n1 k1] 76)).heap.size := by simp);have H5 := sq4 hd5 hn5 hs5 (HB.out.trans (hd5.mono HB.out.size));clear hd5 hn5 hs5
     generalize wr.alloc (.cells #[.pointer (some ⟨q1, 0, none⟩), .bool true, .map b1, .slice A1 n1 k1] 76) = w5 at *
     have HC : Hid (wr.heap.size < w5.drew.heap.size ∧ w5.drew.cell? ⟨wr.heap.size, 0, none⟩ = some (.pointer (some ⟨q1, 0, none⟩)) ∧ w5.drew.cell? ⟨wr.heap.size, 1, none⟩ = some (.bool true) ∧ w.heap.size < w5.drew.heap.size ∧ w5.drew.cell? ⟨w.heap.size, 0, none⟩ = some (.pointer (some ⟨q0, 0, none⟩)) ∧
         (∀ W, Below w5.drew.heap.size w5.drew W → Calls Tryz.prog 54 #[.pointer (some ⟨q0, 0, none⟩)] W fun e w' => e = .returned (.int .u64 (m0.first : Int)) ∧ W = w') ∧
         (∀ W, Below w5.drew.heap.size w5.drew W → Calls Tryz.prog 54 #[.pointer (some ⟨q1, 0, none⟩)] W fun e w' => e = .returned (.int .u64 (m1.first : Int)) ∧ W = w')) :=
      Lib.hid ⟨H5.out.2.2.1, zA (w := w5.drew) H5.out.2.1 0, zA (w := w5.drew) H5.out.2.1 1, Nat.lt_of_lt_of_le (zB HAL.out.2) H5.out.2.2.2.size,
       zA (w := w5.drew) ((H5.out.2.2.2.block _ (zB HAL.out.2)).trans HAL.out.2) 0, fun W hb => yS ((HLG.out.1.below H5.out.2.2.2).drew.below hb), fun W hb => yS ((HLG.out.2.below H5.out.2.2.2).drew.below hb)⟩
     refine sqg [sqv (.pointer (some ⟨wr.heap.size, 1, none⟩)), sqv (.bool true), sqv (.bool true), sqv (.int .i64 (-1)), sqv (.bool true), sqv (.bool true), sqv undef, sqv undef, sqv undef, sqv undef, sqv undef, sqv undef, sqv undef, sqv undef, sqv undef, sqv (.bool true), sqv (.bool true)] 31 ?gmono ?gsteps ?gfin
     case gmono => (iterate 17 refine ⟨sqm, ?_⟩); trivial
     case gsteps =>
      show Grow.allBelow _ 17
      iterate 17 refine And.intro ?_ ?_
      exact trivial
      ·refine sqi ?_;intro E W ec eg ef hG hd hu R HR;have e5 : E (.tmp 5) = .pointer (some ⟨wr.heap.size, 0, none⟩) := hu 5;clear hd hu;go_simp;exact sqh HR
      ·refine sqi ?_;intro E W ec eg ef hG hd hu R HR;have e11 := sqe (hd 0 11);clear hd hu;have hcl := (hG.cell (p := ⟨wr.heap.size, 1, none⟩) HC.out.1).trans HC.out.2.2.1;go_simp;exact sqh HR
      ·exact sqd 1 12
      ·exact yX 2 13 true 3
      ·refine sqo 2 13 ?_;intro E W ec eg ef hG hd hu R HR;have e14 := sqe (hd 3 14);clear hd hu;go_simp;exact sqh HR
      ·exact sqdo 2 13 true 4 15
      ·exact sqy 5 16
      ·exact sqy 5 16
      ·exact sqy 5 16
      ·exact sqy 5 16
      ·exact sqy 5 16
      ·exact sqy 5 16
      ·exact sqy 5 16
      ·exact sqy 5 16
      ·exact sqy 5 16
      ·refine sqo 2 13 ?_;intro E W ec eg ef hG hd hu R HR;have e16 := sqe (hd 5 16);have e25 := sqe (hd 14 25);clear hd hu;go_simp;exact sqh HR
      ·refine sqi ?_;intro E W ec eg ef hG hd hu R HR;have e13 := sqe (hd 2 13);have e26 := sqe (hd 15 26);clear hd hu;go_simp;exact sqh HR
     case gfin =>
      intro W hG
      iterate 17 (refine Grow.fin_dst (by rfl) ?_; rintro _ rfl)
      simp only [Act.put, sqp];refine Grow.fin_end ?_;have HFG := Lib.hid (show Below w5.heap.size w5 W from ⟨hG.os, hG.tape, hG.output, hG.size, hG.block⟩);clear hG
      go_wp2_with fail
      go_roundw
      case rel =>
       unfold CntR;refine ⟨H5.out.2.2.2.trans (HFG.out.mono H5.out.2.2.2.size), .inr (.inr ?_)⟩;exact ⟨rfl, by first | rfl | simp [cntM]⟩
      case measure => simp only [intOf]; omega
   ·cases c1
    ·go_upto_region 5 with fail
     have hd5 : Below wr.heap.size wr (wr.alloc (.cells #[.pointer (some ⟨q1, 0, none⟩), .bool false, .map b1, .slice A1 n1 k1] 76)) := (Below.refl _ _).alloc (Nat.le_refl _) _;have hn5 := heap_alloc_new wr (.cells #[.pointer (some ⟨q1, 0, none⟩), .bool false, .map b1, .slice A1 n1 k1] 76);(have hs5 : wr.heap.size < (wr.alloc (.cells #[.pointer (some ⟨q1, 0, none⟩), .bool false, .map b1, .slice A1 n1 k1] 76)).heap.size := by simp);have H5 := sq4 hd5 hn5 hs5 (HB.out.trans (hd5.mono HB.out.size));clear hd5 hn5 hs5
     generalize wr.alloc (.cells #[.pointer (some ⟨q1, 0, none⟩), .bool false, .map b1, .slice A1 n1 k1] 76) = w5 at *
     have HC : Hid (wr.heap.size < w5.drew.heap.size ∧ w5.drew.cell? ⟨wr.heap.size, 0, none⟩ = some (.pointer (some ⟨q1, 0, none⟩)) ∧ w5.drew.cell? ⟨wr.heap.size, 1, none⟩ = some (.bool false) ∧ w.heap.size < w5.drew.heap.size ∧ w5.drew.cell? ⟨w.heap.size, 0, none⟩ = some (.pointer (some ⟨q0, 0, none⟩)) ∧
         (∀ W, Below w5.drew.heap.size w5.drew W → Calls Tryz.prog 54 #[.pointer (some ⟨q0, 0, none⟩)] W fun e w' => e = .returned (.int .u64 (m0.first : Int)) ∧ W = w') ∧
         (∀ W, Below w5.drew.heap.size w5.drew W → Calls Tryz.prog 54 #[.pointer (some ⟨q1, 0, none⟩)] W fun e w' => e = .returned (.int .u64 (m1.first : Int)) ∧ W = w')) :=
      Lib.hid ⟨H5.out.2.2.1, zA (w := w5.drew) H5.out.2.1 0, zA (w := w5.drew) H5.out.2.1 1, Nat.lt_of_lt_of_le (zB HAL.out.2) H5.out.2.2.2.size,
       zA (w := w5.drew) ((H5.out.2.2.2.block _ (zB HAL.out.2)).trans HAL.out.2) 0, fun W hb => yS ((HLG.out.1.below H5.out.2.2.2).drew.below hb), fun W hb => yS ((HLG.out.2.below H5.out.2.2.2).drew.below hb)⟩
     refine sqg [sqv (.pointer (some ⟨wr.heap.size, 1, none⟩)), sqv (.bool false), sqv (.bool false), sqv undef, sqv undef, sqv undef, sqv undef, sqv undef, sqv undef, sqv undef, sqv undef, sqv undef, sqv undef, sqv undef, sqv undef, sqv undef, sqv (.bool false)] 31 ?gmono ?gsteps ?gfin
     case gmono => (iterate 17 refine ⟨sqm, ?_⟩); trivial
     case gsteps =>
      show Grow.allBelow _ 17
      iterate 17 refine And.intro ?_ ?_
      exact trivial
      ·refine sqi ?_;intro E W ec eg ef hG hd hu R HR;have e5 : E (.tmp 5) = .pointer (some ⟨wr.heap.size, 0, none⟩) := hu 5;clear hd hu;go_simp;exact sqh HR
      ·refine sqi ?_;intro E W ec eg ef hG hd hu R HR;have e11 := sqe (hd 0 11);clear hd hu;have hcl := (hG.cell (p := ⟨wr.heap.size, 1, none⟩) HC.out.1).trans HC.out.2.2.1;go_simp;exact sqh HR
      ·exact sqd 1 12
      ·exact sqx 2 13
      ·exact sqx 2 13
      ·exact sqx 2 13
      ·exact sqf 5 16 false
      ·exact sqf 5 16 false
      ·exact sqf 5 16 false
      ·exact sqf 5 16 false
      ·exact sqf 5 16 false
      ·exact sqf 5 16 false
      ·exact sqf 5 16 false
      ·exact sqf 5 16 false
      ·exact sqf 5 16 false
      ·exact sqx 2 13
      ·refine sqi ?_;intro E W ec eg ef hG hd hu R HR;have e13 := sqe (hd 2 13);have e26 := sqe (hd 15 26);clear hd hu;go_simp;exact sqh HR
     case gfin =>
      intro W hG
      iterate 17 (refine Grow.fin_dst (by rfl) ?_; rintro _ rfl)
      simp only [Act.put, sqp];refine Grow.fin_end ?_;have HFG := Lib.hid (show Below w5.heap.size w5 W from ⟨hG.os, hG.tape, hG.output, hG.size, hG.block⟩);clear hG
      go_wp2_with fail
      go_roundw
      case rel =>
       unfold CntR;refine ⟨H5.out.2.2.2.trans (HFG.out.mono H5.out.2.2.2.size), .inr (.inr ?_)⟩;exact ⟨rfl, by first | rfl | simp [cntM]⟩
      case measure => simp only [intOf]; omega
    ·go_upto_region 5 with fail
     have hd5 : Below wr.heap.size wr (wr.alloc (.cells #[.pointer (some ⟨q1, 0, none⟩), .bool true, .map b1, .slice A1 n1 k1] 76)) := (Below.refl _ _).alloc (Nat.le_refl _) _;have hn5 := heap_alloc_new wr (.cells #[.pointer (some ⟨q1, 0, none⟩), .bool true, .map b1, .slice A1 n1 k1] 76);(have hs5 : wr.heap.size < (wr.alloc (.cells #[.pointer (some ⟨q1, 0, none⟩), .bool true, .map b1, .slice A1 n1 k1] 76)).heap.size := by simp);have H5 := sq4 hd5 hn5 hs5 (HB.out.trans (hd5.mono HB.out.size));clear hd5 hn5 hs5
     generalize wr.alloc (.cells #[.pointer (some ⟨q1, 0, none⟩), .bool true, .map b1, .slice A1 n1 k1] 76) = w5 at *
     have HC : Hid (wr.heap.size < w5.drew.heap.size ∧ w5.drew.cell? ⟨wr.heap.size, 0, none⟩ = some (.pointer (some ⟨q1, 0, none⟩)) ∧ w5.drew.cell? ⟨wr.heap.size, 1, none⟩ = some (.bool true) ∧ w.heap.size < w5.drew.heap.size ∧ w5.drew.cell? ⟨w.heap.size, 0, none⟩ = some (.pointer (some ⟨q0, 0, none⟩)) ∧
         (∀ W, Below w5.drew.heap.size w5.drew W → Calls Tryz.prog 54 #[.pointer (some ⟨q0, 0, none⟩)] W fun e w' => e = .returned (.int .u64 (m0.first : Int)) ∧ W = w') ∧
         (∀ W, Below w5.drew.heap.size w5.drew W → Calls Tryz.prog 54 #[.pointer (some ⟨q1, 0, none⟩)] W fun e w' => e = .returned (.int .u64 (m1.first : Int)) ∧ W = w')) :=
      Lib.hid ⟨H5.out.2.2.1, zA (w := w5.drew) H5.out.2.1 0, zA (w := w5.drew) H5.out.2.1 1, Nat.lt_of_lt_of_le (zB HAL.out.2) H5.out.2.2.2.size,
       zA (w := w5.drew) ((H5.out.2.2.2.block _ (zB HAL.out.2)).trans HAL.out.2) 0, fun W hb => yS ((HLG.out.1.below H5.out.2.2.2).drew.below hb), fun W hb => yS ((HLG.out.2.below H5.out.2.2.2).drew.below hb)⟩
     refine sqg [sqv (.pointer (some ⟨wr.heap.size, 1, none⟩)), sqv (.bool true), sqv (.bool true), sqv (.int .i64 (0)), sqv (.bool false), sqv (.bool false), sqv (.pointer (some ⟨wr.heap.size, 0, none⟩)), sqv (.pointer (some ⟨q1, 0, none⟩)), sqv (.int .u64 (m1.first : Int)), sqv (.int .i64 (0)), sqv (.pointer (some ⟨w.heap.size, 0, none⟩)), sqv (.pointer (some ⟨w.heap.size, 0, none⟩)), sqv (.pointer (some ⟨q0, 0, none⟩)), sqv (.int .u64 (m0.first : Int)), sqv (.bool (decide (m0.first < m1.first))), sqv (.bool (decide (m0.first < m1.first))), sqv (.bool (decide (m0.first < m1.first)))] 31 ?gmono ?gsteps ?gfin
     case gmono => (iterate 17 refine ⟨sqm, ?_⟩); trivial
     case gsteps =>
      show Grow.allBelow _ 17
      iterate 17 refine And.intro ?_ ?_
      exact trivial
      ·refine sqi ?_;intro E W ec eg ef hG hd hu R HR;have e5 : E (.tmp 5) = .pointer (some ⟨wr.heap.size, 0, none⟩) := hu 5;clear hd hu;go_simp;exact sqh HR
      ·refine sqi ?_;intro E W ec eg ef hG hd hu R HR;have e11 := sqe (hd 0 11);clear hd hu;have hcl := (hG.cell (p := ⟨wr.heap.size, 1, none⟩) HC.out.1).trans HC.out.2.2.1;go_simp;exact sqh HR
      ·exact sqd 1 12
      ·exact yX 2 13 true 3
      ·refine sqo 2 13 ?_;intro E W ec eg ef hG hd hu R HR;have e14 := sqe (hd 3 14);clear hd hu;go_simp;exact sqh HR
      ·exact sqdo 2 13 true 4 15
      ·refine sqn 5 16 ?_;intro E W ec eg ef hG hd hu R HR;have e5 : E (.tmp 5) = .pointer (some ⟨wr.heap.size, 0, none⟩) := hu 5;clear hd hu;go_simp;exact sqh HR
      ·refine sqn 5 16 ?_;intro E W ec eg ef hG hd hu R HR;have e17 := sqe (hd 6 17);clear hd hu;have hcl := (hG.cell (p := ⟨wr.heap.size, 0, none⟩) HC.out.1).trans HC.out.2.1;go_simp;exact sqh HR
      ·refine sqn 5 16 ?_;intro E W ec eg ef hG hd hu R HR;have e18 := sqe (hd 7 18);clear hd hu;go_simp;refine (HC.out.2.2.2.2.2.2 W hG).mono ?_;rintro _ w' ⟨rfl, rfl⟩;exact ⟨_, rfl, HR.out _ _ (Below.refl _ _) rfl⟩
      ·exact yX 5 16 false 3
      ·refine sqn 5 16 ?_;intro E W ec eg ef hG hd hu R HR;have e1 : E (.tmp 1) = .pointer (some ⟨w.heap.size, 0, none⟩) := hu 1;have e20 := sqe (hd 9 20);clear hd hu;go_simp;exact sqh HR
      ·refine sqn 5 16 ?_;intro E W ec eg ef hG hd hu R HR;have e21 := sqe (hd 10 21);clear hd hu;go_simp;exact sqh HR
      ·refine sqn 5 16 ?_;intro E W ec eg ef hG hd hu R HR;have e22 := sqe (hd 11 22);clear hd hu;have hcl := (hG.cell (p := ⟨w.heap.size, 0, none⟩) HC.out.2.2.2.1).trans HC.out.2.2.2.2.1;go_simp;exact sqh HR
      ·refine sqn 5 16 ?_;intro E W ec eg ef hG hd hu R HR;have e23 := sqe (hd 12 23);clear hd hu;go_simp;refine (HC.out.2.2.2.2.2.1 W hG).mono ?_;rintro _ w' ⟨rfl, rfl⟩;exact ⟨_, rfl, HR.out _ _ (Below.refl _ _) rfl⟩
      ·refine sqn 5 16 ?_;intro E W ec eg ef hG hd hu R HR;have e19 := sqe (hd 8 19);have e24 := sqe (hd 13 24);clear hd hu;go_simp;exact HR.out _ _ (Below.refl _ _) (by show Value.bool _ = Value.bool _; simp)
      ·refine sqo 2 13 ?_;intro E W ec eg ef hG hd hu R HR;have e16 := sqe (hd 5 16);have e25 := sqe (hd 14 25);clear hd hu;go_simp;exact sqh HR
      ·refine sqi ?_;intro E W ec eg ef hG hd hu R HR;have e13 := sqe (hd 2 13);have e26 := sqe (hd 15 26);clear hd hu;go_simp;exact sqh HR
     case gfin =>
      intro W hG
      iterate 17 (refine Grow.fin_dst (by rfl) ?_; rintro _ rfl)
      simp only [Act.put, sqp];refine Grow.fin_end ?_;have HFG := Lib.hid (show Below w5.heap.size w5 W from ⟨hG.os, hG.tape, hG.output, hG.size, hG.block⟩);clear hG
      by_cases hff : m0.first < m1.first
      ·(have hdf : decide (m0.first < m1.first) = true := by simpa using hff);have HDF := Lib.hid hff;clear hff;rw [hdf]
       go_wp2_with fail
       go_roundw
       case rel =>
        unfold CntR;refine ⟨H5.out.2.2.2.trans (HFG.out.mono H5.out.2.2.2.size), .inr (.inr ?_)⟩;exact ⟨rfl, by simp [cntM, HDF.out]⟩
       case measure => simp only [intOf]; omega
      ·(have hdf : decide (m0.first < m1.first) = false := by simpa using hff);have HDF := Lib.hid hff;clear hff;rw [hdf]
       go_wp2_with fail
       go_roundw
       case rel =>
        unfold CntR;refine ⟨H5.out.2.2.2.trans (HFG.out.mono H5.out.2.2.2.size), .inr (.inr ?_)⟩;exact ⟨rfl, by simp [cntM, HDF.out]⟩
       case measure => simp only [intOf]; omega
  ·have HF := Lib.hid (HAL.out.1.trans (HB.out.mono HAL.out.1.size))
   go_wp2_with fail
   go_ret
   exact ⟨rfl, HF.out⟩
theorem rcGo_may : ∀ (n : Nat) (acc : List Ch) (l : List UInt8) (e : Int) {a : List Ch} {l' : List UInt8} {e' : Int}, rcGo n acc l e = some (a, l', e') → (∀ x ∈ acc, zq x = true) → (∀ x ∈ a, zq x = true) ∧ a.length + l'.length ≤ acc.length + l.length ∧ wtC a + 22 * l'.length ≤ wtC acc + 22 * l.length
 | 0, acc, l, e, a, l', e', h, hm => by
   rw [rcGo] at h;simp only [Option.some.injEq, Prod.mk.injEq] at h;obtain ⟨rfl, rfl, rfl⟩ := h;exact ⟨hm, Nat.le_refl _, Nat.le_refl _⟩
 | n + 1, acc, l, e, a, l', e', h, hm => by
   rw [rcGo] at h
   split at h
   ·cases h
   ·rename_i hx
    (have hx' : zq (rc1 l e).1 = true := by simpa using hx);have ht := rc1_take hx'
    obtain ⟨h1, h2, h3⟩ := rcGo_may n _ _ _ h (fun x hx => by
     rcases List.mem_append.1 hx with hx | hx
     ·exact hm x hx
     ·simp only [List.mem_singleton] at hx;rw [hx];exact hx')
    refine ⟨h1, ?_, ?_⟩
    ·rw [List.length_append, List.length_singleton] at h2;omega
    ·rw [wtC_app] at h3;simp only [wtC] at h3;omega
theorem rcM_may {b : List UInt8} {a : List Ch} (h : rcM b = some a) : (∀ x ∈ a, zq x = true) ∧ a.length ≤ b.length ∧ wtC a ≤ 22 * b.length := by
 unfold rcM at h
 split at h
 ·cases h
 ·rcases hg : rcGo (uiX (uiL b 0) (uiE b 0)) [] (uiL (uiL b 0) (uiE b 0)) (uiE (uiL b 0) (uiE b 0)) with _ | ⟨a', l', e'⟩
  ·rw [hg, rcEnd] at h; cases h
  ·rw [hg, rcEnd] at h
   split at h
   ·(injection h with h);subst h;obtain ⟨h1, h2, h3⟩ := rcGo_may _ _ _ _ hg (by simp);have h4 := yK b 0;have h5 := yK (uiL b 0) (uiE b 0);simp only [List.length_nil, wtC] at h2 h3;exact ⟨h1, by omega, by omega⟩
   ·cases h
theorem raGo_may : ∀ (n : Nat) (t : Tb) (last l : List UInt8) (e : Int) {a : Tb} {l' : List UInt8} {e' : Int}, raGo n t last l e = some (a, l', e') → a.length + l'.length ≤ t.length + l.length ∧ wtT a + 22 * l'.length ≤ wtT t + 22 * l.length
 | 0, t, last, l, e, a, l', e', h => by
   rw [raGo] at h;simp only [Option.some.injEq, Prod.mk.injEq] at h;obtain ⟨rfl, rfl, rfl⟩ := h;exact ⟨Nat.le_refl _, Nat.le_refl _⟩
 | n + 1, t, last, l, e, a, l', e', h => by
   rw [raGo] at h
   split at h
   ·cases h
   ·rename_i hx
    (have hne : byB l e 64 ≠ [] := fun e1 => hx (by rw [e1]; exact List.nil_le _));have ht := (by_take l e 64 (.inl hne)).2;obtain ⟨h2, h3⟩ := raGo_may n _ _ _ _ h
    have hv : (byL (byL l e 64) (byE l e 64) 4096).length + (byB (byL l e 64) (byE l e 64) 4096).length ≤ (byL l e 64).length := by
     by_cases h0 : byE (byL l e 64) (byE l e 64) 4096 = 0
     ·have := (by_take _ _ 4096 (.inr h0)).2;omega
     ·rw [by_bad h0];have := byL_len (byL l e 64) (byE l e 64) 4096
      simpa using this
    refine ⟨?_, ?_⟩
    ·rw [List.length_append, List.length_singleton] at h2;omega
    ·rw [wtT_app] at h3;simp only [wtT] at h3;omega
theorem raM_may {b : List UInt8} {a : Tb} (h : raM b = some a) : a.length ≤ b.length ∧ wtT a ≤ 22 * b.length := by
 unfold raM at h
 split at h
 ·cases h
 ·rcases hg : raGo (uiX (uiL b 0) (uiE b 0)) [] [] (uiL (uiL b 0) (uiE b 0)) (uiE (uiL b 0) (uiE b 0)) with _ | ⟨a', l', e'⟩
  ·rw [hg, raEnd] at h; cases h
  ·rw [hg, raEnd] at h
   split at h
   ·(injection h with h);subst h;obtain ⟨h2, h3⟩ := raGo_may _ _ _ _ _ hg;have h4 := yK b 0;have h5 := yK (uiL b 0) (uiE b 0);simp only [List.length_nil, wtT] at h2 h3;exact ⟨by omega, by omega⟩
   ·cases h
def UpR (w : World) (S : Nat → Prop) (mb : Nat) (t : Tb) (bs : List (List UInt8)) (i : Value) (wr : World) : Prop :=
 ∃ (j : Nat) (t' : Tb), j ≤ bs.length ∧ i = .int .i64 (j : Int) ∧ upM t bs = upM t' (bs.drop j) ∧ Nms wr (fun k => S k ∨ (w.heap.size ≤ k ∧ k < wr.heap.size)) mb t' ∧ Turned (fun k => k = mb) w wr ∧ t'.length ≤ t.length + 10000000 * j
def UpPost (w : World) (S : Nat → Prop) (mb : Nat) (r : Option Tb) (e : Ending) (w' : World) : Prop :=
 (match r with
  | none => e = .returned (.int .i64 37)
  | some t' => e = .returned (.int .i64 0) ∧ Nms w' (fun k => S k ∨ (w.heap.size ≤ k ∧ k < w'.heap.size)) mb t') ∧ Turned (fun k => k = mb) w w'
theorem catchup_any {w : World} {S U : Nat → Prop} {x q mb : Nat} {cnt : Bool} {A : Option Addr} {n c : Nat} {t : Tb} {bs : List (List UInt8)} (hx : w.heap[x]? = some (.cells #[.pointer (some ⟨q, 0, none⟩), .bool cnt, .map (some mb), .slice A n c] 76 (0, 0))) (hm : Nms w S mb t) (hr : Rws w U A n c bs)
    (hxm : x ≠ mb) (hU : ∀ k, k < w.heap.size → U k → k ≠ mb) (hf : bs.length ≤ 65536 ∧ t.length ≤ 10000000) (hb : ∀ b ∈ bs, b.length ≤ 10000000) :
    Calls Tryz.prog 30 #[.pointer (some ⟨x, 0, none⟩)] w fun e w' => UpPost w S mb (upM t bs) e w' := by
 have hc3 : w.cell? ⟨x, 3, none⟩ = some (.slice A n c) := zA hx 3;have H0 : Hid (UpR w S mb t bs (.int .i64 0) w) := Lib.hid ⟨0, t, Nat.zero_le _, rfl, by rw [List.drop_zero], hm.mono (T := fun k => S k ∨ (w.heap.size ≤ k ∧ k < w.heap.size)) fun k _ h => .inl h, Turned.refl _ _, by omega⟩;have HL := sq7 hx hr hxm hU hf hb hm.lt;have hbig : n ≤ 65536 := by have := hr.len; omega
 have HN := Lib.hid hr.len;clear hx hm hr hxm hU hf hb
 go_enter Tryz.func30, Tryz.ntmps30
 go_wp2_with fail
 go_loopw [12] (fun i wr => UpR w S mb t bs i wr) (fun i _ => n - (intOf i).toNat)
 case atStart => exact H0.out
 case round =>
  clear hc3;obtain ⟨j, t', hj, rfl, hup, hnm, htn, htl⟩ := hrel;clear H0;have HK := sq4 hup hnm htn htl;clear hup hnm htn htl
  by_cases hlt : j < n
  ·(have hlt' : (j : Int) < (n : Int) := by omega);obtain ⟨b0, off0, rfl, hub, hblt, hcl⟩ := HL.out.2.1.row (by omega);obtain ⟨A0, n0, c0, hc0, hy0⟩ := hcl j hlt;have hbm := HL.out.2.2.2.1 b0 hblt hub;have hcw : wr.cell? ⟨b0, off0 + j, none⟩ = some (.slice A0 n0 c0) := (xS HK.out.2.2.1 hblt hbm _).trans hc0;(obtain ⟨B, hB⟩ : ∃ B, bs[j]? = some B := ⟨_, List.getElem?_eq_getElem (by have := HN.out; omega)⟩);(have hBe : bs[j]?.getD [] = B := by rw [hB]; rfl);rw [hBe] at hy0;have hBl := HL.out.2.2.2.2.2.1 B (List.mem_of_getElem? hB);have hyw := hy0.turned HK.out.2.2.1 (fun k hk h1 h2 => HL.out.2.2.2.1 k hk h1 h2);have hrd := readchs_any hyw (by have := hy0.len; omega);have hadd := IntWalk.i64_in ((j : Int) + 1) (by omega)
   have hdr : bs.drop j = B :: bs.drop (j + 1) := by
    obtain ⟨hjl, hxe⟩ := List.getElem?_eq_some_iff.1 hB;rw [List.drop_eq_getElem_cons hjl, hxe]
   have HX := sq2 hdr hBl;have hcx : wr.heap[x]? = some (.cells #[.pointer (some ⟨q, 0, none⟩), .bool cnt, .map (some mb), .slice (some ⟨b0, off0, none⟩) n c] 76 (0, 0)) := (HK.out.2.2.1.block _ (zB HL.out.1) HL.out.2.2.1).trans HL.out.1;have HCX := Lib.hid hcx;clear hub hblt hcl hc0 hy0 hbm hB hBe hBl hyw hdr hcx;rcases hrc : rcM B with _ | l
   ·rw [hrc] at hrd;have HRC := Lib.hid hrc;clear hrc
    go_wp2_with (go_at_call 56; refine hrd.mono ?_; clear hrd; rintro _ w5 ⟨rfl, hb5⟩; have H5 := Lib.hid hb5; clear hb5)
    go_ret
    (have hr : upM t bs = none := by rw [HK.out.1, HX.out.1, upM, HRC.out]);rw [hr];exact ⟨rfl, HK.out.2.2.1.trans (Turned.of_below (S := fun k => k = mb) H5.out) fun _ _ h => h⟩
   ·rw [hrc] at hrd;have HRC := Lib.hid hrc;clear hrc
    go_upto_region 7 with (go_at_call 56; refine hrd.mono ?_; clear hrd; rintro _ w5 ⟨⟨A5, c5, rfl, hcs5⟩, hb5⟩; have H5 := sq2 hb5 (hcs5.mono (T := fun k => wr.heap.size ≤ k ∧ k < w5.heap.size) fun k hk h => ⟨h, hk⟩); clear hcs5 hb5)
    have hmay := rcM_may HRC.out;(have hc2 : w5.cell? ⟨x, 2, none⟩ = some (.map (some mb)) := by rw [zA ((H5.out.1.block _ (zB HCX.out)).trans HCX.out)]; rfl);have hmb := HK.out.2.1.lt;have hdo := do_any (HK.out.2.1.below H5.out.1) H5.out.2 (fun k _ h e => by omega) ⟨by have h1 := HK.out.2.2.2; have h2 := HL.out.2.2.2.2.1.2; have h3 := HX.out.2; have h4 := hmay.2.1; omega, by have h3 := HX.out.2; have h4 := hmay.2.1; omega⟩ (fun y hy => by have h1 := may_small (hmay.1 y hy); exact ⟨by omega, by omega⟩);have HM := Lib.hid hmay;clear hmay hmb
    go_wp2_with (go_at_call 37; refine hdo.mono ?_; clear hdo; rintro _ w6 ⟨rfl, hn6, ht6⟩; have H6 := sq2 hn6 ht6; clear hn6 ht6)
    go_roundw
    case rel =>
     unfold UpR;have h5s := H5.out.1.size;have h6s := H6.out.2.size;have hws := HK.out.2.2.1.size;refine ⟨j + 1, doL t' l, by have := HN.out; omega, by simp, ?_, ?_, (HK.out.2.2.1.trans (Turned.of_below (S := fun k => k = mb) H5.out.1) fun _ _ h => h).trans H6.out.2 fun _ _ h => h, ?_⟩
     ·rw [HK.out.1, HX.out.1, upM, HRC.out]
     ·refine H6.out.1.mono fun k hk h => ?_
      rcases h with (h | h) | h
      ·exact .inl h
      ·exact .inr ⟨h.1, hk⟩
      ·exact .inr ⟨by omega, hk⟩
     ·have h1 := doL_len t' HK.out.2.1.srt l;have h2 := HK.out.2.2.2;have h3 := HM.out.2.1;have h4 := HX.out.2;omega
    case measure => simp only [intOf]; omega
  ·(obtain rfl : j = n := by have := HN.out; omega);(have hnl : ¬ (j : Int) < (j : Int) := by omega);clear hlt
   go_wp2_with fail
   go_ret
   (have hr : upM t bs = some t' := by rw [HK.out.1, List.drop_of_length_le (by have := HN.out; omega), upM]);rw [hr];exact ⟨⟨rfl, HK.out.2.1⟩, HK.out.2.2.1⟩
def RV (l : List UInt8) (e : Int) : Value := .agg #[.string (zu l), .int .i64 e]
theorem strB_empty (l : List UInt8) : (zu l).toList.isEmpty = l.isEmpty := by rw [zu, ByteArray.toList_mk]
theorem strB_to (l : List UInt8) (k : Nat) : (zu l).extract 0 k = zu (l.take k) := by
 apply ByteArray.ext; apply Array.toList_inj.1;rw [Lib.extract_data]; simp [zu]
theorem strB_from (l : List UInt8) (k : Nat) : (zu l).extract k (zu l).size = zu (l.drop k) := by
 apply ByteArray.ext; apply Array.toList_inj.1;rw [Lib.extract_data, strB_size, List.take_of_length_le (by simp [zu])]; simp [zu]
theorem below2 (w : World) (o1 o2 : Obj) : Below w.heap.size w ((w.alloc o1).alloc o2) := ((Below.refl _ _).alloc (Nat.le_refl _) _).alloc (by simp) _
theorem endE_bad {l : List UInt8} {e : Int} (h : ¬ e = 0) : endE l e = e := by unfold endE; rw [if_pos h]
theorem ref_end (l : List UInt8) (e : Int) (w : World) : Calls Tryz.prog 62 #[RV l e] w fun r w' => r = .returned (.int .i64 (endE l e)) ∧ Below w.heap.size w w' := by
 have b1 := fun o => (Below.refl w.heap.size w).alloc (Nat.le_refl _) o
 by_cases he : e = 0
 ·subst he
  cases l with
  | nil =>
    rw [show endE [] 0 = 0 from rfl];unfold RV;have hE : (zu []).toList.isEmpty = true := strB_empty []
    go_enter Tryz.func62, Tryz.ntmps62
    go_wp2_with fail
    go_ret
    exact ⟨rfl, b1 _⟩
  | cons c t =>
    rw [show endE (c :: t) 0 = 12 by simp [endE]];unfold RV;have hE : (zu (c :: t)).toList.isEmpty = false := strB_empty (c :: t)
    go_enter Tryz.func62, Tryz.ntmps62
    go_wp2_with fail
    go_ret
    exact ⟨rfl, b1 _⟩
 ·rw [endE_bad he];have he' : (e != 0) = true := by simpa using he
  unfold RV;clear he
  go_enter Tryz.func62, Tryz.ntmps62
  go_wp2_with fail
  go_ret
  exact ⟨rfl, b1 _⟩
theorem ref_fixed (l : List UInt8) (e k : Int) (w : World) : Calls Tryz.prog 84 #[RV l e, .int .i64 k] w fun r w' => r = .returned (.tuple #[RV (fxL l e k) (tkE l e k), .string (zu (fxB l e k))]) ∧ Below w.heap.size w w' := by
 have b2 := below2 w
 by_cases he : e = 0
 ·subst he
  by_cases hk : k < 0
  ·(have e1 : tkE l 0 k = 1 := by unfold tkE; rw [if_neg (by simp), if_pos hk]);(have e2 : fxL l 0 k = l := by unfold fxL; rw [e1]; rfl);(have e3 : fxB l 0 k = [] := by unfold fxB; rw [e1]; rfl);rw [e1, e2, e3];unfold RV;clear e1 e2 e3
   go_enter Tryz.func84, Tryz.ntmps84
   go_wp2_with fail
   refine bodyPost_ret (v := .tuple #[.agg #[.string (zu l), .int .i64 1], .string (zu [])]) (by simp [results, Tryz.results84, go_sem]; rfl) rfl ⟨rfl, b2 _ _⟩
  ·by_cases hl : (l.length : Int) < k
   ·(have e1 : tkE l 0 k = 10 := by unfold tkE; rw [if_neg (by simp), if_neg hk, if_pos hl]);(have e2 : fxL l 0 k = l := by unfold fxL; rw [e1]; rfl);(have e3 : fxB l 0 k = [] := by unfold fxB; rw [e1]; rfl);rw [e1, e2, e3];unfold RV;(have hl' : ((zu l).size : Int) < k := by rw [strB_size]; exact hl);clear e1 e2 e3 hl
    go_enter Tryz.func84, Tryz.ntmps84
    go_wp2_with fail
    refine bodyPost_ret (v := .tuple #[.agg #[.string (zu l), .int .i64 10], .string (zu [])]) (by simp [results, Tryz.results84, go_sem]; rfl) rfl ⟨rfl, b2 _ _⟩
   ·(have e1 : tkE l 0 k = 0 := by unfold tkE; rw [if_neg (by simp), if_neg hk, if_neg hl]);(have e2 : fxL l 0 k = l.drop k.toNat := by unfold fxL; rw [if_pos e1]);(have e3 : fxB l 0 k = l.take k.toNat := by unfold fxB; rw [if_pos e1]);rw [e1, e2, e3];unfold RV;(have hl' : k ≤ ((zu l).size : Int) := by rw [strB_size]; omega);have E1 := Lib.hid (strB_to l k.toNat);have E2 := Lib.hid (strB_from l k.toNat);clear e1 e2 e3 hl
    go_enter Tryz.func84, Tryz.ntmps84
    go_wp2_with fail
    rw [E1.out, E2.out];refine bodyPost_ret (v := .tuple #[.agg #[.string (zu (l.drop k.toNat)), .int .i64 0], .string (zu (l.take k.toNat))]) (by simp [results, Tryz.results84, go_sem]) rfl ⟨rfl, b2 _ _⟩
 ·have e1 : tkE l e k = e := by unfold tkE; rw [if_pos he]
  have e2 : fxL l e k = l := by unfold fxL; rw [e1, if_neg he]
  have e3 : fxB l e k = [] := by unfold fxB; rw [e1, if_neg he]
  rw [e1, e2, e3];have he' : (e != 0) = true := by simpa using he
  unfold RV;clear he e1 e2 e3
  go_enter Tryz.func84, Tryz.ntmps84
  go_wp2_with fail
  refine bodyPost_ret (v := .tuple #[.agg #[.string (zu l), .int .i64 e], .string (zu [])]) (by simp [results, Tryz.results84, go_sem]; rfl) rfl ⟨rfl, b2 _ _⟩
theorem strB_head (d : UInt8) (t : List UInt8) (h : 0 < (zu (d :: t)).size) : (zu (d :: t))[0] = d := rfl
theorem pow_small {k : Nat} (hk : k ≤ 9) : 128 ^ k ≤ 9223372036854775808 := by
 have h := Nat.pow_le_pow_right (show 0 < 128 by omega) hk
 simpa using h
theorem u64_in {z : Int} (h0 : 0 ≤ z) (h1 : z < 18446744073709551616) : IntKind.u64.wrap z = z := by unfold IntKind.wrap; simp [IntKind.signed, IntKind.bits]; omega
theorem wrap_mul {k X d : Nat} (hX : X < 128 ^ k) (hk : k ≤ 9) (h9 : k = 9 → d % 128 ≤ 1) : IntKind.u64.wrap ((X : Int) + IntKind.u64.wrap (128 ^ k * ((d : Int) % 128))) = ((X + d % 128 * 128 ^ k : Nat) : Int) := by
 have hs := n_small (c := d % 128) hX hk (by omega) h9
 have e : (128 : Int) ^ k * ((d : Int) % 128) = ((d % 128 * 128 ^ k : Nat) : Int) := by
  rw [Nat.mul_comm]; push_cast; rfl
 rw [e, u64_in (Int.natCast_nonneg _) (by omega), u64_in (by omega) (by omega)]
 push_cast; rfl
theorem wrap_pow {k : Nat} (hk : k < 9) : IntKind.u64.wrap ((128 : Int) ^ k * 128) = ((128 ^ (k + 1) : Nat) : Int) := by
 have h := pow_small (k := k + 1) (by omega);have e : (128 : Int) ^ k * 128 = ((128 ^ (k + 1) : Nat) : Int) := by rw [Nat.pow_succ]; push_cast; rfl
 rw [e, u64_in (Int.natCast_nonneg _) (by omega)]
theorem ref_uint0 (l : List UInt8) (w : World) : Calls Tryz.prog 59 #[RV l 0] w fun r w' => ∃ m : List UInt8, r = .returned (.tuple #[RV m (rd 0 l).2.2, .int .u64 (rd 0 l).1]) ∧ ((rd 0 l).2.2 = 0 → m = l.drop (rd 0 l).2.1) ∧ Below w.heap.size w w' := by
 have b2 := below2 w;unfold RV
 go_enter Tryz.func59, Tryz.ntmps59
 go_wp2_with fail
 go_loopw [4, 5, 6, 7] (fun x m i c wr => ∃ (k X : Nat), k ≤ 9 ∧ i = .int .i64 k ∧ m = .int .u64 ((128 ^ k : Nat) : Int) ∧ x = .int .u64 X ∧ X < 128 ^ k ∧ Hid (rd 0 l = comb k X (rd k (l.drop k))) ∧
  wr = (w.alloc (.cells #[.string (zu (l.drop k)), .int .i64 0] 126)).alloc (.cells #[.string ByteArray.empty, .int .i64 0] 126)) (fun _ _ i _ _ => 10 - (intOf i).toNat)
 case atStart => exact ⟨0, 0, by omega, rfl, rfl, rfl, by simp, by rw [List.drop_zero, comb_zero _ (rd_err 0 l)]; exact rfl, rfl⟩
 case round =>
  obtain ⟨k, X, hk9, rfl, rfl, rfl, hX, HD, rfl⟩ := hrel
  generalize hR : l.drop k = R at *
  cases R with
  | nil =>
    have hE : (zu []).toList.isEmpty = true := strB_empty [];(have E : rd 0 l = (0, 0, 10) := by rw [HD.out]; rfl);clear HD;have HE := Lib.hid E;clear E
    go_wp2_with fail
    refine bodyPost_ret (v := .tuple #[.agg #[.string (zu []), .int .i64 10], .int .u64 0]) (by simp [results, Tryz.results59, go_sem]) rfl ⟨[], ?_, ?_, b2 _ _⟩
    ·rw [HE.out]; rfl
    ·rw [HE.out]; intro h; cases h
  | cons d t =>
    have hE : (zu (d :: t)).toList.isEmpty = false := strB_empty (d :: t);(have hsz : (zu (d :: t)).size = t.length + 1 := by rw [strB_size]; rfl);have hd0 := strB_head d t;have EX := Lib.hid (strB_from (d :: t) 1);(have ht : l.drop (k + 1) = t := by rw [← List.drop_drop, hR]; rfl);have HT := Lib.hid ht;have HX := Lib.hid hX;have hu := d.toNat_lt;clear hR ht hX;rw [hsz] at EX
    go_wp2_with fail
    ·(have h9 : (k : Int) = 9 := by assumption);(have h1 : 1 < (d.toNat : Int) ∨ ((d.toNat : Int) == 0) = true := by assumption);simp only [beq_iff_eq] at h1;have E := n_bad HD.out (by omega);rw [EX.out];refine bodyPost_ret (v := .tuple #[.agg #[.string (zu t), .int .i64 11], .int .u64 0]) (by simp [results, Tryz.results59, go_sem]) rfl ⟨t, ?_, ?_, b2 _ _⟩
     ·rw [E]; rfl
     ·rw [E]; intro h; cases h
    ·(have h9 : (k : Int) = 9 := by assumption);(have h1 : (d.toNat : Int) ≤ 1 ∧ ((d.toNat : Int) == 0) = false := by assumption);have := WalkArith.int_ne h1.2;have E := n_end HD.out (by omega) (by omega);have W := wrap_mul (d := d.toNat) HX.out hk9 (by omega);rw [EX.out, W];refine bodyPost_ret (v := .tuple #[.agg #[.string (zu t), .int .i64 0], .int .u64 ((X + d.toNat % 128 * 128 ^ k : Nat) : Int)]) (by simp [results, Tryz.results59, go_sem]) rfl ⟨t, ?_, ?_, b2 _ _⟩
     ·rw [E, Nat.mod_eq_of_lt (by omega)]; rfl
     ·rw [E]; intro _; exact HT.out.symm
    ·(have h9 : (k : Int) = 9 := by assumption);(have h1 : 1 < (d.toNat : Int) := by assumption);have E := n_bad HD.out (by omega);rw [EX.out];refine bodyPost_ret (v := .tuple #[.agg #[.string (zu t), .int .i64 11], .int .u64 0]) (by simp [results, Tryz.results59, go_sem]) rfl ⟨t, ?_, ?_, b2 _ _⟩
     ·rw [E]; rfl
     ·rw [E]; intro h; cases h
    ·(have hp : 0 < k := by assumption);(have h0 : ((d.toNat : Int) == 0) = true := by assumption);have := WalkArith.int_eq h0;have E := n_bad HD.out (by omega);rw [EX.out];refine bodyPost_ret (v := .tuple #[.agg #[.string (zu t), .int .i64 11], .int .u64 0]) (by simp [results, Tryz.results59, go_sem]) rfl ⟨t, ?_, ?_, b2 _ _⟩
     ·rw [E]; rfl
     ·rw [E]; intro h; cases h
    ·(have h9 : ¬ (k : Int) = 9 := by assumption);(have h0 : ((d.toNat : Int) == 0) = false := by assumption);(have hs : (d.toNat : Int) < 128 := by assumption);have := WalkArith.int_ne h0;have E := n_end HD.out (by omega) (by omega);have W := wrap_mul (d := d.toNat) HX.out hk9 (by omega);rw [EX.out, W];refine bodyPost_ret (v := .tuple #[.agg #[.string (zu t), .int .i64 0], .int .u64 ((X + d.toNat % 128 * 128 ^ k : Nat) : Int)]) (by simp [results, Tryz.results59, go_sem]) rfl ⟨t, ?_, ?_, b2 _ _⟩
     ·rw [E, Nat.mod_eq_of_lt (by omega)]; rfl
     ·rw [E]; intro _; exact HT.out.symm
    ·(have h9 : ¬ (k : Int) = 9 := by assumption);(have hs : 128 ≤ (d.toNat : Int) := by assumption);have E := HD.out;rw [comb_step (by omega) (by omega)] at E;have W := wrap_mul (d := d.toNat) HX.out hk9 (by omega);have W2 := wrap_pow (k := k) (by omega);have hX2 := n_next (c := d.toNat % 128) HX.out (by omega)
     go_roundw
     case rel => exact ⟨k + 1, _, by omega, by go_num, by rw [W2], by rw [W], hX2, by rw [HT.out, show d.toNat % 128 = d.toNat - 128 by omega]; exact E, by rw [EX.out, HT.out]; rfl⟩
     case measure => simp [intOf]; omega
    ·(have h9 : ¬ (k : Int) = 9 := by assumption);(have hp : ¬ 0 < k := by assumption);(have hs : (d.toNat : Int) < 128 := by assumption);have E := n_end HD.out (by omega) (by omega);have W := wrap_mul (d := d.toNat) HX.out hk9 (by omega);rw [EX.out, W];refine bodyPost_ret (v := .tuple #[.agg #[.string (zu t), .int .i64 0], .int .u64 ((X + d.toNat % 128 * 128 ^ k : Nat) : Int)]) (by simp [results, Tryz.results59, go_sem]) rfl ⟨t, ?_, ?_, b2 _ _⟩
     ·rw [E, Nat.mod_eq_of_lt (by omega)]; rfl
     ·rw [E]; intro _; exact HT.out.symm
    ·(have h9 : ¬ (k : Int) = 9 := by assumption);(have hs : 128 ≤ (d.toNat : Int) := by assumption);have E := HD.out;rw [comb_step (by omega) (by omega)] at E;have W := wrap_mul (d := d.toNat) HX.out hk9 (by omega);have W2 := wrap_pow (k := k) (by omega);have hX2 := n_next (c := d.toNat % 128) HX.out (by omega)
     go_roundw
     case rel => exact ⟨k + 1, _, by omega, by go_num, by rw [W2], by rw [W], hX2, by rw [HT.out, show d.toNat % 128 = d.toNat - 128 by omega]; exact E, by rw [EX.out, HT.out]; rfl⟩
     case measure => simp [intOf]; omega
def RGot (w : World) (e : Int) (l : List UInt8) (v : Value) (r : Ending) (w' : World) : Prop := ∃ m : List UInt8, r = .returned (.tuple #[RV m e, v]) ∧ (e = 0 → m = l) ∧ Below w.heap.size w w'
theorem ref_uint (l : List UInt8) (e : Int) (w : World) : Calls Tryz.prog 59 #[RV l e] w (RGot w (uiE l e) (uiL l e) (.int .u64 (uiX l e))) := by
 by_cases he : e = 0
 ·subst he;refine (ref_uint0 l w).mono ?_;rintro _ w1 ⟨m, rfl, h1, h2⟩;unfold uiE uiX uiL;rw [if_pos rfl, if_pos rfl, if_pos rfl];exact ⟨m, rfl, fun h => h1 (by omega), h2⟩
 ·have e1 : uiE l e = e := by unfold uiE; rw [if_neg he]
  have e2 : uiX l e = 0 := by unfold uiX; rw [if_neg he]
  rw [e1, e2];have b2 := below2 w;have HE := Lib.hid he;have he' : (e != 0) = true := by simpa using he
  unfold RV;clear he e1 e2
  go_enter Tryz.func59, Tryz.ntmps59
  go_wp2_with fail
  refine bodyPost_ret (v := .tuple #[.agg #[.string (zu l), .int .i64 e], .int .u64 0]) (by simp [results, Tryz.results59, go_sem]) rfl ⟨l, rfl, fun h => absurd h HE.out, b2 _ _⟩
theorem two_kept {w w1 : World} {a b c d : Value} {t : TypeId} (h : Below ((w.alloc (.cells #[a, b] t)).alloc (.cells #[c, d] t)).heap.size ((w.alloc (.cells #[a, b] t)).alloc (.cells #[c, d] t)) w1) :
    (w1.cell? ⟨w.heap.size, 0, none⟩ = some a ∧ w1.cell? ⟨w.heap.size, 1, none⟩ = some b ∧ w1.cell? ⟨w.heap.size + 1, 0, none⟩ = some c ∧ w1.cell? ⟨w.heap.size + 1, 1, none⟩ = some d) ∧
    (w1.frozen? ⟨w.heap.size, 0, none⟩ = false ∧ w1.frozen? ⟨w.heap.size, 1, none⟩ = false ∧ w1.frozen? ⟨w.heap.size + 1, 0, none⟩ = false ∧ w1.frozen? ⟨w.heap.size + 1, 1, none⟩ = false) ∧ Below w.heap.size w w1 := by
 have h2 : ((w.alloc (.cells #[a, b] t)).alloc (.cells #[c, d] t)).heap[w.heap.size + 1]? = some (.cells #[c, d] t (0, 0)) := by
  have := heap_alloc_new (w.alloc (.cells #[a, b] t)) (.cells #[c, d] t)
  simpa using this
 have h1 : ((w.alloc (.cells #[a, b] t)).alloc (.cells #[c, d] t)).heap[w.heap.size]? = some (.cells #[a, b] t (0, 0)) := by
  have := heap_alloc_new w (.cells #[a, b] t);rw [((Below.refl _ (w.alloc (.cells #[a, b] t))).alloc (Nat.le_refl _) (.cells #[c, d] t)).block w.heap.size (by simp)];exact this
 have k1 := (h.block w.heap.size (by simp; omega)).trans h1;have k2 := (h.block (w.heap.size + 1) (by simp)).trans h2;refine ⟨⟨?_, ?_, ?_, ?_⟩, ⟨?_, ?_, ?_, ?_⟩, (below2 w _ _).trans (h.mono (by simp; omega))⟩
 ·rw [zA k1]; rfl
 ·rw [zA k1]; rfl
 ·rw [zA k2]; rfl
 ·rw [zA k2]; rfl
 all_goals (simp [World.frozen?, k1, k2])
theorem set_set (w : World) (a : Addr) (u v : Value) : (w.setCell a u).setCell a v = w.setCell a v := by
 unfold World.setCell
 congr 1
 apply Array.ext_getElem?;intro i;simp only [Array.getElem?_modify]
 split
 ·cases w.heap[i]? with
  | none => rfl
  | some o =>
    cases o with
    | cells c e f => by_cases h : a.spot.isSome <;> simp [h]
    | _ => rfl
 ·rfl
theorem later {w1 w2 : World} {g g' : Nat} {u v : Value} (hne : g' ≠ g) (hlt : g' < w1.heap.size) (h : Below ((w1.setCell ⟨g, 0, none⟩ u).setCell ⟨g, 1, none⟩ v).heap.size ((w1.setCell ⟨g, 0, none⟩ u).setCell ⟨g, 1, none⟩ v) w2) (o : Nat) :
    w2.cell? ⟨g', o, none⟩ = w1.cell? ⟨g', o, none⟩ ∧ w2.frozen? ⟨g', o, none⟩ = w1.frozen? ⟨g', o, none⟩ := by
 have e : w2.heap[g']? = w1.heap[g']? := (h.block g' (by simp [World.setCell]; exact hlt)).trans ((Below.heap_setCell _ _ _ _ hne).trans (Below.heap_setCell _ _ _ _ hne));exact ⟨World.cell?_of_block (w := w1) (a := ⟨g', o, none⟩) e, by simp [World.frozen?, e]⟩
theorem below_four {w w1 : World} (h : Below w.heap.size w w1) (u1 u2 u3 u4 : Value) : Below w.heap.size w ((((w1.setCell ⟨w.heap.size, 0, none⟩ u1).setCell ⟨w.heap.size, 1, none⟩ u2).setCell ⟨w.heap.size + 1, 0, none⟩ u3).setCell ⟨w.heap.size + 1, 1, none⟩ u4) :=
 (((h.setCell (p := ⟨w.heap.size, 0, none⟩) (Nat.le_refl _) u1).setCell (p := ⟨w.heap.size, 1, none⟩) (Nat.le_refl _) u2).setCell (p := ⟨w.heap.size + 1, 0, none⟩) (Nat.le_succ _) u3).setCell (p := ⟨w.heap.size + 1, 1, none⟩) (Nat.le_succ _) u4
theorem ref_bytes (l : List UInt8) (e most : Int) (w : World) (hm : (Lit.int .i64 most).wf = true) : Calls Tryz.prog 60 #[RV l e, .int .i64 most] w (RGot w (byE l e most) (byL l e most) (.string (zu (byB l e most)))) := by
 have hu := fun w => ref_uint l e w
 unfold byE byB byL
 generalize uiE l e = e1 at *
 generalize hx : uiX l e = x at *
 have hx2 : x < 18446744073709551616 := by rw [← hx]; exact uiX_lt l e
 generalize uiL l e = l1 at *
 have hmb := bounds_i64 hm;clear hx hm;unfold RV at *
 by_cases he : e1 = 0
 ·subst he;have hz : ¬ ((0 : Int) ≠ 0) := by simp
  rw [if_neg hz, if_neg hz, if_neg hz];clear hz
  by_cases hb : most < 0 ∨ most < (x : Int)
  ·rw [if_pos hb, if_pos hb, if_pos hb]
   go_enter Tryz.func60, Tryz.ntmps60
   go_wp2_with fail
   refine (hu _).mono ?_;rintro _ w1 ⟨m, rfl, h1, h2⟩;unfold RV;obtain ⟨⟨c1, c2, c3, c4⟩, ⟨f1, f2, f3, f4⟩, hb1⟩ := two_kept h2;have hbs := below_four hb1;have hss := set_set;clear h1 h2 hu
   go_wp2_with fail
   all_goals (refine bodyPost_ret (v := .tuple #[.agg #[.string (zu m), .int .i64 13], .string (zu [])]) (by simp [results, Tryz.results60, go_sem, c3, c4]; rfl) rfl ⟨m, rfl, (fun h => by cases h), hbs _ _ _ _⟩)
  ·rw [if_neg hb, if_neg hb, if_neg hb];(have hb1 : 0 ≤ most := by omega);(have hb2 : (x : Int) ≤ most := by omega);clear hb
   go_enter Tryz.func60, Tryz.ntmps60
   go_wp2_with fail
   refine (hu _).mono ?_;rintro _ w1 ⟨m, rfl, h1, h2⟩;unfold RV;obtain ⟨⟨c1, c2, c3, c4⟩, ⟨f1, f2, f3, f4⟩, hb1⟩ := two_kept h2;(have hsz : w.heap.size + 1 < w1.heap.size := by have := h2.size; simp at this; omega);obtain rfl : m = l1 := h1 rfl;have hbs := below_four hb1;have hss := set_set;have HB1 := Lib.hid hb1;have HSZ := Lib.hid hsz;clear h1 h2 hu hb1 hsz
   go_wp2_with fail
   refine (ref_fixed m 0 x _).mono ?_;rintro _ w2 ⟨rfl, hb3⟩;unfold RV;obtain ⟨a1, a2⟩ := later (g' := w.heap.size + 1) (by omega) HSZ.out hb3 0;obtain ⟨a3, a4⟩ := later (g' := w.heap.size + 1) (by omega) HSZ.out hb3 1;rw [c3] at a1;rw [f3] at a2;rw [c4] at a3;rw [f4] at a4;have hb4 := ((HB1.out.setCell (p := ⟨w.heap.size, 0, none⟩) (Nat.le_refl _) (.string (zu m))).setCell (p := ⟨w.heap.size, 1, none⟩) (Nat.le_refl _) (.int .i64 0));have hb5 := hb4.trans (hb3.mono hb4.size);have hbt := fun u v => (hb5.setCell (p := ⟨w.heap.size + 1, 0, none⟩) (Nat.le_succ _) u).setCell (p := ⟨w.heap.size + 1, 1, none⟩) (Nat.le_succ _) v
   generalize fxL m 0 x = m2 at *
   (generalize tkE m 0 x = e2 at *);clear hbs hb3 hb4 hb5 c1 c2 c3 c4 f1 f2 f3 f4
   go_wp2_with fail
   refine bodyPost_ret (v := .tuple #[.agg #[.string (zu m2), .int .i64 e2], .string (zu (fxB m 0 x))]) (by simp [results, Tryz.results60, go_sem, a1, a3]) rfl ⟨m2, rfl, fun _ => rfl, hbt _ _⟩
 ·have HE := Lib.hid he;rw [if_pos he, if_pos he, if_pos he];have he' : (e1 != 0) = true := by simpa using he
  clear he
  go_enter Tryz.func60, Tryz.ntmps60
  go_wp2_with fail
  refine (hu _).mono ?_;rintro _ w1 ⟨m, rfl, h1, h2⟩;unfold RV;obtain ⟨⟨c1, c2, c3, c4⟩, ⟨f1, f2, f3, f4⟩, hb1⟩ := two_kept h2;have hbs := below_four hb1;have hss := set_set;clear h1 h2 hu
  go_wp2_with fail
  refine bodyPost_ret (v := .tuple #[.agg #[.string (zu m), .int .i64 e1], .string (zu [])]) (by simp [results, Tryz.results60, go_sem, c3, c4]; rfl) rfl ⟨m, rfl, fun h => absurd h HE.out, hbs _ _ _ _⟩
end Go.Proofs.YtmioifcbkhpdaaaGreat
