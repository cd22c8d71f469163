/-
  A disk as the document has it, by values; the reference's Read, Stop, Restart.
-/
import Derived.Test.YtmioifcbkhpdaaaGreatPkPl03
import Derived.Test.YtmioifcbkhpdaaaGreatPkPl01
import Derived.Laws.IdiomStrings
import Derived.Test.YtmioifcbkhpdaaaGreatPkPl04
import Derived.Test.YtmioifcbkhpdaaaGreatPkPl02
namespace Go.Proofs.YtmioifcbkhpdaaaGreat
set_option maxHeartbeats 16000000
set_option maxRecDepth 100000
open Go.RowKit Codec
structure RcS (w1 W : World) (S1 S2 : Nat → Prop) (p x0 : Nat) (l : List UInt8) (e : Int) (v : Value) (acc : List Ch) (CS : Array Value) : Prop where
 rd : Rd W S1 p l e
 gc : Gch W S2 v acc
 tn : Turned (fun k => k = p) w1 W
 row : W.heap[x0]? = some (.cells CS 64 (0, 0))
section
variable {w1 W W' : World} {S1 S2 : Nat → Prop} {p x0 : Nat} {l l' : List UInt8} {e e' : Int} {v : Value} {acc : List Ch} {CS : Array Value}
theorem zx {p : Nat} (h : W.grownBy W' (some p)) : Turned (fun k => k = p) W W' := Turned.of_gr h fun _ e => (Option.some.inj e).symm
theorem RcS.call (h : RcS w1 W S1 S2 p x0 l e v acc CS) (h2 : ∀ k, S2 k → k ≠ p) (h0 : x0 ≠ p) (hg : W.grownBy W' (some p)) (hr : Rd W' S1 p l' e') : RcS w1 W' S1 S2 p x0 l' e' v acc CS :=
 ⟨hr, h.gc.turned (zx hg) fun k _ hk e => h2 k hk e, h.tn.trans (zx hg) fun _ _ h => h, ((zx hg).block x0 (zB h.row) h0).trans h.row⟩
theorem RcS.store (h : RcS w1 W S1 S2 p x0 l e v acc CS) (h1 : ¬ S1 x0) (h2 : ¬ S2 x0) (h0 : w1.heap.size ≤ x0) (i : Nat) (u : Value) : RcS w1 (W.setCell ⟨x0, i, none⟩ u) S1 S2 p x0 l e v acc (CS.setIfInBounds i u) := by
 have ht : Turned (fun k => k = x0) W (W.setCell ⟨x0, i, none⟩ u) := (Turned.refl (fun k => k = x0) W).set rfl i u;refine ⟨?_, h.gc.turned ht fun k _ hk e => h2 (by rw [← show k = x0 from e]; exact hk), h.tn.trans ht fun k hk e => by omega, zG h.row i u⟩;exact h.rd.turned ht fun k _ hk e => h1 (by rw [← show k = x0 from e]; exact hk)
end
def RcR (w w1 : World) (p M : Nat) (l0 : List UInt8) (e0 : Int) (N : Nat) (v left : Value) (wr : World) : Prop :=
 ∃ (m : Nat) (acc : List Ch) (l : List UInt8) (e : Int), left = .int .u64 (m : Int) ∧ m ≤ M ∧ rcGo M [] l0 e0 = rcGo m acc l e ∧ Rd wr (fun k => w.heap.size ≤ k ∧ k < w1.heap.size) p l e ∧ Gch wr (w1.heap.size ≤ ·) v acc ∧ Turned (fun k => k = p) w1 wr ∧ acc.length + l.length ≤ N
def RcPost (w : World) (r : Option (List Ch)) (e : Ending) (w' : World) : Prop :=
 (match r with
  | none => e = .returned (.tuple #[.slice none 0 0, .bool false])
  | some a => ∃ A c, e = .returned (.tuple #[.slice A a.length c, .bool true]) ∧ Chs w' (w.heap.size ≤ ·) A a.length c a) ∧ Below w.heap.size w w'
theorem rcM_no {b : List UInt8} (h : uiX b 0 ≠ 2) : rcM b = none := by
 unfold rcM;rw [if_pos h]
theorem readchs_any {w : World} {S : Nat → Prop} {A : Option Addr} {n c : Nat} {b : List UInt8} (hb : Byt w S A n c b) (hn : n ≤ 10000000) :
    Calls Tryz.prog 56 #[.slice A n c] w fun e w' => RcPost w (rcM b) e w' := by
 have hnr := newReader hb (by omega);have HN := sq2 hb.len hn;clear hb hn
 go_enter Tryz.func56, Tryz.ntmps56
 go_upto_region 2 with (go_at_call 79; refine hnr.mono ?_; clear hnr; rintro _ w1 ⟨p, rfl, hr1, hb1⟩)
 have hr1 := hr1.mono (T := fun k => w.heap.size ≤ k ∧ k < w1.heap.size) fun k hk h => ⟨h, hk⟩
 have hu1 := uint_any hr1;have HB1 := sq2 hb1 hr1.1;clear hr1 hb1
 by_cases hk : uiX b 0 = 2
 ·have hk' : ((uiX b 0 : Int) != 2) = false := by rw [hk]; rfl
  go_upto_region 5 with (go_at_call 80; refine hu1.mono ?_; clear hu1; rintro _ w2 ⟨rfl, hr2, hg2⟩)
  have hu2 := uint_any hr2;have HG2 := Lib.hid (zx hg2);clear hr2 hg2 hk'
  go_upto_region 6 with (go_at_call 80; refine hu2.mono ?_; clear hu2; rintro _ w3 ⟨rfl, hr3, hg3⟩)
  obtain ⟨M, hM⟩ := sqz (uiX (uiL b 0) (uiE b 0));obtain ⟨l0, hl0⟩ := sqz (uiL (uiL b 0) (uiE b 0));obtain ⟨e0, he0⟩ := sqz (uiE (uiL b 0) (uiE b 0));rw [← hl0, ← he0] at hr3;rw [← hM]
  have hl0n : l0.length ≤ n := by
   have h1 := yK b 0;have h2 := yK (uiL b 0) (uiE b 0);have h3 := HN.out.1;rw [hl0];omega
  have HR : Hid (rcM b = rcEnd (rcGo M [] l0 e0)) := Lib.hid (by
   unfold rcM;rw [if_neg (by simpa using hk), hM, hl0, he0])
  have HM := Lib.hid (show M < 18446744073709551616 by rw [hM]; exact uiX_lt _ _);have H0 : Hid (RcR w w1 p M l0 e0 n (.slice none 0 0) (.int .u64 (M : Int)) w3) := Lib.hid ⟨M, [], l0, e0, rfl, Nat.le_refl _, rfl, hr3, Gch.nil _ _, HG2.out.trans (zx hg3) fun _ _ h => h, by simpa using hl0n⟩;clear hr3 hg3 HG2 hM hl0 he0 hl0n hk
  go_loopw [5, 6] (fun v left wr => RcR w w1 p M l0 e0 n v left wr) (fun _ left _ => (intOf left).toNat)
  case atStart => exact H0.out
  case round =>
   obtain ⟨m, acc, l, e, rfl, hm, hgo, hr, hg, ht, hl⟩ := hrel;clear H0;rcases Nat.eq_zero_or_pos m with rfl | hpos
   ·have hend := end_rd hr;(have hlt : ¬ (0 : Int) < ((0 : Nat) : Int) := by omega);rw [rcGo] at hgo;have HRE := Lib.hid (HR.out.trans (by rw [hgo]));have HK := sq2 hg ht;clear hgo hg ht hr hm hl
    by_cases he : endE l e = 0
    ·have he' : (endE l e != 0) = false := by simpa using he
     go_wp2_with (go_at_call 82; refine hend.mono ?_; clear hend; rintro _ _ ⟨rfl, rfl⟩)
     go_ret2
     (have hr : rcM b = some acc := by rw [HRE.out, rcEnd, if_pos he]);rw [hr];obtain ⟨A2, c2, hv, hcs⟩ := HK.out.1.slice;exact ⟨⟨A2, c2, by rw [← hv]; rfl, hcs.mono fun k _ h => Nat.le_trans HB1.out.1.size h⟩, HB1.out.1.trans ((HK.out.2.mono (T := (w.heap.size ≤ ·)) fun k _ e => by rw [show k = p from e]; exact HB1.out.2.1).below HB1.out.1.size)⟩
    ·have he' : (endE l e != 0) = true := by simpa using he
     go_wp2_with (go_at_call 82; refine hend.mono ?_; clear hend; rintro _ _ ⟨rfl, rfl⟩)
     go_ret2
     (have hr : rcM b = none := by rw [HRE.out, rcEnd, if_neg he]);rw [hr];exact ⟨rfl, HB1.out.1.trans ((HK.out.2.mono (T := (w.heap.size ≤ ·)) fun k _ e => by rw [show k = p from e]; exact HB1.out.2.1).below HB1.out.1.size)⟩
   ·(have hlt : (0 : Int) < (m : Int) := by omega);(have hs1 : IntKind.u64.wrap ((m : Int) - 1) = ((m - 1 : Nat) : Int) := by rw [IntWalk.u64_in _ (by have := HM.out; omega)]; omega);have HL := sq3 hgo hm hl;have hp1 : p < w1.heap.size := HB1.out.2.2;obtain ⟨A5, c5, rfl, _⟩ := hg.slice
    have H5 : Hid (RcS w1 (wr.alloc (.cells #[.string ⟨#[]⟩, .slice none 0 0, .bool false] 64)) (fun k => w.heap.size ≤ k ∧ k < w1.heap.size) (fun k => w1.heap.size ≤ k ∧ k < wr.heap.size) p wr.heap.size l e (.slice A5 acc.length c5) acc #[.string ⟨#[]⟩, .slice none 0 0, .bool false]) :=
     Lib.hid ⟨hr.turned (T := fun _ => False) (Turned.of_below ((Below.refl _ _).alloc (Nat.le_refl _) _)) fun _ _ _ h => h, (hg.mono fun k hk h => ⟨h, hk⟩).below ((Below.refl _ _).alloc (Nat.le_refl _) _), ht.alloc _, heap_alloc_new wr _⟩
    have HX : Hid (p ≠ wr.heap.size ∧ w1.heap.size ≤ wr.heap.size ∧ p < w1.heap.size) := Lib.hid ⟨by have := ht.size; omega, ht.size, hp1⟩;(have HS2 : Hid (∀ k, w1.heap.size ≤ k ∧ k < wr.heap.size → k ≠ p) := Lib.hid fun k hk e => by omega);(have hln : l.length ≤ 140737488355328 := by have := HN.out.2; omega);have HLN := Lib.hid hln;clear hr hg ht hgo hm hl hp1 hln
    go_upto_region 9 with fail
    generalize (wr.alloc (.cells #[.string ⟨#[]⟩, .slice none 0 0, .bool false] 64)) = w5 at *
    (generalize wr.heap.size = x0 at *);have hby := bytes_any (most := 64) H5.out.rd HLN.out (by omega);obtain ⟨K, hK⟩ := sqz (byB l e 64);obtain ⟨l1, hl1⟩ := sqz (byL l e 64);obtain ⟨e1, he1⟩ := sqz (byE l e 64);rw [← hK, ← hl1, ← he1] at hby
    have HEQ := sq3 hK hl1 he1;have HL1 : Hid (l1.length ≤ 140737488355328) := Lib.hid (by have := byL_len l e 64; have := HLN.out; rw [hl1]; omega);clear hK hl1 he1
    go_upto_region 10 with (go_at_call 81; refine hby.mono ?_; clear hby; rintro _ w6 ⟨A6, n6, c6, rfl, hy6, hr6, hg6, _⟩; have hcs : (convert 54 9 (.slice A6 n6 c6)).run Tryz.prog w6 = .ok (.string (st K)) w6 := yM hy6; have H6 := Lib.hid (H5.out.call HS2.out HX.out.1.symm hg6 hr6); have hc0 := zA H6.out.row 0; have hf0 := zC H6.out.row 0; clear hy6 hr6 hg6)
    have H7 := Lib.hid (H6.out.store (fun h => by have := HX.out.2.1; omega) (fun h => by omega) HX.out.2.1 0 (.string (st K)));clear hcs hc0 hf0 H5 H6
    (generalize w6.setCell ⟨x0, 0, none⟩ (.string (st K)) = w7 at *);have hbo := bool_any H7.out.rd;obtain ⟨G, hG⟩ := sqz (boX l1 e1);obtain ⟨l2, hl2⟩ := sqz (fxL l1 e1 1);obtain ⟨e2, he2⟩ := sqz (boE l1 e1);rw [← hG, ← hl2, ← he2] at hbo;have HEQ2 := sq3 hG hl2 he2;have HL2 : Hid (l2.length ≤ 140737488355328) := Lib.hid (by have := fxL_len l1 e1 1; have := HL1.out; rw [hl2]; omega);clear hG hl2 he2
    go_upto_region 11 with (go_at_call 83; refine hbo.mono ?_; clear hbo; rintro _ w8 ⟨rfl, hr8, hg8⟩; have H8 := Lib.hid (H7.out.call HS2.out HX.out.1.symm hg8 hr8); have hc2 := zA H8.out.row 2; have hf2 := zC H8.out.row 2; clear hr8 hg8)
    have H9 := Lib.hid (H8.out.store (fun h => by have := HX.out.2.1; omega) (fun h => by omega) HX.out.2.1 2 (.bool G));clear hc2 hf2 H7 H8
    (generalize w8.setCell ⟨x0, 2, none⟩ (.bool G) = w9 at *);have hc2 : w9.cell? ⟨x0, 2, none⟩ = some (.bool G) := zA H9.out.row 2
    have HRC : Hid (rc1 l e = if G = true then (⟨K, [], true⟩, l2, e2) else (⟨K, byB l2 e2 4096, false⟩, byL l2 e2 4096, byE l2 e2 4096)) := Lib.hid (by
     unfold rc1;rw [← HEQ.out.1, ← HEQ.out.2.1, ← HEQ.out.2.2, ← HEQ2.out.1, ← HEQ2.out.2.1, ← HEQ2.out.2.2])
    cases G
    ·have hby2 := bytes_any (most := 4096) H9.out.rd HL2.out (by omega);obtain ⟨V, hV⟩ := sqz (byB l2 e2 4096);obtain ⟨l3, hl3⟩ := sqz (byL l2 e2 4096);obtain ⟨e3, he3⟩ := sqz (byE l2 e2 4096);rw [← hV, ← hl3, ← he3] at hby2;have hrc := HRC.out;rw [← hV, ← hl3, ← he3, if_neg (by decide)] at hrc;obtain ⟨X, hX⟩ := sqz ((⟨K, V, false⟩ : Ch));rw [← hX] at hrc;have HXE : Hid (X = (rc1 l e).1 ∧ l3 = (rc1 l e).2.1 ∧ e3 = (rc1 l e).2.2) := Lib.hid (by rw [hrc]; exact ⟨rfl, rfl, rfl⟩);have HX0 := Lib.hid hX;clear hV hl3 he3 hrc hX HRC
     go_upto_region 13 with (go_at_call 81; refine hby2.mono ?_; clear hby2; rintro _ wa ⟨Ax, nx, cx, rfl, hya, hra, hga, _⟩; obtain rfl : nx = V.length := hya.len.symm; have Ha := sq2 (H9.out.call HS2.out HX.out.1.symm hga hra) hya; have hc1 := zA Ha.out.1.row 1; have hf1 := zC Ha.out.1.row 1; clear hya hra hga)
     have HT := Lib.hid (Ha.out.1.store (fun h => by have := HX.out.2.1; omega) (fun h => by omega) HX.out.2.1 1 (.slice Ax V.length cx));have hs9 := zB H9.out.row;have HYV := Lib.hid (((Ha.out.2.mono (T := fun k => x0 < k) fun k _ h => by have h' : w9.heap.size ≤ k := h; omega)).turned (T := fun k => k = x0) ((Turned.refl (fun k => k = x0) wa).set rfl 1 (.slice Ax V.length cx)) fun k _ h e => by omega);clear hc1 hf1 Ha hc2
     (generalize wa.setCell ⟨x0, 1, none⟩ (.slice Ax V.length cx) = wx at *);have HCS : Hid (((#[Value.string ⟨#[]⟩, .slice none 0 0, .bool false].setIfInBounds 0 (.string (st K))).setIfInBounds 2 (.bool false)).setIfInBounds 1 (.slice Ax V.length cx) = chV Ax X.v.length cx X) := Lib.hid (by rw [HX0.out]; rfl);have HYV : Hid (Byt wx (fun k => x0 < k) Ax X.v.length cx X.v) := Lib.hid (by rw [HX0.out]; exact HYV.out);have HT := Lib.hid (show RcS w1 wx _ _ p x0 l3 e3 (.slice A5 acc.length c5) acc (((#[Value.string ⟨#[]⟩, .slice none 0 0, .bool false].setIfInBounds 0 (.string (st K))).setIfInBounds 2 (.bool false)).setIfInBounds 1 (.slice Ax V.length cx)) from HT.out);clear H9;have hmb := maybe_any X Ax cx wx;obtain ⟨CV, hCV⟩ := sqz (chV Ax X.v.length cx X);rw [← hCV] at hmb;have HCV := Lib.hid hCV;have HROW := Lib.hid (HT.out.row.trans (by rw [HCS.out, ← hCV]));clear hCV
     by_cases hmay : zq X = true
     ·rw [hmay] at hmb
      go_upto_region 15 with (first
       | (refine yA 7 HROW.out Tryz.underlying64 (by rw [HCV.out]; exact ys) ?_)
       | (go_at_call 63; refine hmb.mono ?_; clear hmb; rintro _ w10 ⟨rfl, hb10⟩; have H10 := Lib.hid hb10; clear hb10))
      have hrow10 := Lib.hid ((H10.out.block _ (zB HROW.out)).trans HROW.out);have hrw := hrow10.out;rw [HCV.out] at hrw;have HRW := Lib.hid (show w10.heap[x0]? = some (.cells #[.string (st X.k), .slice Ax X.v.length cx, .bool X.g] 64 (0, 0)) from hrw);have hb11 : Below w10.heap.size w10 (w10.alloc (.cells #[.string (st X.k), .slice Ax X.v.length cx, .bool X.g] 64)) := (Below.refl _ _).alloc (Nat.le_refl _) _;have hx10 := zB HRW.out;have HB11 := Lib.hid (H10.out.trans (hb11.mono H10.out.size));obtain ⟨A12, c12, w12, hap, hg12, ht12⟩ := (HT.out.gc.below HB11.out).push (q := w10.heap.size) (k := 1) (A := Ax) (n := X.v.length) (c := cx) (x := X) (fun j u hu => by rw [zA (heap_alloc_new w10 _)]; exact hu) (HYV.out.below HB11.out) (fun k _ h1 h2 => by omega) (by have := HL.out.2.2; have := HN.out.2; omega) 44;have H12 := sq2 hg12 ht12;have HX10 := Lib.hid hx10;clear hrw hb11 hg12 ht12 hrow10 hx10
      go_wp2_with (first
       | (refine yA 7 HRW.out Tryz.underlying64 ys ?_)
       | (at_builtin; refine zh (by rfl) (.tmp 35) (.tmp 37) 44 (by rfl) (by rfl) (by rfl) hap ?_))
      go_roundw
      case rel =>
       unfold RcR;have htk := rc1_take (l := l) (e := e) (by rw [← HXE.out.1]; exact hmay);have hpl := HX.out.2.1;refine ⟨m - 1, acc ++ [X], l3, e3, rfl, by have := HL.out.2.1; omega, ?_, ?_, ?_, ?_, ?_⟩
       ·have h1 := HL.out.1;rw [show m = (m - 1) + 1 by omega, rcGo, if_neg (by rw [← HXE.out.1]; simp [hmay]), ← HXE.out.1, ← HXE.out.2.1, ← HXE.out.2.2] at h1;exact h1
       ·exact (HT.out.rd.turned (T := fun _ => False) (Turned.of_below HB11.out) fun _ _ _ h => h).turned H12.out.2 fun k _ h1 h2 => by omega
       ·refine H12.out.1.mono fun k hk h => ?_
        have h1 := HT.out.tn.size;have h2 := HB11.out.size;rcases h with h | h | h
        ·exact h.1
        ·omega
        ·omega
       ·exact (HT.out.tn.trans (Turned.of_below (S := fun k => k = p) HB11.out) fun _ _ h => h).trans H12.out.2 fun k hk h => by omega
       ·rw [List.length_append, List.length_singleton, HXE.out.2.1];have := HL.out.2.2;omega
      case measure => simp only [intOf]; omega
     ·(have hmay' : zq X = false := by simpa using hmay);rw [hmay'] at hmb;clear hmay
      go_wp2_with (first
       | (refine yA 7 HROW.out Tryz.underlying64 (by rw [HCV.out]; exact ys) ?_)
       | (go_at_call 63; refine hmb.mono ?_; clear hmb; rintro _ w10 ⟨rfl, hb10⟩; have H10 := Lib.hid hb10; clear hb10))
      go_ret2
      have hr : rcM b = none := by
       rw [HR.out, HL.out.1, show m = (m - 1) + 1 by omega, rcGo, if_pos (by rw [← HXE.out.1]; exact hmay')];rfl
      rw [hr];exact ⟨rfl, (HB1.out.1.trans ((HT.out.tn.mono (T := (w.heap.size ≤ ·)) fun k _ e => by rw [show k = p from e]; exact HB1.out.2.1).below HB1.out.1.size)).trans (H10.out.mono (Nat.le_trans HB1.out.1.size HT.out.tn.size))⟩
    ·have hrc := HRC.out;rw [if_pos rfl] at hrc;obtain ⟨X, hX⟩ := sqz ((⟨K, [], true⟩ : Ch));rw [← hX] at hrc;obtain ⟨l3, hl3⟩ := sqz l2;obtain ⟨e3, he3⟩ := sqz e2;rw [← hl3, ← he3] at hrc;have HXE : Hid (X = (rc1 l e).1 ∧ l3 = (rc1 l e).2.1 ∧ e3 = (rc1 l e).2.2) := Lib.hid (by rw [hrc]; exact ⟨rfl, rfl, rfl⟩);have HX0 := Lib.hid hX;have HT := Lib.hid (show RcS w1 w9 _ _ p x0 l3 e3 (.slice A5 acc.length c5) acc _ by rw [hl3, he3]; exact H9.out);clear hrc hX HRC hl3 he3
     go_upto_region 13 with fail
     (obtain ⟨Ax, hAx⟩ : ∃ Ax : Option Addr, Ax = none := ⟨_, rfl⟩);(obtain ⟨cx, hcx⟩ : ∃ cx : Nat, cx = 0 := ⟨_, rfl⟩);have HYV : Hid (Byt w9 (fun k => x0 < k) Ax X.v.length cx X.v) := Lib.hid (by rw [HX0.out, hAx, hcx]; exact Byt.nil _ _ _ _ (Nat.zero_le _));have HCS : Hid ((#[Value.string ⟨#[]⟩, .slice none 0 0, .bool false].setIfInBounds 0 (.string (st K))).setIfInBounds 2 (.bool true) = chV Ax X.v.length cx X) := Lib.hid (by rw [HX0.out, hAx, hcx]; rfl);clear hAx hcx H9 hc2;have hmb := maybe_any X Ax cx w9;obtain ⟨CV, hCV⟩ := sqz (chV Ax X.v.length cx X);rw [← hCV] at hmb;have HCV := Lib.hid hCV;have HROW := Lib.hid (HT.out.row.trans (by rw [HCS.out, ← hCV]));clear hCV
     by_cases hmay : zq X = true
     ·rw [hmay] at hmb
      go_upto_region 15 with (first
       | (refine yA 7 HROW.out Tryz.underlying64 (by rw [HCV.out]; exact ys) ?_)
       | (go_at_call 63; refine hmb.mono ?_; clear hmb; rintro _ w10 ⟨rfl, hb10⟩; have H10 := Lib.hid hb10; clear hb10))
      have hrow10 := Lib.hid ((H10.out.block _ (zB HROW.out)).trans HROW.out);have hrw := hrow10.out;rw [HCV.out] at hrw;have HRW := Lib.hid (show w10.heap[x0]? = some (.cells #[.string (st X.k), .slice Ax X.v.length cx, .bool X.g] 64 (0, 0)) from hrw);have hb11 : Below w10.heap.size w10 (w10.alloc (.cells #[.string (st X.k), .slice Ax X.v.length cx, .bool X.g] 64)) := (Below.refl _ _).alloc (Nat.le_refl _) _;have hx10 := zB HRW.out;have HB11 := Lib.hid (H10.out.trans (hb11.mono H10.out.size));obtain ⟨A12, c12, w12, hap, hg12, ht12⟩ := (HT.out.gc.below HB11.out).push (q := w10.heap.size) (k := 1) (A := Ax) (n := X.v.length) (c := cx) (x := X) (fun j u hu => by rw [zA (heap_alloc_new w10 _)]; exact hu) (HYV.out.below HB11.out) (fun k _ h1 h2 => by omega) (by have := HL.out.2.2; have := HN.out.2; omega) 44;have H12 := sq2 hg12 ht12;have HX10 := Lib.hid hx10;clear hrw hb11 hg12 ht12 hrow10 hx10
      go_wp2_with (first
       | (refine yA 7 HRW.out Tryz.underlying64 ys ?_)
       | (at_builtin; refine zh (by rfl) (.tmp 35) (.tmp 37) 44 (by rfl) (by rfl) (by rfl) hap ?_))
      go_roundw
      case rel =>
       unfold RcR;have htk := rc1_take (l := l) (e := e) (by rw [← HXE.out.1]; exact hmay);have hpl := HX.out.2.1;refine ⟨m - 1, acc ++ [X], l3, e3, rfl, by have := HL.out.2.1; omega, ?_, ?_, ?_, ?_, ?_⟩
       ·have h1 := HL.out.1;rw [show m = (m - 1) + 1 by omega, rcGo, if_neg (by rw [← HXE.out.1]; simp [hmay]), ← HXE.out.1, ← HXE.out.2.1, ← HXE.out.2.2] at h1;exact h1
       ·exact (HT.out.rd.turned (T := fun _ => False) (Turned.of_below HB11.out) fun _ _ _ h => h).turned H12.out.2 fun k _ h1 h2 => by omega
       ·refine H12.out.1.mono fun k hk h => ?_
        have h1 := HT.out.tn.size;have h2 := HB11.out.size;rcases h with h | h | h
        ·exact h.1
        ·omega
        ·omega
       ·exact (HT.out.tn.trans (Turned.of_below (S := fun k => k = p) HB11.out) fun _ _ h => h).trans H12.out.2 fun k hk h => by omega
       ·rw [List.length_append, List.length_singleton, HXE.out.2.1];have := HL.out.2.2;omega
      case measure => simp only [intOf]; omega
     ·(have hmay' : zq X = false := by simpa using hmay);rw [hmay'] at hmb;clear hmay
      go_wp2_with (first
       | (refine yA 7 HROW.out Tryz.underlying64 (by rw [HCV.out]; exact ys) ?_)
       | (go_at_call 63; refine hmb.mono ?_; clear hmb; rintro _ w10 ⟨rfl, hb10⟩; have H10 := Lib.hid hb10; clear hb10))
      go_ret2
      have hr : rcM b = none := by
       rw [HR.out, HL.out.1, show m = (m - 1) + 1 by omega, rcGo, if_pos (by rw [← HXE.out.1]; exact hmay')];rfl
      rw [hr];exact ⟨rfl, (HB1.out.1.trans ((HT.out.tn.mono (T := (w.heap.size ≤ ·)) fun k _ e => by rw [show k = p from e]; exact HB1.out.2.1).below HB1.out.1.size)).trans (H10.out.mono (Nat.le_trans HB1.out.1.size HT.out.tn.size))⟩
 ·have hk' : ((uiX b 0 : Int) != 2) = true := by simp; omega
  go_wp2_with (go_at_call 80; refine hu1.mono ?_; clear hu1; rintro _ w2 ⟨rfl, hr2, hg2⟩)
  go_ret2
  rw [rcM_no hk];exact ⟨rfl, HB1.out.1.trans (((zx hg2).mono (T := (w.heap.size ≤ ·)) fun k _ e => by rw [show k = p from e]; exact HB1.out.2.1).below HB1.out.1.size)⟩
theorem st_toList (l : List UInt8) : (st l).toList = l := by simp [st]
theorem run_leq_st (t : TypeId) (a b : List UInt8) (W : World) : (binOp .leq t (.string (st a)) (.string (st b))).run Tryz.prog W = .ok (.bool (decide (a ≤ b))) W := by
 have e : (Op.bytesLess a b || a == b) = decide (a ≤ b) := by
  rw [bytes_less]
  by_cases h : a < b
  ·simp [h, List.le_of_lt h]
  ·by_cases h2 : a = b
   ·subst h2;simp
   ·(have h3 : ¬ a ≤ b := fun h4 => h2 (List.le_antisymm h4 (kle_of_not h)));simp [h, h2, h3]
 rw [← e];simp [binOp, Op.stringOp, st_toList]
def RaR (w w1 : World) (p mb M : Nat) (l0 : List UInt8) (e0 : Int) (N : Nat) (lastv left : Value) (wr : World) : Prop :=
 ∃ (m : Nat) (t : Tb) (last l : List UInt8) (e : Int), lastv = .string (st last) ∧ left = .int .u64 (m : Int) ∧ m ≤ M ∧ raGo M [] [] l0 e0 = raGo m t last l e ∧ Rd wr (fun k => w.heap.size ≤ k ∧ k < w1.heap.size) p l e ∧ Nms wr (w1.heap.size ≤ ·) mb t ∧ Turned (fun k => k = p) w1 wr ∧ t.length + l.length ≤ N ∧ ∀ q ∈ t, q.1 ≤ last
def RaPost (w : World) (r : Option Tb) (e : Ending) (w' : World) : Prop :=
 (match r with
  | none => e = .returned (.tuple #[.map none, .bool false])
  | some t => ∃ mb, e = .returned (.tuple #[.map (some mb), .bool true]) ∧ Nms w' (w.heap.size ≤ ·) mb t) ∧ Below w.heap.size w w'
theorem raM_no {b : List UInt8} (h : uiX b 0 ≠ 1) : raM b = none := by
 unfold raM;rw [if_pos h]
theorem doC_end {t : Tb} {k v : List UInt8} (h : ∀ q ∈ t, q.1 < k) : doC t ⟨k, v, false⟩ = t ++ [(k, v)] := by
 unfold doC;rw [List.filter_eq_self.2 (fun q hq => by simpa using h q hq), List.filter_eq_nil_iff.2 (fun q hq => by simpa using klt_as (h q hq))];simp
theorem readall_any {w : World} {S : Nat → Prop} {A : Option Addr} {n c : Nat} {b : List UInt8} (hb : Byt w S A n c b) (hn : n ≤ 10000000) :
    Calls Tryz.prog 53 #[.slice A n c] w fun e w' => RaPost w (raM b) e w' := by
 have hnr := newReader hb (by omega);have HN := sq2 hb.len hn;have hmm := @run_makeMap Tryz.prog;clear hb hn
 go_enter Tryz.func53, Tryz.ntmps53
 go_upto_region 2 with (go_at_call 79; refine hnr.mono ?_; clear hnr; rintro _ w1 ⟨p, rfl, hr1, hb1⟩)
 have hr1 := hr1.mono (T := fun k => w.heap.size ≤ k ∧ k < w1.heap.size) fun k hk h => ⟨h, hk⟩
 have hu1 := uint_any hr1;have HB1 := sq2 hb1 hr1.1;clear hr1 hb1
 by_cases hk : uiX b 0 = 1
 ·have hk' : ((uiX b 0 : Int) != 1) = false := by rw [hk]; rfl
  go_upto_region 4 with (go_at_call 80; refine hu1.mono ?_; clear hu1; rintro _ w2 ⟨rfl, hr2, hg2⟩)
  have HG2 := sq2 (zx hg2) hr2;clear hr2 hg2 hk'
  go_upto_region 6 with fail
  have hr2' := HG2.out.2.turned (T := fun _ => False) (Turned.of_below ((Below.refl _ w2).alloc (Nat.le_refl _) (.map #[] 0))) fun _ _ _ h => h
  have hu2 := uint_any hr2';have HMM := Lib.hid (made_map w2);have HA2 := Lib.hid (show Below w2.heap.size w2 (w2.alloc (.map #[] 0)) from (Below.refl _ w2).alloc (Nat.le_refl _) (.map #[] 0));clear hr2' hmm
  generalize w2.alloc (.map #[] 0) = w2b at *
  go_upto_region 7 with (go_at_call 80; refine hu2.mono ?_; clear hu2; rintro _ w3 ⟨rfl, hr3, hg3⟩)
  obtain ⟨M, hM⟩ := sqz (uiX (uiL b 0) (uiE b 0));obtain ⟨l0, hl0⟩ := sqz (uiL (uiL b 0) (uiE b 0));obtain ⟨e0, he0⟩ := sqz (uiE (uiL b 0) (uiE b 0));rw [← hl0, ← he0] at hr3;rw [← hM]
  have hl0n : l0.length ≤ n := by
   have h1 := yK b 0;have h2 := yK (uiL b 0) (uiE b 0);have h3 := HN.out.1;rw [hl0];omega
  have HR : Hid (raM b = raEnd (raGo M [] [] l0 e0)) := Lib.hid (by
   unfold raM;rw [if_neg (by simpa using hk), hM, hl0, he0])
  have HM := Lib.hid (show M < 18446744073709551616 by rw [hM]; exact uiX_lt _ _);have hp1 : p < w1.heap.size := HB1.out.2.2;have h12 := HG2.out.1.size;have HMB := Lib.hid (show w1.heap.size ≤ w2.heap.size from h12)
  have H0 : Hid (RaR w w1 p w2.heap.size M l0 e0 n (.string (st [])) (.int .u64 (M : Int)) w3) := Lib.hid ⟨M, [], [], l0, e0, rfl, rfl, Nat.le_refl _, rfl, hr3,
   (HMM.out.mono (T := fun k => w1.heap.size ≤ k) fun k _ e => by rw [show k = w2.heap.size from e]; exact h12).turned (zx hg3) fun k _ h1 h2 => by omega,
   (HG2.out.1.trans (Turned.of_below (S := fun k => k = p) HA2.out) fun _ _ h => h).trans (zx hg3) fun _ _ h => h, by simpa using hl0n, by simp⟩
  clear hr3 hg3 HG2 hM hl0 he0 hl0n hk HMM HA2 hp1 h12
  generalize w2.heap.size = mb at *
  have e0' : (Value.string ⟨#[]⟩) = .string (st []) := rfl
  go_loopw [6, 7] (fun last left wr => RaR w w1 p mb M l0 e0 n last left wr) (fun _ left _ => (intOf left).toNat)
  case atStart => exact H0.out
  case round =>
   clear e0';obtain ⟨m, t, last, l, e, rfl, rfl, hm, hgo, hr, hg, ht, hl, hlast⟩ := hrel;clear H0;rcases Nat.eq_zero_or_pos m with rfl | hpos
   ·have hend := end_rd hr;(have hlt : ¬ (0 : Int) < ((0 : Nat) : Int) := by omega);rw [raGo] at hgo;have HRE := Lib.hid (HR.out.trans (by rw [hgo]));have HK := sq2 hg ht;clear hgo hg ht hr hm hl hlast
    by_cases he : endE l e = 0
    ·have he' : (endE l e != 0) = false := by simpa using he
     go_wp2_with (go_at_call 82; refine hend.mono ?_; clear hend; rintro _ _ ⟨rfl, rfl⟩)
     go_ret2
     (have hr : raM b = some t := by rw [HRE.out, raEnd, if_pos he]);rw [hr];exact ⟨⟨mb, rfl, HK.out.1.mono fun k _ h => Nat.le_trans HB1.out.1.size h⟩, HB1.out.1.trans ((HK.out.2.mono (T := (w.heap.size ≤ ·)) fun k _ e => by rw [show k = p from e]; exact HB1.out.2.1).below HB1.out.1.size)⟩
    ·have he' : (endE l e != 0) = true := by simpa using he
     go_wp2_with (go_at_call 82; refine hend.mono ?_; clear hend; rintro _ _ ⟨rfl, rfl⟩)
     go_ret2
     (have hr : raM b = none := by rw [HRE.out, raEnd, if_neg he]);rw [hr];exact ⟨rfl, HB1.out.1.trans ((HK.out.2.mono (T := (w.heap.size ≤ ·)) fun k _ e => by rw [show k = p from e]; exact HB1.out.2.1).below HB1.out.1.size)⟩
   ·(have hlt : (0 : Int) < (m : Int) := by omega);(have hs1 : IntKind.u64.wrap ((m : Int) - 1) = ((m - 1 : Nat) : Int) := by rw [IntWalk.u64_in _ (by have := HM.out; omega)]; omega);have HL := sq4 hgo hm hl hlast;have hp1 : p < w1.heap.size := HB1.out.2.2;have hmb := hg.1;have HX : Hid (p < w1.heap.size ∧ w1.heap.size ≤ mb) := Lib.hid ⟨hp1, hmb⟩;(have hln : l.length ≤ 140737488355328 := by have := HN.out.2; omega);have hby := bytes_any (most := 64) hr hln (by omega);obtain ⟨K, hK⟩ := sqz (byB l e 64);obtain ⟨l1, hl1⟩ := sqz (byL l e 64);obtain ⟨e1, he1⟩ := sqz (byE l e 64);rw [← hK, ← hl1, ← he1] at hby
    have HEQ := sq3 hK hl1 he1;have HL1 : Hid (l1.length ≤ 140737488355328) := Lib.hid (by have := byL_len l e 64; rw [hl1]; omega);have HK := sq2 hg ht;clear hr hg ht hgo hm hl hp1 hln hK hl1 he1 hlast hmb
    go_upto_region 10 with (go_at_call 81; refine hby.mono ?_; clear hby; rintro _ w6 ⟨A6, n6, c6, rfl, hy6, hr6, hg6, _⟩; have hcs : (convert 54 9 (.slice A6 n6 c6)).run Tryz.prog w6 = .ok (.string (st K)) w6 := yM hy6; have H6 := sq3 hr6 (HK.out.1.turned (zx hg6) fun k _ h1 h2 => by have := HX.out.1; omega) (HK.out.2.trans (zx hg6) fun _ _ h => h); clear hy6 hr6 hg6)
    clear hcs;have hby2 := bytes_any (most := 4096) H6.out.1 HL1.out (by omega);obtain ⟨V, hV⟩ := sqz (byB l1 e1 4096);obtain ⟨l2, hl2⟩ := sqz (byL l1 e1 4096);obtain ⟨e2, he2⟩ := sqz (byE l1 e1 4096);rw [← hV, ← hl2, ← he2] at hby2;have HEQ2 := sq3 hV hl2 he2;clear hV hl2 he2
    have HRG : Hid (raGo m t last l e = if K ≤ last then none else raGo (m - 1) (t ++ [(K, V)]) K l2 e2) := Lib.hid (by
     rw [show m = (m - 1) + 1 by omega, raGo, ← HEQ.out.1, ← HEQ.out.2.1, ← HEQ.out.2.2, ← HEQ2.out.1, ← HEQ2.out.2.1, ← HEQ2.out.2.2];rfl)
    go_upto_region 11 with (go_at_call 81; refine hby2.mono ?_; clear hby2; rintro _ w7 ⟨A7, n7, c7, rfl, hy7, hr7, hg7, _⟩)
    have H7 := sq4 hr7 (H6.out.2.1.turned (zx hg7) fun k _ h1 h2 => by have := HX.out.1; omega) (H6.out.2.2.trans (zx hg7) fun _ _ h => h) hy7;have hm6 := H6.out.2.1.lt;have HM6 := Lib.hid hm6;clear hr7 hg7 hy7 H6 hm6;have hle := run_leq_st 9 K last
    by_cases hkl : K ≤ last
    ·(have hd : decide (K ≤ last) = true := by simpa using hkl);rw [hd] at hle
     go_wp2_with fail
     go_ret2
     have hr : raM b = none := by
      rw [HR.out, HL.out.1, HRG.out, if_pos hkl];rfl
     rw [hr];exact ⟨rfl, HB1.out.1.trans ((H7.out.2.2.1.mono (T := (w.heap.size ≤ ·)) fun k _ e => by rw [show k = p from e]; exact HB1.out.2.1).below HB1.out.1.size)⟩
    ·(have hd : decide (K ≤ last) = false := by simpa using hkl);rw [hd] at hle;have hKl : last < K := List.not_le.1 hkl
     have hkt : ∀ q ∈ t, q.1 < K := fun q hq => by
      have h1 := HL.out.2.2.2 q hq;exact Std.lt_of_le_of_lt h1 hKl
     (have hKn : K.length ≤ 64 := by rw [HEQ.out.1]; exact by_few l e 64);obtain ⟨w8, hrun, hn8, hm8⟩ := H7.out.2.1.put (k := K) (v := V) (by omega) (by have := HL.out.2.2.1; have := HN.out.2; omega) H7.out.2.2.2 (fun q _ h => by have := HM6.out; have h' : w6.heap.size ≤ q := h; omega);rw [doC_end hkt] at hn8;have H8 := sq2 hn8 (mapTurned_turned' hm8);have HKN := sq3 hkl hkt hKn;clear hkl hKl hkt hKn hn8 hm8
     go_wp2_with fail
     go_roundw
     case rel =>
      unfold RaR;(have hne : K ≠ [] := fun e => HKN.out.1 (by rw [e]; exact List.nil_le _));have htk := (by_take l e 64 (.inl (by rw [← HEQ.out.1]; exact hne))).2;have h67 := HM6.out;rw [← HEQ.out.1, ← HEQ.out.2.1] at htk;refine ⟨m - 1, t ++ [(K, V)], K, l2, e2, rfl, rfl, by have := HL.out.2.1; omega, ?_, ?_, ?_, ?_, ?_, ?_⟩
      ·rw [HL.out.1, HRG.out, if_neg HKN.out.1]
      ·exact H7.out.1.turned H8.out.2 fun k _ h1 h2 => by have := HX.out.2; omega
      ·refine H8.out.1.mono fun k _ h => ?_
       rcases h with h | h
       ·exact h
       ·have h' : w6.heap.size ≤ k := h;have := HX.out.2;show w1.heap.size ≤ k;omega
      ·exact H7.out.2.2.1.trans H8.out.2 fun k hk h => by have := HX.out.2; omega
      ·have h1 := byL_len l1 e1 4096;have h2 := HL.out.2.2.1;rw [List.length_append, List.length_singleton, HEQ2.out.2.1];omega
      ·intro q hq;rcases List.mem_append.1 hq with hq | hq
       ·exact List.le_of_lt (HKN.out.2.1 q hq)
       ·simp only [List.mem_singleton] at hq;rw [hq];exact List.le_refl _
     case measure => simp only [intOf]; omega
 ·have hk' : ((uiX b 0 : Int) != 1) = true := by simp; omega
  go_wp2_with (go_at_call 80; refine hu1.mono ?_; clear hu1; rintro _ w2 ⟨rfl, hr2, hg2⟩)
  go_ret2
  rw [raM_no hk];exact ⟨rfl, HB1.out.1.trans (((zx hg2).mono (T := (w.heap.size ≤ ·)) fun k _ e => by rw [show k = p from e]; exact HB1.out.2.1).below HB1.out.1.size)⟩
theorem conv_bytes (l : List UInt8) (hl : l.length ≤ 1000000) (W : World) : ∃ c' W', (convert 9 54 (.string (st l))).run Tryz.prog W = .ok (.slice (some ⟨W.heap.size, 0, none⟩) l.length c') W' ∧ Below W.heap.size W W' ∧ Byt W' (fun b => b = W.heap.size) (some ⟨W.heap.size, 0, none⟩) l.length c' l := by
 have h := run_bytes_of_string (P := Tryz.prog) W 9 54 5 (st l) Tryz.underlying9 Tryz.underlying54 Tryz.underlying5;rw [zN] at h;have hge := grownCap_ge W l.length 0 5;have hle := grownCap_le_maxLen W l.length 0 5 (by unfold maxLen; omega)
 generalize grownCap W l.length 0 5 = C at *
 refine ⟨C, _, h, (yG (Below.refl _ _)).alloc (Nat.le_refl _) _, rfl, hge, hle, fun h0 => ⟨_, 0, rfl, rfl, by simp, fun i hi => ?_⟩⟩;have hnew : (W.drew.alloc (.cells (bytesRow (st l) C) 5 ((bytesRow (st l) C).size, (bytesRow (st l) C).size + 1))).heap[W.heap.size]? = some _ := heap_alloc_new W.drew _;rw [zA hnew];simp [bytesRow, st, Array.getElem?_append, hi]
def CrR (w : World) (p : Nat) (pre : List UInt8) (l : List Ch) (i : Value) (wr : World) : Prop :=
 ∃ j : Nat, j ≤ l.length ∧ i = .int .i64 (j : Int) ∧ Wr wr (w.heap.size ≤ ·) p (pre ++ ofC (l.take j)) ∧ Below w.heap.size w wr
theorem wtC_app (l m : List Ch) : wtC (l ++ m) = wtC l + wtC m := by
 induction l with
 | nil => simp [wtC]
 | cons p t ih => simp only [List.cons_append, wtC, ih]; omega
theorem wtC_take (l : List Ch) (j : Nat) : wtC (l.take j) ≤ wtC l := by
 have h := wtC_app (l.take j) (l.drop j);rw [List.take_append_drop] at h;omega
theorem wtC_mem {l : List Ch} {x : Ch} (h : x ∈ l) : x.k.length + x.v.length + 21 ≤ wtC l := by
 obtain ⟨a, b, rfl⟩ := List.append_of_mem h;rw [wtC_app];simp only [wtC];omega
theorem chsrec_any {w : World} {S : Nat → Prop} {A : Option Addr} {n c : Nat} {l : List Ch} (hl : Chs w S A n c l) (hb : wtC l ≤ 900000) :
    Calls Tryz.prog 64 #[.slice A n c] w fun e w' => ∃ A' m c', e = .returned (.slice A' m c') ∧ Byt w' (w.heap.size ≤ ·) A' m c' (chsB l) ∧ Below w.heap.size w w' := by
 have hnw := newWriter w;have hwl := wtC_len l;have hnl := hl.len;have hcv := IntWalk.u64_in (n : Int) (by omega);have hbig : n ≤ 100000 := by omega
 have HL := sq2 hl hb;have hzc := zero_chg;clear hl hb
 go_enter Tryz.func64, Tryz.ntmps64
 go_upto_region 2 with (go_at_call 85; refine hnw.mono ?_; clear hnw; rintro _ w1 ⟨p, rfl, hw1, hb1⟩)
 have h2 := wuint hw1 (x := 2) (by omega) (by simp);have HB1 := Lib.hid hb1;clear hw1 hb1
 go_upto_region 3 with (go_at_call 86; refine h2.mono ?_; clear h2; rintro _ w2 hp2; obtain ⟨rfl, hw2, ht2⟩ := hp2)
 have hp2 := Put.from (e := .returned (.tuple #[])) (show Put w1 (w.heap.size ≤ ·) p ([] ++ put 2) _ w2 from ⟨rfl, hw2, ht2⟩) HB1.out.size
 have HB2 := Lib.hid (HB1.out.trans hp2.2);have h3 := wuint hp2.1 (x := n) (by omega) (by have := zX (x := 2) (by omega); simp; omega);clear hw2 ht2 hp2 HB1
 go_upto_region 4 with (go_at_call 86; refine h3.mono ?_; clear h3; rintro _ w3 hp3; obtain ⟨rfl, hw3, ht3⟩ := hp3)
 have hp3 := Put.from (e := .returned (.tuple #[])) (show Put w2 (w.heap.size ≤ ·) p ([] ++ put 2 ++ put n) _ w3 from ⟨rfl, hw3, ht3⟩) HB2.out.size
 obtain ⟨pre, hpre⟩ := sqz (put 2 ++ put n);have H0 : Hid (CrR w p pre l (.int .i64 0) w3) := Lib.hid ⟨0, Nat.zero_le _, rfl, by rw [hpre]; simpa [ofC] using hp3.1, HB2.out.trans hp3.2⟩;have HPRE : Hid (pre = put 2 ++ put n ∧ pre.length ≤ 20) := Lib.hid ⟨hpre, by rw [hpre, List.length_append]; have h1 := zX (x := 2) (by omega); have h2 := zX (x := n) (by omega); omega⟩;have HN := Lib.hid hnl;clear hw3 ht3 hp3 HB2 hpre hnl hwl
 go_wp2_with fail
 go_loopw [16] (fun i wr => CrR w p pre l i wr) (fun i _ => n - (intOf i).toNat)
 case atStart => exact H0.out
 case round =>
  obtain ⟨j, hj, rfl, hwr, hbw⟩ := hrel;clear H0;have HK := sq2 hwr hbw;clear hwr hbw
  by_cases hlt : j < n
  ·(have hlt' : (j : Int) < (n : Int) := by omega);obtain ⟨q, off, x, Ai, ni, ci, rfl, _, hqlt, hx, hcs, hy⟩ := HL.out.1.at_ hlt;have hxw := wtC_mem (List.mem_of_getElem? hx);obtain ⟨CV, hCV⟩ := sqz (chV Ai ni ci x);rw [← hCV] at hcs
   have hcw : ∀ (i : Nat) (v : Value), CV[i]? = some v → wr.cell? ((⟨q, off + j * 3, none⟩ : Addr).add i) = some v := fun i v hv => by
    have h1 := hcs i v hv;rw [zK] at h1 ⊢;exact (HK.out.2.cell (p := ⟨_, _, none⟩) hqlt).trans h1
   have hyr := (hy.mono (T := fun k => k < w.heap.size) fun k hk _ => hk).below HK.out.2;have hadd := IntWalk.i64_in ((j : Int) + 1) (by omega);have HCV := sq3 hCV hcw hyr;have HX := sq2 hx hxw;clear hCV hcw hyr hcs hy hx hxw hqlt
   go_upto_region 7 with (first
    | (refine sqwa 18 HCV.out.2.1 Tryz.underlying64 (by rw [HCV.out.1]; exact ys) ?_)
    | (refine zl 5 19 CV (heap_alloc_new wr _) (by rw [HCV.out.1]; exact ys) (by rw [HCV.out.1]; rfl) (by rw [HCV.out.1]; exact chV_one _ _ _ _) ?_))
   have hal : Below wr.heap.size wr ((wr.alloc (.cells #[.string ⟨#[]⟩, .slice none 0 0, .bool false] 64)).setRow wr.heap.size CV) := zD ((Below.refl _ _).alloc (Nat.le_refl _) _) (Nat.le_refl _) _;have hpa : ((wr.alloc (.cells #[.string ⟨#[]⟩, .slice none 0 0, .bool false] 64)).setRow wr.heap.size CV).heap[wr.heap.size]? = some (.cells CV 64 (0, 0)) := zF (heap_alloc_new wr _);(have hw5 := (HK.out.1.mono (T := fun k => w.heap.size ≤ k ∧ k ≠ wr.heap.size) fun k hk h => ⟨h, by omega⟩).turned (T := fun _ => False) (Turned.of_below hal) fun _ _ _ h => h);have H5 := sq3 hal hpa (show ((wr.alloc (.cells #[.string ⟨#[]⟩, .slice none 0 0, .bool false] 64)).setRow wr.heap.size CV).heap.size = wr.heap.size + 1 by simp [World.setRow]);have HW5 := Lib.hid hw5;clear hal hpa hzc hw5
   (generalize (wr.alloc (.cells #[.string ⟨#[]⟩, .slice none 0 0, .bool false] 64)).setRow wr.heap.size CV = w5 at *);(have hc0 : w5.cell? ⟨wr.heap.size, 0, none⟩ = some (.string (st x.k)) := by rw [zA H5.out.2.1, HCV.out.1]; rfl);have hy5 := HCV.out.2.2.below H5.out.1;have HY5 := Lib.hid hy5;clear hy5;obtain ⟨c6, w6, hcv6, hb6, hy6⟩ := conv_bytes x.k (by have := HX.out.2; have := HL.out.2; omega) w5;have hwt := wtC_take l j;have hofl := ofC_len (l.take j) (by have := HL.out.2; omega);(have hl5 : (pre ++ ofC (l.take j)).length ≤ 1000000 := by rw [List.length_append]; have := HPRE.out.2; have := HL.out.2; omega);(have hxb : x.k.length + x.v.length ≤ 900000 := by have := HX.out.2; have := HL.out.2; omega);have hwb := wbytes ((HW5.out.mono (T := fun k => (w.heap.size ≤ k ∧ k ≠ wr.heap.size) ∧ k < w5.heap.size) fun k hk h => ⟨h, hk⟩).turned (T := fun _ => False) (Turned.of_below hb6) fun _ _ _ h => h) hy6 (fun k _ h1 h2 => by rw [h1] at h2; omega) (by omega);have HB6 := sq3 hb6 hl5 hxb;clear hb6 hy6 hwt hofl hl5 hxb
   go_upto_region 8 with (go_at_call 87; refine hwb.mono ?_; clear hwb; rintro _ w7 hp7; obtain ⟨rfl, hw7, ht7⟩ := hp7)
   have H7 := Lib.hid (And.intro (hw7.mono (T := fun k => w.heap.size ≤ k ∧ k ≠ wr.heap.size) fun k hk h => by
       have h1 := HB6.out.1.size; have h2 := H5.out.2.2; have h3 := HK.out.2.size;rcases h with h | h
       ·exact h.1
       ·exact ⟨by omega, by omega⟩) ((Turned.of_below (S := fun k => w.heap.size ≤ k ∧ k ≠ wr.heap.size) HB6.out.1).trans ht7 fun k _ h => h.1))
   clear hw7 ht7 hcv6;have hc2 : w7.cell? ⟨wr.heap.size, 2, none⟩ = some (.bool x.g) := (xS H7.out.2 (by have := H5.out.2.2; omega) (fun h => h.2 rfl) 2).trans (by rw [zA H5.out.2.1, HCV.out.1]; rfl)
   have hrl : ((pre ++ ofC (l.take j)) ++ (put x.k.length ++ x.k)).length ≤ 2000000 := by
    have h1 := zX (x := x.k.length) (by have := HB6.out.2.2; omega);have h2 := HB6.out.2.1;have h3 := HB6.out.2.2;simp only [List.length_append] at h2 ⊢;omega
   have hwo := wbool H7.out.1 x.g (by omega);have HRL := Lib.hid hrl;clear hrl hc0
   go_upto_region 9 with (go_at_call 88; refine hwo.mono ?_; clear hwo; rintro _ w8 hp8; obtain ⟨rfl, hw8, ht8⟩ := hp8)
   have H8 := Lib.hid (And.intro (hw8.mono (T := fun k => w.heap.size ≤ k ∧ k ≠ wr.heap.size) fun k hk h => by
       have h1 := H7.out.2.size; have h2 := H5.out.2.2; have h3 := HK.out.2.size;rcases h with h | h
       ·exact h
       ·exact ⟨by omega, by omega⟩) (H7.out.2.trans ht8 fun k _ h => h))
   clear hw8 ht8 hc2;have hc2 : w8.cell? ⟨wr.heap.size, 2, none⟩ = some (.bool x.g) := (xS H8.out.2 (by have := H5.out.2.2; omega) (fun h => h.2 rfl) 2).trans (by rw [zA H5.out.2.1, HCV.out.1]; rfl);have hc1 : w8.cell? ⟨wr.heap.size, 1, none⟩ = some (.slice Ai ni ci) := (xS H8.out.2 (by have := H5.out.2.2; omega) (fun h => h.2 rfl) 1).trans (by rw [zA H5.out.2.1, HCV.out.1]; rfl)
   have HTK : Hid (l.take (j + 1) = l.take j ++ [x]) := Lib.hid (by
    obtain ⟨hjl, hxe⟩ := List.getElem?_eq_some_iff.1 HX.out.1;rw [List.take_succ_eq_append_getElem hjl, hxe])
   have HBA : Hid (∀ W, Turned (fun k => w.heap.size ≤ k ∧ k ≠ wr.heap.size) w5 W → Below w.heap.size w W) := Lib.hid (fun W h => HK.out.2.trans ((H5.out.1.mono HK.out.2.size).trans ((h.mono (T := (w.heap.size ≤ ·)) fun k _ hk => hk.1).below (by have := HK.out.2.size; have := H5.out.2.2; omega))))
   cases hg : x.g
   ·rw [hg] at hc2;have hwv := wbytes (H8.out.1) (HY5.out.turned H8.out.2 fun k _ h1 h2 => by have := h2.1; omega) (fun k _ h1 h2 => by have := h2.1; omega) (by have h1 := HRL.out; have := HB6.out.2.2; have := HY5.out.len; simp only [List.length_append, List.length_singleton] at h1 ⊢; omega);have HG := Lib.hid hg;clear hg
    go_wp2_with (go_at_call 87; refine hwv.mono ?_; clear hwv; rintro _ w9 hp9; obtain ⟨rfl, hw9, ht9⟩ := hp9; have H9 := sq2 hw9 ht9; clear hw9 ht9)
    go_roundw
    case rel =>
     unfold CrR;refine ⟨j + 1, by have := HN.out; omega, by simp, ?_, HBA.out _ (H8.out.2.trans H9.out.2 fun k _ h => h)⟩;rw [HTK.out, ofC_snoc]
     have e : pre ++ (ofC (l.take j) ++ chgB x) = pre ++ ofC (l.take j) ++ (put x.k.length ++ x.k) ++ [if x.g then 1 else 0] ++ (put x.v.length ++ x.v) := by
      unfold chgB rowB;simp [HG.out]
     rw [e];refine H9.out.1.mono fun k hk h => ?_
     rcases h with h | h
     ·exact h.1
     ·have h1 := H8.out.2.size;have h2 := H5.out.2.2;have h3 := HK.out.2.size;omega
    case measure => simp only [intOf]; omega
   ·rw [hg] at hc2;have HG := Lib.hid hg;clear hg hc1
    go_wp2_with fail
    go_roundw
    case rel =>
     unfold CrR;refine ⟨j + 1, by have := HN.out; omega, by simp, ?_, HBA.out _ H8.out.2⟩;rw [HTK.out, ofC_snoc]
     have e : pre ++ (ofC (l.take j) ++ chgB x) = pre ++ ofC (l.take j) ++ (put x.k.length ++ x.k) ++ [if x.g then 1 else 0] := by
      unfold chgB rowB;simp [HG.out]
     rw [e];exact H8.out.1.mono fun k hk h => h.1
    case measure => simp only [intOf]; omega
  ·(obtain rfl : j = n := by have := HN.out; omega);(have hnl : ¬ (j : Int) < (j : Int) := by omega);have hfull : l.take j = l := List.take_of_length_le (by have := HN.out; omega);have h1 := HK.out.1;rw [hfull, HPRE.out.1, ← HN.out, show put 2 ++ put l.length ++ ofC l = chsB l from rfl] at h1;have hcl := chsB_len l (by have := HL.out.2; omega);have hout := wout h1 (by have := HL.out.2; omega);have HB := Lib.hid HK.out.2;clear hlt h1 hfull hcl;obtain ⟨M, hM⟩ := sqz ((chsB l).length);rw [← hM] at hout;clear hM
   go_wp2_with (go_at_call 89; refine hout.mono ?_; clear hout; rintro _ w8 ⟨A8, c8, rfl, hy8, hb8, _⟩; have H8 := sq2 (hy8.mono (T := (w.heap.size ≤ ·)) fun k _ hk => Nat.le_trans HB.out.size hk) (HB.out.trans (hb8.mono HB.out.size)); clear hy8 hb8)
   go_ret
   exact ⟨A8, _, c8, rfl, H8.out.1, H8.out.2⟩
structure DM where
 l : List (List UInt8)
 left : Int
 torn : Int
 down : Bool
def dmV (d : DM) (A : Option Addr) (n c : Nat) : Array Value := #[.slice A n c, .int .i64 d.left, .int .i64 d.torn, .bool d.down]
def zz (d : DM) (i : Int) : List UInt8 × Int := if d.down = true then ([], 30) else if i < 0 ∨ (d.l.length : Int) ≤ i then ([], 14) else (d.l[i.toNat]?.getD [], 0)
def zm (d : DM) (i : Int) (b : List UInt8) : DM × Int :=
 if d.down = true then (d, 30) else if i < 0 ∨ (d.l.length : Int) ≤ i then (d, 14) else if b.length ≠ 128 then (d, 1)
 else if d.left = 0 then ({ d with l := d.l.set i.toNat (b.take d.torn.toNat ++ (d.l[i.toNat]?.getD []).drop d.torn.toNat), down := true }, 30)
 else ({ d with l := d.l.set i.toNat b, left := if 0 < d.left then d.left - 1 else d.left }, 0)
def stopM (d : DM) (after torn : Int) : DM := { d with left := if after < 0 then -1 else after, torn := if torn < 0 then 0 else if 128 < torn then 128 else torn }
def xP (d : DM) : DM := { d with left := -1, down := false }
theorem rbread_any {w : World} {S : Nat → Prop} {A : Option Addr} {n c : Nat} {d : DM} (h : Strs w S A n c d.l) (i : Int) :
    Calls Tryz.prog 44 #[.agg (dmV d A n c), .int .i64 i] w fun e w' => e = .returned (.tuple #[.string (st (zz d i).1), .int .i64 (zz d i).2]) ∧ Below w.heap.size w w' := by
 obtain ⟨l, left, torn, down⟩ := d;simp only at h;have hb : Below w.heap.size w (w.alloc (.cells (dmV ⟨l, left, torn, down⟩ A n c) 30)) := (Below.refl _ _).alloc (Nat.le_refl _) _;have HB := sq2 hb (h.below hb);have hlen := h.len;clear hb h;unfold dmV at *
 cases down with
 | true =>
   have HR : Hid (zz ⟨l, left, torn, true⟩ i = ([], 30)) := Lib.hid (by simp [zz]);clear hlen
   go_enter Tryz.func44, Tryz.ntmps44
   go_wp2
   go_ret2
   exact ⟨by rw [HR.out]; rfl, HB.out.1⟩
 | false =>
   by_cases h1 : i < 0
   ·have HR : Hid (zz ⟨l, left, torn, false⟩ i = ([], 14)) := Lib.hid (by simp [zz, h1]);clear hlen
    go_enter Tryz.func44, Tryz.ntmps44
    go_wp2
    go_ret2
    exact ⟨by rw [HR.out]; rfl, HB.out.1⟩
   ·by_cases h2 : (n : Int) ≤ i
    ·have HR : Hid (zz ⟨l, left, torn, false⟩ i = ([], 14)) := Lib.hid (by simp [zz, hlen, h2]);clear hlen
     go_enter Tryz.func44, Tryz.ntmps44
     go_wp2
     go_ret2
     exact ⟨by rw [HR.out]; rfl, HB.out.1⟩
    ·obtain ⟨i', rfl⟩ := Int.eq_ofNat_of_zero_le (show 0 ≤ i by omega);have HR : Hid (zz ⟨l, left, torn, false⟩ (i' : Int) = (l[i']?.getD [], 0)) := Lib.hid (by simp [zz, hlen, h2]);obtain ⟨q, o, rfl, _, _, hc⟩ := HB.out.2.row (by omega);have hc := hc i' (by omega);have h3 : (i' : Int) < (n : Int) := by omega
     (generalize l[i']?.getD [] = x at *);clear hlen h1 h2
     go_enter Tryz.func44, Tryz.ntmps44
     go_wp2
     go_ret2
     exact ⟨by rw [HR.out]; rfl, HB.out.1⟩
theorem zI : (Tryz.prog.info? 30).map (·.size) = some 4 := by kernel_rfl
theorem xM : ∀ W, (zeroValue 30).run Tryz.prog W = .ok (.agg #[.slice none 0 0, .int .i64 0, .int .i64 0, .bool false]) W := fun W => by kernel_rfl
theorem dm_result {fn : Func} {p : Tmp} (h : fn.results = #[.cell p 30]) (tmps : Array Value) (w : World) (o : Obj) (v1 v2 v3 v4 : Value) (hp : tmps.getD p undef = .pointer (some ⟨w.heap.size + 1, 0, none⟩)) :
    (results fn tmps).run Tryz.prog ((w.alloc o).alloc (.cells #[v1, v2, v3, v4] 30)) = .ok (.agg #[v1, v2, v3, v4]) ((w.alloc o).alloc (.cells #[v1, v2, v3, v4] 30)) :=
 results_cell_row h tmps _ (w.heap.size + 1) 30 #[v1, v2, v3, v4] (0, 0) _ hp (by have := heap_alloc_new (w.alloc o) (.cells #[v1, v2, v3, v4] 30); rwa [World.size_alloc] at this) Tryz.underlying30 rfl zI
theorem zi (w : World) (o p : Obj) : Below w.heap.size w ((w.alloc o).alloc p) := ((Below.refl _ _).alloc (Nat.le_refl _) _).alloc (by simp) _
theorem rbrestart_any (d : DM) (A : Option Addr) (n c : Nat) (w : World) :
    Calls Tryz.prog 18 #[.agg (dmV d A n c)] w fun e w' => e = .returned (.agg (dmV (xP d) A n c)) ∧ Below w.heap.size w w' := by
 obtain ⟨l, left, torn, down⟩ := d;unfold dmV xP;have hz := xM
 go_enter Tryz.func18, Tryz.ntmps18
 go_wp2
 exact bodyPost_ret (dm_result rfl _ w _ _ _ _ _ rfl) rfl ⟨rfl, zi w _ _⟩
theorem rbstop_nn (d : DM) (A : Option Addr) (n c : Nat) (after torn : Int) (h1 : after < 0) (h2 : torn < 0) (h3 : ¬ 128 < torn) (w : World) :
    Calls Tryz.prog 14 #[.agg (dmV d A n c), .int .i64 after, .int .i64 torn] w fun e w' => e = .returned (.agg #[.slice A n c, .int .i64 (-1), .int .i64 0, .bool d.down]) ∧ Below w.heap.size w w' := by
 obtain ⟨l, left, tn, down⟩ := d;unfold dmV;have hz := xM
 go_enter Tryz.func14, Tryz.ntmps14
 go_wp2
 exact bodyPost_ret (dm_result rfl _ w _ _ _ _ _ rfl) rfl ⟨rfl, zi w _ _⟩
theorem rbstop_nh (d : DM) (A : Option Addr) (n c : Nat) (after torn : Int) (h1 : after < 0) (h2 : ¬ torn < 0) (h3 : 128 < torn) (w : World) :
    Calls Tryz.prog 14 #[.agg (dmV d A n c), .int .i64 after, .int .i64 torn] w fun e w' => e = .returned (.agg #[.slice A n c, .int .i64 (-1), .int .i64 128, .bool d.down]) ∧ Below w.heap.size w w' := by
 obtain ⟨l, left, tn, down⟩ := d;unfold dmV;have hz := xM
 go_enter Tryz.func14, Tryz.ntmps14
 go_wp2
 exact bodyPost_ret (dm_result rfl _ w _ _ _ _ _ rfl) rfl ⟨rfl, zi w _ _⟩
theorem rbstop_nm (d : DM) (A : Option Addr) (n c : Nat) (after torn : Int) (h1 : after < 0) (h2 : ¬ torn < 0) (h3 : ¬ 128 < torn) (w : World) :
    Calls Tryz.prog 14 #[.agg (dmV d A n c), .int .i64 after, .int .i64 torn] w fun e w' => e = .returned (.agg #[.slice A n c, .int .i64 (-1), .int .i64 torn, .bool d.down]) ∧ Below w.heap.size w w' := by
 obtain ⟨l, left, tn, down⟩ := d;unfold dmV;have hz := xM
 go_enter Tryz.func14, Tryz.ntmps14
 go_wp2
 exact bodyPost_ret (dm_result rfl _ w _ _ _ _ _ rfl) rfl ⟨rfl, zi w _ _⟩
theorem rbstop_pn (d : DM) (A : Option Addr) (n c : Nat) (after torn : Int) (h1 : ¬ after < 0) (h2 : torn < 0) (h3 : ¬ 128 < torn) (w : World) :
    Calls Tryz.prog 14 #[.agg (dmV d A n c), .int .i64 after, .int .i64 torn] w fun e w' => e = .returned (.agg #[.slice A n c, .int .i64 after, .int .i64 0, .bool d.down]) ∧ Below w.heap.size w w' := by
 obtain ⟨l, left, tn, down⟩ := d;unfold dmV;have hz := xM
 go_enter Tryz.func14, Tryz.ntmps14
 go_wp2
 exact bodyPost_ret (dm_result rfl _ w _ _ _ _ _ rfl) rfl ⟨rfl, zi w _ _⟩
theorem rbstop_ph (d : DM) (A : Option Addr) (n c : Nat) (after torn : Int) (h1 : ¬ after < 0) (h2 : ¬ torn < 0) (h3 : 128 < torn) (w : World) :
    Calls Tryz.prog 14 #[.agg (dmV d A n c), .int .i64 after, .int .i64 torn] w fun e w' => e = .returned (.agg #[.slice A n c, .int .i64 after, .int .i64 128, .bool d.down]) ∧ Below w.heap.size w w' := by
 obtain ⟨l, left, tn, down⟩ := d;unfold dmV;have hz := xM
 go_enter Tryz.func14, Tryz.ntmps14
 go_wp2
 exact bodyPost_ret (dm_result rfl _ w _ _ _ _ _ rfl) rfl ⟨rfl, zi w _ _⟩
theorem rbstop_pm (d : DM) (A : Option Addr) (n c : Nat) (after torn : Int) (h1 : ¬ after < 0) (h2 : ¬ torn < 0) (h3 : ¬ 128 < torn) (w : World) :
    Calls Tryz.prog 14 #[.agg (dmV d A n c), .int .i64 after, .int .i64 torn] w fun e w' => e = .returned (.agg #[.slice A n c, .int .i64 after, .int .i64 torn, .bool d.down]) ∧ Below w.heap.size w w' := by
 obtain ⟨l, left, tn, down⟩ := d;unfold dmV;have hz := xM
 go_enter Tryz.func14, Tryz.ntmps14
 go_wp2
 exact bodyPost_ret (dm_result rfl _ w _ _ _ _ _ rfl) rfl ⟨rfl, zi w _ _⟩
theorem rbstop_any (d : DM) (A : Option Addr) (n c : Nat) (after torn : Int) (w : World) :
    Calls Tryz.prog 14 #[.agg (dmV d A n c), .int .i64 after, .int .i64 torn] w fun e w' => e = .returned (.agg (dmV (stopM d after torn) A n c)) ∧ Below w.heap.size w w' := by
 unfold dmV stopM
 by_cases h1 : after < 0
 ·rw [if_pos h1]
  by_cases h2 : torn < 0
  ·rw [if_pos h2]; exact rbstop_nn d A n c after torn h1 h2 (by omega) w
  ·rw [if_neg h2]
   by_cases h3 : 128 < torn
   ·rw [if_pos h3]; exact rbstop_nh d A n c after torn h1 h2 h3 w
   ·rw [if_neg h3]; exact rbstop_nm d A n c after torn h1 h2 h3 w
 ·rw [if_neg h1]
  by_cases h2 : torn < 0
  ·rw [if_pos h2]; exact rbstop_pn d A n c after torn h1 h2 (by omega) w
  ·rw [if_neg h2]
   by_cases h3 : 128 < torn
   ·rw [if_pos h3]; exact rbstop_ph d A n c after torn h1 h2 h3 w
   ·rw [if_neg h3]; exact rbstop_pm d A n c after torn h1 h2 h3 w
end Go.Proofs.YtmioifcbkhpdaaaGreat
