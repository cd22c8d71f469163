/-
  The statement CellsPlays, proved: for every number and every things that are done the law returns true. No condition.
-/
import Derived.Test.YtmioifcbkhpdaaaGreatPkPl25
import Derived.Test.YtmioifcbkhpdaaaGreatPkPl21
import Derived.Test.YtmioifcbkhpdaaaGreatPkPl29
import Derived.Test.YtmioifcbkhpdaaaGreatPkPl19
import Derived.Test.YtmioifcbkhpdaaaGreatPkPl01
import Derived.Deep.CutBlock
namespace Go.Proofs.YtmioifcbkhpdaaaGreat
set_option maxHeartbeats 16000000
set_option maxRecDepth 100000
open Go.RowKit Codec
def RPl (w0 : World) (m g pw pm ns : Nat) (sv e f i : Value) (wr : World) : Prop := ∃ (j : Nat) (d : DM) (po : Option Nat) (s M : SM) (E : Int) (R : Nat → Prop), j ≤ 24 ∧ j ≤ ns ∧ sv = poV po ∧ e = .int .i64 E ∧ f = .int .i64 E ∧ i = .int .i64 (j : Int) ∧ PK w0 m wr g d po s R ∧ PM m wr pw pm d M R ∧ d.l.length ≤ 20 ∧ d.Ok ∧ (∀ p, po = some p → InvP d s M j)
theorem cpl_wt (l : List Ch) : wtC l = sumC l + 21 * l.length := by
 induction l with
 | nil => rfl
 | cons x l ih =>
   have e1 : wtC (x :: l) = x.k.length + x.v.length + 21 + wtC l := rfl;(have e3 : sumC (x :: l) = (x.k.length + x.v.length) + sumC l := by simp [sumC]);rw [e1, e3, ih, List.length_cons];omega
theorem cpl_wrap (x : Int) : -9223372036854775808 ≤ IntKind.i64.wrap x ∧ IntKind.i64.wrap x ≤ 9223372036854775807 := by
 rw [IntKind.wrap_i64];omega
theorem cpl_new {N : Nat} (h1 : 1 ≤ N) (h2 : N ≤ 20) : (newM (N : Int)).2 = 0 ∧ (newM (N : Int)).1.l.length = N := by
 refine ⟨?_, newM_len N h1 (by omega)⟩;unfold newM;rw [if_neg (by omega)]
def dzV : Array Value := #[.slice none 0 0, .int .i64 0, .int .i64 0, .bool false]
def szV : Array Value := smV sm0 none 0 0 none 0 0
theorem cplays_run {w : World} {A : Option Addr} {ns cs : Nat} {l : List CAct} (hacts : CActs w A ns cs l) (n : Int) :
    Calls Tryz.prog 3 #[.int .i64 n, .slice A ns cs] w fun e w' => e = .returned (.bool true) ∧ Below w.heap.size w w' := by
 have haw := celawk_true w
 by_cases h1 : n < 1
 ·clear hacts
  go_enter Tryz.func3, Tryz.ntmps3
  go_wp2_with (go_at_call 4; refine haw.mono ?_; clear haw; rintro _ w1 ⟨rfl, hb1⟩)
  go_ret
  exact ⟨rfl, hb1⟩
 by_cases h2 : 20 < n
 ·clear hacts
  go_enter Tryz.func3, Tryz.ntmps3
  go_wp2_with (go_at_call 4; refine haw.mono ?_; clear haw; rintro _ w1 ⟨rfl, hb1⟩)
  go_ret
  exact ⟨rfl, hb1⟩
 obtain ⟨N, rfl⟩ := Int.eq_ofNat_of_zero_le (show 0 ≤ n by omega);have HN := sq3 hacts (show 1 ≤ N by omega) (show N ≤ 20 by omega);clear hacts
 go_enter Tryz.func3, Tryz.ntmps3
 go_upto_region 6 with (go_at_call 4; refine haw.mono ?_; clear haw; rintro _ w1 ⟨rfl, hb1⟩)
 clear h1 h2;have hnew := Dsk.new hb1 N HN.out.2.1 (by have := HN.out.2.2; omega);clear hb1
 go_upto_region 7 with (go_at_call 5; refine hnew.mono ?_; clear hnew; rintro _ w2 ⟨g, rfl, hd⟩)
 obtain ⟨d0, hd0⟩ := sqz ((newM (N : Int)).1);rw [← hd0] at hd;obtain ⟨m, hm⟩ := sqz w2.heap.size;rw [← hm] at hd;have HD2 := sq3 hd hm hd0;clear hm hd hd0;have hrn := rbnew_any (N : Int) w2;rw [(cpl_new HN.out.2.1 HN.out.2.2).1, ← HD2.out.2.2] at hrn;have hzd : ∀ W, (zeroValue 30).run Tryz.prog W = .ok (.agg dzV) W := xM
 go_upto_region 8 with (first
  | (go_at_call 6; refine hrn.mono ?_; clear hrn; rintro _ w3 ⟨A3, n3, c3, rfl, hst, hb3⟩; obtain ⟨VV, hVV⟩ := sqz (dmV d0 A3 n3 c3); rw [← hVV]; have H3 := sq3 hst hb3 hVV; clear hst hb3 hVV)
  | (refine zl 8 35 VV (heap_alloc_new w3 _) (by rw [H3.out.2.2]; exact zI) (by rw [H3.out.2.2]; rfl) (by rw [H3.out.2.2]; exact zt _ _ _ _) ?_))
 clear hzd;have hal : Below w3.heap.size w3 ((w3.alloc (.cells dzV 30)).setRow w3.heap.size VV) := zD ((Below.refl _ _).alloc (Nat.le_refl _) _) (Nat.le_refl _) _;have hbx : ((w3.alloc (.cells dzV 30)).setRow w3.heap.size VV).heap[w3.heap.size]? = some (.cells VV 30 (0, 0)) := zF (heap_alloc_new w3 _);have hs4 : ((w3.alloc (.cells dzV 30)).setRow w3.heap.size VV).heap.size = w3.heap.size + 1 := by simp [World.setRow]
 have hd4 := (HD2.out.1.below H3.out.2.1).below hal;have hst4 := (H3.out.1.mono (T := fun k => (m ≤ k ∧ k < w3.heap.size)) fun k hk h => ⟨by have := HD2.out.2.1; omega, hk⟩).below hal;have H4 := sq6 hd4 hbx hs4 hst4 H3.out.2.2 (show m ≤ w3.heap.size by have h1 := HD2.out.2.1; have h2 := H3.out.2.1.size; omega);have HL := Lib.hid (show d0.l.length ≤ 20 by rw [HD2.out.2.2, (cpl_new HN.out.2.1 HN.out.2.2).2]; exact HN.out.2.2);clear hal hbx hs4 hd4 hst4 H3 HD2
 generalize (w3.alloc (.cells dzV 30)).setRow w3.heap.size VV = w4 at *
 generalize w3.heap.size = pw at *
 have hop := PK.open_ (R := fun k => m ≤ k ∧ k ≤ pw) H4.out.1 (fun k hk => ⟨hk.1, by have := H4.out.2.2.1; omega⟩);obtain ⟨s0, hs0⟩ := sqz ((zY d0).1);obtain ⟨E, hE⟩ := sqz ((zY d0).2);rw [← hs0, ← hE] at hop;have HE := sq2 hs0 hE;clear hs0 hE
 go_upto_region 9 with (go_at_call 7; refine hop.mono ?_; clear hop; rintro _ w5 ⟨po, rfl, hz5, hk5, hb5⟩)
 have H5 := sq3 hk5 hb5 hz5;clear hk5 hb5 hz5;have hvv5 : w5.heap[pw]? = some (.cells VV 30 (0, 0)) := (H5.out.2.1.block _ (zB H4.out.2.1)).trans H4.out.2.1;have hro := rcopen_any (H4.out.2.2.2.1.below H5.out.2.1) H4.out.1.dk.ok (by have h1 := H4.out.2.2.2.1.len; have h2 := HL.out; omega);rw [← H4.out.2.2.2.2.1] at hro;unfold ROpPost at hro;rw [← HE.out.1, ← HE.out.2] at hro;have hzl : ∀ W, (zeroValue 41).run Tryz.prog W = .ok (.agg szV) W := zero_sm
 have HV := Lib.hid hvv5;clear hvv5
 go_upto_region 10 with (first
  | (refine yA 8 HV.out Tryz.underlying30 (by rw [H4.out.2.2.2.2.1]; exact zI) ?_)
  | (go_at_call 8; refine hro.mono ?_; clear hro; rintro _ w6 ⟨A6, n6, c6, A7, n7, c7, rfl, hct6, hst6, hb6⟩; obtain ⟨MV, hMV⟩ := sqz (smV s0 A6 n6 c6 A7 n7 c7); rw [← hMV]; have H6 := sq4 hct6 hst6 hb6 hMV; clear hct6 hst6 hb6 hMV)
  | (refine zl 12 45 MV (heap_alloc_new w6 _) (by rw [H6.out.2.2.2]; exact za) (by rw [H6.out.2.2.2]; rfl) (by rw [H6.out.2.2.2]; exact yL _ _ _ _ _ _ _) ?_))
 clear hzl
 have hS : RPl w m g pw w6.heap.size ns (poV po) (.int .i64 E) (.int .i64 E) (.int .i64 0) ((w6.alloc (.cells szV 41)).setRow w6.heap.size MV) := by
  have hal : Below w6.heap.size w6 ((w6.alloc (.cells szV 41)).setRow w6.heap.size MV) := zD ((Below.refl _ _).alloc (Nat.le_refl _) _) (Nat.le_refl _) _;have hbx : ((w6.alloc (.cells szV 41)).setRow w6.heap.size MV).heap[w6.heap.size]? = some (.cells MV 41 (0, 0)) := zF (heap_alloc_new w6 _);have hs7 : ((w6.alloc (.cells szV 41)).setRow w6.heap.size MV).heap.size = w6.heap.size + 1 := by simp [World.setRow]
  have h6s := H6.out.2.2.1.size;have h5s := H5.out.2.1.size;have h4s := H4.out.2.2.1;have h4m := H4.out.2.2.2.2.2;have hb57 := H6.out.2.2.1.trans (hal.mono H6.out.2.2.1.size)
  have hR : ∀ k, moreR w5 ((w6.alloc (.cells szV 41)).setRow w6.heap.size MV) (fun k => m ≤ k ∧ k ≤ pw) k → (m ≤ k ∧ k ≤ pw) ∨ (w5.heap.size ≤ k ∧ k ≤ w6.heap.size) := fun k hk => by
   rcases hk with hk | hk
   ·exact .inl hk
   ·rw [hs7] at hk;exact .inr (by omega)
  have hR6 : ∀ k, w5.heap.size ≤ k → k < w6.heap.size → moreR w5 ((w6.alloc (.cells szV 41)).setRow w6.heap.size MV) (fun k => m ≤ k ∧ k ≤ pw) k ∧ k ≠ pw ∧ k ≠ w6.heap.size := fun k h1 h2 => ⟨.inr ⟨h1, by rw [hs7]; omega⟩, by omega, by omega⟩
  refine ⟨0, d0, po, s0, s0, E, _, by omega, Nat.zero_le _, rfl, rfl, rfl, rfl, H5.out.1.more hb57, ⟨fun k hk => ?_, .inl ⟨h4m, Nat.le_refl _⟩, .inr ⟨h6s, by rw [hs7]; omega⟩, by omega, ⟨A3, n3, c3, ?_, ?_⟩, ⟨A6, n6, c6, A7, n7, c7, ?_, ?_, ?_⟩⟩, HL.out, H4.out.1.dk.ok, fun p hp => ?_⟩
  ·rw [hs7];rcases hR k hk with h | h <;> omega
  ·rw [← H4.out.2.2.2.2.1];exact ((H5.out.2.1.trans (hb57.mono h5s)).block _ (zB H4.out.2.1)).trans H4.out.2.1
  ·exact (H4.out.2.2.2.1.mono fun k hk h => ⟨.inl ⟨h.1, by omega⟩, by omega, by omega⟩).below (H5.out.2.1.trans (hb57.mono h5s))
  ·rw [← H6.out.2.2.2];exact hbx
  ·exact (H6.out.1.mono fun k hk h => hR6 k h hk).below hal
  ·exact (H6.out.2.1.mono fun k hk h => hR6 k h hk).below hal
  ·(have hz : (zY d0).2 = 0 := by rw [← HE.out.2]; exact H5.out.2.2.2 (by rw [hp]; rfl));rw [HE.out.1];exact InvP.open_ (by have := HL.out; omega) hz 0
 have HS := Lib.hid hS;have HZ := Lib.hid H5.out.2.2;clear hS H4 H5 H6 HV HE
 generalize (w6.alloc (.cells szV 41)).setRow w6.heap.size MV = w7 at *
 generalize w6.heap.size = pm at *
 cases po with
 | none =>
   rw [show poV none = Value.pointer none from rfl];(have hz : (E != 0) = true := by simpa using fun h : E = 0 => by simpa using HZ.out.1 h);have H7 : Hid (Below w.heap.size w w7) := Lib.hid (by obtain ⟨_, _, _, _, _, _, _, _, _, _, _, _, _, hk, _⟩ := HS.out; exact hk.dsk.bel);clear HZ HS
   go_wp2_with fail
   go_loopw [10, 14] (fun sv i wr => sv = .pointer none ∧ i = .int .i64 0 ∧ wr = w7) (fun _ _ _ => 0)
   case atStart => exact ⟨rfl, rfl, rfl⟩
   case round =>
    obtain ⟨rfl, rfl, rfl⟩ := hrel
    by_cases h1 : (0 : Int) < (ns : Int)
    ·go_wp2_with fail
     go_ret
     exact ⟨rfl, H7.out⟩
    ·go_wp2_with fail
     go_ret
     exact ⟨rfl, H7.out⟩
 | some p =>
   rw [show poV (some p) = Value.pointer (some ⟨p, 0, none⟩) from rfl] at HS ⊢;obtain rfl : E = 0 := HZ.out.2 rfl;clear HZ
   go_wp2_with fail
   go_loopw [10, 11, 13, 14] (fun sv e f i wr => RPl w m g pw pm ns sv e f i wr) (fun _ _ _ i _ => 24 - (intOf i).toNat)
   case atStart => exact HS.out
   case round =>
    obtain ⟨i, d, po, s, M, E, R, hi, hins, rfl, rfl, rfl, rfl, hk, hm, hl20, hok, hinv⟩ := hrel;have HR := sq5 hk hm hl20 hok hinv;have HI := sq2 hi hins;clear hi hins hk hm hl20 hok hinv HS
    by_cases h1 : i < ns
    ·have h1' : (i : Int) < (ns : Int) := by omega
     by_cases h2 : i < 24
     ·have h2' : (i : Int) < 24 := by omega
      cases po with
      | none =>
        rw [show poV none = Value.pointer none from rfl];have HB := Lib.hid HR.out.1.dsk.bel;clear h1 h2
        go_wp2_with fail
        go_ret
        exact ⟨rfl, HB.out⟩
      | some p =>
        rw [show poV (some p) = Value.pointer (some ⟨p, 0, none⟩) from rfl];have hact := HN.out.1;obtain ⟨b, off, rfl, hbl, hcl⟩ := hact.row (by omega);(obtain ⟨a, ha⟩ : ∃ a, l[i]? = some a := ⟨_, List.getElem?_eq_getElem (by have := hact.len; omega)⟩);have hbd := hact.each a (List.mem_of_getElem? ha);obtain ⟨AV, hAV⟩ := sqz (cactV a)
        have hcells : ∀ (j : Nat) (v : Value), AV[j]? = some v → wr.cell? ((⟨b, off + i * 5, none⟩ : Addr).add j) = some v := fun j v hv => by
         rw [zK];exact (HR.out.1.dsk.bel.cell (p := ⟨_, _, none⟩) hbl).trans (hcl i a ha j v (by rw [← hAV]; exact hv))
        have HAV := sq3 hAV hbd hcells;have hza := zero_cact;have hadd := IntWalk.i64_in ((i : Int) + 1) (by omega);have HGO := sq2 h1 h2;clear hact hbl hcl ha hbd hAV hcells h1 h2
        go_upto_region 16 with (first
         | (refine sqwa 73 HAV.out.2.2 Tryz.underlying46 (by rw [HAV.out.1]; exact cact_info) ?_)
         | (refine zl 15 74 AV (heap_alloc_new wr _) (by rw [HAV.out.1]; exact cact_info) (by rw [HAV.out.1]; rfl) (by rw [HAV.out.1]; exact cact_one _) ?_))
        have hal : Below wr.heap.size wr ((wr.alloc (.cells #[.int .i64 0, .slice none 0 0, .int .i64 0, .int .i64 0, .int .i64 0] 46)).setRow wr.heap.size AV) := zD ((Below.refl _ _).alloc (Nat.le_refl _) _) (Nat.le_refl _) _;have hpa : ((wr.alloc (.cells #[.int .i64 0, .slice none 0 0, .int .i64 0, .int .i64 0, .int .i64 0] 46)).setRow wr.heap.size AV).heap[wr.heap.size]? = some (.cells AV 46 (0, 0)) := zF (heap_alloc_new wr _);have hkA := HR.out.1.more hal;have hmA := HR.out.2.1.more hal HR.out.1.dsk.top;have hpr : moreR wr ((wr.alloc (.cells #[.int .i64 0, .slice none 0 0, .int .i64 0, .int .i64 0, .int .i64 0] 46)).setRow wr.heap.size AV) R wr.heap.size := .inr ⟨Nat.le_refl _, by simp [World.setRow]⟩;have hpn : wr.heap.size ≠ pw ∧ wr.heap.size ≠ pm := ⟨fun e => by have := (HR.out.2.1.rb pw HR.out.2.1.bw).2; omega, fun e => by have := (HR.out.2.1.rb pm HR.out.2.1.bm).2; omega⟩;obtain ⟨R5, hR5⟩ := sqz (moreR wr ((wr.alloc (.cells #[.int .i64 0, .slice none 0 0, .int .i64 0, .int .i64 0, .int .i64 0] 46)).setRow wr.heap.size AV) R);rw [← hR5] at hkA hmA hpr;have H5 := sq5 hkA hmA hpa hpr hpn;have HIV := sq3 HR.out.2.2.1 HR.out.2.2.2.1 (HR.out.2.2.2.2 p rfl);clear hal hpa hza hkA hmA hpr hpn hR5 HR
        generalize ((wr.alloc (.cells #[.int .i64 0, .slice none 0 0, .int .i64 0, .int .i64 0, .int .i64 0] 46)).setRow wr.heap.size AV) = w5 at *
        (generalize wr.heap.size = pa at *);(have hc1 : w5.cell? ⟨pa, 1, none⟩ = some (.slice a.A a.n a.c) := by rw [zA H5.out.2.2.1, HAV.out.1]; rfl);have hsm := small_any (HAV.out.2.1.1.below H5.out.1.dsk.bel)
        go_upto_region 17 with (go_at_call 9; refine hsm.mono ?_; clear hsm; rintro _ w6 ⟨B, rfl, hB, hb6⟩; have H6 := sq2 hB hb6; clear hB hb6)
        clear hc1
        cases B with
        | false =>
          have HB := Lib.hid (H5.out.1.dsk.below H6.out.2).bel
          go_wp2_with fail
          go_ret
          exact ⟨rfl, HB.out⟩
        | true =>
          have HN8 := Lib.hid (H6.out.1 rfl);have H7 := sq4 (H5.out.1.below H6.out.2) (H5.out.2.1.below H6.out.2) ((H6.out.2.block _ (zB H5.out.2.2.1)).trans H5.out.2.2.1) H5.out.2.2.2;clear H5 H6;(have hc0 : w6.cell? ⟨pa, 0, none⟩ = some (.int .i64 a.kd) := by rw [zA H7.out.2.2.1, HAV.out.1]; rfl);obtain ⟨K, hK⟩ := sqz (bits .and .i64 a.kd 7);have hK2 := hK.symm;clear hK
          go_upto_block 2 with fail
          go_cut [10, 11, 13, 17] from 83 to 172 (fun sv e f _ wx => RPl w m g pw pm ns sv e f (.int .i64 ((i + 1 : Nat) : Int)) wx)
          case first =>
           by_cases hK : K = 0 ∨ K = 1 ∨ K = 2 ∨ K = 3
           ·rcases hK with rfl | rfl | rfl | rfl
            all_goals
             have hl7 := HAV.out.2.1.1.len
             have hw : (∀ x ∈ a.l, zq x = true) → wtC a.l ≤ 768 := fun h => by
              rw [cpl_wt];have h1 := HN8.out.2 h;have h2 := HN8.out.1;omega
             have hap := H7.out.1.apply H7.out.2.1.rb HIV.out.2.2 HI.out.1 (HAV.out.2.1.1.below H7.out.1.dsk.bel) HN8.out.1 hw;have hai := HIV.out.2.2.apply (by have := HI.out.1; omega) hw;(have hrR : zc d M a.l = ((zg d s a.l).1, (zc d M a.l).2.1, (zg d s a.l).2.2) := by rw [← hai.1, ← hai.2.1]);have hin := hai.2.2;(have hl2 : (zg d s a.l).1.l.length ≤ 20 := by rw [applyC_len]; exact HIV.out.1);obtain ⟨M2, hM2⟩ := sqz ((zc d M a.l).2.1);rw [← hM2] at hrR hin;(obtain ⟨⟨d2, s2, E2⟩, hr⟩ : ∃ r, r = zg d s a.l := ⟨_, rfl⟩);rw [← hr] at hrR hin hap hl2;simp only at hrR hin hap hl2;have HA := sq4 hrR hin hl2 hw;clear hai hM2 hr hrR hin hl2 hw hl7;have hc1 : w6.cell? ⟨pa, 1, none⟩ = some (.slice a.A a.n a.c) := by rw [zA H7.out.2.2.1, HAV.out.1]; rfl
             go_upto_region 31 with (go_at_call 10; refine hap.mono ?_; clear hap; rintro _ w7 ⟨rfl, hk7, ht7⟩)
             clear hc1
             have hm7 := H7.out.2.1.turned ht7 fun k hk h => by
              rcases hk with hk | hk
              ·have := (H7.out.2.1.rb k h).1; omega
              ·exact hk.2 h
             have hpa7 := (ht7.block pa (zB H7.out.2.2.1) (fun hk => by
              rcases hk with hk | hk
              ·have := (H7.out.2.1.rb pa H7.out.2.2.2.1).1; omega
              ·exact hk.2 H7.out.2.2.2.1)).trans H7.out.2.2.1
             have hdr : Below w7.heap.size w7 w7.drew := yG (Below.refl _ _);have hk8 := hk7.below hdr;have hm8 := hm7.below hdr;have hpa8 : w7.drew.heap[pa]? = some (.cells AV 46 (0, 0)) := hpa7;obtain ⟨A7, n7, c7, hbx, hst⟩ := hm8.box;obtain ⟨VV, hVV⟩ := sqz (dmV d A7 n7 c7);rw [← hVV] at hbx;obtain ⟨At, nt, ct, A8, n8, c8, hmx, hmt, hms⟩ := hm8.mox;obtain ⟨MV, hMV⟩ := sqz (smV M At nt ct A8 n8 c8);rw [← hMV] at hmx;refine wp_region_dead (fun W => W.heap[pw]? = some (.cells VV 30 (0, 0)) ∧ W.heap[pm]? = some (.cells MV 41 (0, 0)) ∧ W.heap[pa]? = some (.cells AV 46 (0, 0))) [10, 11, 12] [6, 7, 8, 9] [([0, 1, 2, 3], 4), ([], 5), ([6, 7, 8, 9], 10), ([], 11)] [12] (by kernel_rfl) (by kernel_rfl) (fun _ _ d _ _ h => by cases d <;> exact h) ⟨hbx, hmx, hpa8⟩ ?_;have H8 := sq6 hk8 hm8 (And.intro hbx (And.intro hmx hpa8)) hst hmt hms;have HV := sq2 hVV hMV;have hmo := modelof_long (HAV.out.2.1.1.below hk8.dsk.bel) (by have := HN8.out.1; omega);clear hk7 ht7 hm7 hpa7 hdr hk8 hm8 hpa8 hbx hmx hst hmt hms hVV hMV
             (generalize w7.drew = wd at H8 hmo ⊢);refine yn ?_;refine yg (.agg VV) (by rfl) (by rfl) (by rfl) (fun W hW => yU 8 hW.1 Tryz.underlying30 (by rw [HV.out.1]; exact zI)) ?_
             try simp only [Act.put, sqp]
             refine yg (.agg MV) (by rfl) (by rfl) (by rfl) (fun W hW => yU 12 hW.2.1 Tryz.underlying41 (by rw [HV.out.2]; exact za)) ?_
             try simp only [Act.put, sqp]
             refine yg _ (by rfl) (by rfl) (by rfl) (by intro W hW; go_simp; with_reducible rfl) ?_
             try simp only [Act.put, sqp]
             refine yg (.slice a.A a.n a.c) (by rfl) (by rfl) (by rfl) (fun W hW => by
              (have hc1 : W.cell? ⟨pa, 1, none⟩ = some (.slice a.A a.n a.c) := by rw [zA hW.2.2, HAV.out.1]; rfl);go_simp) ?_
             try simp only [Act.put, sqp]
             refine yj ?_;refine zr (by rfl) (fun K hK => ?_);go_simp;refine hmo.mono ?_;clear hmo;rintro _ w9 ⟨A9, c9, rfl, hcm9, hb9⟩;have H9 := sq5 hcm9 hb9 ((hb9.block _ (zB H8.out.2.2.1.1)).trans H8.out.2.2.1.1) ((hb9.block _ (zB H8.out.2.2.1.2.1)).trans H8.out.2.2.1.2.1) ((hb9.block _ (zB H8.out.2.2.1.2.2)).trans H8.out.2.2.1.2.2);have hra := rcapply_any (H8.out.2.2.2.1.below hb9) (H8.out.2.2.2.2.1.below hb9) (H8.out.2.2.2.2.2.below hb9) hcm9 HIV.out.2.1 (by have h1 := H8.out.2.2.2.1.len; have h2 := HIV.out.1; omega) HIV.out.2.2.one HIV.out.2.2.ms (by have := HI.out.1; omega) HA.out.2.2.2 HIV.out.2.2.mn;rw [HA.out.1, ← HV.out.1, ← HV.out.2] at hra;unfold RapPost at hra;simp only at hra;clear hcm9 hb9;refine hK _ _ ⟨_, ⟨H9.out.2.2.1, H9.out.2.2.2.1, H9.out.2.2.2.2⟩, .inr fun _ h => h, ?_⟩;clear hK K;refine yn ?_;refine yj ?_;refine zr (by rfl) (fun K hK => ?_);go_simp;refine hra.mono ?_;clear hra;rintro _ w10 ⟨A', c', At', nt', ct', A2', n2', c2', rfl, hs1, hs2, hs3, hb10⟩;obtain ⟨DV2, hDV2⟩ := sqz (dmV d2 A' n7 c');obtain ⟨MV2, hMV2⟩ := sqz (smV M2 At' nt' ct' A2' n2' c2');rw [← hDV2, ← hMV2];have hbd := H9.out.2.1.trans (hb10.mono H9.out.2.1.size)
             have hR : ∀ k, k < w10.heap.size → ((R5 k ∧ k ≠ pw ∧ k ≠ pm) ∨ w9.heap.size ≤ k) → moreR wd w10 R5 k ∧ k ≠ pw ∧ k ≠ pm := fun k hk h => by
              rcases h with h | h
              ·exact ⟨.inl h.1, h.2⟩
              ·have h1 := H9.out.2.1.size;have h2 := zB H8.out.2.2.1.1;have h3 := zB H8.out.2.2.1.2.1;exact ⟨.inr ⟨by omega, hk⟩, by omega, by omega⟩
             have hmF := (H8.out.2.1.more hbd H8.out.1.dsk.top).two (d' := d2) (M' := M2) (hs1.mono hR) (hs2.mono hR) (hs3.mono hR);have hkF := ((H8.out.1.more hbd).row hmF.bw (hmF.rb _ hmF.bw).1 DV2).row hmF.bm (hmF.rb _ hmF.bm).1 MV2;rw [← hDV2, ← hMV2] at hmF;have hbx := (hb10.block _ (zB H9.out.2.2.1)).trans H9.out.2.2.1;have hmx := (hb10.block _ (zB H9.out.2.2.2.1)).trans H9.out.2.2.2.1;have hpx := (hb10.block _ (zB H9.out.2.2.2.2)).trans H9.out.2.2.2.2;have H10 := sq6 (And.intro hbx (And.intro hmx hpx)) hkF hmF ((zM w10 pw pm DV2 H8.out.2.1.ne.symm).trans hmx) hDV2 hMV2;clear hs1 hs2 hs3 hb10 hbd hR hmF hkF hbx hmx hpx hDV2 hMV2;refine hK _ _ ⟨_, H10.out.1, .inr fun _ h => h, ?_⟩;clear hK K;refine yn ?_;refine xD _ (by rfl) (by rfl) (by rfl) (by intro W; go_simp; with_reducible rfl) ?_
             try simp only [Act.put, sqp]
             refine xD _ (by rfl) (by rfl) (by rfl) (by intro W; go_simp; with_reducible rfl) ?_
             try simp only [Act.put, sqp]
             refine xD _ (by rfl) (by rfl) (by rfl) (by intro W; go_simp; with_reducible rfl) ?_
             try simp only [Act.put, sqp]
             refine xD _ (by rfl) (by rfl) (by rfl) (by intro W; go_simp; with_reducible rfl) ?_
             try simp only [Act.put, sqp]
             refine yj ?_;refine yO 8 118 DV2 H10.out.1.1 (by rw [H10.out.2.2.2.2.1]; exact zI) (by rw [HV.out.1, H10.out.2.2.2.2.1]; rfl) (by rw [H10.out.2.2.2.2.1]; exact zt _ _ _ _) ?_;refine ⟨fun _ => True, trivial, .inl rfl, ?_⟩
             try simp only [Act.put]
             refine yn ?_;refine yj ?_;refine yO 12 119 MV2 H10.out.2.2.2.1 (by rw [H10.out.2.2.2.2.2]; exact za) (by rw [HV.out.2, H10.out.2.2.2.2.2]; rfl) (by rw [H10.out.2.2.2.2.2]; exact yL _ _ _ _ _ _ _) ?_;have HF := sq2 H10.out.2.1 H10.out.2.2.1;clear H8 H9 H10
             (generalize (w10.setRow pw DV2).setRow pm MV2 = wf at HF ⊢);refine ⟨fun W => W = wf, rfl, .inl rfl, ?_⟩;refine planX_last ?_
             try simp only [Act.put]
             refine yg _ (by rfl) (by rfl) (by rfl) (by intro W hW; go_simp; with_reducible rfl) ?_
             try simp only [Act.put, sqp]
             refine yj ?_
             go_wp2_with fail
             go_meet
             unfold RPl;exact ⟨i + 1, d2, some p, s2, M2, E2, _, by have := HGO.out; omega, by have := HGO.out; omega, rfl, rfl, rfl, rfl, HF.out.1, HF.out.2, HA.out.2.2.1, HF.out.1.dsk.dk.ok, fun _ _ => HA.out.2.1⟩
           ·by_cases hK4 : K = 4
            ·subst hK4;clear hK;(have hc3 : w6.cell? ⟨pa, 3, none⟩ = some (.int .i64 a.nn) := by rw [zA H7.out.2.2.1, HAV.out.1]; rfl);(have hc4 : w6.cell? ⟨pa, 4, none⟩ = some (.int .i64 a.torn) := by rw [zA H7.out.2.2.1, HAV.out.1]; rfl);obtain ⟨N3, hN3⟩ := sqz (bits .and .i64 a.nn 7);have hN3' := hN3.symm;have hsp := H7.out.1.dsk.stop N3 a.torn (by rw [hN3]; exact cpl_wrap _);clear hN3 hc0 hK2
             go_upto_region 34 with (go_at_call 13; refine hsp.mono ?_; clear hsp; rintro _ w7 ⟨rfl, hd7, ht7⟩)
             (have hm7 := H7.out.2.1.turned ht7 fun k hk h => by have := (H7.out.2.1.rb k h).1; omega);have hpa7 := (ht7.block pa (zB H7.out.2.2.1) (fun hk => by have := (H7.out.2.1.rb pa H7.out.2.2.2.1).1; omega)).trans H7.out.2.2.1;have hk7 := H7.out.1.disk hd7 ht7;obtain ⟨A7, n7, c7, hbx, hst⟩ := hm7.box;obtain ⟨VV, hVV⟩ := sqz (dmV d A7 n7 c7);rw [← hVV] at hbx;(have hc3 : w7.cell? ⟨pa, 3, none⟩ = some (.int .i64 a.nn) := by rw [zA hpa7, HAV.out.1]; rfl);(have hc4 : w7.cell? ⟨pa, 4, none⟩ = some (.int .i64 a.torn) := by rw [zA hpa7, HAV.out.1]; rfl);have hrw := rbstop_any d A7 n7 c7 N3 a.torn w7;rw [← hVV] at hrw;have H8 := sq5 hk7 hm7 hbx hVV hst;clear hk7 hm7 hpa7 hbx hVV hst hd7 ht7
             go_wp2_with (first
              | (refine yA 8 H8.out.2.2.1 Tryz.underlying30 (by rw [H8.out.2.2.2.1]; exact zI) ?_)
              | (go_at_call 14; refine hrw.mono ?_; clear hrw; rintro _ w9 ⟨rfl, hb9⟩; obtain ⟨VW, hVW⟩ := sqz (dmV (stopM d N3 a.torn) A7 n7 c7); rw [← hVW]; have H9 := sq2 hb9 hVW; clear hb9 hVW; have HBX := Lib.hid ((H9.out.1.block _ (zB H8.out.2.2.1)).trans H8.out.2.2.1))
              | (refine zl 8 136 VW HBX.out (by rw [H9.out.2]; exact zI) (by rw [H9.out.2, H8.out.2.2.2.1]; rfl) (by rw [H9.out.2]; exact zt _ _ _ _) ?_))
             have hmF := (H8.out.2.1.below H9.out.1).disk (d' := stopM d N3 a.torn) (H8.out.2.2.2.2.below H9.out.1);rw [← H9.out.2] at hmF;have hkF := (H8.out.1.below H9.out.1).row hmF.bw (hmF.rb _ hmF.bw).1 VW
             go_meet
             unfold RPl;exact ⟨i + 1, stopM d N3 a.torn, some p, s, M, E, R5, by have := HGO.out; omega, by have := HGO.out; omega, rfl, rfl, rfl, rfl, hkF, hmF, HIV.out.1, hkF.dsk.dk.ok, fun _ _ => HIV.out.2.2.disk rfl⟩
            ·by_cases hK5 : K = 5
             ·subst hK5;clear hK hK4;(obtain ⟨Z0, hZ0⟩ : ∃ Z0, Z0 = List.replicate 128 (0 : UInt8) := ⟨_, rfl⟩);have HZ0 := Lib.hid hZ0;clear hZ0
              have hmk : ∀ w : World, (Instr.makeSlice 54 (.int .i64 128) (.int .i64 128)).run Tryz.prog w = .ok (.slice (some ⟨w.heap.size, 0, none⟩) 128 128) (w.alloc (.cells (u8s Z0).toArray 5)) := fun w => by
               rw [HZ0.out];exact make_bytes w 128 (by omega)
              clear hc0 hK2
              go_upto_region 37 with fail
              have hb8 : Below w6.heap.size w6 (w6.alloc (.cells (u8s Z0).toArray 5)) := (Below.refl _ _).alloc (Nat.le_refl _) _;have hs8 : (w6.alloc (.cells (u8s Z0).toArray 5)).heap.size = w6.heap.size + 1 := World.size_alloc _ _;(have hqn : ¬ R5 w6.heap.size := fun h => by have := (H7.out.2.1.rb _ h).2; omega)
              have HQ0 : Hid (WB w m (w6.alloc (.cells (u8s Z0).toArray 5)) g pw pm d (some p) s M R5 (moreR w6 (w6.alloc (.cells (u8s Z0).toArray 5)) R5) w6.heap.size pa AV Z0) :=
               Lib.hid ⟨H7.out.1.more hb8, H7.out.2.1.below hb8, heap_alloc_new _ _, by rw [HZ0.out]; exact List.length_replicate, (hb8.block _ (zB H7.out.2.2.1)).trans H7.out.2.2.1, .inr ⟨Nat.le_refl _, by rw [hs8]; omega⟩, hqn, H7.out.1.dsk.top, by have := zB H7.out.2.2.1; omega⟩
              have hR2b : ∀ k, moreR w6 (w6.alloc (.cells (u8s Z0).toArray 5)) R5 k → m ≤ k ∧ k < w6.heap.size + 1 := fun k hk => by
               rcases hk with hk | hk
               ·have := H7.out.2.1.rb k hk; omega
               ·have := H7.out.1.dsk.top; omega
              (have hR2 : ∀ k, R5 k → moreR w6 (w6.alloc (.cells (u8s Z0).toArray 5)) R5 k := fun k hk => .inl hk);have HR2 := sq2 hR2b hR2;have HSZ : Hid (_ = _) := Lib.hid hs8;obtain ⟨y, hy⟩ := cpl_u8 a.nn;obtain ⟨z, hz⟩ := cpl_u8 a.torn;clear hmk hb8 hs8 hqn hR2b hR2
              generalize moreR w6 (w6.alloc (.cells (u8s Z0).toArray 5)) R5 = R2 at *
              generalize w6.alloc (.cells (u8s Z0).toArray 5) = v0 at *
              (generalize w6.heap.size = q at *);have hcq := u8s_cell HQ0.out.row 7 (by rw [HQ0.out.len]; decide);have hfq := zC HQ0.out.row 7;have hcv : v0.cell? ⟨pa, 3, none⟩ = some (.int .i64 a.nn) := by rw [zA HQ0.out.pv, HAV.out.1]; rfl
              go_upto_region 38 with fail
              have HQ1 := Lib.hid (HQ0.out.set 7 y);clear hcq hfq hcv HQ0
              (generalize v0.setCell ⟨q, 7, none⟩ (.int .u8 (y.toNat : Int)) = v1 at *);have hcq := u8s_cell HQ1.out.row 127 (by rw [HQ1.out.len]; decide);have hfq := zC HQ1.out.row 127;have hcv : v1.cell? ⟨pa, 3, none⟩ = some (.int .i64 a.nn) := by rw [zA HQ1.out.pv, HAV.out.1]; rfl
              go_upto_region 39 with fail
              have HQ2 := Lib.hid (HQ1.out.set 127 y);clear hcq hfq hcv HQ1
              (generalize v1.setCell ⟨q, 127, none⟩ (.int .u8 (y.toNat : Int)) = v2 at *);have hcq := u8s_cell HQ2.out.row 8 (by rw [HQ2.out.len]; decide);have hfq := zC HQ2.out.row 8
              go_upto_region 40 with fail
              have HQ3 := Lib.hid (HQ2.out.set 8 (2 : UInt8));clear hcq hfq HQ2;rw [show (((2 : UInt8).toNat : Nat) : Int) = 2 from rfl] at HQ3
              (generalize v2.setCell ⟨q, 8, none⟩ (.int .u8 2) = v3 at *);have hcq := u8s_cell HQ3.out.row 9 (by rw [HQ3.out.len]; decide);have hfq := zC HQ3.out.row 9
              go_upto_region 41 with fail
              have HQ4 := Lib.hid (HQ3.out.set 9 (1 : UInt8));clear hcq hfq HQ3;rw [show (((1 : UInt8).toNat : Nat) : Int) = 1 from rfl] at HQ4
              (generalize v3.setCell ⟨q, 9, none⟩ (.int .u8 1) = v4 at *);have hcq := u8s_cell HQ4.out.row 10 (by rw [HQ4.out.len]; decide);have hfq := zC HQ4.out.row 10;have hcv : v4.cell? ⟨pa, 4, none⟩ = some (.int .i64 a.torn) := by rw [zA HQ4.out.pv, HAV.out.1]; rfl
              go_upto_region 42 with fail
              have HQ5 := Lib.hid (HQ4.out.set 10 z);clear hcq hfq hcv HQ4
              (generalize v4.setCell ⟨q, 10, none⟩ (.int .u8 (z.toNat : Int)) = v5 at *);obtain ⟨BL, hBL⟩ := sqz ((((((Z0).set 7 y).set 127 y).set 8 2).set 9 1).set 10 z);rw [← hBL] at HQ5;clear hy hz hBL;have hyq := byt_filled' (m := m) HQ5.out.row HQ5.out.len (by omega) HQ5.out.q2.2.2.1;have hwr := HQ5.out.pk.dsk.write hyq a.ii;(obtain ⟨⟨dW, eW⟩, hWM⟩ : ∃ r, zm d a.ii BL = r := ⟨_, rfl⟩);(have hlW : dW.l.length = d.l.length := by have h1 := writeM_len d a.ii BL; rw [hWM] at h1; exact h1);rw [hWM] at hwr;simp only at hwr;(have hc2 : v5.cell? ⟨pa, 2, none⟩ = some (.int .i64 a.ii) := by rw [zA HQ5.out.pv, HAV.out.1]; rfl);have HW5 := sq3 hWM hlW hyq;clear hWM hlW hyq
              go_upto_region 43 with (go_at_call 15; refine hwr.mono ?_; clear hwr; rintro _ w7 ⟨rfl, hd7, ht7⟩)
              have hk7 := HQ5.out.pk.disk hd7 ht7;have hsz7 := ht7.size;have hq5 := zB HQ5.out.row;(have hm7 := (HQ5.out.pm.turned ht7 fun k hk h => by have := (HQ5.out.pm.rb k h).1; omega).wide (R' := R2) HR2.out.2 fun k hk => by have := HR2.out.1 k hk; omega);have hpa7 := (ht7.block pa (zB HQ5.out.pv) (fun hk => by have := (H7.out.2.1.rb pa H7.out.2.2.2.1).1; omega)).trans HQ5.out.pv;(have hy7 := HW5.out.2.2.turned ht7 fun k _ h1 h2 => by omega);obtain ⟨A7, n7, c7, hbx, hst⟩ := hm7.box;obtain ⟨VV, hVV⟩ := sqz (dmV d A7 n7 c7);rw [← hVV] at hbx;(have hc2 : w7.cell? ⟨pa, 2, none⟩ = some (.int .i64 a.ii) := by rw [zA hpa7, HAV.out.1]; rfl);have hpm := hm7.mox;have hcv : (convert 54 9 (.slice (some ⟨q, 0, none⟩) 128 128)).run Tryz.prog w7 = .ok (.string (st BL)) w7 := yM hy7;have hrw := rbwrite_any hst (by have h1 := hst.len; have h2 := HIV.out.1; omega) HIV.out.2.1 a.ii BL;rw [HW5.out.1, ← hVV] at hrw;simp only at hrw;have H8 := sq5 hk7 hm7 hbx hVV (show pm < w7.heap.size from (hm7.rb _ hm7.bm).2);clear hk7 hm7 hpa7 hy7 hbx hVV hst hd7 ht7 hpm hsz7 hq5
              go_wp2_with (first
               | (refine yA 8 H8.out.2.2.1 Tryz.underlying30 (by rw [H8.out.2.2.2.1]; exact zI) ?_)
               | (go_at_call 16; refine hrw.mono ?_; clear hrw; rintro _ w8 ⟨AW, cW, rfl, hsW, hb8⟩; obtain ⟨VW, hVW⟩ := sqz (dmV dW AW n7 cW); rw [← hVW]; have H9 := sq3 hsW hb8 hVW; clear hsW hb8 hVW; have HBX := Lib.hid ((H9.out.2.1.block _ (zB H8.out.2.2.1)).trans H8.out.2.2.1))
               | (refine zl 8 171 VW HBX.out (by rw [H9.out.2.2]; exact zI) (by rw [H9.out.2.2, H8.out.2.2.2.1]; rfl) (by rw [H9.out.2.2]; exact zt _ _ _ _) ?_))
              have hmF := (H8.out.2.1.more H9.out.2.1 H8.out.1.dsk.top).disk (d' := dW) (H9.out.1.mono fun k hk h => by
               rcases h with h | h
               ·exact ⟨.inl h.1, h.2⟩
               ·exact ⟨.inr ⟨h, hk⟩, by have := zB H8.out.2.2.1; omega, by have := H8.out.2.2.2.2; omega⟩)
              rw [← H9.out.2.2] at hmF;have hkF := (H8.out.1.more H9.out.2.1).row hmF.bw (hmF.rb _ hmF.bw).1 VW
              go_meet
              unfold RPl;exact ⟨i + 1, dW, some p, s, M, eW, _, by have := HGO.out; omega, by have := HGO.out; omega, rfl, rfl, rfl, rfl, hkF, hmF, by rw [HW5.out.2.1]; exact HIV.out.1, hkF.dsk.dk.ok, fun _ _ => HIV.out.2.2.disk HW5.out.2.1⟩
             ·(have hb0 : (K == 0) = false := by simpa using fun h => hK (.inl h));(have hb1 : (K == 1) = false := by simpa using fun h => hK (.inr (.inl h)));(have hb2 : (K == 2) = false := by simpa using fun h => hK (.inr (.inr (.inl h))));(have hb3 : (K == 3) = false := by simpa using fun h => hK (.inr (.inr (.inr h))));(have hb4 : (K == 4) = false := by simpa using hK4);(have hb5 : (K == 5) = false := by simpa using hK5);clear hK hK4 hK5;have hsp := H7.out.1.dsk.restart;clear hc0 hK2
              go_upto_region 21 with (go_at_call 17; refine hsp.mono ?_; clear hsp; rintro _ w7 ⟨rfl, hd7, ht7⟩)
              (have hm7 := H7.out.2.1.turned ht7 fun k hk h => by have := (H7.out.2.1.rb k h).1; omega);have hk7 := H7.out.1.disk hd7 ht7;obtain ⟨A7, n7, c7, hbx, hst⟩ := hm7.box;obtain ⟨VV, hVV⟩ := sqz (dmV d A7 n7 c7);rw [← hVV] at hbx;have hrw := rbrestart_any d A7 n7 c7 w7;rw [← hVV] at hrw;have H8 := sq5 hk7 hm7 hbx hVV hst;clear hk7 hm7 hbx hVV hst hd7 ht7
              go_upto_region 22 with (first
               | (refine yA 8 H8.out.2.2.1 Tryz.underlying30 (by rw [H8.out.2.2.2.1]; exact zI) ?_)
               | (go_at_call 18; refine hrw.mono ?_; clear hrw; rintro _ w9 ⟨rfl, hb9⟩; obtain ⟨VW, hVW⟩ := sqz (dmV (xP d) A7 n7 c7); rw [← hVW]; have H9 := sq2 hb9 hVW; clear hb9 hVW; have HBX := Lib.hid ((H9.out.1.block _ (zB H8.out.2.2.1)).trans H8.out.2.2.1))
               | (refine zl 8 86 VW HBX.out (by rw [H9.out.2]; exact zI) (by rw [H9.out.2, H8.out.2.2.2.1]; rfl) (by rw [H9.out.2]; exact zt _ _ _ _) ?_))
              have hm9 := (H8.out.2.1.below H9.out.1).disk (d' := xP d) (H8.out.2.2.2.2.below H9.out.1);rw [← H9.out.2] at hm9;have hk9 := (H8.out.1.below H9.out.1).row hm9.bw (hm9.rb _ hm9.bw).1 VW;have hdl : (xP d).l.length ≤ 20 := HIV.out.1
              (generalize xP d = dR at *);have HA := sq3 hm9 hk9.dsk hdl;clear hm9 hk9 hdl H7 H8 H9 HBX HIV
              (generalize w9.setRow pw VW = wa at *);have hop := PK.open_ (R := R5) HA.out.2.1 HA.out.1.rb;obtain ⟨s0, hs0⟩ := sqz ((zY dR).1);obtain ⟨EB, hEB⟩ := sqz ((zY dR).2);rw [← hs0, ← hEB] at hop;have HE := sq2 hs0 hEB;clear hs0 hEB
              go_upto_region 23 with (go_at_call 7; refine hop.mono ?_; clear hop; rintro _ wb ⟨po, rfl, hzb, hkb, hbb⟩)
              have hmb := HA.out.1.below hbb;obtain ⟨A7, n7, c7, hbx, hst⟩ := hmb.box;obtain ⟨VV, hVV⟩ := sqz (dmV dR A7 n7 c7);rw [← hVV] at hbx;obtain ⟨At, nt, ct, A8, n8, c8, hmx, hmt, hms⟩ := hmb.mox;obtain ⟨MV, hMV⟩ := sqz (smV M At nt ct A8 n8 c8);rw [← hMV] at hmx;have hro := rcopen_any hst HA.out.2.1.dk.ok (by have h1 := hst.len; have h2 := HA.out.2.2; omega);rw [← hVV] at hro;unfold ROpPost at hro;rw [← HE.out.1, ← HE.out.2] at hro;have HB := sq7 hkb hmb hbx hVV hmx hMV hzb;clear hkb hmb hbx hVV hmx hMV hst hmt hms hbb hzb
              go_upto_region 24 with (first
               | (refine yA 8 HB.out.2.2.1 Tryz.underlying30 (by rw [HB.out.2.2.2.1]; exact zI) ?_)
               | (go_at_call 8; refine hro.mono ?_; clear hro; rintro _ we ⟨AQ, nQ, cQ, AP, nP, cP, rfl, hct, hsT, hbe⟩; obtain ⟨MW, hMW⟩ := sqz (smV s0 AQ nQ cQ AP nP cP); rw [← hMW]; have HC := sq4 hct hsT hbe hMW; clear hct hsT hbe hMW; have HMX := Lib.hid ((HC.out.2.2.1.block _ (zB HB.out.2.2.2.2.1)).trans HB.out.2.2.2.2.1))
               | (refine zl 12 95 MW HMX.out (by rw [HC.out.2.2.2]; exact za) (by rw [HC.out.2.2.2, HB.out.2.2.2.2.2.1]; rfl) (by rw [HC.out.2.2.2]; exact yL _ _ _ _ _ _ _) ?_))
              (have hR : ∀ k, k < we.heap.size → wb.heap.size ≤ k → moreR wb we R5 k ∧ k ≠ pw ∧ k ≠ pm := fun k hk h => ⟨.inr ⟨h, hk⟩, by have := zB HB.out.2.2.1; omega, by have := zB HB.out.2.2.2.2.1; omega⟩);have hmF := (HB.out.2.1.more HC.out.2.2.1 HB.out.1.dsk.top).store (M' := s0) (HC.out.1.mono hR) (HC.out.2.1.mono hR);rw [← HC.out.2.2.2] at hmF;have hkF := (HB.out.1.more HC.out.2.2.1).row hmF.bm (hmF.rb _ hmF.bm).1 MW
              have HF := Lib.hid (show RPl w m g pw pm ns (poV po) (.int .i64 EB) (.int .i64 EB) (.int .i64 ((i + 1 : Nat) : Int)) (we.setRow pm MW) from by
               unfold RPl
               exact ⟨i + 1, dR, po, s0, s0, EB, _, by have := HGO.out; omega, by have := HGO.out; omega, rfl, rfl, rfl, rfl, hkF, hmF, HA.out.2.2, hkF.dsk.dk.ok, fun q hq => by
                rw [HE.out.1];exact InvP.open_ (by have := HA.out.2.2; omega) (by rw [← HE.out.2]; exact HB.out.2.2.2.2.2.2.2 (by rw [hq]; rfl)) _⟩)
              have HZ := Lib.hid HB.out.2.2.2.2.2.2;clear hR hmF hkF HB HC HMX HA HE
              cases po with
              | none =>
                (have hz : (EB != 0) = true := by simpa using fun h : EB = 0 => by simpa using HZ.out.1 h);rw [show poV none = Value.pointer none from rfl] at HF ⊢;clear HZ
                go_wp2_with fail
                go_meet
                exact HF.out
              | some p' =>
                obtain rfl : EB = 0 := HZ.out.2 rfl;rw [show poV (some p') = Value.pointer (some ⟨p', 0, none⟩) from rfl] at HF ⊢;clear HZ
                go_wp2_with fail
                go_meet
                exact HF.out
          case rest =>
           obtain ⟨j, d', po', s', M', E', R', hj1, hj2, rfl, rfl, rfl, hji, hk, hm, hl2, hok, hin⟩ := hcut
           obtain rfl : j = i + 1 := by
            (injection hji with _ h);omega
           obtain ⟨A7, n7, c7, hbx, hst⟩ := hm.box;obtain ⟨VV, hVV⟩ := sqz (dmV d' A7 n7 c7);rw [← hVV] at hbx;have hlk := like_any hk.dsk.dk hst;rw [← hVV] at hlk;have HV := sq2 hbx hVV;have H8 := sq6 hk hm hl2 hok trivial hin;clear hk hm hl2 hok hin hj1 hj2 hji hbx hVV hst H7 HIV hc0 hK2 HAV HN8
           go_upto_region 46 with (first
            | (refine yR (by rfl) 30 (.tmp 8) (by rfl) pw (by rfl) 30 VV (0, 0) _ HV.out.1 Tryz.underlying30 (by rfl) (by rw [HV.out.2]; exact zI) ?_)
            | (go_at_call 19; refine hlk.mono ?_; clear hlk; rintro _ wl ⟨rfl, hbl⟩; have HBL := Lib.hid hbl; clear hbl))
           have HX := sq3 (H8.out.1.below HBL.out) (H8.out.2.1.below HBL.out) H8.out.2.2;clear H8 HBL HV
           cases po' with
           | none =>
             rw [show poV none = Value.pointer none from rfl];refine sqg [sqv (.pointer none), sqv (.bool false), sqv (.bool false), sqv undef, sqv undef, sqv undef, sqv undef, sqv undef, sqv undef, sqv undef, sqv undef, sqv undef, sqv undef, sqv undef, sqv undef, sqv undef, sqv undef, sqv undef, sqv undef, sqv undef, sqv undef, sqv undef, sqv (.bool false)] 205 ?gmono ?gsteps ?gfin
             case gmono => (iterate 23 refine ⟨sqm, ?_⟩); trivial
             case gsteps =>
              show Grow.allBelow _ 23
              iterate 23 refine And.intro ?_ ?_
              exact trivial
              ·exact squ 10
              ·refine sqi ?_;intro E W ec eg ef hG hd hu R HR1;have e182 := sqe (hd 0 182);clear hd hu;go_simp;exact sqh HR1
              ·exact sqd 1 183
              ·exact sqx 2 184
              ·exact sqx 2 184
              ·exact sqx 2 184
              ·exact sqx 2 184
              ·exact sqx 2 184
              ·exact sqx 2 184
              ·exact sqf 8 190 false
              ·exact sqf 8 190 false
              ·exact sqf 8 190 false
              ·exact sqf 8 190 false
              ·exact sqf 8 190 false
              ·exact sqx 2 184
              ·exact sqx 2 184
              ·exact sqf 15 197 false
              ·exact sqf 15 197 false
              ·exact sqf 15 197 false
              ·exact sqf 15 197 false
              ·exact sqf 15 197 false
              ·exact sqx 2 184
              ·refine sqi ?_;intro E W ec eg ef hG hd hu R HR1;have e184 := sqe (hd 2 184);have e203 := sqe (hd 21 203);clear hd hu;go_simp;exact sqh HR1
             case gfin =>
              intro W hG
              iterate 23 (refine Grow.fin_dst (by rfl) ?_; rintro _ rfl)
              simp only [Act.put, sqp];refine Grow.fin_end ?_;have HB9 := Lib.hid (Grow.below_of_drew hG);clear hG
              go_wp2_with fail
              go_roundw
              case rel =>
               unfold RPl;exact ⟨i + 1, d', none, s', M', E', R', by have := HGO.out; omega, by have := HGO.out; omega, rfl, rfl, rfl, by simp, HX.out.1.below HB9.out, HX.out.2.1.below HB9.out, HX.out.2.2.1, HX.out.2.2.2.1, HX.out.2.2.2.2.2⟩
              case measure => simp only [intOf]; have := HGO.out; omega
           | some p' =>
             rw [show poV (some p') = Value.pointer (some ⟨p', 0, none⟩) from rfl];obtain ⟨At, nt, ct, A8, n8, c8, hmx, hmt, hms⟩ := HX.out.2.1.mox;obtain ⟨MV, hMV⟩ := sqz (smV M' At nt ct A8 n8 c8);rw [← hMV] at hmx;have HY := sq3 hmx hMV hmt;clear hmx hMV hmt hms;refine sqg [sqv (.pointer (some ⟨p', 0, none⟩)), sqv (.bool true), sqv (.bool true), sqv (.pointer (some ⟨p', 0, none⟩)), sqv (.pointer (some ⟨pm, 0, none⟩)), sqv (.slice At nt ct), sqv (.bool true), sqv (.bool false), sqv (.bool false), sqv (.pointer (some ⟨p', 0, none⟩)), sqv (.int .i64 s'.e), sqv (.pointer (some ⟨pm, 10, none⟩)), sqv (.int .i64 s'.e), sqv (.bool false), sqv (.bool false), sqv (.bool false), sqv (.pointer (some ⟨p', 0, none⟩)), sqv (.int .i64 (s'.turns : Int)), sqv (.pointer (some ⟨pm, 9, none⟩)), sqv (.int .i64 (s'.turns : Int)), sqv (.bool false), sqv (.bool false), sqv (.bool false)] 205 ?gmono ?gsteps ?gfin
             case gmono => (iterate 23 refine ⟨sqm, ?_⟩); trivial
             case gsteps =>
              show Grow.allBelow _ 23
              iterate 23 refine And.intro ?_ ?_
              exact trivial
              ·exact squ 10
              ·refine sqi ?_;intro E W ec eg ef hG hd hu R HR1;have e182 := sqe (hd 0 182);clear hd hu;go_simp;exact sqh HR1
              ·exact sqd 1 183
              ·exact yX 2 184 true 10
              ·refine sqo 2 184 ?_;intro E W ec eg ef hG hd hu R HR1;have e12 : E (.tmp 12) = .pointer (some ⟨pm, 0, none⟩) := hu 12;clear hd hu;go_simp;exact sqh HR1
              ·refine sqo 2 184 ?_;intro E W ec eg ef hG hd hu R HR1;have e186 := sqe (hd 4 186);clear hd hu;(have hcl : W.cell? ⟨pm, 0, none⟩ = some (.slice At nt ct) := by { rw [zA (((Grow.below_of_drew hG).block _ (zB HY.out.1)).trans HY.out.1) 0, HY.out.2.1]; rfl });go_simp;exact sqh HR1
              ·refine sqo 2 184 ?_;intro E W ec eg ef hG hd hu R HR1;have e185 := sqe (hd 3 185);have e187 := sqe (hd 5 187);clear hd hu;have hPX := HX.out.1.below (Grow.below_of_drew hG);go_simp;refine (cpl_has (hPX.st p' rfl) (HX.out.2.2.2.2.2 p' rfl) (by have := HGO.out; omega) (HY.out.2.2.below (Grow.below_of_drew hG))).mono ?_;rintro _ _ ⟨rfl, hb⟩;exact ⟨_, rfl, HR1.out _ _ hb rfl⟩
              ·refine sqo 2 184 ?_;intro E W ec eg ef hG hd hu R HR1;have e188 := sqe (hd 6 188);clear hd hu;go_simp;exact sqh HR1
              ·exact sqdo 2 184 true 7 189
              ·exact yX 8 190 false 10
              ·refine sqn 8 190 ?_;intro E W ec eg ef hG hd hu R HR1;have e191 := sqe (hd 9 191);clear hd hu;have hPX := HX.out.1.below (Grow.below_of_drew hG);have hLG := hPX.st p' rfl;go_simp;refine (cerr_any hLG).mono ?_;rintro _ _ ⟨rfl, rfl⟩;exact ⟨_, rfl, HR1.out _ _ (Below.refl _ _) rfl⟩
              ·refine sqn 8 190 ?_;intro E W ec eg ef hG hd hu R HR1;have e12 : E (.tmp 12) = .pointer (some ⟨pm, 0, none⟩) := hu 12;clear hd hu;go_simp;exact sqh HR1
              ·refine sqn 8 190 ?_;intro E W ec eg ef hG hd hu R HR1;have e193 := sqe (hd 11 193);clear hd hu;(have hcl : W.cell? ⟨pm, 10, none⟩ = some (.int .i64 s'.e) := by { rw [zA (((Grow.below_of_drew hG).block _ (zB HY.out.1)).trans HY.out.1) 10, HY.out.2.1, ← (HX.out.2.2.2.2.2 p' rfl).rl.e]; rfl });go_simp;exact sqh HR1
              ·refine sqn 8 190 ?_;intro E W ec eg ef hG hd hu R HR1;have e192 := sqe (hd 10 192);have e194 := sqe (hd 12 194);clear hd hu;go_simp;exact sqh HR1
              ·refine sqo 2 184 ?_;intro E W ec eg ef hG hd hu R HR1;have e190 := sqe (hd 8 190);have e195 := sqe (hd 13 195);clear hd hu;go_simp;exact sqh HR1
              ·exact sqdo 2 184 true 14 196
              ·exact yX 15 197 false 10
              ·refine sqn 15 197 ?_;intro E W ec eg ef hG hd hu R HR1;have e198 := sqe (hd 16 198);clear hd hu;have hPX := HX.out.1.below (Grow.below_of_drew hG);have hLG := hPX.st p' rfl;go_simp;refine (cturns_any hLG).mono ?_;rintro _ _ ⟨rfl, rfl⟩;exact ⟨_, rfl, HR1.out _ _ (Below.refl _ _) rfl⟩
              ·refine sqn 15 197 ?_;intro E W ec eg ef hG hd hu R HR1;have e12 : E (.tmp 12) = .pointer (some ⟨pm, 0, none⟩) := hu 12;clear hd hu;go_simp;exact sqh HR1
              ·refine sqn 15 197 ?_;intro E W ec eg ef hG hd hu R HR1;have e200 := sqe (hd 18 200);clear hd hu;(have hcl : W.cell? ⟨pm, 9, none⟩ = some (.int .i64 (s'.turns : Int)) := by { rw [zA (((Grow.below_of_drew hG).block _ (zB HY.out.1)).trans HY.out.1) 9, HY.out.2.1, ← (HX.out.2.2.2.2.2 p' rfl).rl.n]; rfl });go_simp;exact sqh HR1
              ·refine sqn 15 197 ?_;intro E W ec eg ef hG hd hu R HR1;have e199 := sqe (hd 17 199);have e201 := sqe (hd 19 201);clear hd hu;go_simp;exact sqh HR1
              ·refine sqo 2 184 ?_;intro E W ec eg ef hG hd hu R HR1;have e197 := sqe (hd 15 197);have e202 := sqe (hd 20 202);clear hd hu;go_simp;exact sqh HR1
              ·refine sqi ?_;intro E W ec eg ef hG hd hu R HR1;have e184 := sqe (hd 2 184);have e203 := sqe (hd 21 203);clear hd hu;go_simp;exact sqh HR1
             case gfin =>
              intro W hG
              iterate 23 (refine Grow.fin_dst (by rfl) ?_; rintro _ rfl)
              simp only [Act.put, sqp];refine Grow.fin_end ?_;have HB9 := Lib.hid (Grow.below_of_drew hG);clear hG
              go_wp2_with fail
              go_roundw
              case rel =>
               unfold RPl;exact ⟨i + 1, d', some p', s', M', E', R', by have := HGO.out; omega, by have := HGO.out; omega, rfl, rfl, rfl, by simp, HX.out.1.below HB9.out, HX.out.2.1.below HB9.out, HX.out.2.2.1, HX.out.2.2.2.1, HX.out.2.2.2.2.2⟩
              case measure => simp only [intOf]; have := HGO.out; omega
     ·(have h2' : ¬ (i : Int) < 24 := by omega);have HB := Lib.hid HR.out.1.dsk.bel;clear h1 h2
      go_wp2_with fail
      go_ret
      exact ⟨rfl, HB.out⟩
    ·(have h1' : ¬ (i : Int) < (ns : Int) := by omega);have HB := Lib.hid HR.out.1.dsk.bel;clear h1
     go_wp2_with fail
     go_ret
     exact ⟨rfl, HB.out⟩
theorem law_cplays {n : Int} (_ : (Lit.int .i64 n).wf = true) {w : World} {A : Option Addr} {ns cs : Nat} {l : List CAct} (hacts : CActs w A ns cs l) :
    Calls Tryz.prog 3 #[.int .i64 n, .slice A ns cs] w fun e w' => e = .returned (.bool true) ∧ Below w.heap.size w w' := cplays_run hacts n
end Go.Proofs.YtmioifcbkhpdaaaGreat
namespace Go.Proofs.YtmioifcbkhpdaaaGreat.cellsPlays
set_option maxHeartbeats 16000000
set_option maxRecDepth 100000
open Go.ChangeShapes Go.WideShapes Go.ChangeAt Go.RowKit
set_option linter.unusedVariables false
theorem lifted (os : Os) (started : os.Started) (H : Type) (enc : TypeId × Value → H) :
    ReturnsInHanded {} Tryz.checked os 3 .any (Rows.cellsPlaysSpec.pre6 enc Tryz.prog Tryz.f3 Rows.cellsPlaysRow.domain false) (Rows.cellsPlaysSpec.post enc Tryz.prog Tryz.f3 false true false false) := by
 refine returnsInHanded_of_change (C := Tryz.checked) own_knob started (by kernel_rfl) Tryz.func3
  (ChangeSpec.witness6 (enc := enc) (C := Tryz.checked) false ⟨#[], #[.int .i64 0, .slice none 0 0], []⟩ 8 (by kernel_rfl) (by kernel_rfl) (by kernel_rfl) (by kernel_rfl)) ?_
 intro W base args ds gs before hval0 hW hcnd _;have hval : ∀ (j : Nat) t v, Tryz.f3.params[j]? = some t → args[j]? = some v → Value.okWide Tryz.prog W .any base t v := hval0
 have hW' := hW;obtain ⟨p, q, hA0, hV, rfl, hfz, hnd⟩ := hW;have hA : DataW.TrodAll enc Tryz.prog W 0 (fun _ => true) true Tryz.f3.params.toList args.toList ds p := hA0;rw [Tryz.params3] at hA hval;obtain ⟨v0, vs0, d0, ds0, p0, q0, hargs, rfl, rfl, h0, r0⟩ := trodAll_cons hA;obtain ⟨v1, vs1, d1, ds1, p1, q1, rfl, rfl, rfl, h1, r1⟩ := trodAll_cons r0;obtain ⟨rfl, rfl, rfl⟩ := trodAll_nil r1;obtain rfl : args = #[v0, v1] := by cases args; simp_all
 obtain ⟨rfl, rfl⟩ := trodVars_none hV;obtain ⟨a0, rfl, rfl, rfl, w0⟩ := open_int Tryz.underlying3 (hval 0 3 v0 rfl rfl) h0;obtain ⟨a1, len1, cap1, rfl⟩ := okWide_slice Tryz.underlying22 (hval 1 22 v1 rfl rfl);obtain ⟨l1, w1⟩ := cel_acts_in rfl h1;clear hA0 hval0;refine (law_cplays w0 w1).mono fun e W' ⟨he, bel⟩ => ?_
 subst he;exact ⟨_, rfl, _, _, _, [], _, [], hW', trodAll_mk1 (shut_bool Tryz.underlying4 _), (trodAll_cons_mk (shut_int Tryz.underlying3 w0) (trodAll_cons_mk (Below.trod laid_out (by kernel_rfl) (of_decide_eq_true (by kernel_rfl)) h1 bel (trod_lt h1)) trodAll_mk0)), rfl, bel.frame _, fun h => by cases h⟩
theorem proved : Rows.CellsPlaysSaid :=
 OpenClaim.holds_of_wide 3 Tryz.f3 rfl rfl rfl rfl rfl rfl rfl ⟨rfl, rfl, rfl, rfl, rfl⟩ rfl rfl rfl rfl rfl (by kernel_rfl) Tryz.func3 (by kernel_rfl)
  (of_decide_eq_true (by kernel_rfl)) (by unfold Func.isWrapper; first | (rw [if_pos (by decide +kernel)]; kernel_rfl) | (rw [if_neg (by decide +kernel)]; exact ⟨rfl, rfl⟩))
  (fun os started H enc _ => lifted os started H enc)
#print axioms proved
end Go.Proofs.YtmioifcbkhpdaaaGreat.cellsPlays
