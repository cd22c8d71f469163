/-
  Cells: the reference's Do.
-/
import Derived.Test.YtmioifcbkhpdaaaGreatPkPl03
import Derived.Test.YtmioifcbkhpdaaaGreatPkPl19
import Derived.Test.YtmioifcbkhpdaaaGreatPkPl14
import Derived.Test.YtmioifcbkhpdaaaGreatPkPl04
import Derived.Test.YtmioifcbkhpdaaaGreatPkPl01
namespace Go.Proofs.YtmioifcbkhpdaaaGreat
set_option maxHeartbeats 16000000
set_option maxRecDepth 100000
open Go.RowKit Codec
theorem st_less (a b : List UInt8) : Op.bytesLess (st a).toList (st b).toList = decide (a < b) := by
 have h1 : ∀ l : List UInt8, (st l).toList = l := fun l => by simp [st]
 rw [h1, h1, bytes_less]
def RDo (w : World) (S : Nat → Prop) (t : Tb) (l : List Ch) (tv i : Value) (wr : World) : Prop :=
 ∃ (j : Nat) (At : Option Addr) (nt ct : Nat), j ≤ l.length ∧ i = .int .i64 (j : Int) ∧ tv = .slice At nt ct ∧ Cms wr (fun k => S k ∨ w.heap.size ≤ k) At nt ct (tb2 (doL t (l.take j))) ∧ Below w.heap.size w wr
def RIn (wr : World) (T : Tb) (key : List UInt8) (k : Value) (wi : World) : Prop :=
 ∃ q : Nat, q ≤ T.length ∧ k = .int .i64 (q : Int) ∧ (∀ p ∈ T.take q, p.1 < key) ∧ Below wr.heap.size wr wi
theorem rdo_any {w : World} {S U : Nat → Prop} {A A2 : Option Addr} {n c n2 c2 : Nat} {t : Tb} {l : List Ch} (ht : Cms w S A n c (tb2 t)) (hs : Srt t) (hl : Cms w U A2 n2 c2 l) (hb : n + n2 ≤ 100000) :
    Calls Tryz.prog 34 #[.slice A n c, .slice A2 n2 c2] w fun e w' => ∃ A' n' c', e = .returned (.slice A' n' c') ∧ Cms w' (fun k => S k ∨ w.heap.size ≤ k) A' n' c' (tb2 (doL t l)) ∧ Below w.heap.size w w' := by
 have HS := sq6 ht hs hl hl.len ht.len hb;clear ht hs hl hb
 go_enter Tryz.func34, Tryz.ntmps34
 go_wp2_with fail
 go_loopw [0, 5] (fun tv i wr => RDo w S t l tv i wr) (fun _ i _ => n2 - (intOf i).toNat)
 case atStart => exact ⟨0, A, n, c, Nat.zero_le _, rfl, rfl, HS.out.1.mono fun k _ h => .inl h, Below.refl _ _⟩
 case round =>
  obtain ⟨j, At, nt, ct, hj, rfl, rfl, hct, hbel⟩ := hrel
  by_cases hlt : j < n2
  ·(have hlt' : (j : Int) < (n2 : Int) := by omega);have hadd1 := IntWalk.i64_in ((j : Int) + 1) (by have := HS.out.2.2.2.2.2; omega);obtain ⟨b2, o2, X, rfl, _, hb2, hx, hc0, hc1, hc2⟩ := (HS.out.2.2.1.below hbel).at_ hlt;obtain ⟨T, hT⟩ := sqz (doL t (l.take j));rw [← hT] at hct;(have hTl : T.length = nt := by rw [← hct.len]; simp [tb2])
   have hTn : T.length ≤ t.length + j := by
    rw [hT];have h1 := doL_len t HS.out.2.1 (l.take j);rw [List.length_take] at h1;omega
   (have htl : t.length = n := by have := HS.out.2.2.2.2.1; simpa [tb2] using this);obtain ⟨XK, hXK⟩ := sqz X.k;obtain ⟨XV, hXV⟩ := sqz X.v;obtain ⟨G, hGX⟩ := sqz X.g;rw [← hXK] at hc0;rw [← hXV] at hc1;rw [← hGX] at hc2;have HX := sq6 hx hlt hXK hXV hGX hj;have HXC := sq4 hb2 hc0 hc1 hc2;have HR := sq4 hct hbel hT (hT ▸ HS.out.2.1.chs (l.take j) : Srt T);have HLN := Lib.hid (show T.length = nt ∧ nt + j ≤ 300000 by have := HS.out.2.2.2.2.2; omega);clear hct hbel hb2 hx hc0 hc1 hc2 hT hTl hTn htl hXK hXV hGX hj hlt;obtain ⟨w1, hw1⟩ := sqz wr;subst hw1
   go_wp2_with fail
   go_loopw [7] (fun k wi => RIn w1 T XK k wi) (fun k _ => nt - (intOf k).toNat)
   case atStart => exact ⟨0, Nat.zero_le _, rfl, (fun p hp => by simp at hp), Below.refl _ _⟩
   case round =>
    obtain ⟨q, hq, rfl, hlow, hb3⟩ := hrel;have hadd2 := IntWalk.i64_in ((q : Int) + 1) (by have := HLN.out; omega);have HBW := Lib.hid hb3
    by_cases hqn : q < nt
    ·have HQN := Lib.hid (show (q : Int) < (nt : Int) by omega);obtain ⟨b1, o1, y, rfl, _, hb1, hy, ht0, _, _⟩ := HR.out.1.at_ hqn;(obtain ⟨P, hP⟩ : ∃ P, T[q]? = some P := ⟨_, List.getElem?_eq_getElem (by have := HLN.out; omega)⟩)
     have hyP : y.k = P.1 := by
      unfold tb2 at hy;rw [List.getElem?_map, hP] at hy;(injection hy with hy);rw [← hy]
     obtain ⟨TK, hTK⟩ := sqz P.1;rw [hyP, ← hTK] at ht0;have HTC := sq2 hb1 ht0;have HQ := Lib.hid (show q ≤ nt ∧ (∀ p ∈ T.take q, p.1 < XK) ∧ T[q]? = some P ∧ TK = P.1 ∧ q < nt from ⟨by omega, hlow, hP, hTK, hqn⟩);have HCT : Hid (b1 < wr.drew.heap.size ∧ wr.drew.cell? ⟨b1, o1 + q * 3, none⟩ = some (.string (st TK))) := Lib.hid ⟨Nat.lt_of_lt_of_le HTC.out.1 hb3.size, (hb3.cell (p := ⟨_, _, none⟩) HTC.out.1).trans HTC.out.2⟩;have HCX : Hid (b2 < wr.drew.heap.size ∧ wr.drew.cell? ⟨b2, o2 + j * 3, none⟩ = some (.string (st XK)) ∧ wr.drew.cell? ⟨b2, o2 + j * 3 + 1, none⟩ = some (.string (st XV))) := Lib.hid ⟨Nat.lt_of_lt_of_le HXC.out.1 hb3.size, (hb3.cell (p := ⟨_, _, none⟩) HXC.out.1).trans HXC.out.2.1, (hb3.cell (p := ⟨_, _, none⟩) HXC.out.1).trans HXC.out.2.2.1⟩;clear hb1 hy ht0 hP hyP hTK hq hlow hb3 hqn
     by_cases hltk : TK < XK
     ·have hcm0 := st_less TK XK;rw [decide_eq_true hltk] at hcm0;have HCM := Lib.hid hcm0;have HLK := Lib.hid hltk;clear hcm0 hltk
      go_upto_region 6 with fail
      refine sqg [sqv (.int .i64 (q : Int)), sqv (.slice (some ⟨b1, o1, none⟩) nt ct), sqv (.int .i64 (nt : Int)), sqv (.bool true), sqv (.bool true), sqv (.slice (some ⟨b1, o1, none⟩) nt ct), sqv (.int .i64 (q : Int)), sqv (.pointer (some ⟨b1, o1 + q * 3, none⟩)), sqv (.pointer (some ⟨b1, o1 + q * 3, none⟩)), sqv (.string (st TK)), sqv (.slice (some ⟨b2, o2, none⟩) n2 c2), sqv (.int .i64 (j : Int)), sqv (.pointer (some ⟨b2, o2 + j * 3, none⟩)), sqv (.pointer (some ⟨b2, o2 + j * 3, none⟩)), sqv (.string (st XK)), sqv (.bool true), sqv (.bool true)] 83 ?gmono ?gsteps ?gfin
      case gmono => (iterate 17 refine ⟨sqm, ?_⟩); trivial
      case gsteps =>
       show Grow.allBelow _ 17
       iterate 17 refine And.intro ?_ ?_
       exact trivial
       ·exact squ 7
       ·exact squ 0
       ·refine sqi ?_;intro E W ec eg ef hG hd hu R HR1;have e15 := sqe (hd 1 15);clear hd hu;go_simp;exact sqh HR1
       ·refine sqi ?_;intro E W ec eg ef hG hd hu R HR1;have e14 := sqe (hd 0 14);have e16 := sqe (hd 2 16);clear hd hu;have hqn := HQN.out;go_simp;exact sqh HR1
       ·exact sqd 3 17
       ·exact yX 4 18 true 0
       ·exact yX 4 18 true 7
       ·refine sqo 4 18 ?_;intro E W ec eg ef hG hd hu R HR1;have e19 := sqe (hd 5 19);have e20 := sqe (hd 6 20);clear hd hu;have hql := HQ.out.2.2.2.2;go_simp
        first | exact sqh HR1 | (rw [if_pos ⟨by omega, by omega⟩]; exact sqh HR1)
       ·refine sqo 4 18 ?_;intro E W ec eg ef hG hd hu R HR1;have e21 := sqe (hd 7 21);clear hd hu;go_simp;exact sqh HR1
       ·refine sqo 4 18 ?_;intro E W ec eg ef hG hd hu R HR1;have e22 := sqe (hd 8 22);clear hd hu;have hcl := (hG.cell (p := ⟨b1, o1 + q * 3, none⟩) HCT.out.1).trans HCT.out.2;go_simp;exact sqh HR1
       ·exact yX 4 18 true 1
       ·exact yX 4 18 true 5
       ·refine sqo 4 18 ?_;intro E W ec eg ef hG hd hu R HR1;have e24 := sqe (hd 10 24);have e25 := sqe (hd 11 25);clear hd hu;have hjl := HX.out.2.1;go_simp
        first | exact sqh HR1 | (rw [if_pos ⟨by omega, by omega⟩]; exact sqh HR1)
       ·refine sqo 4 18 ?_;intro E W ec eg ef hG hd hu R HR1;have e26 := sqe (hd 12 26);clear hd hu;go_simp;exact sqh HR1
       ·refine sqo 4 18 ?_;intro E W ec eg ef hG hd hu R HR1;have e27 := sqe (hd 13 27);clear hd hu;have hcl := (hG.cell (p := ⟨b2, o2 + j * 3, none⟩) HCX.out.1).trans HCX.out.2.1;go_simp;exact sqh HR1
       ·refine sqo 4 18 ?_;intro E W ec eg ef hG hd hu R HR1;have e23 := sqe (hd 9 23);have e28 := sqe (hd 14 28);clear hd hu;have hcm := HCM.out;go_simp;exact sqh HR1
       ·refine sqi ?_;intro E W ec eg ef hG hd hu R HR1;have e18 := sqe (hd 4 18);have e29 := sqe (hd 15 29);clear hd hu;go_simp;exact sqh HR1
      case gfin =>
       intro W hG
       iterate 17 (refine Grow.fin_dst (by rfl) ?_; rintro _ rfl)
       simp only [Act.put, sqp];refine Grow.fin_end ?_;have HB6 := Lib.hid (Grow.below_of_drew hG);clear hG
       go_wp2_with fail
       go_roundw
       case rel =>
        unfold RIn;refine ⟨q + 1, by have := HQ.out.2.2.2.2; have := HLN.out; omega, by simp, fun p hp => ?_, HBW.out.trans (HB6.out.mono HBW.out.size)⟩;rw [List.take_add_one, HQ.out.2.2.1] at hp;rcases List.mem_append.1 hp with hp | hp
        ·exact HQ.out.2.1 p hp
        ·simp at hp;rw [hp, ← HQ.out.2.2.2.1];exact HLK.out
       case measure => simp only [intOf]; have h1 := HQ.out.2.2.2.2; omega
     ·have hcm0 := st_less TK XK;rw [decide_eq_false hltk] at hcm0;have HCM := Lib.hid hcm0;have HNL := Lib.hid hltk;clear hcm0 hltk
      go_upto_region 6 with fail
      refine sqg [sqv (.int .i64 (q : Int)), sqv (.slice (some ⟨b1, o1, none⟩) nt ct), sqv (.int .i64 (nt : Int)), sqv (.bool true), sqv (.bool true), sqv (.slice (some ⟨b1, o1, none⟩) nt ct), sqv (.int .i64 (q : Int)), sqv (.pointer (some ⟨b1, o1 + q * 3, none⟩)), sqv (.pointer (some ⟨b1, o1 + q * 3, none⟩)), sqv (.string (st TK)), sqv (.slice (some ⟨b2, o2, none⟩) n2 c2), sqv (.int .i64 (j : Int)), sqv (.pointer (some ⟨b2, o2 + j * 3, none⟩)), sqv (.pointer (some ⟨b2, o2 + j * 3, none⟩)), sqv (.string (st XK)), sqv (.bool false), sqv (.bool false)] 83 ?gmono ?gsteps ?gfin
      case gmono => (iterate 17 refine ⟨sqm, ?_⟩); trivial
      case gsteps =>
       show Grow.allBelow _ 17
       iterate 17 refine And.intro ?_ ?_
       exact trivial
       ·exact squ 7
       ·exact squ 0
       ·refine sqi ?_;intro E W ec eg ef hG hd hu R HR1;have e15 := sqe (hd 1 15);clear hd hu;go_simp;exact sqh HR1
       ·refine sqi ?_;intro E W ec eg ef hG hd hu R HR1;have e14 := sqe (hd 0 14);have e16 := sqe (hd 2 16);clear hd hu;have hqn := HQN.out;go_simp;exact sqh HR1
       ·exact sqd 3 17
       ·exact yX 4 18 true 0
       ·exact yX 4 18 true 7
       ·refine sqo 4 18 ?_;intro E W ec eg ef hG hd hu R HR1;have e19 := sqe (hd 5 19);have e20 := sqe (hd 6 20);clear hd hu;have hql := HQ.out.2.2.2.2;go_simp
        first | exact sqh HR1 | (rw [if_pos ⟨by omega, by omega⟩]; exact sqh HR1)
       ·refine sqo 4 18 ?_;intro E W ec eg ef hG hd hu R HR1;have e21 := sqe (hd 7 21);clear hd hu;go_simp;exact sqh HR1
       ·refine sqo 4 18 ?_;intro E W ec eg ef hG hd hu R HR1;have e22 := sqe (hd 8 22);clear hd hu;have hcl := (hG.cell (p := ⟨b1, o1 + q * 3, none⟩) HCT.out.1).trans HCT.out.2;go_simp;exact sqh HR1
       ·exact yX 4 18 true 1
       ·exact yX 4 18 true 5
       ·refine sqo 4 18 ?_;intro E W ec eg ef hG hd hu R HR1;have e24 := sqe (hd 10 24);have e25 := sqe (hd 11 25);clear hd hu;have hjl := HX.out.2.1;go_simp
        first | exact sqh HR1 | (rw [if_pos ⟨by omega, by omega⟩]; exact sqh HR1)
       ·refine sqo 4 18 ?_;intro E W ec eg ef hG hd hu R HR1;have e26 := sqe (hd 12 26);clear hd hu;go_simp;exact sqh HR1
       ·refine sqo 4 18 ?_;intro E W ec eg ef hG hd hu R HR1;have e27 := sqe (hd 13 27);clear hd hu;have hcl := (hG.cell (p := ⟨b2, o2 + j * 3, none⟩) HCX.out.1).trans HCX.out.2.1;go_simp;exact sqh HR1
       ·refine sqo 4 18 ?_;intro E W ec eg ef hG hd hu R HR1;have e23 := sqe (hd 9 23);have e28 := sqe (hd 14 28);clear hd hu;have hcm := HCM.out;go_simp;exact sqh HR1
       ·refine sqi ?_;intro E W ec eg ef hG hd hu R HR1;have e18 := sqe (hd 4 18);have e29 := sqe (hd 15 29);clear hd hu;go_simp;exact sqh HR1
      case gfin =>
       intro W hG
       iterate 17 (refine Grow.fin_dst (by rfl) ?_; rintro _ rfl)
       simp only [Act.put, sqp];refine Grow.fin_end ?_;have HB6 := Lib.hid (Grow.below_of_drew hG);clear hG;have HBW := Lib.hid (HBW.out.trans (HB6.out.mono HBW.out.size));clear HCM HCT HCX;have hsl8 := run_to3 (some ⟨b1, o1, none⟩) nt ct q (by have := HQ.out.1; have := HR.out.1.cap; omega) W;obtain ⟨AO, cO, w8, hap8, hown8, hb8⟩ := yr (B := w1.heap.size) (l := []) (v := .slice none 0 0) (m := (tb2 T).take q) (n2 := q) (c2 := ct) (World.ownsRow_nil _ _ _ _) HBW.out.size ((HR.out.1.below HBW.out).to HQ.out.1) (by have := HLN.out; have := HQ.out.1; simp; omega) 36;(have htq : (tb2 T).take q = tb2 (T.take q) := by unfold tb2; rw [List.map_take]);rw [List.nil_append, htq] at hap8 hown8;obtain ⟨LO, hLO⟩ := sqz (tb2 (T.take q));rw [← hLO] at hap8 hown8;obtain ⟨NO, hNO⟩ := sqz LO.length;(have hOl : LO.length = q := by rw [hLO]; simp [tb2]; have := HLN.out; have := HQ.out.1; omega);have hap8' := hap8;rw [← hNO] at hap8';have HO := sq4 hown8 hNO hOl hLO;have HBW8 := Lib.hid (HBW.out.trans hb8);have hg9 : w8.cell? ⟨b2, o2 + j * 3 + 2, none⟩ = some (.bool G) := (HBW8.out.cell (p := ⟨_, _, none⟩) HXC.out.1).trans HXC.out.2.2.2;clear hown8 hb8 htq HBW hap8 hNO hOl hLO
       go_upto_region 9 with (at_builtin; refine zh (by rfl) _ _ 36 (by rfl) (by rfl) (by rfl) hap8' ?_)
       have HBW := HBW8;clear HBW8 hap8' hsl8
       cases G
       ·go_upto_region 10 with fail
        clear hg9;have HCX : Hid (b2 < w8.drew.heap.size ∧ w8.drew.cell? ⟨b2, o2 + j * 3, none⟩ = some (.string (st XK)) ∧ w8.drew.cell? ⟨b2, o2 + j * 3 + 1, none⟩ = some (.string (st XV))) := Lib.hid ⟨Nat.lt_of_lt_of_le HXC.out.1 (HBW.out).size, (HBW.out.cell (p := ⟨_, _, none⟩) HXC.out.1).trans HXC.out.2.1, (HBW.out.cell (p := ⟨_, _, none⟩) HXC.out.1).trans HXC.out.2.2.1⟩;refine (wpIn_wide (n := 3)).1 ?_;refine wpIn_region_growP (Grow.open_wide _ _) (fun W W' => Below W.heap.size W W') (Grow.nth [sqv (.slice AO NO cO), sqv (.slice (some ⟨b2, o2, none⟩) n2 c2), sqv (.int .i64 (j : Int)), sqv (.pointer (some ⟨b2, o2 + j * 3, none⟩)), sqv (.pointer (some ⟨b2, o2 + j * 3, none⟩)), sqv (.string (st XK)), sqv (.slice (some ⟨b2, o2, none⟩) n2 c2), sqv (.int .i64 (j : Int)), sqv (.pointer (some ⟨b2, o2 + j * 3, none⟩)), sqv (.pointer (some ⟨b2, o2 + j * 3 + 1, none⟩)), sqv (.string (st XV)), sqv (.agg #[.string (st XK), .string (st XV), .bool false]), fun v W => ∃ q2, v = .slice (some ⟨q2, 0, none⟩) 1 1 ∧ W.heap[q2]? = some (.cells #[.string (st XK), .string (st XV), .bool false] 95 (0, 0)) ∧ w8.heap.size ≤ q2]) 83 (by kernel_rfl) (by kernel_rfl) (by kernel_rfl) (by kernel_rfl) (by rfl) (fun W => Below.refl _ W) (fun _ _ _ h1 h2 => h1.trans (h2.mono h1.size)) (Grow.mono_nth ?gmono) 13 (by rfl) (by rfl) (by rfl) (by rfl) (by rfl) ?gsteps ?gfin
        case gmono => exact ⟨sqm, sqm, sqm, sqm, sqm, sqm, sqm, sqm, sqm, sqm, sqm, sqm, fun _ _ _ ⟨A, h1, h2, h3⟩ hg => ⟨A, h1, (hg.block A (zB h2)).trans h2, h3⟩, trivial⟩
        case gsteps =>
         show Grow.allBelow _ 13
         iterate 13 refine And.intro ?_ ?_
         exact trivial
         ·exact squ 6
         ·exact squ 1
         ·exact squ 5
         ·refine sqi ?_;intro E W ec eg ef hG hd hu R HR1;have e45 := sqe (hd 1 45);have e46 := sqe (hd 2 46);clear hd hu;have hjl := HX.out.2.1;go_simp
          first | exact sqh HR1 | (rw [if_pos ⟨by omega, by omega⟩]; exact sqh HR1)
         ·refine sqi ?_;intro E W ec eg ef hG hd hu R HR1;have e47 := sqe (hd 3 47);clear hd hu;go_simp;exact sqh HR1
         ·refine sqi ?_;intro E W ec eg ef hG hd hu R HR1;have e48 := sqe (hd 4 48);clear hd hu;have hcl := (hG.cell (p := ⟨b2, o2 + j * 3, none⟩) HCX.out.1).trans HCX.out.2.1;go_simp;exact sqh HR1
         ·exact squ 1
         ·exact squ 5
         ·refine sqi ?_;intro E W ec eg ef hG hd hu R HR1;have e50 := sqe (hd 6 50);have e51 := sqe (hd 7 51);clear hd hu;have hjl := HX.out.2.1;go_simp
          first | exact sqh HR1 | (rw [if_pos ⟨by omega, by omega⟩]; exact sqh HR1)
         ·refine sqi ?_;intro E W ec eg ef hG hd hu R HR1;have e52 := sqe (hd 8 52);clear hd hu;go_simp;exact sqh HR1
         ·refine sqi ?_;intro E W ec eg ef hG hd hu R HR1;have e53 := sqe (hd 9 53);clear hd hu;have hcl := (hG.cell (p := ⟨b2, o2 + j * 3 + 1, none⟩) HCX.out.1).trans HCX.out.2.2;go_simp;exact sqh HR1
         ·refine sqi ?_;intro E W ec eg ef hG hd hu R HR1;have e49 := sqe (hd 5 49);have e54 := sqe (hd 10 54);clear hd hu;go_simp;exact sqh HR1
         ·refine sqi ?_;intro E W ec eg ef hG hd hu R HR1;have e55 := sqe (hd 11 55);clear hd hu;go_simp;exact HR1.out _ _ ((Below.refl _ _).alloc (Nat.le_refl _) _) ⟨_, rfl, heap_alloc_new W _, by have h1 := hG.size; have h2 : w8.drew.heap.size = w8.heap.size := rfl; omega⟩
        case gfin =>
         intro W hG
         iterate 12 (refine Grow.fin_dst (by rfl) ?_; rintro _ rfl)
         refine Grow.fin_dst (by rfl) ?_;rintro _ ⟨q10, rfl, hq10⟩;simp only [Act.put, sqp];refine Grow.fin_end ?_;have HB10 := Lib.hid (Grow.below_of_drew hG);clear hG;have hq10' := hq10.1
         obtain ⟨A10, c10, w10, hap10, hown10, hb10⟩ := yz (m := [⟨XK, XV, false⟩]) (n2 := 1) (c2 := 1) (a := ⟨q10, 0, none⟩) (yN HO.out.1 HB10.out) (Nat.le_trans HBW.out.size HB10.out.size) rfl (fun o u hu => by
          rw [zK, Nat.zero_add, zA hq10']
          simpa [yB, cmV] using hu) (by have h1 := HLN.out; have h2 := HQ.out.1; have h3 := HO.out.2.2.1; omega) 36
         obtain ⟨L10, hL10⟩ := sqz (LO ++ [⟨XK, XV, false⟩]);rw [← hL10] at hap10 hown10;obtain ⟨N10, hN10⟩ := sqz L10.length;rw [← hN10] at hap10;rw [← HO.out.2.1] at hap10;(have hlen10 : L10.length = q + 1 := by rw [hL10, List.length_append, HO.out.2.2.1]; rfl);have HO10 := sq4 hown10 hN10 hlen10 (hL10.trans (by rw [HO.out.2.2.2]) : L10 = tb2 (T.take q) ++ [⟨XK, XV, false⟩]);have HBW := Lib.hid (HBW.out.trans ((HB10.out.mono HBW.out.size).trans hb10));clear hown10 hN10 hlen10 hL10 hb10 hq10' hq10 HO;refine operIn_app _ _ 36 (by rfl) (by rfl) (by rfl) hap10 ?_
         gi_wp2_with fail
         go_upto_region 11 with fail
         clear hap10
         by_cases hek : TK = XK
         ·have hcm0 := st_beq TK XK;rw [decide_eq_true hek] at hcm0;have HCM := Lib.hid hcm0;have HEK := Lib.hid hek;clear hek hcm0;have HCX : Hid (b2 < w10.drew.heap.size ∧ w10.drew.cell? ⟨b2, o2 + j * 3, none⟩ = some (.string (st XK)) ∧ w10.drew.cell? ⟨b2, o2 + j * 3 + 1, none⟩ = some (.string (st XV))) := Lib.hid ⟨Nat.lt_of_lt_of_le HXC.out.1 (HBW.out).size, (HBW.out.cell (p := ⟨_, _, none⟩) HXC.out.1).trans HXC.out.2.1, (HBW.out.cell (p := ⟨_, _, none⟩) HXC.out.1).trans HXC.out.2.2.1⟩;have HCT : Hid (b1 < w10.drew.heap.size ∧ w10.drew.cell? ⟨b1, o1 + q * 3, none⟩ = some (.string (st TK))) := Lib.hid ⟨Nat.lt_of_lt_of_le HTC.out.1 (HBW.out).size, (HBW.out.cell (p := ⟨_, _, none⟩) HTC.out.1).trans HTC.out.2⟩;refine sqg [sqv (.int .i64 (q : Int)), sqv (.slice (some ⟨b1, o1, none⟩) nt ct), sqv (.int .i64 (nt : Int)), sqv (.bool true), sqv (.bool true), sqv (.slice (some ⟨b1, o1, none⟩) nt ct), sqv (.int .i64 (q : Int)), sqv (.pointer (some ⟨b1, o1 + q * 3, none⟩)), sqv (.pointer (some ⟨b1, o1 + q * 3, none⟩)), sqv (.string (st TK)), sqv (.slice (some ⟨b2, o2, none⟩) n2 c2), sqv (.int .i64 (j : Int)), sqv (.pointer (some ⟨b2, o2 + j * 3, none⟩)), sqv (.pointer (some ⟨b2, o2 + j * 3, none⟩)), sqv (.string (st XK)), sqv (.bool true), sqv (.bool true)] 83 ?gmono ?gsteps ?gfin
          case gmono => (iterate 17 refine ⟨sqm, ?_⟩); trivial
          case gsteps =>
           show Grow.allBelow _ 17
           iterate 17 refine And.intro ?_ ?_
           exact trivial
           ·exact squ 7
           ·exact squ 0
           ·refine sqi ?_;intro E W ec eg ef hG hd hu R HR1;have e59 := sqe (hd 1 59);clear hd hu;go_simp;exact sqh HR1
           ·refine sqi ?_;intro E W ec eg ef hG hd hu R HR1;have e58 := sqe (hd 0 58);have e60 := sqe (hd 2 60);clear hd hu;have hqn := HQN.out;go_simp;exact sqh HR1
           ·exact sqd 3 61
           ·exact yX 4 62 true 0
           ·exact yX 4 62 true 7
           ·refine sqo 4 62 ?_;intro E W ec eg ef hG hd hu R HR1;have e63 := sqe (hd 5 63);have e64 := sqe (hd 6 64);clear hd hu;have hql := HQ.out.2.2.2.2;go_simp
            first | exact sqh HR1 | (rw [if_pos ⟨by omega, by omega⟩]; exact sqh HR1)
           ·refine sqo 4 62 ?_;intro E W ec eg ef hG hd hu R HR1;have e65 := sqe (hd 7 65);clear hd hu;go_simp;exact sqh HR1
           ·refine sqo 4 62 ?_;intro E W ec eg ef hG hd hu R HR1;have e66 := sqe (hd 8 66);clear hd hu;have hcl := (hG.cell (p := ⟨b1, o1 + q * 3, none⟩) HCT.out.1).trans HCT.out.2;go_simp;exact sqh HR1
           ·exact yX 4 62 true 1
           ·exact yX 4 62 true 5
           ·refine sqo 4 62 ?_;intro E W ec eg ef hG hd hu R HR1;have e68 := sqe (hd 10 68);have e69 := sqe (hd 11 69);clear hd hu;have hjl := HX.out.2.1;go_simp
            first | exact sqh HR1 | (rw [if_pos ⟨by omega, by omega⟩]; exact sqh HR1)
           ·refine sqo 4 62 ?_;intro E W ec eg ef hG hd hu R HR1;have e70 := sqe (hd 12 70);clear hd hu;go_simp;exact sqh HR1
           ·refine sqo 4 62 ?_;intro E W ec eg ef hG hd hu R HR1;have e71 := sqe (hd 13 71);clear hd hu;have hcl := (hG.cell (p := ⟨b2, o2 + j * 3, none⟩) HCX.out.1).trans HCX.out.2.1;go_simp;exact sqh HR1
           ·refine sqo 4 62 ?_;intro E W ec eg ef hG hd hu R HR1;have e67 := sqe (hd 9 67);have e72 := sqe (hd 14 72);clear hd hu;have hcm := HCM.out;go_simp;exact sqh HR1
           ·refine sqi ?_;intro E W ec eg ef hG hd hu R HR1;have e62 := sqe (hd 4 62);have e73 := sqe (hd 15 73);clear hd hu;go_simp;exact sqh HR1
          case gfin =>
           intro W hG
           iterate 17 (refine Grow.fin_dst (by rfl) ?_; rintro _ rfl)
           simp only [Act.put, sqp];refine Grow.fin_end ?_;have HB11 := Lib.hid (Grow.below_of_drew hG);clear hG;have HBW := Lib.hid (HBW.out.trans (HB11.out.mono HBW.out.size));have HO10 := sq2 (yN HO10.out.1 HB11.out) HO10.out.2;(obtain ⟨AT, hAT⟩ : ∃ AT : Option Addr, AT = some ⟨b1, o1, none⟩ := ⟨_, rfl⟩);rw [← hAT];rw [← hAT] at HR;clear hAT;have hsl13 := run_cut3 AT nt ct (q + 1) (by have := HQ.out.2.2.2.2; omega) W;rw [show ((q + 1 : Nat) : Int) = (q : Int) + 1 by simp] at hsl13;obtain ⟨A13, c13, w13, hap13, hown13, hb13⟩ := yr (m := (tb2 T).drop (q + 1)) (n2 := nt - (q + 1)) (c2 := ct - (q + 1)) HO10.out.1 HBW.out.size ((HR.out.1.below HBW.out).cut (by have := HQ.out.2.2.2.2; omega)) (by have h1 := HLN.out; have h2 := HO10.out.2.2.1; have h3 := HQ.out.1; omega) 36;obtain ⟨L13, hL13⟩ := sqz (L10 ++ (tb2 T).drop (q + 1));rw [← hL13] at hap13 hown13;obtain ⟨A14, c14, hv14, hc14⟩ := xC hown13;(injection hv14 with e1 e2 e3);subst e1 e3;obtain ⟨N13, hN13⟩ := sqz L13.length;rw [← hN13] at hap13 hc14;rw [← HO10.out.2.1] at hap13;have H13 := sq3 hc14 hb13 hL13;clear hc14 hb13 hL13 hown13 hN13 e2
           go_wp2_with (at_builtin; refine zh (by rfl) _ _ 36 (by rfl) (by rfl) (by rfl) hap13 ?_)
           go_roundw
           case rel =>
            have hb := HBW.out.trans H13.out.2.1;have hx := HX.out
            have hif : (if T[q]?.map (·.1) = some X.k then q + 1 else q) = (q + 1) := by
             rw [← hx.2.2.1];exact if_pos (by rw [HQ.out.2.2.1]; show some P.1 = some XK; rw [← HQ.out.2.2.2.1, HEK.out])
            have hlist : tb2 (doL t (l.take (j + 1))) = L13 := by
             (have e : l.take (j + 1) = l.take j ++ [X] := by rw [List.take_add_one, hx.1]; rfl);(have e4 : doL t (l.take (j + 1)) = doC T X := by rw [e, HR.out.2.2.1]; unfold doL; rw [List.foldl_append]; rfl);rw [e4, do_at HR.out.2.2.2 (q := q) (by rw [← hx.2.2.1]; exact HQ.out.2.1) (by rw [← hx.2.2.1]; exact fun p hp => by rw [HQ.out.2.2.1] at hp; injection hp with hp; rw [← hp, ← HQ.out.2.2.2.1]; exact HNL.out), H13.out.2.2, HO10.out.2.2.2, hif, ← hx.2.2.1, ← hx.2.2.2.1, ← hx.2.2.2.2.1];simp [tb2, List.map_drop]
            unfold RDo;exact ⟨j + 1, A13, N13, c13, by have := HS.out.2.2.2.1; omega, by simp, rfl, by rw [hlist]; exact H13.out.1.mono fun k _ hk => .inr (Nat.le_trans HR.out.2.1.size hk), HR.out.2.1.trans (hb.mono HR.out.2.1.size)⟩
           case measure => simp only [intOf]; have h1 := HX.out.2.1; omega
         ·have hcm0 := st_beq TK XK;rw [decide_eq_false hek] at hcm0;have HCM := Lib.hid hcm0;have HEK := Lib.hid hek;clear hek hcm0;have HCX : Hid (b2 < w10.drew.heap.size ∧ w10.drew.cell? ⟨b2, o2 + j * 3, none⟩ = some (.string (st XK)) ∧ w10.drew.cell? ⟨b2, o2 + j * 3 + 1, none⟩ = some (.string (st XV))) := Lib.hid ⟨Nat.lt_of_lt_of_le HXC.out.1 (HBW.out).size, (HBW.out.cell (p := ⟨_, _, none⟩) HXC.out.1).trans HXC.out.2.1, (HBW.out.cell (p := ⟨_, _, none⟩) HXC.out.1).trans HXC.out.2.2.1⟩;have HCT : Hid (b1 < w10.drew.heap.size ∧ w10.drew.cell? ⟨b1, o1 + q * 3, none⟩ = some (.string (st TK))) := Lib.hid ⟨Nat.lt_of_lt_of_le HTC.out.1 (HBW.out).size, (HBW.out.cell (p := ⟨_, _, none⟩) HTC.out.1).trans HTC.out.2⟩;refine sqg [sqv (.int .i64 (q : Int)), sqv (.slice (some ⟨b1, o1, none⟩) nt ct), sqv (.int .i64 (nt : Int)), sqv (.bool true), sqv (.bool true), sqv (.slice (some ⟨b1, o1, none⟩) nt ct), sqv (.int .i64 (q : Int)), sqv (.pointer (some ⟨b1, o1 + q * 3, none⟩)), sqv (.pointer (some ⟨b1, o1 + q * 3, none⟩)), sqv (.string (st TK)), sqv (.slice (some ⟨b2, o2, none⟩) n2 c2), sqv (.int .i64 (j : Int)), sqv (.pointer (some ⟨b2, o2 + j * 3, none⟩)), sqv (.pointer (some ⟨b2, o2 + j * 3, none⟩)), sqv (.string (st XK)), sqv (.bool false), sqv (.bool false)] 83 ?gmono ?gsteps ?gfin
          case gmono => (iterate 17 refine ⟨sqm, ?_⟩); trivial
          case gsteps =>
           show Grow.allBelow _ 17
           iterate 17 refine And.intro ?_ ?_
           exact trivial
           ·exact squ 7
           ·exact squ 0
           ·refine sqi ?_;intro E W ec eg ef hG hd hu R HR1;have e59 := sqe (hd 1 59);clear hd hu;go_simp;exact sqh HR1
           ·refine sqi ?_;intro E W ec eg ef hG hd hu R HR1;have e58 := sqe (hd 0 58);have e60 := sqe (hd 2 60);clear hd hu;have hqn := HQN.out;go_simp;exact sqh HR1
           ·exact sqd 3 61
           ·exact yX 4 62 true 0
           ·exact yX 4 62 true 7
           ·refine sqo 4 62 ?_;intro E W ec eg ef hG hd hu R HR1;have e63 := sqe (hd 5 63);have e64 := sqe (hd 6 64);clear hd hu;have hql := HQ.out.2.2.2.2;go_simp
            first | exact sqh HR1 | (rw [if_pos ⟨by omega, by omega⟩]; exact sqh HR1)
           ·refine sqo 4 62 ?_;intro E W ec eg ef hG hd hu R HR1;have e65 := sqe (hd 7 65);clear hd hu;go_simp;exact sqh HR1
           ·refine sqo 4 62 ?_;intro E W ec eg ef hG hd hu R HR1;have e66 := sqe (hd 8 66);clear hd hu;have hcl := (hG.cell (p := ⟨b1, o1 + q * 3, none⟩) HCT.out.1).trans HCT.out.2;go_simp;exact sqh HR1
           ·exact yX 4 62 true 1
           ·exact yX 4 62 true 5
           ·refine sqo 4 62 ?_;intro E W ec eg ef hG hd hu R HR1;have e68 := sqe (hd 10 68);have e69 := sqe (hd 11 69);clear hd hu;have hjl := HX.out.2.1;go_simp
            first | exact sqh HR1 | (rw [if_pos ⟨by omega, by omega⟩]; exact sqh HR1)
           ·refine sqo 4 62 ?_;intro E W ec eg ef hG hd hu R HR1;have e70 := sqe (hd 12 70);clear hd hu;go_simp;exact sqh HR1
           ·refine sqo 4 62 ?_;intro E W ec eg ef hG hd hu R HR1;have e71 := sqe (hd 13 71);clear hd hu;have hcl := (hG.cell (p := ⟨b2, o2 + j * 3, none⟩) HCX.out.1).trans HCX.out.2.1;go_simp;exact sqh HR1
           ·refine sqo 4 62 ?_;intro E W ec eg ef hG hd hu R HR1;have e67 := sqe (hd 9 67);have e72 := sqe (hd 14 72);clear hd hu;have hcm := HCM.out;go_simp;exact sqh HR1
           ·refine sqi ?_;intro E W ec eg ef hG hd hu R HR1;have e62 := sqe (hd 4 62);have e73 := sqe (hd 15 73);clear hd hu;go_simp;exact sqh HR1
          case gfin =>
           intro W hG
           iterate 17 (refine Grow.fin_dst (by rfl) ?_; rintro _ rfl)
           simp only [Act.put, sqp];refine Grow.fin_end ?_;have HB11 := Lib.hid (Grow.below_of_drew hG);clear hG;have HBW := Lib.hid (HBW.out.trans (HB11.out.mono HBW.out.size));have HO10 := sq2 (yN HO10.out.1 HB11.out) HO10.out.2;(obtain ⟨AT, hAT⟩ : ∃ AT : Option Addr, AT = some ⟨b1, o1, none⟩ := ⟨_, rfl⟩);rw [← hAT];rw [← hAT] at HR;clear hAT;have hsl13 := run_cut3 AT nt ct q (by have := HQ.out.1; omega) W;obtain ⟨A13, c13, w13, hap13, hown13, hb13⟩ := yr (m := (tb2 T).drop q) (n2 := nt - q) (c2 := ct - q) HO10.out.1 HBW.out.size ((HR.out.1.below HBW.out).cut (by have := HQ.out.1; omega)) (by have h1 := HLN.out; have h2 := HO10.out.2.2.1; have h3 := HQ.out.1; omega) 36;obtain ⟨L13, hL13⟩ := sqz (L10 ++ (tb2 T).drop q);rw [← hL13] at hap13 hown13;obtain ⟨A14, c14, hv14, hc14⟩ := xC hown13;(injection hv14 with e1 e2 e3);subst e1 e3;obtain ⟨N13, hN13⟩ := sqz L13.length;rw [← hN13] at hap13 hc14;rw [← HO10.out.2.1] at hap13;have H13 := sq3 hc14 hb13 hL13;clear hc14 hb13 hL13 hown13 hN13 e2
           go_wp2_with (at_builtin; refine zh (by rfl) _ _ 36 (by rfl) (by rfl) (by rfl) hap13 ?_)
           go_roundw
           case rel =>
            have hb := HBW.out.trans H13.out.2.1;have hx := HX.out
            have hif : (if T[q]?.map (·.1) = some X.k then q + 1 else q) = q := by
             rw [← hx.2.2.1];exact if_neg (fun e => HEK.out (by rw [HQ.out.2.2.1] at e; rw [HQ.out.2.2.2.1]; exact Option.some.inj e))
            have hlist : tb2 (doL t (l.take (j + 1))) = L13 := by
             (have e : l.take (j + 1) = l.take j ++ [X] := by rw [List.take_add_one, hx.1]; rfl);(have e4 : doL t (l.take (j + 1)) = doC T X := by rw [e, HR.out.2.2.1]; unfold doL; rw [List.foldl_append]; rfl);rw [e4, do_at HR.out.2.2.2 (q := q) (by rw [← hx.2.2.1]; exact HQ.out.2.1) (by rw [← hx.2.2.1]; exact fun p hp => by rw [HQ.out.2.2.1] at hp; injection hp with hp; rw [← hp, ← HQ.out.2.2.2.1]; exact HNL.out), H13.out.2.2, HO10.out.2.2.2, hif, ← hx.2.2.1, ← hx.2.2.2.1, ← hx.2.2.2.2.1];simp [tb2, List.map_drop]
            unfold RDo;exact ⟨j + 1, A13, N13, c13, by have := HS.out.2.2.2.1; omega, by simp, rfl, by rw [hlist]; exact H13.out.1.mono fun k _ hk => .inr (Nat.le_trans HR.out.2.1.size hk), HR.out.2.1.trans (hb.mono HR.out.2.1.size)⟩
           case measure => simp only [intOf]; have h1 := HX.out.2.1; omega
       ·go_upto_region 11 with fail
        clear hg9
        by_cases hek : TK = XK
        ·have hcm0 := st_beq TK XK;rw [decide_eq_true hek] at hcm0;have HCM := Lib.hid hcm0;have HEK := Lib.hid hek;clear hek hcm0;have HCX : Hid (b2 < w8.drew.heap.size ∧ w8.drew.cell? ⟨b2, o2 + j * 3, none⟩ = some (.string (st XK)) ∧ w8.drew.cell? ⟨b2, o2 + j * 3 + 1, none⟩ = some (.string (st XV))) := Lib.hid ⟨Nat.lt_of_lt_of_le HXC.out.1 (HBW.out).size, (HBW.out.cell (p := ⟨_, _, none⟩) HXC.out.1).trans HXC.out.2.1, (HBW.out.cell (p := ⟨_, _, none⟩) HXC.out.1).trans HXC.out.2.2.1⟩;have HCT : Hid (b1 < w8.drew.heap.size ∧ w8.drew.cell? ⟨b1, o1 + q * 3, none⟩ = some (.string (st TK))) := Lib.hid ⟨Nat.lt_of_lt_of_le HTC.out.1 (HBW.out).size, (HBW.out.cell (p := ⟨_, _, none⟩) HTC.out.1).trans HTC.out.2⟩;refine sqg [sqv (.int .i64 (q : Int)), sqv (.slice (some ⟨b1, o1, none⟩) nt ct), sqv (.int .i64 (nt : Int)), sqv (.bool true), sqv (.bool true), sqv (.slice (some ⟨b1, o1, none⟩) nt ct), sqv (.int .i64 (q : Int)), sqv (.pointer (some ⟨b1, o1 + q * 3, none⟩)), sqv (.pointer (some ⟨b1, o1 + q * 3, none⟩)), sqv (.string (st TK)), sqv (.slice (some ⟨b2, o2, none⟩) n2 c2), sqv (.int .i64 (j : Int)), sqv (.pointer (some ⟨b2, o2 + j * 3, none⟩)), sqv (.pointer (some ⟨b2, o2 + j * 3, none⟩)), sqv (.string (st XK)), sqv (.bool true), sqv (.bool true)] 83 ?gmono ?gsteps ?gfin
         case gmono => (iterate 17 refine ⟨sqm, ?_⟩); trivial
         case gsteps =>
          show Grow.allBelow _ 17
          iterate 17 refine And.intro ?_ ?_
          exact trivial
          ·exact squ 7
          ·exact squ 0
          ·refine sqi ?_;intro E W ec eg ef hG hd hu R HR1;have e59 := sqe (hd 1 59);clear hd hu;go_simp;exact sqh HR1
          ·refine sqi ?_;intro E W ec eg ef hG hd hu R HR1;have e58 := sqe (hd 0 58);have e60 := sqe (hd 2 60);clear hd hu;have hqn := HQN.out;go_simp;exact sqh HR1
          ·exact sqd 3 61
          ·exact yX 4 62 true 0
          ·exact yX 4 62 true 7
          ·refine sqo 4 62 ?_;intro E W ec eg ef hG hd hu R HR1;have e63 := sqe (hd 5 63);have e64 := sqe (hd 6 64);clear hd hu;have hql := HQ.out.2.2.2.2;go_simp
           first | exact sqh HR1 | (rw [if_pos ⟨by omega, by omega⟩]; exact sqh HR1)
          ·refine sqo 4 62 ?_;intro E W ec eg ef hG hd hu R HR1;have e65 := sqe (hd 7 65);clear hd hu;go_simp;exact sqh HR1
          ·refine sqo 4 62 ?_;intro E W ec eg ef hG hd hu R HR1;have e66 := sqe (hd 8 66);clear hd hu;have hcl := (hG.cell (p := ⟨b1, o1 + q * 3, none⟩) HCT.out.1).trans HCT.out.2;go_simp;exact sqh HR1
          ·exact yX 4 62 true 1
          ·exact yX 4 62 true 5
          ·refine sqo 4 62 ?_;intro E W ec eg ef hG hd hu R HR1;have e68 := sqe (hd 10 68);have e69 := sqe (hd 11 69);clear hd hu;have hjl := HX.out.2.1;go_simp
           first | exact sqh HR1 | (rw [if_pos ⟨by omega, by omega⟩]; exact sqh HR1)
          ·refine sqo 4 62 ?_;intro E W ec eg ef hG hd hu R HR1;have e70 := sqe (hd 12 70);clear hd hu;go_simp;exact sqh HR1
          ·refine sqo 4 62 ?_;intro E W ec eg ef hG hd hu R HR1;have e71 := sqe (hd 13 71);clear hd hu;have hcl := (hG.cell (p := ⟨b2, o2 + j * 3, none⟩) HCX.out.1).trans HCX.out.2.1;go_simp;exact sqh HR1
          ·refine sqo 4 62 ?_;intro E W ec eg ef hG hd hu R HR1;have e67 := sqe (hd 9 67);have e72 := sqe (hd 14 72);clear hd hu;have hcm := HCM.out;go_simp;exact sqh HR1
          ·refine sqi ?_;intro E W ec eg ef hG hd hu R HR1;have e62 := sqe (hd 4 62);have e73 := sqe (hd 15 73);clear hd hu;go_simp;exact sqh HR1
         case gfin =>
          intro W hG
          iterate 17 (refine Grow.fin_dst (by rfl) ?_; rintro _ rfl)
          simp only [Act.put, sqp];refine Grow.fin_end ?_;have HB11 := Lib.hid (Grow.below_of_drew hG);clear hG;have HBW := Lib.hid (HBW.out.trans (HB11.out.mono HBW.out.size));have HO := sq2 (yN HO.out.1 HB11.out) HO.out.2;(obtain ⟨AT, hAT⟩ : ∃ AT : Option Addr, AT = some ⟨b1, o1, none⟩ := ⟨_, rfl⟩);rw [← hAT];rw [← hAT] at HR;clear hAT;have hsl13 := run_cut3 AT nt ct (q + 1) (by have := HQ.out.2.2.2.2; omega) W;rw [show ((q + 1 : Nat) : Int) = (q : Int) + 1 by simp] at hsl13;obtain ⟨A13, c13, w13, hap13, hown13, hb13⟩ := yr (m := (tb2 T).drop (q + 1)) (n2 := nt - (q + 1)) (c2 := ct - (q + 1)) HO.out.1 HBW.out.size ((HR.out.1.below HBW.out).cut (by have := HQ.out.2.2.2.2; omega)) (by have h1 := HLN.out; have h2 := HO.out.2.2.1; have h3 := HQ.out.1; omega) 36;obtain ⟨L13, hL13⟩ := sqz (LO ++ (tb2 T).drop (q + 1));rw [← hL13] at hap13 hown13;obtain ⟨A14, c14, hv14, hc14⟩ := xC hown13;(injection hv14 with e1 e2 e3);subst e1 e3;obtain ⟨N13, hN13⟩ := sqz L13.length;rw [← hN13] at hap13 hc14;rw [← HO.out.2.1] at hap13;have H13 := sq3 hc14 hb13 hL13;clear hc14 hb13 hL13 hown13 hN13 e2
          go_wp2_with (at_builtin; refine zh (by rfl) _ _ 36 (by rfl) (by rfl) (by rfl) hap13 ?_)
          go_roundw
          case rel =>
           have hb := HBW.out.trans H13.out.2.1;have hx := HX.out
           have hif : (if T[q]?.map (·.1) = some X.k then q + 1 else q) = (q + 1) := by
            rw [← hx.2.2.1];exact if_pos (by rw [HQ.out.2.2.1]; show some P.1 = some XK; rw [← HQ.out.2.2.2.1, HEK.out])
           have hlist : tb2 (doL t (l.take (j + 1))) = L13 := by
            (have e : l.take (j + 1) = l.take j ++ [X] := by rw [List.take_add_one, hx.1]; rfl);(have e4 : doL t (l.take (j + 1)) = doC T X := by rw [e, HR.out.2.2.1]; unfold doL; rw [List.foldl_append]; rfl);rw [e4, do_at HR.out.2.2.2 (q := q) (by rw [← hx.2.2.1]; exact HQ.out.2.1) (by rw [← hx.2.2.1]; exact fun p hp => by rw [HQ.out.2.2.1] at hp; injection hp with hp; rw [← hp, ← HQ.out.2.2.2.1]; exact HNL.out), H13.out.2.2, HO.out.2.2.2, hif, ← hx.2.2.1, ← hx.2.2.2.1, ← hx.2.2.2.2.1];simp [tb2, List.map_drop]
           unfold RDo;exact ⟨j + 1, A13, N13, c13, by have := HS.out.2.2.2.1; omega, by simp, rfl, by rw [hlist]; exact H13.out.1.mono fun k _ hk => .inr (Nat.le_trans HR.out.2.1.size hk), HR.out.2.1.trans (hb.mono HR.out.2.1.size)⟩
          case measure => simp only [intOf]; have h1 := HX.out.2.1; omega
        ·have hcm0 := st_beq TK XK;rw [decide_eq_false hek] at hcm0;have HCM := Lib.hid hcm0;have HEK := Lib.hid hek;clear hek hcm0;have HCX : Hid (b2 < w8.drew.heap.size ∧ w8.drew.cell? ⟨b2, o2 + j * 3, none⟩ = some (.string (st XK)) ∧ w8.drew.cell? ⟨b2, o2 + j * 3 + 1, none⟩ = some (.string (st XV))) := Lib.hid ⟨Nat.lt_of_lt_of_le HXC.out.1 (HBW.out).size, (HBW.out.cell (p := ⟨_, _, none⟩) HXC.out.1).trans HXC.out.2.1, (HBW.out.cell (p := ⟨_, _, none⟩) HXC.out.1).trans HXC.out.2.2.1⟩;have HCT : Hid (b1 < w8.drew.heap.size ∧ w8.drew.cell? ⟨b1, o1 + q * 3, none⟩ = some (.string (st TK))) := Lib.hid ⟨Nat.lt_of_lt_of_le HTC.out.1 (HBW.out).size, (HBW.out.cell (p := ⟨_, _, none⟩) HTC.out.1).trans HTC.out.2⟩;refine sqg [sqv (.int .i64 (q : Int)), sqv (.slice (some ⟨b1, o1, none⟩) nt ct), sqv (.int .i64 (nt : Int)), sqv (.bool true), sqv (.bool true), sqv (.slice (some ⟨b1, o1, none⟩) nt ct), sqv (.int .i64 (q : Int)), sqv (.pointer (some ⟨b1, o1 + q * 3, none⟩)), sqv (.pointer (some ⟨b1, o1 + q * 3, none⟩)), sqv (.string (st TK)), sqv (.slice (some ⟨b2, o2, none⟩) n2 c2), sqv (.int .i64 (j : Int)), sqv (.pointer (some ⟨b2, o2 + j * 3, none⟩)), sqv (.pointer (some ⟨b2, o2 + j * 3, none⟩)), sqv (.string (st XK)), sqv (.bool false), sqv (.bool false)] 83 ?gmono ?gsteps ?gfin
         case gmono => (iterate 17 refine ⟨sqm, ?_⟩); trivial
         case gsteps =>
          show Grow.allBelow _ 17
          iterate 17 refine And.intro ?_ ?_
          exact trivial
          ·exact squ 7
          ·exact squ 0
          ·refine sqi ?_;intro E W ec eg ef hG hd hu R HR1;have e59 := sqe (hd 1 59);clear hd hu;go_simp;exact sqh HR1
          ·refine sqi ?_;intro E W ec eg ef hG hd hu R HR1;have e58 := sqe (hd 0 58);have e60 := sqe (hd 2 60);clear hd hu;have hqn := HQN.out;go_simp;exact sqh HR1
          ·exact sqd 3 61
          ·exact yX 4 62 true 0
          ·exact yX 4 62 true 7
          ·refine sqo 4 62 ?_;intro E W ec eg ef hG hd hu R HR1;have e63 := sqe (hd 5 63);have e64 := sqe (hd 6 64);clear hd hu;have hql := HQ.out.2.2.2.2;go_simp
           first | exact sqh HR1 | (rw [if_pos ⟨by omega, by omega⟩]; exact sqh HR1)
          ·refine sqo 4 62 ?_;intro E W ec eg ef hG hd hu R HR1;have e65 := sqe (hd 7 65);clear hd hu;go_simp;exact sqh HR1
          ·refine sqo 4 62 ?_;intro E W ec eg ef hG hd hu R HR1;have e66 := sqe (hd 8 66);clear hd hu;have hcl := (hG.cell (p := ⟨b1, o1 + q * 3, none⟩) HCT.out.1).trans HCT.out.2;go_simp;exact sqh HR1
          ·exact yX 4 62 true 1
          ·exact yX 4 62 true 5
          ·refine sqo 4 62 ?_;intro E W ec eg ef hG hd hu R HR1;have e68 := sqe (hd 10 68);have e69 := sqe (hd 11 69);clear hd hu;have hjl := HX.out.2.1;go_simp
           first | exact sqh HR1 | (rw [if_pos ⟨by omega, by omega⟩]; exact sqh HR1)
          ·refine sqo 4 62 ?_;intro E W ec eg ef hG hd hu R HR1;have e70 := sqe (hd 12 70);clear hd hu;go_simp;exact sqh HR1
          ·refine sqo 4 62 ?_;intro E W ec eg ef hG hd hu R HR1;have e71 := sqe (hd 13 71);clear hd hu;have hcl := (hG.cell (p := ⟨b2, o2 + j * 3, none⟩) HCX.out.1).trans HCX.out.2.1;go_simp;exact sqh HR1
          ·refine sqo 4 62 ?_;intro E W ec eg ef hG hd hu R HR1;have e67 := sqe (hd 9 67);have e72 := sqe (hd 14 72);clear hd hu;have hcm := HCM.out;go_simp;exact sqh HR1
          ·refine sqi ?_;intro E W ec eg ef hG hd hu R HR1;have e62 := sqe (hd 4 62);have e73 := sqe (hd 15 73);clear hd hu;go_simp;exact sqh HR1
         case gfin =>
          intro W hG
          iterate 17 (refine Grow.fin_dst (by rfl) ?_; rintro _ rfl)
          simp only [Act.put, sqp];refine Grow.fin_end ?_;have HB11 := Lib.hid (Grow.below_of_drew hG);clear hG;have HBW := Lib.hid (HBW.out.trans (HB11.out.mono HBW.out.size));have HO := sq2 (yN HO.out.1 HB11.out) HO.out.2;(obtain ⟨AT, hAT⟩ : ∃ AT : Option Addr, AT = some ⟨b1, o1, none⟩ := ⟨_, rfl⟩);rw [← hAT];rw [← hAT] at HR;clear hAT;have hsl13 := run_cut3 AT nt ct q (by have := HQ.out.1; omega) W;obtain ⟨A13, c13, w13, hap13, hown13, hb13⟩ := yr (m := (tb2 T).drop q) (n2 := nt - q) (c2 := ct - q) HO.out.1 HBW.out.size ((HR.out.1.below HBW.out).cut (by have := HQ.out.1; omega)) (by have h1 := HLN.out; have h2 := HO.out.2.2.1; have h3 := HQ.out.1; omega) 36;obtain ⟨L13, hL13⟩ := sqz (LO ++ (tb2 T).drop q);rw [← hL13] at hap13 hown13;obtain ⟨A14, c14, hv14, hc14⟩ := xC hown13;(injection hv14 with e1 e2 e3);subst e1 e3;obtain ⟨N13, hN13⟩ := sqz L13.length;rw [← hN13] at hap13 hc14;rw [← HO.out.2.1] at hap13;have H13 := sq3 hc14 hb13 hL13;clear hc14 hb13 hL13 hown13 hN13 e2
          go_wp2_with (at_builtin; refine zh (by rfl) _ _ 36 (by rfl) (by rfl) (by rfl) hap13 ?_)
          go_roundw
          case rel =>
           have hb := HBW.out.trans H13.out.2.1;have hx := HX.out
           have hif : (if T[q]?.map (·.1) = some X.k then q + 1 else q) = q := by
            rw [← hx.2.2.1];exact if_neg (fun e => HEK.out (by rw [HQ.out.2.2.1] at e; rw [HQ.out.2.2.2.1]; exact Option.some.inj e))
           have hlist : tb2 (doL t (l.take (j + 1))) = L13 := by
            (have e : l.take (j + 1) = l.take j ++ [X] := by rw [List.take_add_one, hx.1]; rfl);(have e4 : doL t (l.take (j + 1)) = doC T X := by rw [e, HR.out.2.2.1]; unfold doL; rw [List.foldl_append]; rfl);rw [e4, do_at HR.out.2.2.2 (q := q) (by rw [← hx.2.2.1]; exact HQ.out.2.1) (by rw [← hx.2.2.1]; exact fun p hp => by rw [HQ.out.2.2.1] at hp; injection hp with hp; rw [← hp, ← HQ.out.2.2.2.1]; exact HNL.out), H13.out.2.2, HO.out.2.2.2, hif, ← hx.2.2.1, ← hx.2.2.2.1, ← hx.2.2.2.2.1];simp [tb2, List.map_drop]
           unfold RDo;exact ⟨j + 1, A13, N13, c13, by have := HS.out.2.2.2.1; omega, by simp, rfl, by rw [hlist]; exact H13.out.1.mono fun k _ hk => .inr (Nat.le_trans HR.out.2.1.size hk), HR.out.2.1.trans (hb.mono HR.out.2.1.size)⟩
          case measure => simp only [intOf]; have h1 := HX.out.2.1; omega
    ·have HQN := Lib.hid (show ¬ (q : Int) < (nt : Int) by omega);have HQ := Lib.hid (show q ≤ nt ∧ (∀ p ∈ T.take q, p.1 < XK) ∧ T[q]? = none from ⟨by have := HLN.out; omega, hlow, List.getElem?_eq_none (by have := HLN.out; omega)⟩);clear hq hlow hb3 hqn
     go_upto_region 6 with fail
     refine sqg [sqv (.int .i64 (q : Int)), sqv (.slice At nt ct), sqv (.int .i64 (nt : Int)), sqv (.bool false), sqv (.bool false), sqv undef, sqv undef, sqv undef, sqv undef, sqv undef, sqv undef, sqv undef, sqv undef, sqv undef, sqv undef, sqv undef, sqv (.bool false)] 83 ?gmono ?gsteps ?gfin
     case gmono => (iterate 17 refine ⟨sqm, ?_⟩); trivial
     case gsteps =>
      show Grow.allBelow _ 17
      iterate 17 refine And.intro ?_ ?_
      exact trivial
      ·exact squ 7
      ·exact squ 0
      ·refine sqi ?_;intro E W ec eg ef hG hd hu R HR1;have e15 := sqe (hd 1 15);clear hd hu;go_simp;exact sqh HR1
      ·refine sqi ?_;intro E W ec eg ef hG hd hu R HR1;have e14 := sqe (hd 0 14);have e16 := sqe (hd 2 16);clear hd hu;have hqn := HQN.out;(have hqn2 : ¬ q < nt := by omega);have hqn3 := decide_eq_false hqn2;go_simp
       first | exact sqh HR1 | (simp only [hqn2, hqn3, decide_false]; exact sqh HR1) | (rw [hqn3]; exact sqh HR1)
      ·exact sqd 3 17
      ·exact sqx 4 18
      ·exact sqx 4 18
      ·exact sqx 4 18
      ·exact sqx 4 18
      ·exact sqx 4 18
      ·exact sqx 4 18
      ·exact sqx 4 18
      ·exact sqx 4 18
      ·exact sqx 4 18
      ·exact sqx 4 18
      ·exact sqx 4 18
      ·refine sqi ?_;intro E W ec eg ef hG hd hu R HR1;have e18 := sqe (hd 4 18);have e29 := sqe (hd 15 29);clear hd hu;go_simp;exact sqh HR1
     case gfin =>
      intro W hG
      iterate 17 (refine Grow.fin_dst (by rfl) ?_; rintro _ rfl)
      simp only [Act.put, sqp];refine Grow.fin_end ?_;have HB6 := Lib.hid (Grow.below_of_drew hG);clear hG;have HBW := Lib.hid (HBW.out.trans (HB6.out.mono HBW.out.size));have hsl8 := run_to3 At nt ct q (by have := HQ.out.1; have := HR.out.1.cap; omega) W;obtain ⟨AO, cO, w8, hap8, hown8, hb8⟩ := yr (B := w1.heap.size) (l := []) (v := .slice none 0 0) (m := (tb2 T).take q) (n2 := q) (c2 := ct) (World.ownsRow_nil _ _ _ _) HBW.out.size ((HR.out.1.below HBW.out).to HQ.out.1) (by have := HLN.out; have := HQ.out.1; simp; omega) 36;(have htq : (tb2 T).take q = tb2 (T.take q) := by unfold tb2; rw [List.map_take]);rw [List.nil_append, htq] at hap8 hown8;obtain ⟨LO, hLO⟩ := sqz (tb2 (T.take q));rw [← hLO] at hap8 hown8;obtain ⟨NO, hNO⟩ := sqz LO.length;(have hOl : LO.length = q := by rw [hLO]; simp [tb2]; have := HLN.out; have := HQ.out.1; omega);have hap8' := hap8;rw [← hNO] at hap8';have HO := sq4 hown8 hNO hOl hLO;have HBW8 := Lib.hid (HBW.out.trans hb8);have hg9 : w8.cell? ⟨b2, o2 + j * 3 + 2, none⟩ = some (.bool G) := (HBW8.out.cell (p := ⟨_, _, none⟩) HXC.out.1).trans HXC.out.2.2.2;clear hown8 hb8 htq HBW hap8 hNO hOl hLO
      go_upto_region 9 with (at_builtin; refine zh (by rfl) _ _ 36 (by rfl) (by rfl) (by rfl) hap8' ?_)
      have HBW := HBW8;clear HBW8 hap8' hsl8
      cases G
      ·go_upto_region 10 with fail
       clear hg9;have HCX : Hid (b2 < w8.drew.heap.size ∧ w8.drew.cell? ⟨b2, o2 + j * 3, none⟩ = some (.string (st XK)) ∧ w8.drew.cell? ⟨b2, o2 + j * 3 + 1, none⟩ = some (.string (st XV))) := Lib.hid ⟨Nat.lt_of_lt_of_le HXC.out.1 (HBW.out).size, (HBW.out.cell (p := ⟨_, _, none⟩) HXC.out.1).trans HXC.out.2.1, (HBW.out.cell (p := ⟨_, _, none⟩) HXC.out.1).trans HXC.out.2.2.1⟩;refine (wpIn_wide (n := 3)).1 ?_;refine wpIn_region_growP (Grow.open_wide _ _) (fun W W' => Below W.heap.size W W') (Grow.nth [sqv (.slice AO NO cO), sqv (.slice (some ⟨b2, o2, none⟩) n2 c2), sqv (.int .i64 (j : Int)), sqv (.pointer (some ⟨b2, o2 + j * 3, none⟩)), sqv (.pointer (some ⟨b2, o2 + j * 3, none⟩)), sqv (.string (st XK)), sqv (.slice (some ⟨b2, o2, none⟩) n2 c2), sqv (.int .i64 (j : Int)), sqv (.pointer (some ⟨b2, o2 + j * 3, none⟩)), sqv (.pointer (some ⟨b2, o2 + j * 3 + 1, none⟩)), sqv (.string (st XV)), sqv (.agg #[.string (st XK), .string (st XV), .bool false]), fun v W => ∃ q2, v = .slice (some ⟨q2, 0, none⟩) 1 1 ∧ W.heap[q2]? = some (.cells #[.string (st XK), .string (st XV), .bool false] 95 (0, 0)) ∧ w8.heap.size ≤ q2]) 83 (by kernel_rfl) (by kernel_rfl) (by kernel_rfl) (by kernel_rfl) (by rfl) (fun W => Below.refl _ W) (fun _ _ _ h1 h2 => h1.trans (h2.mono h1.size)) (Grow.mono_nth ?gmono) 13 (by rfl) (by rfl) (by rfl) (by rfl) (by rfl) ?gsteps ?gfin
       case gmono => exact ⟨sqm, sqm, sqm, sqm, sqm, sqm, sqm, sqm, sqm, sqm, sqm, sqm, fun _ _ _ ⟨A, h1, h2, h3⟩ hg => ⟨A, h1, (hg.block A (zB h2)).trans h2, h3⟩, trivial⟩
       case gsteps =>
        show Grow.allBelow _ 13
        iterate 13 refine And.intro ?_ ?_
        exact trivial
        ·exact squ 6
        ·exact squ 1
        ·exact squ 5
        ·refine sqi ?_;intro E W ec eg ef hG hd hu R HR1;have e45 := sqe (hd 1 45);have e46 := sqe (hd 2 46);clear hd hu;have hjl := HX.out.2.1;go_simp
         first | exact sqh HR1 | (rw [if_pos ⟨by omega, by omega⟩]; exact sqh HR1)
        ·refine sqi ?_;intro E W ec eg ef hG hd hu R HR1;have e47 := sqe (hd 3 47);clear hd hu;go_simp;exact sqh HR1
        ·refine sqi ?_;intro E W ec eg ef hG hd hu R HR1;have e48 := sqe (hd 4 48);clear hd hu;have hcl := (hG.cell (p := ⟨b2, o2 + j * 3, none⟩) HCX.out.1).trans HCX.out.2.1;go_simp;exact sqh HR1
        ·exact squ 1
        ·exact squ 5
        ·refine sqi ?_;intro E W ec eg ef hG hd hu R HR1;have e50 := sqe (hd 6 50);have e51 := sqe (hd 7 51);clear hd hu;have hjl := HX.out.2.1;go_simp
         first | exact sqh HR1 | (rw [if_pos ⟨by omega, by omega⟩]; exact sqh HR1)
        ·refine sqi ?_;intro E W ec eg ef hG hd hu R HR1;have e52 := sqe (hd 8 52);clear hd hu;go_simp;exact sqh HR1
        ·refine sqi ?_;intro E W ec eg ef hG hd hu R HR1;have e53 := sqe (hd 9 53);clear hd hu;have hcl := (hG.cell (p := ⟨b2, o2 + j * 3 + 1, none⟩) HCX.out.1).trans HCX.out.2.2;go_simp;exact sqh HR1
        ·refine sqi ?_;intro E W ec eg ef hG hd hu R HR1;have e49 := sqe (hd 5 49);have e54 := sqe (hd 10 54);clear hd hu;go_simp;exact sqh HR1
        ·refine sqi ?_;intro E W ec eg ef hG hd hu R HR1;have e55 := sqe (hd 11 55);clear hd hu;go_simp;exact HR1.out _ _ ((Below.refl _ _).alloc (Nat.le_refl _) _) ⟨_, rfl, heap_alloc_new W _, by have h1 := hG.size; have h2 : w8.drew.heap.size = w8.heap.size := rfl; omega⟩
       case gfin =>
        intro W hG
        iterate 12 (refine Grow.fin_dst (by rfl) ?_; rintro _ rfl)
        refine Grow.fin_dst (by rfl) ?_;rintro _ ⟨q10, rfl, hq10⟩;simp only [Act.put, sqp];refine Grow.fin_end ?_;have HB10 := Lib.hid (Grow.below_of_drew hG);clear hG;have hq10' := hq10.1
        obtain ⟨A10, c10, w10, hap10, hown10, hb10⟩ := yz (m := [⟨XK, XV, false⟩]) (n2 := 1) (c2 := 1) (a := ⟨q10, 0, none⟩) (yN HO.out.1 HB10.out) (Nat.le_trans HBW.out.size HB10.out.size) rfl (fun o u hu => by
         rw [zK, Nat.zero_add, zA hq10']
         simpa [yB, cmV] using hu) (by have h1 := HLN.out; have h2 := HQ.out.1; have h3 := HO.out.2.2.1; omega) 36
        obtain ⟨L10, hL10⟩ := sqz (LO ++ [⟨XK, XV, false⟩]);rw [← hL10] at hap10 hown10;obtain ⟨N10, hN10⟩ := sqz L10.length;rw [← hN10] at hap10;rw [← HO.out.2.1] at hap10;(have hlen10 : L10.length = q + 1 := by rw [hL10, List.length_append, HO.out.2.2.1]; rfl);have HO10 := sq4 hown10 hN10 hlen10 (hL10.trans (by rw [HO.out.2.2.2]) : L10 = tb2 (T.take q) ++ [⟨XK, XV, false⟩]);have HBW := Lib.hid (HBW.out.trans ((HB10.out.mono HBW.out.size).trans hb10));clear hown10 hN10 hlen10 hL10 hb10 hq10' hq10 HO;refine operIn_app _ _ 36 (by rfl) (by rfl) (by rfl) hap10 ?_
        gi_wp2_with fail
        go_upto_region 11 with fail
        clear hap10;have HCX : Hid (b2 < w10.drew.heap.size ∧ w10.drew.cell? ⟨b2, o2 + j * 3, none⟩ = some (.string (st XK)) ∧ w10.drew.cell? ⟨b2, o2 + j * 3 + 1, none⟩ = some (.string (st XV))) := Lib.hid ⟨Nat.lt_of_lt_of_le HXC.out.1 (HBW.out).size, (HBW.out.cell (p := ⟨_, _, none⟩) HXC.out.1).trans HXC.out.2.1, (HBW.out.cell (p := ⟨_, _, none⟩) HXC.out.1).trans HXC.out.2.2.1⟩;refine sqg [sqv (.int .i64 (q : Int)), sqv (.slice At nt ct), sqv (.int .i64 (nt : Int)), sqv (.bool false), sqv (.bool false), sqv undef, sqv undef, sqv undef, sqv undef, sqv undef, sqv undef, sqv undef, sqv undef, sqv undef, sqv undef, sqv undef, sqv (.bool false)] 83 ?gmono ?gsteps ?gfin
        case gmono => (iterate 17 refine ⟨sqm, ?_⟩); trivial
        case gsteps =>
         show Grow.allBelow _ 17
         iterate 17 refine And.intro ?_ ?_
         exact trivial
         ·exact squ 7
         ·exact squ 0
         ·refine sqi ?_;intro E W ec eg ef hG hd hu R HR1;have e59 := sqe (hd 1 59);clear hd hu;go_simp;exact sqh HR1
         ·refine sqi ?_;intro E W ec eg ef hG hd hu R HR1;have e58 := sqe (hd 0 58);have e60 := sqe (hd 2 60);clear hd hu;have hqn := HQN.out;(have hqn2 : ¬ q < nt := by omega);have hqn3 := decide_eq_false hqn2;go_simp
          first | exact sqh HR1 | (simp only [hqn2, hqn3, decide_false]; exact sqh HR1) | (rw [hqn3]; exact sqh HR1)
         ·exact sqd 3 61
         ·exact sqx 4 62
         ·exact sqx 4 62
         ·exact sqx 4 62
         ·exact sqx 4 62
         ·exact sqx 4 62
         ·exact sqx 4 62
         ·exact sqx 4 62
         ·exact sqx 4 62
         ·exact sqx 4 62
         ·exact sqx 4 62
         ·exact sqx 4 62
         ·refine sqi ?_;intro E W ec eg ef hG hd hu R HR1;have e62 := sqe (hd 4 62);have e73 := sqe (hd 15 73);clear hd hu;go_simp;exact sqh HR1
        case gfin =>
         intro W hG
         iterate 17 (refine Grow.fin_dst (by rfl) ?_; rintro _ rfl)
         simp only [Act.put, sqp];refine Grow.fin_end ?_;have HB11 := Lib.hid (Grow.below_of_drew hG);clear hG;have HBW := Lib.hid (HBW.out.trans (HB11.out.mono HBW.out.size));have HO10 := sq2 (yN HO10.out.1 HB11.out) HO10.out.2;have hsl13 := run_cut3 At nt ct q (by have := HQ.out.1; omega) W;obtain ⟨A13, c13, w13, hap13, hown13, hb13⟩ := yr (m := (tb2 T).drop q) (n2 := nt - q) (c2 := ct - q) HO10.out.1 HBW.out.size ((HR.out.1.below HBW.out).cut (by have := HQ.out.1; omega)) (by have h1 := HLN.out; have h2 := HO10.out.2.2.1; have h3 := HQ.out.1; omega) 36;obtain ⟨L13, hL13⟩ := sqz (L10 ++ (tb2 T).drop q);rw [← hL13] at hap13 hown13;obtain ⟨A14, c14, hv14, hc14⟩ := xC hown13;(injection hv14 with e1 e2 e3);subst e1 e3;obtain ⟨N13, hN13⟩ := sqz L13.length;rw [← hN13] at hap13 hc14;rw [← HO10.out.2.1] at hap13;have H13 := sq3 hc14 hb13 hL13;clear hc14 hb13 hL13 hown13 hN13 e2
         go_wp2_with (at_builtin; refine zh (by rfl) _ _ 36 (by rfl) (by rfl) (by rfl) hap13 ?_)
         go_roundw
         case rel =>
          have hb := HBW.out.trans H13.out.2.1;have hx := HX.out
          have hif : (if T[q]?.map (·.1) = some X.k then q + 1 else q) = q := by
           rw [← hx.2.2.1];exact if_neg (by rw [HQ.out.2.2]; simp)
          have hlist : tb2 (doL t (l.take (j + 1))) = L13 := by
           (have e : l.take (j + 1) = l.take j ++ [X] := by rw [List.take_add_one, hx.1]; rfl);(have e4 : doL t (l.take (j + 1)) = doC T X := by rw [e, HR.out.2.2.1]; unfold doL; rw [List.foldl_append]; rfl);rw [e4, do_at HR.out.2.2.2 (q := q) (by rw [← hx.2.2.1]; exact HQ.out.2.1) (by rw [← hx.2.2.1]; exact fun p hp => by rw [HQ.out.2.2] at hp; cases hp), H13.out.2.2, HO10.out.2.2.2, hif, ← hx.2.2.1, ← hx.2.2.2.1, ← hx.2.2.2.2.1];simp [tb2, List.map_drop]
          unfold RDo;exact ⟨j + 1, A13, N13, c13, by have := HS.out.2.2.2.1; omega, by simp, rfl, by rw [hlist]; exact H13.out.1.mono fun k _ hk => .inr (Nat.le_trans HR.out.2.1.size hk), HR.out.2.1.trans (hb.mono HR.out.2.1.size)⟩
         case measure => simp only [intOf]; have h1 := HX.out.2.1; omega
      ·go_upto_region 11 with fail
       clear hg9;have HCX : Hid (b2 < w8.drew.heap.size ∧ w8.drew.cell? ⟨b2, o2 + j * 3, none⟩ = some (.string (st XK)) ∧ w8.drew.cell? ⟨b2, o2 + j * 3 + 1, none⟩ = some (.string (st XV))) := Lib.hid ⟨Nat.lt_of_lt_of_le HXC.out.1 (HBW.out).size, (HBW.out.cell (p := ⟨_, _, none⟩) HXC.out.1).trans HXC.out.2.1, (HBW.out.cell (p := ⟨_, _, none⟩) HXC.out.1).trans HXC.out.2.2.1⟩;refine sqg [sqv (.int .i64 (q : Int)), sqv (.slice At nt ct), sqv (.int .i64 (nt : Int)), sqv (.bool false), sqv (.bool false), sqv undef, sqv undef, sqv undef, sqv undef, sqv undef, sqv undef, sqv undef, sqv undef, sqv undef, sqv undef, sqv undef, sqv (.bool false)] 83 ?gmono ?gsteps ?gfin
       case gmono => (iterate 17 refine ⟨sqm, ?_⟩); trivial
       case gsteps =>
        show Grow.allBelow _ 17
        iterate 17 refine And.intro ?_ ?_
        exact trivial
        ·exact squ 7
        ·exact squ 0
        ·refine sqi ?_;intro E W ec eg ef hG hd hu R HR1;have e59 := sqe (hd 1 59);clear hd hu;go_simp;exact sqh HR1
        ·refine sqi ?_;intro E W ec eg ef hG hd hu R HR1;have e58 := sqe (hd 0 58);have e60 := sqe (hd 2 60);clear hd hu;have hqn := HQN.out;(have hqn2 : ¬ q < nt := by omega);have hqn3 := decide_eq_false hqn2;go_simp
         first | exact sqh HR1 | (simp only [hqn2, hqn3, decide_false]; exact sqh HR1) | (rw [hqn3]; exact sqh HR1)
        ·exact sqd 3 61
        ·exact sqx 4 62
        ·exact sqx 4 62
        ·exact sqx 4 62
        ·exact sqx 4 62
        ·exact sqx 4 62
        ·exact sqx 4 62
        ·exact sqx 4 62
        ·exact sqx 4 62
        ·exact sqx 4 62
        ·exact sqx 4 62
        ·exact sqx 4 62
        ·refine sqi ?_;intro E W ec eg ef hG hd hu R HR1;have e62 := sqe (hd 4 62);have e73 := sqe (hd 15 73);clear hd hu;go_simp;exact sqh HR1
       case gfin =>
        intro W hG
        iterate 17 (refine Grow.fin_dst (by rfl) ?_; rintro _ rfl)
        simp only [Act.put, sqp];refine Grow.fin_end ?_;have HB11 := Lib.hid (Grow.below_of_drew hG);clear hG;have HBW := Lib.hid (HBW.out.trans (HB11.out.mono HBW.out.size));have HO := sq2 (yN HO.out.1 HB11.out) HO.out.2;have hsl13 := run_cut3 At nt ct q (by have := HQ.out.1; omega) W;obtain ⟨A13, c13, w13, hap13, hown13, hb13⟩ := yr (m := (tb2 T).drop q) (n2 := nt - q) (c2 := ct - q) HO.out.1 HBW.out.size ((HR.out.1.below HBW.out).cut (by have := HQ.out.1; omega)) (by have h1 := HLN.out; have h2 := HO.out.2.2.1; have h3 := HQ.out.1; omega) 36;obtain ⟨L13, hL13⟩ := sqz (LO ++ (tb2 T).drop q);rw [← hL13] at hap13 hown13;obtain ⟨A14, c14, hv14, hc14⟩ := xC hown13;(injection hv14 with e1 e2 e3);subst e1 e3;obtain ⟨N13, hN13⟩ := sqz L13.length;rw [← hN13] at hap13 hc14;rw [← HO.out.2.1] at hap13;have H13 := sq3 hc14 hb13 hL13;clear hc14 hb13 hL13 hown13 hN13 e2
        go_wp2_with (at_builtin; refine zh (by rfl) _ _ 36 (by rfl) (by rfl) (by rfl) hap13 ?_)
        go_roundw
        case rel =>
         have hb := HBW.out.trans H13.out.2.1;have hx := HX.out
         have hif : (if T[q]?.map (·.1) = some X.k then q + 1 else q) = q := by
          rw [← hx.2.2.1];exact if_neg (by rw [HQ.out.2.2]; simp)
         have hlist : tb2 (doL t (l.take (j + 1))) = L13 := by
          (have e : l.take (j + 1) = l.take j ++ [X] := by rw [List.take_add_one, hx.1]; rfl);(have e4 : doL t (l.take (j + 1)) = doC T X := by rw [e, HR.out.2.2.1]; unfold doL; rw [List.foldl_append]; rfl);rw [e4, do_at HR.out.2.2.2 (q := q) (by rw [← hx.2.2.1]; exact HQ.out.2.1) (by rw [← hx.2.2.1]; exact fun p hp => by rw [HQ.out.2.2] at hp; cases hp), H13.out.2.2, HO.out.2.2.2, hif, ← hx.2.2.1, ← hx.2.2.2.1, ← hx.2.2.2.2.1];simp [tb2, List.map_drop]
         unfold RDo;exact ⟨j + 1, A13, N13, c13, by have := HS.out.2.2.2.1; omega, by simp, rfl, by rw [hlist]; exact H13.out.1.mono fun k _ hk => .inr (Nat.le_trans HR.out.2.1.size hk), HR.out.2.1.trans (hb.mono HR.out.2.1.size)⟩
        case measure => simp only [intOf]; have h1 := HX.out.2.1; omega
  ·(have hlt' : ¬ (j : Int) < (n2 : Int) := by omega);(have hjn : j = l.length := by have := HS.out.2.2.2.1; omega);rw [hjn, List.take_length] at hct;have HB := sq2 hct hbel;clear hct hbel hj
   go_wp2_with fail
   go_ret
   exact ⟨At, nt, ct, rfl, HB.out.1, HB.out.2⟩
end Go.Proofs.YtmioifcbkhpdaaaGreat
