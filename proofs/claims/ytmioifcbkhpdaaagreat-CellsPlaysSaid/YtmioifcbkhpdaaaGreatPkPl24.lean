/-
  Cells: the laws' has.
-/
import Derived.Test.YtmioifcbkhpdaaaGreatPkPl18
import Derived.Test.YtmioifcbkhpdaaaGreatPkPl23
import Derived.Test.YtmioifcbkhpdaaaGreatPkPl01
import Derived.Test.YtmioifcbkhpdaaaGreatPkPl05
import Derived.Test.YtmioifcbkhpdaaaGreatPkPl03
import Derived.Test.YtmioifcbkhpdaaaGreatPkPl14
namespace Go.Proofs.YtmioifcbkhpdaaaGreat
set_option maxHeartbeats 16000000
set_option maxRecDepth 100000
open Go.RowKit Codec
def WrP (w : World) (S T : Nat → Prop) (p g : Nat) (r : DM × SM × Int) (e : Ending) (w' : World) : Prop :=
 e = .returned (.int .i64 r.2.2) ∧ Dk w' S g r.1 ∧ Cs w' (fun k => T k ∨ w.heap.size ≤ k) p g r.2.1 ∧ Turned (fun k => S k ∨ T k) w w'
def otherM (d : DM) (s : SM) : LM := zj (zT d (1 - s.half)) (((1 - s.half) * hn d : Nat) : Int) ((hn d : Nat) : Int) s.log.next
theorem cturn_any {w : World} {S T U : Nat → Prop} {p g : Nat} {d : DM} {s : SM} (h : Cs w T p g s) (hd : Dk w S g d) (hST : ∀ k, k < w.heap.size → S k → ¬ T k) (ok : SOk s) (h1 : 1 ≤ hn d) {A : Option Addr} {n c : Nat} {l : List Ch} (hl : Chs w U A n c l) (hb : wtT s.t + wtC l ≤ 800000) (hk : ∀ x ∈ l, x.k.length ≤ 1000000 ∧ x.v.length ≤ 1000000) :
    Calls Tryz.prog 68 #[.pointer (some ⟨p, 0, none⟩), .slice A n c] w fun e w' => WrP w S T p g (yy d s l) e w' := by
 obtain ⟨q, b, SL, SN, hTp, hrow, hlg, hnm, hSL, hSN⟩ := h;have hc1 : w.cell? ⟨p, 1, none⟩ = some (.int .i64 (s.half : Int)) := zA hrow 1;have hsub : IntKind.i64.wrap (1 - (s.half : Int)) = ((1 - s.half : Nat) : Int) := by rw [IntWalk.i64_in _ (by have := ok.half; omega)]; have := ok.half; omega
 have hoth : 1 - s.half ≤ 1 := by omega
 have hbg := fun W (hb : Below w.heap.size w W) => hbegin_any (hd.below hb) (1 - s.half) hoth s.log.next ok.log.next
 have herr := hn_err h1 (1 - s.half) hoth;obtain ⟨M, hM⟩ := sqz (otherM d s)
 have hok : M.Ok := by
  have h2 : hn d = d.l.length / 2 := rfl;have h3 := hd.few;have h4 : (1 - s.half) * hn d ≤ hn d := by rcases Nat.le_one_iff_eq_zero_or_eq_one.1 hoth with h | h <;> rw [h] <;> omega
  have h5 : (1 - s.half) * hn d + hn d ≤ d.l.length := by omega
  rw [hM];unfold otherM zT;exact beginM_ok (openM_ok (d := d) (by omega) h1 (by omega) h5) rfl rfl ok.log.next
 have hbg' : ∀ W, Below w.heap.size w W → Calls Tryz.prog 28 #[.pointer (some ⟨g, 0, none⟩), .int .i64 ((1 - s.half : Nat) : Int), .int .u64 (s.log.next : Int)] W fun e w' => MadeL W g M (if d.down then 30 else 0) e w' := fun W hb => by
  have h := hbg W hb;unfold hn at herr;rw [herr] at h;rw [hM];exact h
 have hnx : ∀ W, Below w.heap.size w W → Calls Tryz.prog 29 #[.pointer (some ⟨q, 0, none⟩)] W fun e w' => e = .returned (.int .u64 (s.log.next : Int)) ∧ W = w' := fun W hb => wnext_any (hlg.below hb)
 have HBG := Lib.hid hbg';have HNX := Lib.hid hnx;have HT : Hid (yy d s l = if d.down then (d, s, 30) else if (yJ d M (allB (doL s.t l))).2.2 = 0 then ((yJ d M (allB (doL s.t l))).1, { s with half := 1 - s.half, log := (yJ d M (allB (doL s.t l))).2.1, turns := s.turns + 1 }, 0) else ((yJ d M (allB (doL s.t l))).1, s, (yJ d M (allB (doL s.t l))).2.2)) := Lib.hid (by rw [hM]; rfl);have HL := sq7 (hl.mono (T := fun k => k < w.heap.size) fun k hk _ => hk) hb hk hd hST ok hok;have HS := sq6 hTp hrow hlg hnm hSL hSN;obtain ⟨O, hO⟩ := sqz (1 - s.half);rw [← hO] at hsub HBG;have HO := Lib.hid hO;have HP := Lib.hid (zB hrow);clear hTp hrow hlg hnm hSL hSN hl hb hk hd hST ok hok h1 hbg herr hM hbg' hnx hO hoth
 go_enter Tryz.func68, Tryz.ntmps68
 go_upto_region 2 with fail
 have HC : Hid (p < w.drew.heap.size ∧ w.drew.cell? ⟨p, 0, none⟩ = some (.pointer (some ⟨g, 0, none⟩)) ∧ w.drew.cell? ⟨p, 2, none⟩ = some (.pointer (some ⟨q, 0, none⟩))) := Lib.hid ⟨HP.out, zA (w := w.drew) HS.out.2.1 0, zA (w := w.drew) HS.out.2.1 2⟩;clear hc1
 cases hdn : d.down
 ·rw [hdn] at HBG;simp only [Bool.false_eq_true, if_false] at HBG;have HDN := Lib.hid hdn;clear hdn;refine sqg [sqv (.pointer (some ⟨p, 0, none⟩)), sqv (.pointer (some ⟨p, 0, none⟩)), sqv (.pointer (some ⟨p, 0, none⟩)), sqv (.pointer (some ⟨g, 0, none⟩)), sqv (.int .i64 (O : Int)), sqv (.pointer (some ⟨p, 0, none⟩)), sqv (.pointer (some ⟨p, 0, none⟩)), sqv (.pointer (some ⟨p, 2, none⟩)), sqv (.pointer (some ⟨q, 0, none⟩)), sqv (.int .u64 (s.log.next : Int)), fun v W => ∃ m, v = .tuple #[.pointer (some ⟨m, 0, none⟩), .int .i64 0] ∧ Lg W (fun k => w.heap.size ≤ k) m g M, fun v W => ∃ m, v = .tuple #[.pointer (some ⟨m, 0, none⟩), .int .i64 0] ∧ Lg W (fun k => w.heap.size ≤ k) m g M, fun v W => ∃ m, v = .pointer (some ⟨m, 0, none⟩) ∧ Lg W (fun k => w.heap.size ≤ k) m g M, sqv (.int .i64 0), fun v W => ∃ m, v = .pointer (some ⟨m, 0, none⟩) ∧ Lg W (fun k => w.heap.size ≤ k) m g M, sqv (.int .i64 0)] 62 ?gmono ?gsteps ?gfin
  case gmono => exact ⟨sqm, sqm, sqm, sqm, sqm, sqm, sqm, sqm, sqm, sqm, fun _ _ _ ⟨m, h1, h2⟩ hg => ⟨m, h1, h2.below hg⟩, fun _ _ _ ⟨m, h1, h2⟩ hg => ⟨m, h1, h2.below hg⟩, fun _ _ _ ⟨m, h1, h2⟩ hg => ⟨m, h1, h2.below hg⟩, sqm, fun _ _ _ ⟨m, h1, h2⟩ hg => ⟨m, h1, h2.below hg⟩, sqm, trivial⟩
  case gsteps =>
   show Grow.allBelow _ 16
   iterate 16 refine And.intro ?_ ?_
   exact trivial
   ·exact squ 0
   ·refine sqi ?_;intro E W ec eg ef hG hd hu R HR;have e16 := sqe (hd 0 16);clear hd hu;go_simp;exact sqh HR
   ·refine sqi ?_;intro E W ec eg ef hG hd hu R HR;have e17 := sqe (hd 1 17);clear hd hu;go_simp;exact sqh HR
   ·refine sqi ?_;intro E W ec eg ef hG hd hu R HR;have e18 := sqe (hd 2 18);clear hd hu;have hcl := (hG.cell (p := ⟨p, 0, none⟩) HC.out.1).trans HC.out.2.1;go_simp;exact sqh HR
   ·exact squ 5
   ·exact squ 0
   ·refine sqi ?_;intro E W ec eg ef hG hd hu R HR;have e21 := sqe (hd 5 21);clear hd hu;go_simp;exact sqh HR
   ·refine sqi ?_;intro E W ec eg ef hG hd hu R HR;have e22 := sqe (hd 6 22);clear hd hu;go_simp;exact sqh HR
   ·refine sqi ?_;intro E W ec eg ef hG hd hu R HR;have e23 := sqe (hd 7 23);clear hd hu;have hcl := (hG.cell (p := ⟨p, 2, none⟩) HC.out.1).trans HC.out.2.2;go_simp;exact sqh HR
   ·refine sqi ?_;intro E W ec eg ef hG hd hu R HR;have e24 := sqe (hd 8 24);clear hd hu;go_simp;refine (HNX.out W ⟨hG.os, hG.tape, hG.output, hG.size, hG.block⟩).mono ?_;rintro _ w' ⟨rfl, rfl⟩;exact ⟨_, rfl, HR.out _ _ (Below.refl _ _) rfl⟩
   ·refine sqi ?_;intro E W ec eg ef hG hd hu R HR;have e19 := sqe (hd 3 19);have e20 := sqe (hd 4 20);have e25 := sqe (hd 9 25);clear hd hu;go_simp;refine (HBG.out W ⟨hG.os, hG.tape, hG.output, hG.size, hG.block⟩).mono ?_;rintro _ w' hml;obtain ⟨hm1, hm2⟩ := hml;rw [if_pos rfl] at hm1;obtain ⟨m, rfl, hm3⟩ := hm1;exact ⟨_, rfl, HR.out _ _ hm2 ⟨m, rfl, hm3.mono fun k _ hk => by have h1 := hG.size; have h2 : W.heap.size ≤ k := hk; show w.heap.size ≤ k; have h3 : w.drew.heap.size = w.heap.size := rfl; omega⟩⟩
   ·refine sqi ?_;intro E W ec eg ef hG hd hu R HR;have h26 := hd 10 26;clear hd hu;obtain ⟨m, e26, hL⟩ := h26;go_simp;exact HR.out _ _ (Below.refl _ _) ⟨m, rfl, hL⟩
   ·refine sqi ?_;intro E W ec eg ef hG hd hu R HR;have h15 := hd 11 15;clear hd hu;obtain ⟨m, e15, hL⟩ := h15;go_simp;exact HR.out _ _ (Below.refl _ _) ⟨m, rfl, hL⟩
   ·refine sqi ?_;intro E W ec eg ef hG hd hu R HR;have h15 := hd 11 15;clear hd hu;obtain ⟨m, e15, hL⟩ := h15;go_simp;exact sqh HR
   ·refine sqi ?_;intro E W ec eg ef hG hd hu R HR;have h27 := hd 12 27;clear hd hu;obtain ⟨m, e27, hL⟩ := h27;go_simp;exact HR.out _ _ (Below.refl _ _) ⟨m, rfl, hL⟩
   ·refine sqi ?_;intro E W ec eg ef hG hd hu R HR;have e28 : E (.tmp 28) = .int .i64 0 := hd 13 28;clear hd hu;go_simp;exact sqh HR
  case gfin =>
   intro W hG
   iterate 10 (refine Grow.fin_dst (by rfl) ?_; rintro _ rfl)
   refine Grow.fin_dst (by rfl) ?_;rintro _ ⟨ma, rfl, _⟩;refine Grow.fin_dst (by rfl) ?_;rintro _ ⟨mb, rfl, _⟩;refine Grow.fin_dst (by rfl) ?_;rintro _ ⟨mc, rfl, _⟩;refine Grow.fin_dst (by rfl) ?_;rintro _ rfl;refine Grow.fin_dst (by rfl) ?_;rintro _ ⟨m, rfl, hLm⟩;refine Grow.fin_dst (by rfl) ?_;rintro _ rfl;simp only [Act.put, sqp];refine Grow.fin_end ?_;have HW := sq2 (show Below w.heap.size w W from ⟨hG.os, hG.tape, hG.output, hG.size, hG.block⟩) (hLm.mono (T := fun k => w.heap.size ≤ k ∧ k < W.heap.size) fun k hk h => ⟨h, hk⟩);clear hG hLm;(have hc3 : W.cell? ⟨p, 3, none⟩ = some (.map (some b)) := by rw [zA ((HW.out.1.block _ HP.out).trans HS.out.2.1)]; rfl);have hmc := mclone_any (HS.out.2.2.2.1.below HW.out.1)
   go_upto_region 6 with (go_at_call 95; refine hmc.mono ?_; clear hmc; rintro _ wA ⟨rfl, hnA, hbA⟩)
   have hbA' := HW.out.1.trans (hbA.mono HW.out.1.size);have hln := HL.out.1.len;have hwc := wtC_len l;have hwt := wtT_len s.t;have hdo := do_any hnA (HL.out.1.below hbA') (fun k _ h e => by have := HW.out.1.size; omega) ⟨by have := HL.out.2.1; omega, by have := HL.out.2.1; omega⟩ HL.out.2.2.1;have HA := sq4 hbA' HW.out.1.size hbA.size hbA;clear hnA hbA hbA' hc3 hln hwc hwt
   go_upto_region 7 with (go_at_call 37; refine hdo.mono ?_; clear hdo; rintro _ wB ⟨rfl, hnB, htB⟩)
   have hbB : Below w.heap.size w wB := HA.out.1.trans ((htB.mono (T := (w.heap.size ≤ ·)) fun k _ e => by rw [show k = W.heap.size from e]; exact HA.out.2.1).below (by have := HA.out.2.1; have := HA.out.2.2.1; omega));(have hWB : W.heap.size ≤ wB.heap.size := by have := HA.out.2.2.1; have := htB.size; omega);have har := allrec_any hnB (by have := wtT_doL l s.t; have := HL.out.2.1; omega);have HLB := sq3 hbB hWB (HW.out.2.turned ((Turned.of_below (S := fun k => k = W.heap.size) HA.out.2.2.2).trans htB fun _ _ h => h) fun k _ h1 h2 => by omega);have hal := allB_len (doL s.t l) (by have := wtT_doL l s.t; have := HL.out.2.1; omega);have HAL := Lib.hid (show (allB (doL s.t l)).length ≤ 1000000 by have := wtT_doL l s.t; have := HL.out.2.1; omega);obtain ⟨AB, hAB⟩ := sqz (allB (doL s.t l));rw [← hAB] at HAL har HT;clear hnB htB hbB hWB hal hAB
   go_upto_region 8 with (first
    | (go_at_call 96; refine har.mono ?_; clear har; rintro _ wC ⟨A6, m6, c6, rfl, hyC, hbC⟩; have HBC := Lib.hid (HLB.out.1.trans (hbC.mono HLB.out.1.size)); have hadd := wadd_any (HLB.out.2.2.below hbC) ((HL.out.2.2.2.1.mono (T := fun k => S k ∧ k < w.heap.size) fun k hk h => ⟨h, hk⟩).below HBC.out) (fun k _ h1 h2 => by omega) HL.out.2.2.2.2.2.2 hyC (fun k _ h => ⟨fun h1 => by have h' : wB.heap.size ≤ k := h; have := HLB.out.1.size; omega, fun h1 => by have h' : wB.heap.size ≤ k := h; have := HLB.out.2.1; omega⟩) (by have := hyC.len; have := HAL.out; omega); clear hyC hbC)
    | (go_at_call 67; refine hadd.mono ?_; clear hadd; rintro _ wD ⟨rfl, hdD, hlD, htD⟩))
   obtain ⟨d', hd'⟩ := sqz ((yJ d M AB).1);obtain ⟨M', hM'⟩ := sqz ((yJ d M AB).2.1);obtain ⟨E2, hE2⟩ := sqz ((yJ d M AB).2.2);rw [← hd'] at hdD;rw [← hM'] at hlD;rw [← hE2];rw [← hd', ← hM', ← hE2, HDN.out, if_neg (by decide)] at HT;have hcs : Cs w T p g s := ⟨q, b, SL, SN, HS.out⟩
   have hcsD := (((hcs.mono (T := fun k => T k ∧ k < w.heap.size) fun k hk h => ⟨h, hk⟩).below HBC.out).turned htD fun k _ h1 h2 => by
    rcases h2 with h2 | h2
    ·exact HL.out.2.2.2.2.1 k h1.2 h2.1 h1.1
    ·omega)
   have htw : Turned (fun k => S k ∨ T k) w wD := (Turned.of_below (S := fun k => S k ∨ T k) HBC.out).trans htD fun k hk h => by
    rcases h with h | h
    ·exact .inl h.1
    ·omega
   have HD := sq5 (hdD.mono (T := S) fun k _ h => h.1) hcsD htw (hlD.mono (T := fun k => (w.heap.size ≤ k ∧ k < wD.heap.size)) fun k hk h => ⟨by rcases h with h | h; exact h.1; have := HBC.out.size; omega, hk⟩) (HBC.out.size)
   have hrowD := (htD.block p (Nat.lt_of_lt_of_le HP.out HBC.out.size) (fun h => by
    rcases h with h | h
    ·exact HL.out.2.2.2.2.1 p h.2 h.1 HS.out.1
    ·have := HP.out; omega)).trans ((HBC.out.block _ HP.out).trans HS.out.2.1)
   have HRD := Lib.hid hrowD;have htD' := Lib.hid htD;clear hdD hlD htD hcs hcsD htw hd' hM' hE2
   by_cases hz : E2 = 0
   ·subst hz;have hr1 := zA hrowD 1;have hr2 := zA hrowD 2;have hr4 : wD.cell? ⟨p, 4, none⟩ = some (.int .i64 (s.turns : Int)) := zA hrowD 4;have hf1 := zC hrowD 1;have hf2 := zC hrowD 2;have hf4 := zC hrowD 4;have hadd1 := IntWalk.i64_in ((s.turns : Int) + 1) (by have := HL.out.2.2.2.2.2.1.turns; omega);clear hrowD
    go_wp2_with fail
    go_ret
    have hrowD := HRD.out;rw [HT.out, if_pos trivial];have hrE := zG (zG (zG hrowD 1 (.int .i64 (O : Int))) 2 (.pointer (some ⟨m, 0, none⟩))) 4 (.int .i64 ((s.turns : Int) + 1));have hte : Turned (fun k => k = p) wD (((wD.setCell ⟨p, 1, none⟩ (.int .i64 (O : Int))).setCell ⟨p, 2, none⟩ (.pointer (some ⟨m, 0, none⟩))).setCell ⟨p, 4, none⟩ (.int .i64 ((s.turns : Int) + 1))) := ((((Turned.refl (fun k => k = p) wD).set rfl 1 _).set rfl 2 _).set rfl 4 _);have hpw := HP.out
    have hnmD : Nms wD (fun k => SN k ∧ k < w.heap.size) b s.t := ((HS.out.2.2.2.1.mono (T := fun k => SN k ∧ k < w.heap.size) fun k hk h => ⟨h, hk⟩).below HBC.out).turned htD'.out fun k _ h1 h2 => by
     rcases h2 with h2 | h2
     ·exact HL.out.2.2.2.2.1 k h1.2 h2.1 (HS.out.2.2.2.2.2 k h1.2 h1.1).1
     ·omega
    refine ⟨rfl, HD.out.1.turned hte (fun k _ h1 h2 => HL.out.2.2.2.2.1 p hpw (by rw [← show k = p from h2]; exact h1) HS.out.1), ?_, HD.out.2.2.1.trans hte fun k _ h => by rw [show k = p from h]; exact .inr HS.out.1⟩;refine ⟨m, b, fun k => w.heap.size ≤ k ∧ k < wD.heap.size, fun k => SN k ∧ k < w.heap.size, .inl HS.out.1, ?_, HD.out.2.2.2.1.turned hte fun k _ h1 h2 => by (have h2' : k = p := h2); omega, hnmD.turned hte fun k _ h1 h2 => (HS.out.2.2.2.2.2 k h1.2 h1.1).2 h2, fun k _ h => ⟨.inr h.1, by omega, fun h2 => by omega⟩, fun k _ h => ⟨.inl (HS.out.2.2.2.2.2 k h.2 h.1).1, (HS.out.2.2.2.2.2 k h.2 h.1).2⟩⟩;rw [hrE];unfold scV;rw [← HO.out];rfl
   ·(have hz' : (E2 != 0) = true := by simpa using hz);have HZ := Lib.hid hz;clear hz hrowD
    go_wp2_with fail
    go_ret
    rw [HT.out, if_neg HZ.out];exact ⟨rfl, HD.out.1, HD.out.2.1.mono fun k _ h => .inl h.1, HD.out.2.2.1⟩
 ·rw [hdn] at HBG;simp only [if_true] at HBG;have HDN := Lib.hid hdn;clear hdn;refine sqg [sqv (.pointer (some ⟨p, 0, none⟩)), sqv (.pointer (some ⟨p, 0, none⟩)), sqv (.pointer (some ⟨p, 0, none⟩)), sqv (.pointer (some ⟨g, 0, none⟩)), sqv (.int .i64 (O : Int)), sqv (.pointer (some ⟨p, 0, none⟩)), sqv (.pointer (some ⟨p, 0, none⟩)), sqv (.pointer (some ⟨p, 2, none⟩)), sqv (.pointer (some ⟨q, 0, none⟩)), sqv (.int .u64 (s.log.next : Int)), sqv (.tuple #[.pointer none, .int .i64 30]), sqv (.tuple #[.pointer none, .int .i64 30]), sqv (.pointer none), sqv (.int .i64 30), sqv (.pointer none), sqv (.int .i64 30)] 62 ?gmono ?gsteps ?gfin
  case gmono => (iterate 16 refine ⟨sqm, ?_⟩); trivial
  case gsteps =>
   show Grow.allBelow _ 16
   iterate 16 refine And.intro ?_ ?_
   exact trivial
   ·exact squ 0
   ·refine sqi ?_;intro E W ec eg ef hG hd hu R HR;have e16 := sqe (hd 0 16);clear hd hu;go_simp;exact sqh HR
   ·refine sqi ?_;intro E W ec eg ef hG hd hu R HR;have e17 := sqe (hd 1 17);clear hd hu;go_simp;exact sqh HR
   ·refine sqi ?_;intro E W ec eg ef hG hd hu R HR;have e18 := sqe (hd 2 18);clear hd hu;have hcl := (hG.cell (p := ⟨p, 0, none⟩) HC.out.1).trans HC.out.2.1;go_simp;exact sqh HR
   ·exact squ 5
   ·exact squ 0
   ·refine sqi ?_;intro E W ec eg ef hG hd hu R HR;have e21 := sqe (hd 5 21);clear hd hu;go_simp;exact sqh HR
   ·refine sqi ?_;intro E W ec eg ef hG hd hu R HR;have e22 := sqe (hd 6 22);clear hd hu;go_simp;exact sqh HR
   ·refine sqi ?_;intro E W ec eg ef hG hd hu R HR;have e23 := sqe (hd 7 23);clear hd hu;have hcl := (hG.cell (p := ⟨p, 2, none⟩) HC.out.1).trans HC.out.2.2;go_simp;exact sqh HR
   ·refine sqi ?_;intro E W ec eg ef hG hd hu R HR;have e24 := sqe (hd 8 24);clear hd hu;go_simp;refine (HNX.out W ⟨hG.os, hG.tape, hG.output, hG.size, hG.block⟩).mono ?_;rintro _ w' ⟨rfl, rfl⟩;exact ⟨_, rfl, HR.out _ _ (Below.refl _ _) rfl⟩
   ·refine sqi ?_;intro E W ec eg ef hG hd hu R HR;have e19 := sqe (hd 3 19);have e20 := sqe (hd 4 20);have e25 := sqe (hd 9 25);clear hd hu;go_simp;refine (HBG.out W ⟨hG.os, hG.tape, hG.output, hG.size, hG.block⟩).mono ?_;rintro _ w' hml;obtain ⟨hm1, hm2⟩ := hml;rw [if_neg (by decide)] at hm1;subst hm1;exact ⟨_, rfl, HR.out _ _ hm2 rfl⟩
   ·exact sqd 10 26
   ·refine sqi ?_;intro E W ec eg ef hG hd hu R HR;have e15 := sqe (hd 11 15);clear hd hu;go_simp;exact sqh HR
   ·refine sqi ?_;intro E W ec eg ef hG hd hu R HR;have e15 := sqe (hd 11 15);clear hd hu;go_simp;exact sqh HR
   ·exact sqd 12 27
   ·exact sqd 13 28
  case gfin =>
   intro W hG
   iterate 16 (refine Grow.fin_dst (by rfl) ?_; rintro _ rfl)
   simp only [Act.put, sqp];refine Grow.fin_end ?_;have HW := Lib.hid (show Below w.heap.size w W from ⟨hG.os, hG.tape, hG.output, hG.size, hG.block⟩);clear hG
   go_wp2_with fail
   go_ret
   rw [HT.out, HDN.out, if_pos rfl];have hcs : Cs w T p g s := ⟨q, b, SL, SN, HS.out⟩;exact ⟨rfl, HL.out.2.2.2.1.below HW.out, (hcs.below HW.out).mono fun k _ h => .inl h, Turned.of_below HW.out⟩
theorem chsB_few {l : List Ch} (h : wtC l ≤ 800000) : (chsB l).length ≤ 1000000 := by
 have := chsB_len l (by omega);omega
theorem cwrite_any {w : World} {S T U : Nat → Prop} {p g : Nat} {d : DM} {s : SM} (h : Cs w T p g s) (hd : Dk w S g d) (hST : ∀ k, k < w.heap.size → S k → ¬ T k) (ok : SOk s) (h1 : 1 ≤ hn d) {A : Option Addr} {n c : Nat} {l : List Ch} (hl : Chs w U A n c l) (hb : wtT s.t + wtC l ≤ 800000) (hk : ∀ x ∈ l, x.k.length ≤ 1000000 ∧ x.v.length ≤ 1000000) :
    Calls Tryz.prog 36 #[.pointer (some ⟨p, 0, none⟩), .slice A n c] w fun e w' => WrP w S T p g (zJ d s l) e w' := by
 have hrec := chsrec_any hl (by omega);have hln := chsB_few (l := l) (by omega);obtain ⟨B, hB⟩ := sqz (chsB l);have HW : Hid (zJ d s l = if s.log.first ≠ 0 ∧ (zP B.length : Int) ≤ s.log.n - (s.log.have_ : Int) then ((yJ d s.log B).1, { s with log := (yJ d s.log B).2.1 }, (yJ d s.log B).2.2) else yy d s l) := Lib.hid (by rw [hB]; rfl);rw [← hB] at hrec hln;obtain ⟨q, b, SL, SN, hTp, hrow, hlg, hnm, hSL, hSN⟩ := h;have HS := sq6 hTp hrow hlg hnm hSL hSN;have HP := Lib.hid (zB hrow);have HL := sq8 hl hb hk hd hST ok h1 hln;clear hTp hrow hlg hnm hSL hSN hl hb hk hd hST ok h1 hB hln
 go_enter Tryz.func36, Tryz.ntmps36
 go_upto_region 2 with (go_at_call 64; refine hrec.mono ?_; clear hrec; rintro _ w1 ⟨A1, n1, c1, rfl, hy1, hb1⟩)
 obtain rfl : B.length = n1 := hy1.len;have H1 := sq2 (hy1.mono (T := fun k => w.heap.size ≤ k ∧ k < w1.heap.size) fun k hk h => ⟨h, hk⟩) hb1;clear hy1 hb1
 have HC : Hid (p < w1.drew.heap.size ∧ w1.drew.cell? ⟨p, 2, none⟩ = some (.pointer (some ⟨q, 0, none⟩)) ∧
     (∀ W, Below w1.drew.heap.size w1.drew W → Calls Tryz.prog 54 #[.pointer (some ⟨q, 0, none⟩)] W fun e w' => e = .returned (.int .u64 (s.log.first : Int)) ∧ W = w') ∧
     (∀ W, Below w1.drew.heap.size w1.drew W → Calls Tryz.prog 66 #[.pointer (some ⟨q, 0, none⟩)] W fun e w' => e = .returned (.int .i64 (s.log.n - (s.log.have_ : Int))) ∧ w' = W.drew)) :=
  Lib.hid ⟨Nat.lt_of_lt_of_le HP.out H1.out.2.size, zA (w := w1.drew) ((H1.out.2.block _ HP.out).trans HS.out.2.1) 2, fun W hb => yS (((HS.out.2.2.1.below H1.out.2).drew).below hb), fun W hb => wfree_any (((HS.out.2.2.1.below H1.out.2).drew).below hb) HL.out.2.2.2.2.2.1.log⟩
 obtain ⟨N1, hN1⟩ := sqz B.length;have HBK : Hid (∀ W, Calls Tryz.prog 65 #[.int .i64 (N1 : Int)] W fun e w' => e = .returned (.int .i64 (zP N1 : Int)) ∧ W = w') := Lib.hid fun W => wblocks_any N1 (by rw [hN1]; exact HL.out.2.2.2.2.2.2.2) W
 rw [← hN1] at HW ⊢;have HN1 := Lib.hid hN1;clear hN1;have hcs : Hid (Cs w T p g s) := Lib.hid ⟨q, b, SL, SN, HS.out⟩
 have HTN : Hid (∀ W, Below w.heap.size w W → Calls Tryz.prog 68 #[.pointer (some ⟨p, 0, none⟩), .slice A n c] W fun e w' => WrP w S T p g (yy d s l) e w') := Lib.hid fun W hb => by
  have hl := HL.out;refine (cturn_any ((hcs.out.mono (T := fun k => T k ∧ k < w.heap.size) fun k hk h => ⟨h, hk⟩).below hb) ((hl.2.2.2.1.mono (T := fun k => S k ∧ k < w.heap.size) fun k hk h => ⟨h, hk⟩).below hb) (fun k _ h2 h3 => hl.2.2.2.2.1 k h2.2 h2.1 h3.1) hl.2.2.2.2.2.1 hl.2.2.2.2.2.2.1 (hl.1.below hb) hl.2.1 hl.2.2.1).mono ?_;rintro e w' ⟨h2, h3, h4, h5⟩;refine ⟨h2, h3.mono fun k _ h => h.1, h4.mono fun k _ h => ?_, (Turned.of_below (S := fun k => S k ∨ T k) hb).trans h5 fun k _ h => ?_⟩
  ·rcases h with h | h
   ·exact .inl h.1
   ·exact .inr (Nat.le_trans hb.size h)
  ·rcases h with h | h
   ·exact .inl h.1
   ·exact .inr h.1
 by_cases hf : s.log.first = 0
 ·have hf' : ((s.log.first : Int) != 0) = false := by rw [hf]; rfl
  have HNE := Lib.hid hf';have HF := Lib.hid hf;clear hf hf';refine sqg [sqv (.pointer (some ⟨p, 0, none⟩)), sqv (.pointer (some ⟨p, 0, none⟩)), sqv (.pointer (some ⟨p, 2, none⟩)), sqv (.pointer (some ⟨q, 0, none⟩)), sqv (.int .u64 (s.log.first : Int)), sqv (.bool false), sqv (.bool false), sqv undef, sqv undef, sqv undef, sqv undef, sqv undef, sqv undef, sqv undef, sqv undef, sqv undef, sqv (.bool false)] 34 ?gmono ?gsteps ?gfin
  case gmono => (iterate 17 refine ⟨sqm, ?_⟩); trivial
  case gsteps =>
   show Grow.allBelow _ 17
   iterate 17 refine And.intro ?_ ?_
   exact trivial
   ·exact squ 0
   ·refine sqi ?_;intro E W ec eg ef hG hd hu R HR;have e8 := sqe (hd 0 8);clear hd hu;go_simp;exact sqh HR
   ·refine sqi ?_;intro E W ec eg ef hG hd hu R HR;have e9 := sqe (hd 1 9);clear hd hu;go_simp;exact sqh HR
   ·refine sqi ?_;intro E W ec eg ef hG hd hu R HR;have e10 := sqe (hd 2 10);clear hd hu;have hcl := (hG.cell (p := ⟨p, 2, none⟩) HC.out.1).trans HC.out.2.1;go_simp;exact sqh HR
   ·refine sqi ?_;intro E W ec eg ef hG hd hu R HR;have e11 := sqe (hd 3 11);clear hd hu;go_simp;refine (HC.out.2.2.1 W hG).mono ?_;rintro _ w' ⟨rfl, rfl⟩;exact ⟨_, rfl, HR.out _ _ (Below.refl _ _) rfl⟩
   ·refine sqi ?_;intro E W ec eg ef hG hd hu R HR;have e12 := sqe (hd 4 12);clear hd hu;have hq := HNE.out;go_simp;exact sqh HR
   ·exact sqd 5 13
   ·exact sqx 6 14
   ·exact sqx 6 14
   ·exact sqx 6 14
   ·exact sqx 6 14
   ·exact sqx 6 14
   ·exact sqx 6 14
   ·exact sqx 6 14
   ·exact sqx 6 14
   ·exact sqx 6 14
   ·refine sqi ?_;intro E W ec eg ef hG hd hu R HR;have e14 := sqe (hd 6 14);have e23 := sqe (hd 15 23);clear hd hu;go_simp;exact sqh HR
  case gfin =>
   intro W hG
   iterate 17 (refine Grow.fin_dst (by rfl) ?_; rintro _ rfl)
   simp only [Act.put, sqp];refine Grow.fin_end ?_;have HWW := Lib.hid (show Below w1.heap.size w1 W from ⟨hG.os, hG.tape, hG.output, hG.size, hG.block⟩);have htn := HTN.out W (H1.out.2.trans (HWW.out.mono H1.out.2.size));clear hG
   go_wp2_with (go_at_call 68; refine htn.mono ?_; clear htn; rintro _ w7 ⟨rfl, h7⟩; have H7 := Lib.hid h7; clear h7)
   go_ret
   rw [HW.out, if_neg (fun h => h.1 HF.out)];exact ⟨rfl, H7.out⟩
 ·have hf' : ((s.log.first : Int) != 0) = true := by simp; omega
  have HNE := Lib.hid hf';have HF := Lib.hid hf;clear hf hf'
  by_cases hr : (zP N1 : Int) ≤ s.log.n - (s.log.have_ : Int)
  ·(have hr' : decide ((zP N1 : Int) ≤ s.log.n - (s.log.have_ : Int)) = true := by simpa using hr);have HLE := Lib.hid hr';have HR := Lib.hid hr;clear hr hr';refine sqg [sqv (.pointer (some ⟨p, 0, none⟩)), sqv (.pointer (some ⟨p, 0, none⟩)), sqv (.pointer (some ⟨p, 2, none⟩)), sqv (.pointer (some ⟨q, 0, none⟩)), sqv (.int .u64 (s.log.first : Int)), sqv (.bool true), sqv (.bool true), sqv (.slice A1 N1 c1), sqv (.int .i64 (N1 : Int)), sqv (.int .i64 (zP N1 : Int)), sqv (.pointer (some ⟨p, 0, none⟩)), sqv (.pointer (some ⟨p, 0, none⟩)), sqv (.pointer (some ⟨p, 2, none⟩)), sqv (.pointer (some ⟨q, 0, none⟩)), sqv (.int .i64 (s.log.n - (s.log.have_ : Int))), sqv (.bool true), sqv (.bool true)] 34 ?gmono ?gsteps ?gfin
   case gmono => (iterate 17 refine ⟨sqm, ?_⟩); trivial
   case gsteps =>
    show Grow.allBelow _ 17
    iterate 17 refine And.intro ?_ ?_
    exact trivial
    ·exact squ 0
    ·refine sqi ?_;intro E W ec eg ef hG hd hu R HR;have e8 := sqe (hd 0 8);clear hd hu;go_simp;exact sqh HR
    ·refine sqi ?_;intro E W ec eg ef hG hd hu R HR;have e9 := sqe (hd 1 9);clear hd hu;go_simp;exact sqh HR
    ·refine sqi ?_;intro E W ec eg ef hG hd hu R HR;have e10 := sqe (hd 2 10);clear hd hu;have hcl := (hG.cell (p := ⟨p, 2, none⟩) HC.out.1).trans HC.out.2.1;go_simp;exact sqh HR
    ·refine sqi ?_;intro E W ec eg ef hG hd hu R HR;have e11 := sqe (hd 3 11);clear hd hu;go_simp;refine (HC.out.2.2.1 W hG).mono ?_;rintro _ w' ⟨rfl, rfl⟩;exact ⟨_, rfl, HR.out _ _ (Below.refl _ _) rfl⟩
    ·refine sqi ?_;intro E W ec eg ef hG hd hu R HR;have e12 := sqe (hd 4 12);clear hd hu;have hq := HNE.out;go_simp;exact sqh HR
    ·exact sqd 5 13
    ·exact yX 6 14 true 5
    ·refine sqo 6 14 ?_;intro E W ec eg ef hG hd hu R HR;have e15 := sqe (hd 7 15);clear hd hu;go_simp;exact sqh HR
    ·refine sqo 6 14 ?_;intro E W ec eg ef hG hd hu R HR;have e16 := sqe (hd 8 16);clear hd hu;go_simp;refine (HBK.out W).mono ?_;rintro _ w' ⟨rfl, rfl⟩;exact ⟨_, rfl, HR.out _ _ (Below.refl _ _) rfl⟩
    ·exact yX 6 14 true 0
    ·refine sqo 6 14 ?_;intro E W ec eg ef hG hd hu R HR;have e18 := sqe (hd 10 18);clear hd hu;go_simp;exact sqh HR
    ·refine sqo 6 14 ?_;intro E W ec eg ef hG hd hu R HR;have e19 := sqe (hd 11 19);clear hd hu;go_simp;exact sqh HR
    ·refine sqo 6 14 ?_;intro E W ec eg ef hG hd hu R HR;have e20 := sqe (hd 12 20);clear hd hu;have hcl := (hG.cell (p := ⟨p, 2, none⟩) HC.out.1).trans HC.out.2.1;go_simp;exact sqh HR
    ·refine sqo 6 14 ?_;intro E W ec eg ef hG hd hu R HR;have e21 := sqe (hd 13 21);clear hd hu;go_simp;refine (HC.out.2.2.2 W hG).mono ?_;rintro _ w' ⟨rfl, rfl⟩;exact ⟨_, rfl, HR.out _ _ (yG (Below.refl _ _)) rfl⟩
    ·refine sqo 6 14 ?_;intro E W ec eg ef hG hd hu R HR;have e17 := sqe (hd 9 17);have e22 := sqe (hd 14 22);clear hd hu;have hq := HLE.out;go_simp;exact sqh HR
    ·refine sqi ?_;intro E W ec eg ef hG hd hu R HR;have e14 := sqe (hd 6 14);have e23 := sqe (hd 15 23);clear hd hu;go_simp;exact sqh HR
   case gfin =>
    intro W hG
    iterate 17 (refine Grow.fin_dst (by rfl) ?_; rintro _ rfl)
    simp only [Act.put, sqp];refine Grow.fin_end ?_;have HWW := Lib.hid (show Below w1.heap.size w1 W from ⟨hG.os, hG.tape, hG.output, hG.size, hG.block⟩);clear hG;have HBW := Lib.hid (H1.out.2.trans (HWW.out.mono H1.out.2.size));have hc2 : W.cell? ⟨p, 2, none⟩ = some (.pointer (some ⟨q, 0, none⟩)) := zA ((HBW.out.block _ HP.out).trans HS.out.2.1) 2;have hadd := wadd_any ((HS.out.2.2.1.mono (T := fun k => SL k ∧ k < w.heap.size) fun k hk h => ⟨h, hk⟩).below HBW.out) ((HL.out.2.2.2.1.mono (T := fun k => S k ∧ k < w.heap.size) fun k hk h => ⟨h, hk⟩).below HBW.out) (fun k _ h2 h3 => HL.out.2.2.2.2.1 k h2.2 h2.1 (HS.out.2.2.2.2.1 k h3.2 h3.1).1) HL.out.2.2.2.2.2.1.log (H1.out.1.below HWW.out) (fun k _ h => ⟨fun h2 => by omega, fun h2 => by omega⟩) HL.out.2.2.2.2.2.2.2;rw [← HN1.out] at hadd
    go_wp2_with (go_at_call 67; refine hadd.mono ?_; clear hadd; rintro _ wD ⟨rfl, hdD, hlD, htD⟩; have HD := sq3 hdD hlD htD; clear hdD hlD htD)
    go_ret
    rw [HW.out, if_pos ⟨HF.out, HR.out⟩]
    have hpT : ∀ k, k < w.heap.size → T k → ¬ SL k → ¬ ((S k ∧ k < w.heap.size) ∨ (SL k ∧ k < w.heap.size)) := fun k hk h1 h2 h3 => by
     rcases h3 with h3 | h3
     ·exact HL.out.2.2.2.2.1 k hk h3.1 h1
     ·exact h2 h3.1
    refine ⟨rfl, HD.out.1.mono fun k _ h => h.1, ?_, (Turned.of_below (S := fun k => S k ∨ T k) HBW.out).trans HD.out.2.2 fun k _ h => ?_⟩
    ·refine ⟨q, b, fun k => ((SL k ∧ k < w.heap.size) ∨ W.heap.size ≤ k), fun k => SN k ∧ k < w.heap.size, .inl HS.out.1, ?_, HD.out.2.1, ((HS.out.2.2.2.1.mono (T := fun k => SN k ∧ k < w.heap.size) fun k hk h => ⟨h, hk⟩).below HBW.out).turned HD.out.2.2 fun k _ h2 h3 => hpT k h2.2 (HS.out.2.2.2.2.2 k h2.2 h2.1).1 (fun h4 => (HS.out.2.2.2.2.1 k h2.2 h4).2.2 h2.1) h3, fun k _ h => ?_, fun k _ h => ⟨.inl (HS.out.2.2.2.2.2 k h.2 h.1).1, (HS.out.2.2.2.2.2 k h.2 h.1).2⟩⟩
     ·exact (HD.out.2.2.block _ (Nat.lt_of_lt_of_le HP.out HBW.out.size) (hpT p HP.out HS.out.1 fun h4 => (HS.out.2.2.2.2.1 p HP.out h4).2.1 rfl)).trans ((HBW.out.block _ HP.out).trans HS.out.2.1)
     ·have hpw := HP.out;have hws := HBW.out.size;rcases h with h | h
      ·have h5 := HS.out.2.2.2.2.1 k h.2 h.1;exact ⟨.inl h5.1, h5.2.1, fun h6 => h5.2.2 h6.1⟩
      ·exact ⟨.inr (by omega), by omega, fun h6 => by omega⟩
    ·rcases h with h | h
     ·exact .inl h.1
     ·exact .inr (HS.out.2.2.2.2.1 k h.2 h.1).1
  ·(have hr' : decide ((zP N1 : Int) ≤ s.log.n - (s.log.have_ : Int)) = false := by simpa using hr);have HLE := Lib.hid hr';have HR := Lib.hid hr;clear hr hr';refine sqg [sqv (.pointer (some ⟨p, 0, none⟩)), sqv (.pointer (some ⟨p, 0, none⟩)), sqv (.pointer (some ⟨p, 2, none⟩)), sqv (.pointer (some ⟨q, 0, none⟩)), sqv (.int .u64 (s.log.first : Int)), sqv (.bool true), sqv (.bool true), sqv (.slice A1 N1 c1), sqv (.int .i64 (N1 : Int)), sqv (.int .i64 (zP N1 : Int)), sqv (.pointer (some ⟨p, 0, none⟩)), sqv (.pointer (some ⟨p, 0, none⟩)), sqv (.pointer (some ⟨p, 2, none⟩)), sqv (.pointer (some ⟨q, 0, none⟩)), sqv (.int .i64 (s.log.n - (s.log.have_ : Int))), sqv (.bool false), sqv (.bool false)] 34 ?gmono ?gsteps ?gfin
   case gmono => (iterate 17 refine ⟨sqm, ?_⟩); trivial
   case gsteps =>
    show Grow.allBelow _ 17
    iterate 17 refine And.intro ?_ ?_
    exact trivial
    ·exact squ 0
    ·refine sqi ?_;intro E W ec eg ef hG hd hu R HR;have e8 := sqe (hd 0 8);clear hd hu;go_simp;exact sqh HR
    ·refine sqi ?_;intro E W ec eg ef hG hd hu R HR;have e9 := sqe (hd 1 9);clear hd hu;go_simp;exact sqh HR
    ·refine sqi ?_;intro E W ec eg ef hG hd hu R HR;have e10 := sqe (hd 2 10);clear hd hu;have hcl := (hG.cell (p := ⟨p, 2, none⟩) HC.out.1).trans HC.out.2.1;go_simp;exact sqh HR
    ·refine sqi ?_;intro E W ec eg ef hG hd hu R HR;have e11 := sqe (hd 3 11);clear hd hu;go_simp;refine (HC.out.2.2.1 W hG).mono ?_;rintro _ w' ⟨rfl, rfl⟩;exact ⟨_, rfl, HR.out _ _ (Below.refl _ _) rfl⟩
    ·refine sqi ?_;intro E W ec eg ef hG hd hu R HR;have e12 := sqe (hd 4 12);clear hd hu;have hq := HNE.out;go_simp;exact sqh HR
    ·exact sqd 5 13
    ·exact yX 6 14 true 5
    ·refine sqo 6 14 ?_;intro E W ec eg ef hG hd hu R HR;have e15 := sqe (hd 7 15);clear hd hu;go_simp;exact sqh HR
    ·refine sqo 6 14 ?_;intro E W ec eg ef hG hd hu R HR;have e16 := sqe (hd 8 16);clear hd hu;go_simp;refine (HBK.out W).mono ?_;rintro _ w' ⟨rfl, rfl⟩;exact ⟨_, rfl, HR.out _ _ (Below.refl _ _) rfl⟩
    ·exact yX 6 14 true 0
    ·refine sqo 6 14 ?_;intro E W ec eg ef hG hd hu R HR;have e18 := sqe (hd 10 18);clear hd hu;go_simp;exact sqh HR
    ·refine sqo 6 14 ?_;intro E W ec eg ef hG hd hu R HR;have e19 := sqe (hd 11 19);clear hd hu;go_simp;exact sqh HR
    ·refine sqo 6 14 ?_;intro E W ec eg ef hG hd hu R HR;have e20 := sqe (hd 12 20);clear hd hu;have hcl := (hG.cell (p := ⟨p, 2, none⟩) HC.out.1).trans HC.out.2.1;go_simp;exact sqh HR
    ·refine sqo 6 14 ?_;intro E W ec eg ef hG hd hu R HR;have e21 := sqe (hd 13 21);clear hd hu;go_simp;refine (HC.out.2.2.2 W hG).mono ?_;rintro _ w' ⟨rfl, rfl⟩;exact ⟨_, rfl, HR.out _ _ (yG (Below.refl _ _)) rfl⟩
    ·refine sqo 6 14 ?_;intro E W ec eg ef hG hd hu R HR;have e17 := sqe (hd 9 17);have e22 := sqe (hd 14 22);clear hd hu;have hq := HLE.out;go_simp;exact sqh HR
    ·refine sqi ?_;intro E W ec eg ef hG hd hu R HR;have e14 := sqe (hd 6 14);have e23 := sqe (hd 15 23);clear hd hu;go_simp;exact sqh HR
   case gfin =>
    intro W hG
    iterate 17 (refine Grow.fin_dst (by rfl) ?_; rintro _ rfl)
    simp only [Act.put, sqp];refine Grow.fin_end ?_;have HWW := Lib.hid (show Below w1.heap.size w1 W from ⟨hG.os, hG.tape, hG.output, hG.size, hG.block⟩);have htn := HTN.out W (H1.out.2.trans (HWW.out.mono H1.out.2.size));clear hG
    go_wp2_with (go_at_call 68; refine htn.mono ?_; clear htn; rintro _ w7 ⟨rfl, h7⟩; have H7 := Lib.hid h7; clear h7)
    go_ret
    rw [HW.out, if_neg (fun h => by have h1 := h.2; have h2 := HR.out; omega)];exact ⟨rfl, H7.out⟩
theorem turnC_t (d : DM) (s : SM) (l : List Ch) : (yy d s l).2.1.t = s.t ∧ (yy d s l).2.1.e = s.e := by
 unfold yy
 split
 ·exact ⟨rfl, rfl⟩
 ·split <;> exact ⟨rfl, rfl⟩
theorem writeC_t (d : DM) (s : SM) (l : List Ch) : (zJ d s l).2.1.t = s.t ∧ (zJ d s l).2.1.e = s.e := by
 unfold zJ
 split
 ·exact ⟨rfl, rfl⟩
 ·exact turnC_t d s l
theorem capply_any {w : World} {S T U : Nat → Prop} {p g : Nat} {d : DM} {s : SM} (h : Cs w T p g s) (hd : Dk w S g d) (hST : ∀ k, k < w.heap.size → S k → ¬ T k) (ok : SOk s) (h1 : 1 ≤ hn d) {A : Option Addr} {n c : Nat} {l : List Ch} (hl : Chs w U A n c l) (hU : ∀ k, k < w.heap.size → U k → ¬ S k ∧ ¬ T k) (hb : wtT s.t + wtC l ≤ 800000) :
    Calls Tryz.prog 10 #[.pointer (some ⟨p, 0, none⟩), .slice A n c] w fun e w' => WrP w S T p g (zg d s l) e w' := by
 have hnl := hl.len;have hwc := wtC_len l;have hrf := crefuse_any h hl (by omega);have hk : ∀ x ∈ l, x.k.length ≤ 1000000 ∧ x.v.length ≤ 1000000 := fun x hx => by have := wtC_mem hx; omega
 obtain ⟨E, hE⟩ := sqz (yu s l);rw [← hE] at hrf;have HA : Hid (zg d s l = if E ≠ 0 ∨ l = [] then (d, s, E) else if (zJ d s l).2.2 = 0 then ((zJ d s l).1, { (zJ d s l).2.1 with t := doL s.t l }, 0) else ((zJ d s l).1, (if (zJ d s l).2.2 = 31 then (zJ d s l).2.1 else { (zJ d s l).2.1 with e := (zJ d s l).2.2 }), (zJ d s l).2.2)) := Lib.hid (by rw [hE]; rfl);have HL := sq7 h hd hl hU hb hk hST
 have hwr : ∀ W, Below w.heap.size w W → Calls Tryz.prog 36 #[.pointer (some ⟨p, 0, none⟩), .slice A n c] W fun e w' => e = .returned (.int .i64 (zJ d s l).2.2) ∧ Dk w' (fun k => S k ∧ k < w.heap.size) g (zJ d s l).1 ∧ Cs w' (fun k => T k ∨ w.heap.size ≤ k) p g (zJ d s l).2.1 ∧ Turned (fun k => S k ∨ T k) w w' := fun W hb2 => by
  refine (cwrite_any ((h.mono (T := fun k => T k ∧ k < w.heap.size) fun k hk h => ⟨h, hk⟩).below hb2) ((hd.mono (T := fun k => S k ∧ k < w.heap.size) fun k hk h => ⟨h, hk⟩).below hb2) (fun k _ h2 h3 => hST k h2.2 h2.1 h3.1) ok h1 (hl.below hb2) hb hk).mono ?_;rintro e w' ⟨h2, h3, h4, h5⟩;refine ⟨h2, h3, h4.mono fun k _ h => ?_, (Turned.of_below (S := fun k => S k ∨ T k) hb2).trans h5 fun k _ h => ?_⟩
  ·rcases h with h | h
   ·exact .inl h.1
   ·exact .inr (Nat.le_trans hb2.size h)
  ·rcases h with h | h
   ·exact .inl h.1
   ·exact .inr h.1
 have HWR := Lib.hid hwr;have HN := sq2 hnl hwc;clear h hd hST ok h1 hl hU hb hk hE hwr hwc hnl
 by_cases h0 : E = 0
 ·subst h0;rcases Nat.eq_zero_or_pos n with hn0 | hn0
  ·subst hn0;have hln : l = [] := List.eq_nil_of_length_eq_zero HN.out.1
   go_enter Tryz.func10, Tryz.ntmps10
   go_wp2_with (go_at_call 35; refine hrf.mono ?_; clear hrf; rintro _ w1 ⟨rfl, hb1⟩; have H1 := Lib.hid hb1; clear hb1)
   go_ret
   rw [HA.out, if_pos (.inr hln)];exact ⟨rfl, HL.out.2.1.below H1.out, (HL.out.1.below H1.out).mono fun k _ h => .inl h, Turned.of_below H1.out⟩
  ·have hne : ((n : Int) == 0) = false := by simp; omega
   have HNE := Lib.hid (show ¬ ((0 : Int) ≠ 0 ∨ l = []) by
    rintro (h | h)
    ·exact h rfl
    ·have := HN.out.1; rw [h] at this; simp at this; omega)
   obtain ⟨E2, hE2⟩ := sqz ((zJ d s l).2.2);obtain ⟨d2, hd2⟩ := sqz ((zJ d s l).1);obtain ⟨s2, hs2⟩ := sqz ((zJ d s l).2.1);have HS2 : Hid (s2.t = s.t ∧ s2.e = s.e) := Lib.hid (by rw [hs2]; exact writeC_t d s l);have HWR2 : Hid (∀ W, Below w.heap.size w W → Calls Tryz.prog 36 #[.pointer (some ⟨p, 0, none⟩), .slice A n c] W fun e w' => e = .returned (.int .i64 E2) ∧ Dk w' (fun k => S k ∧ k < w.heap.size) g d2 ∧ Cs w' (fun k => T k ∨ w.heap.size ≤ k) p g s2 ∧ Turned (fun k => S k ∨ T k) w w') := Lib.hid (fun W hb => by rw [hE2, hd2, hs2]; exact HWR.out W hb);rw [← hE2, ← hd2, ← hs2] at HA;clear hE2 hd2 hs2 hn0 HWR
   go_enter Tryz.func10, Tryz.ntmps10
   go_upto_region 4 with (go_at_call 35; refine hrf.mono ?_; clear hrf; rintro _ w1 ⟨rfl, hb1⟩)
   have hwr := HWR2.out w1 hb1;clear hb1
   go_upto_region 5 with (go_at_call 36; refine hwr.mono ?_; clear hwr; rintro _ w2 ⟨rfl, hdk2, hcs2, ht2⟩)
   have H2 := sq3 hdk2 hcs2 ht2;clear hdk2 ht2;obtain ⟨q, b, SL, SN, hTp, hrow, hlg, hnm, hSL, hSN⟩ := hcs2;have HC := sq6 hTp hrow hlg hnm hSL hSN
   by_cases hz : E2 = 0
   ·subst hz;have hc3 : w2.cell? ⟨p, 3, none⟩ = some (.map (some b)) := zA hrow 3;rw [HS2.out.1] at hnm
    have hdo := do_any hnm ((HL.out.2.2.1.mono (T := fun k => U k ∧ k < w.heap.size) fun k hk h => ⟨h, hk⟩).turned H2.out.2.2 fun k _ h1 h2 => by
        rcases h2 with h2 | h2
        ·exact (HL.out.2.2.2.1 k h1.2 h1.1).1 h2
        ·exact (HL.out.2.2.2.1 k h1.2 h1.1).2 h2) (fun k _ h1 e => by
        have hsb := (hSN b hnm.lt hnm.1).1;rcases hsb with hsb | hsb
        ·exact (HL.out.2.2.2.1 k h1.2 h1.1).2 (by rw [e]; exact hsb)
        ·have := h1.2; omega) ⟨by have h1 := wtT_len s.t; have h2 := HN.out; have h3 := HL.out.2.2.2.2.1; omega, by have h2 := HN.out; have h3 := HL.out.2.2.2.2.1; omega⟩ HL.out.2.2.2.2.2.1
    clear hTp hrow hlg hnm hSL hSN
    go_wp2_with (go_at_call 37; refine hdo.mono ?_; clear hdo; rintro _ w3 ⟨rfl, hn3, ht3⟩; have H3 := sq2 hn3 ht3; clear hn3 ht3)
    go_ret
    rw [HA.out, if_neg HNE.out, if_pos trivial];have hnm := HC.out.2.2.2.1;have hsb := HC.out.2.2.2.2.2 b hnm.lt hnm.1
    have hbd : b < w.heap.size → ¬ S b := fun hlt hs => by
     rcases hsb.1 with h | h
     ·exact HL.out.2.2.2.2.2.2 b hlt hs h
     ·omega
    have h2s := H2.out.2.2.size;have h3s := H3.out.2.size;refine ⟨rfl, ((H2.out.1.turned H3.out.2 fun k _ h1 h2 => hbd (by rw [← show k = b from h2]; exact h1.2) (by rw [← show k = b from h2]; exact h1.1)).mono fun k _ h => h.1), ?_, H2.out.2.2.trans H3.out.2 fun k hk h2 => ?_⟩
    ·refine ⟨q, b, fun k => SL k ∧ k < w2.heap.size, fun k => (SN k ∧ k < w2.heap.size) ∨ (w2.heap.size ≤ k ∧ k < w3.heap.size), HC.out.1, (H3.out.2.block p (zB HC.out.2.1) fun e => hsb.2 (show p = b from e).symm).trans HC.out.2.1, (HC.out.2.2.1.mono (T := fun k => SL k ∧ k < w2.heap.size) fun k hk h => ⟨h, hk⟩).turned H3.out.2 fun k _ h1 e => (HC.out.2.2.2.2.1 k h1.2 h1.1).2.2 (by rw [show k = b from e]; exact hnm.1), H3.out.1.mono fun k hk h => ?_, fun k _ h => ?_, fun k _ h => ?_⟩
     ·rcases h with h | h
      ·by_cases hk2 : k < w2.heap.size
       ·exact .inl ⟨h, hk2⟩
       ·exact .inr ⟨by omega, hk⟩
      ·exact .inr h
     ·have h5 := HC.out.2.2.2.2.1 k h.2 h.1
      exact ⟨h5.1, h5.2.1, fun h6 => by
       rcases h6 with h6 | h6
       ·exact h5.2.2 h6.1
       ·omega⟩
     ·rcases h with h | h
      ·exact HC.out.2.2.2.2.2 k h.2 h.1
      ·exact ⟨.inr (by omega), by have := zB HC.out.2.1; omega⟩
    ·rw [show k = b from h2] at hk ⊢;rcases hsb.1 with h | h
     ·exact .inr h
     ·omega
   ·(have hz' : (E2 != 0) = true := by simpa using hz);have HZ := Lib.hid hz;clear hz hTp hlg hnm hSL hSN
    by_cases h31 : E2 = 31
    ·subst h31;clear hz' hrow
     go_wp2_with fail
     go_ret
     rw [HA.out, if_neg HNE.out, if_neg (by decide), if_pos trivial];exact ⟨rfl, H2.out.1.mono fun k _ h => h.1, H2.out.2.1, H2.out.2.2⟩
    ·(have h31' : (E2 != 31) = true := by simpa using h31);have H31 := Lib.hid h31;have hc5 := zA hrow 5;have hf5 := zC hrow 5;clear h31 hrow
     go_wp2_with fail
     go_ret
     rw [HA.out, if_neg HNE.out, if_neg HZ.out, if_neg H31.out];have hte : Turned (fun k => k = p) w2 (w2.setCell ⟨p, 5, none⟩ (.int .i64 E2)) := (Turned.refl (fun k => k = p) w2).set rfl 5 _
     have hpS : ∀ k, S k ∧ k < w.heap.size → k ≠ p := fun k h e => by
      rcases HC.out.1 with h2 | h2
      ·exact HL.out.2.2.2.2.2.2 k h.2 h.1 (by rw [e]; exact h2)
      ·omega
     refine ⟨rfl, (H2.out.1.turned hte fun k _ h1 h2 => hpS k h1 h2).mono fun k _ h => h.1, ?_, H2.out.2.2.trans hte fun k hk h2 => ?_⟩
     ·exact ⟨q, b, SL, SN, HC.out.1, zG HC.out.2.1 5 _, HC.out.2.2.1.turned hte fun k hk h1 e => (HC.out.2.2.2.2.1 k hk h1).2.1 e, HC.out.2.2.2.1.turned hte fun k hk h1 e => (HC.out.2.2.2.2.2 k hk h1).2 e, fun k hk h => HC.out.2.2.2.2.1 k (by simpa [World.setCell] using hk) h, fun k hk h => HC.out.2.2.2.2.2 k (by simpa [World.setCell] using hk) h⟩
     ·rw [show k = p from h2] at hk ⊢;rcases HC.out.1 with h | h
      ·exact .inr h
      ·omega
 ·have he' : (E != 0) = true := by simpa using h0
  have HE := Lib.hid h0;clear h0
  go_enter Tryz.func10, Tryz.ntmps10
  go_wp2_with (go_at_call 35; refine hrf.mono ?_; clear hrf; rintro _ w1 ⟨rfl, hb1⟩; have H1 := Lib.hid hb1; clear hb1)
  go_ret
  rw [HA.out, if_pos (.inl HE.out)];exact ⟨rfl, HL.out.2.1.below H1.out, (HL.out.1.below H1.out).mono fun k _ h => .inl h, Turned.of_below H1.out⟩
def tabOf (l : List Ch) : Tb := l.map fun x => (x.k, x.v)
def RHas (w : World) (t : Tb) (l : List Ch) (i : Value) (wr : World) : Prop :=
 ∃ j : Nat, j ≤ l.length ∧ i = .int .i64 (j : Int) ∧ t.take j = (tabOf l).take j ∧ Below w.heap.size w wr
theorem tab_next {t : Tb} {l : List Ch} {j : Nat} {P : List UInt8 × List UInt8} {x : Ch} (h : t.take j = (tabOf l).take j) (h1 : t[j]? = some P) (h2 : l[j]? = some x) (e1 : P.1 = x.k) (e2 : P.2 = x.v) : t.take (j + 1) = (tabOf l).take (j + 1) := by
 have h3 : (tabOf l)[j]? = some (x.k, x.v) := by unfold tabOf; rw [List.getElem?_map, h2]; rfl
 rw [List.take_add_one, List.take_add_one, h, h1, h3, ← e1, ← e2]
theorem tab_unlike {t : Tb} {l : List Ch} {j : Nat} {P : List UInt8 × List UInt8} {x : Ch} (h1 : t[j]? = some P) (h2 : l[j]? = some x) (e : P.1 ≠ x.k ∨ P.2 ≠ x.v) : decide (t = tabOf l) = false := by
 refine decide_eq_false fun h => ?_
 have h3 : (tabOf l)[j]? = some (x.k, x.v) := by unfold tabOf; rw [List.getElem?_map, h2]; rfl
 rw [← h, h1] at h3;injection h3 with h3
 rw [h3] at e;rcases e with e | e <;> exact e rfl
theorem has_any {w : World} {S U : Nat → Prop} {p g : Nat} {s : SM} {A : Option Addr} {n c : Nat} {l : List Ch} (h : Cs w S p g s) (ht : Cms w U A n c l) (hn : n ≤ 1000000) (hf : s.t.length ≤ 100000000) (hk : ∀ x ∈ l, x.k.length ≤ 1000000) (hv : ∀ q ∈ s.t, q.2.length ≤ 1000000) :
    Calls Tryz.prog 20 #[.pointer (some ⟨p, 0, none⟩), .slice A n c] w fun e w' => e = .returned (.bool (decide (s.t = tabOf l))) ∧ Below w.heap.size w w' := by
 have hks := ckeys_any h hf;have hsrt := h.srt;have HS := sq7 h ht ht.len hn hk hv hsrt;clear h ht hn hf hk hv hsrt
 by_cases hnn : s.t.length = n
 ·have HNN := Lib.hid hnn
  go_enter Tryz.func20, Tryz.ntmps20
  go_upto_region 2 with (go_at_call 24; refine hks.mono ?_; clear hks; rintro _ w1 ⟨A1, n1, c1, rfl, hs1, hb1⟩)
  obtain rfl : n1 = n := by rw [← hs1.len, ← hnn]; simp
  have H1 := sq2 hs1 hb1;clear hs1 hb1 hnn
  go_wp2_with fail
  go_loopw [6] (fun i wr => RHas w1 s.t l i wr) (fun i _ => n1 - (intOf i).toNat)
  case atStart => exact ⟨0, Nat.zero_le _, rfl, rfl, Below.refl _ _⟩
  case round =>
   obtain ⟨j, hj, rfl, htk, hbr⟩ := hrel
   by_cases hlt : j < n1
   ·(have hlt' : (j : Int) < (n1 : Int) := by omega);have hadd := IntWalk.i64_in ((j : Int) + 1) (by have h1 := HS.out.2.2.2.1; omega);have hbw : Below w.heap.size w wr := H1.out.2.trans (hbr.mono H1.out.2.size);obtain ⟨b, off, x, rfl, _, hb, hx, hc0, hc1, hc2⟩ := (HS.out.2.1.below hbw).at_ hlt;obtain ⟨q1, o1, rfl, _, hq1, hst⟩ := (H1.out.1.below hbr).row (by omega);have hsc := hst j hlt;(obtain ⟨P, hP⟩ : ∃ P, s.t[j]? = some P := ⟨_, List.getElem?_eq_getElem (by have := HNN.out; omega)⟩);(have hkj : ((s.t.map (·.1))[j]?.getD []) = P.1 := by rw [List.getElem?_map, hP]; rfl);rw [hkj] at hsc
    have hget := cget_any (HS.out.1.below hbw) x.k (HS.out.2.2.2.2.1 x (List.mem_of_getElem? hx)) (by
     cases hq : xE s.t x.k with
     | none => simp
     | some v => exact HS.out.2.2.2.2.2.1 _ (getT_some hq))
    obtain ⟨R, hR⟩ := sqz (xE s.t x.k);rw [← hR] at hget;have HX := sq5 hx hP hR hlt hj;have HR := sq3 hbr hbw htk;have HK := sq5 hq1 hsc hb hc0 hc1;clear hbr hbw htk hb hx hc1 hc2 hq1 hst hsc hP hkj hR hj hlt
    go_upto_region 8 with (go_at_call 23; refine hget.mono ?_; clear hget; rintro _ w3 ⟨A3, n3, c3, rfl, hy3, hb3⟩)
    (have hxv : ∀ W, Below w3.drew.heap.size w3.drew W → Below wr.heap.size wr W := fun W hW => hb3.trans ((Grow.below_of_drew hW).mono hb3.size));obtain ⟨Y, hY⟩ := sqz (R.getD []);rw [← hY] at hy3;obtain ⟨XK, hXK⟩ := sqz x.k;obtain ⟨XV, hXV⟩ := sqz x.v;obtain ⟨KJ, hKJ⟩ := sqz P.1
    have HC : Hid (∀ W, Below w3.drew.heap.size w3.drew W → W.cell? ⟨q1, o1 + j, none⟩ = some (.string (st KJ)) ∧ W.cell? ⟨b, off + j * 3, none⟩ = some (.string (st XK)) ∧ W.cell? ⟨b, off + j * 3 + 1, none⟩ = some (.string (st XV)) ∧ (convert 54 9 (.slice A3 n3 c3)).run Tryz.prog W = .ok (.string (st Y)) W) := Lib.hid fun W hW => by
     have hW2 := hxv W hW;rw [hKJ, hXK, hXV];exact ⟨(hW2.cell (p := ⟨_, _, none⟩) HK.out.1).trans HK.out.2.1, (hW2.cell (p := ⟨_, _, none⟩) HK.out.2.2.1).trans HK.out.2.2.2.1, (hW2.cell (p := ⟨_, _, none⟩) HK.out.2.2.1).trans HK.out.2.2.2.2, yM (hy3.below (Grow.below_of_drew hW))⟩
    have HV := sq5 hXK hXV hKJ hY hxv;clear hXK hXV hKJ hY hxv hy3 hb3 hc0;have hbq := st_beq KJ XK
    by_cases he : KJ = XK
    ·rw [decide_eq_true he] at hbq
     have hRs : R = some P.2 := by
      rw [HX.out.2.2.1, ← HV.out.1, ← he, HV.out.2.2.1];exact getT_mem HS.out.2.2.2.2.2.2 (List.mem_of_getElem? HX.out.2.1)
     have HEQ := sq2 he hRs;(have hsm : R.isSome = true := by rw [hRs]; rfl);rw [hsm];clear he hRs hsm;have hbv := st_beq Y XV
     by_cases hev : Y = XV
     ·rw [decide_eq_true hev] at hbv;have HEV := Lib.hid hev;clear hev;refine sqg [sqv (.slice (some ⟨q1, o1, none⟩) n1 c1), sqv (.int .i64 (j : Int)), sqv (.pointer (some ⟨q1, o1 + j, none⟩)), sqv (.string (st KJ)), sqv (.slice (some ⟨b, off, none⟩) n1 c), sqv (.int .i64 (j : Int)), sqv (.pointer (some ⟨b, off + j * 3, none⟩)), sqv (.pointer (some ⟨b, off + j * 3, none⟩)), sqv (.string (st XK)), sqv (.bool false), sqv (.bool false), sqv (.bool true), sqv (.bool false), sqv (.bool false), sqv (.bool false), sqv (.slice A3 n3 c3), sqv (.string (st Y)), sqv (.slice (some ⟨b, off, none⟩) n1 c), sqv (.int .i64 (j : Int)), sqv (.pointer (some ⟨b, off + j * 3, none⟩)), sqv (.pointer (some ⟨b, off + j * 3 + 1, none⟩)), sqv (.string (st XV)), sqv (.bool false), sqv (.bool false)] 56 ?gmono ?gsteps ?gfin
      case gmono => (iterate 24 refine ⟨sqm, ?_⟩); trivial
      case gsteps =>
       show Grow.allBelow _ 24
       iterate 24 refine And.intro ?_ ?_
       exact trivial
       ·exact squ 5
       ·exact squ 6
       ·refine sqi ?_;intro E W ec eg ef hG hd hu R HR1;have e32 := sqe (hd 0 32);have e33 := sqe (hd 1 33);clear hd hu;have hjl := HX.out.2.2.2.1;go_simp
        first | exact sqh HR1 | (rw [if_pos ⟨by omega, by omega⟩]; exact sqh HR1)
       ·refine sqi ?_;intro E W ec eg ef hG hd hu R HR1;have e34 := sqe (hd 2 34);clear hd hu;obtain ⟨k1, k2, k3, k4⟩ := HC.out W hG;go_simp;exact sqh HR1
       ·exact squ 1
       ·exact squ 6
       ·refine sqi ?_;intro E W ec eg ef hG hd hu R HR1;have e36 := sqe (hd 4 36);have e37 := sqe (hd 5 37);clear hd hu;have hjl := HX.out.2.2.2.1;go_simp
        first | exact sqh HR1 | (rw [if_pos ⟨by omega, by omega⟩]; exact sqh HR1)
       ·refine sqi ?_;intro E W ec eg ef hG hd hu R HR1;have e38 := sqe (hd 6 38);clear hd hu;go_simp;exact sqh HR1
       ·refine sqi ?_;intro E W ec eg ef hG hd hu R HR1;have e39 := sqe (hd 7 39);clear hd hu;obtain ⟨k1, k2, k3, k4⟩ := HC.out W hG;go_simp;exact sqh HR1
       ·refine sqi ?_;intro E W ec eg ef hG hd hu R HR1;have e35 := sqe (hd 3 35);have e40 := sqe (hd 8 40);clear hd hu;go_simp;exact sqh HR1
       ·exact sqd 9 41
       ·exact yX 10 42 false 8
       ·refine sqn 10 42 ?_;intro E W ec eg ef hG hd hu R HR1;have e43 := sqe (hd 11 43);clear hd hu;go_simp;exact sqh HR1
       ·refine sqi ?_;intro E W ec eg ef hG hd hu R HR1;have e42 := sqe (hd 10 42);have e44 := sqe (hd 12 44);clear hd hu;go_simp;exact sqh HR1
       ·exact sqd 13 45
       ·exact yX 14 46 false 7
       ·refine sqn 14 46 ?_;intro E W ec eg ef hG hd hu R HR1;have e47 := sqe (hd 15 47);clear hd hu;obtain ⟨k1, k2, k3, k4⟩ := HC.out W hG;go_simp;exact sqh HR1
       ·exact yX 14 46 false 1
       ·exact yX 14 46 false 6
       ·refine sqn 14 46 ?_;intro E W ec eg ef hG hd hu R HR1;have e49 := sqe (hd 17 49);have e50 := sqe (hd 18 50);clear hd hu;have hjl := HX.out.2.2.2.1;go_simp
        first | exact sqh HR1 | (rw [if_pos ⟨by omega, by omega⟩]; exact sqh HR1)
       ·refine sqn 14 46 ?_;intro E W ec eg ef hG hd hu R HR1;have e51 := sqe (hd 19 51);clear hd hu;go_simp;exact sqh HR1
       ·refine sqn 14 46 ?_;intro E W ec eg ef hG hd hu R HR1;have e52 := sqe (hd 20 52);clear hd hu;obtain ⟨k1, k2, k3, k4⟩ := HC.out W hG;go_simp;exact sqh HR1
       ·refine sqn 14 46 ?_;intro E W ec eg ef hG hd hu R HR1;have e48 := sqe (hd 16 48);have e53 := sqe (hd 21 53);clear hd hu;go_simp;exact sqh HR1
       ·refine sqi ?_;intro E W ec eg ef hG hd hu R HR1;have e46 := sqe (hd 14 46);have e54 := sqe (hd 22 54);clear hd hu;go_simp;exact sqh HR1
      case gfin =>
       intro W hG
       iterate 24 (refine Grow.fin_dst (by rfl) ?_; rintro _ rfl)
       simp only [Act.put, sqp];refine Grow.fin_end ?_;have HB3 := Lib.hid (HV.out.2.2.2.2 W hG);clear hG
       go_wp2_with fail
       go_roundw
       case rel =>
        unfold RHas;have hy := HV.out.2.2.2.1;rw [HEQ.out.2] at hy;exact ⟨j + 1, by have := HX.out.2.2.2.1; have := HS.out.2.2.1; omega, by simp, tab_next HR.out.2.2 HX.out.2.1 HX.out.1 (by rw [← HV.out.2.2.1, ← HV.out.1]; exact HEQ.out.1) (by rw [← HV.out.2.1, ← HEV.out, hy]; rfl), HR.out.1.trans (HB3.out.mono HR.out.1.size)⟩
       case measure => simp only [intOf]; have h1 := HX.out.2.2.2.1; omega
     ·rw [decide_eq_false hev] at hbv;have HEV := Lib.hid hev;clear hev;refine sqg [sqv (.slice (some ⟨q1, o1, none⟩) n1 c1), sqv (.int .i64 (j : Int)), sqv (.pointer (some ⟨q1, o1 + j, none⟩)), sqv (.string (st KJ)), sqv (.slice (some ⟨b, off, none⟩) n1 c), sqv (.int .i64 (j : Int)), sqv (.pointer (some ⟨b, off + j * 3, none⟩)), sqv (.pointer (some ⟨b, off + j * 3, none⟩)), sqv (.string (st XK)), sqv (.bool false), sqv (.bool false), sqv (.bool true), sqv (.bool false), sqv (.bool false), sqv (.bool false), sqv (.slice A3 n3 c3), sqv (.string (st Y)), sqv (.slice (some ⟨b, off, none⟩) n1 c), sqv (.int .i64 (j : Int)), sqv (.pointer (some ⟨b, off + j * 3, none⟩)), sqv (.pointer (some ⟨b, off + j * 3 + 1, none⟩)), sqv (.string (st XV)), sqv (.bool true), sqv (.bool true)] 56 ?gmono ?gsteps ?gfin
      case gmono => (iterate 24 refine ⟨sqm, ?_⟩); trivial
      case gsteps =>
       show Grow.allBelow _ 24
       iterate 24 refine And.intro ?_ ?_
       exact trivial
       ·exact squ 5
       ·exact squ 6
       ·refine sqi ?_;intro E W ec eg ef hG hd hu R HR1;have e32 := sqe (hd 0 32);have e33 := sqe (hd 1 33);clear hd hu;have hjl := HX.out.2.2.2.1;go_simp
        first | exact sqh HR1 | (rw [if_pos ⟨by omega, by omega⟩]; exact sqh HR1)
       ·refine sqi ?_;intro E W ec eg ef hG hd hu R HR1;have e34 := sqe (hd 2 34);clear hd hu;obtain ⟨k1, k2, k3, k4⟩ := HC.out W hG;go_simp;exact sqh HR1
       ·exact squ 1
       ·exact squ 6
       ·refine sqi ?_;intro E W ec eg ef hG hd hu R HR1;have e36 := sqe (hd 4 36);have e37 := sqe (hd 5 37);clear hd hu;have hjl := HX.out.2.2.2.1;go_simp
        first | exact sqh HR1 | (rw [if_pos ⟨by omega, by omega⟩]; exact sqh HR1)
       ·refine sqi ?_;intro E W ec eg ef hG hd hu R HR1;have e38 := sqe (hd 6 38);clear hd hu;go_simp;exact sqh HR1
       ·refine sqi ?_;intro E W ec eg ef hG hd hu R HR1;have e39 := sqe (hd 7 39);clear hd hu;obtain ⟨k1, k2, k3, k4⟩ := HC.out W hG;go_simp;exact sqh HR1
       ·refine sqi ?_;intro E W ec eg ef hG hd hu R HR1;have e35 := sqe (hd 3 35);have e40 := sqe (hd 8 40);clear hd hu;go_simp;exact sqh HR1
       ·exact sqd 9 41
       ·exact yX 10 42 false 8
       ·refine sqn 10 42 ?_;intro E W ec eg ef hG hd hu R HR1;have e43 := sqe (hd 11 43);clear hd hu;go_simp;exact sqh HR1
       ·refine sqi ?_;intro E W ec eg ef hG hd hu R HR1;have e42 := sqe (hd 10 42);have e44 := sqe (hd 12 44);clear hd hu;go_simp;exact sqh HR1
       ·exact sqd 13 45
       ·exact yX 14 46 false 7
       ·refine sqn 14 46 ?_;intro E W ec eg ef hG hd hu R HR1;have e47 := sqe (hd 15 47);clear hd hu;obtain ⟨k1, k2, k3, k4⟩ := HC.out W hG;go_simp;exact sqh HR1
       ·exact yX 14 46 false 1
       ·exact yX 14 46 false 6
       ·refine sqn 14 46 ?_;intro E W ec eg ef hG hd hu R HR1;have e49 := sqe (hd 17 49);have e50 := sqe (hd 18 50);clear hd hu;have hjl := HX.out.2.2.2.1;go_simp
        first | exact sqh HR1 | (rw [if_pos ⟨by omega, by omega⟩]; exact sqh HR1)
       ·refine sqn 14 46 ?_;intro E W ec eg ef hG hd hu R HR1;have e51 := sqe (hd 19 51);clear hd hu;go_simp;exact sqh HR1
       ·refine sqn 14 46 ?_;intro E W ec eg ef hG hd hu R HR1;have e52 := sqe (hd 20 52);clear hd hu;obtain ⟨k1, k2, k3, k4⟩ := HC.out W hG;go_simp;exact sqh HR1
       ·refine sqn 14 46 ?_;intro E W ec eg ef hG hd hu R HR1;have e48 := sqe (hd 16 48);have e53 := sqe (hd 21 53);clear hd hu;go_simp;exact sqh HR1
       ·refine sqi ?_;intro E W ec eg ef hG hd hu R HR1;have e46 := sqe (hd 14 46);have e54 := sqe (hd 22 54);clear hd hu;go_simp;exact sqh HR1
      case gfin =>
       intro W hG
       iterate 24 (refine Grow.fin_dst (by rfl) ?_; rintro _ rfl)
       simp only [Act.put, sqp];refine Grow.fin_end ?_;have HB3 := Lib.hid (HV.out.2.2.2.2 W hG);clear hG
       have HNE : Hid (decide (s.t = tabOf l) = false) := Lib.hid (by
        have hy := HV.out.2.2.2.1;rw [HEQ.out.2] at hy;exact tab_unlike HX.out.2.1 HX.out.1 (.inr (by rw [← HV.out.2.1]; intro e; exact HEV.out (by rw [hy, ← e]; rfl))))
       go_wp2_with fail
       go_ret
       exact ⟨by rw [HNE.out]; rfl, HR.out.2.1.trans (HB3.out.mono HR.out.2.1.size)⟩
    ·rw [decide_eq_false he] at hbq;have HEQ := Lib.hid he;clear he;refine sqg [sqv (.slice (some ⟨q1, o1, none⟩) n1 c1), sqv (.int .i64 (j : Int)), sqv (.pointer (some ⟨q1, o1 + j, none⟩)), sqv (.string (st KJ)), sqv (.slice (some ⟨b, off, none⟩) n1 c), sqv (.int .i64 (j : Int)), sqv (.pointer (some ⟨b, off + j * 3, none⟩)), sqv (.pointer (some ⟨b, off + j * 3, none⟩)), sqv (.string (st XK)), sqv (.bool true), sqv (.bool true), sqv undef, sqv undef, sqv (.bool true), sqv (.bool true), sqv undef, sqv undef, sqv undef, sqv undef, sqv undef, sqv undef, sqv undef, sqv undef, sqv (.bool true)] 56 ?gmono ?gsteps ?gfin
     case gmono => (iterate 24 refine ⟨sqm, ?_⟩); trivial
     case gsteps =>
      show Grow.allBelow _ 24
      iterate 24 refine And.intro ?_ ?_
      exact trivial
      ·exact squ 5
      ·exact squ 6
      ·refine sqi ?_;intro E W ec eg ef hG hd hu R HR1;have e32 := sqe (hd 0 32);have e33 := sqe (hd 1 33);clear hd hu;have hjl := HX.out.2.2.2.1;go_simp
       first | exact sqh HR1 | (rw [if_pos ⟨by omega, by omega⟩]; exact sqh HR1)
      ·refine sqi ?_;intro E W ec eg ef hG hd hu R HR1;have e34 := sqe (hd 2 34);clear hd hu;obtain ⟨k1, k2, k3, k4⟩ := HC.out W hG;go_simp;exact sqh HR1
      ·exact squ 1
      ·exact squ 6
      ·refine sqi ?_;intro E W ec eg ef hG hd hu R HR1;have e36 := sqe (hd 4 36);have e37 := sqe (hd 5 37);clear hd hu;have hjl := HX.out.2.2.2.1;go_simp
       first | exact sqh HR1 | (rw [if_pos ⟨by omega, by omega⟩]; exact sqh HR1)
      ·refine sqi ?_;intro E W ec eg ef hG hd hu R HR1;have e38 := sqe (hd 6 38);clear hd hu;go_simp;exact sqh HR1
      ·refine sqi ?_;intro E W ec eg ef hG hd hu R HR1;have e39 := sqe (hd 7 39);clear hd hu;obtain ⟨k1, k2, k3, k4⟩ := HC.out W hG;go_simp;exact sqh HR1
      ·refine sqi ?_;intro E W ec eg ef hG hd hu R HR1;have e35 := sqe (hd 3 35);have e40 := sqe (hd 8 40);clear hd hu;go_simp;exact sqh HR1
      ·exact sqd 9 41
      ·exact sqy 10 42
      ·exact sqy 10 42
      ·refine sqi ?_;intro E W ec eg ef hG hd hu R HR1;have e42 := sqe (hd 10 42);have e44 := sqe (hd 12 44);clear hd hu;go_simp;exact sqh HR1
      ·exact sqd 13 45
      ·exact sqy 14 46
      ·exact sqy 14 46
      ·exact sqy 14 46
      ·exact sqy 14 46
      ·exact sqy 14 46
      ·exact sqy 14 46
      ·exact sqy 14 46
      ·exact sqy 14 46
      ·refine sqi ?_;intro E W ec eg ef hG hd hu R HR1;have e46 := sqe (hd 14 46);have e54 := sqe (hd 22 54);clear hd hu;go_simp;exact sqh HR1
     case gfin =>
      intro W hG
      iterate 24 (refine Grow.fin_dst (by rfl) ?_; rintro _ rfl)
      simp only [Act.put, sqp];refine Grow.fin_end ?_;have HB3 := Lib.hid (HV.out.2.2.2.2 W hG);clear hG;have HNE : Hid (decide (s.t = tabOf l) = false) := Lib.hid (tab_unlike HX.out.2.1 HX.out.1 (.inl (by rw [← HV.out.1, ← HV.out.2.2.1]; exact HEQ.out)))
      go_wp2_with fail
      go_ret
      exact ⟨by rw [HNE.out]; rfl, HR.out.2.1.trans (HB3.out.mono HR.out.2.1.size)⟩
   ·have hlt' : ¬ (j : Int) < (n1 : Int) := by omega
    have HE : Hid (decide (s.t = tabOf l) = true) := Lib.hid (decide_eq_true (by
     have h1 := htk;have h2 := HNN.out;have h3 := HS.out.2.2.1
     rwa [List.take_of_length_le (by omega), List.take_of_length_le (by unfold tabOf; rw [List.length_map]; omega)] at h1))
    have HB := Lib.hid (H1.out.2.trans (hbr.mono H1.out.2.size));clear hlt htk hj hbr
    go_wp2_with fail
    go_ret
    exact ⟨by rw [HE.out]; rfl, HB.out⟩
 ·have HNE : Hid (decide (s.t = tabOf l) = false) := Lib.hid (decide_eq_false fun e => hnn (by rw [e, ← HS.out.2.2.1]; unfold tabOf; rw [List.length_map]))
  go_enter Tryz.func20, Tryz.ntmps20
  go_upto_region 2 with (go_at_call 24; refine hks.mono ?_; clear hks; rintro _ w1 ⟨A1, n1, c1, rfl, hs1, hb1⟩)
  obtain rfl : n1 = s.t.length := by rw [← hs1.len]; simp
  have hne : ((s.t.length : Int) != (n : Int)) = true := by simp; omega
  have H1 := Lib.hid hb1;clear hs1 hb1 hnn
  go_wp2_with fail
  go_ret
  exact ⟨by rw [HNE.out]; rfl, H1.out⟩
end Go.Proofs.YtmioifcbkhpdaaaGreat
