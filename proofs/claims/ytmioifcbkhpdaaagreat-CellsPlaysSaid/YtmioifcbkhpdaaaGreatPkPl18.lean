/-
  Cells, the reference's read: a record of changes.
-/
import Derived.Test.YtmioifcbkhpdaaaGreatPkPl17
import Derived.Test.YtmioifcbkhpdaaaGreatPkPl15
import Derived.Test.YtmioifcbkhpdaaaGreatPkPl01
import Derived.Test.YtmioifcbkhpdaaaGreatPkPl16
namespace Go.Proofs.YtmioifcbkhpdaaaGreat
set_option maxHeartbeats 16000000
set_option maxRecDepth 100000
open Go.RowKit Codec
theorem raGo_srt : ∀ (n : Nat) (t : Tb) (last l : List UInt8) (e : Int) {a : Tb} {l' : List UInt8} {e' : Int}, raGo n t last l e = some (a, l', e') → Srt t → (∀ p ∈ t, p.1 ≤ last) → Srt a
 | 0, t, last, l, e, a, l', e', h, hs, _ => by
   rw [raGo] at h;simp only [Option.some.injEq, Prod.mk.injEq] at h;obtain ⟨rfl, _, _⟩ := h;exact hs
 | n + 1, t, last, l, e, a, l', e', h, hs, hl => by
   rw [raGo] at h
   split at h
   ·cases h
   ·rename_i hx
    have hk : last < byB l e 64 := List.not_le.1 hx;refine raGo_srt n _ _ _ _ h (List.pairwise_append.2 ⟨hs, List.pairwise_singleton _ _, fun p hp q hq => ?_⟩) fun p hp => ?_
    ·obtain rfl := List.mem_singleton.1 hq;exact Std.lt_of_le_of_lt (hl p hp) hk
    ·rcases List.mem_append.1 hp with hp | hp
     ·exact List.le_of_lt (Std.lt_of_le_of_lt (hl p hp) hk)
     ·obtain rfl := List.mem_singleton.1 hp;exact List.le_refl _
theorem raM_srt {b : List UInt8} {t : Tb} (h : raM b = some t) : Srt t := by
 unfold raM at h
 split at h
 ·cases h
 ·rcases hg : raGo (uiX (uiL b 0) (uiE b 0)) [] [] (uiL (uiL b 0) (uiE b 0)) (uiE (uiL b 0) (uiE b 0)) with _ | ⟨a', l', e'⟩
  ·rw [hg, raEnd] at h; cases h
  ·rw [hg, raEnd] at h
   split at h
   ·(injection h with h);subst h;exact raGo_srt _ _ _ _ _ hg Srt.nil fun _ h => by cases h
   ·cases h
theorem doL_tb2 : ∀ (t acc : Tb), Srt (acc ++ t) → doL acc (tb2 t) = acc ++ t
 | [], acc, _ => by simp [doL, tb2]
 | p :: t, acc, h => by
   (have h1 : ∀ q ∈ acc, q.1 < p.1 := fun q hq => (List.pairwise_append.1 h).2.2 q hq p (by simp));have e1 : doL acc (tb2 (p :: t)) = doL (doC acc ⟨p.1, p.2, false⟩) (tb2 t) := rfl;rw [e1, doC_end h1, doL_tb2 t (acc ++ [(p.1, p.2)]) (by rw [List.append_assoc]; exact h), List.append_assoc];rfl
theorem doL_all {b : List UInt8} {t : Tb} (h : raM b = some t) : doL [] (tb2 t) = t := by
 rw [doL_tb2 t [] (by rw [List.nil_append]; exact raM_srt h), List.nil_append]
theorem cr_cnt (ca cb : Option Tb) (f0 f1 : Nat) : (cntM ca.isSome cb.isSome f0 f1 = -1 ∧ ca = none ∧ cb = none) ∨ (cntM ca.isSome cb.isSome f0 f1 = 0 ∧ ∃ t, ca = some t) ∨ (cntM ca.isSome cb.isSome f0 f1 = 1 ∧ ∃ t, cb = some t) := by
 unfold cntM
 cases ca with
 | none => cases cb with
   | none => simp
   | some t => simp
 | some s => cases cb with
   | none => simp
   | some t =>
     by_cases h : f0 < f1
     ·simp [h]
     ·simp [h]
theorem cr_scan_len : ∀ (bs : List (List UInt8)) (i : Nat) (s : WS) (B : Nat), (∀ x ∈ s.recs, x.length ≤ B) → s.now.length + 110 * bs.length ≤ B → ∀ x ∈ (zk bs i s).recs, x.length ≤ B
 | [], _, _, _, h, _ => h
 | b :: bs, i, s, B, h, hb => by
   rw [zk]
   split
   ·exact h
   ·have h1 := (readL_small b).2;rw [List.length_cons] at hb;refine cr_scan_len bs _ _ B ?_ ?_
    ·unfold zf
     split
     ·intro x hx;rcases List.mem_append.1 hx with hx | hx
      ·exact h x hx
      ·obtain rfl := List.mem_singleton.1 hx;rw [List.length_append];omega
     ·exact h
    ·unfold zf
     split
     ·show 0 + 110 * bs.length ≤ B;omega
     ·show (s.now ++ (ze b).2.1).length + 110 * bs.length ≤ B;rw [List.length_append];omega
theorem cr_open_len {bs : List (List UInt8)} {f n : Int} : ∀ x ∈ (yd bs f n).l, x.length ≤ 110 * bs.length := by
 unfold yd;exact cr_scan_len bs 0 ws0 _ (fun x hx => by cases hx) (by show 0 + _ ≤ _; omega)
theorem cr_half_len {d : DM} (i : Nat) : ∀ x ∈ (zT d i).l, x.length ≤ 110 * d.l.length := fun x hx => by
 have h1 := cr_open_len x hx
 have h2 : (zW d.l ((i * hn d : Nat) : Int) ((hn d : Nat) : Int)).length ≤ d.l.length := by
  unfold zW;rw [List.length_take, List.length_drop];omega
 omega
structure H1 (w : World) (g : Nat) (m : LM) (x y : Nat) (q : Nat) (cnt : Bool) (mo : Option Nat) (A : Option Addr) (n c : Nat) : Prop where
 hf : ∃ a b, Hf w g m x a b y q cnt (.map mo) A n c
theorem H1.turned {T : Nat → Prop} {w w' : World} {g : Nat} {m : LM} {x y q : Nat} {cnt : Bool} {mo : Option Nat} {A : Option Addr} {n c : Nat} (h : H1 w g m x y q cnt mo A n c) (ht : Turned T w w') (hd : ∀ k, k < w.heap.size → x ≤ k → k < y → ¬ T k) : H1 w' g m x y q cnt mo A n c := by
 obtain ⟨a, b, h⟩ := h.hf;exact ⟨a, b, h.turned ht hd⟩
theorem H1.below {w w' : World} {g : Nat} {m : LM} {x y q : Nat} {cnt : Bool} {mo : Option Nat} {A : Option Addr} {n c : Nat} (h : H1 w g m x y q cnt mo A n c) (hb : Below w.heap.size w w') : H1 w' g m x y q cnt mo A n c :=
 h.turned (T := fun _ => False) (Turned.of_below hb) fun _ _ _ _ h => h
theorem Hf.mo {w : World} {g : Nat} {m : LM} {x a b y q : Nat} {cnt : Bool} {mv : Value} {A : Option Addr} {n c : Nat} (h : Hf w g m x a b y q cnt mv A n c) : ∃ mo, mv = .map mo := by
 rcases hm : yT m with _ | t
 ·exact ⟨none, h.no hm⟩
 ·obtain ⟨mb, h1, _⟩ := h.yes t hm;exact ⟨some mb, h1⟩
def OpR (w : World) (g xf : Nat) (d : DM) (i : Value) (wr : World) : Prop :=
 Below w.heap.size w wr ∧ w.heap.size ≤ xf ∧
 ((i = .int .i64 0 ∧ wr.heap[xf]? = some (.cells #[.pointer none, .bool false, .map none, .slice none 0 0, .pointer none, .bool false, .map none, .slice none 0 0] 77 (0, 0))) ∨
  (i = .int .i64 1 ∧ d.down = false ∧ ∃ x y q c b A n k, wr.heap[xf]? = some (.cells #[.pointer (some ⟨q, 0, none⟩), .bool c, .map b, .slice A n k, .pointer none, .bool false, .map none, .slice none 0 0] 77 (0, 0)) ∧ xf < x ∧ y ≤ wr.heap.size ∧ H1 wr g (zT d 0) x y q c b A n k) ∨
  (i = .int .i64 2 ∧ d.down = false ∧ ∃ x y q c b A n k x' y' q' c' b' A' n' k', wr.heap[xf]? = some (.cells #[.pointer (some ⟨q, 0, none⟩), .bool c, .map b, .slice A n k, .pointer (some ⟨q', 0, none⟩), .bool c', .map b', .slice A' n' k'] 77 (0, 0)) ∧ xf < x ∧ y ≤ x' ∧ y' ≤ wr.heap.size ∧ H1 wr g (zT d 0) x y q c b A n k ∧ H1 wr g (zT d 1) x' y' q' c' b' A' n' k'))
theorem cntM_cases (c0 c1 : Bool) (f0 f1 : Nat) : (cntM c0 c1 f0 f1 = -1 ∧ c0 = false ∧ c1 = false) ∨ (cntM c0 c1 f0 f1 = 0 ∧ c0 = true) ∨ (cntM c0 c1 f0 f1 = 1 ∧ c1 = true) := by
 unfold cntM
 cases c0 <;> cases c1 <;> by_cases h : f0 < f1 <;> simp [h]
def MadeC (w : World) (g : Nat) (r : SM × Int) (e : Ending) (w' : World) : Prop :=
 (if r.2 = 0 then ∃ p, e = .returned (.tuple #[.pointer (some ⟨p, 0, none⟩), .int .i64 0]) ∧ Cs w' (w.heap.size ≤ ·) p g r.1 else e = .returned (.tuple #[.pointer none, .int .i64 r.2])) ∧ Below w.heap.size w w'
theorem hn_err {d : DM} (h1 : 1 ≤ hn d) (i : Nat) (hi : i ≤ 1) : zo d.l.length d.down ((i * hn d : Nat) : Int) ((hn d : Nat) : Int) = if d.down then 30 else 0 := by
 have h2 : hn d = d.l.length / 2 := rfl;refine openErr_ok ?_;have h3 : i * hn d ≤ hn d := by rcases Nat.le_one_iff_eq_zero_or_eq_one.1 hi with rfl | rfl <;> omega
 generalize i * hn d = f at *
 generalize hn d = n at *
 omega
theorem copen_small {w : World} {S : Nat → Prop} {g : Nat} {d : DM} (hd : Dk w S g d) (h1 : hn d < 1) :
    Calls Tryz.prog 7 #[.pointer (some ⟨g, 0, none⟩)] w fun e w' => MadeC w g (zY d) e w' := by
 have hs : Calls _ _ _ _ _ := size_any hd;have hh : d.l.length / 2 = 0 := by have : hn d = d.l.length / 2 := rfl; omega
 rw [hh] at hs;have hr : zY d = (⟨[], 0, lm0, 0, 0⟩, 1) := by unfold zY; rw [if_pos h1]
 rw [hr];clear hd h1 hh hr
 go_enter Tryz.func7, Tryz.ntmps7
 go_wp2_with (go_at_call 25; refine hs.mono ?_; clear hs; rintro _ _ ⟨rfl, rfl⟩)
 go_ret2
 exact ⟨rfl, Below.refl _ _⟩
theorem copen_run {w : World} {S : Nat → Prop} {g : Nat} {d : DM} (hd : Dk w S g d) (h1 : 1 ≤ hn d) :
    Calls Tryz.prog 7 #[.pointer (some ⟨g, 0, none⟩)] w fun e w' => MadeC w g (zY d) e w' := by
 have hs : Calls _ _ _ _ _ := size_any hd;have hh : d.l.length / 2 = hn d := rfl;rw [hh] at hs;have hfew := hd.few;have hge : ¬ (hn d : Int) < 1 := by omega
 have hz2 := zero_half2;have HD := sq3 hd h1 hfew;have hna : Below w.heap.size w (w.alloc (.cells #[.pointer none, .bool false, .map none, .slice none 0 0, .pointer none, .bool false, .map none, .slice none 0 0] 77)) := (Below.refl _ _).alloc (Nat.le_refl _) _;have H0 : Hid (OpR w g w.heap.size d (.int .i64 0) (w.alloc (.cells #[.pointer none, .bool false, .map none, .slice none 0 0, .pointer none, .bool false, .map none, .slice none 0 0] 77))) := Lib.hid ⟨hna, Nat.le_refl _, .inl ⟨rfl, heap_alloc_new w _⟩⟩;obtain ⟨N, hN⟩ := sqz (hn d);rw [← hN] at hs hge;have hge' : decide ((N : Int) < 1) = false := by simpa using hge
 clear hd h1 hh hfew hna hN hge
 go_enter Tryz.func7, Tryz.ntmps7
 go_upto_region 5 with (go_at_call 25; refine hs.mono ?_; clear hs; rintro _ _ ⟨rfl, rfl⟩)
 have hzh := zero_half
 go_loopw [16] (fun i wr => OpR w g w.heap.size d i wr) (fun i _ => 2 - (intOf i).toNat)
 case atStart => exact H0.out
 case round =>
  obtain ⟨hb, _, hrel⟩ := hrel;clear H0 hz2;rcases hrel with ⟨rfl, hrow⟩ | ⟨rfl, hdn1, x0, y0, q0, c0, b0, A0, n0, k0, hrow, hx1, hy1, hh1⟩ | ⟨rfl, hdn2, x0, y0, q0, c0, b0, A0, n0, k0, x1, y1, q1, c1, b1, A1, n1, k1, hrow, hx1, hx2, hy2, hh1, hh2⟩
  ·skip
   have hfd := find_any (HD.out.1.below hb) 0 (by omega) HD.out.2.1;have herr := hn_err HD.out.2.1 0 (by omega);unfold FdPost hfV hzV at hfd;rw [herr] at hfd;have hbw := sq2 hb hrow;clear hb hrow herr
   cases hdn : d.down
   ·rw [hdn] at hfd;simp only [Bool.false_eq_true, if_false, if_true] at hfd;have HDN := Lib.hid hdn;clear hdn
    go_upto_region 10 with (go_at_call 26; refine hfd.mono ?_; clear hfd; rintro _ w2 ⟨⟨a0, bb0, q0, c0, mv, A0, n0, k0, rfl, hf⟩, hb2⟩; obtain ⟨b0, rfl⟩ := hf.mo; have H2 := sq2 (H1.mk ⟨a0, bb0, hf⟩) hb2; clear hf hb2)
    have hrow2 := (H2.out.2.block _ (zB hbw.out.2)).trans hbw.out.2;have hxl : w.heap.size < w2.heap.size := zB hrow2;have hal : Below w2.heap.size w2 (w2.alloc (.cells #[.pointer (some ⟨q0, 0, none⟩), .bool c0, .map b0, .slice A0 n0 k0] 76)) := (Below.refl w2.heap.size w2).alloc (Nat.le_refl _) _;have hrow3 := (hal.block _ hxl).trans hrow2;have HR3 := sq3 hal hrow3 hxl;have hc0 := zA hrow3 0;have hf0 := zC hrow3 0;have hc1 := zA hrow3 1;have hf1 := zC hrow3 1;have hc2 := zA hrow3 2;have hf2 := zC hrow3 2;have hc3 := zA hrow3 3;have hf3 := zC hrow3 3;have hadd := IntWalk.i64_in (0 + 1) (by omega);clear hrow2 hrow3 hal hxl hzh
    go_wp2_with fail
    go_roundw
    case rel =>
     have hrow3 := HR3.out.2.1;have hts : Turned (fun k => k = w.heap.size) (w2.alloc (.cells #[.pointer (some ⟨q0, 0, none⟩), .bool c0, .map b0, .slice A0 n0 k0] 76)) (((((w2.alloc (.cells #[.pointer (some ⟨q0, 0, none⟩), .bool c0, .map b0, .slice A0 n0 k0] 76)).setCell ⟨w.heap.size, 0, none⟩ (.pointer (some ⟨q0, 0, none⟩))).setCell ⟨w.heap.size, 1, none⟩ (.bool c0)).setCell ⟨w.heap.size, 2, none⟩ (.map b0)).setCell ⟨w.heap.size, 3, none⟩ (.slice A0 n0 k0)) := (((((Turned.refl (fun k => k = w.heap.size) _).set rfl 0 _).set rfl 1 _).set rfl 2 _).set rfl 3 _);(have htw : Turned (fun k => k = w.heap.size) w2 (((((w2.alloc (.cells #[.pointer (some ⟨q0, 0, none⟩), .bool c0, .map b0, .slice A0 n0 k0] 76)).setCell ⟨w.heap.size, 0, none⟩ (.pointer (some ⟨q0, 0, none⟩))).setCell ⟨w.heap.size, 1, none⟩ (.bool c0)).setCell ⟨w.heap.size, 2, none⟩ (.map b0)).setCell ⟨w.heap.size, 3, none⟩ (.slice A0 n0 k0)) := (Turned.of_below (S := fun k => k = w.heap.size) HR3.out.1).trans hts fun _ _ h => h);have hwb : w.heap.size < wr.heap.size := zB hbw.out.2;have h2s := H2.out.2.size;refine ⟨(hbw.out.1.trans (H2.out.2.mono hbw.out.1.size)).trans ((htw.mono (T := (w.heap.size ≤ ·)) fun k _ h => by have h' : k = w.heap.size := h; omega).below (by omega)), Nat.le_refl _, .inr (.inl ⟨rfl, HDN.out, wr.heap.size, w2.heap.size, q0, c0, b0, A0, n0, k0, (zG (zG (zG (zG hrow3 0 (.pointer (some ⟨q0, 0, none⟩))) 1 (.bool c0)) 2 (.map b0)) 3 (.slice A0 n0 k0)), hwb, ?_, H2.out.1.turned htw fun k _ h1 _ h2 => by have h2' : k = w.heap.size := h2; omega⟩)⟩;simp
    case measure => simp only [intOf]; omega
   ·rw [hdn] at hfd;simp only [if_true] at hfd;have HDN := Lib.hid hdn;clear hdn
    go_wp2_with (go_at_call 26; refine hfd.mono ?_; clear hfd; rintro _ w2 ⟨hf, hb2⟩; rw [if_neg (by decide)] at hf; subst hf; have H2 := Lib.hid hb2; clear hb2)
    go_ret2
    (have hr : zY d = (⟨[], 0, lm0, 0, 0⟩, 30) := by unfold zY; rw [if_neg (by have := HD.out.2.1; omega), if_pos HDN.out]);rw [hr];refine ⟨?_, (hbw.out.1.trans (H2.out.mono hbw.out.1.size)).alloc (by have h1 := hbw.out.1.size; have h2 := H2.out.size; omega) _⟩;rw [if_neg (by decide)];rfl
  ·skip
   have HH := sq3 hx1 hy1 hh1;clear hx1 hy1 hh1 hdn1;have hfd := find_any (HD.out.1.below hb) 1 (by omega) HD.out.2.1;have herr := hn_err HD.out.2.1 1 (by omega);unfold FdPost hfV hzV at hfd;rw [herr] at hfd;have hbw := sq2 hb hrow;clear hb hrow herr
   cases hdn : d.down
   ·rw [hdn] at hfd;simp only [Bool.false_eq_true, if_false, if_true] at hfd;have HDN := Lib.hid hdn;clear hdn
    go_upto_region 10 with (go_at_call 26; refine hfd.mono ?_; clear hfd; rintro _ w2 ⟨⟨a1, bb1, q1, c1, mv, A1, n1, k1, rfl, hf⟩, hb2⟩; obtain ⟨b1, rfl⟩ := hf.mo; have H2 := sq2 (H1.mk ⟨a1, bb1, hf⟩) hb2; clear hf hb2)
    have hrow2 := (H2.out.2.block _ (zB hbw.out.2)).trans hbw.out.2;have hxl : w.heap.size < w2.heap.size := zB hrow2;have hal : Below w2.heap.size w2 (w2.alloc (.cells #[.pointer (some ⟨q1, 0, none⟩), .bool c1, .map b1, .slice A1 n1 k1] 76)) := (Below.refl w2.heap.size w2).alloc (Nat.le_refl _) _;have hrow3 := (hal.block _ hxl).trans hrow2;have HR3 := sq3 hal hrow3 hxl;have hc0 := zA hrow3 4;have hf0 := zC hrow3 4;have hc1 := zA hrow3 5;have hf1 := zC hrow3 5;have hc2 := zA hrow3 6;have hf2 := zC hrow3 6;have hc3 := zA hrow3 7;have hf3 := zC hrow3 7;have hadd := IntWalk.i64_in (1 + 1) (by omega);clear hrow2 hrow3 hal hxl hzh
    go_wp2_with fail
    go_roundw
    case rel =>
     have hrow3 := HR3.out.2.1;have hts : Turned (fun k => k = w.heap.size) (w2.alloc (.cells #[.pointer (some ⟨q1, 0, none⟩), .bool c1, .map b1, .slice A1 n1 k1] 76)) (((((w2.alloc (.cells #[.pointer (some ⟨q1, 0, none⟩), .bool c1, .map b1, .slice A1 n1 k1] 76)).setCell ⟨w.heap.size, 4, none⟩ (.pointer (some ⟨q1, 0, none⟩))).setCell ⟨w.heap.size, 5, none⟩ (.bool c1)).setCell ⟨w.heap.size, 6, none⟩ (.map b1)).setCell ⟨w.heap.size, 7, none⟩ (.slice A1 n1 k1)) := (((((Turned.refl (fun k => k = w.heap.size) _).set rfl 4 _).set rfl 5 _).set rfl 6 _).set rfl 7 _);(have htw : Turned (fun k => k = w.heap.size) w2 (((((w2.alloc (.cells #[.pointer (some ⟨q1, 0, none⟩), .bool c1, .map b1, .slice A1 n1 k1] 76)).setCell ⟨w.heap.size, 4, none⟩ (.pointer (some ⟨q1, 0, none⟩))).setCell ⟨w.heap.size, 5, none⟩ (.bool c1)).setCell ⟨w.heap.size, 6, none⟩ (.map b1)).setCell ⟨w.heap.size, 7, none⟩ (.slice A1 n1 k1)) := (Turned.of_below (S := fun k => k = w.heap.size) HR3.out.1).trans hts fun _ _ h => h);have hwb : w.heap.size < wr.heap.size := zB hbw.out.2;have h2s := H2.out.2.size;refine ⟨(hbw.out.1.trans (H2.out.2.mono hbw.out.1.size)).trans ((htw.mono (T := (w.heap.size ≤ ·)) fun k _ h => by have h' : k = w.heap.size := h; omega).below (by omega)), Nat.le_refl _, .inr (.inr ⟨rfl, HDN.out, x0, y0, q0, c0, b0, A0, n0, k0, wr.heap.size, w2.heap.size, q1, c1, b1, A1, n1, k1, (zG (zG (zG (zG hrow3 4 (.pointer (some ⟨q1, 0, none⟩))) 5 (.bool c1)) 6 (.map b1)) 7 (.slice A1 n1 k1)), HH.out.1, HH.out.2.1, ?_, (HH.out.2.2.below H2.out.2).turned htw fun k _ h1 _ h2 => by have h2' : k = w.heap.size := h2; have := HH.out.1; omega, H2.out.1.turned htw fun k _ h1 _ h2 => by have h2' : k = w.heap.size := h2; omega⟩)⟩;simp
    case measure => simp only [intOf]; omega
   ·rw [hdn] at hfd;simp only [if_true] at hfd;have HDN := Lib.hid hdn;clear hdn
    go_wp2_with (go_at_call 26; refine hfd.mono ?_; clear hfd; rintro _ w2 ⟨hf, hb2⟩; rw [if_neg (by decide)] at hf; subst hf; have H2 := Lib.hid hb2; clear hb2)
    go_ret2
    (have hr : zY d = (⟨[], 0, lm0, 0, 0⟩, 30) := by unfold zY; rw [if_neg (by have := HD.out.2.1; omega), if_pos HDN.out]);rw [hr];refine ⟨?_, (hbw.out.1.trans (H2.out.mono hbw.out.1.size)).alloc (by have h1 := hbw.out.1.size; have h2 := H2.out.size; omega) _⟩;rw [if_neg (by decide)];rfl
  ·skip
   obtain ⟨a0, bb0, hf0⟩ := hh1.hf;obtain ⟨a1, bb1, hf1⟩ := hh2.hf;have hct := counting_any hf0.log hf1.log c0 c1 b0 b1 A0 A1 n0 n1 k0 k1;unfold h2V at hct;have hcc := cntM_cases c0 c1 (zT d 0).first (zT d 1).first;obtain ⟨AT, hAT⟩ := sqz (cntM c0 c1 (zT d 0).first (zT d 1).first);rw [← hAT] at hct hcc;have HA := Lib.hid hAT;have HF := sq2 hf0 hf1;have HO : Hid (zY d = openUp d AT) := Lib.hid (by rw [openC_up HD.out.2.1 hdn2, ← hf0.cnt_, ← hf1.cnt_, ← hAT]);have HB := sq5 hb hrow hx1 hx2 hy2;have HDN := Lib.hid hdn2;clear hb hrow hx1 hx2 hy2 hh1 hh2 hf0 hf1 hAT hdn2
   go_upto_region 13 with (first
    | (refine yA 4 HB.out.2.1 Tryz.underlying77 half2_info ?_)
    | (go_at_call 27; refine hct.mono ?_; clear hct; rintro _ w5 ⟨rfl, hb5⟩; have H5 := Lib.hid hb5; clear hb5))
   rcases hcc with ⟨rfl, hc0, hc1⟩ | ⟨rfl, hc0⟩ | ⟨rfl, hc1⟩
   ·have HW5 := Lib.hid (HB.out.1.trans (H5.out.mono HB.out.1.size));have hrow5 := (H5.out.block _ (zB HB.out.2.1)).trans HB.out.2.1;have hc4 : w5.cell? ⟨w.heap.size, 4, none⟩ = some (.pointer (some ⟨q1, 0, none⟩)) := zA hrow5 4;have hnx := wnext_any (HF.out.2.log.below H5.out)
    have hok1 : (zT d 1).Ok := by
     have h2 : hn d = d.l.length / 2 := rfl;have h3 := HD.out;unfold zT;rw [Nat.one_mul];exact openM_ok (d := d) (by omega) h3.2.1 (by omega) (by omega)
    have hok0 : (zT d 0).Ok := by
     have h2 : hn d = d.l.length / 2 := rfl;have h3 := HD.out;unfold zT;rw [Nat.zero_mul];exact openM_ok (d := d) (by omega) h3.2.1 (by omega) (by omega)
    (have hbg := hbegin_any (HD.out.1.below HW5.out) 0 (by omega) (zT d 1).next hok1.next);have herr := hn_err HD.out.2.1 0 (by omega);rw [HDN.out] at herr
    have hbg' : Calls Tryz.prog 28 #[.pointer (some ⟨g, 0, none⟩), .int .i64 0, .int .u64 ((zT d 1).next : Int)] w5 fun e w' => MadeL w5 g (zj (zT d 0) ((0 * hn d : Nat) : Int) ((hn d : Nat) : Int) (zT d 1).next) 0 e w' := by
     have h := hbg;unfold hn at herr;rw [HDN.out, herr] at h;exact h
    have HLM : Hid ((zj (zT d 0) ((0 * hn d : Nat) : Int) ((hn d : Nat) : Int) (zT d 1).next).l = []) := Lib.hid rfl;(obtain ⟨M, hM⟩ : ∃ M, M = zj (zT d 0) ((0 * hn d : Nat) : Int) ((hn d : Nat) : Int) (zT d 1).next := ⟨_, rfl⟩);rw [← hM] at hbg';have HOO : Hid (zY d = ((⟨[], 0, M, 0, 0⟩ : SM), (0 : Int))) := Lib.hid (by rw [HO.out, openUp, if_pos rfl, ← hM]);have hmm := @run_makeMap Tryz.prog;clear hbg herr hok1 hok0 hrow5 hM hzh
    go_upto_region 15 with (first
     | (go_at_call 29; refine hnx.mono ?_; clear hnx; rintro _ _ ⟨rfl, rfl⟩)
     | (go_at_call 28; refine hbg'.mono ?_; clear hbg'; rintro _ w6 h6; have H6 := Lib.hid h6; obtain ⟨po, rfl, _, _⟩ := h6.cases; clear h6))
    have h6 := H6.out.1;rw [if_pos rfl] at h6;obtain ⟨p, hp, hlg⟩ := h6
    obtain rfl : po = some p := by
     cases po with
     | none => simp [lgV] at hp
     | some q' => simp [lgV] at hp; rw [hp]
    have hlgV : lgV (some p) = .pointer (some ⟨p, 0, none⟩) := rfl;have HL6 := sq2 (hlg.mono (T := fun k => w5.heap.size ≤ k ∧ k < w6.heap.size) fun k hk h => ⟨h, hk⟩) H6.out.2;clear hp hlg hc4
    go_wp2_with fail
    go_ret2
    rw [HOO.out];have hb1 : Below w6.heap.size w6 (w6.alloc (.map #[] 0)) := (Below.refl _ _).alloc (Nat.le_refl _) _;have hb2 : Below (w6.alloc (.map #[] 0)).heap.size (w6.alloc (.map #[] 0)) ((w6.alloc (.map #[] 0)).alloc (.cells #[.pointer (some ⟨g, 0, none⟩), .int .i64 0, .pointer (some ⟨p, 0, none⟩), .map (some w6.heap.size), .int .i64 0, .int .i64 0] 85)) := (Below.refl _ _).alloc (Nat.le_refl _) _;have h5s := HW5.out.size;have h6s := HL6.out.2.size;refine ⟨?_, ((HW5.out.trans (HL6.out.2.mono h5s)).trans (hb1.mono (by omega))).trans (hb2.mono (by simp; omega))⟩;rw [if_pos rfl];refine ⟨(w6.alloc (.map #[] 0)).heap.size, by simp, p, w6.heap.size, fun k => w5.heap.size ≤ k ∧ k < w6.heap.size, fun k => k = w6.heap.size, by simp; omega, heap_alloc_new (w6.alloc (.map #[] 0)) _, (HL6.out.1.below hb1).below hb2, (made_map w6).below hb2, fun k _ h => ⟨by show w.heap.size ≤ k; omega, by simp; omega, fun e => by omega⟩, fun k _ h => ⟨by show w.heap.size ≤ k; omega, by simp; omega⟩⟩
   ·have HW5 := Lib.hid (HB.out.1.trans (H5.out.mono HB.out.1.size));have hrow5 := (H5.out.block _ (zB HB.out.2.1)).trans HB.out.2.1
    have hld : ∀ (j : Nat) (v : Value), (#[.pointer (some ⟨q0, 0, none⟩), .bool c0, .map b0, .slice A0 n0 k0] : Array Value)[j]? = some v → w5.cell? ((⟨w.heap.size, 0, none⟩ : Addr).add j) = some v := fun j v hv => by
     rw [zK, zA hrow5];have hj := (Array.getElem?_eq_some_iff.1 hv).1
     match j, hj, hv with
     | 0, _, hv => exact hv
     | 1, _, hv => exact hv
     | 2, _, hv => exact hv
     | 3, _, hv => exact hv
     | j + 4, hj, _ => exact absurd hj (by show ¬ j + 4 < 4; omega)
    have HLD := Lib.hid hld;have hf := HF.out.1
    obtain ⟨t0, ht0⟩ : ∃ t0, yT (zT d 0) = some t0 := by
     have h1 := hf.cnt_;rw [hc0] at h1;rcases hq : yT (zT d 0) with _ | t0
     ·rw [hq] at h1; cases h1
     ·exact ⟨t0, rfl⟩
    obtain ⟨mb, hmb, hnm⟩ := hf.yes t0 ht0;(injection hmb with hmb);subst hmb;subst hc0;have hle := hf.le;have hbx : Below w5.heap.size w5 (w5.alloc (.cells #[.pointer (some ⟨q0, 0, none⟩), .bool true, .map (some mb), .slice A0 n0 k0] 76)) := (Below.refl _ _).alloc (Nat.le_refl _) _;have hb5x := H5.out.trans (hbx.mono H5.out.size)
    have hok : (zT d 0).Ok := by
     have h2 : hn d = d.l.length / 2 := rfl;have h3 := HD.out;unfold zT;rw [Nat.zero_mul];exact openM_ok (d := d) (by omega) h3.2.1 (by omega) (by omega)
    have hrl : ∀ x ∈ (zT d 0).l, x.length ≤ 10000000 := by
     obtain ⟨_, _, _, _, _, h9⟩ := hf.log;exact h9
    have htl : ∀ b ∈ (zT d 0).l.tail, b.length ≤ 10000000 := fun b hb => hrl b (List.mem_of_mem_tail hb)
    have ht0l : t0.length ≤ 10000000 := by
     unfold yT at ht0;rcases hq : (zT d 0).l with _ | ⟨r, rest⟩
     ·rw [hq] at ht0; cases ht0
     ·rw [hq] at ht0;have h1 := (raM_may ht0).1;have h2 := hrl r (by rw [hq]; simp);omega
    have hmlt := hnm.lt;have hcu := catchup_any (heap_alloc_new w5 _) (hnm.below hb5x) (hf.rows.below hb5x) (show w5.heap.size ≠ mb by have := H5.out.size; omega) (fun k _ h e => by have := hnm.1; omega) ⟨by have h1 := hok.few; have h2 := hok.have_; have h3 := hok.n; rw [List.length_tail]; omega, ht0l⟩ htl;obtain ⟨r, hr⟩ := sqz (upM t0 (zT d 0).l.tail);rw [← hr] at hcu
    have HOO : Hid (zY d = upEnd 0 (zT d 0) r) := Lib.hid (by
     rw [HO.out, openUp, if_neg (by decide)];simp only [show ((0:Int) = 1) = False from by simp, if_false];rw [ht0, hr];rfl)
    have HX := sq4 (hf.log.below hb5x) hle hb5x hmlt;have HNM1 := Lib.hid hnm.1;have HLE2 := sq2 HF.out.1.le HF.out.2.le;clear hrow5 hld hf ht0 hnm hle hbx hb5x hok hrl htl ht0l hmlt hr hzh
    go_upto_region 19 with (refine sqwa 54 HLD.out Tryz.underlying76 xI ?_)
    rcases r with _ | t1
    ·go_wp2_with (go_at_call 30; refine hcu.mono ?_; clear hcu; rintro _ w7 ⟨rfl, ht7⟩; have H7 := Lib.hid ht7; clear ht7)
     go_ret2
     rw [HOO.out, upEnd];have hsz5 := HB.out.1.size;have hle2 := HLE2.out;have h5w := H5.out.size;have hbs0 := HB.out.2.2;have hle0 := HX.out.2.1;have hnl0 := HNM1.out;(have hsx0 : (w5.alloc (.cells #[.pointer (some ⟨q0, 0, none⟩), .bool true, .map (some mb), .slice A0 n0 k0] 76)).heap.size = w5.heap.size + 1 := by simp);have hx5 := HX.out.2.2.1.size;refine ⟨?_, (HB.out.1.trans (HX.out.2.2.1.mono hsz5)).trans ((H7.out.mono (T := (w.heap.size ≤ ·)) fun k _ e => by rw [show k = mb from e]; have := HX.out.2.1; have := HB.out.2.2; have := HNM1.out; omega).below (by omega))⟩;rw [if_neg (by decide)];rfl
    ·go_upto_region 20 with (go_at_call 30; refine hcu.mono ?_; clear hcu; rintro _ w7 ⟨⟨rfl, hn7⟩, ht7⟩; have H7 := sq2 hn7 ht7; clear hn7 ht7)
     have hrow7 := (H7.out.2.block _ (by simp : w5.heap.size < _) (by have := HX.out.2.2.2; have := H5.out.size; omega)).trans (heap_alloc_new w5 (.cells #[.pointer (some ⟨q0, 0, none⟩), .bool true, .map (some mb), .slice A0 n0 k0] 76));have hc70 : w7.cell? ⟨w5.heap.size, 0, none⟩ = some (.pointer (some ⟨q0, 0, none⟩)) := zA hrow7 0;have hc72 : w7.cell? ⟨w5.heap.size, 2, none⟩ = some (.map (some mb)) := zA hrow7 2;have HR7 := Lib.hid hrow7;clear hrow7
     go_wp2_with fail
     go_ret2
     rw [HOO.out, upEnd];have hsz5 := HB.out.1.size;have hle2 := HLE2.out;have h5w := H5.out.size;have hbs0 := HB.out.2.2;have hle0 := HX.out.2.1;have hnl0 := HNM1.out;(have hsx0 : (w5.alloc (.cells #[.pointer (some ⟨q0, 0, none⟩), .bool true, .map (some mb), .slice A0 n0 k0] 76)).heap.size = w5.heap.size + 1 := by simp);have hx5 := HX.out.2.2.1.size;have h7s := H7.out.2.size;have hbs := HB.out.2.2;have hle := HX.out.2.1;have hnl := HNM1.out;(have hsx : (w5.alloc (.cells #[.pointer (some ⟨q0, 0, none⟩), .bool true, .map (some mb), .slice A0 n0 k0] 76)).heap.size = w5.heap.size + 1 := by simp);have hb8 : Below w7.heap.size w7 (w7.alloc (.cells #[.pointer (some ⟨g, 0, none⟩), .int .i64 0, .pointer (some ⟨q0, 0, none⟩), .map (some mb), .int .i64 0, .int .i64 0] 85)) := (Below.refl _ _).alloc (Nat.le_refl _) _;have hlow := HB.out.1.size;refine ⟨?_, ((HB.out.1.trans (HX.out.2.2.1.mono hsz5)).trans ((H7.out.2.mono (T := (w.heap.size ≤ ·)) fun k _ e => by rw [show k = mb from e]; show w.heap.size ≤ mb; omega).below (by omega))).trans (hb8.mono (by omega))⟩;rw [if_pos rfl];refine ⟨w7.heap.size, rfl, q0, mb, fun k => x0 ≤ k ∧ k < a0, fun k => (bb0 ≤ k ∧ k < y0) ∨ (w5.heap.size < k ∧ k < w7.heap.size), by show w.heap.size ≤ w7.heap.size; omega, heap_alloc_new w7 _, (HX.out.1.turned H7.out.2 fun k _ h1 e => by have e' : k = mb := e; omega).below hb8, (H7.out.1.mono (T := fun k => (bb0 ≤ k ∧ k < y0) ∨ (w5.heap.size < k ∧ k < w7.heap.size)) fun k _ h => ?_).below hb8, fun k _ h => ⟨by show w.heap.size ≤ k; omega, by show k ≠ w7.heap.size; have := H5.out.size; omega, fun h2 => by have := H5.out.size; omega⟩, fun k _ h => ⟨by show w.heap.size ≤ k; have := H5.out.size; omega, by show k ≠ w7.heap.size; have := H5.out.size; omega⟩⟩;rcases h with h | h
     ·exact .inl h
     ·exact .inr ⟨by omega, h.2⟩
   ·have HW5 := Lib.hid (HB.out.1.trans (H5.out.mono HB.out.1.size));have hrow5 := (H5.out.block _ (zB HB.out.2.1)).trans HB.out.2.1
    have hld : ∀ (j : Nat) (v : Value), (#[.pointer (some ⟨q1, 0, none⟩), .bool c1, .map b1, .slice A1 n1 k1] : Array Value)[j]? = some v → w5.cell? ((⟨w.heap.size, 4, none⟩ : Addr).add j) = some v := fun j v hv => by
     rw [zK, zA hrow5];have hj := (Array.getElem?_eq_some_iff.1 hv).1
     match j, hj, hv with
     | 0, _, hv => exact hv
     | 1, _, hv => exact hv
     | 2, _, hv => exact hv
     | 3, _, hv => exact hv
     | j + 4, hj, _ => exact absurd hj (by show ¬ j + 4 < 4; omega)
    have HLD := Lib.hid hld;have hf := HF.out.2
    obtain ⟨t0, ht0⟩ : ∃ t0, yT (zT d 1) = some t0 := by
     have h1 := hf.cnt_;rw [hc1] at h1;rcases hq : yT (zT d 1) with _ | t0
     ·rw [hq] at h1; cases h1
     ·exact ⟨t0, rfl⟩
    obtain ⟨mb, hmb, hnm⟩ := hf.yes t0 ht0;(injection hmb with hmb);subst hmb;subst hc1;have hle := hf.le;have hbx : Below w5.heap.size w5 (w5.alloc (.cells #[.pointer (some ⟨q1, 0, none⟩), .bool true, .map (some mb), .slice A1 n1 k1] 76)) := (Below.refl _ _).alloc (Nat.le_refl _) _;have hb5x := H5.out.trans (hbx.mono H5.out.size)
    have hok : (zT d 1).Ok := by
     have h2 : hn d = d.l.length / 2 := rfl;have h3 := HD.out;unfold zT;rw [Nat.one_mul];exact openM_ok (d := d) (by omega) h3.2.1 (by omega) (by omega)
    have hrl : ∀ x ∈ (zT d 1).l, x.length ≤ 10000000 := by
     obtain ⟨_, _, _, _, _, h9⟩ := hf.log;exact h9
    have htl : ∀ b ∈ (zT d 1).l.tail, b.length ≤ 10000000 := fun b hb => hrl b (List.mem_of_mem_tail hb)
    have ht0l : t0.length ≤ 10000000 := by
     unfold yT at ht0;rcases hq : (zT d 1).l with _ | ⟨r, rest⟩
     ·rw [hq] at ht0; cases ht0
     ·rw [hq] at ht0;have h1 := (raM_may ht0).1;have h2 := hrl r (by rw [hq]; simp);omega
    have hmlt := hnm.lt;have hcu := catchup_any (heap_alloc_new w5 _) (hnm.below hb5x) (hf.rows.below hb5x) (show w5.heap.size ≠ mb by have := H5.out.size; omega) (fun k _ h e => by have := hnm.1; omega) ⟨by have h1 := hok.few; have h2 := hok.have_; have h3 := hok.n; rw [List.length_tail]; omega, ht0l⟩ htl;obtain ⟨r, hr⟩ := sqz (upM t0 (zT d 1).l.tail);rw [← hr] at hcu
    have HOO : Hid (zY d = upEnd 1 (zT d 1) r) := Lib.hid (by
     rw [HO.out, openUp, if_neg (by decide)];simp only [if_true];rw [ht0, hr];rfl)
    have HX := sq4 (hf.log.below hb5x) hle hb5x hmlt;have HNM1 := Lib.hid hnm.1;have HLE2 := sq2 HF.out.1.le HF.out.2.le;clear hrow5 hld hf ht0 hnm hle hbx hb5x hok hrl htl ht0l hmlt hr hzh
    go_upto_region 19 with (refine sqwa 54 HLD.out Tryz.underlying76 xI ?_)
    rcases r with _ | t1
    ·go_wp2_with (go_at_call 30; refine hcu.mono ?_; clear hcu; rintro _ w7 ⟨rfl, ht7⟩; have H7 := Lib.hid ht7; clear ht7)
     go_ret2
     rw [HOO.out, upEnd];have hsz5 := HB.out.1.size;have hle2 := HLE2.out;have h5w := H5.out.size;have hbs0 := HB.out.2.2;have hle0 := HX.out.2.1;have hnl0 := HNM1.out;(have hsx0 : (w5.alloc (.cells #[.pointer (some ⟨q1, 0, none⟩), .bool true, .map (some mb), .slice A1 n1 k1] 76)).heap.size = w5.heap.size + 1 := by simp);have hx5 := HX.out.2.2.1.size;refine ⟨?_, (HB.out.1.trans (HX.out.2.2.1.mono hsz5)).trans ((H7.out.mono (T := (w.heap.size ≤ ·)) fun k _ e => by rw [show k = mb from e]; have := HX.out.2.1; have := HB.out.2.2; have := HNM1.out; omega).below (by omega))⟩;rw [if_neg (by decide)];rfl
    ·go_upto_region 20 with (go_at_call 30; refine hcu.mono ?_; clear hcu; rintro _ w7 ⟨⟨rfl, hn7⟩, ht7⟩; have H7 := sq2 hn7 ht7; clear hn7 ht7)
     have hrow7 := (H7.out.2.block _ (by simp : w5.heap.size < _) (by have := HX.out.2.2.2; have := H5.out.size; omega)).trans (heap_alloc_new w5 (.cells #[.pointer (some ⟨q1, 0, none⟩), .bool true, .map (some mb), .slice A1 n1 k1] 76));have hc70 : w7.cell? ⟨w5.heap.size, 0, none⟩ = some (.pointer (some ⟨q1, 0, none⟩)) := zA hrow7 0;have hc72 : w7.cell? ⟨w5.heap.size, 2, none⟩ = some (.map (some mb)) := zA hrow7 2;have HR7 := Lib.hid hrow7;clear hrow7
     go_wp2_with fail
     go_ret2
     rw [HOO.out, upEnd];have hsz5 := HB.out.1.size;have hle2 := HLE2.out;have h5w := H5.out.size;have hbs0 := HB.out.2.2;have hle0 := HX.out.2.1;have hnl0 := HNM1.out;(have hsx0 : (w5.alloc (.cells #[.pointer (some ⟨q1, 0, none⟩), .bool true, .map (some mb), .slice A1 n1 k1] 76)).heap.size = w5.heap.size + 1 := by simp);have hx5 := HX.out.2.2.1.size;have h7s := H7.out.2.size;have hbs := HB.out.2.2;have hle := HX.out.2.1;have hnl := HNM1.out;(have hsx : (w5.alloc (.cells #[.pointer (some ⟨q1, 0, none⟩), .bool true, .map (some mb), .slice A1 n1 k1] 76)).heap.size = w5.heap.size + 1 := by simp);have hb8 : Below w7.heap.size w7 (w7.alloc (.cells #[.pointer (some ⟨g, 0, none⟩), .int .i64 1, .pointer (some ⟨q1, 0, none⟩), .map (some mb), .int .i64 0, .int .i64 0] 85)) := (Below.refl _ _).alloc (Nat.le_refl _) _;have hlow := HB.out.1.size;refine ⟨?_, ((HB.out.1.trans (HX.out.2.2.1.mono hsz5)).trans ((H7.out.2.mono (T := (w.heap.size ≤ ·)) fun k _ e => by rw [show k = mb from e]; show w.heap.size ≤ mb; omega).below (by omega))).trans (hb8.mono (by omega))⟩;rw [if_pos rfl];refine ⟨w7.heap.size, rfl, q1, mb, fun k => x1 ≤ k ∧ k < a1, fun k => (bb1 ≤ k ∧ k < y1) ∨ (w5.heap.size < k ∧ k < w7.heap.size), by show w.heap.size ≤ w7.heap.size; omega, heap_alloc_new w7 _, (HX.out.1.turned H7.out.2 fun k _ h1 e => by have e' : k = mb := e; omega).below hb8, (H7.out.1.mono (T := fun k => (bb1 ≤ k ∧ k < y1) ∨ (w5.heap.size < k ∧ k < w7.heap.size)) fun k _ h => ?_).below hb8, fun k _ h => ⟨by show w.heap.size ≤ k; omega, by show k ≠ w7.heap.size; have := H5.out.size; omega, fun h2 => by have := H5.out.size; omega⟩, fun k _ h => ⟨by show w.heap.size ≤ k; have := H5.out.size; omega, by show k ≠ w7.heap.size; have := H5.out.size; omega⟩⟩;rcases h with h | h
     ·exact .inl h
     ·exact .inr ⟨by omega, h.2⟩
theorem copen_any {w : World} {S : Nat → Prop} {g : Nat} {d : DM} (hd : Dk w S g d) :
    Calls Tryz.prog 7 #[.pointer (some ⟨g, 0, none⟩)] w fun e w' => MadeC w g (zY d) e w' := by
 by_cases h : hn d < 1
 ·exact copen_small hd h
 ·exact copen_run hd (by omega)
theorem run_cs_part {w : World} {g : Nat} {t : TypeId} {cs : Array Value} (h : w.heap[g]? = some (.cells cs t (0, 0))) (ty : TypeId) (DS : List Value) (o : Nat) (hsz : o + DS.length ≤ cs.size) (h1 : ∀ u ∈ DS, u.oneCell' = true) (hi : (Tryz.prog.info? ty).map (·.size) = some DS.length) :
    (Instr.storeAt ty (.pointer (some ⟨g, o, none⟩)) (.agg DS.toArray)).run Tryz.prog w = .ok () (w.setRow g (cs.toList.take o ++ DS ++ cs.toList.drop (o + DS.length)).toArray) := by
 have hst := run_storeCells_at (P := Tryz.prog) g o t DS 0 cs w h (by omega) h1;rw [Nat.add_zero] at hst
 cases hi2 : Tryz.prog.info? ty with
 | none => simp [hi2] at hi
 | some inf =>
   (have hs2 : inf.size = DS.length := by simpa [hi2] using hi);simp [Instr.storeAt, Instr.sureAddr, Sem.run_bind, storeVar, sizeOf, typeInfo, hi2, hs2, Value.cells, hst, Result.andThen]
theorem wpList_store_log {ops : Array Oper} {rest : List Oper} {op : Oper} {a : Act} {w : World} {Q : Exit → Act → World → Prop} (hgd : op.guard = none) (x y : Operand) (ho : op.op = .store 39 x y)
    {g : Nat} {s : SM} {At : Option Addr} {nt ct : Nat} {A A' : Option Addr} {n c n' c' : Nat} {m : LM} (h : w.heap[g]? = some (.cells (smV s At nt ct A n c) 41 (0, 0)))
    (hx : a.eval x = .pointer (some ⟨g, 2, none⟩)) (hy : a.eval y = .agg (lmV m A' n' c'))
    (hK : wpList Tryz.prog ops Q rest (a.put op.dst undef) (w.setRow g (smV { s with log := m } At nt ct A' n' c'))) : wpList Tryz.prog ops Q (op :: rest) a w :=
 wpList_plain hgd fun K hK' => by
  have hr := run_cs_part h 39 (lmV m A' n' c').toList 2 (by show 2 + 7 ≤ 11; omega) (fun u hu => by
   have h1 := zw m A' n' c';rw [Array.all_eq_true_iff_forall_mem] at h1;exact h1 u (by simpa using hu)) (by exact zL)
  have e : ((smV s At nt ct A n c).toList.take 2 ++ (lmV m A' n' c').toList ++ (smV s At nt ct A n c).toList.drop (2 + (lmV m A' n' c').toList.length)).toArray = smV { s with log := m } At nt ct A' n' c' := rfl;rw [e] at hr;unfold Oper.wp execOp;have hy2 : a.eval y = .agg (lmV m A' n' c').toList.toArray := by rw [hy]
  simp only [ho, hx, hy2, Sem.run_bind, hr, Result.andThen_ok, Sem.run_pure];exact hK' _ _ hK
structure RoS (w W : World) (DV : Array Value) (p5 p7 p8 : Nat) (a b : LM) (A1 : Option Addr) (k1 c1 : Nat) (A2 : Option Addr) (k2 c2 : Nat) (SV : Array Value) : Prop where
 dv : W.heap[w.heap.size]? = some (.cells DV 30 (0, 0))
 zv : W.heap[w.heap.size + 1]? = some (.cells (smV sm0 none 0 0 none 0 0) 41 (0, 0))
 a5 : W.heap[p5]? = some (.cells (lmV a A1 k1 c1) 39 (0, 0))
 b7 : W.heap[p7]? = some (.cells (lmV b A2 k2 c2) 39 (0, 0))
 s8 : W.heap[p8]? = some (.cells SV 41 (0, 0))
 o5 : w.heap.size + 1 < p5
 o7 : p5 < p7
 o8 : p7 < p8
 ra : Strs W (fun k => w.heap.size + 2 ≤ k ∧ k < p8) A1 k1 c1 a.l
 rb : Strs W (fun k => w.heap.size + 2 ≤ k ∧ k < p8) A2 k2 c2 b.l
 bel : Below w.heap.size w W
section
variable {w W W' : World} {DV : Array Value} {p5 p7 p8 : Nat} {a b : LM} {A1 : Option Addr} {k1 c1 : Nat} {A2 : Option Addr} {k2 c2 : Nat} {SV : Array Value}
theorem RoS.later (h : RoS w W DV p5 p7 p8 a b A1 k1 c1 A2 k2 c2 SV) (hb : Below W.heap.size W W') : RoS w W' DV p5 p7 p8 a b A1 k1 c1 A2 k2 c2 SV :=
 ⟨(hb.block _ (zB h.dv)).trans h.dv, (hb.block _ (zB h.zv)).trans h.zv, (hb.block _ (zB h.a5)).trans h.a5, (hb.block _ (zB h.b7)).trans h.b7, (hb.block _ (zB h.s8)).trans h.s8, h.o5, h.o7, h.o8, h.ra.below hb, h.rb.below hb, h.bel.trans (hb.mono h.bel.size)⟩
theorem yV (w : World) (g : Nat) (cs : Array Value) : Turned (fun k => k = g) w (w.setRow g cs) := ⟨rfl, rfl, rfl, by simp [World.setRow], fun _ _ h => zM _ _ _ _ h⟩
theorem RoS.setS (h : RoS w W DV p5 p7 p8 a b A1 k1 c1 A2 k2 c2 SV) (SV' : Array Value) : RoS w (W.setRow p8 SV') DV p5 p7 p8 a b A1 k1 c1 A2 k2 c2 SV' := by
 have h1 := h.o5;have h2 := h.o7;have h3 := h.o8;exact ⟨(zM _ _ _ _ (by omega)).trans h.dv, (zM _ _ _ _ (by omega)).trans h.zv, (zM _ _ _ _ (by omega)).trans h.a5, (zM _ _ _ _ (by omega)).trans h.b7, zF h.s8, h1, h2, h3, h.ra.turned (yV W p8 SV') fun k _ hk e => by omega, h.rb.turned (yV W p8 SV') fun k _ hk e => by omega, zD h.bel (by omega) _⟩
end
theorem sm_build (m : LM) (A : Option Addr) (n c : Nat) (W : World) : (Instr.build 41 #[(2, .agg (lmV m A n c))]).run Tryz.prog W = .ok (.agg (smV ⟨[], 0, m, 0, 0⟩ none 0 0 A n c)) W := by
 kernel_rfl
theorem wpList_cs_build {P : Program} {ops : Array Oper} {rest : List Oper} {o : Oper} {a : Act} {Q : Exit → Act → World → Prop} {w w' : World} (hgd : o.guard = none) (t : TypeId) (k : Nat) (x : Operand) (hop : o.op = .build t #[(k, x)]) {u v' : Value} (hx : a.eval x = u)
    (hrun : (Instr.build t #[(k, u)]).run P w = .ok v' w') (h : wpList P ops Q rest (a.put o.dst v') w') : wpList P ops Q (o :: rest) a w :=
 wpList_plain hgd fun _ hK => by
  unfold Oper.wp execOp;simp only [hop, Sem.run_bind, Sem.run_pure, Result.andThen_ok, List.map_toArray, List.map_cons, List.map_nil, hx, hrun];exact hK _ _ h
def RrR2 (w : World) (q M N : Nat) (l0 : List UInt8) (v i : Value) (wr : World) : Prop :=
 ∃ (j : Nat) (acc : List Ch) (l : List UInt8), i = .int .u64 (j : Int) ∧ j ≤ M ∧ rcGo M [] l0 0 = rcGo (M - j) acc l 0 ∧ RrO w wr q l 0 v acc ∧ acc.length = j ∧ acc.length + l.length ≤ N
theorem rcread2_any (b : List UInt8) (hbl : b.length ≤ 900000) (w : World) :
    Calls Tryz.prog 32 #[.string (st b), .int .u64 2] w fun e w' => RrPost w (rcM b) e w' := by
 have hui := ref_uint b 0 w;have hzr := cr_zero_r;have hzf := zero_cm;have HNB := Lib.hid hbl;obtain ⟨k0, hk0⟩ := sqz (uiX b 0);obtain ⟨e0, he0⟩ := sqz (uiE b 0);obtain ⟨l0, hl0⟩ := sqz (uiL b 0);have hl0n : l0.length ≤ b.length := by rw [hl0]; exact yK b 0
 have HGF : Hid ((rcM b) = if k0 ≠ 2 then none else rcEnd (rcGo (uiX l0 e0) [] (uiL l0 e0) (uiE l0 e0))) := Lib.hid (by rw [hk0, hl0, he0]; rfl);rw [← hk0, ← he0, ← hl0] at hui;clear hk0 he0 hl0 hbl
 go_enter Tryz.func32, Tryz.ntmps32
 go_upto_region 2 with (first
  | (go_at_call 59; refine hui.mono ?_; clear hui; rintro _ w1 ⟨m0, rfl, hm0, hb1⟩)
  | (refine zl 6 17 (crv m0 e0) (heap_alloc_new w1 _) yI (by rfl) (crv_one _ _) ?_))
 have H2 : Hid (RrO w ((w1.alloc (.cells #[.string ⟨#[]⟩, .int .i64 0] 126)).setRow w1.heap.size (crv m0 e0)) w1.heap.size m0 e0 (.slice none 0 0) []) :=
  Lib.hid ⟨hb1.size, zF (heap_alloc_new w1 _), World.ownsRow_nil _ _ _ _, zD (hb1.alloc hb1.size _) hb1.size _⟩
 obtain ⟨a1, a2, a3⟩ := cr_like_ui (l := l0) (m := m0) (e := e0) hm0;clear hm0 hb1 hzr;obtain ⟨q, hq⟩ := sqz w1.heap.size;rw [← hq] at H2 ⊢
 generalize (w1.alloc (.cells #[.string ⟨#[]⟩, .int .i64 0] 126)).setRow q (crv m0 e0) = w2 at *
 clear hq;have hui2 := ref_uint m0 e0 w2;obtain ⟨M, hM⟩ := sqz (uiX l0 e0);obtain ⟨e1, he1⟩ := sqz (uiE l0 e0);obtain ⟨l1, hl1⟩ := sqz (uiL l0 e0);have hMlt : M < 18446744073709551616 := by rw [hM]; exact uiX_lt _ _
 have HLN : Hid (l1.length ≤ b.length ∧ M < 18446744073709551616) := Lib.hid ⟨by rw [hl1]; have := yK l0 e0; omega, hMlt⟩;rw [a1, a2, ← hM, ← he1] at hui2;rw [← hM, ← he1, ← hl1] at HGF;have HA3 : Hid (e1 = 0 → uiL m0 e0 = l1) := Lib.hid fun h => by rw [hl1]; exact a3 (by rw [← he1]; exact h)
 clear a1 a2 a3 hM he1 hl1 hMlt hl0n
 go_upto_region 3 with (first
  | (refine yA 6 H2.out.row Tryz.underlying126 yI ?_)
  | (go_at_call 59; refine hui2.mono ?_; clear hui2; rintro _ w3 ⟨m1, rfl, hm1, hb3⟩; have H3 := Lib.hid (H2.out.later hb3); clear hb3)
  | (refine zl 6 22 (crv m1 e1) H3.out.row yI (by rfl) (crv_one _ _) ?_))
 have H4 := Lib.hid (H3.out.setr m1 e1);have HM1 : Hid (e1 = 0 → m1 = l1) := Lib.hid fun h => (hm1 h).trans (HA3.out h)
 clear H2 H3 hm1 HA3
 generalize w3.setRow q (crv m1 e1) = w4 at *
 have hc1 := H4.out.cell1
 by_cases he : ¬ e1 = 0
 ·have hne : (e1 != 0) = true := by simpa using he
  have HR : Hid ((rcM b) = none) := Lib.hid (by
   rw [HGF.out]
   split
   ·rfl
   ·exact rcGo_bad he)
  clear he
  go_wp2_with fail
  go_ret2
  exact yH HR.out H4.out.bel
 obtain rfl : e1 = 0 := Classical.not_not.1 he;obtain rfl : m1 = l1 := HM1.out rfl;clear he HM1
 by_cases hk : ¬ k0 = 2
 ·have hkne : ((k0 : Int) != 2) = true := by simp; omega
  have HR : Hid ((rcM b) = none) := Lib.hid (by rw [HGF.out, if_pos hk]);clear hk
  go_wp2_with fail
  go_ret2
  exact yH HR.out H4.out.bel
 have hkne : ((k0 : Int) != 2) = false := by rw [Classical.not_not.1 hk]; rfl
 have HG : Hid ((rcM b) = rcEnd (rcGo M [] m1 0)) := Lib.hid (by rw [HGF.out, if_neg hk]);clear hk HGF;have H0 : Hid (RrR2 w q M b.length m1 (.slice none 0 0) (.int .u64 0) w4) := Lib.hid ⟨0, [], m1, rfl, Nat.zero_le _, rfl, H4.out, rfl, by simpa using HLN.out.1⟩
 go_upto_region 7 with fail
 clear hc1 hkne
 go_loopw [9, 10] (fun v i wr => RrR2 w q M b.length m1 v i wr) (fun _ i _ => M - (intOf i).toNat)
 case atStart => exact H0.out
 case round =>
  obtain ⟨j, acc, l, rfl, hj, hgo, hO, hac, hlen⟩ := hrel;clear H0 H4;have HO := Lib.hid hO;have hc1 := HO.out.cell1;have HGO := sq3 hgo hac hlen;clear hO hgo hac hlen
  by_cases hlt : j < M
  ·(have hlt' : (j : Int) < (M : Int) := by omega);have hadd : IntKind.u64.wrap ((j : Int) + 1) = (j : Int) + 1 := IntWalk.u64_in _ (by have := HLN.out.2; omega);obtain ⟨Av, cv, hv, hcms⟩ := xC HO.out.own;subst hv;have HCM := Lib.hid hcms;have H5 := Lib.hid HO.out.file;have HLT := Lib.hid hlt;clear hlt hj hcms
   go_upto_region 10 with fail
   clear hc1;obtain ⟨x0, hx0⟩ := sqz wr.heap.size;rw [← hx0] at H5 ⊢;have hbw5 : Below wr.heap.size wr (wr.alloc (.cells #[.string ⟨#[]⟩, .string ⟨#[]⟩, .bool false] 95)) := (Below.refl _ _).alloc (Nat.le_refl _) _;have HBW5 := Lib.hid hbw5;clear hbw5
   (generalize wr.alloc (.cells #[.string ⟨#[]⟩, .string ⟨#[]⟩, .bool false] 95) = w5 at *);clear hx0;have hby := ref_bytes l 0 64 w5 (by decide);obtain ⟨K, hK⟩ := sqz (byB l 0 64);obtain ⟨l2, hl2⟩ := sqz (byL l 0 64);obtain ⟨e2, he2⟩ := sqz (byE l 0 64);rw [← hK, ← hl2, ← he2] at hby
   have HEQ := sq3 hK hl2 he2;clear hK hl2 he2
   go_upto_region 11 with (first
    | (refine yA 6 H5.out.o.row Tryz.underlying126 yI ?_)
    | (go_at_call 60; refine hby.mono ?_; clear hby; rintro _ w6 ⟨m2, rfl, hm2, hb6⟩; rw [cr_strB]; have H6 := Lib.hid (H5.out.later hb6); have H6s := Lib.hid (H6.out.setr m2 e2); have hc0 := zA H6s.out.frow 0; have hf0 := zC H6s.out.frow 0; have HB6 := Lib.hid hb6; clear hb6)
    | (refine zl 6 45 (crv m2 e2) H6.out.o.row yI (by rfl) (crv_one _ _) ?_))
   have H7 := Lib.hid (H6s.out.setc 0 (.string (st K)) (F' := ⟨K, [], false⟩) (by rfl));have HM2 := Lib.hid hm2;clear hc0 hf0 H6 H6s H5 hm2
   (generalize (w6.setRow q (crv m2 e2)).setCell ⟨x0, 0, none⟩ (.string (st K)) = w7 at *);have hbo := ref_bool m2 e2 w7;obtain ⟨b1, b2⟩ := cr_like_bo (l := l2) (m := m2) (e := e2) HM2.out;obtain ⟨e3, he3⟩ := sqz (boE l2 e2);obtain ⟨l3, hl3⟩ := sqz (fxL l2 e2 1);rw [b1, ← he3] at hbo;rw [← he3, ← hl3] at b2;have HB3 := Lib.hid b2;have HEQ3 := sq2 he3 hl3;clear b1 b2 he3 hl3
   go_upto_region 12 with fail
   go_upto_region 13 with (first
    | (refine yA 6 H7.out.o.row Tryz.underlying126 yI ?_)
    | (go_at_call 61; refine hbo.mono ?_; clear hbo; rintro _ w8 ⟨y, hy, m3, rfl, hm3, hb8⟩; have H8 := Lib.hid (H7.out.later hb8); have H8s := Lib.hid (H8.out.setr m3 e3); have hc2 := zA H8s.out.frow 2; have hf2 := zC H8s.out.frow 2; clear hb8)
    | (refine zl 6 53 (crv m3 e3) H8.out.o.row yI (by rfl) (crv_one _ _) ?_))
   have H9 := Lib.hid (H8s.out.setc 2 (.bool y) (F' := ⟨K, [], y⟩) (by rfl));(have HM3 : Hid (e3 = 0 → m3 = l3) := Lib.hid fun h => (hm3 h).trans (HB3.out h).2);(have HY : Hid (e3 = 0 → boX l2 e2 = y) := Lib.hid fun h => by rw [← (HB3.out h).1]; exact (hy h).symm);clear hc2 hf2 H8 H8s H7 hm3 hy HM2
   (generalize (w8.setRow q (crv m3 e3)).setCell ⟨x0, 2, none⟩ (.bool y) = w9 at *);have hc2 : w9.cell? ⟨x0, 2, none⟩ = some (.bool y) := zA H9.out.frow 2
   cases y
   ·have hby2 := ref_bytes m3 e3 4096 w9 (by decide);obtain ⟨a1, a2, a3⟩ := cr_like_by (l := l3) (m := m3) (e := e3) 4096 HM3.out;obtain ⟨V, hV⟩ := sqz (byB l3 e3 4096);obtain ⟨l4, hl4⟩ := sqz (byL l3 e3 4096);obtain ⟨e4, he4⟩ := sqz (byE l3 e3 4096);rw [a1, a2, ← hV, ← he4] at hby2;(have HA3 : Hid (e4 = 0 → byL m3 e3 4096 = l4) := Lib.hid fun h => by rw [hl4]; exact a3 (by rw [← he4]; exact h));have HN := Lib.hid (fun m => rc_next (m := m) (acc := acc) (rc_false HEQ.out HEQ3.out ⟨hV, hl4, he4⟩ HY.out));clear hV hl4 he4 a1 a2 a3 HM3
    go_upto_region 15 with (first
     | (refine yA 6 H9.out.o.row Tryz.underlying126 yI ?_)
     | (go_at_call 60; refine hby2.mono ?_; clear hby2; rintro _ wa ⟨m4, rfl, hm4, hba⟩; rw [cr_strB]; have Ha := Lib.hid (H9.out.later hba); have Has := Lib.hid (Ha.out.setr m4 e4); have hc1 := zA Has.out.frow 1; have hf1 := zC Has.out.frow 1; clear hba)
     | (refine zl 6 62 (crv m4 e4) Ha.out.o.row yI (by rfl) (crv_one _ _) ?_))
    have HX := Lib.hid (Has.out.setc 1 (.string (st V)) (F' := ⟨K, V, false⟩) (by rfl));(have HM4 : Hid (e4 = 0 → m4 = l4) := Lib.hid fun h => (hm4 h).trans (HA3.out h));clear hc1 hf1 hc2 Ha Has H9 hm4 HA3
    (generalize (wa.setRow q (crv m4 e4)).setCell ⟨x0, 1, none⟩ (.string (st V)) = wx at *);(obtain ⟨X, hX⟩ : ∃ X : Ch, X = ⟨K, V, false⟩ := ⟨_, rfl⟩);rw [← hX] at HX HN;clear hX;have hmb := xG X wx;obtain ⟨CX, hCX⟩ := sqz (cmV X);rw [← hCX] at hmb;have HCX := Lib.hid hCX;have HFR := Lib.hid (show wx.heap[x0]? = some (.cells CX 95 (0, 0)) by rw [hCX]; exact HX.out.frow);obtain ⟨Y, hY⟩ := sqz (zq X);rw [← hY] at hmb HN;clear hCX hY
    go_upto_region 16 with (first
     | (refine yA 11 HFR.out Tryz.underlying95 (by rw [HCX.out]; exact xN) ?_)
     | (go_at_call 38; refine hmb.mono ?_; clear hmb; rintro _ w12 ⟨rfl, hb12⟩; have H12 := Lib.hid (HX.out.later hb12); clear hb12))
    have hc1 := H12.out.o.cell1
    by_cases h4 : ¬ e4 = 0
    ·have hne : (e4 != 0) = true := by simpa using h4
     have HR : Hid (rcM b = none) := Lib.hid (by
      rw [HG.out, HGO.out.1, show M - j = (M - (j + 1)) + 1 by have := HLT.out; omega];exact (HN.out _).1 (.inl h4))
     clear h4
     go_quiet (fail)
     go_wp2_with fail
     go_ret2
     exact yH HR.out (yW H12.out.o.bel _)
    obtain rfl : e4 = 0 := Classical.not_not.1 h4;obtain rfl : m4 = l4 := HM4.out rfl;clear h4
    cases hYc : Y with
    | false =>
      subst hYc
      have HR : Hid (rcM b = none) := Lib.hid (by
       rw [HG.out, HGO.out.1, show M - j = (M - (j + 1)) + 1 by have := HLT.out; omega];exact (HN.out _).1 (.inr rfl))
      go_quiet (fail)
      go_wp2_with fail
      go_ret2
      exact yH HR.out (yW H12.out.o.bel _)
    | true =>
      subst hYc
      go_quiet (fail)
      go_upto_region 18 with fail
      have H13 := Lib.hid (H12.out.later (yW (Below.refl _ _) nq))
      (generalize w12.drewN nq = wz at *);have HFZ : Hid (wz.heap[x0]? = some (.cells #[.string (st X.k), .string (st X.v), .bool X.g] 95 (0, 0))) := Lib.hid H13.out.frow;have hb14 : Below wz.heap.size wz (wz.alloc (.cells #[.string (st X.k), .string (st X.v), .bool X.g] 95)) := (Below.refl _ _).alloc (Nat.le_refl _) _
      obtain ⟨A15, c15, w15, hap, hown15, hb15⟩ := yz (m := [X]) (n2 := 1) (c2 := 1) (a := ⟨wz.heap.size, 0, none⟩) (H13.out.o.later hb14).own (by have h1 := zB H13.out.o.row; have h2 := hb14.size; omega) rfl (fun o u hu => by
       rw [zK, Nat.zero_add, zA (heap_alloc_new wz _)]
       simpa [yB, cmV] using hu) (by have h1 := HGO.out.2.2; have h2 := HNB.out; omega) 36
      have H15 : Hid (RrO w w15 q m4 0 (.slice A15 (acc ++ [X]).length c15) (acc ++ [X])) := Lib.hid ⟨H13.out.o.qw, (hb15.block q (by omega)).trans (H13.out.o.later hb14).row, hown15, (H13.out.o.later hb14).bel.trans (hb15.mono (by have := H13.out.o.qw; omega))⟩;have HN0 := Lib.hid ((HN.out (M - (j + 1))).2 rfl rfl);clear hb14 hown15 hb15 hc1 HN HM4
      go_wp2_with (first
       | (refine yA 11 HFZ.out Tryz.underlying95 xN ?_)
       | (at_builtin; refine zh (by rfl) (.tmp 93) (.tmp 95) 36 (by rfl) (by rfl) (by rfl) hap ?_))
      go_roundw
      case rel =>
       have h1 := HLT.out;have h2 := HGO.out;have h3 := HN0.out;exact ⟨j + 1, acc ++ [X], m4, by simp, by omega, by rw [h2.1, show M - j = (M - (j + 1)) + 1 by omega]; exact h3.1, (by have h4 := H15.out; rw [List.length_append, List.length_singleton] at h4; exact h4), by rw [List.length_append, List.length_singleton, h2.2.1], by rw [List.length_append, List.length_singleton]; omega⟩
      case measure => have := HLT.out; simp only [intOf]; omega
   ·have HN := Lib.hid (fun m => rc_next (m := m) (acc := acc) (rc_true HEQ.out HEQ3.out HY.out));(obtain ⟨X, hX⟩ : ∃ X : Ch, X = ⟨K, [], true⟩ := ⟨_, rfl⟩);rw [← hX] at H9 HN;have HX := H9;have HM4 := HM3;clear hX H9 HM3
    generalize w9 = wx at *
    generalize m3 = m4 at *
    generalize e3 = e4 at *
    generalize l3 = l4 at *
    go_upto_region 15 with fail
    clear hc2;have hmb := xG X wx;obtain ⟨CX, hCX⟩ := sqz (cmV X);rw [← hCX] at hmb;have HCX := Lib.hid hCX;have HFR := Lib.hid (show wx.heap[x0]? = some (.cells CX 95 (0, 0)) by rw [hCX]; exact HX.out.frow);obtain ⟨Y, hY⟩ := sqz (zq X);rw [← hY] at hmb HN;clear hCX hY
    go_upto_region 16 with (first
     | (refine yA 11 HFR.out Tryz.underlying95 (by rw [HCX.out]; exact xN) ?_)
     | (go_at_call 38; refine hmb.mono ?_; clear hmb; rintro _ w12 ⟨rfl, hb12⟩; have H12 := Lib.hid (HX.out.later hb12); clear hb12))
    have hc1 := H12.out.o.cell1
    by_cases h4 : ¬ e4 = 0
    ·have hne : (e4 != 0) = true := by simpa using h4
     have HR : Hid (rcM b = none) := Lib.hid (by
      rw [HG.out, HGO.out.1, show M - j = (M - (j + 1)) + 1 by have := HLT.out; omega];exact (HN.out _).1 (.inl h4))
     clear h4
     go_quiet (fail)
     go_wp2_with fail
     go_ret2
     exact yH HR.out (yW H12.out.o.bel _)
    obtain rfl : e4 = 0 := Classical.not_not.1 h4;obtain rfl : m4 = l4 := HM4.out rfl;clear h4
    cases hYc : Y with
    | false =>
      subst hYc
      have HR : Hid (rcM b = none) := Lib.hid (by
       rw [HG.out, HGO.out.1, show M - j = (M - (j + 1)) + 1 by have := HLT.out; omega];exact (HN.out _).1 (.inr rfl))
      go_quiet (fail)
      go_wp2_with fail
      go_ret2
      exact yH HR.out (yW H12.out.o.bel _)
    | true =>
      subst hYc
      go_quiet (fail)
      go_upto_region 18 with fail
      have H13 := Lib.hid (H12.out.later (yW (Below.refl _ _) nq))
      (generalize w12.drewN nq = wz at *);have HFZ : Hid (wz.heap[x0]? = some (.cells #[.string (st X.k), .string (st X.v), .bool X.g] 95 (0, 0))) := Lib.hid H13.out.frow;have hb14 : Below wz.heap.size wz (wz.alloc (.cells #[.string (st X.k), .string (st X.v), .bool X.g] 95)) := (Below.refl _ _).alloc (Nat.le_refl _) _
      obtain ⟨A15, c15, w15, hap, hown15, hb15⟩ := yz (m := [X]) (n2 := 1) (c2 := 1) (a := ⟨wz.heap.size, 0, none⟩) (H13.out.o.later hb14).own (by have h1 := zB H13.out.o.row; have h2 := hb14.size; omega) rfl (fun o u hu => by
       rw [zK, Nat.zero_add, zA (heap_alloc_new wz _)]
       simpa [yB, cmV] using hu) (by have h1 := HGO.out.2.2; have h2 := HNB.out; omega) 36
      have H15 : Hid (RrO w w15 q m4 0 (.slice A15 (acc ++ [X]).length c15) (acc ++ [X])) := Lib.hid ⟨H13.out.o.qw, (hb15.block q (by omega)).trans (H13.out.o.later hb14).row, hown15, (H13.out.o.later hb14).bel.trans (hb15.mono (by have := H13.out.o.qw; omega))⟩;have HN0 := Lib.hid ((HN.out (M - (j + 1))).2 rfl rfl);clear hb14 hown15 hb15 hc1 HN HM4
      go_wp2_with (first
       | (refine yA 11 HFZ.out Tryz.underlying95 xN ?_)
       | (at_builtin; refine zh (by rfl) (.tmp 93) (.tmp 95) 36 (by rfl) (by rfl) (by rfl) hap ?_))
      go_roundw
      case rel =>
       have h1 := HLT.out;have h2 := HGO.out;have h3 := HN0.out;exact ⟨j + 1, acc ++ [X], m4, by simp, by omega, by rw [h2.1, show M - j = (M - (j + 1)) + 1 by omega]; exact h3.1, (by have h4 := H15.out; rw [List.length_append, List.length_singleton] at h4; exact h4), by rw [List.length_append, List.length_singleton, h2.2.1], by rw [List.length_append, List.length_singleton]; omega⟩
      case measure => have := HLT.out; simp only [intOf]; omega
  ·(have hlt' : ¬ (j : Int) < (M : Int) := by omega);have HF : Hid ((rcM b) = if endE l 0 = 0 then some acc else none) := Lib.hid (by rw [HG.out, HGO.out.1, show M - j = 0 by omega]; rfl);obtain ⟨Av, cv, hv, hcms⟩ := xC HO.out.own;have HCM := Lib.hid (hcms.mono (T := (w.heap.size ≤ ·)) fun k _ h => by have h1 := HO.out.qw; have h2 : q + 1 ≤ k := h; omega);subst hv;have hen := ref_end l 0 wr;clear hlt hj hcms
   by_cases h0 : endE l 0 = 0
   ·rw [h0] at hen;have HR : Hid ((rcM b) = some acc) := Lib.hid (by rw [HF.out, if_pos h0]);clear h0;obtain ⟨NA, hNA⟩ := sqz (List.length acc);rw [← hNA];have HNA := Lib.hid hNA;clear hNA
    go_wp2_with (first
     | (refine yA 6 HO.out.row Tryz.underlying126 yI ?_)
     | (go_at_call 62; refine hen.mono ?_; clear hen; rintro _ w9 ⟨rfl, hb9⟩))
    go_ret2
    unfold RrPost;rw [HR.out];exact ⟨⟨Av, cv, by rw [← HNA.out]; rfl, HCM.out.below hb9⟩, HO.out.bel.trans (hb9.mono HO.out.bel.size)⟩
   ·have HR : Hid ((rcM b) = none) := Lib.hid (by rw [HF.out, if_neg h0]);(have he0 : (endE l 0 == 0) = false := by simpa using h0);obtain ⟨E, hE⟩ := sqz (endE l 0);rw [← hE] at hen he0;clear h0 hE
    go_wp2_with (first
     | (refine yA 6 HO.out.row Tryz.underlying126 yI ?_)
     | (go_at_call 62; refine hen.mono ?_; clear hen; rintro _ w9 ⟨rfl, hb9⟩))
    go_ret2
    exact yH HR.out (HO.out.bel.trans (hb9.mono HO.out.bel.size))
end Go.Proofs.YtmioifcbkhpdaaaGreat
