/-
  Cells, pure: a log has records just if its first number is none; what stays so of a store (for CellsPlays).
-/
import Derived.Test.YtmioifcbkhpdaaaGreatPkPl18
import Derived.Test.YtmioifcbkhpdaaaGreatPkPl19
import Derived.Test.YtmioifcbkhpdaaaGreatPkPl20
import Derived.Test.YtmioifcbkhpdaaaGreatPkPl01
import Derived.Test.YtmioifcbkhpdaaaGreatPkPl14
namespace Go.Proofs.YtmioifcbkhpdaaaGreat
set_option maxHeartbeats 16000000
set_option maxRecDepth 100000
open Go.RowKit Codec
theorem rcopen_down {w : World} {S : Nat → Prop} {A : Option Addr} {nl c : Nat} {d : DM} (h : Strs w S A nl c d.l) (ok : d.Ok) (hnl : nl ≤ 1000) (hn1 : 1 ≤ hn d) (hdn : d.down = true) :
    Calls Tryz.prog 8 #[.agg (dmV d A nl c)] w fun e w' => ROpPost w (zY d) e w' := by
 have hz := zero_sm;have hzl := yb;obtain ⟨ZV, hZV⟩ := sqz (smV sm0 none 0 0 none 0 0);rw [← hZV] at hz;obtain ⟨ZL, hZL⟩ := sqz (lmV lm0 none 0 0);rw [← hZL] at hzl;have hop := fun (W : World) (hb : Below w.heap.size w W) => rwopen_any (w := W) (h.below hb) ok (by omega) 0 (hn d : Int)
 have her : zo nl d.down 0 (hn d : Int) = 30 := by
  have h1 := hn_err hn1 0 (by omega);rw [h.len, hdn] at h1
  simpa [hdn] using h1
 rw [her] at hop;obtain ⟨DV, hDV⟩ := sqz (dmV d A nl c);rw [← hDV] at hop ⊢;have hd0 := heap_alloc_new w (.cells DV 30);have hd1 := (heap_alloc_old (w.alloc (.cells DV 30)) (.cells ZV 41) (zB hd0)).trans hd0;have hz1 := heap_alloc_new (w.alloc (.cells DV 30)) (.cells ZV 41);rw [World.size_alloc] at hz1;have hb1 := zi w (.cells DV 30) (.cells ZV 41);have HV := sq3 hZV hDV hZL;obtain ⟨n, hn⟩ := sqz (hn d)
 have hq : IntKind.i64.wrap ((nl : Int) / 2) = (n : Int) := by
  have h1 : Go.Proofs.YtmioifcbkhpdaaaGreat.hn d = d.l.length / 2 := rfl;have h2 := h.len;rw [IntWalk.i64_in _ (by omega)];omega
 rw [← hn] at hop hn1;have hn1' : ¬ (n : Int) < 1 := by omega
 have HO : Hid (zY d = (sm0, 30)) := Lib.hid (by unfold zY; rw [if_neg (by omega), if_pos hdn]; rfl);clear hZV hDV hZL h hn1 her hdn ok hnl hn
 go_enter Tryz.func8, Tryz.ntmps8
 go_upto_region 1 with fail
 generalize (w.alloc (.cells DV 30)).alloc (.cells ZV 41) = w2 at *
 have hc0 : w2.cell? ⟨w.heap.size, 0, none⟩ = some (.slice A nl c) := by rw [zA hd1, HV.out.2.1]; rfl
 have hop2 := hop w2 hb1;unfold yl at hop2;have HZ := sq3 hd1 hz1 hb1;clear hd0 hd1 hz1 hb1 hop
 go_wp2_with (first
  | (refine yA 1 HZ.out.1 Tryz.underlying30 (by rw [HV.out.2.1]; exact zI) ?_)
  | (go_at_call 31; refine hop2.mono ?_; clear hop2; rintro _ w3 ⟨A1, k1, c1, rfl, _, hb3⟩; obtain ⟨RV, hRV⟩ : ∃ RV, RV = lmV (if (30 : Int) = 0 then yd (zW d.l 0 (n : Int)) 0 (n : Int) else lm0) A1 k1 c1 := ⟨_, rfl⟩; rw [← hRV]; have H3 := sq2 hb3 hRV; clear hb3 hRV)
  | (refine zl 5 29 RV (heap_alloc_new w3 _) (by rw [H3.out.2]; exact zL) (by rw [H3.out.2, HV.out.2.2]; rfl) (by rw [H3.out.2]; exact zw _ _ _ _) ?_; have H4 : Hid (Below w.heap.size w ((w3.alloc (.cells ZL 39)).setRow w3.heap.size RV) ∧ ((w3.alloc (.cells ZL 39)).setRow w3.heap.size RV).heap[w.heap.size + 1]? = some (.cells ZV 41 (0, 0))) := Lib.hid (by
      have h1 := zB HZ.out.2.1;have h2 := H3.out.1.size;refine ⟨zD ((HZ.out.2.2.trans (H3.out.1.mono HZ.out.2.2.size)).alloc (by omega) _) (by omega) _, ?_⟩;rw [zM _ _ _ _ (by omega)];exact (heap_alloc_old _ _ (by omega)).trans ((H3.out.1.block _ h1).trans HZ.out.2.1)); generalize (w3.alloc (.cells ZL 39)).setRow w3.heap.size RV = w4 at *)
  | (refine zl 2 33 ZV H4.out.2 (by rw [HV.out.1]; exact za) rfl (by rw [HV.out.1]; exact yL _ _ _ _ _ _ _) ?_))
 (try simp only [Exit.inBlock, Exit.then])
 refine bodyPost_ret (sm_result (p := 2) (u := 3) rfl _ _ (w.heap.size + 1) ZV rfl (zF H4.out.2) (by rw [HV.out.1]; rfl)) rfl ?_;rw [HV.out.1];exact ropPost_err HO.out (zD H4.out.1 (by omega) _)
def RoC1 (w : World) (DV : Array Value) (p5 p7 p8 : Nat) (a b : LM) (A1 : Option Addr) (k1 c1 : Nat) (A2 : Option Addr) (k2 c2 : Nat) (al fo : Value) (wx : World) : Prop :=
 ∃ (Ax : Option Addr) (nx cx : Nat) (M1 : LM) (Am : Option Addr) (km cm : Nat), al = .slice Ax nx cx ∧ fo = .bool (yT a).isSome ∧ (∀ t, yT a = some t → Cms wx (p8 < ·) Ax nx cx (tb2 t) ∧ M1 = a ∧ Am = A1 ∧ km = k1 ∧ cm = c1) ∧ RoS w wx DV p5 p7 p8 a b A1 k1 c1 A2 k2 c2 (smV ⟨[], 0, M1, 0, 0⟩ none 0 0 Am km cm)
theorem cr_few {d : DM} (i : Nat) (hi : i ≤ 1) (hl : d.l.length ≤ 24) (h1 : 1 ≤ hn d) : (zT d i).l.length ≤ 24 := by
 have h2 : hn d = d.l.length / 2 := rfl;have h3 := (openM_ok (d := d) (f := i * hn d) (n := hn d) (by rcases Nat.le_one_iff_eq_zero_or_eq_one.1 hi with rfl | rfl <;> omega) (by omega) (by omega) (by rcases Nat.le_one_iff_eq_zero_or_eq_one.1 hi with rfl | rfl <;> omega));have h4 := h3.few;have h5 := h3.have_;have h6 : (zT d i).n = (hn d : Int) := rfl;have h7 : (yd (zW d.l ((i * hn d : Nat) : Int) ((hn d : Nat) : Int)) ((i * hn d : Nat) : Int) ((hn d : Nat) : Int)) = zT d i := rfl;rw [h7] at h4 h5;rw [h6] at h5;omega
theorem RoS.setT {w W : World} {DV : Array Value} {p5 p7 p8 : Nat} {a b : LM} {A1 : Option Addr} {k1 c1 : Nat} {A2 : Option Addr} {k2 c2 : Nat} {s : SM} {At : Option Addr} {nt ct : Nat} {Am : Option Addr} {km cm : Nat} (h : RoS w W DV p5 p7 p8 a b A1 k1 c1 A2 k2 c2 (smV s At nt ct Am km cm)) (t' : Tb) (Au : Option Addr) (nu cu : Nat) :
    RoS w (W.setCell ⟨p8, 0, none⟩ (.slice Au nu cu)) DV p5 p7 p8 a b A1 k1 c1 A2 k2 c2 (smV { s with t := t' } Au nu cu Am km cm) := by
 have h1 := h.o5;have h2 := h.o7;have h3 := h.o8;have hk : ∀ g, g ≠ p8 → (W.setCell ⟨p8, 0, none⟩ (.slice Au nu cu)).heap[g]? = W.heap[g]? := fun g hg => Below.heap_setCell _ _ _ _ hg
 have ht : Turned (fun k => k = p8) W (W.setCell ⟨p8, 0, none⟩ (.slice Au nu cu)) := (Turned.refl (fun k => k = p8) W).set rfl 0 _;exact ⟨(hk _ (by omega)).trans h.dv, (hk _ (by omega)).trans h.zv, (hk _ (by omega)).trans h.a5, (hk _ (by omega)).trans h.b7, zG h.s8 0 (.slice Au nu cu), h1, h2, h3, h.ra.turned ht fun k _ hk e => by omega, h.rb.turned ht fun k _ hk e => by omega, h.bel.setCell (p := ⟨p8, 0, none⟩) (by show w.heap.size ≤ p8; omega) _⟩
def RoL (w : World) (DV : Array Value) (p5 p7 p8 : Nat) (a b : LM) (A1 : Option Addr) (k1 c1 : Nat) (A2 : Option Addr) (k2 c2 : Nat) (m : LM) (h : Nat) (AI : Option Addr) (KI CI : Nat) (t0 : Tb) (rest : List (List UInt8)) (i : Value) (wr : World) : Prop :=
 ∃ (j : Nat) (t' : Tb) (At : Option Addr) (nt ct : Nat), i = .int .i64 ((j + 1 : Nat) : Int) ∧ j ≤ rest.length ∧ upM t0 rest = upM t' (rest.drop j) ∧ Srt t' ∧ t'.length ≤ 2640 * (j + 1) ∧ Cms wr (p8 < ·) At nt ct (tb2 t') ∧ RoS w wr DV p5 p7 p8 a b A1 k1 c1 A2 k2 c2 (smV ⟨t', h, m, 0, 0⟩ At nt ct AI KI CI)
def RoC2 (w : World) (DV : Array Value) (p5 p7 p8 : Nat) (a b : LM) (A1 : Option Addr) (k1 c1 : Nat) (A2 : Option Addr) (k2 c2 : Nat) (AT : Int) (al fo : Value) (wx : World) : Prop :=
 ∃ (Ax : Option Addr) (nx cx : Nat), al = .slice Ax nx cx ∧
   ((AT = -1 ∧ fo = .bool false ∧ ∃ SV, RoS w wx DV p5 p7 p8 a b A1 k1 c1 A2 k2 c2 SV) ∨
    (AT = 0 ∧ fo = .bool true ∧ ∃ t, yT a = some t ∧ Cms wx (p8 < ·) Ax nx cx (tb2 t) ∧ RoS w wx DV p5 p7 p8 a b A1 k1 c1 A2 k2 c2 (smV ⟨[], 0, a, 0, 0⟩ none 0 0 A1 k1 c1)) ∨
    (AT = 1 ∧ fo = .bool true ∧ ∃ t, yT b = some t ∧ Cms wx (p8 < ·) Ax nx cx (tb2 t) ∧ RoS w wx DV p5 p7 p8 a b A1 k1 c1 A2 k2 c2 (smV ⟨[], 1, b, 0, 0⟩ none 0 0 A2 k2 c2)))
theorem cr_cnt_no {ca cb : Bool} {f0 f1 : Nat} (h : cb = false ∨ (ca = true ∧ ¬ f0 < f1)) : cntM ca cb f0 f1 = if ca then 0 else -1 := by
 unfold cntM;rcases h with h | ⟨h, h2⟩
 ·rw [h]; simp
 ·rw [h]; simp [h2]
theorem cr_cnt_yes {ca : Bool} {f0 f1 : Nat} (h : ca = false ∨ f0 < f1) : cntM ca true f0 f1 = 1 := by
 unfold cntM;rcases h with h | h
 ·rw [h]; simp
 ·simp [h]
theorem RoS.half {w W : World} {DV : Array Value} {p5 p7 p8 : Nat} {a b : LM} {A1 : Option Addr} {k1 c1 : Nat} {A2 : Option Addr} {k2 c2 : Nat} {m : LM} {Am : Option Addr} {km cm : Nat} (h : RoS w W DV p5 p7 p8 a b A1 k1 c1 A2 k2 c2 (smV ⟨[], 0, m, 0, 0⟩ none 0 0 Am km cm)) :
    RoS w (W.setCell ⟨p8, 1, none⟩ (.int .i64 1)) DV p5 p7 p8 a b A1 k1 c1 A2 k2 c2 (smV ⟨[], 1, m, 0, 0⟩ none 0 0 Am km cm) := by
 have h1 := h.o5;have h2 := h.o7;have h3 := h.o8;have hk : ∀ g, g ≠ p8 → (W.setCell ⟨p8, 1, none⟩ (.int .i64 1)).heap[g]? = W.heap[g]? := fun g hg => Below.heap_setCell _ _ _ _ hg
 have ht : Turned (fun k => k = p8) W (W.setCell ⟨p8, 1, none⟩ (.int .i64 1)) := (Turned.refl (fun k => k = p8) W).set rfl 1 _;exact ⟨(hk _ (by omega)).trans h.dv, (hk _ (by omega)).trans h.zv, (hk _ (by omega)).trans h.a5, (hk _ (by omega)).trans h.b7, zG h.s8 1 (.int .i64 1), h1, h2, h3, h.ra.turned ht fun k _ hk e => by omega, h.rb.turned ht fun k _ hk e => by omega, h.bel.setCell (p := ⟨p8, 1, none⟩) (by show w.heap.size ≤ p8; omega) _⟩
theorem roC2_a {w wx : World} {DV : Array Value} {p5 p7 p8 : Nat} {a b : LM} {A1 : Option Addr} {k1 c1 : Nat} {A2 : Option Addr} {k2 c2 : Nat} {AT : Int} {CA : Bool} {Ax : Option Addr} {nx cx : Nat} {M1 : LM} {Am : Option Addr} {km cm : Nat}
    (hAT : AT = cntM (yT a).isSome (yT b).isSome a.first b.first) (hCA : CA = (yT a).isSome) (hN : (yT b).isSome = false ∨ ((yT a).isSome = true ∧ ¬ a.first < b.first))
    (hC : ∀ t, yT a = some t → Cms wx (p8 < ·) Ax nx cx (tb2 t) ∧ M1 = a ∧ Am = A1 ∧ km = k1 ∧ cm = c1) (hO : RoS w wx DV p5 p7 p8 a b A1 k1 c1 A2 k2 c2 (smV ⟨[], 0, M1, 0, 0⟩ none 0 0 Am km cm)) :
    RoC2 w DV p5 p7 p8 a b A1 k1 c1 A2 k2 c2 AT (.slice Ax nx cx) (.bool CA) wx := by
 rw [cr_cnt_no hN] at hAT;refine ⟨Ax, nx, cx, rfl, ?_⟩
 cases ha : yT a with
 | none =>
   rw [ha] at hAT hCA;exact .inl ⟨by simpa using hAT, by rw [hCA]; rfl, _, hO⟩
 | some t =>
   rw [ha] at hAT hCA;obtain ⟨h1, rfl, rfl, rfl, rfl⟩ := hC t ha;exact .inr (.inl ⟨by simpa using hAT, by rw [hCA]; rfl, t, rfl, h1, hO⟩)
theorem rcopen_up {w : World} {S : Nat → Prop} {A : Option Addr} {nl c : Nat} {d : DM} (h : Strs w S A nl c d.l) (ok : d.Ok) (hnl : nl ≤ 24) (hn1 : 1 ≤ hn d) (hdn : d.down = false) :
    Calls Tryz.prog 8 #[.agg (dmV d A nl c)] w fun e w' => ROpPost w (zY d) e w' := by
 have hz := zero_sm;have hzl := yb;have hlen := h.len;obtain ⟨ZV, hZV⟩ := sqz (smV sm0 none 0 0 none 0 0);rw [← hZV] at hz;obtain ⟨ZL, hZL⟩ := sqz (lmV lm0 none 0 0);rw [← hZL] at hzl
 have her : zo nl d.down 0 (hn d : Int) = 0 := by
  have h1 := hn_err hn1 0 (by omega);rw [h.len, hdn] at h1
  simpa [hdn] using h1
 have her2 : zo nl d.down (hn d : Int) (hn d : Int) = 0 := by
  have h1 := hn_err hn1 1 (by omega);rw [h.len, hdn, Nat.one_mul] at h1;rw [hdn]
  simpa using h1
 have hop := fun (W : World) (hb : Below w.heap.size w W) => rwopen_any (w := W) (h.below hb) ok (by omega) 0 (hn d : Int)
 have hop2 := fun (W : World) (hb : Below w.heap.size w W) => rwopen_any (w := W) (h.below hb) ok (by omega) (hn d : Int) (hn d : Int)
 have hbg := fun (W : World) (hb : Below w.heap.size w W) (least : Nat) => rwbegin_any (w := W) (h.below hb) ok (by omega) 0 (hn d : Int) least
 rw [her] at hop hbg;rw [her2] at hop2;unfold yl at hop hop2;unfold xL at hbg;obtain ⟨a, ha⟩ := sqz (zT d 0);obtain ⟨b, hb⟩ := sqz (zT d 1);have ha2 : yd (zW d.l 0 (hn d : Int)) 0 (hn d : Int) = a := by rw [ha]; unfold zT; rw [Nat.zero_mul]; rfl
 have hb2 : yd (zW d.l (hn d : Int) (hn d : Int)) (hn d : Int) (hn d : Int) = b := by rw [hb]; unfold zT; rw [Nat.one_mul]
 simp only [if_true, ha2] at hop hbg;simp only [if_true, hb2] at hop2;have hal : ∀ x ∈ a.l, x.length ≤ 2640 := fun x hx => by have := cr_half_len 0 x (by rw [← ha]; exact hx); omega
 have hbl : ∀ x ∈ b.l, x.length ≤ 2640 := fun x hx => by have := cr_half_len 1 x (by rw [← hb]; exact hx); omega
 obtain ⟨AT, hAT⟩ := sqz (cntM (yT a).isSome (yT b).isSome a.first b.first)
 have HO : Hid (zY d = if AT = -1 then (⟨[], 0, zj a 0 (hn d : Int) b.next, 0, 0⟩, 0) else upEnd (if AT = 1 then 1 else 0) (if AT = 1 then b else a) (upM ((yT (if AT = 1 then b else a)).getD []) (if AT = 1 then b else a).l.tail)) := Lib.hid (by
  unfold zY;rw [if_neg (by omega), if_neg (by rw [hdn]; decide), ← ha, ← hb, hAT];simp only [Nat.zero_mul];rfl)
 have HFW : Hid (a.l.length ≤ 24 ∧ b.l.length ≤ 24) := Lib.hid ⟨by rw [ha]; exact cr_few 0 (by omega) (by omega) (by omega), by rw [hb]; exact cr_few 1 (by omega) (by omega) (by omega)⟩;have HBG := Lib.hid hbg;have HAB := sq3 hAT hal hbl;obtain ⟨DV, hDV⟩ := sqz (dmV d A nl c);rw [← hDV] at hop hop2 HBG ⊢;have hd0 := heap_alloc_new w (.cells DV 30);have hd1 := (heap_alloc_old (w.alloc (.cells DV 30)) (.cells ZV 41) (zB hd0)).trans hd0;have hz1 := heap_alloc_new (w.alloc (.cells DV 30)) (.cells ZV 41);rw [World.size_alloc] at hz1;have hb1 := zi w (.cells DV 30) (.cells ZV 41);have HV := sq3 hZV hDV hZL;obtain ⟨n, hn⟩ := sqz (hn d)
 have hq : IntKind.i64.wrap ((nl : Int) / 2) = (n : Int) := by
  have h1 : Go.Proofs.YtmioifcbkhpdaaaGreat.hn d = d.l.length / 2 := rfl;rw [IntWalk.i64_in _ (by omega)];omega
 rw [← hn] at hop hop2 hn1 HO HBG;have hn1' : ¬ (n : Int) < 1 := by omega
 have HOP2 := Lib.hid hop2;clear hZV hDV hZL h hn1 her her2 hdn ok hnl hn hal hbl hAT hbg ha hb ha2 hb2 hlen hop2
 go_enter Tryz.func8, Tryz.ntmps8
 go_upto_region 1 with fail
 have hs2 : ((w.alloc (.cells DV 30)).alloc (.cells ZV 41)).heap.size = w.heap.size + 2 := by simp
 generalize (w.alloc (.cells DV 30)).alloc (.cells ZV 41) = w2 at *
 have hc0 : w2.cell? ⟨w.heap.size, 0, none⟩ = some (.slice A nl c) := by rw [zA hd1, HV.out.2.1]; rfl
 have hopa := hop w2 hb1;have HZ := sq4 hd1 hz1 hb1 hs2;clear hd0 hd1 hz1 hb1 hop hs2
 go_upto_region 5 with (first
  | (refine yA 1 HZ.out.1 Tryz.underlying30 (by rw [HV.out.2.1]; exact zI) ?_)
  | (go_at_call 31; refine hopa.mono ?_; clear hopa; rintro _ w3 ⟨A1, k1, c1, rfl, hs3, hb3⟩; obtain ⟨RA, hRA⟩ := sqz (lmV a A1 k1 c1); rw [← hRA]; have H3 := sq3 hb3 hRA hs3; clear hb3 hRA hs3)
  | (refine zl 5 29 RA (heap_alloc_new w3 _) (by rw [H3.out.2.1]; exact zL) (by rw [H3.out.2.1, HV.out.2.2]; rfl) (by rw [H3.out.2.1]; exact zw _ _ _ _) ?_))
 have H4 : Hid (Below w.heap.size w ((w3.alloc (.cells ZL 39)).setRow w3.heap.size RA) ∧ Below w2.heap.size w2 ((w3.alloc (.cells ZL 39)).setRow w3.heap.size RA) ∧ ((w3.alloc (.cells ZL 39)).setRow w3.heap.size RA).heap[w3.heap.size]? = some (.cells RA 39 (0, 0)) ∧ Strs ((w3.alloc (.cells ZL 39)).setRow w3.heap.size RA) (fun k => w.heap.size + 2 ≤ k ∧ k < w3.heap.size) A1 k1 c1 a.l ∧ ((w3.alloc (.cells ZL 39)).setRow w3.heap.size RA).heap.size = w3.heap.size + 1 ∧ w.heap.size + 2 ≤ w3.heap.size) := Lib.hid (by
  have h2 := H3.out.1.size;have h3 := HZ.out.2.2.2;have hb4 : Below w2.heap.size w2 ((w3.alloc (.cells ZL 39)).setRow w3.heap.size RA) := zD (H3.out.1.alloc h2 _) (by omega) _;refine ⟨HZ.out.2.2.1.trans (hb4.mono (by omega)), hb4, zF (heap_alloc_new w3 _), ?_, by simp [World.setRow], by omega⟩;refine Strs.below ?_ (zD ((Below.refl _ _).alloc (Nat.le_refl _) _) (Nat.le_refl _) _);exact H3.out.2.2.mono fun k hk h => ⟨by omega, hk⟩)
 generalize (w3.alloc (.cells ZL 39)).setRow w3.heap.size RA = w4 at *
 obtain ⟨p5, hp5⟩ := sqz w3.heap.size;rw [← hp5] at H4 ⊢;have H3R := Lib.hid H3.out.2.1;clear H3 hp5 hc0;have hopb := HOP2.out w4 H4.out.1;have HD4 := Lib.hid ((H4.out.2.1.block _ (zB HZ.out.1)).trans HZ.out.1)
 go_upto_region 8 with (first
  | (refine yA 1 HD4.out Tryz.underlying30 (by rw [HV.out.2.1]; exact zI) ?_)
  | (go_at_call 31; refine hopb.mono ?_; clear hopb; rintro _ w5 ⟨A2, k2, c2, rfl, hs5, hb5⟩; obtain ⟨RB, hRB⟩ := sqz (lmV b A2 k2 c2); rw [← hRB]; have H5 := sq3 hb5 hRB hs5; clear hb5 hRB hs5)
  | (refine zl 7 40 RB (heap_alloc_new w5 _) (by rw [H5.out.2.1]; exact zL) (by rw [H5.out.2.1, HV.out.2.2]; rfl) (by rw [H5.out.2.1]; exact zw _ _ _ _) ?_))
 have H6 : Hid (RoS w (((w5.alloc (.cells ZL 39)).setRow w5.heap.size RB).alloc (.cells ZV 41)) DV p5 w5.heap.size ((w5.alloc (.cells ZL 39)).setRow w5.heap.size RB).heap.size a b A1 k1 c1 A2 k2 c2 (smV sm0 none 0 0 none 0 0)) := Lib.hid (by
  have h2 := H5.out.1.size;have h3 := HZ.out.2.2.2;have h4 := H4.out.2.2.2.2;have h5 := H4.out.2.1.size;have hb6 : Below w4.heap.size w4 ((w5.alloc (.cells ZL 39)).setRow w5.heap.size RB) := zD (H5.out.1.alloc h2 _) (by omega) _;have hs6 : ((w5.alloc (.cells ZL 39)).setRow w5.heap.size RB).heap.size = w5.heap.size + 1 := by simp [World.setRow]
  have hr6 : ((w5.alloc (.cells ZL 39)).setRow w5.heap.size RB).heap[w5.heap.size]? = some (.cells RB 39 (0, 0)) := zF (heap_alloc_new w5 _);have hst6 : Strs ((w5.alloc (.cells ZL 39)).setRow w5.heap.size RB) (fun k => w.heap.size + 2 ≤ k ∧ k < w5.heap.size) A2 k2 c2 b.l := Strs.below (H5.out.2.2.mono fun k hk h => ⟨by omega, hk⟩) (zD ((Below.refl _ _).alloc (Nat.le_refl _) _) (Nat.le_refl _) _);have hb7 := hb6.alloc hb6.size (.cells ZV 41);have hn7 := heap_alloc_new ((w5.alloc (.cells ZL 39)).setRow w5.heap.size RB) (.cells ZV 41)
  generalize (w5.alloc (.cells ZL 39)).setRow w5.heap.size RB = w6 at *
  have hb67 : Below w6.heap.size w6 (w6.alloc (.cells ZV 41)) := (Below.refl _ _).alloc (Nat.le_refl _) _;refine ⟨(hb7.block _ (by omega)).trans HD4.out, ?_, ?_, ?_, by rw [hn7, HV.out.1], by omega, by omega, by omega, ?_, ?_, H4.out.1.trans (hb7.mono (by omega))⟩
  ·rw [← HV.out.1];exact (hb7.block _ (by omega)).trans ((H4.out.2.1.block _ (zB HZ.out.2.1)).trans HZ.out.2.1)
  ·rw [← H3R.out];exact (hb7.block _ (by omega)).trans H4.out.2.2.1
  ·rw [← H5.out.2.1];exact (hb67.block _ (by omega)).trans hr6
  ·exact (H4.out.2.2.2.1.mono fun k hk h => ⟨h.1, by omega⟩).below hb7
  ·exact (hst6.mono fun k hk h => ⟨h.1, by omega⟩).below hb67)
 obtain ⟨p7, hp7⟩ := sqz w5.heap.size;rw [← hp7] at H6 ⊢;clear H4 HD4 H5 H3R HOP2 hp7
 generalize (w5.alloc (.cells ZL 39)).setRow p7 RB = w6 at *
 go_upto_region 13 with fail
 generalize hw7 : w6.alloc (.cells ZV 41) = w7 at *
 generalize w6.heap.size = p8 at *
 clear hw7;have hc5 : w7.cell? ⟨p5, 5, none⟩ = some (.slice A1 k1 c1) := by rw [zA H6.out.a5]; rfl
 go_upto_if 49 with fail
 go_cut [9, 10] from 46 to 59 (fun al fo wx => RoC1 w DV p5 p7 p8 a b A1 k1 c1 A2 k2 c2 al fo wx)
 case first =>
  rcases hal : a.l with _ | ⟨r, rest⟩
  ·(have hk : ¬ (k1 : Int) > 0 := by have h1 := H6.out.ra.len; rw [hal] at h1; simp at h1; omega);have HN : Hid (yT a = none) := Lib.hid (by unfold yT; rw [hal]);clear hal
   go_wp2_with fail
   go_meet
   exact ⟨none, 0, 0, lm0, none, 0, 0, rfl, by rw [HN.out]; rfl, fun t ht => (by rw [HN.out] at ht; cases ht), H6.out⟩
  ·(have hk : (k1 : Int) > 0 := by have h1 := H6.out.ra.len; rw [hal] at h1; simp at h1; omega);obtain ⟨bq, bo, rfl, _, _, hrc⟩ := H6.out.ra.row (by omega);have hc9 := hrc 0 (by omega);rw [hal, Nat.add_zero] at hc9;have hc9 : w7.cell? ⟨bq, bo, none⟩ = some (.string (st r)) := hc9;have hrd := rcread1_any r (Nat.le_trans (HAB.out.2.1 r (by rw [hal]; simp)) (by decide)) w7;have HA : Hid (yT a = raM r) := Lib.hid (by unfold yT; rw [hal]);clear hal hrc
   cases hra : raM r with
   | none =>
     rw [hra] at hrd HA;unfold RrPost at hrd;simp only [Option.map_none] at hrd;clear hra
     go_wp2_with (first
      | (go_at_call 32; refine hrd.mono ?_; clear hrd; rintro _ w8 ⟨⟨Ax, nx, cx, rfl⟩, hb8⟩; have H8 := Lib.hid (H6.out.later hb8); clear hb8)
      | (refine yA 5 H8.out.a5 Tryz.underlying39 zL ?_)
      | (refine wpList_store_log (by rfl) (.tmp 59) (.tmp 58) (by rfl) H8.out.s8 (by rfl) (by rfl) ?_))
     go_meet
     exact ⟨Ax, nx, cx, a, some ⟨bq, bo, none⟩, k1, c1, rfl, by rw [HA.out]; rfl, fun t ht => (by rw [HA.out] at ht; cases ht), H8.out.setS _⟩
   | some t =>
     rw [hra] at hrd HA;unfold RrPost at hrd;simp only [Option.map_some] at hrd;clear hra;obtain ⟨NT, hNT⟩ := sqz ((tb2 t).length);rw [← hNT] at hrd;clear hNT
     go_wp2_with (first
      | (go_at_call 32; refine hrd.mono ?_; clear hrd; rintro _ w8 ⟨⟨Ax, cx, rfl, hcm⟩, hb8⟩; have H8 := Lib.hid (H6.out.later hb8); have HC8 := Lib.hid hcm; clear hb8 hcm)
      | (refine yA 5 H8.out.a5 Tryz.underlying39 zL ?_)
      | (refine wpList_store_log (by rfl) (.tmp 59) (.tmp 58) (by rfl) H8.out.s8 (by rfl) (by rfl) ?_))
     go_meet
     refine ⟨Ax, NT, cx, a, some ⟨bq, bo, none⟩, k1, c1, rfl, by rw [HA.out]; rfl, fun t' ht => ?_, H8.out.setS _⟩;rw [HA.out] at ht;obtain rfl := Option.some.inj ht;refine ⟨(HC8.out.mono (T := (p8 < ·)) fun k _ h => ?_).turned (yV w8 p8 _) fun k _ hk e => ?_, rfl, rfl, rfl, rfl⟩
     ·have h1 := zB H6.out.s8;have h2 : w7.heap.size ≤ k := h;show p8 < k;omega
     ·have h2 : p8 < k := hk;have h3 : k = p8 := e;omega
 case rest =>
  obtain ⟨Ax, nx, cx, M1, Am, km, cm, rfl, rfl, hC, hO⟩ := hcut;have HC := Lib.hid hC;have HO1 := Lib.hid hO;clear hC hO H6 hc5;have hc7 : wc.cell? ⟨p7, 5, none⟩ = some (.slice A2 k2 c2) := by rw [zA HO1.out.b7]; rfl
  have hf7 : wc.cell? ⟨p7, 2, none⟩ = some (.int .u64 (b.first : Int)) := by rw [zA HO1.out.b7]; rfl
  have hf5 : wc.cell? ⟨p5, 2, none⟩ = some (.int .u64 (a.first : Int)) := by rw [zA HO1.out.a5]; rfl
  obtain ⟨CA, hCA⟩ := sqz ((yT a).isSome);rw [← hCA];have HCA := Lib.hid hCA;clear hCA
  go_upto_if 63 with fail
  go_cut [9, 10, 11, 12] from 60 to 87 (fun al fo _ _ wx => RoC2 w DV p5 p7 p8 a b A1 k1 c1 A2 k2 c2 AT al fo wx)
  case first =>
   rcases hal : b.l with _ | ⟨r, rest⟩
   ·(have hk : ¬ (k2 : Int) > 0 := by have h1 := HO1.out.rb.len; rw [hal] at h1; simp at h1; omega);have HN : Hid (yT b = none) := Lib.hid (by unfold yT; rw [hal]);clear hal
    go_wp2_with fail
    go_meet
    exact roC2_a HAB.out.1 HCA.out (.inl (by rw [HN.out]; rfl)) HC.out HO1.out
   ·(have hk : (k2 : Int) > 0 := by have h1 := HO1.out.rb.len; rw [hal] at h1; simp at h1; omega);obtain ⟨bq, bo, rfl, _, _, hrc⟩ := HO1.out.rb.row (by omega);have hc9 := hrc 0 (by omega);rw [hal, Nat.add_zero] at hc9;have hc9 : wc.cell? ⟨bq, bo, none⟩ = some (.string (st r)) := hc9;have hrd := rcread1_any r (Nat.le_trans (HAB.out.2.2 r (by rw [hal]; simp)) (by decide)) wc;have HA : Hid (yT b = raM r) := Lib.hid (by unfold yT; rw [hal]);clear hal hrc
    cases hra : raM r with
    | none =>
      rw [hra] at hrd HA;unfold RrPost at hrd;simp only [Option.map_none] at hrd;clear hra
      go_wp2_with (go_at_call 32; refine hrd.mono ?_; clear hrd; rintro _ w8 ⟨⟨Ay, ny, cy, rfl⟩, hb8⟩; have H8 := Lib.hid (HO1.out.later hb8); have HB8 := Lib.hid hb8; have hf7b : w8.cell? ⟨p7, 2, none⟩ = some (.int .u64 (b.first : Int)) := (by rw [zA H8.out.b7]; rfl); have hf5b : w8.cell? ⟨p5, 2, none⟩ = some (.int .u64 (a.first : Int)) := (by rw [zA H8.out.a5]; rfl); clear hb8 hf7 hf5 hc7 hc9)
      go_meet
      exact roC2_a HAB.out.1 HCA.out (.inl (by rw [HA.out]; rfl)) (fun t ht => by
       obtain ⟨h1, h2⟩ := HC.out t ht;exact ⟨h1.below HB8.out, h2⟩) H8.out
    | some t =>
      rw [hra] at hrd HA;unfold RrPost at hrd;simp only [Option.map_some] at hrd;clear hra;obtain ⟨NT, hNT⟩ := sqz ((tb2 t).length);rw [← hNT] at hrd;clear hNT
      cases hCb : CA with
      | false =>
        subst hCb
        go_wp2_with (first
         | (go_at_call 32; refine hrd.mono ?_; clear hrd; rintro _ w8 ⟨⟨Ay, cy, rfl, hcm⟩, hb8⟩; have H8 := Lib.hid (HO1.out.later hb8); have HC8 := Lib.hid hcm; have hf7b : w8.cell? ⟨p7, 2, none⟩ = some (.int .u64 (b.first : Int)) := (by rw [zA H8.out.b7]; rfl); have hf5b : w8.cell? ⟨p5, 2, none⟩ = some (.int .u64 (a.first : Int)) := (by rw [zA H8.out.a5]; rfl); clear hb8 hcm hf7 hf5 hc7 hc9)
         | (refine yA 7 H8.out.b7 Tryz.underlying39 zL ?_)
         | (refine wpList_store_log (by rfl) (.tmp 86) (.tmp 85) (by rfl) H8.out.s8 (by rfl) (by rfl) ?_; have H9 := Lib.hid (H8.out.setS (smV ⟨[], 0, b, 0, 0⟩ none 0 0 (some ⟨bq, bo, none⟩) k2 c2)); have hc10 := zA H9.out.s8 1; have hf10 := zC H9.out.s8 1))
        go_meet
        refine ⟨Ay, NT, cy, rfl, .inr (.inr ⟨?_, rfl, t, HA.out, ?_, H9.out.half⟩)⟩
        ·rw [HAB.out.1, HA.out];exact cr_cnt_yes (.inl HCA.out.symm)
        ·refine ((HC8.out.mono (T := (p8 < ·)) fun k _ h => ?_).turned (yV w8 p8 _) fun k _ hk e => ?_).turned (T := fun k => k = p8) ((Turned.refl (fun k => k = p8) _).set rfl 1 _) fun k _ hk e => ?_
         ·have h1 := zB HO1.out.s8;have h2 : wc.heap.size ≤ k := h;show p8 < k;omega
         ·have h2 : p8 < k := hk;have h3 : k = p8 := e;omega
         ·have h2 : p8 < k := hk;have h3 : k = p8 := e;omega
      | true =>
        subst hCb
        by_cases hff : (b.first : Int) > (a.first : Int)
        ·have HFF : Hid (a.first < b.first) := Lib.hid (by omega)
         go_wp2_with (first
          | (go_at_call 32; refine hrd.mono ?_; clear hrd; rintro _ w8 ⟨⟨Ay, cy, rfl, hcm⟩, hb8⟩; have H8 := Lib.hid (HO1.out.later hb8); have HC8 := Lib.hid hcm; have hf7b : w8.cell? ⟨p7, 2, none⟩ = some (.int .u64 (b.first : Int)) := (by rw [zA H8.out.b7]; rfl); have hf5b : w8.cell? ⟨p5, 2, none⟩ = some (.int .u64 (a.first : Int)) := (by rw [zA H8.out.a5]; rfl); clear hb8 hcm hf7 hf5 hc7 hc9)
          | (refine yA 7 H8.out.b7 Tryz.underlying39 zL ?_)
          | (refine wpList_store_log (by rfl) (.tmp 86) (.tmp 85) (by rfl) H8.out.s8 (by rfl) (by rfl) ?_; have H9 := Lib.hid (H8.out.setS (smV ⟨[], 0, b, 0, 0⟩ none 0 0 (some ⟨bq, bo, none⟩) k2 c2)); have hc10 := zA H9.out.s8 1; have hf10 := zC H9.out.s8 1))
         go_meet
         refine ⟨Ay, NT, cy, rfl, .inr (.inr ⟨?_, rfl, t, HA.out, ?_, H9.out.half⟩)⟩
         ·rw [HAB.out.1, HA.out];exact cr_cnt_yes (.inr HFF.out)
         ·refine ((HC8.out.mono (T := (p8 < ·)) fun k _ h => ?_).turned (yV w8 p8 _) fun k _ hk e => ?_).turned (T := fun k => k = p8) ((Turned.refl (fun k => k = p8) _).set rfl 1 _) fun k _ hk e => ?_
          ·have h1 := zB HO1.out.s8;have h2 : wc.heap.size ≤ k := h;show p8 < k;omega
          ·have h2 : p8 < k := hk;have h3 : k = p8 := e;omega
          ·have h2 : p8 < k := hk;have h3 : k = p8 := e;omega
        ·have HFF : Hid (¬ a.first < b.first) := Lib.hid (by omega)
         go_wp2_with (go_at_call 32; refine hrd.mono ?_; clear hrd; rintro _ w8 ⟨⟨Ay, cy, rfl, _⟩, hb8⟩; have H8 := Lib.hid (HO1.out.later hb8); have HB8 := Lib.hid hb8; have hf7b : w8.cell? ⟨p7, 2, none⟩ = some (.int .u64 (b.first : Int)) := (by rw [zA H8.out.b7]; rfl); have hf5b : w8.cell? ⟨p5, 2, none⟩ = some (.int .u64 (a.first : Int)) := (by rw [zA H8.out.a5]; rfl); clear hb8 hf7 hf5 hc7 hc9)
         go_meet
         exact roC2_a HAB.out.1 HCA.out (.inr ⟨HCA.out.symm, HFF.out⟩) (fun t ht => by
          obtain ⟨h1, h2⟩ := HC.out t ht;exact ⟨h1.below HB8.out, h2⟩) H8.out
  case rest =>
   obtain ⟨Ax, nx, cx, rfl, hcase⟩ := hcut;clear hc7 hf7 hf5 HC HO1 HCA;rcases hcase with ⟨hA, rfl, SV, hO⟩ | ⟨hA, rfl, t, ht, hcm, hO⟩ | ⟨hA, rfl, t, ht, hcm, hO⟩
   ·have HOP : Hid (zY d = (⟨[], 0, zj a 0 (n : Int) b.next, 0, 0⟩, 0)) := Lib.hid (by rw [HO.out, if_pos hA]);have HX := Lib.hid hO;(have hbe := HBG.out wc hO.bel b.next);(have hn7 : wc.cell? ⟨p7, 3, none⟩ = some (.int .u64 (b.next : Int)) := by rw [zA hO.b7]; rfl);(obtain ⟨MB, hMB⟩ : ∃ MB, MB = zj a 0 (n : Int) b.next := ⟨_, rfl⟩);rw [← hMB] at hbe HOP;have HML : Hid (MB.l = []) := Lib.hid (by rw [hMB]; simp [zj]);clear hO hA hMB HBG HO HAB
    go_upto_region 25 with (first
     | (refine yA 1 HX.out.dv Tryz.underlying30 (by rw [HV.out.2.1]; exact zI) ?_)
     | (go_at_call 33; refine hbe.mono ?_; clear hbe; rintro _ w8 ⟨rfl, hb8⟩; have H8 := Lib.hid (HX.out.later hb8); clear hb8)
     | (refine zl 13 96 (lmV MB none 0 0) (heap_alloc_new w8 _) zL (by rw [HV.out.2.2]; rfl) (zw _ _ _ _) ?_))
    clear hn7;have hb9 : Below w8.heap.size w8 ((w8.alloc (.cells ZL 39)).setRow w8.heap.size (lmV MB none 0 0)) := zD ((Below.refl _ _).alloc (Nat.le_refl _) _) (Nat.le_refl _) _;have hr9 : ((w8.alloc (.cells ZL 39)).setRow w8.heap.size (lmV MB none 0 0)).heap[w8.heap.size]? = some (.cells (lmV MB none 0 0) 39 (0, 0)) := zF (heap_alloc_new w8 _);have H9 := sq2 (H8.out.later hb9) hr9;clear hb9 hr9
    generalize (w8.alloc (.cells ZL 39)).setRow w8.heap.size (lmV MB none 0 0) = w9 at *
    generalize w8.heap.size = p13 at *
    go_wp2_with (first
     | (refine yA 13 H9.out.2 Tryz.underlying39 zL ?_)
     | (refine wpList_cs_build (by rfl) 41 2 (.tmp 98) (by rfl) (by rfl) (sm_build MB none 0 0 w9) ?_)
     | (refine zl 2 99 (smV ⟨[], 0, MB, 0, 0⟩ none 0 0 none 0 0) H9.out.1.zv za rfl (yL _ _ _ _ _ _ _) ?_))
    (try simp only [Exit.inBlock, Exit.then])
    refine bodyPost_ret (sm_result (p := 2) (u := 3) rfl _ _ (w.heap.size + 1) (smV ⟨[], 0, MB, 0, 0⟩ none 0 0 none 0 0) rfl (zF H9.out.1.zv) rfl) rfl ?_;rw [HOP.out];exact ⟨none, 0, 0, none, 0, 0, rfl, Cms.nil _ _ _ _ (Nat.zero_le _), by rw [HML.out]; exact Strs.nil _ _ _ _ (Nat.zero_le _), zD H9.out.1.bel (by omega) _⟩
   ·obtain ⟨r0, rest, hml⟩ : ∃ r0 rest, a.l = r0 :: rest := by
      unfold yT at ht;rcases hq : a.l with _ | ⟨r0, rest⟩
      ·rw [hq] at ht; cases ht
      ·exact ⟨r0, rest, rfl⟩
    (have hra : raM r0 = some t := by unfold yT at ht; rw [hml] at ht; exact ht);have HOP : Hid (zY d = upEnd 0 a (upM t rest)) := Lib.hid (by rw [HO.out, hA, if_neg (by decide)]; simp [ht, hml]);have HX := Lib.hid hO;have HRL : Hid ((∀ x ∈ rest, x.length ≤ 2640) ∧ rest.length + 1 = k1 ∧ rest.length ≤ 24 ∧ a.l = r0 :: rest) := Lib.hid ⟨fun x hx => HAB.out.2.1 x (by rw [hml]; simp [hx]), by have h1 := hO.ra.len; rw [hml] at h1; simpa using h1, by have h1 := HFW.out.1; rw [hml] at h1; simp at h1; omega, hml⟩;have htl : t.length ≤ 2640 := Nat.le_trans (raM_may hra).1 (HAB.out.2.1 r0 (by rw [hml]; simp));have HTS := sq2 (raM_srt hra) htl;have hdo := rdo_any (w := wc) (t := []) (l := tb2 t) (show Cms wc (fun _ => False) none 0 0 (tb2 []) from Cms.nil _ _ _ _ (Nat.zero_le _)) Srt.nil hcm (by have := hcm.len; have := tb2_len t; omega);rw [doL_all hra] at hdo;clear hO hcm hA hml hra ht htl HBG HO HAB
    go_upto_region 27 with (go_at_call 34; refine hdo.mono ?_; clear hdo; rintro _ w8 ⟨At, nt, ct, rfl, hm8, hb8⟩; have H8 := Lib.hid (HX.out.later hb8); have HM8 := Lib.hid hm8; have hc0 := zA H8.out.s8 0; have hf0 := zC H8.out.s8 0; clear hb8 hm8)
    have H0 : Hid (RoL w DV p5 p7 p8 a b A1 k1 c1 A2 k2 c2 a 0 A1 k1 c1 t rest (.int .i64 1) (w8.setCell ⟨p8, 0, none⟩ (.slice At nt ct))) := Lib.hid ⟨0, t, At, nt, ct, rfl, Nat.zero_le _, rfl, HTS.out.1, by have := HTS.out.2; omega, (HM8.out.mono (T := (p8 < ·)) fun k _ h => by
     have h1 := zB HX.out.s8;rcases h with h | h
     ·exact h.elim
     ·show p8 < k; omega).turned (T := fun k => k = p8) ((Turned.refl (fun k => k = p8) _).set rfl 0 _) fun k _ hk e => by
      have h2 : p8 < k := hk;have h3 : k = p8 := e;omega, H8.out.setT t At nt ct⟩
    clear hc0 hf0 H8 HM8 HX
    generalize w8.setCell ⟨p8, 0, none⟩ (.slice At nt ct) = w9 at *
    go_wp2_with fail
    go_loopw [15] (fun i wr => RoL w DV p5 p7 p8 a b A1 k1 c1 A2 k2 c2 a 0 A1 k1 c1 t rest i wr) (fun i _ => k1 - (intOf i).toNat)
    case atStart => exact H0.out
    case round =>
     obtain ⟨j, t', Au, nu, cu, rfl, hj, hup, hsr, htl, hcm, hS⟩ := hrel;clear H0;have HS := Lib.hid hS;have HJ := sq4 hup hsr htl hcm;(have hc7 : wr.cell? ⟨p8, 7, none⟩ = some (.slice A1 k1 c1) := by rw [zA hS.s8]; rfl);clear hS hup hsr htl hcm
     by_cases hlt : j < rest.length
     ·have hdrop := List.drop_eq_getElem_cons hlt;have hrj : rest[j]? = some rest[j] := List.getElem?_eq_getElem hlt;obtain ⟨rj, hrje⟩ := sqz (rest[j]);rw [← hrje] at hdrop hrj;(have hlt' : ((j + 1 : Nat) : Int) < (k1 : Int) := by have := HRL.out.2.1; omega);obtain ⟨bq, bo, hAe, _, _, hrc⟩ := HS.out.ra.row (by have := HRL.out.2.1; omega);have hcj := hrc (j + 1) (by have := HRL.out.2.1; omega);rw [HRL.out.2.2.2, List.getElem?_cons_succ, hrj] at hcj;have hcj : wr.cell? ⟨bq, bo + (j + 1), none⟩ = some (.string (st rj)) := hcj;subst hAe;have hadd := IntWalk.i64_in ((j : Int) + 1 + 1) (by have := HRL.out.2.2.1; omega);have hrjl := HRL.out.1 rj (List.mem_of_getElem? hrj);have hrd := rcread2_any rj (Nat.le_trans hrjl (by decide)) wr;have HDR := sq3 hdrop hrjl hlt;clear hrc hrj hdrop hrjl hrje
      cases hrm : rcM rj with
      | none =>
        rw [hrm] at hrd;unfold RrPost at hrd;simp only at hrd;have HR : Hid (zY d = (sm0, 37)) := Lib.hid (by rw [HOP.out, HJ.out.1, HDR.out.1, upM, hrm]; rfl);clear hrm hlt hj
        go_wp2_with (first
         | (go_at_call 32; refine hrd.mono ?_; clear hrd; rintro _ w8 ⟨⟨Ay, ny, cy, rfl⟩, hb8⟩; have H8 := Lib.hid (HS.out.later hb8); clear hb8 hc7 hcj)
         | (refine zl 2 124 ZV H8.out.zv (by rw [HV.out.1]; exact za) (by rw [HV.out.1]) (by rw [HV.out.1]; exact yL _ _ _ _ _ _ _) ?_))
        (try simp only [Exit.inBlock, Exit.then])
        refine bodyPost_ret (sm_result (p := 2) (u := 3) rfl _ _ (w.heap.size + 1) ZV rfl (zF H8.out.zv) (by rw [HV.out.1]; rfl)) rfl ?_;rw [HV.out.1];exact ropPost_err HR.out (zD H8.out.bel (by omega) _)
      | some l =>
        rw [hrm] at hrd;unfold RrPost at hrd;simp only at hrd;have hll := (rcM_may hrm).2.1;obtain ⟨NL, hNL⟩ := sqz l.length;rw [← hNL] at hrd;have HL := sq3 (show l.length ≤ 2640 from Nat.le_trans hll HDR.out.2.1) hNL hrm;clear hrm hlt hj hll hNL
        go_wp2_with (first
         | (go_at_call 32; refine hrd.mono ?_; clear hrd; rintro _ w8 ⟨⟨Ay, cy, rfl, hcm8⟩, hb8⟩
            have H8 := Lib.hid (HS.out.later hb8);(have hc0a : w8.cell? ⟨p8, 0, none⟩ = some (.slice Au nu cu) := by rw [zA H8.out.s8]; rfl)
            have hdo := rdo_any (HJ.out.2.2.2.below hb8) HJ.out.2.1 hcm8 (by
             have h1 := HJ.out.2.2.2.len;have h2 := tb2_len t';have h3 := HJ.out.2.2.1;have h4 := HL.out.1;have h5 := HL.out.2.1;have h6 := HDR.out.2.2;have h7 := HRL.out.2.2.1;omega)
            have HB8 := Lib.hid hb8.size;clear hb8 hcm8 hc7 hcj)
         | (go_at_call 34; refine hdo.mono ?_; clear hdo; rintro _ w9 ⟨A9, n9, c9, rfl, hm9, hb9⟩
            have H9 := Lib.hid (H8.out.later hb9);have HM9 := Lib.hid hm9;have hc0 := zA H9.out.s8 0;have hf0 := zC H9.out.s8 0;clear hb9 hm9 hc0a))
        go_roundw
        case rel =>
         have hp8 := zB HS.out.s8;have hs8 := HB8.out
         refine ⟨j + 1, doL t' l, A9, n9, c9, by simp, by have := HDR.out.2.2; omega, by rw [HJ.out.1, HDR.out.1, upM, HL.out.2.2], HJ.out.2.1.chs l, by
          have h1 := doL_len t' HJ.out.2.1 l;have h2 := HJ.out.2.2.1;have h3 := HL.out.1;omega, (HM9.out.mono (T := (p8 < ·)) fun k _ h => ?_).turned (T := fun k => k = p8) ((Turned.refl (fun k => k = p8) _).set rfl 0 _) fun k _ hk e => ?_, H9.out.setT _ _ _ _⟩
         ·rcases h with h | h
          ·exact h
          ·show p8 < k; omega
         ·have h2 : p8 < k := hk;have h3 : k = p8 := e;omega
        case measure => have := HDR.out.2.2; have := HRL.out.2.1; simp only [intOf]; omega
     ·(have hlt' : ¬ (((j + 1 : Nat) : Int) < (k1 : Int)) := by have := HRL.out.2.1; omega);have HR : Hid (zY d = (⟨t', 0, a, 0, 0⟩, 0)) := Lib.hid (by rw [HOP.out, HJ.out.1, List.drop_eq_nil_of_le (by omega)]; rfl);clear hlt hj
      go_wp2_with (first
       | (refine yA 8 HS.out.s8 Tryz.underlying41 za ?_)
       | (refine zl 2 130 (smV ⟨t', 0, a, 0, 0⟩ Au nu cu A1 k1 c1) HS.out.zv za rfl (yL _ _ _ _ _ _ _) ?_))
      (try simp only [Exit.inBlock, Exit.then])
      refine bodyPost_ret (sm_result (p := 2) (u := 3) rfl _ _ (w.heap.size + 1) (smV ⟨t', 0, a, 0, 0⟩ Au nu cu A1 k1 c1) rfl (zF HS.out.zv) rfl) rfl ?_;rw [HR.out];have h5 := HS.out.o5;have h7 := HS.out.o7;have h8 := HS.out.o8;exact ⟨Au, nu, cu, A1, k1, c1, rfl, (HJ.out.2.2.2.mono (T := fun k => w.heap.size + 2 ≤ k) fun k _ h => (by have h2 : p8 < k := h; omega)).turned (yV wr (w.heap.size + 1) _) (fun k _ hk e => by omega) |>.mono fun k _ h => (by omega), (HS.out.ra.turned (yV wr (w.heap.size + 1) _) fun k _ hk e => by omega).mono fun k _ h => (by omega), zD HS.out.bel (by omega) _⟩
   ·obtain ⟨r0, rest, hml⟩ : ∃ r0 rest, b.l = r0 :: rest := by
      unfold yT at ht;rcases hq : b.l with _ | ⟨r0, rest⟩
      ·rw [hq] at ht; cases ht
      ·exact ⟨r0, rest, rfl⟩
    (have hra : raM r0 = some t := by unfold yT at ht; rw [hml] at ht; exact ht);have HOP : Hid (zY d = upEnd 1 b (upM t rest)) := Lib.hid (by rw [HO.out, hA, if_neg (by decide)]; simp [ht, hml]);have HX := Lib.hid hO;have HRL : Hid ((∀ x ∈ rest, x.length ≤ 2640) ∧ rest.length + 1 = k2 ∧ rest.length ≤ 24 ∧ b.l = r0 :: rest) := Lib.hid ⟨fun x hx => HAB.out.2.2 x (by rw [hml]; simp [hx]), by have h1 := hO.rb.len; rw [hml] at h1; simpa using h1, by have h1 := HFW.out.2; rw [hml] at h1; simp at h1; omega, hml⟩;have htl : t.length ≤ 2640 := Nat.le_trans (raM_may hra).1 (HAB.out.2.2 r0 (by rw [hml]; simp));have HTS := sq2 (raM_srt hra) htl;have hdo := rdo_any (w := wc) (t := []) (l := tb2 t) (show Cms wc (fun _ => False) none 0 0 (tb2 []) from Cms.nil _ _ _ _ (Nat.zero_le _)) Srt.nil hcm (by have := hcm.len; have := tb2_len t; omega);rw [doL_all hra] at hdo;clear hO hcm hA hml hra ht htl HBG HO HAB
    go_upto_region 27 with (go_at_call 34; refine hdo.mono ?_; clear hdo; rintro _ w8 ⟨At, nt, ct, rfl, hm8, hb8⟩; have H8 := Lib.hid (HX.out.later hb8); have HM8 := Lib.hid hm8; have hc0 := zA H8.out.s8 0; have hf0 := zC H8.out.s8 0; clear hb8 hm8)
    have H0 : Hid (RoL w DV p5 p7 p8 a b A1 k1 c1 A2 k2 c2 b 1 A2 k2 c2 t rest (.int .i64 1) (w8.setCell ⟨p8, 0, none⟩ (.slice At nt ct))) := Lib.hid ⟨0, t, At, nt, ct, rfl, Nat.zero_le _, rfl, HTS.out.1, by have := HTS.out.2; omega, (HM8.out.mono (T := (p8 < ·)) fun k _ h => by
     have h1 := zB HX.out.s8;rcases h with h | h
     ·exact h.elim
     ·show p8 < k; omega).turned (T := fun k => k = p8) ((Turned.refl (fun k => k = p8) _).set rfl 0 _) fun k _ hk e => by
      have h2 : p8 < k := hk;have h3 : k = p8 := e;omega, H8.out.setT t At nt ct⟩
    clear hc0 hf0 H8 HM8 HX
    generalize w8.setCell ⟨p8, 0, none⟩ (.slice At nt ct) = w9 at *
    go_wp2_with fail
    go_loopw [15] (fun i wr => RoL w DV p5 p7 p8 a b A1 k1 c1 A2 k2 c2 b 1 A2 k2 c2 t rest i wr) (fun i _ => k2 - (intOf i).toNat)
    case atStart => exact H0.out
    case round =>
     obtain ⟨j, t', Au, nu, cu, rfl, hj, hup, hsr, htl, hcm, hS⟩ := hrel;clear H0;have HS := Lib.hid hS;have HJ := sq4 hup hsr htl hcm;(have hc7 : wr.cell? ⟨p8, 7, none⟩ = some (.slice A2 k2 c2) := by rw [zA hS.s8]; rfl);clear hS hup hsr htl hcm
     by_cases hlt : j < rest.length
     ·have hdrop := List.drop_eq_getElem_cons hlt;have hrj : rest[j]? = some rest[j] := List.getElem?_eq_getElem hlt;obtain ⟨rj, hrje⟩ := sqz (rest[j]);rw [← hrje] at hdrop hrj;(have hlt' : ((j + 1 : Nat) : Int) < (k2 : Int) := by have := HRL.out.2.1; omega);obtain ⟨bq, bo, hAe, _, _, hrc⟩ := HS.out.rb.row (by have := HRL.out.2.1; omega);have hcj := hrc (j + 1) (by have := HRL.out.2.1; omega);rw [HRL.out.2.2.2, List.getElem?_cons_succ, hrj] at hcj;have hcj : wr.cell? ⟨bq, bo + (j + 1), none⟩ = some (.string (st rj)) := hcj;subst hAe;have hadd := IntWalk.i64_in ((j : Int) + 1 + 1) (by have := HRL.out.2.2.1; omega);have hrjl := HRL.out.1 rj (List.mem_of_getElem? hrj);have hrd := rcread2_any rj (Nat.le_trans hrjl (by decide)) wr;have HDR := sq3 hdrop hrjl hlt;clear hrc hrj hdrop hrjl hrje
      cases hrm : rcM rj with
      | none =>
        rw [hrm] at hrd;unfold RrPost at hrd;simp only at hrd;have HR : Hid (zY d = (sm0, 37)) := Lib.hid (by rw [HOP.out, HJ.out.1, HDR.out.1, upM, hrm]; rfl);clear hrm hlt hj
        go_wp2_with (first
         | (go_at_call 32; refine hrd.mono ?_; clear hrd; rintro _ w8 ⟨⟨Ay, ny, cy, rfl⟩, hb8⟩; have H8 := Lib.hid (HS.out.later hb8); clear hb8 hc7 hcj)
         | (refine zl 2 124 ZV H8.out.zv (by rw [HV.out.1]; exact za) (by rw [HV.out.1]) (by rw [HV.out.1]; exact yL _ _ _ _ _ _ _) ?_))
        (try simp only [Exit.inBlock, Exit.then])
        refine bodyPost_ret (sm_result (p := 2) (u := 3) rfl _ _ (w.heap.size + 1) ZV rfl (zF H8.out.zv) (by rw [HV.out.1]; rfl)) rfl ?_;rw [HV.out.1];exact ropPost_err HR.out (zD H8.out.bel (by omega) _)
      | some l =>
        rw [hrm] at hrd;unfold RrPost at hrd;simp only at hrd;have hll := (rcM_may hrm).2.1;obtain ⟨NL, hNL⟩ := sqz l.length;rw [← hNL] at hrd;have HL := sq3 (show l.length ≤ 2640 from Nat.le_trans hll HDR.out.2.1) hNL hrm;clear hrm hlt hj hll hNL
        go_wp2_with (first
         | (go_at_call 32; refine hrd.mono ?_; clear hrd; rintro _ w8 ⟨⟨Ay, cy, rfl, hcm8⟩, hb8⟩
            have H8 := Lib.hid (HS.out.later hb8);(have hc0a : w8.cell? ⟨p8, 0, none⟩ = some (.slice Au nu cu) := by rw [zA H8.out.s8]; rfl)
            have hdo := rdo_any (HJ.out.2.2.2.below hb8) HJ.out.2.1 hcm8 (by
             have h1 := HJ.out.2.2.2.len;have h2 := tb2_len t';have h3 := HJ.out.2.2.1;have h4 := HL.out.1;have h5 := HL.out.2.1;have h6 := HDR.out.2.2;have h7 := HRL.out.2.2.1;omega)
            have HB8 := Lib.hid hb8.size;clear hb8 hcm8 hc7 hcj)
         | (go_at_call 34; refine hdo.mono ?_; clear hdo; rintro _ w9 ⟨A9, n9, c9, rfl, hm9, hb9⟩
            have H9 := Lib.hid (H8.out.later hb9);have HM9 := Lib.hid hm9;have hc0 := zA H9.out.s8 0;have hf0 := zC H9.out.s8 0;clear hb9 hm9 hc0a))
        go_roundw
        case rel =>
         have hp8 := zB HS.out.s8;have hs8 := HB8.out
         refine ⟨j + 1, doL t' l, A9, n9, c9, by simp, by have := HDR.out.2.2; omega, by rw [HJ.out.1, HDR.out.1, upM, HL.out.2.2], HJ.out.2.1.chs l, by
          have h1 := doL_len t' HJ.out.2.1 l;have h2 := HJ.out.2.2.1;have h3 := HL.out.1;omega, (HM9.out.mono (T := (p8 < ·)) fun k _ h => ?_).turned (T := fun k => k = p8) ((Turned.refl (fun k => k = p8) _).set rfl 0 _) fun k _ hk e => ?_, H9.out.setT _ _ _ _⟩
         ·rcases h with h | h
          ·exact h
          ·show p8 < k; omega
         ·have h2 : p8 < k := hk;have h3 : k = p8 := e;omega
        case measure => have := HDR.out.2.2; have := HRL.out.2.1; simp only [intOf]; omega
     ·(have hlt' : ¬ (((j + 1 : Nat) : Int) < (k2 : Int)) := by have := HRL.out.2.1; omega);have HR : Hid (zY d = (⟨t', 1, b, 0, 0⟩, 0)) := Lib.hid (by rw [HOP.out, HJ.out.1, List.drop_eq_nil_of_le (by omega)]; rfl);clear hlt hj
      go_wp2_with (first
       | (refine yA 8 HS.out.s8 Tryz.underlying41 za ?_)
       | (refine zl 2 130 (smV ⟨t', 1, b, 0, 0⟩ Au nu cu A2 k2 c2) HS.out.zv za rfl (yL _ _ _ _ _ _ _) ?_))
      (try simp only [Exit.inBlock, Exit.then])
      refine bodyPost_ret (sm_result (p := 2) (u := 3) rfl _ _ (w.heap.size + 1) (smV ⟨t', 1, b, 0, 0⟩ Au nu cu A2 k2 c2) rfl (zF HS.out.zv) rfl) rfl ?_;rw [HR.out];have h5 := HS.out.o5;have h7 := HS.out.o7;have h8 := HS.out.o8;exact ⟨Au, nu, cu, A2, k2, c2, rfl, (HJ.out.2.2.2.mono (T := fun k => w.heap.size + 2 ≤ k) fun k _ h => (by have h2 : p8 < k := h; omega)).turned (yV wr (w.heap.size + 1) _) (fun k _ hk e => by omega) |>.mono fun k _ h => (by omega), (HS.out.rb.turned (yV wr (w.heap.size + 1) _) fun k _ hk e => by omega).mono fun k _ h => (by omega), zD HS.out.bel (by omega) _⟩
theorem rcopen_any {w : World} {S : Nat → Prop} {A : Option Addr} {nl c : Nat} {d : DM} (h : Strs w S A nl c d.l) (ok : d.Ok) (hnl : nl ≤ 24) :
    Calls Tryz.prog 8 #[.agg (dmV d A nl c)] w fun e w' => ROpPost w (zY d) e w' := by
 by_cases h1 : hn d < 1
 ·exact rcopen_few h h1
 ·cases hd : d.down with
  | true => exact rcopen_down h ok (by omega) (by omega) hd
  | false => exact rcopen_up h ok hnl (by omega) hd
theorem cr_scan_sum : ∀ (bs : List (List UInt8)) (i : Nat) (s : WS) (B : Nat), s.recs.flatten.length + s.now.length + 110 * bs.length ≤ B → (zk bs i s).recs.flatten.length ≤ B
 | [], _, _, _, h => by rw [zk]; omega
 | b :: bs, i, s, B, h => by
   rw [zk];rw [List.length_cons] at h
   split
   ·omega
   ·have h1 := (readL_small b).2;refine cr_scan_sum bs _ _ B ?_;unfold zf
    split
    ·show (s.recs ++ [s.now ++ (ze b).2.1]).flatten.length + 0 + 110 * bs.length ≤ B;rw [List.flatten_append, List.length_append];simp only [List.flatten_cons, List.flatten_nil, List.append_nil, List.length_append];omega
    ·show s.recs.flatten.length + (s.now ++ (ze b).2.1).length + 110 * bs.length ≤ B;rw [List.length_append];omega
theorem cr_half_sum {d : DM} (i : Nat) : (zT d i).l.flatten.length ≤ 110 * d.l.length := by
 have h2 : (zW d.l ((i * hn d : Nat) : Int) ((hn d : Nat) : Int)).length ≤ d.l.length := by
  unfold zW;rw [List.length_take, List.length_drop];omega
 unfold zT yd;exact cr_scan_sum _ 0 ws0 _ (by show 0 + 0 + _ ≤ _; omega)
theorem upM_wt : ∀ (bs : List (List UInt8)) (t : Tb) {t' : Tb}, upM t bs = some t' → wtT t' ≤ wtT t + 22 * bs.flatten.length
 | [], t, t', h => by
   rw [upM] at h;obtain rfl := Option.some.inj h;omega
 | b :: bs, t, t', h => by
   rw [upM] at h
   cases hr : rcM b with
   | none => rw [hr] at h; cases h
   | some l =>
     rw [hr] at h;have h1 := upM_wt bs _ h;have h2 := (rcM_may hr).2.2;have h3 := wtT_doL l t;rw [List.flatten_cons, List.length_append];omega
theorem upM_srt : ∀ (bs : List (List UInt8)) (t : Tb) {t' : Tb}, Srt t → upM t bs = some t' → Srt t'
 | [], t, t', hs, h => by
   rw [upM] at h;obtain rfl := Option.some.inj h;exact hs
 | b :: bs, t, t', hs, h => by
   rw [upM] at h
   cases hr : rcM b with
   | none => rw [hr] at h; cases h
   | some l => rw [hr] at h; exact upM_srt bs _ (hs.chs l) h
theorem half_wt {d : DM} (i : Nat) (hl : d.l.length ≤ 24) {t t' : Tb} (ha : yT (zT d i) = some t) (hu : upM t (zT d i).l.tail = some t') : wtT t' ≤ 58080 ∧ Srt t' := by
 have h1 := cr_half_sum (d := d) i;unfold yT at ha;rcases hq : (zT d i).l with _ | ⟨r, rest⟩
 ·rw [hq] at ha; cases ha
 ·rw [hq] at ha hu h1;have h2 := (raM_may ha).2;have h3 := upM_wt rest t hu;rw [List.flatten_cons, List.length_append] at h1;exact ⟨by omega, upM_srt rest t (raM_srt ha) hu⟩
theorem openC_wt {d : DM} (hl : d.l.length ≤ 24) (h : (zY d).2 = 0) : wtT (zY d).1.t ≤ 58080 ∧ Srt (zY d).1.t ∧ (zY d).1.turns = 0 ∧ (zY d).1.e = 0 ∧ 1 ≤ hn d := by
 unfold zY at h ⊢
 split at h
 ·simp at h
 ·rename_i hn1
  split at h
  ·simp at h
  ·rename_i hdn
   rw [if_neg hn1, if_neg hdn];simp only at h ⊢;rcases cr_cnt (yT (zT d 0)) (yT (zT d 1)) (zT d 0).first (zT d 1).first with ⟨hc, _, _⟩ | ⟨hc, t, ht⟩ | ⟨hc, t, ht⟩
   ·rw [hc, if_pos rfl];exact ⟨by simp [wtT], Srt.nil, rfl, rfl, by omega⟩
   ·rw [hc] at h ⊢;simp only [show ¬ ((0 : Int) = -1) by decide, show ¬ ((0 : Int) = 1) by decide, if_false, ht, Option.getD_some] at h ⊢
    cases hu : upM t (zT d 0).l.tail with
    | none => rw [hu] at h; simp [upEnd] at h
    | some t' =>
      obtain ⟨h1, h2⟩ := half_wt 0 hl ht hu;exact ⟨h1, h2, rfl, rfl, by omega⟩
   ·rw [hc] at h ⊢;simp only [show ¬ ((1 : Int) = -1) by decide, if_true, if_false, ht, Option.getD_some] at h ⊢
    cases hu : upM t (zT d 1).l.tail with
    | none => rw [hu] at h; simp [upEnd] at h
    | some t' =>
      obtain ⟨h1, h2⟩ := half_wt 1 hl ht hu;exact ⟨h1, h2, rfl, rfl, by omega⟩
theorem applyC_t (d : DM) (s : SM) (l : List Ch) : (zg d s l).2.1.t = s.t ∨ (zg d s l).2.1.t = doL s.t l := by
 have h : (zJ d s l).2.1.t = s.t := by
  unfold zJ
  split
  ·rfl
  ·unfold yy
   split
   ·rfl
   ·split
    ·rfl
    ·rfl
 unfold zg
 split
 ·exact .inl rfl
 ·split
  ·exact .inr rfl
  ·left
   show (if (zJ d s l).2.2 = 31 then (zJ d s l).2.1 else { (zJ d s l).2.1 with e := (zJ d s l).2.2 }).t = s.t
   split
   ·exact h
   ·exact h
def FOk (m : LM) : Prop := (m.l = [] → m.first = 0 ∧ m.have_ = 0) ∧ (m.l ≠ [] → m.first ≠ 0 ∧ m.have_ ≠ 0)
theorem FOk.add {d : DM} {m : LM} {b : List UInt8} (h : FOk m) : FOk (yJ d m b).2.1 := by
 unfold yJ
 split
 ·exact h
 ·split
  ·exact h
  ·split
   ·exact h
   ·rename_i hx
    simp only;have hb := blocksN_one b.length
    split
    ·refine ⟨fun e => ?_, fun _ => ?_⟩
     ·simp [addOk] at e
     ·unfold addOk;simp only;refine ⟨?_, by omega⟩
      split
      ·omega
      ·rename_i hh
       rcases hl : m.l with _ | ⟨r, rest⟩
       ·exact absurd (h.1 hl).2 hh
       ·exact (h.2 (by rw [hl]; simp)).1
    ·exact h
theorem FOk.begin (M : LM) (f n : Int) (x : Nat) : FOk (zj M f n x) := ⟨fun _ => ⟨rfl, rfl⟩, fun h => absurd rfl h⟩
theorem scan_fok : ∀ (bs : List (List UInt8)) (i : Nat) (s : WS), (s.recs = [] → s.first = 0 ∧ s.have_ = 0) → (s.recs ≠ [] → s.first ≠ 0 ∧ s.have_ ≠ 0) → (0 < i → s.fst ≠ 0) →
    ((zk bs i s).recs = [] → (zk bs i s).first = 0 ∧ (zk bs i s).have_ = 0) ∧ ((zk bs i s).recs ≠ [] → (zk bs i s).first ≠ 0 ∧ (zk bs i s).have_ ≠ 0)
 | [], i, s, h1, h2, _ => by rw [zk]; exact ⟨h1, h2⟩
 | b :: bs, i, s, h1, h2, h3 => by
   rw [zk]
   split
   ·exact ⟨h1, h2⟩
   ·rename_i hb
    have hk : (ze b).1 ≠ 0 := by
     intro e;apply hb;unfold badW;simp [e]
    unfold zf
    split
    ·refine scan_fok bs (i + 1) _ (fun e => ?_) (fun _ => ?_) (fun _ => ?_)
     ·simp at e
     ·simp only;refine ⟨?_, by omega⟩
      split
      ·exact hk
      ·exact h3 (by omega)
     ·simp only
      split
      ·exact hk
      ·exact h3 (by omega)
    ·refine scan_fok bs (i + 1) _ h1 h2 (fun _ => ?_);simp only
     split
     ·exact hk
     ·exact h3 (by omega)
theorem FOk.open_ (bs : List (List UInt8)) (f n : Int) : FOk (yd bs f n) := scan_fok bs 0 ws0 (fun _ => ⟨rfl, rfl⟩) (fun h => absurd rfl h) (fun h => absurd h (by omega))
structure SInv (s : SM) (X : Nat) : Prop where
 ok : SOk s
 fst : FOk s.log
 srt : Srt s.t
 wt : wtT s.t ≤ 58080 + 768 * X
 tn : s.turns ≤ X
theorem half_ok {d : DM} (h1 : 1 ≤ hn d) (h2 : d.l.length ≤ 24) (i : Nat) (hi : i ≤ 1) : (zT d i).Ok := by
 have e : hn d = d.l.length / 2 := rfl;have h3 : i * hn d ≤ hn d := by rcases (show i = 0 ∨ i = 1 by omega) with rfl | rfl <;> omega
 exact openM_ok (by omega) h1 (by omega) (by omega)
theorem openC_inv {d : DM} (hl : d.l.length ≤ 24) (h : (zY d).2 = 0) : SInv (zY d).1 0 ∧ 1 ≤ hn d ∧ (zY d).1.e = 0 := by
 obtain ⟨w1, w2, w3, w4, w5⟩ := openC_wt hl h;have ho0 := half_ok w5 hl 0 (by omega);have ho1 := half_ok w5 hl 1 (by omega)
 have hm : SOk (zY d).1 ∧ FOk (zY d).1.log := by
  unfold zY at h ⊢;rw [if_neg (by omega)] at h ⊢
  split at h
  ·simp at h
  ·rename_i hdn
   rw [if_neg hdn];simp only at h ⊢;rcases cr_cnt (yT (zT d 0)) (yT (zT d 1)) (zT d 0).first (zT d 1).first with ⟨hc, _, _⟩ | ⟨hc, t, ht⟩ | ⟨hc, t, ht⟩
   ·rw [hc, if_pos rfl];exact ⟨⟨beginM_ok ho0 rfl rfl ho1.next, by simp, by simp⟩, FOk.begin _ _ _ _⟩
   ·rw [hc] at h ⊢;simp only [show ¬ ((0 : Int) = -1) by decide, show ¬ ((0 : Int) = 1) by decide, if_false, ht, Option.getD_some] at h ⊢
    cases hu : upM t (zT d 0).l.tail with
    | none => rw [hu] at h; simp [upEnd] at h
    | some t' => exact ⟨⟨ho0, by simp [upEnd], by simp [upEnd]⟩, FOk.open_ _ _ _⟩
   ·rw [hc] at h ⊢;simp only [show ¬ ((1 : Int) = -1) by decide, if_true, if_false, ht, Option.getD_some] at h ⊢
    cases hu : upM t (zT d 1).l.tail with
    | none => rw [hu] at h; simp [upEnd] at h
    | some t' => exact ⟨⟨ho1, by simp [upEnd], by simp [upEnd]⟩, FOk.open_ _ _ _⟩
 exact ⟨⟨hm.1, hm.2, w2, by omega, by omega⟩, w5, w4⟩
theorem turnC_inv {d : DM} (h1 : 1 ≤ hn d) (h2 : d.l.length ≤ 24) {s : SM} (ok : SOk s) (f : FOk s.log) (ht : s.turns < 1000000000) (l : List Ch) : SOk (yy d s l).2.1 ∧ FOk (yy d s l).2.1.log ∧ (yy d s l).2.1.turns ≤ s.turns + 1 := by
 unfold yy
 split
 ·exact ⟨ok, f, by simp⟩
 ·split
  ·refine ⟨⟨addM_lok (beginM_ok (half_ok h1 h2 (1 - s.half) (by omega)) rfl rfl ok.log.next), ?_, ?_⟩, (FOk.begin _ _ _ _).add, ?_⟩ <;> simp only
   ·omega
   ·omega
   ·omega
  ·exact ⟨ok, f, by simp⟩
theorem applyC_inv {d : DM} (h1 : 1 ≤ hn d) (h2 : d.l.length ≤ 24) {s : SM} {X : Nat} (h : SInv s X) (hX : X ≤ 1000) {l : List Ch} (hw : wtC l ≤ 768) : SInv (zg d s l).2.1 (X + 1) := by
 have hwr : SOk (zJ d s l).2.1 ∧ FOk (zJ d s l).2.1.log ∧ (zJ d s l).2.1.turns ≤ s.turns + 1 := by
  unfold zJ
  split
  ·exact ⟨⟨addM_lok h.ok.log, h.ok.half, h.ok.turns⟩, h.fst.add, by simp⟩
  ·exact turnC_inv h1 h2 h.ok h.fst (by have := h.tn; omega) l
 have hx : SOk (zg d s l).2.1 ∧ FOk (zg d s l).2.1.log ∧ (zg d s l).2.1.turns ≤ s.turns + 1 := by
  unfold zg
  split
  ·exact ⟨h.ok, h.fst, by simp⟩
  ·split
   ·exact ⟨⟨hwr.1.log, hwr.1.half, hwr.1.turns⟩, hwr.2.1, hwr.2.2⟩
   ·simp only
    split
    ·exact hwr
    ·exact ⟨⟨hwr.1.log, hwr.1.half, hwr.1.turns⟩, hwr.2.1, hwr.2.2⟩
 have htn := h.tn;have hwt := h.wt;refine ⟨hx.1, hx.2.1, ?_, ?_, by omega⟩
 ·rcases applyC_t d s l with e | e
  ·rw [e]; exact h.srt
  ·rw [e]; exact h.srt.chs l
 ·rcases applyC_t d s l with e | e
  ·rw [e]; omega
  ·rw [e];have := wtT_doL l s.t;omega
theorem applyC_len (d : DM) (s : SM) (l : List Ch) : (zg d s l).1.l.length = d.l.length := by
 have h : (zJ d s l).1.l.length = d.l.length := by
  unfold zJ
  split
  ·exact addM_len _ _ _
  ·unfold yy
   split
   ·rfl
   ·split
    ·exact addM_len _ _ _
    ·exact addM_len _ _ _
 unfold zg
 split
 ·rfl
 ·split
  ·exact h
  ·exact h
theorem openC_n {d : DM} (h : (zY d).2 = 0) : (zY d).1.log.n = (hn d : Int) := by
 unfold zY at h ⊢
 split at h
 ·simp at h
 ·rename_i hn1
  split at h
  ·simp at h
  ·rename_i hdn
   rw [if_neg hn1, if_neg hdn];simp only at h ⊢;rcases cr_cnt (yT (zT d 0)) (yT (zT d 1)) (zT d 0).first (zT d 1).first with ⟨hc, _, _⟩ | ⟨hc, t, ht⟩ | ⟨hc, t, ht⟩
   ·rw [hc, if_pos rfl];rfl
   ·rw [hc] at h ⊢;simp only [show ¬ ((0 : Int) = -1) by decide, show ¬ ((0 : Int) = 1) by decide, if_false, ht, Option.getD_some] at h ⊢
    cases hu : upM t (zT d 0).l.tail with
    | none => rw [hu] at h; simp [upEnd] at h
    | some t' => rfl
   ·rw [hc] at h ⊢;simp only [show ¬ ((1 : Int) = -1) by decide, if_true, if_false, ht, Option.getD_some] at h ⊢
    cases hu : upM t (zT d 1).l.tail with
    | none => rw [hu] at h; simp [upEnd] at h
    | some t' => rfl
theorem addM_n (d : DM) (m : LM) (b : List UInt8) : (yJ d m b).2.1.n = m.n := by
 unfold yJ
 split
 ·rfl
 ·split
  ·rfl
  ·split
   ·rfl
   ·simp only
    split <;> rfl
theorem applyC_n {d : DM} {s : SM} {l : List Ch} (h : s.log.n = (hn d : Int)) : (zg d s l).2.1.log.n = (hn d : Int) := by
 have hw : (zJ d s l).2.1.log.n = (hn d : Int) := by
  unfold zJ
  split
  ·exact (addM_n _ _ _).trans h
  ·unfold yy
   split
   ·exact h
   ·split
    ·exact addM_n _ _ _
    ·exact h
 unfold zg
 split
 ·exact h
 ·split
  ·exact hw
  ·simp only
   split
   ·exact hw
   ·exact hw
end Go.Proofs.YtmioifcbkhpdaaaGreat
