/-
  A range over a function whose iterator makes memory of its own and hands out what lies in it: what the iterator promises (Iter), and the law for the loop.
-/
import Derived.Test.YtmioifcbkhpdaaaGreatPkPl10
import Derived.Test.YtmioifcbkhpdaaaGreatPkPl09
import Derived.Test.YtmioifcbkhpdaaaGreatPkPl05
import Derived.Test.YtmioifcbkhpdaaaGreatPkPl01
import Derived.RangeFuncNested
import Derived.RangeFuncBound
import Derived.RangeFuncCalls
import Derived.RangeFuncLeaves
namespace Go.Proofs.YtmioifcbkhpdaaaGreat
set_option maxHeartbeats 16000000
set_option maxRecDepth 100000
open Go.RowKit
/-! Where a scan stands. -/
structure ScI (j : Nat) (s : WS) : Prop where
 few : s.recs.length ≤ j
 now : s.now.length ≤ 110 * j
 each : ∀ x ∈ s.recs, x.length ≤ 110 * j
 ahead : s.ahead < 18446744073709551616
 none_ : s.recs = [] → s.have_ = 0 ∧ (0 < j → s.within = true ∧ s.ahead = s.fst + (j - 1) ∧ 1 ≤ s.fst)
 some_ : s.recs ≠ [] → s.first = s.fst
theorem ScI.start : ScI 0 ws0 := ⟨Nat.le_refl _, by simp [ws0], by simp [ws0], by simp [ws0], fun _ => ⟨rfl, fun h => absurd h (by omega)⟩, fun h => absurd rfl h⟩
theorem good_parts {s : WS} {k : Nat} (h : badW s k = false) : 1 ≤ k ∧ s.ahead < k ∧ (s.within = true → k = s.ahead + 1) := by
 unfold badW at h;simp only [Bool.or_eq_false_iff, decide_eq_false_iff_not, Bool.and_eq_false_iff] at h;obtain ⟨⟨h1, h2⟩, h3⟩ := h;refine ⟨by omega, by omega, fun hw => ?_⟩;rcases h3 with h3 | h3
 ·rw [hw] at h3; cases h3
 ·omega
theorem ScI.first {j : Nat} {s : WS} (h : ScI j s) {k : Nat} (hg : badW s k = false) : (s.recs = [] → j + 1 ≤ k) ∧ (if s.recs = [] then k + 1 - (j + 1) else s.first) = (if j = 0 then k else s.fst) := by
 obtain ⟨h1, h2, h3⟩ := good_parts hg
 by_cases hr : s.recs = []
 ·obtain ⟨_, h4⟩ := h.none_ hr;rw [if_pos hr]
  by_cases hj : j = 0
  ·subst hj;rw [if_pos rfl];exact ⟨fun _ => by omega, by omega⟩
  ·obtain ⟨h5, h6, h7⟩ := h4 (by omega);have := h3 h5;rw [if_neg hj];exact ⟨fun _ => by omega, by omega⟩
 ·have hj : j ≠ 0 := by
    rintro rfl;have := h.few;exact hr (List.eq_nil_of_length_eq_zero (by omega))
  rw [if_neg hr, if_neg hj];exact ⟨fun h => absurd h hr, h.some_ hr⟩
theorem ScI.next {j : Nat} {s : WS} (h : ScI j s) {k : Nat} {p : List UInt8} {e : Bool} (hg : badW s k = false) (hp : p.length ≤ 110) (hk : k < 18446744073709551616) : ScI (j + 1) (zf j s k p e) := by
 obtain ⟨h1, h2, h3⟩ := good_parts hg;have hn := h.now;have hf := h.few
 cases e with
 | true =>
   refine ⟨by simp [zf]; omega, by simp [zf], fun x hx => ?_, hk, fun h => absurd h (by simp [zf]), fun _ => rfl⟩;simp only [zf, if_true] at hx;rcases List.mem_append.1 hx with hx | hx
   ·have := h.each x hx;omega
   ·rw [List.mem_singleton.1 hx, List.length_append];omega
 | false =>
   refine ⟨by simp only [zf, Bool.false_eq_true, if_false]; omega, ?_, fun x hx => ?_, hk, fun hr => ?_, fun hr => ?_⟩
   ·simp only [zf, Bool.false_eq_true, if_false, List.length_append];omega
   ·have := h.each x (by simpa [zf] using hx);omega
   ·(have hr : s.recs = [] := by simpa [zf] using hr);obtain ⟨h4, h5⟩ := h.none_ hr;refine ⟨by simpa [zf] using h4, fun _ => ⟨rfl, ?_, ?_⟩⟩
    ·simp only [zf, Bool.false_eq_true, if_false]
     by_cases hj : j = 0
     ·rw [if_pos hj]; omega
     ·obtain ⟨h6, h7, h8⟩ := h5 (by omega);have := h3 h6;rw [if_neg hj];omega
    ·simp only [zf, Bool.false_eq_true, if_false]
     by_cases hj : j = 0
     ·rw [if_pos hj]; exact h1
     ·rw [if_neg hj];exact (h5 (by omega)).2.2
   ·(have hr2 : s.recs ≠ [] := by simpa [zf] using hr);(have hj : j ≠ 0 := fun h0 => hr2 (List.eq_nil_of_length_eq_zero (by omega)));simp only [zf, Bool.false_eq_true, if_false];rw [if_neg hj];exact h.some_ hr2
theorem scan_stop {bs : List (List UInt8)} {j : Nat} (hj : j < bs.length) (hok : okW (bs.take j) 0 ws0) (hbad : badW (runW (bs.take j) 0 ws0) (ze (bs[j]?.getD [])).1 = true) : zk bs 0 ws0 = runW (bs.take j) 0 ws0 := by
 conv => lhs; rw [← List.take_append_drop j bs]
 rw [scanW_app _ _ _ _ hok, List.drop_eq_getElem_cons hj, zk];rw [List.getElem?_eq_getElem hj, Option.getD_some] at hbad;rw [if_pos hbad]
theorem scan_end {bs : List (List UInt8)} (hok : okW bs 0 ws0) : zk bs 0 ws0 = runW bs 0 ws0 := by
 have := scanW_app bs [] 0 ws0 hok;rw [List.append_nil] at this;rw [this, zk]
theorem scan_more {bs : List (List UInt8)} {j : Nat} (hj : j < bs.length) (hok : okW (bs.take j) 0 ws0) (hg : badW (runW (bs.take j) 0 ws0) (ze (bs[j]?.getD [])).1 = false) :
    okW (bs.take (j + 1)) 0 ws0 ∧ runW (bs.take (j + 1)) 0 ws0 = stepW j (runW (bs.take j) 0 ws0) (bs[j]?.getD []) := by
 have hl : (bs.take j).length = j := by rw [List.length_take]; omega
 rw [List.getElem?_eq_getElem hj, Option.getD_some] at hg ⊢;rw [List.take_succ_eq_append_getElem hj, okW_app, runW_app, hl, Nat.zero_add];exact ⟨⟨hok, hg, trivial⟩, rfl⟩
/-! Bytes appended to a row of the call's own. -/
theorem own_byt_own {w : World} {B : Nat} {e : TypeId} {v : Value} {n : Nat} {l : List UInt8} (h : w.ownsRow B e 1 v n (u8s l)) : ∃ A c, v = .slice A n c ∧ Byt w (fun k => v.ownBlock = some k) A n c l := by
 have hl : l.length = n := by have := h.1; rw [zn] at this; omega
 rcases h.2 with ⟨rfl, h2⟩ | ⟨g, cap, cur, rfl, hb, hg, hn, hm, _, _⟩
 ·subst h2;have : l = [] := List.eq_nil_of_length_eq_zero hl;subst this;exact ⟨none, 0, rfl, Byt.nil _ _ _ _ (Nat.zero_le _)⟩
 ·refine ⟨_, cap, rfl, hl, hn, hm, fun _ => ⟨g, 0, rfl, rfl, (Array.getElem?_eq_some_iff.1 hg).1, fun i hi => ?_⟩⟩
  have := h.cells (g := g) rfl i (.int .u8 ((l[i]?.getD 0).toNat : Int)) (by
   (have hil : i < l.length := by omega);simp [u8s, List.getElem?_map, List.getElem?_eq_getElem hil])
  rw [zK] at this;exact this
theorem append_lies {W : World} {B k : Nat} {v : Value} {xs : List Value} (hown : W.ownsRow B 5 1 v k xs) {S : Nat → Prop} {A : Option Addr} {n c : Nat} {l : List UInt8} (h : Byt W S A n c l) (hb : k + n ≤ 10000000) (hB : B ≤ W.heap.size) (ty : TypeId) :
    ∃ v' W', (Builtin.append_ #[54, 54] ty #[v, .slice A n c]).run Tryz.prog W = .ok v' W' ∧ W'.ownsRow B 5 1 v' (k + n) (xs ++ u8s l) ∧ W.grownBy W' v.ownBlock ∧ (v'.ownBlock = v.ownBlock ∨ v'.ownBlock = some W.heap.size) := by
 obtain ⟨i0, hi, hz0, hz1, hz2⟩ := info_parts u8_info;rcases A with _ | ad
 ·obtain rfl : n = 0 := by
    rcases Nat.eq_zero_or_pos n with h0 | h0
    ·exact h0
    ·obtain ⟨_, _, hA, _⟩ := h.row h0
     cases hA
  obtain rfl : l = [] := List.eq_nil_of_length_eq_zero h.len
  have hv : ∃ A' c', v = .slice A' k c' ∧ k ≤ c' := by
   rcases hown.2 with ⟨rfl, h2⟩ | ⟨g, cap, cur, rfl, _, _, hn, _⟩
   ·subst h2;exact ⟨none, 0, rfl, Nat.le_refl _⟩
   ·exact ⟨_, cap, rfl, hn⟩
  obtain ⟨A', c', rfl, hc⟩ := hv;exact ⟨_, W, run_append_zero W 54 ty 5 i0 Tryz.underlying54 hi _ k c' c hc, by simpa [u8s] using hown, World.grownBy.refl _ _, .inl rfl⟩
 ·obtain ⟨v', W', hrun, r1, r2, _, r4⟩ := run_append_own_at (P := Tryz.prog) W B 54 ty 5 i0 (.int .u8 0) 1 1 Tryz.underlying54 hi hz0 hz1 hz2 rfl (by decide) v k xs hown ad n c (u8s l) (by rw [zn, h.len, Nat.mul_one]) (xF h) (u8s_one l) (by unfold maxLen; omega) (by omega) hB;exact ⟨v', W', hrun, r1, r2, r4⟩
/-! The rounds. -/
def tkM (m0 : LM) (s : WS) : LM := { m0 with first := s.first, have_ := s.have_, l := s.recs }
def WTk (w1 : World) (S : Nat → Prop) (p g : Nat) (m0 : LM) (bs : List (List UInt8)) (rc ah wi i : Value) (wr : World) : Prop :=
 ∃ (j : Nat) (T : Nat → Prop), j ≤ bs.length ∧ i = .int .i64 (j : Int) ∧ okW (bs.take j) 0 ws0 ∧ ScI j (runW (bs.take j) 0 ws0) ∧ ah = .int .u64 ((runW (bs.take j) 0 ws0).ahead : Int) ∧ wi = .bool (runW (bs.take j) 0 ws0).within ∧
   wr.ownsRow w1.heap.size 5 1 rc (runW (bs.take j) 0 ws0).now.length (u8s (runW (bs.take j) 0 ws0).now) ∧ (∀ q, rc.ownBlock = some q → ¬ T q) ∧ Lg wr T p g (tkM m0 (runW (bs.take j) 0 ws0)) ∧ (∀ k, T k → k < wr.heap.size ∧ (S k ∨ w1.heap.size ≤ k)) ∧ Turned S w1 wr
theorem take_bad {s : WS} {K X : Nat} (h : badW s K = true) (hX : X = (s.ahead + 1) % 18446744073709551616) : K = 0 ∨ (K ≠ 0 ∧ s.within = true ∧ K ≠ X) ∨ (K ≠ 0 ∧ (s.within = false ∨ K = X) ∧ K ≤ s.ahead) := by
 by_cases h1 : K = 0
 ·exact .inl h1
 ·by_cases h2 : s.within = true ∧ K ≠ X
  ·exact .inr (.inl ⟨h1, h2.1, h2.2⟩)
  ·refine .inr (.inr ⟨h1, ?_, ?_⟩)
   ·by_cases h3 : s.within = true
    ·exact .inr (Classical.byContradiction fun h4 => h2 ⟨h3, h4⟩)
    ·exact .inl (by simpa using h3)
   ·unfold badW at h;simp only [Bool.or_eq_true, decide_eq_true_eq, Bool.and_eq_true] at h;rcases h with (h | h) | h
    ·exact absurd h h1
    ·exact h
    ·(have h3 : K = X := Classical.byContradiction fun h4 => h2 ⟨h.1, h4⟩);omega
theorem take_good {s : WS} {K X : Nat} (h : badW s K = false) (hK : K < 18446744073709551616) (hX : X = (s.ahead + 1) % 18446744073709551616) : K ≠ 0 ∧ (s.within = false ∨ K = X) ∧ ¬ K ≤ s.ahead := by
 obtain ⟨h1, h2, h3⟩ := good_parts h;refine ⟨by omega, ?_, by omega⟩
 by_cases h4 : s.within = true
 ·have := h3 h4;exact .inr (by omega)
 ·exact .inl (by simpa using h4)
theorem readL_parts {b : List UInt8} (h : (ze b).1 ≠ 0) : b.length = 128 ∧ b8 b ≤ 110 ∧ (ze b).2.1 = bp b ∧ (ze b).2.2 = b9 b := by
 by_cases h1 : b.length ≠ 128 ∨ 110 < (b[8]?.getD 0).toNat ∨ 1 < (b[9]?.getD 0).toNat
 ·rw [readL_no h1] at h;exact absurd rfl h
 ·unfold ze at h ⊢;rw [if_neg h1] at h ⊢;simp only at h ⊢
  by_cases h2 : zU (yC (b.take 8)) ((b.drop 10).take (b[8]?.getD 0).toNat) (decide ((b[9]?.getD 0).toNat = 1)) ≠ b ∨ (b[9]?.getD 0).toNat = 0 ∧ ((b.drop 10).take (b[8]?.getD 0).toNat).length < 110
  ·rw [if_pos h2] at h;exact absurd rfl h
  ·rw [if_neg h2];refine ⟨Classical.byContradiction fun h3 => h1 (.inl h3), Nat.le_of_not_lt fun h3 => h1 (.inr (.inl h3)), rfl, rfl⟩
def TkPost (w1 : World) (S : Nat → Prop) (p g : Nat) (m0 : LM) (bs : List (List UInt8)) (w' : World) : Prop := Lg w' (fun k => S k ∨ w1.heap.size ≤ k) p g (tkM m0 (zk bs 0 ws0)) ∧ Turned S w1 w'
theorem WTk.stop {w1 wr w' : World} {S : Nat → Prop} {p g : Nat} {m0 : LM} {bs : List (List UInt8)} {T : Nat → Prop} {s : WS} (hs : zk bs 0 ws0 = s) (hL : Lg wr T p g (tkM m0 s)) (hT : ∀ k, T k → k < wr.heap.size ∧ (S k ∨ w1.heap.size ≤ k)) (ht : Turned S w1 wr) (hb : Below wr.heap.size wr w') : TkPost w1 S p g m0 bs w' :=
 ⟨by rw [hs]; exact (hL.below hb).mono fun k _ h => (hT k h).2, ht.trans (Turned.of_below (S := S) hb) fun _ _ h => h⟩
theorem wtake_any {w : World} {S : Nat → Prop} {p g q : Nat} {m0 : LM} {bs : List (List UInt8)} (h : Lg w S p g m0) (h0 : m0.l = [] ∧ m0.have_ = 0 ∧ m0.first = 0) (hq : Bks w q bs) (hSq : ¬ S q) (hn : bs.length ≤ 65536) :
    Calls Tryz.prog 78 #[.pointer (some ⟨p, 0, none⟩), .slice (some ⟨q, 0, none⟩) bs.length bs.length] w fun e w' => e = .returned (.tuple #[]) ∧ TkPost w S p g m0 bs w' := by
 have hz := yf
 have H0 : Hid (WTk w S p g m0 bs (.slice none 0 0) (.int .u64 0) (.bool false) (.int .i64 0) w) := Lib.hid ⟨0, fun k => S k ∧ k < w.heap.size, Nat.zero_le _, rfl, trivial, ScI.start, rfl, rfl, World.ownsRow_nil _ _ _ _, fun q h => by simp [Value.ownBlock] at h, by
  have : tkM m0 (runW (bs.take 0) 0 ws0) = m0 := by
   obtain ⟨h1, h2, h3⟩ := h0
   cases m0
   simp only at h1 h2 h3;subst h1 h2 h3;rfl
  rw [this];exact h.mono fun b hb hs => ⟨hs, hb⟩, fun k hk => ⟨hk.2, .inl hk.1⟩, Turned.refl _ _⟩
 have HH := sq3 hq hSq hn;clear h h0 hq hSq hn
 go_enter Tryz.func78, Tryz.ntmps78
 go_wp2_with fail
 go_loopw [4, 5, 6, 13] (fun rc ah wi i wr => WTk w S p g m0 bs rc ah wi i wr) (fun _ _ _ i _ => bs.length - (intOf i).toNat)
 case atStart => exact H0.out
 case round =>
  obtain ⟨j, T, hj, rfl, hok, hsc, rfl, rfl, hown, hTq, hLg, hT, htn⟩ := hrel;clear H0
  by_cases hlt : j < bs.length
  ·(have hlt' : (j : Int) < (bs.length : Int) := by omega);obtain ⟨b, hb⟩ := sqz (bs[j]?.getD [])
   have hb128 : b.length = 128 := by
    rw [hb, List.getElem?_eq_getElem hlt];exact HH.out.1.2 _ (List.getElem_mem hlt)
   obtain ⟨s, hs⟩ := sqz (runW (bs.take j) 0 ws0);rw [← hs] at hsc hown hLg ⊢;obtain ⟨KS, hKS⟩ := sqz (zy b);have hrq : wr.heap[q]? = some (.cells (u8s bs.flatten).toArray 159 (0, 0)) := (htn.block _ (zB HH.out.1.1) HH.out.2.1).trans HH.out.1.1
   have HA : Hid (∀ (k : Nat) (v : Value), KS[k]? = some v → wr.cell? ((Addr.mk q (j * 128) none).add k) = some v) := Lib.hid fun k v hk => by
    rw [hKS, zy] at hk
    have hk2 : k < 128 := by
     have := (Array.getElem?_eq_some_iff.1 hk).1
     rwa [List.size_toArray, zn, hb128] at this
    rw [zK, zA hrq, List.getElem?_toArray, u8s, List.getElem?_map, flat_at HH.out.1.2 j hlt k hk2, ← hb, ← hk, List.getElem?_toArray, u8s, List.getElem?_map]
   have HS : Hid (KS.size = 128 ∧ KS.all (·.oneCell') = true) := Lib.hid ⟨by rw [hKS, yh, hb128], by rw [hKS]; exact yx _⟩;have HG : Hid ((wr.alloc (.cells zS 159)).heap[wr.heap.size]? = some (.cells zS 159 (0, 0))) := Lib.hid (heap_alloc_new wr _);have HR := sq6 hsc hown hTq hLg hT htn;have HKS := sq5 hKS hb128 hb hs hok;clear hsc hown hTq hLg hT htn hrq hKS hb128 hb hs hok;have e4 := zF (new := KS) HG.out;have HB4 := Lib.hid (zD ((Below.refl wr.heap.size wr).alloc (Nat.le_refl _) (.cells zS 159)) (Nat.le_refl _) KS)
   go_upto_region 6 with (first
    | (refine sqwa 16 HA.out Tryz.underlying159 (by rw [HS.out.1]; exact zQ) ?_)
    | (refine zl 8 17 KS HG.out (by rw [HS.out.1]; exact zQ) (by rw [HS.out.1]; exact yE) HS.out.2 ?_))
   try simp only [Act.put]
   clear HG HA
   (generalize (wr.alloc (.cells zS 159)).setRow wr.heap.size KS = w4 at *);obtain ⟨q5, hq5⟩ := sqz wr.heap.size;rw [← hq5] at e4 ⊢;have HE4 := Lib.hid e4;have HQ5 := Lib.hid hq5;clear hq5;rw [HKS.out.1] at e4;have hwh := wwhole_any (byt_sub e4 (o := 0) (m := 128) (c := 128) (by rw [HKS.out.2.1]; omega) (by omega) (by decide) (S := fun _ => True) trivial) (by omega);rw [List.drop_zero, List.take_of_length_le (by rw [HKS.out.2.1]; omega)] at hwh;obtain ⟨K, hK⟩ := sqz ((ze b).1);obtain ⟨ok, hokk⟩ := sqz (decide (0 < K));rw [← hK, ← hokk] at hwh;have HK := sq2 hK hokk;clear e4 hK hokk
   go_upto_region 7 with (go_at_call 103; refine hwh.mono ?_; clear hwh; rintro _ w5 ⟨rfl, hb5⟩)
   have HB5 := Lib.hid (HB4.out.trans (hb5.mono HB4.out.size));have HE5 := Lib.hid ((hb5.block q5 (zB HE4.out)).trans HE4.out);clear hb5;(have hK64 : K < 18446744073709551616 := by rw [HK.out.1]; exact (readL_small b).1);have ha64 := HR.out.1.ahead;(obtain ⟨X, hX⟩ : ∃ X : Nat, X = (s.ahead + 1) % 18446744073709551616 := ⟨_, rfl⟩);have hXw : IntKind.u64.wrap ((s.ahead : Int) + 1) = (X : Int) := by rw [hX, IntKind.wrap_u64]; omega
   by_cases hbad : badW s K = true
   ·have HBAD := Lib.hid hbad;rcases take_bad hbad hX with h1 | ⟨h1, h2, h3⟩ | ⟨h1, h2, h3⟩
    ·(have hok : ok = false := by rw [HK.out.2]; exact decide_eq_false (by omega));subst hok;clear hbad hX h1 hK64 ha64
     go_wp2_with fail
     refine bodyPost_ret (results_none rfl _ _ _) rfl ?_;exact ⟨rfl, WTk.stop (scan_stop hlt HKS.out.2.2.2.2 (by rw [← HKS.out.2.2.2.1, ← HKS.out.2.2.1, ← HK.out.1]; exact HBAD.out) |> fun h => h.trans HKS.out.2.2.2.1.symm) HR.out.2.2.2.1 HR.out.2.2.2.2.1 HR.out.2.2.2.2.2 HB5.out⟩
    ·(have hok : ok = true := by rw [HK.out.2]; exact decide_eq_true (by omega));subst hok;(have hne : ((K : Int) != (X : Int)) = true := by simp; omega);rw [h2];clear hbad hX h1 h2 h3 hK64 ha64
     go_wp2_with fail
     refine bodyPost_ret (results_none rfl _ _ _) rfl ?_;exact ⟨rfl, WTk.stop (scan_stop hlt HKS.out.2.2.2.2 (by rw [← HKS.out.2.2.2.1, ← HKS.out.2.2.1, ← HK.out.1]; exact HBAD.out) |> fun h => h.trans HKS.out.2.2.2.1.symm) HR.out.2.2.2.1 HR.out.2.2.2.2.1 HR.out.2.2.2.2.2 HB5.out⟩
    ·(have hok : ok = true := by rw [HK.out.2]; exact decide_eq_true (by omega));subst hok;have hle : decide (K ≤ s.ahead) = true := decide_eq_true (by omega);clear h3;rcases h2 with h2 | h2
     ·rw [h2];clear hbad hX h1 h2 hK64 ha64
      go_wp2_with fail
      refine bodyPost_ret (results_none rfl _ _ _) rfl ?_;exact ⟨rfl, WTk.stop (scan_stop hlt HKS.out.2.2.2.2 (by rw [← HKS.out.2.2.2.1, ← HKS.out.2.2.1, ← HK.out.1]; exact HBAD.out) |> fun h => h.trans HKS.out.2.2.2.1.symm) HR.out.2.2.2.1 HR.out.2.2.2.2.1 HR.out.2.2.2.2.2 HB5.out⟩
     ·have hne : ((K : Int) != (X : Int)) = false := by simp; omega
      cases hw : s.within with
      | true =>
        clear hbad hX h1 h2 hK64 ha64
        go_wp2_with fail
        refine bodyPost_ret (results_none rfl _ _ _) rfl ?_;exact ⟨rfl, WTk.stop (scan_stop hlt HKS.out.2.2.2.2 (by rw [← HKS.out.2.2.2.1, ← HKS.out.2.2.1, ← HK.out.1]; exact HBAD.out) |> fun h => h.trans HKS.out.2.2.2.1.symm) HR.out.2.2.2.1 HR.out.2.2.2.2.1 HR.out.2.2.2.2.2 HB5.out⟩
      | false =>
        clear hbad hX h1 h2 hK64 ha64
        go_wp2_with fail
        refine bodyPost_ret (results_none rfl _ _ _) rfl ?_;exact ⟨rfl, WTk.stop (scan_stop hlt HKS.out.2.2.2.2 (by rw [← HKS.out.2.2.2.1, ← HKS.out.2.2.1, ← HK.out.1]; exact HBAD.out) |> fun h => h.trans HKS.out.2.2.2.1.symm) HR.out.2.2.2.1 HR.out.2.2.2.2.1 HR.out.2.2.2.2.2 HB5.out⟩
   ·(have hg : badW s K = false := by simpa using hbad);obtain ⟨h1, h2, h3⟩ := take_good hg hK64 hX;(have hok : ok = true := by rw [HK.out.2]; exact decide_eq_true (by omega));subst hok;have hle : decide (K ≤ s.ahead) = false := decide_eq_false (by omega);obtain ⟨hr1, hr2, hr3, hr4⟩ := readL_parts (b := b) (by rw [← HK.out.1]; omega)
    have hpt : ∀ W, Calls Tryz.prog 104 #[.agg KS] W fun e w' => ∃ A n c, e = .returned (.slice A n c) ∧ Byt w' (W.heap.size ≤ ·) A n c (bp b) ∧ Below W.heap.size W w' := fun W => by
     rw [HKS.out.1];exact wpart_any b hr1 hr2 W
    have hla : ∀ W, Calls Tryz.prog 105 #[.agg KS] W fun e w' => e = .returned (.bool (b9 b)) ∧ Below W.heap.size W w' := fun W => by
     rw [HKS.out.1];exact wlast_any b hr1 W
    (have hbl : (bp b).length ≤ 110 := by rw [bp_length hr1 hr2]; exact hr2);obtain ⟨hfu, hfi⟩ := HR.out.1.first hg;have hmore := scan_more hlt HKS.out.2.2.2.2 (by rw [← HKS.out.2.2.2.1, ← HKS.out.2.2.1, ← HK.out.1]; exact hg);rw [← HKS.out.2.2.2.1, ← HKS.out.2.2.1] at hmore
    have hstep : stepW j s b = zf j s K (bp b) (b9 b) := by
     unfold stepW;rw [hr3, hr4, ← HK.out.1]
    rw [hstep] at hmore;(have hnext := HR.out.1.next (p := bp b) (e := b9 b) hg hbl hK64);have HM := sq6 hmore hnext hfu hfi hK64 hbl;have HPT := Lib.hid hpt;have HLA := Lib.hid hla;have hadd := IntWalk.i64_in ((j : Int) + 1) (by have := HH.out.2.2; omega);have HOWN := Lib.hid (yN HR.out.2.1 HB5.out);have HLG := Lib.hid (HR.out.2.2.2.1.below HB5.out);have HT5 := Lib.hid (HR.out.2.2.2.2.2.trans (Turned.of_below (S := S) HB5.out) fun _ _ h => h);have HSZ : Hid (s.now.length ≤ 110 * j ∧ w.heap.size ≤ w5.heap.size ∧ wr.heap.size ≤ w5.heap.size) := Lib.hid ⟨HR.out.1.now, HT5.out.size, HB5.out.size⟩;clear hg hX h1 h3 hr1 hr2 hr3 hr4 hpt hla hbl hfu hfi hmore hstep hnext hbad hK64 ha64
    cases hw : s.within with
    | false =>
      rw [hw] at h2;clear h2
      go_upto_region 9 with (first
       | (refine yA 8 HE5.out Tryz.underlying159 (by rw [HS.out.1]; exact zQ) ?_)
       | (go_at_call 104; refine (HPT.out _).mono ?_; rintro _ w6 ⟨AP, np, cp, rfl, hy6, hb6⟩
          obtain ⟨v7, w7, hrun, hown7, hg7, hlie7⟩ := append_lies (yN HOWN.out hb6) hy6 (by rw [← hy6.len]; have h1 := HM.out.2.2.2.2.2; have h2 := HSZ.out.1; have h3 := HH.out.2.2; omega) (Nat.le_trans HSZ.out.2.1 hb6.size) 54;obtain ⟨N7, hN7⟩ := sqz (s.now.length + np);have HY7 : Hid (w5.heap.size ≤ w6.heap.size ∧ N7 = (s.now ++ bp b).length ∧ Below w5.heap.size w5 w6) := Lib.hid ⟨hb6.size, by rw [hN7, List.length_append, hy6.len], hb6⟩;rw [← yt] at hown7;rw [← hN7] at hown7;clear hN7;obtain ⟨A7, c7, rfl, hby7⟩ := own_byt_own hown7;have H7 := sq4 hown7 hg7 hlie7 hby7;clear hown7 hg7 hlie7 hby7 hy6 hb6)
       | (at_builtin; refine zh (by rfl) _ _ 54 (by rfl) (by rfl) (by rfl) hrun ?_; clear hrun))
      have hq7 : ∀ k, u4.ownBlock = some k → k ≠ q5 ∧ ¬ T k := fun k hk => ⟨by
       have h1 := (HR.out.2.1.lt k hk).2;have h2 := HQ5.out;omega, HR.out.2.2.1 k hk⟩
      have HE7 : Hid (w7.heap[q5]? = some (.cells KS 159 (0, 0))) := Lib.hid ((H7.out.2.1.block q5 (Nat.lt_of_lt_of_le (zB HE5.out) HY7.out.1) (fun e => (hq7 q5 e.symm).1 rfl)).trans ((HY7.out.2.2.block q5 (zB HE5.out)).trans HE5.out));have HLG7 := Lib.hid ((HLG.out.below HY7.out.2.2).turned (Turned.of_gr (S := fun k => u4.ownBlock = some k) H7.out.2.1 fun g hg => hg) fun k _ h1 h2 => (hq7 k h2).2 h1)
      have HT7 : Hid (Turned S w w7) := Lib.hid (HT5.out.trans (Turned.of_below (S := S) HY7.out.2.2) (fun _ _ h => h) |> fun h => ⟨H7.out.2.1.os.trans h.os, H7.out.2.1.tape.trans h.tape, H7.out.2.1.output.trans h.output, Nat.le_trans h.size H7.out.2.1.size, fun k hk hs => (H7.out.2.1.block k (Nat.lt_of_lt_of_le hk h.size) (fun e => by
       have := (HR.out.2.1.lt k e.symm).1;omega)).trans (h.block k hk hs)⟩)
      have HO7 : Hid (∀ k, (Value.slice A7 N7 c7).ownBlock = some k → ¬ T k) := Lib.hid fun k hk hTk => by
       rcases H7.out.2.2.1 with h | h
       ·rw [h] at hk;exact (hq7 k hk).2 hTk
       ·rw [h] at hk;(injection hk with hk);have h1 := (HR.out.2.2.2.2.1 k hTk).1;have h2 := HSZ.out.2.2;have h3 := HY7.out.1;omega
      have HS7 : Hid (wr.heap.size ≤ w7.heap.size ∧ w.heap.size ≤ w7.heap.size) := Lib.hid ⟨by have h1 := HSZ.out.2.2; have h2 := HY7.out.1; have h3 := H7.out.2.1.size; omega, HT7.out.size⟩;have HW7 := sq2 H7.out.1 H7.out.2.2.2;have HN7 := Lib.hid HY7.out.2.1;clear hq7 H7 HY7 HOWN HLG HT5 HE5 HSZ
      go_upto_region 11 with (first
       | (refine yA 8 HE7.out Tryz.underlying159 (by rw [HS.out.1]; exact zQ) ?_)
       | (go_at_call 105; refine (HLA.out _).mono ?_; rintro _ w8 ⟨rfl, hb8⟩; have HB8 := Lib.hid hb8; clear hb8))
      cases h9 : b9 b with
      | false =>
        rw [h9] at HM
        have HF : Hid (WTk w S p g m0 bs (.slice A7 N7 c7) (.int .u64 (K : Int)) (.bool true) (.int .i64 ((j : Int) + 1)) w8) := Lib.hid (by
         have hm := HM.out.1;refine ⟨j + 1, T, hlt, by simp, hm.1, ?_, ?_, ?_, ?_, HO7.out, ?_, fun k hk => ?_, HT7.out.trans (Turned.of_below (S := S) HB8.out) fun _ _ h => h⟩
         ·rw [hm.2]; exact HM.out.2.1
         ·rw [hm.2]; rfl
         ·rw [hm.2]; rfl
         ·rw [hm.2];have h7 := yN HW7.out.1 HB8.out;rw [HN7.out] at h7;rw [HN7.out];exact h7
         ·rw [hm.2];exact HLG7.out.below HB8.out
         ·have h1 := HR.out.2.2.2.2.1 k hk;exact ⟨Nat.lt_of_lt_of_le h1.1 (Nat.le_trans HS7.out.1 HB8.out.size), h1.2⟩)
        clear HE7 HLG7 HT7 HO7 HW7
        go_wp2_with fail
        go_roundw
        case rel => exact HF.out
        case measure => simp only [intOf]; omega
      | true =>
        rw [h9] at HM;have hkp := wkeep_any (HLG7.out.below HB8.out) (by have h1 := HR.out.1.few; have h2 := HH.out.2.2; show s.recs.length ≤ 65536; omega) (HW7.out.2.below HB8.out) (fun k _ h => HO7.out k h) (by rw [List.length_append]; have h1 := HR.out.1.now; have h2 := HM.out.2.2.2.2.2; have h3 := HH.out.2.2; omega) K (j + 1) HM.out.2.2.2.2.1 (by omega) (by have h3 := HH.out.2.2; omega) HM.out.2.2.1;rw [show (((j + 1 : Nat) : Int)) = (j : Int) + 1 by simp] at hkp
        have hkm : keepM (tkM m0 s) (s.now ++ bp b) K (j + 1) = tkM m0 (zf j s K (bp b) true) := by
         have h1 := HM.out.2.2.2.1;unfold keepM tkM zf;simp only [if_true];rw [← h1]
        rw [hkm] at hkp;have HKP := Lib.hid hkp;clear hkp hkm
        go_upto_region 12 with fail
        go_wp2_with (go_at_call 94; refine HKP.out.mono ?_; rintro _ w9 ⟨rfl, hL9, hT9⟩; have H9 := sq2 hL9 hT9; clear hL9 hT9)
        have HF : Hid (WTk w S p g m0 bs (.slice none 0 0) (.int .u64 (K : Int)) (.bool false) (.int .i64 ((j : Int) + 1)) w9) := Lib.hid (by
         have hm := HM.out.1;have hsz := H9.out.2.size;have hs8 := HB8.out.size
         have hTr : Turned S w w9 := (HT7.out.trans (Turned.of_below (S := S) HB8.out) fun _ _ h => h).trans H9.out.2 fun k hk h => by
          rcases (HR.out.2.2.2.2.1 k h).2 with h1 | h1
          ·exact h1
          ·omega
         refine ⟨j + 1, _, hlt, by simp, hm.1, ?_, ?_, ?_, ?_, ?_, by rw [hm.2]; exact H9.out.1, fun k hk => ?_, hTr⟩
         ·rw [hm.2]; exact HM.out.2.1
         ·rw [hm.2]; rfl
         ·rw [hm.2]; rfl
         ·rw [hm.2];exact World.ownsRow_nil _ _ _ _
         ·intro q h;simp [Value.ownBlock] at h
         ·rcases hk with hk | hk | hk
          ·have h1 := HR.out.2.2.2.2.1 k hk;exact ⟨by have := HS7.out.1; omega, h1.2⟩
          ·have h1 := HW7.out.1.lt k hk;exact ⟨by omega, .inr h1.1⟩
          ·exact ⟨hk.2, .inr (by have := HS7.out.2; omega)⟩)
        clear HE7 HLG7 HT7 HO7 HW7 HKP
        go_roundw
        case rel => exact HF.out
        case measure => simp only [intOf]; omega
    | true =>
      have hne : ((K : Int) != (X : Int)) = false := by
       have := h2.resolve_left (by rw [hw]; simp);simp;omega
      clear h2
      go_upto_region 9 with (first
       | (refine yA 8 HE5.out Tryz.underlying159 (by rw [HS.out.1]; exact zQ) ?_)
       | (go_at_call 104; refine (HPT.out _).mono ?_; rintro _ w6 ⟨AP, np, cp, rfl, hy6, hb6⟩
          obtain ⟨v7, w7, hrun, hown7, hg7, hlie7⟩ := append_lies (yN HOWN.out hb6) hy6 (by rw [← hy6.len]; have h1 := HM.out.2.2.2.2.2; have h2 := HSZ.out.1; have h3 := HH.out.2.2; omega) (Nat.le_trans HSZ.out.2.1 hb6.size) 54;obtain ⟨N7, hN7⟩ := sqz (s.now.length + np);have HY7 : Hid (w5.heap.size ≤ w6.heap.size ∧ N7 = (s.now ++ bp b).length ∧ Below w5.heap.size w5 w6) := Lib.hid ⟨hb6.size, by rw [hN7, List.length_append, hy6.len], hb6⟩;rw [← yt] at hown7;rw [← hN7] at hown7;clear hN7;obtain ⟨A7, c7, rfl, hby7⟩ := own_byt_own hown7;have H7 := sq4 hown7 hg7 hlie7 hby7;clear hown7 hg7 hlie7 hby7 hy6 hb6)
       | (at_builtin; refine zh (by rfl) _ _ 54 (by rfl) (by rfl) (by rfl) hrun ?_; clear hrun))
      have hq7 : ∀ k, u4.ownBlock = some k → k ≠ q5 ∧ ¬ T k := fun k hk => ⟨by
       have h1 := (HR.out.2.1.lt k hk).2;have h2 := HQ5.out;omega, HR.out.2.2.1 k hk⟩
      have HE7 : Hid (w7.heap[q5]? = some (.cells KS 159 (0, 0))) := Lib.hid ((H7.out.2.1.block q5 (Nat.lt_of_lt_of_le (zB HE5.out) HY7.out.1) (fun e => (hq7 q5 e.symm).1 rfl)).trans ((HY7.out.2.2.block q5 (zB HE5.out)).trans HE5.out));have HLG7 := Lib.hid ((HLG.out.below HY7.out.2.2).turned (Turned.of_gr (S := fun k => u4.ownBlock = some k) H7.out.2.1 fun g hg => hg) fun k _ h1 h2 => (hq7 k h2).2 h1)
      have HT7 : Hid (Turned S w w7) := Lib.hid (HT5.out.trans (Turned.of_below (S := S) HY7.out.2.2) (fun _ _ h => h) |> fun h => ⟨H7.out.2.1.os.trans h.os, H7.out.2.1.tape.trans h.tape, H7.out.2.1.output.trans h.output, Nat.le_trans h.size H7.out.2.1.size, fun k hk hs => (H7.out.2.1.block k (Nat.lt_of_lt_of_le hk h.size) (fun e => by
       have := (HR.out.2.1.lt k e.symm).1;omega)).trans (h.block k hk hs)⟩)
      have HO7 : Hid (∀ k, (Value.slice A7 N7 c7).ownBlock = some k → ¬ T k) := Lib.hid fun k hk hTk => by
       rcases H7.out.2.2.1 with h | h
       ·rw [h] at hk;exact (hq7 k hk).2 hTk
       ·rw [h] at hk;(injection hk with hk);have h1 := (HR.out.2.2.2.2.1 k hTk).1;have h2 := HSZ.out.2.2;have h3 := HY7.out.1;omega
      have HS7 : Hid (wr.heap.size ≤ w7.heap.size ∧ w.heap.size ≤ w7.heap.size) := Lib.hid ⟨by have h1 := HSZ.out.2.2; have h2 := HY7.out.1; have h3 := H7.out.2.1.size; omega, HT7.out.size⟩;have HW7 := sq2 H7.out.1 H7.out.2.2.2;have HN7 := Lib.hid HY7.out.2.1;clear hq7 H7 HY7 HOWN HLG HT5 HE5 HSZ
      go_upto_region 11 with (first
       | (refine yA 8 HE7.out Tryz.underlying159 (by rw [HS.out.1]; exact zQ) ?_)
       | (go_at_call 105; refine (HLA.out _).mono ?_; rintro _ w8 ⟨rfl, hb8⟩; have HB8 := Lib.hid hb8; clear hb8))
      cases h9 : b9 b with
      | false =>
        rw [h9] at HM
        have HF : Hid (WTk w S p g m0 bs (.slice A7 N7 c7) (.int .u64 (K : Int)) (.bool true) (.int .i64 ((j : Int) + 1)) w8) := Lib.hid (by
         have hm := HM.out.1;refine ⟨j + 1, T, hlt, by simp, hm.1, ?_, ?_, ?_, ?_, HO7.out, ?_, fun k hk => ?_, HT7.out.trans (Turned.of_below (S := S) HB8.out) fun _ _ h => h⟩
         ·rw [hm.2]; exact HM.out.2.1
         ·rw [hm.2]; rfl
         ·rw [hm.2]; rfl
         ·rw [hm.2];have h7 := yN HW7.out.1 HB8.out;rw [HN7.out] at h7;rw [HN7.out];exact h7
         ·rw [hm.2];exact HLG7.out.below HB8.out
         ·have h1 := HR.out.2.2.2.2.1 k hk;exact ⟨Nat.lt_of_lt_of_le h1.1 (Nat.le_trans HS7.out.1 HB8.out.size), h1.2⟩)
        clear HE7 HLG7 HT7 HO7 HW7
        go_wp2_with fail
        go_roundw
        case rel => exact HF.out
        case measure => simp only [intOf]; omega
      | true =>
        rw [h9] at HM;have hkp := wkeep_any (HLG7.out.below HB8.out) (by have h1 := HR.out.1.few; have h2 := HH.out.2.2; show s.recs.length ≤ 65536; omega) (HW7.out.2.below HB8.out) (fun k _ h => HO7.out k h) (by rw [List.length_append]; have h1 := HR.out.1.now; have h2 := HM.out.2.2.2.2.2; have h3 := HH.out.2.2; omega) K (j + 1) HM.out.2.2.2.2.1 (by omega) (by have h3 := HH.out.2.2; omega) HM.out.2.2.1;rw [show (((j + 1 : Nat) : Int)) = (j : Int) + 1 by simp] at hkp
        have hkm : keepM (tkM m0 s) (s.now ++ bp b) K (j + 1) = tkM m0 (zf j s K (bp b) true) := by
         have h1 := HM.out.2.2.2.1;unfold keepM tkM zf;simp only [if_true];rw [← h1]
        rw [hkm] at hkp;have HKP := Lib.hid hkp;clear hkp hkm
        go_upto_region 12 with fail
        go_wp2_with (go_at_call 94; refine HKP.out.mono ?_; rintro _ w9 ⟨rfl, hL9, hT9⟩; have H9 := sq2 hL9 hT9; clear hL9 hT9)
        have HF : Hid (WTk w S p g m0 bs (.slice none 0 0) (.int .u64 (K : Int)) (.bool false) (.int .i64 ((j : Int) + 1)) w9) := Lib.hid (by
         have hm := HM.out.1;have hsz := H9.out.2.size;have hs8 := HB8.out.size
         have hTr : Turned S w w9 := (HT7.out.trans (Turned.of_below (S := S) HB8.out) fun _ _ h => h).trans H9.out.2 fun k hk h => by
          rcases (HR.out.2.2.2.2.1 k h).2 with h1 | h1
          ·exact h1
          ·omega
         refine ⟨j + 1, _, hlt, by simp, hm.1, ?_, ?_, ?_, ?_, ?_, by rw [hm.2]; exact H9.out.1, fun k hk => ?_, hTr⟩
         ·rw [hm.2]; exact HM.out.2.1
         ·rw [hm.2]; rfl
         ·rw [hm.2]; rfl
         ·rw [hm.2];exact World.ownsRow_nil _ _ _ _
         ·intro q h;simp [Value.ownBlock] at h
         ·rcases hk with hk | hk | hk
          ·have h1 := HR.out.2.2.2.2.1 k hk;exact ⟨by have := HS7.out.1; omega, h1.2⟩
          ·have h1 := HW7.out.1.lt k hk;exact ⟨by omega, .inr h1.1⟩
          ·exact ⟨hk.2, .inr (by have := HS7.out.2; omega)⟩)
        clear HE7 HLG7 HT7 HO7 HW7 HKP
        go_roundw
        case rel => exact HF.out
        case measure => simp only [intOf]; omega
  ·(obtain rfl : j = bs.length := by omega);have HR := sq4 hok hLg hT htn;clear hok hsc hown hTq hLg hT htn hlt hj
   go_wp2_with fail
   refine bodyPost_end (results_none rfl _ _ _) rfl ?_;refine ⟨rfl, WTk.stop ?_ HR.out.2.1 HR.out.2.2.1 HR.out.2.2.2 (Below.refl _ _)⟩;have h1 := HR.out.1;rw [List.take_of_length_le (Nat.le_refl _)] at h1 ⊢;exact scan_end h1
structure Steps (B : Nat) (D : Nat → Prop) (W W' : World) : Prop where
 os : W'.os = W.os
 tape : W'.tape = W.tape
 output : W'.output = W.output
 size : W.heap.size ≤ W'.heap.size
 block : ∀ b, b < W.heap.size → ¬ D b → (b < B ∨ ∃ o : Obj, W.heap[b]? = some o ∧ o.isCells = true) → W'.heap[b]? = W.heap[b]?
theorem Steps.of_below {B : Nat} {D : Nat → Prop} {W W' : World} (h : Below W.heap.size W W') : Steps B D W W' := ⟨h.os, h.tape, h.output, h.size, fun b hb _ _ => h.block b hb⟩
theorem Steps.lower {B B' : Nat} {D : Nat → Prop} {W W' : World} (h : Steps B' D W W') (hB : B ≤ B') : Steps B D W W' :=
 ⟨h.os, h.tape, h.output, h.size, fun b hb hd hc => h.block b hb hd (hc.imp (fun h => by omega) id)⟩
theorem Steps.putObj {B : Nat} {D : Nat → Prop} {W : World} {l : Nat} {o : Obj} (o' : Obj) (hB : B ≤ l) (hl : W.heap[l]? = some o) (ho : o.isCells = false) : Steps B D W (W.putObj l o') :=
 ⟨rfl, rfl, rfl, by simp, fun b _ _ hc => World.putObj_heap_other (by
   rintro rfl;rcases hc with hc | ⟨o2, h2, h3⟩
   ·omega
   ·rw [hl] at h2
    cases h2
    rw [ho] at h3
    cases h3)⟩
theorem Steps.cells {B : Nat} {D : Nat → Prop} {W W' : World} (h : Steps B D W W') {b : Nat} {cs : Array Value} {t : TypeId} {f : Nat × Nat} (hb : W.heap[b]? = some (.cells cs t f)) (hd : ¬ D b) : W'.heap[b]? = some (.cells cs t f) :=
 (h.block b (Array.getElem?_eq_some_iff.1 hb).1 hd (.inr ⟨_, hb, rfl⟩)).trans hb
def yZ (B : Nat) (D : Nat → Prop) (W : World) : Prop := ∀ b, D b → B ≤ b ∧ b < W.heap.size
theorem yZ.none_ (B : Nat) (W : World) : yZ B (fun _ => False) W := fun _ h => h.elim
theorem yZ.grow {B : Nat} {D : Nat → Prop} {W W' : World} (h : yZ B D W) (hs : W.heap.size ≤ W'.heap.size) : yZ B D W' := fun b hb => ⟨(h b hb).1, Nat.lt_of_lt_of_le (h b hb).2 hs⟩
theorem yZ.not {B b : Nat} {D : Nat → Prop} {W : World} (h : yZ B D W) (hb : b < B) : ¬ D b := fun hd => by
 have := (h b hd).1;omega
theorem Steps.below {B n0 : Nat} {D : Nat → Prop} {w0 W W' : World} (h : Steps B D W W') (hb : Below n0 w0 W) (hB : yZ B D W) (h0 : n0 ≤ w0.heap.size) (h1 : n0 ≤ B) : Below n0 w0 W' :=
 hb.trans ⟨h.os, h.tape, h.output, h.size, fun k hk => h.block k (by have := hb.size; omega) (hB.not (by omega)) (.inl (by omega))⟩
def Still {σ : Type} (B : Nat) (J : (Nat → Prop) → σ → World → Prop) : Prop :=
 ∀ (D D' : Nat → Prop) (s : σ) (W W' : World), yZ B D W → J D s W → Steps B D W W' → (∀ b, D' b → D b ∨ (W.heap.size ≤ b ∧ b < W'.heap.size)) → J D' s W'
theorem still_false {σ : Type} (B : Nat) : Still B (fun _ (_ : σ) _ => False) := fun _ _ _ _ _ _ h _ _ => h
structure Kept (B : Nat) (D K : Nat → Prop) (W W' : World) : Prop where
 turned : Turned (fun b => ¬ (D b ∨ K b)) W W'
 keeps : KeepsFrom B W W'
theorem Kept.refl (B : Nat) (D K : Nat → Prop) (W : World) : Kept B D K W W := ⟨Turned.refl _ _, KeepsFrom.refl _ _⟩
theorem Kept.trans {B : Nat} {D K : Nat → Prop} {X Y Z : World} (h : Kept B D K X Y) (k : Kept B D K Y Z) : Kept B D K X Z := ⟨h.turned.trans k.turned fun _ _ h => h, h.keeps.trans k.keeps⟩
theorem Kept.raise {B B' : Nat} {D K : Nat → Prop} {W W' : World} (h : Kept B D K W W') (hB : B ≤ B') : Kept B' D K W W' := ⟨h.turned, ⟨h.keeps.size, fun k o hk => h.keeps.same k o (by omega)⟩⟩
theorem Kept.of_below {B : Nat} {D K : Nat → Prop} {W W' : World} (h : Below W.heap.size W W') : Kept B D K W W' :=
 ⟨Turned.of_below h, ⟨h.size, fun k _ _ hk _ => (h.block k (Array.getElem?_eq_some_iff.1 hk).1).trans hk⟩⟩
theorem Kept.of_gr {B : Nat} {D K : Nat → Prop} {W W' : World} {row : Option Nat} (h : W.grownBy W' row) (hr : ∀ g, row = some g → ¬ D g ∧ ¬ K g ∧ ∃ cs t f, W.heap[g]? = some (.cells cs t f)) : Kept B D K W W' :=
 ⟨Turned.of_gr h fun g e => by
     have := hr g e;rintro (h1 | h1)
     ·exact this.1 h1
     ·exact this.2.1 h1,
  ⟨h.size, fun k o _ hk ho => (h.block k (Array.getElem?_eq_some_iff.1 hk).1 (fun e => by
     obtain ⟨_, _, cs, t, f, hc⟩ := hr k e.symm;rw [hk] at hc
     cases hc
     cases ho)).trans hk⟩⟩
theorem Kept.putObj {B : Nat} {D K : Nat → Prop} {W : World} {l : Nat} (o' : Obj) (hB : l < B) (hd : ¬ D l) (hk : ¬ K l) : Kept B D K W (W.putObj l o') :=
 ⟨⟨rfl, rfl, rfl, by simp, fun b _ hb => World.putObj_heap_other (by
     rintro rfl;exact hb (fun h => h.elim hd hk))⟩,
  ⟨by simp, fun _ _ _ hk _ => (World.putObj_heap_other (by omega)).trans hk⟩⟩
theorem RoundIn.wide {m m' : Nat} {P : Program} {l : Nat} {f : FuncId} {tmps : Array Value} {assign body : Code} {w : World} {R : Ending → World → Prop} (h : RoundIn Fence.wide m P l f tmps assign body w R) : RoundIn Fence.wide m' P l f tmps assign body w R :=
 ⟨h.1, fun c cs _ => h.2 c cs (room_wide _)⟩
def Iter {α : Type} (P : Program) (g : Nat) (lb : Array Value) (encs : α → Array Value) (K : Nat → Prop) (X : (Nat → Prop) → List α → World → Prop) (S : List α → Prop) (w : World) : Prop :=
 (∀ D s W W', X D s W → Turned (fun b => ¬ (D b ∨ K b)) W W' → X D s W') ∧
 ∀ (l : Nat) (J Jx : (Nat → Prop) → List α → World → Prop) (W : World), Below w.heap.size w W → Still W.heap.size J → Still W.heap.size Jx →
   (∀ D pre x W1, yZ W.heap.size D W1 → J D pre W1 → X D (pre ++ [x]) W1 → YieldAt Fence.wide 1 P l (encs x) W1 fun e W' =>
     (e = .returned (.bool true) ∧ J D (pre ++ [x]) W' ∧ Kept W.heap.size D K W1 W') ∨ (e = .returned (.bool false) ∧ Jx D (pre ++ [x]) W' ∧ Kept W.heap.size D K W1 W')) →
   J (fun _ => False) [] W →
   Calls P g (#[.func (.yield l) #[] #[]] ++ lb) W fun e W' => (∃ v, e = .returned v) ∧ ∃ D, yZ W.heap.size D W' ∧ ((∃ xs, S xs ∧ X D xs W' ∧ J D xs W') ∨ (∃ pre, X D pre W' ∧ Jx D pre W'))
def itPost {α : Type} (B : Nat) (K : Nat → Prop) (I : (Nat → Prop) → List α → World → Prop) (Ix : Code → (Nat → Prop) → List α → World → Prop) (D : Nat → Prop) (xs : List α) (W : World) : Exit → Act → World → Prop
 | .normal, _, W' => Kept B D K W W' ∧ I D xs W'
 | .ret, _, W' => Kept B D K W W' ∧ Ix .ret D xs W'
 | .exit id, _, W' => Kept B D K W W' ∧ Ix (.exit id) D xs W'
 | .goto t, _, W' => Kept B D K W W' ∧ Ix (.goto t) D xs W'
 | .panic _, _, _ => False
 | .outgrown, _, _ => False
theorem wpIn_rangeFunc_it {α : Type} {P : Program} {g : Operand} {ps : Array Tmp} {assign body : Code} {Q : Exit → Act → World → Prop} {a : Act} {w : World}
    {gf : Nat} {lb : Array Value} (hg : a.eval g = .func (.func gf) #[] lb) (eg : ∀ args w, (callFunc gf args).run P w = .ok (.enter gf args) w)
    {encs : α → Array Value} {K : Nat → Prop} {X : (Nat → Prop) → List α → World → Prop} {S : List α → Prop} {w0 : World} (hseq : Iter P gf lb encs K X S w0) (hb0 : Below w0.heap.size w0 w) (hK : ∀ b, K b → b < w.heap.size) (hps : ∀ x, (encs x).size = ps.size)
    (I : (Nat → Prop) → List α → World → Prop) (Ix : Code → (Nat → Prop) → List α → World → Prop) (hI : Still w.heap.size I) (hIx : ∀ c, Still w.heap.size (Ix c)) (h0 : I (fun _ => False) [] w)
    (Ax : α → Act → World → Prop) (hAx : ∀ x a', OwnFrom w.heap.size (fun (_ : Unit) W => Ax x a' W))
    (hassign : ∀ (l : Nat) (D : Nat → Prop) (pre : List α) (x : α) (W : World) (C : Act → World → Prop), yZ (w.heap.size + 2) D W → I D pre W → X D (pre ++ [x]) W → (∀ a' W', Kept w.heap.size D K W W' → I D pre W' → Ax x a' W' → C a' W') →
      assign.wpIn (Fence.wide.inRound l) 1 P (Exit.then C (fun _ _ _ => False)) { tmps := (ps.zip (encs x)).foldl (fun t (p, v) => t.setIfInBounds p v) a.tmps, defers := [] } W)
    (hbody : ∀ (l : Nat) (D : Nat → Prop) (pre : List α) (x : α) (a' : Act) (W : World), w.heap.size ≤ l → w.heap.size + 2 ≤ W.heap.size → yZ (w.heap.size + 2) D W → I D pre W → X D (pre ++ [x]) W → Ax x a' W → body.wpIn (Fence.wide.inRound l) 1 P (itPost w.heap.size K I Ix D (pre ++ [x]) W) a' W)
    (hdone : ∀ (E : Nat) (D : Nat → Prop) (xs : List α) (W : World), E = w.heap.size → w.heap.size + 2 ≤ W.heap.size → yZ (w.heap.size + 2) D W → S xs → X D xs W → I D xs W → W.heap[E]? = some (.deferred (some [])) → Q .normal { a with defers := { target := .collected E, args := #[] } :: a.defers } W)
    (hstop : ∀ (E : Nat) (D : Nat → Prop) (c : Code) (pre : List α) (W : World), E = w.heap.size → w.heap.size + 2 ≤ W.heap.size → yZ (w.heap.size + 2) D W → X D pre W → Ix c D pre W → W.heap[E]? = some (.deferred (some [])) → c.wpIn Fence.wide 3 P Q { a with defers := { target := .collected E, args := #[] } :: a.defers } W) :
    (Code.rangeFunc g ps assign body).wpIn Fence.wide 3 P Q a w := by
 refine wpIn_rangeFunc ?_;intro fn hfn;obtain ⟨rec, hrec⟩ : ∃ rec : LoopState → Option Code → Loop, rec = fun st pe => { state := st, pending := pe, fn, tmps := a.tmps, params := ps, assign, body, defers := w.heap.size } := ⟨_, rfl⟩
 obtain ⟨W1, hW1⟩ : ∃ W1, (w.alloc (.deferred (some []))).alloc (.loop (rec .ready none)) = W1 := ⟨_, rfl⟩
 have hs1 : W1.heap.size = w.heap.size + 2 := by rw [← hW1]; simp
 have hL1 : W1.heap[w.heap.size + 1]? = some (.loop (rec .ready none)) := by
  rw [← hW1];have := World.alloc_heap_new (w.alloc (.deferred (some []))) (.loop (rec .ready none))
  rwa [World.size_alloc] at this
 have hD1 : W1.heap[w.heap.size]? = some (.deferred (some [])) := by
  rw [← hW1];exact (Below.heap_alloc _ _ _ (by simp)).trans (World.alloc_heap_new w _)
 have hb01 : Below w.heap.size w W1 := by
  rw [← hW1];exact ((Below.refl _ w).alloc (Nat.le_refl _) _).alloc (by simp) _
 have hI1 : I (fun _ => False) [] W1 := hI _ _ _ _ _ (yZ.none_ _ _) h0 (Steps.of_below hb01) (fun _ h => .inl h);have hb1 : Below w0.heap.size w0 W1 := hb0.trans (hb01.mono hb0.size)
 have hnK : ∀ b, w.heap.size ≤ b → ¬ K b := fun b hb hk => by
  have := hK b hk;omega
 have hrk : ∀ {D : Nat → Prop} {A C : World} {o : Obj} {b : Nat}, yZ W1.heap.size D A → Steps W1.heap.size D A C → b < W1.heap.size → A.heap[b]? = some o → C.heap[b]? = some o := fun {D A C o b} hB hS hb ho =>
  (hS.block b (Array.getElem?_eq_some_iff.1 ho).1 (fun hd => by have := (hB b hd).1; omega) (.inl hb)).trans ho
 refine ⟨w.heap.size + 1, [{ target := .collected w.heap.size, args := #[] }], W1, { target := .fn (.func gf) lb, args := #[.func (.yield (w.heap.size + 1)) #[] #[]] }, W1, gf,
  #[.func (.yield (w.heap.size + 1)) #[] #[]] ++ lb, W1, ?_, ?_, ?_, ?_, fun _ => by omega, callsIn_wide.2 ?_⟩
 ·rw [← hW1, hrec];exact run_enterLoop_outer _ _ _ _ _
 ·simp only [resolve, hg];simp [go_sem]
 ·intro f' _;trivial
 ·simp [invoke, go_sem, eg]
 ·refine (hseq.2 (w.heap.size + 1)
    (fun D pre W => I D pre W ∧ W.heap[w.heap.size + 1]? = some (.loop (rec .ready none)) ∧ W.heap[w.heap.size]? = some (.deferred (some [])))
    (fun D pre W => ∃ c, Ix c D pre W ∧ W.heap[w.heap.size + 1]? = some (.loop (rec .done (some c))) ∧ W.heap[w.heap.size]? = some (.deferred (some [])))
    W1 hb1
    (fun D D' s A C hB hs hS hD => ⟨hI _ _ _ _ _ (fun b hb => ⟨by have := (hB b hb).1; omega, (hB b hb).2⟩) hs.1 (hS.lower (by omega)) hD, hrk hB hS (by omega) hs.2.1, hrk hB hS (by omega) hs.2.2⟩)
    (fun D D' s A C hB hs hS hD => by
      obtain ⟨c, hc, hl, hk⟩ := hs;exact ⟨c, hIx c _ _ _ _ _ (fun b hb => ⟨by have := (hB b hb).1; omega, (hB b hb).2⟩) hc (hS.lower (by omega)) hD, hrk hB hS (by omega) hl, hrk hB hS (by omega) hk⟩)
    ?_ ⟨hI1, hL1, hD1⟩).mono ?_
  ·-- one round
   rintro D pre x W hB ⟨hi, hl, hk⟩ hx;rw [hs1] at hB;(have hnD : ¬ D (w.heap.size + 1) := fun h => by have := (hB _ h).1; omega);have hy := run_yield (P := P) (args := encs x) hl (by rw [hrec]; exact hps x);rw [hrec] at hy;refine ⟨fn, _, assign, body, hy, roundIn_of_wpIn hfn (hassign _ D pre x W _ hB hi hx ?_)⟩;clear hy;intro a' Wa hka hia hax;have hla := hka.keeps.same _ _ (by omega) hl rfl;have hda := hka.keeps.same _ _ (Nat.le_refl _) hk rfl;have hxa := hseq.1 _ _ _ _ hx hka.turned;have hBa := hB.grow hka.turned.size;have hlt : w.heap.size + 1 < Wa.heap.size := (Array.getElem?_eq_some_iff.1 hla).1;refine ⟨_, run_beginRound hla (by rw [hrec]), ?_⟩;(obtain ⟨Wb, hWb⟩ : ∃ Wb, Wa.putObj (w.heap.size + 1) (.loop { rec .ready none with state := .busy }) = Wb := ⟨_, rfl⟩)
   have hkb : Kept W1.heap.size D K Wa Wb := by
    rw [← hWb];exact Kept.putObj _ (by omega) hnD (hnK _ (by omega))
   have hsb : Steps w.heap.size D Wa Wb := by
    rw [← hWb];exact Steps.putObj _ (by omega) hla rfl
   have hlb : Wb.heap[w.heap.size + 1]? = some (.loop { rec .ready none with state := .busy }) := by
    rw [← hWb];exact World.putObj_heap_same hlt
   have hdb : Wb.heap[w.heap.size]? = some (.deferred (some [])) := by
    rw [← hWb];exact (World.putObj_heap_other (by omega)).trans hda
   (have hBl : yZ w.heap.size D Wa := fun b hb => ⟨by have := (hBa b hb).1; omega, (hBa b hb).2⟩);have hib := hI _ _ _ _ _ hBl hia hsb (fun _ h => .inl h)
   have haxb : Ax x a' Wb := by
    rw [← hWb];exact (hAx x a').putObj (s := ()) _ hax (by omega) hla rfl
   rw [hWb];refine wpIn_mono (hbody _ D pre x a' Wb (by omega) (by have := hkb.turned.size; omega) (hBa.grow hkb.turned.size) hib (hseq.1 _ _ _ _ hxa hkb.turned) haxb) ?_
   have fin : ∀ (jump : Option Code) (W3 : World), Kept w.heap.size D K Wb W3 →
       (Instr.endRound (w.heap.size + 1) jump).run P W3 = .ok (.bool jump.isNone) (W3.putObj (w.heap.size + 1) (.loop (rec (if jump.isNone then .ready else .done) jump))) ∧
       (W3.putObj (w.heap.size + 1) (.loop (rec (if jump.isNone then .ready else .done) jump))).heap[w.heap.size + 1]? = some (.loop (rec (if jump.isNone then .ready else .done) jump)) ∧
       (W3.putObj (w.heap.size + 1) (.loop (rec (if jump.isNone then .ready else .done) jump))).heap[w.heap.size]? = some (.deferred (some [])) ∧
       Kept W1.heap.size D K W (W3.putObj (w.heap.size + 1) (.loop (rec (if jump.isNone then .ready else .done) jump))) ∧
       Steps w.heap.size D W3 (W3.putObj (w.heap.size + 1) (.loop (rec (if jump.isNone then .ready else .done) jump))) ∧ yZ w.heap.size D W3 := fun jump W3 hk3 => by
    have hl3 := hk3.keeps.same _ _ (by omega) hlb rfl;have hd3 := hk3.keeps.same _ _ (Nat.le_refl _) hdb rfl;have hend := run_endRound (P := P) jump hl3;rw [hrec] at hend;refine ⟨by rw [hrec]; exact hend, World.putObj_heap_same (Array.getElem?_eq_some_iff.1 hl3).1, (World.putObj_heap_other (by omega)).trans hd3, ?_, Steps.putObj _ (by omega) hl3 rfl, (hBl.grow hkb.turned.size).grow hk3.turned.size⟩;exact (hka.raise (by omega)).trans (hkb.trans ((hk3.raise (by omega)).trans (Kept.putObj _ (by omega) hnD (hnK _ (by omega)))))
   rintro e a3 W3 hp
   cases e with
   | normal =>
     obtain ⟨hr, hl4, hd4, hk4, hs4, hB4⟩ := fin none W3 hp.1;exact ⟨_, _, hr, .inl ⟨rfl, ⟨hI _ _ _ _ _ hB4 hp.2 hs4 (fun _ h => .inl h), hl4, hd4⟩, hk4⟩⟩
   | ret =>
     obtain ⟨hr, hl4, hd4, hk4, hs4, hB4⟩ := fin (some .ret) W3 hp.1;exact ⟨_, _, hr, .inr ⟨rfl, ⟨.ret, hIx _ _ _ _ _ _ hB4 hp.2 hs4 (fun _ h => .inl h), hl4, hd4⟩, hk4⟩⟩
   | exit id =>
     obtain ⟨hr, hl4, hd4, hk4, hs4, hB4⟩ := fin (some (.exit id)) W3 hp.1;exact ⟨_, _, hr, .inr ⟨rfl, ⟨.exit id, hIx _ _ _ _ _ _ hB4 hp.2 hs4 (fun _ h => .inl h), hl4, hd4⟩, hk4⟩⟩
   | goto t =>
     obtain ⟨hr, hl4, hd4, hk4, hs4, hB4⟩ := fin (some (.goto t)) W3 hp.1;exact ⟨_, _, hr, .inr ⟨rfl, ⟨.goto t, hIx _ _ _ _ _ _ hB4 hp.2 hs4 (fun _ h => .inl h), hl4, hd4⟩, hk4⟩⟩
   | panic ch => exact hp.elim
   | outgrown => exact hp.elim
  ·-- behind the iterator
   rintro e W2 ⟨⟨v, rfl⟩, D, hB, (⟨xs, hS, hx, hi, hl, hk⟩ | ⟨pre, hx, c, hi, hl, hk⟩)⟩
   ·(have hnD : ¬ D (w.heap.size + 1) := fun h => by have := (hB _ h).1; omega);rw [hs1] at hB;(have hBl : yZ w.heap.size D W2 := fun b hb => ⟨by have := (hB b hb).1; omega, (hB b hb).2⟩);have hend := run_endLoop (P := P) hl (by rw [hrec]; simp);rw [hrec] at hend;refine ⟨none, _, hend, hdone _ D xs _ rfl (by have := (Array.getElem?_eq_some_iff.1 hl).1; simp; omega) (hB.grow (by simp)) hS (hseq.1 _ _ _ _ hx (Kept.putObj (B := W1.heap.size) _ (by omega) hnD (hnK _ (by omega))).turned) (hI _ _ _ _ _ hBl hi (Steps.putObj _ (by omega) hl rfl) (fun _ h => .inl h)) ((World.putObj_heap_other (by omega)).trans hk)⟩
   ·(have hnD : ¬ D (w.heap.size + 1) := fun h => by have := (hB _ h).1; omega);rw [hs1] at hB;(have hBl : yZ w.heap.size D W2 := fun b hb => ⟨by have := (hB b hb).1; omega, (hB b hb).2⟩);have hend := run_endLoop (P := P) hl (by rw [hrec]; simp);rw [hrec] at hend;refine ⟨some c, _, hend, hstop _ D c pre _ rfl (by have := (Array.getElem?_eq_some_iff.1 hl).1; simp; omega) (hB.grow (by simp)) (hseq.1 _ _ _ _ hx (Kept.putObj (B := W1.heap.size) _ (by omega) hnD (hnK _ (by omega))).turned) (hIx c _ _ _ _ _ hBl hi (Steps.putObj _ (by omega) hl rfl) (fun _ h => .inl h)) ((World.putObj_heap_other (by omega)).trans hk)⟩
end Go.Proofs.YtmioifcbkhpdaaaGreat
