/-
  The code's: the records that stand in blocks, taken.
-/
import Derived.Test.YtkhbmgmppoepjaaWalKeep
import Derived.Test.YtkhbmgmppoepjaaWalWhole
import Derived.Test.YtkhbmgmppoepjaaAppend
namespace Go.Proofs.Ytkhbmgmppoepjaa
open Go.RowKit

/-! Where a scan stands. -/
structure ScI (j : Nat) (s : WS) : Prop where
  few : s.recs.length ≤ j
  now : s.now.length ≤ 110 * j
  each : ∀ x ∈ s.recs, x.length ≤ 110 * j
  ahead : s.ahead < 18446744073709551616
  none_ : s.recs = [] → s.have_ = 0 ∧ (0 < j → s.within = true ∧ s.ahead = s.fst + (j - 1) ∧ 1 ≤ s.fst)
  some_ : s.recs ≠ [] → s.first = s.fst
theorem ScI.start : ScI 0 ws0 := ⟨Nat.le_refl _, by simp [ws0], by simp [ws0], by simp [ws0], fun _ => ⟨rfl, fun h => absurd h (by omega)⟩, fun h => absurd rfl h⟩
theorem good_parts {s : WS} {k : Nat} (h : badW s k = false) : 1 ≤ k ∧ s.ahead < k ∧ (s.within = true → k = s.ahead + 1) := by
  unfold badW at h
  simp only [Bool.or_eq_false_iff, decide_eq_false_iff_not, Bool.and_eq_false_iff] at h
  obtain ⟨⟨h1, h2⟩, h3⟩ := h
  refine ⟨by omega, by omega, fun hw => ?_⟩
  rcases h3 with h3 | h3
  · rw [hw] at h3; cases h3
  · omega
theorem ScI.first {j : Nat} {s : WS} (h : ScI j s) {k : Nat} (hg : badW s k = false) : (s.recs = [] → j + 1 ≤ k) ∧ (if s.recs = [] then k + 1 - (j + 1) else s.first) = (if j = 0 then k else s.fst) := by
  obtain ⟨h1, h2, h3⟩ := good_parts hg
  by_cases hr : s.recs = []
  · obtain ⟨_, h4⟩ := h.none_ hr
    rw [if_pos hr]
    by_cases hj : j = 0
    · subst hj
      rw [if_pos rfl]
      exact ⟨fun _ => by omega, by omega⟩
    · obtain ⟨h5, h6, h7⟩ := h4 (by omega)
      have := h3 h5
      rw [if_neg hj]
      exact ⟨fun _ => by omega, by omega⟩
  · have hj : j ≠ 0 := by
      rintro rfl
      have := h.few
      exact hr (List.eq_nil_of_length_eq_zero (by omega))
    rw [if_neg hr, if_neg hj]
    exact ⟨fun h => absurd h hr, h.some_ hr⟩
theorem ScI.next {j : Nat} {s : WS} (h : ScI j s) {k : Nat} {p : List UInt8} {e : Bool} (hg : badW s k = false) (hp : p.length ≤ 110) (hk : k < 18446744073709551616) : ScI (j + 1) (nextW j s k p e) := by
  obtain ⟨h1, h2, h3⟩ := good_parts hg
  have hn := h.now
  have hf := h.few
  cases e with
  | true =>
    refine ⟨by simp [nextW]; omega, by simp [nextW], fun x hx => ?_, hk, fun h => absurd h (by simp [nextW]), fun _ => rfl⟩
    simp only [nextW, if_true] at hx
    rcases List.mem_append.1 hx with hx | hx
    · have := h.each x hx
      omega
    · rw [List.mem_singleton.1 hx, List.length_append]
      omega
  | false =>
    refine ⟨by simp only [nextW, Bool.false_eq_true, if_false]; omega, ?_, fun x hx => ?_, hk, fun hr => ?_, fun hr => ?_⟩
    · simp only [nextW, Bool.false_eq_true, if_false, List.length_append]
      omega
    · have := h.each x (by simpa [nextW] using hx)
      omega
    · have hr : s.recs = [] := by simpa [nextW] using hr
      obtain ⟨h4, h5⟩ := h.none_ hr
      refine ⟨by simpa [nextW] using h4, fun _ => ⟨rfl, ?_, ?_⟩⟩
      · simp only [nextW, Bool.false_eq_true, if_false]
        by_cases hj : j = 0
        · rw [if_pos hj]; omega
        · obtain ⟨h6, h7, h8⟩ := h5 (by omega)
          have := h3 h6
          rw [if_neg hj]
          omega
      · simp only [nextW, Bool.false_eq_true, if_false]
        by_cases hj : j = 0
        · rw [if_pos hj]; exact h1
        · rw [if_neg hj]
          exact (h5 (by omega)).2.2
    · have hr2 : s.recs ≠ [] := by simpa [nextW] using hr
      have hj : j ≠ 0 := fun h0 => hr2 (List.eq_nil_of_length_eq_zero (by omega))
      simp only [nextW, Bool.false_eq_true, if_false]
      rw [if_neg hj]
      exact h.some_ hr2
/-- The scan of all, where the first so many are right and the next is not, or there is none. -/
theorem scan_stop {bs : List (List UInt8)} {j : Nat} (hj : j < bs.length) (hok : okW (bs.take j) 0 ws0) (hbad : badW (runW (bs.take j) 0 ws0) (readL (bs[j]?.getD [])).1 = true) : scanW bs 0 ws0 = runW (bs.take j) 0 ws0 := by
  conv => lhs; rw [← List.take_append_drop j bs]
  rw [scanW_app _ _ _ _ hok, List.drop_eq_getElem_cons hj, scanW]
  rw [List.getElem?_eq_getElem hj, Option.getD_some] at hbad
  rw [if_pos hbad]
theorem scan_end {bs : List (List UInt8)} (hok : okW bs 0 ws0) : scanW bs 0 ws0 = runW bs 0 ws0 := by
  have := scanW_app bs [] 0 ws0 hok
  rw [List.append_nil] at this
  rw [this, scanW]
theorem scan_more {bs : List (List UInt8)} {j : Nat} (hj : j < bs.length) (hok : okW (bs.take j) 0 ws0) (hg : badW (runW (bs.take j) 0 ws0) (readL (bs[j]?.getD [])).1 = false) :
    okW (bs.take (j + 1)) 0 ws0 ∧ runW (bs.take (j + 1)) 0 ws0 = stepW j (runW (bs.take j) 0 ws0) (bs[j]?.getD []) := by
  have hl : (bs.take j).length = j := by rw [List.length_take]; omega
  rw [List.getElem?_eq_getElem hj, Option.getD_some] at hg ⊢
  rw [List.take_succ_eq_append_getElem hj, okW_app, runW_app, hl, Nat.zero_add]
  exact ⟨⟨hok, hg, trivial⟩, rfl⟩

/-! Bytes appended to a row of the call's own. -/
theorem own_byt_own {w : World} {B : Nat} {e : TypeId} {v : Value} {n : Nat} {l : List UInt8} (h : w.ownsRow B e 1 v n (u8s l)) : ∃ A c, v = .slice A n c ∧ Byt w (fun k => v.ownBlock = some k) A n c l := by
  have hl : l.length = n := by have := h.1; rw [u8s_length] at this; omega
  rcases h.2 with ⟨rfl, h2⟩ | ⟨g, cap, cur, rfl, hb, hg, hn, hm, _, _⟩
  · subst h2
    have : l = [] := List.eq_nil_of_length_eq_zero hl
    subst this
    exact ⟨none, 0, rfl, Byt.nil _ _ _ _ (Nat.zero_le _)⟩
  · refine ⟨_, cap, rfl, hl, hn, hm, fun _ => ⟨g, 0, rfl, rfl, (Array.getElem?_eq_some_iff.1 hg).1, fun i hi => ?_⟩⟩
    have := h.cells (g := g) rfl i (.int .u8 ((l[i]?.getD 0).toNat : Int)) (by
      have hil : i < l.length := by omega
      simp [u8s, List.getElem?_map, List.getElem?_eq_getElem hil])
    rw [add_plain] at this
    exact this
theorem append_lies {W : World} {B k : Nat} {v : Value} {xs : List Value} (hown : W.ownsRow B 5 1 v k xs) {S : Nat → Prop} {A : Option Addr} {n c : Nat} {l : List UInt8} (h : Byt W S A n c l) (hb : k + n ≤ 10000000) (hB : B ≤ W.heap.size) (ty : TypeId) :
    ∃ v' W', (Builtin.append_ #[41, 41] ty #[v, .slice A n c]).run Try.prog W = .ok v' W' ∧ W'.ownsRow B 5 1 v' (k + n) (xs ++ u8s l) ∧ W.grownBy W' v.ownBlock ∧ (v'.ownBlock = v.ownBlock ∨ v'.ownBlock = some W.heap.size) := by
  obtain ⟨i0, hi, hz0, hz1, hz2⟩ := info_parts u8_info
  rcases A with _ | ad
  · obtain rfl : n = 0 := by
      rcases Nat.eq_zero_or_pos n with h0 | h0
      · exact h0
      · obtain ⟨_, _, hA, _⟩ := h.row h0
        cases hA
    obtain rfl : l = [] := List.eq_nil_of_length_eq_zero h.len
    have hv : ∃ A' c', v = .slice A' k c' ∧ k ≤ c' := by
      rcases hown.2 with ⟨rfl, h2⟩ | ⟨g, cap, cur, rfl, _, _, hn, _⟩
      · subst h2
        exact ⟨none, 0, rfl, Nat.le_refl _⟩
      · exact ⟨_, cap, rfl, hn⟩
    obtain ⟨A', c', rfl, hc⟩ := hv
    exact ⟨_, W, run_append_zero W 41 ty 5 i0 Try.underlying41 hi _ k c' c hc, by simpa [u8s] using hown, World.grownBy.refl _ _, .inl rfl⟩
  · obtain ⟨v', W', hrun, r1, r2, _, r4⟩ := run_append_own_at (P := Try.prog) W B 41 ty 5 i0 (.int .u8 0) 1 1 Try.underlying41 hi hz0 hz1 hz2 rfl (by decide) v k xs hown ad n c (u8s l) (by rw [u8s_length, h.len, Nat.mul_one]) (byt_news h) (u8s_one l) (by unfold maxLen; omega) (by omega) hB
    exact ⟨v', W', hrun, r1, r2, r4⟩

/-! The rounds. -/
/-- The log that a scan has come to. -/
def tkM (m0 : LM) (s : WS) : LM := { m0 with first := s.first, have_ := s.have_, l := s.recs }
def WTk (w1 : World) (S : Nat → Prop) (p g : Nat) (m0 : LM) (bs : List (List UInt8)) (rc ah wi i : Value) (wr : World) : Prop :=
  ∃ (j : Nat) (T : Nat → Prop), j ≤ bs.length ∧ i = .int .i64 (j : Int) ∧ okW (bs.take j) 0 ws0 ∧ ScI j (runW (bs.take j) 0 ws0) ∧ ah = .int .u64 ((runW (bs.take j) 0 ws0).ahead : Int) ∧ wi = .bool (runW (bs.take j) 0 ws0).within ∧
    wr.ownsRow w1.heap.size 5 1 rc (runW (bs.take j) 0 ws0).now.length (u8s (runW (bs.take j) 0 ws0).now) ∧ (∀ q, rc.ownBlock = some q → ¬ T q) ∧ Lg wr T p g (tkM m0 (runW (bs.take j) 0 ws0)) ∧ (∀ k, T k → k < wr.heap.size ∧ (S k ∨ w1.heap.size ≤ k)) ∧ Turned S w1 wr
theorem take_bad {s : WS} {K X : Nat} (h : badW s K = true) (hX : X = (s.ahead + 1) % 18446744073709551616) : K = 0 ∨ (K ≠ 0 ∧ s.within = true ∧ K ≠ X) ∨ (K ≠ 0 ∧ (s.within = false ∨ K = X) ∧ K ≤ s.ahead) := by
  by_cases h1 : K = 0
  · exact .inl h1
  · by_cases h2 : s.within = true ∧ K ≠ X
    · exact .inr (.inl ⟨h1, h2.1, h2.2⟩)
    · refine .inr (.inr ⟨h1, ?_, ?_⟩)
      · by_cases h3 : s.within = true
        · exact .inr (Classical.byContradiction fun h4 => h2 ⟨h3, h4⟩)
        · exact .inl (by simpa using h3)
      · unfold badW at h
        simp only [Bool.or_eq_true, decide_eq_true_eq, Bool.and_eq_true] at h
        rcases h with (h | h) | h
        · exact absurd h h1
        · exact h
        · have h3 : K = X := Classical.byContradiction fun h4 => h2 ⟨h.1, h4⟩
          omega
theorem take_good {s : WS} {K X : Nat} (h : badW s K = false) (hK : K < 18446744073709551616) (hX : X = (s.ahead + 1) % 18446744073709551616) : K ≠ 0 ∧ (s.within = false ∨ K = X) ∧ ¬ K ≤ s.ahead := by
  obtain ⟨h1, h2, h3⟩ := good_parts h
  refine ⟨by omega, ?_, by omega⟩
  by_cases h4 : s.within = true
  · have := h3 h4
    exact .inr (by omega)
  · exact .inl (by simpa using h4)
theorem readL_parts {b : List UInt8} (h : (readL b).1 ≠ 0) : b.length = 128 ∧ b8 b ≤ 110 ∧ (readL b).2.1 = bp b ∧ (readL b).2.2 = b9 b := by
  by_cases h1 : b.length ≠ 128 ∨ 110 < (b[8]?.getD 0).toNat ∨ 1 < (b[9]?.getD 0).toNat
  · rw [readL_no h1] at h
    exact absurd rfl h
  · unfold readL at h ⊢
    rw [if_neg h1] at h ⊢
    simp only at h ⊢
    by_cases h2 : blockL (valL (b.take 8)) ((b.drop 10).take (b[8]?.getD 0).toNat) (decide ((b[9]?.getD 0).toNat = 1)) ≠ b ∨ (b[9]?.getD 0).toNat = 0 ∧ ((b.drop 10).take (b[8]?.getD 0).toNat).length < 110
    · rw [if_pos h2] at h
      exact absurd rfl h
    · rw [if_neg h2]
      refine ⟨Classical.byContradiction fun h3 => h1 (.inl h3), Nat.le_of_not_lt fun h3 => h1 (.inr (.inl h3)), rfl, rfl⟩
/-- What take leaves. -/
def TkPost (w1 : World) (S : Nat → Prop) (p g : Nat) (m0 : LM) (bs : List (List UInt8)) (w' : World) : Prop := Lg w' (fun k => S k ∨ w1.heap.size ≤ k) p g (tkM m0 (scanW bs 0 ws0)) ∧ Turned S w1 w'
theorem WTk.stop {w1 wr w' : World} {S : Nat → Prop} {p g : Nat} {m0 : LM} {bs : List (List UInt8)} {T : Nat → Prop} {s : WS} (hs : scanW bs 0 ws0 = s) (hL : Lg wr T p g (tkM m0 s)) (hT : ∀ k, T k → k < wr.heap.size ∧ (S k ∨ w1.heap.size ≤ k)) (ht : Turned S w1 wr) (hb : Below wr.heap.size wr w') : TkPost w1 S p g m0 bs w' :=
  ⟨by rw [hs]; exact (hL.below hb).mono fun k _ h => (hT k h).2, ht.trans (Turned.of_below (S := S) hb) fun _ _ h => h⟩
set_option maxHeartbeats 8000000 in
set_option maxRecDepth 100000 in
theorem wtake_any {w : World} {S : Nat → Prop} {p g q : Nat} {m0 : LM} {bs : List (List UInt8)} (h : Lg w S p g m0) (h0 : m0.l = [] ∧ m0.have_ = 0 ∧ m0.first = 0) (hq : Bks w q bs) (hSq : ¬ S q) (hn : bs.length ≤ 65536) :
    Calls Try.prog 37 #[.pointer (some ⟨p, 0, none⟩), .slice (some ⟨q, 0, none⟩) bs.length bs.length] w fun e w' => e = .returned (.tuple #[]) ∧ TkPost w S p g m0 bs w' := by
  have hz := zero_wblk
  have H0 : Hid (WTk w S p g m0 bs (.slice none 0 0) (.int .u64 0) (.bool false) (.int .i64 0) w) := Lib.hid ⟨0, fun k => S k ∧ k < w.heap.size, Nat.zero_le _, rfl, trivial, ScI.start, rfl, rfl, World.ownsRow_nil _ _ _ _, fun q h => by simp [Value.ownBlock] at h, by
    have : tkM m0 (runW (bs.take 0) 0 ws0) = m0 := by
      obtain ⟨h1, h2, h3⟩ := h0
      cases m0
      simp only at h1 h2 h3
      subst h1 h2 h3
      rfl
    rw [this]
    exact h.mono fun b hb hs => ⟨hs, hb⟩, fun k hk => ⟨hk.2, .inl hk.1⟩, Turned.refl _ _⟩
  have HH := Lib.hid (And.intro hq (And.intro hSq hn))
  clear h h0 hq hSq hn
  go_enter Try.func37, Try.ntmps37
  go_wp2_with fail
  go_loopw [4, 5, 6, 13] (fun rc ah wi i wr => WTk w S p g m0 bs rc ah wi i wr) (fun _ _ _ i _ => bs.length - (intOf i).toNat)
  case atStart => exact H0.out
  case round =>
    obtain ⟨j, T, hj, rfl, hok, hsc, rfl, rfl, hown, hTq, hLg, hT, htn⟩ := hrel
    clear H0
    by_cases hlt : j < bs.length
    · have hlt' : (j : Int) < (bs.length : Int) := by omega
      obtain ⟨b, hb⟩ : ∃ b, b = bs[j]?.getD [] := ⟨_, rfl⟩
      have hb128 : b.length = 128 := by
        rw [hb, List.getElem?_eq_getElem hlt]
        exact HH.out.1.2 _ (List.getElem_mem hlt)
      obtain ⟨s, hs⟩ : ∃ s, s = runW (bs.take j) 0 ws0 := ⟨_, rfl⟩
      rw [← hs] at hsc hown hLg ⊢
      obtain ⟨KS, hKS⟩ : ∃ KS, KS = row8 b := ⟨_, rfl⟩
      have hrq : wr.heap[q]? = some (.cells (u8s bs.flatten).toArray 90 (0, 0)) := (htn.block _ (lt_of_cells HH.out.1.1) HH.out.2.1).trans HH.out.1.1
      have HA : Hid (∀ (k : Nat) (v : Value), KS[k]? = some v → wr.cell? ((Addr.mk q (j * 128) none).add k) = some v) := Lib.hid fun k v hk => by
        rw [hKS, row8] at hk
        have hk2 : k < 128 := by
          have := (Array.getElem?_eq_some_iff.1 hk).1
          rwa [List.size_toArray, u8s_length, hb128] at this
        rw [add_plain, cell_of_cells hrq, List.getElem?_toArray, u8s, List.getElem?_map, flat_at HH.out.1.2 j hlt k hk2, ← hb, ← hk, List.getElem?_toArray, u8s, List.getElem?_map]
      have HS : Hid (KS.size = 128 ∧ KS.all (·.oneCell') = true) := Lib.hid ⟨by rw [hKS, row8_size, hb128], by rw [hKS]; exact row8_one _⟩
      have HG : Hid ((wr.alloc (.cells zerosB 90)).heap[wr.heap.size]? = some (.cells zerosB 90 (0, 0))) := Lib.hid (heap_alloc_new wr _)
      have HR := Lib.hid (And.intro hsc (And.intro hown (And.intro hTq (And.intro hLg (And.intro hT htn)))))
      have HKS := Lib.hid (And.intro hKS (And.intro hb128 (And.intro hb (And.intro hs hok))))
      clear hsc hown hTq hLg hT htn hrq hKS hb128 hb hs hok
      have e4 := setRow_at (new := KS) HG.out
      have HB4 := Lib.hid (below_setRow ((Below.refl wr.heap.size wr).alloc (Nat.le_refl _) (.cells zerosB 90)) (Nat.le_refl _) KS)
      go_upto_region 6 with (first
        | (refine wpList_load_at (by rfl) 90 (.tmp 16) (by rfl) ⟨q, j * 128, none⟩ (by rfl) KS _ HA.out Try.underlying90 (by rfl) (by rw [HS.out.1]; exact wblk_size) ?_)
        | (refine wpList_store_row (by rfl) 90 (.tmp 8) (.tmp 17) (by rfl) wr.heap.size KS (by rfl) (by rfl) 90 _ HG.out (by rw [HS.out.1]; exact wblk_size) (by rw [HS.out.1]; exact zerosB_size) HS.out.2 ?_))
      try simp only [Act.put]
      clear HG HA
      generalize (wr.alloc (.cells zerosB 90)).setRow wr.heap.size KS = w4 at *
      obtain ⟨q5, hq5⟩ : ∃ q5, q5 = wr.heap.size := ⟨_, rfl⟩
      rw [← hq5] at e4 ⊢
      have HE4 := Lib.hid e4
      have HQ5 := Lib.hid hq5
      clear hq5
      rw [HKS.out.1] at e4
      have hwh := wwhole_any (byt_sub e4 (o := 0) (m := 128) (c := 128) (by rw [HKS.out.2.1]; omega) (by omega) (by decide) (S := fun _ => True) trivial) (by omega)
      rw [List.drop_zero, List.take_of_length_le (by rw [HKS.out.2.1]; omega)] at hwh
      obtain ⟨K, hK⟩ : ∃ K, K = (readL b).1 := ⟨_, rfl⟩
      obtain ⟨ok, hokk⟩ : ∃ ok, ok = decide (0 < K) := ⟨_, rfl⟩
      rw [← hK, ← hokk] at hwh
      have HK := Lib.hid (And.intro hK hokk)
      clear e4 hK hokk
      go_upto_region 7 with (go_at_call 31; refine hwh.mono ?_; clear hwh; rintro _ w5 ⟨rfl, hb5⟩)
      --[take
      have HB5 := Lib.hid (HB4.out.trans (hb5.mono HB4.out.size))
      have HE5 := Lib.hid ((hb5.block q5 (lt_of_cells HE4.out)).trans HE4.out)
      clear hb5
      have hK64 : K < 18446744073709551616 := by rw [HK.out.1]; exact (readL_small b).1
      have ha64 := HR.out.1.ahead
      obtain ⟨X, hX⟩ : ∃ X : Nat, X = (s.ahead + 1) % 18446744073709551616 := ⟨_, rfl⟩
      have hXw : IntKind.u64.wrap ((s.ahead : Int) + 1) = (X : Int) := by rw [hX, IntKind.wrap_u64]; omega
      by_cases hbad : badW s K = true
      · have HBAD := Lib.hid hbad
        rcases take_bad hbad hX with h1 | ⟨h1, h2, h3⟩ | ⟨h1, h2, h3⟩
        · have hok : ok = false := by rw [HK.out.2]; exact decide_eq_false (by omega)
          subst hok
          clear hbad hX h1 hK64 ha64
          go_wp2_with fail
          refine bodyPost_ret (results_none rfl _ _ _) rfl ?_
          exact ⟨rfl, WTk.stop (scan_stop hlt HKS.out.2.2.2.2 (by rw [← HKS.out.2.2.2.1, ← HKS.out.2.2.1, ← HK.out.1]; exact HBAD.out) |> fun h => h.trans HKS.out.2.2.2.1.symm) HR.out.2.2.2.1 HR.out.2.2.2.2.1 HR.out.2.2.2.2.2 HB5.out⟩
        · have hok : ok = true := by rw [HK.out.2]; exact decide_eq_true (by omega)
          subst hok
          have hne : ((K : Int) != (X : Int)) = true := by simp; omega
          rw [h2]
          clear hbad hX h1 h2 h3 hK64 ha64
          go_wp2_with fail
          refine bodyPost_ret (results_none rfl _ _ _) rfl ?_
          exact ⟨rfl, WTk.stop (scan_stop hlt HKS.out.2.2.2.2 (by rw [← HKS.out.2.2.2.1, ← HKS.out.2.2.1, ← HK.out.1]; exact HBAD.out) |> fun h => h.trans HKS.out.2.2.2.1.symm) HR.out.2.2.2.1 HR.out.2.2.2.2.1 HR.out.2.2.2.2.2 HB5.out⟩
        · have hok : ok = true := by rw [HK.out.2]; exact decide_eq_true (by omega)
          subst hok
          have hle : decide (K ≤ s.ahead) = true := decide_eq_true (by omega)
          clear h3
          rcases h2 with h2 | h2
          · rw [h2]
            clear hbad hX h1 h2 hK64 ha64
            go_wp2_with fail
            refine bodyPost_ret (results_none rfl _ _ _) rfl ?_
            exact ⟨rfl, WTk.stop (scan_stop hlt HKS.out.2.2.2.2 (by rw [← HKS.out.2.2.2.1, ← HKS.out.2.2.1, ← HK.out.1]; exact HBAD.out) |> fun h => h.trans HKS.out.2.2.2.1.symm) HR.out.2.2.2.1 HR.out.2.2.2.2.1 HR.out.2.2.2.2.2 HB5.out⟩
          · have hne : ((K : Int) != (X : Int)) = false := by simp; omega
            cases hw : s.within with
            | true =>
              clear hbad hX h1 h2 hK64 ha64
              go_wp2_with fail
              refine bodyPost_ret (results_none rfl _ _ _) rfl ?_
              exact ⟨rfl, WTk.stop (scan_stop hlt HKS.out.2.2.2.2 (by rw [← HKS.out.2.2.2.1, ← HKS.out.2.2.1, ← HK.out.1]; exact HBAD.out) |> fun h => h.trans HKS.out.2.2.2.1.symm) HR.out.2.2.2.1 HR.out.2.2.2.2.1 HR.out.2.2.2.2.2 HB5.out⟩
            | false =>
              clear hbad hX h1 h2 hK64 ha64
              go_wp2_with fail
              refine bodyPost_ret (results_none rfl _ _ _) rfl ?_
              exact ⟨rfl, WTk.stop (scan_stop hlt HKS.out.2.2.2.2 (by rw [← HKS.out.2.2.2.1, ← HKS.out.2.2.1, ← HK.out.1]; exact HBAD.out) |> fun h => h.trans HKS.out.2.2.2.1.symm) HR.out.2.2.2.1 HR.out.2.2.2.2.1 HR.out.2.2.2.2.2 HB5.out⟩
      · have hg : badW s K = false := by simpa using hbad
        obtain ⟨h1, h2, h3⟩ := take_good hg hK64 hX
        have hok : ok = true := by rw [HK.out.2]; exact decide_eq_true (by omega)
        subst hok
        have hle : decide (K ≤ s.ahead) = false := decide_eq_false (by omega)
        obtain ⟨hr1, hr2, hr3, hr4⟩ := readL_parts (b := b) (by rw [← HK.out.1]; omega)
        have hpt : ∀ W, Calls Try.prog 53 #[.agg KS] W fun e w' => ∃ A n c, e = .returned (.slice A n c) ∧ Byt w' (W.heap.size ≤ ·) A n c (bp b) ∧ Below W.heap.size W w' := fun W => by
          rw [HKS.out.1]
          exact wpart_any b hr1 hr2 W
        have hla : ∀ W, Calls Try.prog 52 #[.agg KS] W fun e w' => e = .returned (.bool (b9 b)) ∧ Below W.heap.size W w' := fun W => by
          rw [HKS.out.1]
          exact wlast_any b hr1 W
        have hbl : (bp b).length ≤ 110 := by rw [bp_length hr1 hr2]; exact hr2
        obtain ⟨hfu, hfi⟩ := HR.out.1.first hg
        have hmore := scan_more hlt HKS.out.2.2.2.2 (by rw [← HKS.out.2.2.2.1, ← HKS.out.2.2.1, ← HK.out.1]; exact hg)
        rw [← HKS.out.2.2.2.1, ← HKS.out.2.2.1] at hmore
        have hstep : stepW j s b = nextW j s K (bp b) (b9 b) := by
          unfold stepW
          rw [hr3, hr4, ← HK.out.1]
        rw [hstep] at hmore
        have hnext := HR.out.1.next (p := bp b) (e := b9 b) hg hbl hK64
        have HM := Lib.hid (And.intro hmore (And.intro hnext (And.intro hfu (And.intro hfi (And.intro hK64 hbl)))))
        have HPT := Lib.hid hpt
        have HLA := Lib.hid hla
        have hadd := IntWalk.i64_in ((j : Int) + 1) (by have := HH.out.2.2; omega)
        have HOWN := Lib.hid (own_below HR.out.2.1 HB5.out)
        have HLG := Lib.hid (HR.out.2.2.2.1.below HB5.out)
        have HT5 := Lib.hid (HR.out.2.2.2.2.2.trans (Turned.of_below (S := S) HB5.out) fun _ _ h => h)
        have HSZ : Hid (s.now.length ≤ 110 * j ∧ w.heap.size ≤ w5.heap.size ∧ wr.heap.size ≤ w5.heap.size) := Lib.hid ⟨HR.out.1.now, HT5.out.size, HB5.out.size⟩
        clear hg hX h1 h3 hr1 hr2 hr3 hr4 hpt hla hbl hfu hfi hmore hstep hnext hbad hK64 ha64
        cases hw : s.within with
        | false =>
          rw [hw] at h2
          clear h2
          go_upto_region 9 with (first
            | (refine wpList_load_row (by rfl) 90 (.tmp 8) (by rfl) q5 (by rfl) 90 KS (0, 0) _ HE5.out Try.underlying90 (by rfl) (by rw [HS.out.1]; exact wblk_size) ?_)
            | (go_at_call 53; refine (HPT.out _).mono ?_; rintro _ w6 ⟨AP, np, cp, rfl, hy6, hb6⟩
               obtain ⟨v7, w7, hrun, hown7, hg7, hlie7⟩ := append_lies (own_below HOWN.out hb6) hy6 (by rw [← hy6.len]; have h1 := HM.out.2.2.2.2.2; have h2 := HSZ.out.1; have h3 := HH.out.2.2; omega) (Nat.le_trans HSZ.out.2.1 hb6.size) 41
               obtain ⟨N7, hN7⟩ : ∃ N7, N7 = s.now.length + np := ⟨_, rfl⟩
               have HY7 : Hid (w5.heap.size ≤ w6.heap.size ∧ N7 = (s.now ++ bp b).length ∧ Below w5.heap.size w5 w6) := Lib.hid ⟨hb6.size, by rw [hN7, List.length_append, hy6.len], hb6⟩
               rw [← u8s_append] at hown7
               rw [← hN7] at hown7
               clear hN7
               obtain ⟨A7, c7, rfl, hby7⟩ := own_byt_own hown7
               have H7 := Lib.hid (And.intro hown7 (And.intro hg7 (And.intro hlie7 hby7)))
               clear hown7 hg7 hlie7 hby7 hy6 hb6)
            | (at_builtin; refine wpList_app (by rfl) _ _ 41 (by rfl) (by rfl) (by rfl) hrun ?_; clear hrun))
          have hq7 : ∀ k, u4.ownBlock = some k → k ≠ q5 ∧ ¬ T k := fun k hk => ⟨by
            have h1 := (HR.out.2.1.lt k hk).2
            have h2 := HQ5.out
            omega, HR.out.2.2.1 k hk⟩
          have HE7 : Hid (w7.heap[q5]? = some (.cells KS 90 (0, 0))) := Lib.hid ((H7.out.2.1.block q5 (Nat.lt_of_lt_of_le (lt_of_cells HE5.out) HY7.out.1) (fun e => (hq7 q5 e.symm).1 rfl)).trans ((HY7.out.2.2.block q5 (lt_of_cells HE5.out)).trans HE5.out))
          have HLG7 := Lib.hid ((HLG.out.below HY7.out.2.2).turned (Turned.of_gr (S := fun k => u4.ownBlock = some k) H7.out.2.1 fun g hg => hg) fun k _ h1 h2 => (hq7 k h2).2 h1)
          have HT7 : Hid (Turned S w w7) := Lib.hid (HT5.out.trans (Turned.of_below (S := S) HY7.out.2.2) (fun _ _ h => h) |> fun h => ⟨H7.out.2.1.os.trans h.os, H7.out.2.1.tape.trans h.tape, H7.out.2.1.output.trans h.output, Nat.le_trans h.size H7.out.2.1.size, fun k hk hs => (H7.out.2.1.block k (Nat.lt_of_lt_of_le hk h.size) (fun e => by
            have := (HR.out.2.1.lt k e.symm).1
            omega)).trans (h.block k hk hs)⟩)
          have HO7 : Hid (∀ k, (Value.slice A7 N7 c7).ownBlock = some k → ¬ T k) := Lib.hid fun k hk hTk => by
            rcases H7.out.2.2.1 with h | h
            · rw [h] at hk
              exact (hq7 k hk).2 hTk
            · rw [h] at hk
              injection hk with hk
              have h1 := (HR.out.2.2.2.2.1 k hTk).1
              have h2 := HSZ.out.2.2
              have h3 := HY7.out.1
              omega
          have HS7 : Hid (wr.heap.size ≤ w7.heap.size ∧ w.heap.size ≤ w7.heap.size) := Lib.hid ⟨by have h1 := HSZ.out.2.2; have h2 := HY7.out.1; have h3 := H7.out.2.1.size; omega, HT7.out.size⟩
          have HW7 := Lib.hid (And.intro H7.out.1 H7.out.2.2.2)
          have HN7 := Lib.hid HY7.out.2.1
          clear hq7 H7 HY7 HOWN HLG HT5 HE5 HSZ
          go_upto_region 11 with (first
            | (refine wpList_load_row (by rfl) 90 (.tmp 8) (by rfl) q5 (by rfl) 90 KS (0, 0) _ HE7.out Try.underlying90 (by rfl) (by rw [HS.out.1]; exact wblk_size) ?_)
            | (go_at_call 52; refine (HLA.out _).mono ?_; rintro _ w8 ⟨rfl, hb8⟩; have HB8 := Lib.hid hb8; clear hb8))
          cases h9 : b9 b with
          | false =>
            rw [h9] at HM
            have HF : Hid (WTk w S p g m0 bs (.slice A7 N7 c7) (.int .u64 (K : Int)) (.bool true) (.int .i64 ((j : Int) + 1)) w8) := Lib.hid (by
              have hm := HM.out.1
              refine ⟨j + 1, T, hlt, by simp, hm.1, ?_, ?_, ?_, ?_, HO7.out, ?_, fun k hk => ?_, HT7.out.trans (Turned.of_below (S := S) HB8.out) fun _ _ h => h⟩
              · rw [hm.2]; exact HM.out.2.1
              · rw [hm.2]; rfl
              · rw [hm.2]; rfl
              · rw [hm.2]
                have h7 := own_below HW7.out.1 HB8.out
                rw [HN7.out] at h7
                rw [HN7.out]
                exact h7
              · rw [hm.2]
                exact HLG7.out.below HB8.out
              · have h1 := HR.out.2.2.2.2.1 k hk
                exact ⟨Nat.lt_of_lt_of_le h1.1 (Nat.le_trans HS7.out.1 HB8.out.size), h1.2⟩)
            clear HE7 HLG7 HT7 HO7 HW7
            go_wp2_with fail
            go_roundw
            case rel => exact HF.out
            case measure => simp only [intOf]; omega
          | true =>
            rw [h9] at HM
            have hkp := wkeep_any (HLG7.out.below HB8.out) (by have h1 := HR.out.1.few; have h2 := HH.out.2.2; show s.recs.length ≤ 65536; omega) (HW7.out.2.below HB8.out) (fun k _ h => HO7.out k h) (by rw [List.length_append]; have h1 := HR.out.1.now; have h2 := HM.out.2.2.2.2.2; have h3 := HH.out.2.2; omega) K (j + 1) HM.out.2.2.2.2.1 (by omega) (by have h3 := HH.out.2.2; omega) HM.out.2.2.1
            rw [show (((j + 1 : Nat) : Int)) = (j : Int) + 1 by simp] at hkp
            have hkm : keepM (tkM m0 s) (s.now ++ bp b) K (j + 1) = tkM m0 (nextW j s K (bp b) true) := by
              have h1 := HM.out.2.2.2.1
              unfold keepM tkM nextW
              simp only [if_true]
              rw [← h1]
            rw [hkm] at hkp
            have HKP := Lib.hid hkp
            clear hkp hkm
            go_upto_region 12 with fail
            go_wp2_with (go_at_call 43; refine HKP.out.mono ?_; rintro _ w9 ⟨rfl, hL9, hT9⟩; have H9 := Lib.hid (And.intro hL9 hT9); clear hL9 hT9)
            have HF : Hid (WTk w S p g m0 bs (.slice none 0 0) (.int .u64 (K : Int)) (.bool false) (.int .i64 ((j : Int) + 1)) w9) := Lib.hid (by
              have hm := HM.out.1
              have hsz := H9.out.2.size
              have hs8 := HB8.out.size
              have hTr : Turned S w w9 := (HT7.out.trans (Turned.of_below (S := S) HB8.out) fun _ _ h => h).trans H9.out.2 fun k hk h => by
                rcases (HR.out.2.2.2.2.1 k h).2 with h1 | h1
                · exact h1
                · omega
              refine ⟨j + 1, _, hlt, by simp, hm.1, ?_, ?_, ?_, ?_, ?_, by rw [hm.2]; exact H9.out.1, fun k hk => ?_, hTr⟩
              · rw [hm.2]; exact HM.out.2.1
              · rw [hm.2]; rfl
              · rw [hm.2]; rfl
              · rw [hm.2]
                exact World.ownsRow_nil _ _ _ _
              · intro q h
                simp [Value.ownBlock] at h
              · rcases hk with hk | hk | hk
                · have h1 := HR.out.2.2.2.2.1 k hk
                  exact ⟨by have := HS7.out.1; omega, h1.2⟩
                · have h1 := HW7.out.1.lt k hk
                  exact ⟨by omega, .inr h1.1⟩
                · exact ⟨hk.2, .inr (by have := HS7.out.2; omega)⟩)
            clear HE7 HLG7 HT7 HO7 HW7 HKP
            go_roundw
            case rel => exact HF.out
            case measure => simp only [intOf]; omega
        | true =>
          have hne : ((K : Int) != (X : Int)) = false := by
            have := h2.resolve_left (by rw [hw]; simp)
            simp
            omega
          clear h2
          go_upto_region 9 with (first
            | (refine wpList_load_row (by rfl) 90 (.tmp 8) (by rfl) q5 (by rfl) 90 KS (0, 0) _ HE5.out Try.underlying90 (by rfl) (by rw [HS.out.1]; exact wblk_size) ?_)
            | (go_at_call 53; refine (HPT.out _).mono ?_; rintro _ w6 ⟨AP, np, cp, rfl, hy6, hb6⟩
               obtain ⟨v7, w7, hrun, hown7, hg7, hlie7⟩ := append_lies (own_below HOWN.out hb6) hy6 (by rw [← hy6.len]; have h1 := HM.out.2.2.2.2.2; have h2 := HSZ.out.1; have h3 := HH.out.2.2; omega) (Nat.le_trans HSZ.out.2.1 hb6.size) 41
               obtain ⟨N7, hN7⟩ : ∃ N7, N7 = s.now.length + np := ⟨_, rfl⟩
               have HY7 : Hid (w5.heap.size ≤ w6.heap.size ∧ N7 = (s.now ++ bp b).length ∧ Below w5.heap.size w5 w6) := Lib.hid ⟨hb6.size, by rw [hN7, List.length_append, hy6.len], hb6⟩
               rw [← u8s_append] at hown7
               rw [← hN7] at hown7
               clear hN7
               obtain ⟨A7, c7, rfl, hby7⟩ := own_byt_own hown7
               have H7 := Lib.hid (And.intro hown7 (And.intro hg7 (And.intro hlie7 hby7)))
               clear hown7 hg7 hlie7 hby7 hy6 hb6)
            | (at_builtin; refine wpList_app (by rfl) _ _ 41 (by rfl) (by rfl) (by rfl) hrun ?_; clear hrun))
          have hq7 : ∀ k, u4.ownBlock = some k → k ≠ q5 ∧ ¬ T k := fun k hk => ⟨by
            have h1 := (HR.out.2.1.lt k hk).2
            have h2 := HQ5.out
            omega, HR.out.2.2.1 k hk⟩
          have HE7 : Hid (w7.heap[q5]? = some (.cells KS 90 (0, 0))) := Lib.hid ((H7.out.2.1.block q5 (Nat.lt_of_lt_of_le (lt_of_cells HE5.out) HY7.out.1) (fun e => (hq7 q5 e.symm).1 rfl)).trans ((HY7.out.2.2.block q5 (lt_of_cells HE5.out)).trans HE5.out))
          have HLG7 := Lib.hid ((HLG.out.below HY7.out.2.2).turned (Turned.of_gr (S := fun k => u4.ownBlock = some k) H7.out.2.1 fun g hg => hg) fun k _ h1 h2 => (hq7 k h2).2 h1)
          have HT7 : Hid (Turned S w w7) := Lib.hid (HT5.out.trans (Turned.of_below (S := S) HY7.out.2.2) (fun _ _ h => h) |> fun h => ⟨H7.out.2.1.os.trans h.os, H7.out.2.1.tape.trans h.tape, H7.out.2.1.output.trans h.output, Nat.le_trans h.size H7.out.2.1.size, fun k hk hs => (H7.out.2.1.block k (Nat.lt_of_lt_of_le hk h.size) (fun e => by
            have := (HR.out.2.1.lt k e.symm).1
            omega)).trans (h.block k hk hs)⟩)
          have HO7 : Hid (∀ k, (Value.slice A7 N7 c7).ownBlock = some k → ¬ T k) := Lib.hid fun k hk hTk => by
            rcases H7.out.2.2.1 with h | h
            · rw [h] at hk
              exact (hq7 k hk).2 hTk
            · rw [h] at hk
              injection hk with hk
              have h1 := (HR.out.2.2.2.2.1 k hTk).1
              have h2 := HSZ.out.2.2
              have h3 := HY7.out.1
              omega
          have HS7 : Hid (wr.heap.size ≤ w7.heap.size ∧ w.heap.size ≤ w7.heap.size) := Lib.hid ⟨by have h1 := HSZ.out.2.2; have h2 := HY7.out.1; have h3 := H7.out.2.1.size; omega, HT7.out.size⟩
          have HW7 := Lib.hid (And.intro H7.out.1 H7.out.2.2.2)
          have HN7 := Lib.hid HY7.out.2.1
          clear hq7 H7 HY7 HOWN HLG HT5 HE5 HSZ
          go_upto_region 11 with (first
            | (refine wpList_load_row (by rfl) 90 (.tmp 8) (by rfl) q5 (by rfl) 90 KS (0, 0) _ HE7.out Try.underlying90 (by rfl) (by rw [HS.out.1]; exact wblk_size) ?_)
            | (go_at_call 52; refine (HLA.out _).mono ?_; rintro _ w8 ⟨rfl, hb8⟩; have HB8 := Lib.hid hb8; clear hb8))
          cases h9 : b9 b with
          | false =>
            rw [h9] at HM
            have HF : Hid (WTk w S p g m0 bs (.slice A7 N7 c7) (.int .u64 (K : Int)) (.bool true) (.int .i64 ((j : Int) + 1)) w8) := Lib.hid (by
              have hm := HM.out.1
              refine ⟨j + 1, T, hlt, by simp, hm.1, ?_, ?_, ?_, ?_, HO7.out, ?_, fun k hk => ?_, HT7.out.trans (Turned.of_below (S := S) HB8.out) fun _ _ h => h⟩
              · rw [hm.2]; exact HM.out.2.1
              · rw [hm.2]; rfl
              · rw [hm.2]; rfl
              · rw [hm.2]
                have h7 := own_below HW7.out.1 HB8.out
                rw [HN7.out] at h7
                rw [HN7.out]
                exact h7
              · rw [hm.2]
                exact HLG7.out.below HB8.out
              · have h1 := HR.out.2.2.2.2.1 k hk
                exact ⟨Nat.lt_of_lt_of_le h1.1 (Nat.le_trans HS7.out.1 HB8.out.size), h1.2⟩)
            clear HE7 HLG7 HT7 HO7 HW7
            go_wp2_with fail
            go_roundw
            case rel => exact HF.out
            case measure => simp only [intOf]; omega
          | true =>
            rw [h9] at HM
            have hkp := wkeep_any (HLG7.out.below HB8.out) (by have h1 := HR.out.1.few; have h2 := HH.out.2.2; show s.recs.length ≤ 65536; omega) (HW7.out.2.below HB8.out) (fun k _ h => HO7.out k h) (by rw [List.length_append]; have h1 := HR.out.1.now; have h2 := HM.out.2.2.2.2.2; have h3 := HH.out.2.2; omega) K (j + 1) HM.out.2.2.2.2.1 (by omega) (by have h3 := HH.out.2.2; omega) HM.out.2.2.1
            rw [show (((j + 1 : Nat) : Int)) = (j : Int) + 1 by simp] at hkp
            have hkm : keepM (tkM m0 s) (s.now ++ bp b) K (j + 1) = tkM m0 (nextW j s K (bp b) true) := by
              have h1 := HM.out.2.2.2.1
              unfold keepM tkM nextW
              simp only [if_true]
              rw [← h1]
            rw [hkm] at hkp
            have HKP := Lib.hid hkp
            clear hkp hkm
            go_upto_region 12 with fail
            go_wp2_with (go_at_call 43; refine HKP.out.mono ?_; rintro _ w9 ⟨rfl, hL9, hT9⟩; have H9 := Lib.hid (And.intro hL9 hT9); clear hL9 hT9)
            have HF : Hid (WTk w S p g m0 bs (.slice none 0 0) (.int .u64 (K : Int)) (.bool false) (.int .i64 ((j : Int) + 1)) w9) := Lib.hid (by
              have hm := HM.out.1
              have hsz := H9.out.2.size
              have hs8 := HB8.out.size
              have hTr : Turned S w w9 := (HT7.out.trans (Turned.of_below (S := S) HB8.out) fun _ _ h => h).trans H9.out.2 fun k hk h => by
                rcases (HR.out.2.2.2.2.1 k h).2 with h1 | h1
                · exact h1
                · omega
              refine ⟨j + 1, _, hlt, by simp, hm.1, ?_, ?_, ?_, ?_, ?_, by rw [hm.2]; exact H9.out.1, fun k hk => ?_, hTr⟩
              · rw [hm.2]; exact HM.out.2.1
              · rw [hm.2]; rfl
              · rw [hm.2]; rfl
              · rw [hm.2]
                exact World.ownsRow_nil _ _ _ _
              · intro q h
                simp [Value.ownBlock] at h
              · rcases hk with hk | hk | hk
                · have h1 := HR.out.2.2.2.2.1 k hk
                  exact ⟨by have := HS7.out.1; omega, h1.2⟩
                · have h1 := HW7.out.1.lt k hk
                  exact ⟨by omega, .inr h1.1⟩
                · exact ⟨hk.2, .inr (by have := HS7.out.2; omega)⟩)
            clear HE7 HLG7 HT7 HO7 HW7 HKP
            go_roundw
            case rel => exact HF.out
            case measure => simp only [intOf]; omega
      --take]
    · obtain rfl : j = bs.length := by omega
      have HR := Lib.hid (And.intro hok (And.intro hLg (And.intro hT htn)))
      clear hok hsc hown hTq hLg hT htn hlt hj
      go_wp2_with fail
      refine bodyPost_end (results_none rfl _ _ _) rfl ?_
      refine ⟨rfl, WTk.stop ?_ HR.out.2.1 HR.out.2.2.1 HR.out.2.2.2 (Below.refl _ _)⟩
      have h1 := HR.out.1
      rw [List.take_of_length_le (Nat.le_refl _)] at h1 ⊢
      exact scan_end h1
end Go.Proofs.Ytkhbmgmppoepjaa
