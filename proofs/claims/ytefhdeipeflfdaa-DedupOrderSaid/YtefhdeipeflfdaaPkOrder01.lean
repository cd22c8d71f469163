/-
  Dedup, pure: a cut index is refused; an index of places that ids tell.
  The law DedupBytes.
-/
import Derived.Test.YtefhdeipeflfdaaPk07
import Derived.Test.YtefhdeipeflfdaaPk11
/-! Dedup, pure: a cut index is refused; an index of places that ids tell. -/
namespace Go.Proofs.Ytefhdeipeflfdaa
open Go.RowKit Codec

theorem dui_cut {x j : Nat} (hx : x < 18446744073709551616) (hj : j < (put x).length) : uiE ((put x).take j) 0 = 10 := by
  unfold uiE
  rw [if_pos rfl, rd_cut j 0 x hj (by omega) (by simpa using hx) (by omega)]
  rfl
theorem dui_err {l : List UInt8} {e : Int} (he : e ≠ 0) : uiE l e = e := by unfold uiE; rw [if_neg he]
theorem dtk_err {l : List UInt8} {e k : Int} (he : e ≠ 0) : tkE l e k = e := by unfold tkE; rw [if_pos he]
theorem dtk_short {l : List UInt8} (h : l.length < 32) : tkE l 0 32 = 10 := by
  unfold tkE
  rw [if_neg (by simp), if_neg (by decide), if_pos (by omega)]
theorem drow_cut {e : List UInt8 × Pl} (h1 : e.1.length = 32) (h2 : e.2.1.length = 32) (h3 : mayN e.2.2 = true) {k : Nat} (hk : k < (plB e).length) : dgE ((plB e).take k) 0 = 10 := by
  obtain ⟨m, hm, hm2⟩ := mayN_nat h3
  have e1 : plB e = e.1 ++ (e.2.1 ++ put e.2.2.toNat) := by simp [plB]
  rw [e1] at hk ⊢
  simp only [List.length_append] at hk
  unfold dgE
  by_cases c1 : k < 32
  · rw [dtk_short (l := (e.1 ++ (e.2.1 ++ put e.2.2.toNat)).take k) (by rw [List.length_take]; omega), dtk_err (by decide), dui_err (by decide)]
  · obtain ⟨k1, rfl⟩ : ∃ k1, k = 32 + k1 := ⟨k - 32, by omega⟩
    have e2 : (e.1 ++ (e.2.1 ++ put e.2.2.toNat)).take (32 + k1) = e.1 ++ (e.2.1 ++ put e.2.2.toNat).take k1 := by rw [← h1, List.take_length_add_append]
    obtain ⟨-, b2, b3⟩ := did_back (R := (e.2.1 ++ put e.2.2.toNat).take k1) h1
    rw [e2, b2, b3]
    by_cases c2 : k1 < 32
    · rw [dtk_short (by rw [List.length_take]; omega), dui_err (by decide)]
    · obtain ⟨k2, rfl⟩ : ∃ k2, k1 = 32 + k2 := ⟨k1 - 32, by omega⟩
      have e3 : (e.2.1 ++ put e.2.2.toNat).take (32 + k2) = e.2.1 ++ (put e.2.2.toNat).take k2 := by rw [← h2, List.take_length_add_append]
      obtain ⟨-, d2, d3⟩ := did_back (R := (put e.2.2.toNat).take k2) h2
      rw [e3, d2, d3]
      exact dui_cut (by omega) (by omega)
theorem gdGo_cut : ∀ (t : Tv Pl) (acc : List DRow) (k : Nat), OkT t → k < (plsB t).length → (gdGo t.length acc ((plsB t).take k) 0).2.2 = 10
  | [], _, k, _, h => by simp [plsB] at h
  | e :: t, acc, k, hok, h => by
    obtain ⟨h1, h2, h3⟩ := hok e (by simp)
    have e1 : plsB (e :: t) = plB e ++ plsB t := by simp [plsB]
    rw [e1] at h ⊢
    rw [List.length_cons, gdGo, if_pos rfl]
    by_cases c : k < (plB e).length
    · rw [List.take_append_of_le_length (by omega), drow_cut h1 h2 h3 c, gdGo_bad (by decide)]
    · obtain ⟨k1, rfl⟩ : ∃ k1, k = (plB e).length + k1 := ⟨k - (plB e).length, by omega⟩
      obtain ⟨a1, a2, a3⟩ := row_back h1 h2 h3 ((plsB t).take k1)
      rw [List.take_length_add_append, a2, a3]
      exact gdGo_cut t _ k1 (fun x hx => hok x (by simp [hx])) (by rw [List.length_append] at h; omega)
/-- CUT ANYWHERE IT IS REFUSED. -/
theorem getD_cut {t : Tv Pl} (hok : OkT t) (hl : t.length < 18446744073709551616) {k : Nat} (hk : k < (ixB t).length) : (getD ((ixB t).take k)).2 = 10 := by
  have h : (gdGo (uiX ((ixB t).take k) 0) [] (uiL ((ixB t).take k) 0) (uiE ((ixB t).take k) 0)).2.2 = 10 := by
    unfold ixB at hk ⊢
    by_cases c : k < (put t.length).length
    · rw [List.take_append_of_le_length (by omega), dui_cut hl c, gdGo_bad (by decide)]
    · obtain ⟨k1, rfl⟩ : ∃ k1, k = (put t.length).length + k1 := ⟨k - (put t.length).length, by omega⟩
      obtain ⟨a1, a2, a3⟩ := dui_back t.length ((plsB t).take k1) hl
      rw [List.take_length_add_append, a1, a2, a3]
      exact gdGo_cut t [] k1 hok (by rw [List.length_append] at hk; omega)
  unfold getD getDEnd
  have he : endE (gdGo (uiX ((ixB t).take k) 0) [] (uiL ((ixB t).take k) 0) (uiE ((ixB t).take k) 0)).2.1 (gdGo (uiX ((ixB t).take k) 0) [] (uiL ((ixB t).take k) 0) (uiE ((ixB t).take k) 0)).2.2 = 10 := by
    rw [h]; unfold endE; rw [if_pos (by decide)]
  rw [he, if_pos (by decide)]
/-! ### places that ids tell -/
def bldT (f : List UInt8 → Pl) (l : List (List UInt8)) : Tv Pl := l.foldl (fun t k => addT t k (f k)) []
theorem bldT_snoc (f : List UInt8 → Pl) (l : List (List UInt8)) (k : List UInt8) : bldT f (l ++ [k]) = addT (bldT f l) k (f k) := by simp [bldT, List.foldl_append]
theorem snoc_indI {p : List (List UInt8) → Prop} (h0 : p []) (h1 : ∀ l s, p l → p (l ++ [s])) : ∀ l, p l := fun l => by
  have h : ∀ (n : Nat) (l : List (List UInt8)), l.length = n → p l := by
    intro n
    induction n with
    | zero => intro l hl; rw [List.eq_nil_of_length_eq_zero hl]; exact h0
    | succ n ih =>
      intro l hl
      rcases List.eq_nil_or_concat l with rfl | ⟨pre, z, rfl⟩
      · simp at hl
      · rw [List.concat_eq_append] at hl ⊢
        exact h1 _ _ (ih pre (by simp at hl; exact hl))
  exact h _ l rfl
theorem addT_get {t : Tv Pl} {k : List UInt8} {v : Pl} (hv : mayN v.2 = true) (x : List UInt8) : getV (addT t k v) x = if x = k then some ((getV t k).getD v) else getV t x := by
  unfold addT addB
  rw [hv]
  rcases hg : getV t k with _ | u
  · simp [getV_put]
  · simp
    intro e
    rw [e, hg]
theorem addT_srt {t : Tv Pl} (h : Sv t) (k : List UInt8) (v : Pl) : Sv (addT t k v) := by
  unfold addT
  split
  · exact h.put _ _
  · exact h
theorem addT_len {t : Tv Pl} (h : Sv t) (k : List UInt8) (v : Pl) : (addT t k v).length = t.length + if addB t k v = true then 1 else 0 := by
  unfold addT
  by_cases hb : addB t k v = true
  · rw [if_pos hb, if_pos hb]
    have := len_put h k v
    rw [if_neg] at this
    · omega
    · unfold addB at hb
      intro hs
      rw [hs] at hb
      simp at hb
  · rw [if_neg hb, if_neg hb]; rfl
theorem addT_mem {t : Tv Pl} {k : List UInt8} {v : Pl} : ∀ e ∈ addT t k v, e ∈ t ∨ (e = (k, v) ∧ addB t k v = true) := fun e he => by
  unfold addT at he
  by_cases hb : addB t k v = true
  · rw [if_pos hb] at he
    unfold putV at he
    simp only [List.mem_append, List.mem_filter, List.mem_singleton] at he
    rcases he with (h | h) | h
    · exact .inl h.1
    · exact .inr ⟨h, hb⟩
    · exact .inl h.1
  · rw [if_neg hb] at he
    exact .inl he
theorem bldT_all {f : List UInt8 → Pl} : ∀ l : List (List UInt8), Sv (bldT f l) ∧ (bldT f l).length ≤ l.length ∧ ∀ e ∈ bldT f l, e.1 ∈ l ∧ e.2 = f e.1 := by
  refine snoc_indI ⟨Sv.nil, Nat.le_refl _, fun e he => by simp [bldT] at he⟩ fun l k ih => ?_
  rw [bldT_snoc]
  refine ⟨addT_srt ih.1 _ _, ?_, fun e he => ?_⟩
  · rw [addT_len ih.1, List.length_append]
    have := ih.2.1
    split <;> simp <;> omega
  · rcases addT_mem e he with h | ⟨h, _⟩
    · have := ih.2.2 e h
      exact ⟨by simp [this.1], this.2⟩
    · rw [h]
      exact ⟨by simp, rfl⟩
theorem bldT_ok {f : List UInt8 → Pl} {l : List (List UInt8)} (h : ∀ k ∈ l, k.length = 32 ∧ (f k).1.length = 32 ∧ mayN (f k).2 = true) : OkT (bldT f l) := fun e he => by
  obtain ⟨h1, h2⟩ := (bldT_all l).2.2 e he
  obtain ⟨a, b, c⟩ := h _ h1
  rw [h2]
  exact ⟨a, b, c⟩
theorem bldT_get {f : List UInt8 → Pl} : ∀ l : List (List UInt8), (∀ k ∈ l, mayN (f k).2 = true) → ∀ x, getV (bldT f l) x = if x ∈ l then some (f x) else none := by
  refine snoc_indI (fun _ x => rfl) fun l k ih h x => ?_
  have h1 := ih fun k hk => h k (by simp [hk])
  rw [bldT_snoc, addT_get (h k (by simp)), h1, h1]
  by_cases hx : x = k
  · subst hx
    by_cases hm : x ∈ l <;> simp [hm]
  · by_cases hm : x ∈ l <;> simp [hm, hx]
/-- WHOSE PLACES ARE TOLD BY IDS: their order is nothing. -/
theorem bldT_order {f : List UInt8 → Pl} {l m : List (List UInt8)} (hl : ∀ k ∈ l, mayN (f k).2 = true) (h : ∀ x, x ∈ l ↔ x ∈ m) : bldT f l = bldT f m :=
  tv_ext (bldT_all l).1 (bldT_all m).1 fun k => by
    rw [bldT_get l hl, bldT_get m fun k hk => hl k ((h k).2 hk)]
    by_cases hk : k ∈ l
    · rw [if_pos hk, if_pos ((h k).1 hk)]
    · rw [if_neg hk, if_neg fun hm => hk ((h k).2 hm)]
theorem plsB_leN {t : Tv Pl} {n : Nat} (hok : OkT t) (hn : ∀ e ∈ t, e.2.2 = (n : Int)) : (plsB t).length = t.length * (64 + (put n).length) := by
  induction t with
  | nil => simp [plsB]
  | cons e t ih =>
    obtain ⟨h1, h2, h3⟩ := hok e (by simp)
    have e1 : plsB (e :: t) = plB e ++ plsB t := by simp [plsB]
    rw [e1, List.length_append, ih (fun x hx => hok x (by simp [hx])) fun x hx => hn x (by simp [hx])]
    have e2 : (plB e).length = 64 + (put n).length := by
      unfold plB
      rw [hn e (by simp), List.length_append, List.length_append, h1, h2]
      simp
    rw [e2, List.length_cons, Nat.succ_mul]
    omega
theorem put_one {x : Nat} (h : x < 128) : (put x).length = 1 := by rw [put, dif_pos h]; rfl
theorem put_two {x : Nat} (h : 127 < x) (h2 : x < 256) : (put x).length = 2 := by
  rw [put, dif_neg (by omega), List.length_cons, put_one (by omega)]
theorem ixB_len {t : Tv Pl} {n : Nat} (hl : t.length < 128) (hok : OkT t) (hn : ∀ e ∈ t, e.2.2 = (n : Int)) (h256 : n < 256) : (ixB t).length = 1 + t.length * (if 127 < n then 66 else 65) := by
  unfold ixB
  rw [List.length_append, put_one hl, plsB_leN hok hn]
  by_cases h : 127 < n
  · rw [put_two h h256, if_pos h]
  · rw [put_one (by omega), if_neg h]
end Go.Proofs.Ytefhdeipeflfdaa

/-! The law DedupBytes. -/
namespace Go.Proofs.Ytefhdeipeflfdaa
open Go.RowKit Go.Maps Codec

theorem ddtake_snoc {α : Type} {l : List α} {j : Nat} {s : α} (h : l[j]? = some s) : l.take (j + 1) = l.take j ++ [s] := by
  rw [List.take_add_one, h]; rfl
def DbR (w : World) (l : List (List UInt8)) (f : List UInt8 → Pl) (p b : Nat) (mv iv : Value) (wr : World) : Prop :=
  ∃ j : Nat, j ≤ l.length ∧ iv = .int .i64 (j : Int) ∧ mv = .int .i64 (((bldT f (l.take j)).length : Nat) : Int) ∧ Ix wr p b (bldT f (l.take j)) ∧ Below w.heap.size w wr
set_option maxHeartbeats 16000000 in
set_option maxRecDepth 100000 in
theorem law_dbytes {w : World} {S : Nat → Prop} {A : Option Addr} {n c : Nat} {l : List (List UInt8)} (hl : Ids w S A n c l) {n0 : Int} (hn0 : (Lit.int .u8 n0).wf = true) {t0 : Int} (ht0 : (Lit.int .u16 t0).wf = true) :
    Calls Try.prog 7 #[.slice A n c, .int .u8 n0, .int .u16 t0] w fun e w' => e = .returned (.bool true) ∧ Below w.heap.size w w' := by
  have haw := dawake_true w
  obtain ⟨X, rfl, hX⟩ : ∃ X : Nat, n0 = (X : Int) ∧ X < 256 := by
    have hm' : (decide (IntKind.u8.min ≤ n0) && decide (n0 ≤ IntKind.u8.max)) = true := hn0
    rw [show IntKind.u8.min = 0 by decide, show IntKind.u8.max = 255 by decide] at hm'
    simp at hm'
    exact ⟨n0.toNat, by omega, by omega⟩
  obtain ⟨T, rfl, hT⟩ : ∃ T : Nat, t0 = (T : Int) ∧ T < 65536 := by
    have hm' : (decide (IntKind.u16.min ≤ t0) && decide (t0 ≤ IntKind.u16.max)) = true := ht0
    rw [show IntKind.u16.min = 0 by decide, show IntKind.u16.max = 65535 by decide] at hm'
    simp at hm'
    exact ⟨t0.toNat, by omega, by omega⟩
  have HL := Lib.hid (And.intro hl (And.intro hl.len (And.intro hX hT)))
  clear hl hn0 ht0 hX hT
  by_cases hbig : n > 20
  · have hb' : (n : Int) > 20 := by omega
    clear hbig
    go_enter Try.func7, Try.ntmps7
    go_wp2_with (go_at_call 8; refine haw.mono ?_; clear haw; rintro _ w1 ⟨rfl, hb1⟩)
    go_ret
    exact ⟨rfl, hb1⟩
  have hb' : ¬ (n : Int) > 20 := by omega
  have HN : Hid (n ≤ 20) := Lib.hid (by omega)
  clear hbig
  go_enter Try.func7, Try.ntmps7
  go_upto_region 9 with (first
    | (go_at_call 8; refine haw.mono ?_; clear haw; rintro _ w1 ⟨rfl, hb1⟩; have H1 := Lib.hid hb1; have hnw := ixnew_any w1; clear hb1)
    | (go_at_call 9; refine hnw.mono ?_; clear hnw; rintro _ w2 ⟨p, b, rfl, hi2, hlp, hlb, hb2⟩))
  obtain ⟨f, hf⟩ : ∃ f : List UInt8 → Pl, f = fun k => (k, (X : Int)) := ⟨_, rfl⟩
  have H2 : Hid (w.heap.size ≤ p ∧ w.heap.size ≤ b ∧ Below w.heap.size w w2) := Lib.hid ⟨Nat.le_trans H1.out.size hlp, Nat.le_trans H1.out.size hlb, H1.out.trans (hb2.mono H1.out.size)⟩
  have HF : Hid (∀ k ∈ l, k.length = 32 ∧ (f k).1.length = 32 ∧ mayN (f k).2 = true ∧ f k = (k, (X : Int))) := Lib.hid fun k hk => by
    have h32 := HL.out.1.each k hk
    have hX := HL.out.2.2.1
    rw [hf]
    exact ⟨h32, h32, by unfold mayN; simp; omega, rfl⟩
  have HI2 := Lib.hid hi2
  clear hi2 hlp hlb hb2 H1 hb'
  have hXi := IntWalk.i64_in (X : Int) (by have := HL.out.2.2.1; omega)
  go_loopw [9, 10] (fun m i wr => DbR w l f p b m i wr) (fun _ i _ => n - (intOf i).toNat)
  case atStart => exact ⟨0, Nat.zero_le _, rfl, rfl, by simpa [bldT] using HI2.out, H2.out.2.2⟩
  case round =>
    obtain ⟨j, hj, rfl, rfl, hix, hbw⟩ := hrel
    by_cases hlt : j < n
    · have hlt' : (j : Int) < (n : Int) := by omega
      have hjl : j < l.length := by rw [HL.out.2.1]; exact hlt
      obtain ⟨q, off, rfl, hql, h32, hc⟩ := HL.out.1.at_ hlt
      obtain ⟨k, hk⟩ : ∃ k, k = l[j]?.getD [] := ⟨_, rfl⟩
      rw [← hk] at h32 hc
      have hkl : l[j]? = some k := by rw [hk, List.getElem?_eq_getElem hjl]; rfl
      obtain ⟨h1, h2, h3, h4⟩ := HF.out k (List.mem_of_getElem? hkl)
      have htk : bldT f (l.take (j + 1)) = addT (bldT f (l.take j)) k (k, (X : Int)) := by rw [ddtake_snoc hkl, bldT_snoc, h4]
      have hlen := addT_len (bldT_all (f := f) (l.take j)).1 k (k, (X : Int))
      have hle : (bldT f (l.take j)).length ≤ 20 := by
        have := (bldT_all (f := f) (l.take j)).2.1
        rw [List.length_take] at this
        have := HN.out
        omega
      rw [← htk] at hlen
      have had := ixadd_any (hix.below (w' := wr.drew) (below_drew (Below.refl _ _))) (by omega) (k := k) h32 (v := (k, (X : Int))) h32
      rw [← htk] at had
      obtain ⟨Z, hZ⟩ : ∃ Z, Z = addB (bldT f (l.take j)) k (k, (X : Int)) := ⟨_, rfl⟩
      obtain ⟨KS, hKS⟩ : ∃ KS, KS = row8 k := ⟨_, rfl⟩
      obtain ⟨PS, hPS⟩ : ∃ PS, PS = plC (k, (X : Int)) := ⟨_, rfl⟩
      rw [← hZ] at had hlen
      rw [← hKS, show encP (k, (X : Int)) = .agg PS by rw [hPS]; rfl] at had
      have hcn : ∀ {W : World}, Below w.heap.size w W → ∀ u v, KS[u]? = some v → W.cell? ((⟨q, off + j * 32, none⟩ : Addr).add u) = some v := fun {W} hW u v hu => by
        have h := hc u v (by rw [← hKS]; exact hu)
        rw [add_plain] at h ⊢
        exact (hW.cell (p := ⟨q, _, none⟩) hql).trans h
      have hcr := Lib.hid (hcn (below_drew hbw))
      have HB : Hid (KS = row8 k ∧ KS.size = 32 ∧ Try.prog.built 37 [(0, .agg KS), (1, .int .i64 (X : Int))] = some PS) := Lib.hid ⟨hKS, by rw [hKS, row8_size, h32], by rw [hKS, hPS]; exact build_pl h32 _⟩
      have hjj := IntWalk.i64_in ((j : Int) + 1) (by have := HN.out; omega)
      have HJ : Hid (j < n ∧ j + 1 ≤ l.length ∧ Below w.heap.size w wr) := Lib.hid ⟨hlt, hjl, hbw⟩
      obtain ⟨M, hM⟩ : ∃ M, M = (bldT f (l.take j)).length := ⟨_, rfl⟩
      rw [← hM] at hlen hle ⊢
      have hmm := IntWalk.i64_in ((M : Int) + 1) (by omega)
      have HLEN := Lib.hid hlen
      clear hM hle hlen hZ hPS hKS htk h1 h2 h3 h4 hkl hk hc h32 hql hjl hix hbw hlt hj
      go_wp2
      refine wp_region_plan (fun W : World => ∀ u v, KS[u]? = some v → W.cell? ((⟨q, off + j * 32, none⟩ : Addr).add u) = some v) [([0, 1, 2, 3, 4, 5, 6, 7, 8, 9, 10, 11], 12)] [] (by kernel_rfl) (by kernel_rfl) (fun _ _ d _ _ h => by cases d <;> exact h) hcr.out ?_
      refine plan_eff ?_
      refine seg_read ?v1 (by rfl) (by rfl) ?h1 ?_
      case h1 => intro W hW; go_simp; with_reducible rfl
      try simp only [Act.put, List.setIfInBounds_toArray, List.set_cons_zero, List.set_cons_succ]
      refine seg_read ?v2 (by rfl) (by rfl) ?h2 ?_
      case h2 => intro W hW; go_simp; with_reducible rfl
      try simp only [Act.put, List.setIfInBounds_toArray, List.set_cons_zero, List.set_cons_succ]
      refine seg_read ?v3 (by rfl) (by rfl) ?h3 ?_
      case h3 => intro W hW; go_simp; with_reducible rfl
      try simp only [Act.put, List.setIfInBounds_toArray, List.set_cons_zero, List.set_cons_succ]
      refine seg_read ?v4 (by rfl) (by rfl) ?h4 ?_
      case h4 => intro W hW; go_simp; with_reducible rfl
      try simp only [Act.put, List.setIfInBounds_toArray, List.set_cons_zero, List.set_cons_succ]
      refine seg_read (.agg KS) (by rfl) (by rfl) (fun W hW => exec_load_ad 31 (.tmp 31) (by rfl) ⟨q, off + j * 32, none⟩ (by rfl) KS hW Try.underlying31 (by rfl) (by rw [HB.out.2.1]; exact id_info)) ?_
      try simp only [Act.put, List.setIfInBounds_toArray, List.set_cons_zero, List.set_cons_succ]
      refine seg_read ?v5 (by rfl) (by rfl) ?h5 ?_
      case h5 => intro W hW; go_simp; with_reducible rfl
      try simp only [Act.put, List.setIfInBounds_toArray, List.set_cons_zero, List.set_cons_succ]
      refine seg_read ?v6 (by rfl) (by rfl) ?h6 ?_
      case h6 => intro W hW; go_simp; with_reducible rfl
      try simp only [Act.put, List.setIfInBounds_toArray, List.set_cons_zero, List.set_cons_succ]
      refine seg_read ?v7 (by rfl) (by rfl) ?h7 ?_
      case h7 => intro W hW; go_simp; with_reducible rfl
      try simp only [Act.put, List.setIfInBounds_toArray, List.set_cons_zero, List.set_cons_succ]
      refine seg_read (.agg KS) (by rfl) (by rfl) (fun W hW => exec_load_ad 31 (.tmp 35) (by rfl) ⟨q, off + j * 32, none⟩ (by rfl) KS hW Try.underlying31 (by rfl) (by rw [HB.out.2.1]; exact id_info)) ?_
      try simp only [Act.put, List.setIfInBounds_toArray, List.set_cons_zero, List.set_cons_succ]
      refine seg_read ?v8 (by rfl) (by rfl) ?h8 ?_
      case h8 => intro W hW; go_simp; with_reducible rfl
      try simp only [Act.put, List.setIfInBounds_toArray, List.set_cons_zero, List.set_cons_succ]
      refine seg_read ?v9 (by rfl) (by rfl) ?h9 ?_
      case h9 => intro W hW; go_simp; with_reducible rfl
      try simp only [Act.put, List.setIfInBounds_toArray, List.set_cons_zero, List.set_cons_succ]
      refine seg_read (.agg PS) (by rfl) (by rfl) (fun W hW => exec_build 37 (.tmp 36) (.tmp 38) (by rfl) (.agg KS) (.int .i64 (X : Int)) (by rfl) (by rfl) PS HB.out.2.2) ?_
      try simp only [Act.put, List.setIfInBounds_toArray, List.set_cons_zero, List.set_cons_succ]
      refine seg_nil ?_
      refine eff_step (by rfl) (fun K hK => ?_)
      go_simp
      refine had.mono ?_
      clear had
      rintro _ w5 ⟨rfl, hi5, ht5⟩
      have hbw5 : Below w.heap.size w w5 := below_turn (below_drew HJ.out.2.2) (Nat.le_refl _) ht5 fun k hk => by rw [hk]; exact H2.out.2.1
      refine hK _ _ ⟨fun W : World => ∀ u v, KS[u]? = some v → W.cell? ((⟨q, off + j * 32, none⟩ : Addr).add u) = some v, hcn hbw5, fun _ h => h, ?_⟩
      clear hK K
      refine plan_last ?_
      repeat (refine seg_step (by rfl) (fun K hK => ?_); go_simp; refine hK _ ?_; clear hK K)
      refine seg_nil ?_
      have H5 : Hid (Below w.heap.size w w5 ∧ Ix w5 p b (bldT f (l.take (j + 1)))) := Lib.hid ⟨hbw5, hi5⟩
      clear hi5 ht5 hbw5 hcn
      cases Z
      · go_wp2
        go_roundw
        case rel => exact ⟨j + 1, HJ.out.2.1, by simp, by rw [HLEN.out]; simp, H5.out.2, H5.out.1⟩
        case measure => have := HJ.out.1; simp only [intOf]; omega
      · go_wp2
        go_roundw
        case rel => exact ⟨j + 1, HJ.out.2.1, by simp, by rw [HLEN.out]; simp, H5.out.2, H5.out.1⟩
        case measure => have := HJ.out.1; simp only [intOf]; omega
    · obtain rfl : j = n := by have := HL.out.2.1; omega
      have hlt' : ¬ (j : Int) < (j : Int) := by omega
      have hfull : l.take j = l := List.take_of_length_le (by have := HL.out.2.1; omega)
      rw [hfull] at hix ⊢
      have hok : OkT (bldT f l) := bldT_ok fun k hk => ⟨(HF.out k hk).1, (HF.out k hk).2.1, (HF.out k hk).2.2.1⟩
      have hln : (bldT f l).length ≤ 20 := by
        have := (bldT_all (f := f) l).2.1
        have := HN.out
        have := HL.out.2.1
        omega
      have hput := ixput_any hix (by omega) hok
      have hcut : ∀ k, k < (ixB (bldT f l)).length → (getD ((ixB (bldT f l)).take k)).2 = 10 := fun k hk => getD_cut hok (by omega) hk
      have hsz := ixB_len (t := bldT f l) (n := X) (by omega) hok (fun e he => by
        obtain ⟨h1, h2⟩ := (bldT_all (f := f) l).2.2 e he
        rw [h2, (HF.out _ h1).2.2.2]) HL.out.2.2.1
      obtain ⟨M, hM⟩ : ∃ M, M = (bldT f l).length := ⟨_, rfl⟩
      obtain ⟨N, hN⟩ : ∃ N, N = (ixB (bldT f l)).length := ⟨_, rfl⟩
      rw [← hM] at hsz hln ⊢
      rw [← hN] at hsz hput hcut
      have HX := Lib.hid (And.intro hcut (And.intro hok (And.intro hln (And.intro hM (And.intro hN hix)))))
      have HBW := Lib.hid hbw
      clear hcut hok hM hN hix hbw hj hlt hfull
      by_cases h127 : 127 < X
      · rw [if_pos h127] at hsz
        have hx1 : (X : Int) > 127 := by omega
        have hmul := IntWalk.i64_in ((M : Int) * 66) (by omega)
        have hadd := IntWalk.i64_in (1 + (M : Int) * 66) (by omega)
        have hne : ((N : Int) != 1 + (M : Int) * 66) = false := by simp; omega
        have HSZ := Lib.hid (And.intro hsz (show 0 < N ∧ N ≤ 2000 by omega))
        clear hsz h127 hln
        go_upto_region 19 with (first
          | (go_at_call 19; refine hput.mono ?_; clear hput; rintro _ w6 ⟨A6, c6, rfl, hy6, hb6⟩
             have hids := ixids_any (HX.out.2.2.2.2.2.below hb6) (by have := HX.out.2.2.1; have := HX.out.2.2.2.1; omega)
             rw [← HX.out.2.2.2.1] at hids
             have H6 := Lib.hid (And.intro hy6 hb6)
             clear hy6 hb6)
          | (go_at_call 22; refine hids.mono ?_; clear hids; rintro _ w7 ⟨A7, c7, rfl, -, hb7⟩; have H7 := Lib.hid hb7; clear hb7))
        obtain ⟨K, hK⟩ : ∃ K, K = T % N := ⟨_, rfl⟩
        have hKN : K < N := by rw [hK]; exact Nat.mod_lt _ HSZ.out.2.1
        have hT := IntWalk.i64_in (T : Int) (by have := HL.out.2.2.2; omega)
        have htm : (T : Int).tmod (N : Int) = (K : Int) := by rw [hK]; rfl
        have htw := IntWalk.i64_in (K : Int) (by have := HSZ.out.2.2; omega)
        have hn0 : (N : Int) ≠ 0 := by have := HSZ.out.2.1; omega
        have hyk := (H6.out.1.below H7.out).to (Nat.le_of_lt hKN)
        have hge := ixget_any hyk (by have := HSZ.out.2.2; omega)
        have hg2 := HX.out.1 K hKN
        obtain ⟨g, hg⟩ : ∃ g, g = getD ((ixB (bldT f l)).take K) := ⟨_, rfl⟩
        rw [← hg] at hge hg2
        obtain ⟨g1, g2⟩ := g
        have hg2 : g2 = 10 := hg2
        subst hg2
        have HKN := Lib.hid hKN
        clear hK hyk hg hXi
        have hsl := run_to (P := Try.prog) 49 5 Try.underlying49 u8_size A6 N c6 K (by have := H6.out.1.cap; omega) w7
        clear hKN
        go_wp2_with (go_at_call 18; refine hge.mono ?_; clear hge; rintro _ w8 (⟨_, _, -, h, -⟩ | ⟨rfl, -, hb8⟩)
                     · exact absurd h (show ¬ (10 : Int) = 0 by decide)
                     have H8 := Lib.hid hb8
                     clear hb8)
        go_ret
        have h7 : Below w.heap.size w w7 := HBW.out.trans ((H6.out.2.trans (H7.out.mono H6.out.2.size)).mono HBW.out.size)
        exact ⟨rfl, h7.trans (H8.out.mono h7.size)⟩
      · rw [if_neg h127] at hsz
        have hx1 : ¬ (X : Int) > 127 := by omega
        have hmul := IntWalk.i64_in ((M : Int) * 65) (by omega)
        have hadd := IntWalk.i64_in (1 + (M : Int) * 65) (by omega)
        have hne : ((N : Int) != 1 + (M : Int) * 65) = false := by simp; omega
        have HSZ := Lib.hid (And.intro hsz (show 0 < N ∧ N ≤ 2000 by omega))
        clear hsz h127 hln
        go_upto_region 19 with (first
          | (go_at_call 19; refine hput.mono ?_; clear hput; rintro _ w6 ⟨A6, c6, rfl, hy6, hb6⟩
             have hids := ixids_any (HX.out.2.2.2.2.2.below hb6) (by have := HX.out.2.2.1; have := HX.out.2.2.2.1; omega)
             rw [← HX.out.2.2.2.1] at hids
             have H6 := Lib.hid (And.intro hy6 hb6)
             clear hy6 hb6)
          | (go_at_call 22; refine hids.mono ?_; clear hids; rintro _ w7 ⟨A7, c7, rfl, -, hb7⟩; have H7 := Lib.hid hb7; clear hb7))
        obtain ⟨K, hK⟩ : ∃ K, K = T % N := ⟨_, rfl⟩
        have hKN : K < N := by rw [hK]; exact Nat.mod_lt _ HSZ.out.2.1
        have hT := IntWalk.i64_in (T : Int) (by have := HL.out.2.2.2; omega)
        have htm : (T : Int).tmod (N : Int) = (K : Int) := by rw [hK]; rfl
        have htw := IntWalk.i64_in (K : Int) (by have := HSZ.out.2.2; omega)
        have hn0 : (N : Int) ≠ 0 := by have := HSZ.out.2.1; omega
        have hyk := (H6.out.1.below H7.out).to (Nat.le_of_lt hKN)
        have hge := ixget_any hyk (by have := HSZ.out.2.2; omega)
        have hg2 := HX.out.1 K hKN
        obtain ⟨g, hg⟩ : ∃ g, g = getD ((ixB (bldT f l)).take K) := ⟨_, rfl⟩
        rw [← hg] at hge hg2
        obtain ⟨g1, g2⟩ := g
        have hg2 : g2 = 10 := hg2
        subst hg2
        have HKN := Lib.hid hKN
        clear hK hyk hg hXi
        have hsl := run_to (P := Try.prog) 49 5 Try.underlying49 u8_size A6 N c6 K (by have := H6.out.1.cap; omega) w7
        clear hKN
        go_wp2_with (go_at_call 18; refine hge.mono ?_; clear hge; rintro _ w8 (⟨_, _, -, h, -⟩ | ⟨rfl, -, hb8⟩)
                     · exact absurd h (show ¬ (10 : Int) = 0 by decide)
                     have H8 := Lib.hid hb8
                     clear hb8)
        go_ret
        have h7 : Below w.heap.size w w7 := HBW.out.trans ((H6.out.2.trans (H7.out.mono H6.out.2.size)).mono HBW.out.size)
        exact ⟨rfl, h7.trans (H8.out.mono h7.size)⟩
end Go.Proofs.Ytefhdeipeflfdaa
