/-
  Dedup, pure: a cut index is refused; an index of places that ids tell.
  The law DedupDrops, pure: what is in, pack by pack.
  The law DedupDrops: memory.
-/
import Derived.Test.YtefhdeipeflfdaaPk07
import Derived.Test.YtefhdeipeflfdaaPk11
import Derived.Test.YtefhdeipeflfdaaPk02
import Derived.Maps.AppendAt
/-! Dedup, pure: a cut index is refused; an index of places that ids tell. -/
namespace Go.Proofs.Ytefhdeipeflfdaa
open Go.RowKit Codec

theorem dui_cut {x j : Nat} (hx : x < 18446744073709551616) (hj : j < (put x).length) : uiE ((put x).take j) 0 = 10 := by
  unfold uiE
  rw [if_pos rfl, rd_cut j 0 x hj (by omega) (by simpa using hx) (by omega)]
  rfl
theorem dui_err {l : List UInt8} {e : Int} (he : e ≠ 0) : uiE l e = e := by unfold uiE; rw [if_neg he]
theorem dtk_err {l : List UInt8} {e k : Int} (he : e ≠ 0) : tkE l e k = e := by unfold tkE; rw [if_pos he]
theorem dtk_short {l : List UInt8} (h : l.length < 32) : tkE l 0 32 = 10 := by
  unfold tkE
  rw [if_neg (by simp), if_neg (by decide), if_pos (by omega)]
theorem drow_cut {e : List UInt8 × Pl} (h1 : e.1.length = 32) (h2 : e.2.1.length = 32) (h3 : mayN e.2.2 = true) {k : Nat} (hk : k < (plB e).length) : dgE ((plB e).take k) 0 = 10 := by
  obtain ⟨m, hm, hm2⟩ := mayN_nat h3
  have e1 : plB e = e.1 ++ (e.2.1 ++ put e.2.2.toNat) := by simp [plB]
  rw [e1] at hk ⊢
  simp only [List.length_append] at hk
  unfold dgE
  by_cases c1 : k < 32
  · rw [dtk_short (l := (e.1 ++ (e.2.1 ++ put e.2.2.toNat)).take k) (by rw [List.length_take]; omega), dtk_err (by decide), dui_err (by decide)]
  · obtain ⟨k1, rfl⟩ : ∃ k1, k = 32 + k1 := ⟨k - 32, by omega⟩
    have e2 : (e.1 ++ (e.2.1 ++ put e.2.2.toNat)).take (32 + k1) = e.1 ++ (e.2.1 ++ put e.2.2.toNat).take k1 := by rw [← h1, List.take_length_add_append]
    obtain ⟨-, b2, b3⟩ := did_back (R := (e.2.1 ++ put e.2.2.toNat).take k1) h1
    rw [e2, b2, b3]
    by_cases c2 : k1 < 32
    · rw [dtk_short (by rw [List.length_take]; omega), dui_err (by decide)]
    · obtain ⟨k2, rfl⟩ : ∃ k2, k1 = 32 + k2 := ⟨k1 - 32, by omega⟩
      have e3 : (e.2.1 ++ put e.2.2.toNat).take (32 + k2) = e.2.1 ++ (put e.2.2.toNat).take k2 := by rw [← h2, List.take_length_add_append]
      obtain ⟨-, d2, d3⟩ := did_back (R := (put e.2.2.toNat).take k2) h2
      rw [e3, d2, d3]
      exact dui_cut (by omega) (by omega)
theorem gdGo_cut : ∀ (t : Tv Pl) (acc : List DRow) (k : Nat), OkT t → k < (plsB t).length → (gdGo t.length acc ((plsB t).take k) 0).2.2 = 10
  | [], _, k, _, h => by simp [plsB] at h
  | e :: t, acc, k, hok, h => by
    obtain ⟨h1, h2, h3⟩ := hok e (by simp)
    have e1 : plsB (e :: t) = plB e ++ plsB t := by simp [plsB]
    rw [e1] at h ⊢
    rw [List.length_cons, gdGo, if_pos rfl]
    by_cases c : k < (plB e).length
    · rw [List.take_append_of_le_length (by omega), drow_cut h1 h2 h3 c, gdGo_bad (by decide)]
    · obtain ⟨k1, rfl⟩ : ∃ k1, k = (plB e).length + k1 := ⟨k - (plB e).length, by omega⟩
      obtain ⟨a1, a2, a3⟩ := row_back h1 h2 h3 ((plsB t).take k1)
      rw [List.take_length_add_append, a2, a3]
      exact gdGo_cut t _ k1 (fun x hx => hok x (by simp [hx])) (by rw [List.length_append] at h; omega)
/-- CUT ANYWHERE IT IS REFUSED. -/
theorem getD_cut {t : Tv Pl} (hok : OkT t) (hl : t.length < 18446744073709551616) {k : Nat} (hk : k < (ixB t).length) : (getD ((ixB t).take k)).2 = 10 := by
  have h : (gdGo (uiX ((ixB t).take k) 0) [] (uiL ((ixB t).take k) 0) (uiE ((ixB t).take k) 0)).2.2 = 10 := by
    unfold ixB at hk ⊢
    by_cases c : k < (put t.length).length
    · rw [List.take_append_of_le_length (by omega), dui_cut hl c, gdGo_bad (by decide)]
    · obtain ⟨k1, rfl⟩ : ∃ k1, k = (put t.length).length + k1 := ⟨k - (put t.length).length, by omega⟩
      obtain ⟨a1, a2, a3⟩ := dui_back t.length ((plsB t).take k1) hl
      rw [List.take_length_add_append, a1, a2, a3]
      exact gdGo_cut t [] k1 hok (by rw [List.length_append] at hk; omega)
  unfold getD getDEnd
  have he : endE (gdGo (uiX ((ixB t).take k) 0) [] (uiL ((ixB t).take k) 0) (uiE ((ixB t).take k) 0)).2.1 (gdGo (uiX ((ixB t).take k) 0) [] (uiL ((ixB t).take k) 0) (uiE ((ixB t).take k) 0)).2.2 = 10 := by
    rw [h]; unfold endE; rw [if_pos (by decide)]
  rw [he, if_pos (by decide)]
/-! ### places that ids tell -/
def bldT (f : List UInt8 → Pl) (l : List (List UInt8)) : Tv Pl := l.foldl (fun t k => addT t k (f k)) []
theorem bldT_snoc (f : List UInt8 → Pl) (l : List (List UInt8)) (k : List UInt8) : bldT f (l ++ [k]) = addT (bldT f l) k (f k) := by simp [bldT, List.foldl_append]
theorem snoc_indI {p : List (List UInt8) → Prop} (h0 : p []) (h1 : ∀ l s, p l → p (l ++ [s])) : ∀ l, p l := fun l => by
  have h : ∀ (n : Nat) (l : List (List UInt8)), l.length = n → p l := by
    intro n
    induction n with
    | zero => intro l hl; rw [List.eq_nil_of_length_eq_zero hl]; exact h0
    | succ n ih =>
      intro l hl
      rcases List.eq_nil_or_concat l with rfl | ⟨pre, z, rfl⟩
      · simp at hl
      · rw [List.concat_eq_append] at hl ⊢
        exact h1 _ _ (ih pre (by simp at hl; exact hl))
  exact h _ l rfl
theorem addT_get {t : Tv Pl} {k : List UInt8} {v : Pl} (hv : mayN v.2 = true) (x : List UInt8) : getV (addT t k v) x = if x = k then some ((getV t k).getD v) else getV t x := by
  unfold addT addB
  rw [hv]
  rcases hg : getV t k with _ | u
  · simp [getV_put]
  · simp
    intro e
    rw [e, hg]
theorem addT_srt {t : Tv Pl} (h : Sv t) (k : List UInt8) (v : Pl) : Sv (addT t k v) := by
  unfold addT
  split
  · exact h.put _ _
  · exact h
theorem addT_len {t : Tv Pl} (h : Sv t) (k : List UInt8) (v : Pl) : (addT t k v).length = t.length + if addB t k v = true then 1 else 0 := by
  unfold addT
  by_cases hb : addB t k v = true
  · rw [if_pos hb, if_pos hb]
    have := len_put h k v
    rw [if_neg] at this
    · omega
    · unfold addB at hb
      intro hs
      rw [hs] at hb
      simp at hb
  · rw [if_neg hb, if_neg hb]; rfl
theorem addT_mem {t : Tv Pl} {k : List UInt8} {v : Pl} : ∀ e ∈ addT t k v, e ∈ t ∨ (e = (k, v) ∧ addB t k v = true) := fun e he => by
  unfold addT at he
  by_cases hb : addB t k v = true
  · rw [if_pos hb] at he
    unfold putV at he
    simp only [List.mem_append, List.mem_filter, List.mem_singleton] at he
    rcases he with (h | h) | h
    · exact .inl h.1
    · exact .inr ⟨h, hb⟩
    · exact .inl h.1
  · rw [if_neg hb] at he
    exact .inl he
theorem bldT_all {f : List UInt8 → Pl} : ∀ l : List (List UInt8), Sv (bldT f l) ∧ (bldT f l).length ≤ l.length ∧ ∀ e ∈ bldT f l, e.1 ∈ l ∧ e.2 = f e.1 := by
  refine snoc_indI ⟨Sv.nil, Nat.le_refl _, fun e he => by simp [bldT] at he⟩ fun l k ih => ?_
  rw [bldT_snoc]
  refine ⟨addT_srt ih.1 _ _, ?_, fun e he => ?_⟩
  · rw [addT_len ih.1, List.length_append]
    have := ih.2.1
    split <;> simp <;> omega
  · rcases addT_mem e he with h | ⟨h, _⟩
    · have := ih.2.2 e h
      exact ⟨by simp [this.1], this.2⟩
    · rw [h]
      exact ⟨by simp, rfl⟩
theorem bldT_ok {f : List UInt8 → Pl} {l : List (List UInt8)} (h : ∀ k ∈ l, k.length = 32 ∧ (f k).1.length = 32 ∧ mayN (f k).2 = true) : OkT (bldT f l) := fun e he => by
  obtain ⟨h1, h2⟩ := (bldT_all l).2.2 e he
  obtain ⟨a, b, c⟩ := h _ h1
  rw [h2]
  exact ⟨a, b, c⟩
theorem bldT_get {f : List UInt8 → Pl} : ∀ l : List (List UInt8), (∀ k ∈ l, mayN (f k).2 = true) → ∀ x, getV (bldT f l) x = if x ∈ l then some (f x) else none := by
  refine snoc_indI (fun _ x => rfl) fun l k ih h x => ?_
  have h1 := ih fun k hk => h k (by simp [hk])
  rw [bldT_snoc, addT_get (h k (by simp)), h1, h1]
  by_cases hx : x = k
  · subst hx
    by_cases hm : x ∈ l <;> simp [hm]
  · by_cases hm : x ∈ l <;> simp [hm, hx]
/-- WHOSE PLACES ARE TOLD BY IDS: their order is nothing. -/
theorem bldT_order {f : List UInt8 → Pl} {l m : List (List UInt8)} (hl : ∀ k ∈ l, mayN (f k).2 = true) (h : ∀ x, x ∈ l ↔ x ∈ m) : bldT f l = bldT f m :=
  tv_ext (bldT_all l).1 (bldT_all m).1 fun k => by
    rw [bldT_get l hl, bldT_get m fun k hk => hl k ((h k).2 hk)]
    by_cases hk : k ∈ l
    · rw [if_pos hk, if_pos ((h k).1 hk)]
    · rw [if_neg hk, if_neg fun hm => hk ((h k).2 hm)]
theorem plsB_leN {t : Tv Pl} {n : Nat} (hok : OkT t) (hn : ∀ e ∈ t, e.2.2 = (n : Int)) : (plsB t).length = t.length * (64 + (put n).length) := by
  induction t with
  | nil => simp [plsB]
  | cons e t ih =>
    obtain ⟨h1, h2, h3⟩ := hok e (by simp)
    have e1 : plsB (e :: t) = plB e ++ plsB t := by simp [plsB]
    rw [e1, List.length_append, ih (fun x hx => hok x (by simp [hx])) fun x hx => hn x (by simp [hx])]
    have e2 : (plB e).length = 64 + (put n).length := by
      unfold plB
      rw [hn e (by simp), List.length_append, List.length_append, h1, h2]
      simp
    rw [e2, List.length_cons, Nat.succ_mul]
    omega
theorem put_one {x : Nat} (h : x < 128) : (put x).length = 1 := by rw [put, dif_pos h]; rfl
theorem put_two {x : Nat} (h : 127 < x) (h2 : x < 256) : (put x).length = 2 := by
  rw [put, dif_neg (by omega), List.length_cons, put_one (by omega)]
theorem ixB_len {t : Tv Pl} {n : Nat} (hl : t.length < 128) (hok : OkT t) (hn : ∀ e ∈ t, e.2.2 = (n : Int)) (h256 : n < 256) : (ixB t).length = 1 + t.length * (if 127 < n then 66 else 65) := by
  unfold ixB
  rw [List.length_append, put_one hl, plsB_leN hok hn]
  by_cases h : 127 < n
  · rw [put_two h h256, if_pos h]
  · rw [put_one (by omega), if_neg h]
end Go.Proofs.Ytefhdeipeflfdaa

/-! The law DedupDrops, pure: what is in, pack by pack. -/
namespace Go.Proofs.Ytefhdeipeflfdaa
open Go.RowKit Codec

def pkI (k : Nat) : List UInt8 := UInt8.ofNat k :: List.replicate 31 0
theorem pkI_len (k : Nat) : (pkI k).length = 32 := rfl
theorem pkI_inj {k m : Nat} (hk : k < 4) (hm : m < 4) (h : pkI k = pkI m) : k = m := by
  unfold pkI at h
  have := congrArg UInt8.toNat (List.cons.inj h).1
  simpa [Nat.mod_eq_of_lt (show k < 256 by omega), Nat.mod_eq_of_lt (show m < 256 by omega)] using this
theorem putV_perm {V : Type} {t : Tv V} {k : List UInt8} (v : V) (h : getV t k = none) : (putV t k v).Perm (t ++ [(k, v)]) := by
  unfold putV
  have hne : ∀ p ∈ t, p.1 ≠ k := fun p hp e => by
    have : (getV t k).isSome = true := getV_isSome.2 (List.mem_map.2 ⟨p, hp, e⟩)
    rw [h] at this
    cases this
  have e : (t.filter fun p => decide (k < p.1)) = t.filter fun p => !decide (p.1 < k) := List.filter_congr fun p hp => by
    have h1 := hne p hp
    by_cases h2 : p.1 < k
    · simp [h2, klt_as h2]
    · have : k < p.1 := Decidable.byContradiction fun h3 => h1 (klt_tri h2 h3)
      simp [h2, this]
  rw [e, List.append_assoc]
  refine (List.perm_append_comm_assoc _ _ _).trans ?_
  refine (List.Perm.append_left _ (List.filter_append_perm _ _)).trans List.perm_append_comm
def entD (id : Nat → List UInt8) (kk : Nat → Nat) (i : Nat) : List UInt8 × Pl := (id i, (pkI (kk i), (i : Int)))
/-- The table, and who is in. -/
def dS (id : Nat → List UInt8) (kk : Nat → Nat) : Nat → Tv Pl × List Nat
  | 0 => ([], [])
  | j + 1 => if addB (dS id kk j).1 (id j) (pkI (kk j), (j : Int)) = true then (putV (dS id kk j).1 (id j) (pkI (kk j), (j : Int)), (dS id kk j).2 ++ [j]) else dS id kk j
section
variable {id : Nat → List UInt8} {kk : Nat → Nat}
theorem dS_yes {j : Nat} (h : addB (dS id kk j).1 (id j) (pkI (kk j), (j : Int)) = true) : (dS id kk (j + 1)).1 = addT (dS id kk j).1 (id j) (pkI (kk j), (j : Int)) ∧ (dS id kk (j + 1)).2 = (dS id kk j).2 ++ [j] := by
  rw [dS, if_pos h, addT, if_pos h]
  exact ⟨rfl, rfl⟩
theorem dS_no {j : Nat} (h : addB (dS id kk j).1 (id j) (pkI (kk j), (j : Int)) = false) : (dS id kk (j + 1)).1 = addT (dS id kk j).1 (id j) (pkI (kk j), (j : Int)) ∧ (dS id kk (j + 1)).2 = (dS id kk j).2 := by
  rw [dS, if_neg (by rw [h]; decide), addT, if_neg (by rw [h]; decide)]
  exact ⟨rfl, rfl⟩
theorem dS_inv : ∀ j, Sv (dS id kk j).1 ∧ (dS id kk j).1.Perm ((dS id kk j).2.map (entD id kk)) ∧ (∀ i ∈ (dS id kk j).2, i < j) ∧ (dS id kk j).2.length ≤ j
  | 0 => ⟨Sv.nil, List.Perm.refl _, by simp [dS], by simp [dS]⟩
  | j + 1 => by
    obtain ⟨h1, h2, h3, h4⟩ := dS_inv j
    rcases hb : addB (dS id kk j).1 (id j) (pkI (kk j), (j : Int)) with _ | _
    · rw [dS, if_neg (by rw [hb]; decide)]
      exact ⟨h1, h2, fun i hi => by have := h3 i hi; omega, by omega⟩
    · rw [dS, if_pos hb]
      have hn : getV (dS id kk j).1 (id j) = none := by
        unfold addB at hb
        simp at hb
        simpa using hb.2
      refine ⟨h1.put _ _, (putV_perm _ hn).trans ?_, fun i hi => ?_, by simp; omega⟩
      · rw [List.map_append]
        exact h2.append_right _
      · simp only [List.mem_append, List.mem_singleton] at hi
        rcases hi with hi | rfl
        · have := h3 i hi; omega
        · omega
theorem dS_ok {j : Nat} (hid : ∀ i < j, (id i).length = 32) (hj : j ≤ 1000) : OkT (dS id kk j).1 := fun e he => by
  obtain ⟨_, h2, h3, _⟩ := dS_inv (id := id) (kk := kk) j
  obtain ⟨i, hi, rfl⟩ := List.mem_map.1 (h2.mem_iff.1 he)
  have := h3 i hi
  refine ⟨hid i this, pkI_len _, ?_⟩
  unfold mayN entD
  simp
  omega
theorem dS_len (j : Nat) : (dS id kk j).1.length = (dS id kk j).2.length := by
  have := (dS_inv (id := id) (kk := kk) j).2.1.length_eq
  simpa using this
/-- How many of those in are of a pack. -/
def cK (kk : Nat → Nat) (ins : List Nat) (k : Nat) : Nat := ins.countP fun i => decide (kk i = k)
theorem cK_snoc (ins : List Nat) (j k : Nat) : cK kk (ins ++ [j]) k = cK kk ins k + if kk j = k then 1 else 0 := by
  unfold cK
  rw [List.countP_append]
  by_cases h : kk j = k <;> simp [h]
theorem dS_cnt (hk : ∀ i, kk i < 4) (j : Nat) {k : Nat} (h4 : k < 4) : cntP (dS id kk j).1 (pkI k) = cK kk (dS id kk j).2 k := by
  unfold cntP cK
  rw [(dS_inv (id := id) (kk := kk) j).2.1.countP_eq, List.countP_map]
  refine List.countP_congr fun i _ => ?_
  simp only [Function.comp, entD, decide_eq_true_eq]
  exact ⟨fun h => pkI_inj (hk i) h4 (of_decide_eq_true h), fun h => decide_eq_true (by show pkI (kk i) = pkI k; rw [h])⟩
theorem dS_get (j : Nat) {i : Nat} (hi : i ∈ (dS id kk j).2) : getV (dS id kk j).1 (id i) = some (pkI (kk i), (i : Int)) := by
  obtain ⟨h1, h2, _, _⟩ := dS_inv (id := id) (kk := kk) j
  exact getV_mem h1 (p := entD id kk i) (h2.mem_iff.2 (List.mem_map.2 ⟨i, hi, rfl⟩))
theorem dropT_cnt (t : Tv Pl) (pk : List UInt8) : t.length - (dropT t pk).length = cntP t pk ∧ (dropT t pk).length = t.length - cntP t pk := by
  have h := List.length_eq_countP_add_countP (fun e : List UInt8 × Pl => decide (e.2.1 = pk)) (l := t)
  have e : (dropT t pk).length = t.countP fun e => ¬ (decide (e.2.1 = pk)) = true := by
    unfold dropT
    rw [← List.countP_eq_length_filter]
    refine List.countP_congr fun x _ => ?_
    simp
  unfold cntP
  omega
theorem dropT_two (t : Tv Pl) (pk : List UInt8) : dropT (dropT t pk) pk = dropT t pk := by
  unfold dropT
  rw [List.filter_filter]
  exact List.filter_congr fun e _ => by simp
theorem dS_drop (hk : ∀ i, kk i < 4) (j : Nat) {d : Nat} (hd : d < 4) {i : Nat} (hi : i ∈ (dS id kk j).2) : getV (dropT (dS id kk j).1 (pkI d)) (id i) = if kk i = d then none else some (pkI (kk i), (i : Int)) := by
  unfold dropT
  rw [getV_part (dS_inv (id := id) (kk := kk) j).1, dS_get j hi]
  by_cases h : kk i = d
  · rw [if_pos h, h]
    simp [Option.filter]
  · rw [if_neg h]
    have : pkI (kk i) ≠ pkI d := fun e => h (pkI_inj (hk i) hd e)
    simp [Option.filter, this]
/-- A pack that is told. -/
theorem dS_pack (hk : ∀ i, kk i < 4) (j : Nat) {p : List UInt8 × Nat} (hp : p ∈ packT (dS id kk j).1) : ∃ k, k < 4 ∧ p.1 = pkI k ∧ p.2 = cK kk (dS id kk j).2 k ∧ 0 < p.2 := by
  obtain ⟨h1, h2⟩ := packT_pos hp
  have h3 : 0 < cntP (dS id kk j).1 p.1 := by omega
  unfold cntP at h3
  obtain ⟨e, he, hq⟩ := List.countP_pos_iff.1 h3
  obtain ⟨i, _, rfl⟩ := List.mem_map.1 ((dS_inv (id := id) (kk := kk) j).2.1.mem_iff.1 he)
  have hq : pkI (kk i) = p.1 := of_decide_eq_true hq
  exact ⟨kk i, hk i, hq.symm, by rw [h1, ← hq, dS_cnt hk j (hk i)], h2⟩
end
end Go.Proofs.Ytefhdeipeflfdaa

/-! The law DedupDrops: memory. -/
namespace Go.Proofs.Ytefhdeipeflfdaa
open Go.RowKit Go.Maps Codec

theorem ddi_info : (Try.prog.info? 3).map (fun i => (i.zero, i.size, i.bytes)) = some (some (.int .i64 0), 1, 8) := by kernel_rfl
def ddV (l : List Nat) : List Value := l.map fun (x : Nat) => .int .i64 (x : Int)
theorem ddkeep {w w' : World} {base : Nat} {e : TypeId} {size : Nat} {v : Value} {n : Nat} {xs : List Value} (h : w.ownsRow base e size v n xs) (hb : ∀ q, v.ownBlock = some q → w'.heap[q]? = w.heap[q]?) : w'.ownsRow base e size v n xs := by
  refine ⟨h.1, ?_⟩
  rcases h.2 with hn | ⟨g, cap, cur, h1, h2, h3, rest⟩
  · exact .inl hn
  · exact .inr ⟨g, cap, cur, h1, h2, (hb g (by rw [h1]; rfl)).trans h3, rest⟩
theorem ddslice {W : World} {base : Nat} {e : TypeId} {size k : Nat} {v : Value} {xs : List Value} (h : W.ownsRow base e size v k xs) : ∃ A c, v = .slice A k c := by
  rcases h.2 with ⟨rfl, rfl⟩ | ⟨g, cap, cur, rfl, _⟩
  · exact ⟨none, 0, rfl⟩
  · exact ⟨_, cap, rfl⟩
theorem make_4 (w : World) : (Instr.makeSlice 57 (.int .i64 4) (.int .i64 4)).run Try.prog w = .ok (.slice (some ⟨w.heap.size, 0, none⟩) 4 4) (w.alloc (.cells (ddV [0, 0, 0, 0]).toArray 3)) := by
  obtain ⟨i0, hi, hz0, hz1, hz2⟩ := info_parts ddi_info
  have hmk := run_make (P := Try.prog) (t := 57) (e := 3) w i0 (.int .i64 0) Try.underlying57 hi hz0 .i64 .i64 4 4 (by omega) (by omega) (by rw [hz2]; omega) (by omega)
  have e : madeCells (Value.int .i64 0).cells ((4 : Int).toNat * 1) = (ddV [0, 0, 0, 0]).toArray := by kernel_rfl
  rw [hmk, hz1, e]
  rfl
theorem ddpush {W : World} {B : Nat} {v : Value} {ls : List Nat} (h : W.ownsRow B 3 1 v ls.length (ddV ls)) (x : Nat) (hB : B ≤ W.heap.size) (hn : ls.length ≤ 1000) :
    ∃ A' c' W1, (Builtin.append_ #[57, 57] 57 #[v, .slice (some ⟨W.heap.size, 0, none⟩) 1 1]).run Try.prog (W.alloc (.cells #[.int .i64 (x : Int)] 3)) = .ok (.slice A' (ls.length + 1) c') W1 ∧ W1.ownsRow B 3 1 (.slice A' (ls.length + 1) c') (ls ++ [x]).length (ddV (ls ++ [x])) ∧ Below B W W1 := by
  obtain ⟨i1, hi, hz0, hz1, hz2⟩ := info_parts ddi_info
  have h2 : (W.alloc (.cells #[.int .i64 (x : Int)] 3)).ownsRow B 3 1 v ls.length (ddV ls) := ddkeep h fun g hg => Below.heap_alloc _ _ _ (h.lt g hg).2
  have hsz : (W.alloc (.cells #[.int .i64 (x : Int)] 3)).heap.size = W.heap.size + 1 := by simp
  obtain ⟨v', W1, hrun, g1, g2, _, g4⟩ := run_append_own_at (P := Try.prog) (W.alloc (.cells #[.int .i64 (x : Int)] 3)) B 57 57 3 i1 (.int .i64 0) 1 8 Try.underlying57 hi hz0 hz1 hz2 rfl (by decide) v _ _ h2 ⟨W.heap.size, 0, none⟩ 1 1 [.int .i64 (x : Int)] rfl
      (fun j u hj => by
        match j, hj with
        | 0, hj =>
          rw [add_plain, cell_of_cells (heap_alloc_new W _)]
          simpa using hj) (one_of rfl) (by unfold maxLen; omega) (by omega) (by omega)
  obtain ⟨A', c', rfl⟩ := ddslice g1
  refine ⟨A', c', W1, hrun, ?_, ((Below.refl B W).alloc hB _).grown g2 (by omega) fun k hk => (h.lt k hk).1⟩
  rw [List.length_append, show ddV (ls ++ [x]) = ddV ls ++ [.int .i64 (x : Int)] by simp [ddV]]
  exact g1
theorem own_dd {W : World} {B : Nat} {A : Option Addr} {n c : Nat} {l : List Nat} (h : W.ownsRow B 3 1 (.slice A n c) n (ddV l)) {i x : Nat} (hx : l[i]? = some x) : ∃ g, A = some ⟨g, 0, none⟩ ∧ B ≤ g ∧ g < W.heap.size ∧ i < n ∧ W.cell? ⟨g, i, none⟩ = some (.int .i64 (x : Int)) := by
  have hl : (ddV l).length = n := by have := h.1; omega
  have hil : i < l.length := (List.getElem?_eq_some_iff.1 hx).1
  have hin : i < n := by rw [← hl]; simpa [ddV] using hil
  rcases h.2 with ⟨e, e0⟩ | ⟨g, cap, cur, e, hb, hg, _⟩
  · omega
  · injection e with e1 e2 e3
    subst e1
    refine ⟨g, rfl, hb, lt_of_cells hg, hin, ?_⟩
    rw [h.cellAt i (by omega), ddV, List.getElem?_map, hx]
    rfl
theorem exec_build1 {P : Program} {E : Operand → Value} {o : Oper} {W : World} (t : TypeId) (x0 : Operand) (ho : o.op = .build t #[(0, x0)]) (u0 : Value) (h0 : E x0 = u0) (cells : Array Value) (hb : P.built t [(0, u0)] = some cells) : (execOp E o).run P W = .ok (.value (.agg cells)) W := by
  have hr : (Instr.build t #[(0, u0)]).run P W = .ok (.agg cells) W := run_build W t _ cells hb
  unfold execOp
  simp [ho, h0, hr, Result.andThen]
/-- The four counts. -/
def c4 (kk : Nat → Nat) (ins : List Nat) : List Nat := [cK kk ins 0, cK kk ins 1, cK kk ins 2, cK kk ins 3]
theorem c4_at (kk : Nat → Nat) (ins : List Nat) {k : Nat} (h : k < 4) : (c4 kk ins)[k]? = some (cK kk ins k) := by
  match k, h with
  | 0, _ => rfl
  | 1, _ => rfl
  | 2, _ => rfl
  | 3, _ => rfl
theorem c4_snoc (kk : Nat → Nat) (ins : List Nat) (j : Nat) (h : kk j < 4) : (ddV (c4 kk ins)).toArray.setIfInBounds (kk j) (.int .i64 (((cK kk ins (kk j) + 1 : Nat)) : Int)) = (ddV (c4 kk (ins ++ [j]))).toArray := by
  unfold c4
  rw [cK_snoc, cK_snoc, cK_snoc, cK_snoc]
  generalize kk j = k at h ⊢
  match k, h with
  | 0, _ => simp [ddV]
  | 1, _ => simp [ddV]
  | 2, _ => simp [ddV]
  | 3, _ => simp [ddV]
theorem c4_cell {W : World} {g : Nat} {kk : Nat → Nat} {ins : List Nat} (h : W.heap[g]? = some (.cells (ddV (c4 kk ins)).toArray 3 (0, 0))) {k : Nat} (hk : k < 4) : W.cell? ⟨g, k, none⟩ = some (.int .i64 (cK kk ins k : Int)) := by
  rw [cell_of_cells h, List.getElem?_toArray]
  unfold ddV
  rw [List.getElem?_map, c4_at kk ins hk]
  rfl
theorem and3 (b : UInt8) : bits BinOp.and IntKind.u8 (b.toNat : Int) 3 = ((b.toNat % 4 : Nat) : Int) := by
  have h : ∀ z : Fin 256, bits BinOp.and IntKind.u8 ((z.val : Nat) : Int) 3 = ((z.val % 4 : Nat) : Int) := by decide +kernel
  exact h ⟨b.toNat, b.toNat_lt⟩
theorem built_k0 : Try.prog.built 31 [(0, .int .u8 0)] = some (row8 (pkI 0)) := by unfold pkI row8; kernel_rfl
theorem built_k1 : Try.prog.built 31 [(0, .int .u8 1)] = some (row8 (pkI 1)) := by unfold pkI row8; kernel_rfl
theorem built_k2 : Try.prog.built 31 [(0, .int .u8 2)] = some (row8 (pkI 2)) := by unfold pkI row8; kernel_rfl
theorem built_k3 : Try.prog.built 31 [(0, .int .u8 3)] = some (row8 (pkI 3)) := by unfold pkI row8; kernel_rfl
theorem built_kD {k : Nat} (h : k < 4) : Try.prog.built 31 [(0, .int .u8 (k : Int))] = some (row8 (pkI k)) := by
  match k, h with
  | 0, _ => exact built_k0
  | 1, _ => exact built_k1
  | 2, _ => exact built_k2
  | 3, _ => exact built_k3
/-- While ids are added. -/
structure DlS (w : World) (id : Nat → List UInt8) (kk : Nat → Nat) (B p b nb j : Nat) (v : Value) (W : World) : Prop where
  ix : Ix W p b (dS id kk j).1
  nr : W.heap[nb]? = some (.cells (ddV (c4 kk (dS id kk j).2)).toArray 3 (0, 0))
  ow : W.ownsRow B 3 1 v (dS id kk j).2.length (ddV (dS id kk j).2)
  lo : w.heap.size ≤ b ∧ w.heap.size ≤ nb ∧ p < B ∧ b < B ∧ nb < B ∧ nb ≠ b ∧ nb ≠ p ∧ B ≤ W.heap.size
  bl : Below w.heap.size w W
/-- Behind an Add. -/
structure DlT (w : World) (id : Nat → List UInt8) (kk : Nat → Nat) (B p b nb : Nat) (t : Tv Pl) (ins cnt : List Nat) (v : Value) (W : World) : Prop where
  ix : Ix W p b t
  nr : W.heap[nb]? = some (.cells (ddV (c4 kk cnt)).toArray 3 (0, 0))
  ow : W.ownsRow B 3 1 v ins.length (ddV ins)
  lo : w.heap.size ≤ b ∧ w.heap.size ≤ nb ∧ p < B ∧ b < B ∧ nb < B ∧ nb ≠ b ∧ nb ≠ p ∧ B ≤ W.heap.size
  bl : Below w.heap.size w W
theorem dl_add {w wr w7 : World} {id : Nat → List UInt8} {kk : Nat → Nat} {B p b nb j : Nat} {v : Value} {t : Tv Pl} (h : DlS w id kk B p b nb j v wr) (hi : Ix w7 p b t) (ht : Turned (· = b) wr w7) : DlT w id kk B p b nb t (dS id kk j).2 (dS id kk j).2 v w7 := by
  have hlo := h.lo
  refine ⟨hi, (ht.block _ (lt_of_cells h.nr) (by show ¬ nb = b; omega)).trans h.nr, ddkeep h.ow fun g hg => ht.block g (h.ow.lt g hg).2 (by have := (h.ow.lt g hg).1; show ¬ g = b; omega), ⟨hlo.1, hlo.2.1, hlo.2.2.1, hlo.2.2.2.1, hlo.2.2.2.2.1, hlo.2.2.2.2.2.1, hlo.2.2.2.2.2.2.1, Nat.le_trans hlo.2.2.2.2.2.2.2 ht.size⟩, below_turn h.bl (Nat.le_refl _) ht fun k hk => by rw [hk]; exact hlo.1⟩
theorem DlT.no {w w7 : World} {id : Nat → List UInt8} {kk : Nat → Nat} {B p b nb j : Nat} {v : Value} (h : DlT w id kk B p b nb (addT (dS id kk j).1 (id j) (pkI (kk j), (j : Int))) (dS id kk j).2 (dS id kk j).2 v w7) (hz : (dS id kk (j + 1)).1 = addT (dS id kk j).1 (id j) (pkI (kk j), (j : Int)) ∧ (dS id kk (j + 1)).2 = (dS id kk j).2) : DlS w id kk B p b nb (j + 1) v w7 :=
  ⟨by rw [hz.1]; exact h.ix, by rw [hz.2]; exact h.nr, by rw [hz.2]; exact h.ow, h.lo, h.bl⟩
/-- One more of a pack, and one more in. -/
theorem dl_push {w w7 : World} {id : Nat → List UInt8} {kk : Nat → Nat} {B p b nb : Nat} {t : Tv Pl} {ins : List Nat} {A : Option Addr} {c m : Nat} (h : DlT w id kk B p b nb t ins ins (.slice A ins.length c) w7) (hm : m < 4) (j : Nat) (hl : ins.length ≤ 30) :
    ∃ A' c' W1, (Builtin.append_ #[57, 57] 57 #[.slice A ins.length c, .slice (some ⟨w7.heap.size, 0, none⟩) 1 1]).run Try.prog ((w7.setCell ⟨nb, m, none⟩ (.int .i64 ((cK kk ins m : Int) + 1))).alloc (.cells #[.int .i64 (j : Int)] 3)) = .ok (.slice A' (ins.length + 1) c') W1 ∧
      (m = kk j → DlT w id kk B p b nb t (ins ++ [j]) (ins ++ [j]) (.slice A' (ins.length + 1) c') W1) := by
  have hlo := h.lo
  have hsz : (w7.setCell ⟨nb, m, none⟩ (.int .i64 ((cK kk ins m : Int) + 1))).heap.size = w7.heap.size := by simp
  have ht : Turned (· = nb) w7 (w7.setCell ⟨nb, m, none⟩ (.int .i64 ((cK kk ins m : Int) + 1))) := ⟨rfl, rfl, rfl, by simp, fun i _ hne => heap_setCell_other _ _ _ _ hne⟩
  have hnr := set_of_cells h.nr m (.int .i64 ((cK kk ins m : Int) + 1))
  have how : (w7.setCell ⟨nb, m, none⟩ (.int .i64 ((cK kk ins m : Int) + 1))).ownsRow B 3 1 (.slice A ins.length c) ins.length (ddV ins) := ddkeep h.ow fun g hg => ht.block g (h.ow.lt g hg).2 (by have := (h.ow.lt g hg).1; show ¬ g = nb; omega)
  obtain ⟨A', c', W1, hap, how1, hb1⟩ := ddpush how j (by rw [hsz]; exact hlo.2.2.2.2.2.2.2) (by omega)
  rw [hsz] at hap
  refine ⟨A', c', W1, hap, fun hmj => ?_⟩
  have hix := h.ix.turned ht (by show ¬ p = nb; omega) (by show ¬ b = nb; omega)
  have hbl : Below w.heap.size w (w7.setCell ⟨nb, m, none⟩ (.int .i64 ((cK kk ins m : Int) + 1))) := h.bl.setCell (by show w.heap.size ≤ nb; omega) _
  refine ⟨?_, ?_, how1, ⟨hlo.1, hlo.2.1, hlo.2.2.1, hlo.2.2.2.1, hlo.2.2.2.2.1, hlo.2.2.2.2.2.1, hlo.2.2.2.2.2.2.1, by have := hb1.size; rw [hsz] at this; omega⟩, hbl.trans (hb1.mono (by omega))⟩
  · exact hix.turned (T := fun k => B ≤ k) ⟨hb1.os, hb1.tape, hb1.output, hb1.size, fun i hi hn => hb1.block i (by have hn' : ¬ B ≤ i := hn; omega)⟩ (by show ¬ B ≤ p; omega) (by show ¬ B ≤ b; omega)
  · rw [hb1.block nb hlo.2.2.2.2.1]
    subst hmj
    have e := c4_snoc kk ins j hm
    push_cast at e
    rw [← e]
    exact hnr
theorem DlT.yes {w w7 : World} {id : Nat → List UInt8} {kk : Nat → Nat} {B p b nb j : Nat} {v : Value} (h : DlT w id kk B p b nb (addT (dS id kk j).1 (id j) (pkI (kk j), (j : Int))) ((dS id kk j).2 ++ [j]) ((dS id kk j).2 ++ [j]) v w7) (hz : (dS id kk (j + 1)).1 = addT (dS id kk j).1 (id j) (pkI (kk j), (j : Int)) ∧ (dS id kk (j + 1)).2 = (dS id kk j).2 ++ [j]) : DlS w id kk B p b nb (j + 1) v w7 :=
  ⟨by rw [hz.1]; exact h.ix, by rw [hz.2]; exact h.nr, by rw [hz.2]; exact h.ow, h.lo, h.bl⟩
def DlR (w : World) (l : List (List UInt8)) (id : Nat → List UInt8) (kk : Nat → Nat) (B p b nb : Nat) (v iv : Value) (wr : World) : Prop := ∃ j : Nat, j ≤ l.length ∧ iv = .int .i64 (j : Int) ∧ DlS w id kk B p b nb j v wr
end Go.Proofs.Ytefhdeipeflfdaa
