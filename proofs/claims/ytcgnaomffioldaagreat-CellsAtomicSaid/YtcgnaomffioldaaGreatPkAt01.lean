/-
  Wal, pure: a torn write, told by what the half then opens as: as it was, without what was begun, or with it whole (for cells: a half that is begun anew over old records).
  Cells, pure: a store on a disk that may stop: opened anew it is as ahead of the changes, or as behind them.
  Cells: a store on a disk of a call's own that may stop.
  Cells: the model's changes in memory.
-/
import Derived.Test.YtcgnaomffioldaaGreatPk07
import Derived.Test.YtcgnaomffioldaaGreatPk08
import Derived.Test.YtcgnaomffioldaaGreatPk21
import Derived.Test.YtcgnaomffioldaaGreatPk04
/-! Wal, pure: a torn write, told by what the half then opens as: as it was, without what was begun, or with it whole (for cells: a half that is begun anew over old records). -/
namespace Go.Proofs.YtcgnaomffioldaaGreat
open Go.RowKit

/-- What a half opens as behind a torn write: as it did ahead of it; with the records ahead alone; or with the record. -/
structure TornT (bs bs' : List (List UInt8)) (m : LM) (b : List UInt8) : Prop where
  way : ((openM bs' m.from_ m.n).l = (openM bs m.from_ m.n).l ∧ (openM bs' m.from_ m.n).first = (openM bs m.from_ m.n).first) ∨ ((openM bs' m.from_ m.n).l = m.l ∧ (openM bs' m.from_ m.n).first = m.first) ∨ (openM bs' m.from_ m.n) = addOk m b
theorem mid_scan2 {bs : List (List UInt8)} {m : LM} (hf : Fit bs m) (b : List UInt8) (h0 : 0 < m.next) (hx : m.next + blocksN b.length < 18446744073709551616) {j : Nat} (hj : j < blocksN b.length) (hh : m.have_ + j < bs.length) (q : List (List UInt8)) (hq : ∀ s, MidW (runW (bs.take m.have_) 0 ws0) s m.next j b → scanW q (m.have_ + j) s = s) :
    (scanW (bs.take m.have_ ++ recL m.next b (blocksN b.length) j ++ q) 0 ws0).recs = m.l ∧ (scanW (bs.take m.have_ ++ recL m.next b (blocksN b.length) j ++ q) 0 ws0).first = m.first := by
  obtain ⟨s, h1, h2⟩ := mid_scan hf b h0 hx hj hh q
  rw [h1, hq s h2, h2.recs, h2.first, ← hf.recs, ← hf.first]
  exact ⟨rfl, rfl⟩
theorem torn_fit2 {bs : List (List UInt8)} {m : LM} (hf : Fit bs m) (hlo : Lo bs) (b : List UInt8) (h0 : 0 < m.next) {j t : Nat} (hj : j < blocksN b.length) (ht : t ≤ 128) (hK : m.have_ + blocksN b.length ≤ bs.length) (hx : m.next + blocksN b.length < 65536) :
    TornT bs (putL bs m.have_ (recL m.next b (blocksN b.length) j ++ [tornB t (recB m.next b (blocksN b.length) j) (bs[m.have_ + j]?.getD [])])) m b ∧
    Lo (putL bs m.have_ (recL m.next b (blocksN b.length) j ++ [tornB t (recB m.next b (blocksN b.length) j) (bs[m.have_ + j]?.getD [])])) ∧
    mostL (putL bs m.have_ (recL m.next b (blocksN b.length) j ++ [tornB t (recB m.next b (blocksN b.length) j) (bs[m.have_ + j]?.getD [])])) ≤ m.next + j + 255 := by
  have hin : m.have_ + j < bs.length := by omega
  obtain ⟨c, hc⟩ : ∃ c, c = bs[m.have_ + j]?.getD [] := ⟨_, rfl⟩
  have hcm : c ∈ bs := by rw [hc, List.getElem?_eq_getElem hin]; exact List.getElem_mem hin
  have hce := hf.ends c hcm
  obtain ⟨e1, e2⟩ := rec_ends (x := m.next) (b := b) hj h0 (by omega)
  obtain ⟨h1, h2, h3, h4⟩ := torn_block (c := c) (nb := recB m.next b (blocksN b.length) j) (x := m.next + j) (t := t) (hf.len c hcm) (recB_length _ _ _ _) e1 e2 (by omega) (by omega) (by omega) (hlo c hcm) ht
  rw [← hc]
  obtain ⟨c', hc'⟩ : ∃ c', c' = tornB t (recB m.next b (blocksN b.length) j) c := ⟨_, rfl⟩
  rw [← hc'] at h1 h2 h3 h4 ⊢
  refine ⟨⟨?_⟩, ?_, ?_⟩
  · have hput : putL bs m.have_ (recL m.next b (blocksN b.length) j ++ [c']) = bs.take m.have_ ++ recL m.next b (blocksN b.length) j ++ (c' :: bs.drop (m.have_ + j + 1)) := by
      unfold putL
      rw [List.length_append, recL_length, List.length_singleton, ← Nat.add_assoc]
      simp
    have hold : ∀ y ∈ bs.drop (m.have_ + j + 1), fL y < m.next := fun y hy => (hf.ends y (List.mem_of_mem_drop hy)).1
    have told : ∀ X : List (List UInt8), (scanW X 0 ws0).recs = m.l ∧ (scanW X 0 ws0).first = m.first → (openM X m.from_ m.n).l = m.l ∧ (openM X m.from_ m.n).first = m.first := fun X h => h
    rcases h1 with h1 | h1 | h1
    · by_cases hj0 : j = 0
      · left
        subst hj0
        have hnil : recL m.next b (blocksN b.length) 0 = [] := rfl
        rw [hnil, List.nil_append, h1, hc, Nat.add_zero, put_at (by omega)]
        exact ⟨rfl, rfl⟩
      · right
        left
        rw [hput]
        refine told _ (mid_scan2 hf b h0 (by omega) hj hin _ fun s hs => scan_bad ?_)
        rw [h1]
        exact bad_old hce.1 (by rw [hs.ahead (by omega)]; omega)
    · by_cases hlast : j + 1 = blocksN b.length
      · right
        right
        have := (add_fit hf b h0 hK (by omega)).2
        rw [h1, ← recL_succ, hlast, this]
      · right
        left
        have hput2 : putL bs m.have_ (recL m.next b (blocksN b.length) j ++ [c']) = bs.take m.have_ ++ recL m.next b (blocksN b.length) (j + 1) ++ bs.drop (m.have_ + j + 1) := by
          rw [hput, h1, recL_succ]
          simp
        rw [hput2]
        exact told _ (mid_scan2 hf b h0 (by omega) (by omega) (by omega) _ fun s hs => scan_old (x := m.next) hold (by rw [hs.ahead (by omega)]; omega))
    · right
      left
      rw [hput]
      refine told _ (mid_scan2 hf b h0 (by omega) hj hin _ fun s _ => scan_bad ?_)
      rw [h1]
      simp [badW]
  · intro y hy
    rcases putL_mem hy with hy | hy
    · exact hlo y hy
    · rcases List.mem_append.1 hy with hy | hy
      · obtain ⟨i, hi, rfl⟩ := recL_mem hy
        have := rec_ends (x := m.next) (b := b) (i := i) (by omega) h0 (by omega)
        omega
      · rw [List.mem_singleton.1 hy]
        exact h4
  · refine mostL_le.2 fun y hy => ?_
    rcases putL_mem hy with hy | hy
    · have := hf.ends y hy
      omega
    · rcases List.mem_append.1 hy with hy | hy
      · obtain ⟨i, hi, rfl⟩ := recL_mem hy
        have := rec_ends (x := m.next) (b := b) (i := i) (by omega) h0 (by omega)
        omega
      · rw [List.mem_singleton.1 hy]
        omega
/-- What a record's writing leaves, on a disk that may stop (whatever stands behind where it begins). -/
structure AddT (d : DM) (m : LM) (b : List UInt8) (f n : Nat) : Prop where
  way : ((addM d m b).2 = (addOk m b, 0) ∧ OnD (addM d m b).1 (addOk m b) f n ∧ Lo (blocksOf (addM d m b).1.l (f : Int) (n : Int)) ∧ openM (blocksOf (addM d m b).1.l (f : Int) (n : Int)) (f : Int) (n : Int) = addOk m b ∧ (addM d m b).1.l = putL d.l (f + m.have_) (recL m.next b (blocksN b.length) (blocksN b.length))) ∨
    ((addM d m b).2.2 = 30 ∧ (addM d m b).1.Ok ∧ Lo (blocksOf (addM d m b).1.l (f : Int) (n : Int)) ∧ TornT (blocksOf d.l (f : Int) (n : Int)) (blocksOf (addM d m b).1.l (f : Int) (n : Int)) m b ∧ mostL (blocksOf (addM d m b).1.l (f : Int) (n : Int)) ≤ m.next + blocksN b.length + 255 ∧ ∃ r : List (List UInt8), r.length ≤ blocksN b.length ∧ (addM d m b).1.l = putL d.l (f + m.have_) r)
theorem addM_stop2 {d : DM} {m : LM} {f n : Nat} (h : OnD d m f n) (hlo : Lo (blocksOf d.l (f : Int) (n : Int))) (b : List UInt8) (hK : m.have_ + blocksN b.length ≤ n) (hx : m.next + blocksN b.length < 65536) : AddT d m b f n := by
  have hbl := blocksOf_length h.len
  have hac : f + m.have_ + blocksN b.length ≤ d.l.length := by have := h.len; omega
  have hgo := addGo_cases (l := d.l) (a := f + m.have_) (x := m.next) (K := blocksN b.length) (b := b) hac (blocksN b.length) 0 d (by omega) h.up (by rw [show recL m.next b (blocksN b.length) 0 = [] from rfl, putL_nil])
  have hok := addM_ok (m := m) (b := b) h.ok
  have htry := addM_try h b hK (by omega)
  constructor
  rcases hgo with ⟨h1, h2, h3, h4, h5⟩ | ⟨h1, h2, h3, j, h4, h5, h6⟩
  · left
    rw [if_pos h1] at htry
    have hput := blocksOf_put (l := d.l) (r := recL m.next b (blocksN b.length) (blocksN b.length)) (f := f) (n := n) (h := m.have_) h.len (by rw [recL_length]; exact hK)
    obtain ⟨hf1, hf2⟩ := add_fit h.fit b h.pos (by rw [hbl]; exact hK) (by omega)
    have hf3 := add_lo (m := m) hlo b h.pos (by omega)
    rw [h.from_, h.n_] at hf2
    rw [htry] at hok ⊢
    have hbs : blocksOf (addGo ((f + m.have_ : Nat) : Int) m.next b (blocksN b.length) (blocksN b.length) 0 d).1.l (f : Int) (n : Int) = putL (blocksOf d.l (f : Int) (n : Int)) m.have_ (recL m.next b (blocksN b.length) (blocksN b.length)) := by rw [h2, hput]
    refine ⟨rfl, ⟨hok, h3, ?_, h.from_, h.n_, rfl, ?_, ?_⟩, ?_, ?_, h2⟩
    · show f + n ≤ (addGo ((f + m.have_ : Nat) : Int) m.next b (blocksN b.length) (blocksN b.length) 0 d).1.l.length
      rw [h2, putL_length (by rw [recL_length]; exact hac)]
      exact h.len
    · have := h.pos
      show 0 < m.next + blocksN b.length
      omega
    · simp only
      rw [hbs]
      exact hf1
    · simp only
      rw [hbs]
      exact hf3
    · simp only
      rw [hbs]
      exact hf2
  · right
    rw [if_neg (by rw [h2]; decide)] at htry
    have hput := blocksOf_put (l := d.l) (r := recL m.next b (blocksN b.length) j ++ [tornB d.torn.toNat (recB m.next b (blocksN b.length) j) (d.l[f + m.have_ + j]?.getD [])]) (f := f) (n := n) (h := m.have_) h.len (by rw [List.length_append, recL_length, List.length_singleton]; omega)
    have hgt : (blocksOf d.l (f : Int) (n : Int))[m.have_ + j]? = d.l[f + m.have_ + j]? := by rw [blocksOf_get, if_pos (by omega), Nat.add_assoc]
    obtain ⟨hf1, hf2, hf3⟩ := torn_fit2 (t := d.torn.toNat) h.fit hlo b h.pos h5 (by have := h.ok.torn; omega) (by rw [hbl]; exact hK) hx
    rw [hgt] at hf1 hf2 hf3
    have hbs : blocksOf (addGo ((f + m.have_ : Nat) : Int) m.next b (blocksN b.length) (blocksN b.length) 0 d).1.l (f : Int) (n : Int) = putL (blocksOf d.l (f : Int) (n : Int)) m.have_ (recL m.next b (blocksN b.length) j ++ [tornB d.torn.toNat (recB m.next b (blocksN b.length) j) (d.l[f + m.have_ + j]?.getD [])]) := by rw [h6, hput]
    rw [htry] at hok ⊢
    simp only at hok ⊢
    rw [hbs]
    exact ⟨h2, hok, hf2, hf1, by omega, _, by rw [List.length_append, recL_length, List.length_singleton]; omega, h6⟩
end Go.Proofs.YtcgnaomffioldaaGreat

/-! Cells, pure: a store on a disk that may stop: opened anew it is as ahead of the changes, or as behind them. -/
namespace Go.Proofs.YtcgnaomffioldaaGreat
open Go.RowKit Codec

theorem PS.congr {d1 d2 : DM} {s : SM} {K : Nat} (h : PS d1 s K) (hl : d2.l = d1.l) (ok : d2.Ok) (up : d2.down = false) (left : d2.left < 0) : PS d2 s K := by
  obtain ⟨l1, a1, b1, c1⟩ := d1
  obtain ⟨l2, a2, b2, c2⟩ := d2
  obtain rfl : l2 = l1 := hl
  exact ⟨⟨ok, up, h.on.len, h.on.from_, h.on.n_, h.on.e, h.on.pos, h.on.fit⟩, left, h.half, h.hn1, h.few, h.e, h.may, h.srt, h.told, h.next, h.most⟩
/-- A store and its disk say the same; the disk may stop. -/
structure PQ (d : DM) (s : SM) (K : Nat) : Prop where
  ps : PS (restartM d) s K
  ok : d.Ok
  up : d.down = false
  lo : ∀ i, i ≤ 1 → Lo (bl d i)
theorem PQ.stop {d : DM} {s : SM} {K : Nat} (h : PQ d s K) {a t : Int} (ha : -9223372036854775808 ≤ a ∧ a ≤ 9223372036854775807) : PQ (stopM d a t) s K :=
  ⟨h.ps.congr rfl (restartM_ok (stopM_ok h.ok ha)) rfl (by show (-1 : Int) < 0; omega), stopM_ok h.ok ha, h.up, h.lo⟩
theorem PQ.more {d : DM} {s : SM} {K K' : Nat} (h : PQ d s K) (hK : K ≤ K') : PQ d s K' := ⟨h.ps.more hK, h.ok, h.up, h.lo⟩
theorem openC_calm {d : DM} (h : d.down = false) : openC (restartM d) = openC d := by
  unfold openC
  rw [h]
  rfl
theorem allM_congr {m m' : LM} (h : m.l = m'.l) : allM m = allM m' := by unfold allM; rw [h]
theorem half_next' (d : DM) (i : Nat) {K : Nat} (hm : mostL (bl d i) < K) (hK : K < 18446744073709551615) : (halfM d i).next ≤ K := by
  rw [halfM_eq]
  unfold openM
  simp only
  rw [Nat.mod_eq_of_lt (by omega)]
  omega
/-- A half that counts, as it stands. -/
theorem mkPS2 {d : DM} {K i : Nat} {t : Tb} (ok : d.Ok) (up : d.down = false) (left : d.left < 0) (few : d.l.length ≤ 65536) (hn1 : 1 ≤ hn d) (hi : i ≤ 1) (hK : K < 18446744073709551615) (hm : ∀ j, j ≤ 1 → mostL (bl d j) < K)
    (hr : ∃ r rest t0, (halfM d i).l = r :: rest ∧ raM r = some t0 ∧ upM t0 rest = some t) (hf : (halfM d i).first ≠ 0) (ho : (allM (halfM d (1 - i))).isSome = true → (halfM d (1 - i)).first < (halfM d i).first) (may : TMay t) (srt : Srt t) : PS d ⟨t, i, halfM d i, 0, 0⟩ K :=
  ⟨open_on ok up (hn_two hi) (by have := hm i hi; unfold bl at this; omega), left, hi, hn1, few, rfl, may, srt, .inr ⟨rfl, hf, hr, ho⟩, half_next' d i (hm i hi) hK, hm (1 - i) (by omega)⟩
/-- No half counts. -/
theorem mkPS1 {d : DM} {K : Nat} (ok : d.Ok) (up : d.down = false) (left : d.left < 0) (few : d.l.length ≤ 65536) (hn1 : 1 ≤ hn d) (hK : K < 18446744073709551615) (hm : ∀ j, j ≤ 1 → mostL (bl d j) < K)
    (h0 : allM (halfM d 0) = none) (h1 : allM (halfM d 1) = none) : PS d ⟨[], 0, beginM (halfM d 0) ((0 * hn d : Nat) : Int) ((hn d : Nat) : Int) 0, 0, 0⟩ K :=
  ⟨begin_on ok up (hn_two (Nat.zero_le _)) (by have := hm 0 (by omega); unfold bl at this; omega), left, Nat.zero_le _, hn1, few, rfl, TMay.nil, Srt.nil, .inl ⟨rfl, rfl, rfl, rfl, h0, h1⟩, by
    have := half_next' d 0 (hm 0 (by omega)) hK
    unfold beginM
    simp only
    rw [if_neg (by omega)]
    exact this, hm 1 (by omega)⟩
/-- Where a half is written, the other one stays. -/
theorem bl_other {d d' : DM} {i j h : Nat} {r : List (List UInt8)} (hi : i ≤ 1) (hj : j ≤ 1) (hne : j ≠ i) (hr : h + r.length ≤ hn d) (hl : d'.l = putL d.l (i * hn d + h) r) : d'.l.length = d.l.length ∧ hn d' = hn d ∧ bl d' j = bl d j := by
  have h2i := hn_two (d := d) hi
  have h2j := hn_two (d := d) hj
  have hlen : d'.l.length = d.l.length := by rw [hl, putL_length (by omega)]
  have hhn := hn_len hlen
  refine ⟨hlen, hhn, ?_⟩
  unfold bl
  rw [hhn, hl]
  refine blocksOf_far (by omega) ?_
  rcases Nat.le_one_iff_eq_zero_or_eq_one.1 hi with rfl | rfl <;> rcases Nat.le_one_iff_eq_zero_or_eq_one.1 hj with rfl | rfl
  · exact absurd rfl hne
  · left; omega
  · right; omega
  · exact absurd rfl hne
theorem half_same {d d' : DM} {j : Nat} (h1 : hn d' = hn d) (h2 : bl d' j = bl d j) : halfM d' j = halfM d j := by
  rw [halfM_eq, halfM_eq, h1, h2]
/-- What Apply does with such a store. -/
structure AqR (d : DM) (s : SM) (l : List Ch) (K : Nat) : Prop where
  err : (applyC d s l).2.2 = 1 ∨ (applyC d s l).2.2 = 31 ∨ (applyC d s l).2.2 = 0 ∨ (applyC d s l).2.2 = 30
  no : (applyC d s l).2.2 = 1 ∨ (applyC d s l).2.2 = 31 → (applyC d s l).1 = d ∧ (applyC d s l).2.1 = s
  yes : (applyC d s l).2.2 = 0 → PQ (applyC d s l).1 (applyC d s l).2.1 (K + hn d + 256) ∧ (applyC d s l).2.1.t = doL s.t l ∧ (applyC d s l).2.1.turns ≤ s.turns + 1
  down : (applyC d s l).2.2 = 30 → ∃ s', openC (restartM (applyC d s l).1) = (s', 0) ∧ PQ (restartM (applyC d s l).1) s' (K + hn d + 256) ∧ (s'.t = s.t ∨ s'.t = doL s.t l) ∧ s'.turns = 0
  len : (applyC d s l).1.l.length = d.l.length
/-- What a torn write ends in. -/
theorem torn_end {d' : DM} {s1 : SM} {K : Nat} {ta tb : Tb} (hp : PS (restartM d') s1 K) (hK : K < 18446744073709551615) (lo : ∀ i, i ≤ 1 → Lo (bl d' i)) (ht : s1.t = ta ∨ s1.t = tb) : ∃ s', openC (restartM d') = (s', 0) ∧ PQ (restartM d') s' K ∧ (s'.t = ta ∨ s'.t = tb) ∧ s'.turns = 0 := by
  obtain ⟨s', h1, h2, h3, h4, _⟩ := hp.open_ hK
  exact ⟨s', h1, ⟨h2, h2.on.ok, rfl, lo⟩, by rw [h3]; exact ht, h4⟩
/-- A record's writing in one half, as Apply does it. -/
structure Wr1 (d : DM) (s : SM) (l : List Ch) (i : Nat) (m : LM) (b : List UInt8) (S : LM → SM) (D : DM) : Prop where
  f0 : (addM D m b).2.2 = 0 → applyC D s l = ((addM D m b).1, S (addM D m b).2.1, 0)
  f31 : addM D m b = (D, m, 31) → applyC D s l = (D, s, 31)
  f30 : (addM D m b).2.2 = 30 → (applyC D s l).1 = (addM D m b).1 ∧ (applyC D s l).2.2 = 30
theorem PQ.key {d : DM} {s : SM} {K : Nat} (h : PQ d s K) {l : List Ch} (hA : ApR (restartM d) s l K) (hK : K + hn d + 256 < 65536) {i : Nat} {m : LM} {b : List UInt8} {S : LM → SM} (hi : i ≤ 1) (on0 : OnD (restartM d) m (i * hn d) (hn d)) (hmn : m.next ≤ K)
    (w : Wr1 d s l i m b S d) (w0 : Wr1 d s l i m b S (restartM d))
    (ht : ∀ d' : DM, d'.Ok → d'.l.length = d.l.length → hn d' = hn d → (∀ j, j ≤ 1 → j ≠ i → bl d' j = bl d j) → TornT (bl d i) (bl d' i) m b → (∀ j, j ≤ 1 → mostL (bl d' j) < K + hn d + 256) → ∃ s1, PS (restartM d') s1 (K + hn d + 256) ∧ (s1.t = s.t ∨ s1.t = doL s.t l)) : AqR d s l K := by
  have on : OnD d m (i * hn d) (hn d) := ⟨h.ok, h.up, on0.len, on0.from_, on0.n_, on0.e, on0.pos, on0.fit⟩
  by_cases hfit : m.have_ + blocksN b.length ≤ hn d
  · have hx : m.next + blocksN b.length < 65536 := by omega
    rcases (addM_stop2 on (h.lo i hi) b hfit hx).way with ⟨w1, w2, w3, w4, w5⟩ | ⟨w1, w2, w3, w4, w5, r, hr, w6⟩
    · have ha : applyC d s l = ((addM d m b).1, S (addOk m b), 0) := by
        have := w.f0 (by rw [w1])
        rw [w1] at this
        exact this
      obtain ⟨g1, _, _, _⟩ := addM_go on0 h.ps.left b hfit (by omega)
      have hl0 := addM_l on0 h.ps.left b hfit (by omega)
      have ha0 : applyC (restartM d) s l = ((addM (restartM d) m b).1, S (addOk m b), 0) := by
        have := w0.f0 (by rw [g1])
        rw [g1] at this
        exact this
      have hy := hA.yes (by rw [ha0])
      rw [ha0] at hy
      obtain ⟨hlen, hhn, hot⟩ := bl_other (d := d) (d' := (addM d m b).1) (j := 1 - i) hi (by omega) (by omega) (r := recL m.next b (blocksN b.length) (blocksN b.length)) (by rw [recL_length]; exact hfit) w5
      refine ⟨by rw [ha]; exact .inr (.inr (.inl rfl)), by rw [ha]; intro h; rcases h with h | h <;> exact absurd h (by simp), fun _ => ?_, by rw [ha]; exact fun h => absurd h (by simp), by rw [ha]; exact hlen⟩
      rw [ha]
      refine ⟨⟨(hy.1.more (by show K + hn d ≤ _; omega)).congr (d2 := restartM (addM d m b).1) (by show (addM d m b).1.l = _; rw [w5, hl0]; rfl) (restartM_ok w2.ok) rfl (by show (-1 : Int) < 0; omega), w2.ok, w2.up, fun j hj => ?_⟩, hy.2.1, hy.2.2.2.1⟩
      by_cases hji : j = i
      · subst hji
        unfold bl
        rw [hhn]
        exact w3
      · have : j = 1 - i := by omega
        rw [this]
        show Lo (bl (addM d m b).1 (1 - i))
        rw [hot]
        exact h.lo _ (by omega)
    · obtain ⟨e1, e2⟩ := w.f30 w1
      obtain ⟨hlen, hhn, hot⟩ := bl_other (d := d) (d' := (addM d m b).1) (j := 1 - i) hi (by omega) (by omega) (r := r) (by omega) w6
      have hoth : ∀ j, j ≤ 1 → j ≠ i → bl (addM d m b).1 j = bl d j := fun j hj hne => by
        have : j = 1 - i := by omega
        rw [this]
        exact hot
      have hbi : bl (addM d m b).1 i = blocksOf (addM d m b).1.l ((i * hn d : Nat) : Int) ((hn d : Nat) : Int) := by unfold bl; rw [hhn]
      have hlo : ∀ j, j ≤ 1 → Lo (bl (addM d m b).1 j) := fun j hj => by
        by_cases hji : j = i
        · rw [hji, hbi]; exact w3
        · rw [hoth j hj hji]; exact h.lo j hj
      have hms : ∀ j, j ≤ 1 → mostL (bl (addM d m b).1 j) < K + hn d + 256 := fun j hj => by
        by_cases hji : j = i
        · rw [hji, hbi]; omega
        · rw [hoth j hj hji]
          have := h.ps.most_any j hj
          have e : bl (restartM d) j = bl d j := rfl
          rw [e] at this
          omega
      obtain ⟨s1, p1, p2⟩ := ht (addM d m b).1 w2 hlen hhn hoth (by rw [hbi]; exact w4) hms
      refine ⟨by rw [e2]; exact .inr (.inr (.inr rfl)), by rw [e2]; intro h; rcases h with h | h <;> exact absurd h (by simp), by rw [e2]; exact fun h => absurd h (by simp), fun _ => ?_, by rw [e1]; exact hlen⟩
      rw [e1]
      exact torn_end p1 (by omega) hlo p2
  · have hful := addM_full on b (by omega)
    have ha := w.f31 hful
    exact ⟨by rw [ha]; exact .inr (.inl rfl), by rw [ha]; exact fun _ => ⟨rfl, rfl⟩, by rw [ha]; exact fun h => absurd h (by simp), by rw [ha]; exact fun h => absurd h (by simp), by rw [ha]⟩
theorem PQ.apply_ {d : DM} {s : SM} {K : Nat} (h : PQ d s K) (l : List Ch) (hl : l.length < 18446744073709551616) (htl : s.t.length + l.length < 18446744073709551616) (hK : K + hn d + 256 < 65536) : AqR d s l K := by
  have hA := h.ps.apply_ l hl htl (by omega)
  have hrf : refC s l = if l.all mayC then 0 else 1 := by unfold refC; rw [if_neg (by simp [h.ps.e])]
  by_cases hm : l.all mayC = true
  · rw [hm, if_pos rfl] at hrf
    have hma : ∀ x ∈ l, mayC x = true := fun x hx => List.all_eq_true.1 hm x hx
    by_cases hn0 : l = []
    · have ha : applyC d s l = (d, s, 0) := by unfold applyC; rw [if_pos (.inr hn0), hrf]
      subst hn0
      exact ⟨by rw [ha]; exact .inr (.inr (.inl rfl)), by rw [ha]; exact fun _ => ⟨rfl, rfl⟩, by rw [ha]; exact fun _ => ⟨h.more (by omega), rfl, Nat.le_succ _⟩, by rw [ha]; exact fun h => absurd h (by simp), by rw [ha]⟩
    · have hcond : ¬ (refC s l ≠ 0 ∨ l = []) := by rw [hrf]; simp [hn0]
      have hmn : TMay (doL s.t l) := h.ps.may.chs hma
      have hsn : Srt (doL s.t l) := h.ps.srt.chs l
      have hdl : (doL s.t l).length < 18446744073709551616 := by have := doL_len s.t h.ps.srt l; omega
      have hap : ∀ D : DM, applyC D s l = if (writeC D s l).2.2 = 0 then ((writeC D s l).1, { (writeC D s l).2.1 with t := doL s.t l }, 0) else ((writeC D s l).1, (if (writeC D s l).2.2 = 31 then (writeC D s l).2.1 else { (writeC D s l).2.1 with e := (writeC D s l).2.2 }), (writeC D s l).2.2) := fun D => by
        unfold applyC
        rw [if_neg hcond]
      have h11 : 1 - (1 - s.half) = s.half := by have := h.ps.half; omega
      have hhalf := h.ps.half
      have hfewd : ∀ d' : DM, d'.l.length = d.l.length → (restartM d').l.length ≤ 65536 := fun d' e => by show d'.l.length ≤ 65536; rw [e]; exact h.ps.few
      have hhnd : ∀ d' : DM, hn d' = hn d → 1 ≤ hn (restartM d') := fun d' e => by show 1 ≤ hn d'; rw [e]; exact h.ps.hn1
      by_cases hc : s.log.first ≠ 0 ∧ (blocksN (chsB l).length : Int) ≤ s.log.n - (s.log.have_ : Int)
      · have hw : ∀ D, writeC D s l = ((addM D s.log (chsB l)).1, { s with log := (addM D s.log (chsB l)).2.1 }, (addM D s.log (chsB l)).2.2) := fun D => by
          unfold writeC
          rw [if_pos hc]
        have hW : ∀ D, Wr1 d s l s.half s.log (chsB l) (fun lg => { s with t := doL s.t l, log := lg }) D := fun D =>
          ⟨fun e => by rw [hap D, hw D]; simp only; rw [if_pos e], fun e => by rw [hap D, hw D, e]; simp, fun e => by rw [hap D, hw D]; simp only; rw [if_neg (by rw [e]; decide)]; exact ⟨rfl, e⟩⟩
        refine h.key hA hK hhalf h.ps.on h.ps.next (hW d) (hW _) fun d' ok' hlen hhn hoth tt hms => ?_
        rcases h.ps.told with ⟨t1, t2, t3, t4, t5, t6⟩ | ⟨t1, t2, ⟨r, rest, t0, t3, t4, t5⟩, t6⟩
        · exact absurd t4 hc.1
        · have oth := half_same (d := d) (d' := d') hhn (hoth (1 - s.half) (by omega) (by omega))
          have hH : openM (bl d' s.half) s.log.from_ s.log.n = halfM d' s.half := by
            rw [halfM_eq, hhn, h.ps.on.from_, h.ps.on.n_]
            rfl
          have hHd : openM (bl d s.half) s.log.from_ s.log.n = s.log := by
            rw [h.ps.on.from_, h.ps.on.n_]
            exact t1
          have hfew := (h.ps.half_few s.half hhalf).few
          rw [t1, t3, List.length_cons] at hfew
          have same : (halfM d' s.half).l = s.log.l ∧ (halfM d' s.half).first = s.log.first → ∃ s1, PS (restartM d') s1 (K + hn d + 256) ∧ (s1.t = s.t ∨ s1.t = doL s.t l) := fun ⟨e1, e2⟩ =>
            ⟨_, mkPS2 (d := restartM d') (i := s.half) (t := s.t) (restartM_ok ok') rfl (by show (-1 : Int) < 0; omega) (hfewd d' hlen) (hhnd d' hhn) hhalf (by omega) hms ⟨r, rest, t0, by show (halfM d' s.half).l = _; rw [e1]; exact t3, t4, t5⟩ (by show (halfM d' s.half).first ≠ 0; rw [e2]; exact t2) (by show (allM (halfM d' (1 - s.half))).isSome = true → (halfM d' (1 - s.half)).first < (halfM d' s.half).first; rw [oth, e2]; exact t6) h.ps.may h.ps.srt, .inl rfl⟩
          rcases tt.way with w | w | w
          · rw [hH, hHd] at w
            exact same w
          · rw [hH] at w
            exact same w
          · rw [hH] at w
            have hfst : (addOk s.log (chsB l)).first = s.log.first := by unfold addOk; simp only; rw [if_neg (by omega)]
            have hal' : (addOk s.log (chsB l)).l = r :: (rest ++ [chsB l]) := by unfold addOk; simp only; rw [t3]; rfl
            exact ⟨_, mkPS2 (d := restartM d') (i := s.half) (t := doL s.t l) (restartM_ok ok') rfl (by show (-1 : Int) < 0; omega) (hfewd d' hlen) (hhnd d' hhn) hhalf (by omega) hms ⟨r, rest ++ [chsB l], t0, by show (halfM d' s.half).l = _; rw [w]; exact hal', t4, by rw [upM_app, t5]; simp only; simp only [upM, rcM_back hma hl]⟩ (by show (halfM d' s.half).first ≠ 0; rw [w, hfst]; exact t2) (by show (allM (halfM d' (1 - s.half))).isSome = true → (halfM d' (1 - s.half)).first < (halfM d' s.half).first; rw [oth, w, hfst]; exact t6) hmn hsn, .inr rfl⟩
      · have hw : ∀ D, writeC D s l = turnC D s l := fun D => by unfold writeC; rw [if_neg hc]
        have ho : 1 - s.half ≤ 1 := by omega
        have hob := h.ps.begin_ (1 - s.half) ho (by omega) s.log.next
        have hnx := h.ps.begin_next (1 - s.half) ho (by omega) h.ps.next
        obtain ⟨M, hM⟩ : ∃ M, M = beginM (halfM d (1 - s.half)) (((1 - s.half) * hn d : Nat) : Int) ((hn d : Nat) : Int) s.log.next := ⟨_, rfl⟩
        have hob' : OnD (restartM d) M ((1 - s.half) * hn d) (hn d) := by rw [hM]; exact hob
        have hnx' : s.log.next ≤ M.next ∧ M.next ≤ K := by rw [hM]; exact ⟨hnx.1, hnx.2.1⟩
        have hM0 : M.have_ = 0 ∧ M.l = [] ∧ M.first = 0 := by rw [hM]; exact ⟨rfl, rfl, rfl⟩
        have htu : ∀ D : DM, D.down = false → halfM D (1 - s.half) = halfM d (1 - s.half) → hn D = hn d → turnC D s l = if (addM D M (allB (doL s.t l))).2.2 = 0 then ((addM D M (allB (doL s.t l))).1, { s with half := 1 - s.half, log := (addM D M (allB (doL s.t l))).2.1, turns := s.turns + 1 }, 0) else ((addM D M (allB (doL s.t l))).1, s, (addM D M (allB (doL s.t l))).2.2) := fun D e1 e2 e3 => by
          unfold turnC
          rw [e1, if_neg (by decide), e2, e3, ← hM]
        have hW : ∀ D : DM, D.down = false → halfM D (1 - s.half) = halfM d (1 - s.half) → hn D = hn d → Wr1 d s l (1 - s.half) M (allB (doL s.t l)) (fun lg => { s with t := doL s.t l, half := 1 - s.half, log := lg, turns := s.turns + 1 }) D := fun D e1 e2 e3 =>
          ⟨fun e => by rw [hap D, hw D, htu D e1 e2 e3, if_pos e]; simp, fun e => by rw [hap D, hw D, htu D e1 e2 e3, e]; simp, fun e => by rw [hap D, hw D, htu D e1 e2 e3, if_neg (c := (addM D M (allB (doL s.t l))).2.2 = 0) (by rw [e]; decide)]; simp [e]⟩
        refine h.key hA hK ho hob' hnx'.2 (hW d h.up rfl rfl) (hW _ rfl rfl rfl) fun d' ok' hlen hhn hoth tt hms => ?_
        have oth := half_same (d := d) (d' := d') hhn (hoth s.half hhalf (by omega))
        have hH : openM (bl d' (1 - s.half)) M.from_ M.n = halfM d' (1 - s.half) := by rw [halfM_eq, hhn, hM]; rfl
        have hHd : openM (bl d (1 - s.half)) M.from_ M.n = halfM d (1 - s.half) := by rw [hM]; rfl
        have hp := hob'.pos
        have hnew : halfM d' (1 - s.half) = addOk M (allB (doL s.t l)) → ((allM (halfM d' s.half)).isSome = true → (halfM d' s.half).first < M.next) → ∃ s1, PS (restartM d') s1 (K + hn d + 256) ∧ (s1.t = s.t ∨ s1.t = doL s.t l) := fun w hlt => by
          have hfst : (addOk M (allB (doL s.t l))).first = M.next := by unfold addOk; simp only; rw [if_pos hM0.1]
          have hal' : (addOk M (allB (doL s.t l))).l = [allB (doL s.t l)] := by unfold addOk; simp only; rw [hM0.2.1]; rfl
          exact ⟨_, mkPS2 (d := restartM d') (i := 1 - s.half) (t := doL s.t l) (restartM_ok ok') rfl (by show (-1 : Int) < 0; omega) (hfewd d' hlen) (hhnd d' hhn) ho (by omega) hms ⟨allB (doL s.t l), [], doL s.t l, by show (halfM d' (1 - s.half)).l = _; rw [w]; exact hal', raM_back hmn hsn hdl, rfl⟩ (by show (halfM d' (1 - s.half)).first ≠ 0; rw [w, hfst]; omega) (by show (allM (halfM d' (1 - (1 - s.half)))).isSome = true → (halfM d' (1 - (1 - s.half))).first < (halfM d' (1 - s.half)).first; rw [h11, w, hfst]; exact hlt) hmn hsn, .inr rfl⟩
        rcases h.ps.told with ⟨t1, t2, t3, t4, t5, t6⟩ | ⟨t1, t2, ⟨r, rest, t0, t3, t4, t5⟩, t6⟩
        · have t5' : allM (halfM d 0) = none := t5
          have t6' : allM (halfM d 1) = none := t6
          have e1 : 1 - s.half = 1 := by omega
          rw [e1] at hH hHd tt hnew
          rw [t3] at oth hnew
          have none_ : allM (halfM d' 1) = none → ∃ s1, PS (restartM d') s1 (K + hn d + 256) ∧ (s1.t = s.t ∨ s1.t = doL s.t l) := fun e =>
            ⟨_, mkPS1 (d := restartM d') (restartM_ok ok') rfl (by show (-1 : Int) < 0; omega) (hfewd d' hlen) (hhnd d' hhn) (by omega) hms (by show allM (halfM d' 0) = none; rw [oth]; exact t5') e, .inl t2.symm⟩
          rcases tt.way with w | w | w
          · rw [hH, hHd] at w
            exact none_ (by rw [allM_congr w.1]; exact t6')
          · rw [hH] at w
            exact none_ (by unfold allM; rw [w.1, hM0.2.1])
          · rw [hH] at w
            exact hnew w (by rw [oth, t5']; intro h; cases h)
        · have t1' : halfM d s.half = s.log := t1
          have old : ((allM (halfM d' (1 - s.half))).isSome = true → (halfM d' (1 - s.half)).first < s.log.first) → ∃ s1, PS (restartM d') s1 (K + hn d + 256) ∧ (s1.t = s.t ∨ s1.t = doL s.t l) := fun e =>
            ⟨_, mkPS2 (d := restartM d') (i := s.half) (t := s.t) (restartM_ok ok') rfl (by show (-1 : Int) < 0; omega) (hfewd d' hlen) (hhnd d' hhn) hhalf (by omega) hms ⟨r, rest, t0, by show (halfM d' s.half).l = _; rw [oth, t1']; exact t3, t4, t5⟩ (by show (halfM d' s.half).first ≠ 0; rw [oth, t1']; exact t2) (by show (allM (halfM d' (1 - s.half))).isSome = true → (halfM d' (1 - s.half)).first < (halfM d' s.half).first; rw [oth, t1']; exact e) h.ps.may h.ps.srt, .inl rfl⟩
          rcases tt.way with w | w | w
          · rw [hH, hHd] at w
            exact old (by rw [allM_congr w.1, w.2]; exact t6)
          · rw [hH] at w
            exact old (by unfold allM; rw [w.1, hM0.2.1]; intro h; cases h)
          · rw [hH] at w
            refine hnew w (fun _ => ?_)
            rw [oth]
            have h1 := half_first d s.half
            have h2 : mostL (bl d s.half) ≤ s.log.next - 1 := mostL_le.2 fun b hb => by have := h.ps.on.fit.ends b hb; omega
            have h3 := h.ps.on.pos
            omega
  · have hm' : l.all mayC = false := by simpa using hm
    rw [hm', if_neg (by simp)] at hrf
    have ha : applyC d s l = (d, s, 1) := by unfold applyC; rw [if_pos (.inl (by rw [hrf]; simp)), hrf]
    exact ⟨by rw [ha]; exact .inl rfl, by rw [ha]; exact fun _ => ⟨rfl, rfl⟩, by rw [ha]; exact fun h => absurd h (by simp), by rw [ha]; exact fun h => absurd h (by simp), by rw [ha]⟩
end Go.Proofs.YtcgnaomffioldaaGreat

/-! Cells: a store on a disk of a call's own that may stop. -/
namespace Go.Proofs.YtcgnaomffioldaaGreat
open Go.RowKit Codec

/-- A disk that is new, opened. -/
theorem PQ.new (n : Nat) (h2 : 2 ≤ n) (hn6 : n ≤ 65536) : ∃ s, openC (newM (n : Int)).1 = (s, 0) ∧ PQ (newM (n : Int)).1 s 2 ∧ s.t = [] ∧ s.turns = 0 := by
  obtain ⟨s, h1, h3, h4, h5, _⟩ := PS.new n h2 hn6
  have hd := newM_at' n (by omega) hn6
  have hok : (newM (n : Int)).1.Ok := newM_ok (n : Int)
  refine ⟨s, h1, ⟨h3.congr rfl (restartM_ok hok) rfl (by show (-1 : Int) < 0; omega), hok, by rw [hd], fun i hi => ?_⟩, h4, h5⟩
  unfold bl
  rw [hd]
  exact zero_lo n _ _
/-- Opened, where it says the same. -/
theorem PQ.open_ {d : DM} {s : SM} {K : Nat} (h : PQ d s K) (hK : K < 18446744073709551615) : ∃ s', openC d = (s', 0) ∧ PQ d s' K ∧ s'.t = s.t ∧ s'.turns = 0 := by
  obtain ⟨s', h1, h2, h3, h4, _⟩ := h.ps.open_ hK
  exact ⟨s', by rw [← openC_calm h.up]; exact h1, ⟨h2, h.ok, h.up, h.lo⟩, h3, h4⟩
section
variable {w0 W : World} {m g p : Nat} {d : DM} {s : SM} {K : Nat} {T U : Nat → Prop}
theorem Dsk.qopen (h : Dsk w0 m W g d) (hps : PQ d s K) (hK : K < 18446744073709551615) :
    Calls Tryz.prog 8 #[.pointer (some ⟨g, 0, none⟩)] W fun e w' => ∃ p s', e = .returned (.tuple #[.pointer (some ⟨p, 0, none⟩), .int .i64 0]) ∧ Cs w' (W.heap.size ≤ ·) p g s' ∧ Dsk w0 m w' g d ∧ Below W.heap.size W w' ∧ PQ d s' K ∧ s'.t = s.t ∧ s'.turns = 0 := by
  obtain ⟨s', h3, h4, h5, h6⟩ := hps.open_ hK
  refine (copen_any h.dk).mono ?_
  rintro e w' ⟨h1, h2⟩
  rw [h3, if_pos rfl] at h1
  obtain ⟨p, rfl, h8⟩ := h1
  exact ⟨p, s', rfl, h8, h.below h2, h2, h4, h5, h6⟩
theorem Dsk.qapply (h : Dsk w0 m W g d) (hc : Cs W T p g s) (hT : ∀ k, T k → m ≤ k) (hps : PQ d s K) (hK : K < 18446744073709551615) (ht : s.turns ≤ 1000000000) {A : Option Addr} {n c : Nat} {l : List Ch} (hl : Chs W U A n c l) (hU : ∀ k, U k → ¬ T k ∧ (k < w0.heap.size ∨ m ≤ k)) (hb : wtT s.t + wtC l ≤ 800000) :
    Calls Tryz.prog 11 #[.pointer (some ⟨p, 0, none⟩), .slice A n c] W fun e w' => e = .returned (.int .i64 (applyC d s l).2.2) ∧ Dsk w0 m w' g (applyC d s l).1 ∧ Cs w' (fun k => T k ∨ W.heap.size ≤ k) p g (applyC d s l).2.1 ∧ Turned (fun k => (w0.heap.size ≤ k ∧ k < m) ∨ T k) W w' := by
  have hle := h.le
  refine (capply_any hc h.dk (fun k _ h1 h2 => by have := hT k h2; omega) (hps.ps.sok (by omega) ht) hps.ps.hn1 hl (fun k _ hk => ?_) hb).mono ?_
  · have := hU k hk
    exact ⟨fun h1 => by omega, this.1⟩
  · rintro _ w' ⟨rfl, h2, h3, h4⟩
    refine ⟨rfl, ⟨h2, h.bel.trans ((h4.mono fun k _ hk => ?_).below h.bel.size), Nat.le_trans h.top h4.size⟩, h3, h4⟩
    rcases hk with hk | hk
    · exact hk.1
    · have := hT k hk; omega
end
end Go.Proofs.YtcgnaomffioldaaGreat

/-! Cells: the model's changes in memory. -/
namespace Go.Proofs.YtcgnaomffioldaaGreat
open Go.RowKit Codec

def cmV (x : Ch) : Array Value := #[.string (st x.k), .string (st x.v), .bool x.g]
def cmCells (L : List Ch) : List Value := (L.map fun y => (cmV y).toList).flatten
theorem cmCells_len (L : List Ch) : (cmCells L).length = L.length * 3 := by
  induction L with
  | nil => rfl
  | cons y L ih =>
    unfold cmCells at ih ⊢
    rw [List.map_cons, List.flatten_cons, List.length_append, ih, List.length_cons]
    simp [cmV]
    omega
theorem cmCells_app (L M : List Ch) : cmCells (L ++ M) = cmCells L ++ cmCells M := by simp [cmCells]
theorem cmCells_at : ∀ (L : List Ch) (i : Nat) (y : Ch), L[i]? = some y → ∀ (j : Nat) (v : Value), (cmV y)[j]? = some v → (cmCells L)[i * 3 + j]? = some v
  | [], i, y, h, _, _, _ => by simp at h
  | z :: L, 0, y, h, j, v, hv => by
    simp at h
    subst h
    have hj : j < 3 := by
      have := (Array.getElem?_eq_some_iff.1 hv).1
      simpa [cmV] using this
    unfold cmCells
    rw [List.map_cons, List.flatten_cons, Nat.zero_mul, Nat.zero_add, List.getElem?_append_left (by simp [cmV]; exact hj)]
    simpa using hv
  | z :: L, i + 1, y, h, j, v, hv => by
    have h' : L[i]? = some y := by simpa using h
    have ih := cmCells_at L i y h' j v hv
    unfold cmCells at ih ⊢
    rw [List.map_cons, List.flatten_cons, List.getElem?_append_right (by simp [cmV]; omega), ← ih]
    congr 1
    simp [cmV]
    omega
theorem cmCells_one (L : List Ch) : ∀ u ∈ cmCells L, u.oneCell' = true := by
  intro u hu
  unfold cmCells at hu
  obtain ⟨l, hl, hu⟩ := List.mem_flatten.1 hu
  obtain ⟨y, _, rfl⟩ := List.mem_map.1 hl
  simp [cmV] at hu
  rcases hu with rfl | rfl | rfl <;> rfl
/-- THE MODEL'S CHANGES IN MEMORY. -/
structure Cms (w : World) (S : Nat → Prop) (A : Option Addr) (n c : Nat) (l : List Ch) : Prop where
  len : l.length = n
  cap : n ≤ c
  max : c ≤ maxLen
  row : 0 < n → ∃ b off, A = some ⟨b, off, none⟩ ∧ S b ∧ b < w.heap.size ∧ ∀ i x, l[i]? = some x → ∀ (j : Nat) (v : Value), (cmV x)[j]? = some v → w.cell? ⟨b, off + i * 3 + j, none⟩ = some v
variable {w w' : World} {S T : Nat → Prop} {A : Option Addr} {n c : Nat} {l : List Ch}
theorem Cms.turned (h : Cms w S A n c l) (ht : Turned T w w') (hd : ∀ k, k < w.heap.size → S k → ¬ T k) : Cms w' S A n c l :=
  ⟨h.len, h.cap, h.max, fun h0 => by
    obtain ⟨b, off, h1, h2, h3, h4⟩ := h.row h0
    exact ⟨b, off, h1, h2, Nat.lt_of_lt_of_le h3 ht.size, fun i x hx j v hv => (cell_turned ht h3 (hd b h3 h2) _).trans (h4 i x hx j v hv)⟩⟩
theorem Cms.below (h : Cms w S A n c l) (hb : Below w.heap.size w w') : Cms w' S A n c l :=
  h.turned (T := fun _ => False) (Turned.of_below hb) fun _ _ _ h => h
theorem Cms.mono (h : Cms w S A n c l) (hT : ∀ k, k < w.heap.size → S k → T k) : Cms w T A n c l :=
  ⟨h.len, h.cap, h.max, fun h0 => by
    obtain ⟨b, off, h1, h2, h3, h4⟩ := h.row h0
    exact ⟨b, off, h1, hT b h3 h2, h3, h4⟩⟩
theorem Cms.nil (w : World) (S : Nat → Prop) (A : Option Addr) (c : Nat) (hc : c ≤ maxLen) : Cms w S A 0 c [] := ⟨rfl, Nat.zero_le _, hc, fun h => absurd h (by omega)⟩
theorem Cms.at_ (h : Cms w S A n c l) {i : Nat} (hi : i < n) : ∃ b off x, A = some ⟨b, off, none⟩ ∧ S b ∧ b < w.heap.size ∧ l[i]? = some x ∧ w.cell? ⟨b, off + i * 3, none⟩ = some (.string (st x.k)) ∧ w.cell? ⟨b, off + i * 3 + 1, none⟩ = some (.string (st x.v)) ∧ w.cell? ⟨b, off + i * 3 + 2, none⟩ = some (.bool x.g) := by
  obtain ⟨b, off, h1, h2, h3, h4⟩ := h.row (by omega)
  have hx : l[i]? = some (l[i]'(by have := h.len; omega)) := List.getElem?_eq_getElem _
  exact ⟨b, off, _, h1, h2, h3, hx, h4 i _ hx 0 _ rfl, h4 i _ hx 1 _ rfl, h4 i _ hx 2 _ rfl⟩
/-- A row that a call has made. -/
theorem own_cms {B : Nat} {v : Value} (h : w.ownsRow B 97 3 v l.length (cmCells l)) : ∃ A c, v = .slice A l.length c ∧ Cms w (B ≤ ·) A l.length c l := by
  obtain ⟨e1, e2⟩ := h
  rcases e2 with ⟨rfl, e2⟩ | ⟨g, cap, cur, rfl, e3, e4, e5, e6, e7, e8⟩
  · have hl : l = [] := List.eq_nil_of_length_eq_zero e2
    subst hl
    exact ⟨none, 0, rfl, Cms.nil _ _ _ _ (Nat.zero_le _)⟩
  · refine ⟨_, _, rfl, rfl, e5, e6, fun h0 => ⟨g, 0, rfl, e3, lt_of_cells e4, fun i x hx j u hu => ?_⟩⟩
    have hc := cmCells_at l i x hx j u hu
    rw [← e8] at hc
    rw [Nat.zero_add, cell_of_cells e4]
    have hlt := (List.getElem?_eq_some_iff.1 hc).1
    rw [List.length_take] at hlt
    rw [List.getElem?_take_of_lt (by omega)] at hc
    simpa using hc
theorem cm_info3 : (Tryz.prog.info? 97).map (fun i => (i.zero, i.size, i.bytes)) = some (some (.agg #[.string ⟨#[]⟩, .string ⟨#[]⟩, .bool false]), 3, 40) := by kernel_rfl
theorem zero_cm : ∀ W, (zeroValue 97).run Tryz.prog W = .ok (.agg #[.string ⟨#[]⟩, .string ⟨#[]⟩, .bool false]) W := fun W => by kernel_rfl
theorem cmV_one (x : Ch) : (cmV x).all (·.oneCell') = true := by simp [cmV, Value.oneCell']
/-- Some are laid behind such a row. -/
theorem own_cms_app {B : Nat} {v : Value} (h : w.ownsRow B 97 3 v l.length (cmCells l)) (hB : B ≤ w.heap.size) {n2 c2 : Nat} {a : Addr} {m : List Ch} (hm : m.length = n2) (hrow : ∀ (j : Nat) (u : Value), (cmCells m)[j]? = some u → w.cell? (a.add j) = some u) (hl : l.length + n2 ≤ 1000000) (ty : TypeId) :
    ∃ A' c' W', (Builtin.append_ #[36, 36] ty #[v, .slice (some a) n2 c2]).run Tryz.prog w = .ok (.slice A' (l ++ m).length c') W' ∧ W'.ownsRow B 97 3 (.slice A' (l ++ m).length c') (l ++ m).length (cmCells (l ++ m)) ∧ Below B w W' := by
  obtain ⟨i0, hi, hz0, hz1, hz2⟩ := info_parts cm_info3
  obtain ⟨v', W', hr, g1, g2, _, g4⟩ := run_append_own_at (P := Tryz.prog) w B 36 ty 97 i0 (.agg #[.string ⟨#[]⟩, .string ⟨#[]⟩, .bool false]) 3 40 Tryz.underlying36 hi hz0 hz1 hz2 rfl (by decide) v l.length (cmCells l) h a n2 c2 (cmCells m) (by rw [cmCells_len, hm])
    hrow (cmCells_one m) (by unfold maxLen; omega) (by omega) hB
  have hb : Below B w W' := (Below.refl B w).grown g2 hB fun g hg => (h.lt g hg).1
  rw [← cmCells_app] at g1
  have hlen : l.length + n2 = (l ++ m).length := by rw [List.length_append, hm]
  rw [hlen] at g1
  obtain ⟨A', c', rfl, _⟩ := own_cms g1
  exact ⟨A', c', W', hr, g1, hb⟩
end Go.Proofs.YtcgnaomffioldaaGreat
