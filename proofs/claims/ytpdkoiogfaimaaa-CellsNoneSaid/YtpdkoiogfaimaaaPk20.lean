/-
  Cells, pure: what was written is read again.
  Cells, pure: a store and its disk say the same.
  A log on a disk of a call's own.
  Cells: a store on a disk of a call's own.
  The cells of old rows stay, and the rows ahead of B whole: 'Cel B'. ('[]byte("a")' marks a row that it has made: its cells stay.)
  The laws' example: a name that is kept, and there again.
  The law of drawn regions (Grow) where the last two operations stand behind all others: a call, and what keeps its result.
-/
import Derived.Test.YtpdkoiogfaimaaaPk19
import Derived.Test.YtpdkoiogfaimaaaPk11
import Derived.Test.YtpdkoiogfaimaaaPk02
import Derived.Test.YtpdkoiogfaimaaaPk12
import Derived.Test.YtpdkoiogfaimaaaPk10
/-! Cells, pure: what was written is read again. -/
namespace Go.Proofs.Ytpdkoiogfaimaaa
open Go.RowKit Codec

theorem ui_back (x : Nat) (R : List UInt8) (hx : x < 18446744073709551616) : uiX (put x ++ R) 0 = x ∧ uiL (put x ++ R) 0 = R ∧ uiE (put x ++ R) 0 = 0 := by
  obtain ⟨h1, h2, h3⟩ := uint_back x R hx
  exact ⟨by unfold uiX; rw [if_pos rfl, h1], by unfold uiL; rw [if_pos rfl, h2], by unfold uiE; rw [if_pos rfl, h3]; rfl⟩
theorem row_back (b R : List UInt8) (m : Nat) (h : b.length ≤ m) (hm : m ≤ 1000000) : byE (rowB b ++ R) 0 (m : Int) = 0 ∧ byL (rowB b ++ R) 0 (m : Int) = R ∧ byB (rowB b ++ R) 0 (m : Int) = b := by
  have e : rowB b ++ R = put b.length ++ (b ++ R) := by unfold rowB; rw [List.append_assoc]
  obtain ⟨e1, e2, e3⟩ := ui_back b.length (b ++ R) (by omega)
  rw [e]
  obtain ⟨f1, f2, f3⟩ := fixed_back b R b.length rfl
  unfold byE byL byB
  rw [e1, e2, e3]
  have hn : ¬ ((m : Int) < 0 ∨ (m : Int) < (b.length : Int)) := by omega
  rw [if_neg (by simp), if_neg hn, if_neg (by simp), if_neg hn, if_neg (by simp), if_neg hn]
  exact ⟨f1, f2, f3⟩
theorem rc1_back (c : Ch) (R : List UInt8) (h : mayC c = true) : rc1 (chgB c ++ R) 0 = (c, R, 0) := by
  obtain ⟨_, hk, hv, hg⟩ := may_small h
  obtain ⟨k, v, g⟩ := c
  simp only at hk hv hg
  cases g
  · have e : chgB ⟨k, v, false⟩ ++ R = rowB k ++ (0 :: (rowB v ++ R)) := by simp [chgB]
    rw [e]
    obtain ⟨e1, e2, e3⟩ := row_back k (0 :: (rowB v ++ R)) 64 hk (by omega)
    obtain ⟨f1, f2, f3⟩ := bool_back 0 (rowB v ++ R) (by decide)
    obtain ⟨g1, g2, g3⟩ := row_back v R 4096 hv (by omega)
    have e1' : byE (rowB k ++ 0 :: (rowB v ++ R)) 0 64 = 0 := e1
    have e2' : byL (rowB k ++ 0 :: (rowB v ++ R)) 0 64 = 0 :: (rowB v ++ R) := e2
    have e3' : byB (rowB k ++ 0 :: (rowB v ++ R)) 0 64 = k := e3
    unfold rc1
    rw [e1', e2', e3', f1, f2, f3, if_neg (by decide)]
    have g1' : byE (rowB v ++ R) 0 4096 = 0 := g1
    have g2' : byL (rowB v ++ R) 0 4096 = R := g2
    have g3' : byB (rowB v ++ R) 0 4096 = v := g3
    rw [g1', g2', g3']
  · obtain rfl := hg rfl
    have e : chgB ⟨k, [], true⟩ ++ R = rowB k ++ (1 :: R) := by simp [chgB]
    rw [e]
    obtain ⟨e1, e2, e3⟩ := row_back k (1 :: R) 64 hk (by omega)
    obtain ⟨f1, f2, f3⟩ := bool_back 1 R (by decide)
    have e1' : byE (rowB k ++ 1 :: R) 0 64 = 0 := e1
    have e2' : byL (rowB k ++ 1 :: R) 0 64 = 1 :: R := e2
    have e3' : byB (rowB k ++ 1 :: R) 0 64 = k := e3
    unfold rc1
    rw [e1', e2', e3', f1, f2, f3, if_pos (by decide)]
theorem rcGo_back : ∀ (l acc : List Ch) (R : List UInt8), (∀ x ∈ l, mayC x = true) → rcGo l.length acc (ofC l ++ R) 0 = some (acc ++ l, R, 0)
  | [], acc, R, _ => by simp [rcGo, ofC]
  | c :: l, acc, R, h => by
    have hc := h c (by simp)
    have e : ofC (c :: l) ++ R = chgB c ++ (ofC l ++ R) := by simp [ofC]
    rw [e, List.length_cons, rcGo, rc1_back c _ hc, if_neg (by simp [hc]), rcGo_back l _ R fun x hx => h x (by simp [hx])]
    simp
theorem rcM_back {l : List Ch} (h : ∀ x ∈ l, mayC x = true) (hl : l.length < 18446744073709551616) : rcM (chsB l) = some l := by
  have e : chsB l = put 2 ++ (put l.length ++ (ofC l ++ [])) := by simp [chsB]
  obtain ⟨a1, a2, a3⟩ := ui_back 2 (put l.length ++ (ofC l ++ [])) (by omega)
  obtain ⟨b1, b2, b3⟩ := ui_back l.length (ofC l ++ []) hl
  unfold rcM
  rw [e, a1, a2, a3, b1, b2, b3, if_neg (by decide), rcGo_back l [] [] h, rcEnd]
  rfl
/-- Names with bytes that may be. -/
def TMay (t : Tb) : Prop := ∀ p ∈ t, p.1 ≠ [] ∧ p.1.length ≤ 64 ∧ p.2.length ≤ 4096
theorem TMay.nil : TMay [] := fun _ h => by cases h
theorem TMay.chg {t : Tb} (h : TMay t) {c : Ch} (hc : mayC c = true) : TMay (doC t c) := by
  obtain ⟨h1, h2, h3, _⟩ := may_small hc
  intro p hp
  unfold doC at hp
  rcases List.mem_append.1 hp with hp | hp
  · rcases List.mem_append.1 hp with hp | hp
    · exact h p (List.mem_filter.1 hp).1
    · split at hp
      · cases hp
      · simp only [List.mem_singleton] at hp
        rw [hp]
        exact ⟨fun e => by have e1 : c.k = [] := e; rw [e1] at h1; simp at h1, h2, h3⟩
  · exact h p (List.mem_filter.1 hp).1
theorem TMay.chs {t : Tb} (h : TMay t) {l : List Ch} (hl : ∀ x ∈ l, mayC x = true) : TMay (doL t l) := by
  unfold doL
  induction l generalizing t with
  | nil => exact h
  | cons c l ih => exact ih (h.chg (hl c (by simp))) fun x hx => hl x (by simp [hx])
theorem raGo_back : ∀ (t acc : Tb) (last R : List UInt8), TMay t → Srt t → (∀ p ∈ t, last < p.1) → raGo t.length acc last (ofT t ++ R) 0 = some (acc ++ t, R, 0)
  | [], acc, last, R, _, _, _ => by simp [raGo, ofT]
  | p :: t, acc, last, R, hm, hs, hl => by
    obtain ⟨_, hk, hv⟩ := hm p (by simp)
    obtain ⟨hs1, hs2⟩ := List.pairwise_cons.1 hs
    have e : ofT (p :: t) ++ R = rowB p.1 ++ (rowB p.2 ++ (ofT t ++ R)) := by simp [ofT]
    obtain ⟨e1, e2, e3⟩ := row_back p.1 (rowB p.2 ++ (ofT t ++ R)) 64 hk (by omega)
    obtain ⟨g1, g2, g3⟩ := row_back p.2 (ofT t ++ R) 4096 hv (by omega)
    have e1' : byE (rowB p.1 ++ (rowB p.2 ++ (ofT t ++ R))) 0 64 = 0 := e1
    have e2' : byL (rowB p.1 ++ (rowB p.2 ++ (ofT t ++ R))) 0 64 = rowB p.2 ++ (ofT t ++ R) := e2
    have e3' : byB (rowB p.1 ++ (rowB p.2 ++ (ofT t ++ R))) 0 64 = p.1 := e3
    have g1' : byE (rowB p.2 ++ (ofT t ++ R)) 0 4096 = 0 := g1
    have g2' : byL (rowB p.2 ++ (ofT t ++ R)) 0 4096 = ofT t ++ R := g2
    have g3' : byB (rowB p.2 ++ (ofT t ++ R)) 0 4096 = p.2 := g3
    rw [e, List.length_cons, raGo, e1', e2', e3', g1', g2', g3', if_neg (fun h => klt_irr last (Std.lt_of_lt_of_le (hl p (by simp)) h)), raGo_back t _ p.1 R (fun q hq => hm q (by simp [hq])) hs2 hs1]
    simp
theorem raM_back {t : Tb} (h : TMay t) (hs : Srt t) (hl : t.length < 18446744073709551616) : raM (allB t) = some t := by
  have e : allB t = put 1 ++ (put t.length ++ (ofT t ++ [])) := by simp [allB]
  obtain ⟨a1, a2, a3⟩ := ui_back 1 (put t.length ++ (ofT t ++ [])) (by omega)
  obtain ⟨b1, b2, b3⟩ := ui_back t.length (ofT t ++ []) hl
  have hne : ∀ p ∈ t, ([] : List UInt8) < p.1 := fun p hp => by
    have h1 := (h p hp).1
    cases hq : p.1 with
    | nil => exact absurd hq h1
    | cons a b => exact List.nil_lt_cons a b
  unfold raM
  rw [e, a1, a2, a3, b1, b2, b3, if_neg (by decide), raGo_back t [] [] [] h hs hne, raEnd]
  rfl
theorem upM_app : ∀ (bs : List (List UInt8)) (t : Tb) (b : List UInt8), upM t (bs ++ [b]) = match upM t bs with | none => none | some t' => upM t' [b]
  | [], t, b => rfl
  | x :: bs, t, b => by
    rw [List.cons_append, upM, upM]
    rcases rcM x with _ | l
    · rfl
    · exact upM_app bs (doL t l) b
end Go.Proofs.Ytpdkoiogfaimaaa

/-! Cells, pure: a store and its disk say the same. -/
namespace Go.Proofs.Ytpdkoiogfaimaaa
open Go.RowKit Codec

/-- A half's blocks. -/
def bl (d : DM) (i : Nat) : List (List UInt8) := blocksOf d.l ((i * hn d : Nat) : Int) ((hn d : Nat) : Int)
theorem halfM_eq (d : DM) (i : Nat) : halfM d i = openM (bl d i) ((i * hn d : Nat) : Int) ((hn d : Nat) : Int) := rfl
theorem hn_two {d : DM} {i : Nat} (hi : i ≤ 1) : i * hn d + hn d ≤ d.l.length := by
  have h : hn d = d.l.length / 2 := rfl
  rcases Nat.le_one_iff_eq_zero_or_eq_one.1 hi with rfl | rfl <;> omega
/-- What is written elsewhere leaves a row of blocks. -/
theorem blocksOf_far {l r : List (List UInt8)} {a f n : Nat} (hl : a + r.length ≤ l.length) (h : a + r.length ≤ f ∨ f + n ≤ a) : blocksOf (putL l a r) (f : Int) (n : Int) = blocksOf l (f : Int) (n : Int) := by
  apply List.ext_getElem?
  intro i
  rw [blocksOf_get, blocksOf_get]
  by_cases hi : i < n
  · rw [if_pos hi, if_pos hi, putL_get hl, if_neg (by omega)]
  · rw [if_neg hi, if_neg hi]
theorem addM_l {d : DM} {m : LM} {f n : Nat} (h : OnD d m f n) (hl : d.left < 0) (b : List UInt8) (hK : m.have_ + blocksN b.length ≤ n) (hx : m.next + blocksN b.length < 18446744073709551616) :
    (addM d m b).1.l = putL d.l (f + m.have_) (recL m.next b (blocksN b.length) (blocksN b.length)) := by
  have hf := h.len
  rw [addM_try h b hK hx]
  have hc := addGo_cases (l := d.l) (a := f + m.have_) (x := m.next) (K := blocksN b.length) (b := b) (by omega) (blocksN b.length) 0 d (by omega) h.up (by simp [recL, putL_nil])
  rcases hc with ⟨h1, h2, _⟩ | ⟨h1, _⟩
  · rw [if_pos h1]
    exact h2
  · omega
/-- A store and its disk say the same; the disk's numbers are below K. -/
structure PS (d : DM) (s : SM) (K : Nat) : Prop where
  on : OnD d s.log (s.half * hn d) (hn d)
  left : d.left < 0
  half : s.half ≤ 1
  hn1 : 1 ≤ hn d
  few : d.l.length ≤ 65536
  e : s.e = 0
  may : TMay s.t
  srt : Srt s.t
  told : (s.log.l = [] ∧ s.t = [] ∧ s.half = 0 ∧ s.log.first = 0 ∧ allM (halfM d 0) = none ∧ allM (halfM d 1) = none) ∨
    (halfM d s.half = s.log ∧ s.log.first ≠ 0 ∧ (∃ r rest t0, s.log.l = r :: rest ∧ raM r = some t0 ∧ upM t0 rest = some s.t) ∧ ((allM (halfM d (1 - s.half))).isSome = true → (halfM d (1 - s.half)).first < s.log.first))
  next : s.log.next ≤ K
  most : mostL (bl d (1 - s.half)) < K
section
variable {d : DM} {s : SM} {K : Nat}
theorem PS.most_own (h : PS d s K) : mostL (bl d s.half) < K := by
  have h1 := h.on.fit.ends
  have h2 := h.on.pos
  have h3 := h.next
  have : mostL (bl d s.half) ≤ s.log.next - 1 := mostL_le.2 fun b hb => by have := h1 b hb; omega
  omega
theorem PS.most_any (h : PS d s K) (i : Nat) (hi : i ≤ 1) : mostL (bl d i) < K := by
  have h1 := h.most_own
  have h2 := h.most
  have h3 := h.half
  rcases Nat.le_one_iff_eq_zero_or_eq_one.1 h3 with h4 | h4 <;> rcases Nat.le_one_iff_eq_zero_or_eq_one.1 hi with h5 | h5 <;> rw [h4] at h1 h2 <;> subst h5 <;> assumption
theorem bl_128 (h : PS d s K) (i : Nat) : ∀ c ∈ bl d i, c.length = 128 := blocksOf_128 h.on.ok _ _
theorem PS.half_next (h : PS d s K) (i : Nat) (hi : i ≤ 1) (hK : K < 18446744073709551616) : (halfM d i).next = mostL (bl d i) + 1 := by
  have := h.most_any i hi
  rw [halfM_eq]
  unfold openM
  simp only
  exact Nat.mod_eq_of_lt (by omega)
theorem PS.begin_ (h : PS d s K) (i : Nat) (hi : i ≤ 1) (hK : K < 18446744073709551615) (least : Nat) : OnD d (beginM (halfM d i) ((i * hn d : Nat) : Int) ((hn d : Nat) : Int) least) (i * hn d) (hn d) :=
  begin_on h.on.ok h.on.up (hn_two hi) (by have := h.most_any i hi; unfold bl at this; omega)
theorem PS.begin_next (h : PS d s K) (i : Nat) (hi : i ≤ 1) (hK : K < 18446744073709551615) {least : Nat} (hl : least ≤ K) : least ≤ (beginM (halfM d i) ((i * hn d : Nat) : Int) ((hn d : Nat) : Int) least).next ∧ (beginM (halfM d i) ((i * hn d : Nat) : Int) ((hn d : Nat) : Int) least).next ≤ K ∧ mostL (bl d i) < (beginM (halfM d i) ((i * hn d : Nat) : Int) ((hn d : Nat) : Int) least).next := by
  have h1 := h.half_next i hi (by omega)
  have h2 := h.most_any i hi
  unfold beginM
  simp only
  rw [h1]
  split <;> omega
/-- Opened anew it is the same. -/
theorem PS.open_ (h : PS d s K) (hK : K < 18446744073709551615) : ∃ s', openC d = (s', 0) ∧ PS d s' K ∧ s'.t = s.t ∧ s'.turns = 0 ∧ (s.log.l = [] → s'.log.l = []) := by
  have hu := openC_up h.hn1 h.on.up
  rcases h.told with ⟨h1, h2, h3, h4, h5, h6⟩ | ⟨h1, h2, ⟨r, rest, t0, h3, h4, h5⟩, h6⟩
  · have hat : cntM (allM (halfM d 0)).isSome (allM (halfM d 1)).isSome (halfM d 0).first (halfM d 1).first = -1 := by rw [h5, h6]; rfl
    rw [hat] at hu
    unfold openUp at hu
    rw [if_pos rfl] at hu
    have hn1 := h.half_next 1 (by omega) (by omega)
    have hm1 := h.most_any 1 (by omega)
    have hb := h.begin_next 0 (by omega) hK (least := (halfM d 1).next) (by omega)
    refine ⟨_, hu, ⟨h.begin_ 0 (by omega) hK _, h.left, Nat.zero_le _, h.hn1, h.few, rfl, TMay.nil, Srt.nil, .inl ⟨rfl, rfl, rfl, rfl, h5, h6⟩, hb.2.1, hm1⟩, h2.symm, rfl, fun _ => rfl⟩
  · have hal : allM (halfM d s.half) = some t0 := by rw [h1]; unfold allM; rw [h3]; exact h4
    rcases Nat.le_one_iff_eq_zero_or_eq_one.1 h.half with h7 | h7
    · rw [h7] at h1 h6 hal
      have hat : cntM (allM (halfM d 0)).isSome (allM (halfM d 1)).isSome (halfM d 0).first (halfM d 1).first = 0 := by
        rw [hal, h1]
        unfold cntM
        rcases hq : (allM (halfM d 1)).isSome
        · rfl
        · have := h6 hq
          have hn : ¬ s.log.first < (halfM d 1).first := by simp at this; omega
          simp [hn]
      rw [hat] at hu
      unfold openUp at hu
      rw [if_neg (by decide)] at hu
      simp only [show ((0:Int) = 1) = False from by simp, if_false] at hu
      rw [hal, h1, h3] at hu
      simp only [Option.getD_some, List.tail_cons] at hu
      rw [h5, upEnd] at hu
      have hs' : PS d ⟨s.t, 0, s.log, 0, 0⟩ K := ⟨by have := h.on; rw [h7] at this; exact this, h.left, Nat.zero_le _, h.hn1, h.few, rfl, h.may, h.srt, .inr ⟨h1, h2, ⟨r, rest, t0, h3, h4, h5⟩, h6⟩, h.next, by have := h.most; rw [h7] at this; exact this⟩
      exact ⟨_, hu, hs', rfl, rfl, id⟩
    · rw [h7] at h1 h6 hal
      have hat : cntM (allM (halfM d 0)).isSome (allM (halfM d 1)).isSome (halfM d 0).first (halfM d 1).first = 1 := by
        rw [hal, h1]
        unfold cntM
        rcases hq : (allM (halfM d 0)).isSome
        · rfl
        · have := h6 hq
          have hn : (halfM d 0).first < s.log.first := by simpa using this
          simp [hn]
      rw [hat] at hu
      unfold openUp at hu
      rw [if_neg (by decide)] at hu
      simp only [if_true] at hu
      rw [hal, h1, h3] at hu
      simp only [Option.getD_some, List.tail_cons] at hu
      rw [h5, upEnd] at hu
      have hs' : PS d ⟨s.t, 1, s.log, 0, 0⟩ K := ⟨by have := h.on; rw [h7] at this; exact this, h.left, Nat.le_refl _, h.hn1, h.few, rfl, h.may, h.srt, .inr ⟨h1, h2, ⟨r, rest, t0, h3, h4, h5⟩, h6⟩, h.next, by have := h.most; rw [h7] at this; exact this⟩
      exact ⟨_, hu, hs', rfl, rfl, id⟩
theorem hn_len {d d' : DM} (h : d'.l.length = d.l.length) : hn d' = hn d := by unfold hn; rw [h]
/-- A half's log has fewer records than blocks; its first number is below the next one. -/
theorem PS.half_few (h : PS d s K) (i : Nat) (hi : i ≤ 1) : (halfM d i).Ok := by
  have h2 := hn_two (d := d) hi
  have h3 := h.few
  have h4 := h.hn1
  rw [halfM_eq]
  exact openM_ok (by omega) h4 (by omega) h2
theorem half_first (d : DM) (i : Nat) : (halfM d i).first ≤ mostL (bl d i) := by
  have hs := scan_first (x := mostL (bl d i)) (bl d i) 0 ws0 (Nat.zero_le _) (Nat.zero_le _) fun b hb => (most_mem hb).1
  rw [halfM_eq]
  unfold openM
  exact hs
/-- The other half where one is written. -/
theorem bl_far (h : PS d s K) {i j : Nat} (hi : i ≤ 1) (hj : j ≤ 1) (hne : i ≠ j) {m : LM} (on : OnD d m (i * hn d) (hn d)) (b : List UInt8) (hKb : m.have_ + blocksN b.length ≤ hn d) (hx : m.next + blocksN b.length < 18446744073709551616) : bl (addM d m b).1 j = bl d j := by
  have hl := addM_l on h.left b hKb hx
  have hlen := addM_len d m b
  have h2i := hn_two (d := d) hi
  have h2j := hn_two (d := d) hj
  unfold bl
  rw [hn_len hlen, hl]
  refine blocksOf_far (by rw [recL_length]; omega) ?_
  rw [recL_length]
  rcases Nat.le_one_iff_eq_zero_or_eq_one.1 hi with rfl | rfl <;> rcases Nat.le_one_iff_eq_zero_or_eq_one.1 hj with rfl | rfl
  · exact absurd rfl hne
  · left; omega
  · right; omega
  · exact absurd rfl hne
/-- What Apply does with such a store. -/
structure ApR (d : DM) (s : SM) (l : List Ch) (K : Nat) : Prop where
  err : (applyC d s l).2.2 = 1 ∨ (applyC d s l).2.2 = 31 ∨ (applyC d s l).2.2 = 0
  no : (applyC d s l).2.2 ≠ 0 → (applyC d s l).1 = d ∧ (applyC d s l).2.1 = s
  one : (applyC d s l).2.2 = 1 ↔ l.all mayC = false
  yes : (applyC d s l).2.2 = 0 → PS (applyC d s l).1 (applyC d s l).2.1 (K + hn d) ∧ (applyC d s l).2.1.t = doL s.t l ∧ s.turns ≤ (applyC d s l).2.1.turns ∧ (applyC d s l).2.1.turns ≤ s.turns + 1 ∧ (l ≠ [] → s.log.l = [] → (applyC d s l).2.1.turns = s.turns + 1) ∧ (l ≠ [] → (applyC d s l).2.1.log.l ≠ [])
  len : (applyC d s l).1.l.length = d.l.length
  full : (applyC d s l).2.2 = 31 → hn d < blocksN (allB (doL s.t l)).length
theorem PS.more (h : PS d s K) {K' : Nat} (hK : K ≤ K') : PS d s K' := ⟨h.on, h.left, h.half, h.hn1, h.few, h.e, h.may, h.srt, h.told, Nat.le_trans h.next hK, Nat.lt_of_lt_of_le h.most hK⟩
theorem PS.apply_ (h : PS d s K) (l : List Ch) (hl : l.length < 18446744073709551616) (htl : s.t.length + l.length < 18446744073709551616) (hK : K + 65536 < 18446744073709551615) : ApR d s l K := by
  have hrf : refC s l = if l.all mayC then 0 else 1 := by unfold refC; rw [if_neg (by simp [h.e])]
  have hhn : hn d ≤ 65536 := by have h1 : hn d = d.l.length / 2 := rfl; have := h.few; omega
  by_cases hm : l.all mayC = true
  · rw [hm, if_pos rfl] at hrf
    have hma : ∀ x ∈ l, mayC x = true := fun x hx => List.all_eq_true.1 hm x hx
    by_cases hn0 : l = []
    · have ha : applyC d s l = (d, s, 0) := by unfold applyC; rw [if_pos (.inr hn0), hrf]
      subst hn0
      refine ⟨by rw [ha]; exact .inr (.inr rfl), by rw [ha]; exact fun h => absurd rfl h, by rw [ha]; simp, fun _ => ?_, by rw [ha], by rw [ha]; exact fun h => absurd h (by simp)⟩
      rw [ha]
      exact ⟨h.more (by omega), rfl, Nat.le_refl _, Nat.le_succ _, fun h => absurd rfl h, fun h => absurd rfl h⟩
    · have hcond : ¬ (refC s l ≠ 0 ∨ l = []) := by rw [hrf]; simp [hn0]
      have hmn : TMay (doL s.t l) := h.may.chs hma
      have hsn : Srt (doL s.t l) := h.srt.chs l
      -- what a turn does
      have hturn : (writeC d s l = turnC d s l) → ApR d s l K := fun hw => by
        have ho : 1 - s.half ≤ 1 := by omega
        have hob := h.begin_ (1 - s.half) ho (by omega) s.log.next
        have hnx := h.begin_next (1 - s.half) ho (by omega) h.next
        obtain ⟨M, hM⟩ : ∃ M, M = beginM (halfM d (1 - s.half)) (((1 - s.half) * hn d : Nat) : Int) ((hn d : Nat) : Int) s.log.next := ⟨_, rfl⟩
        rw [← hM] at hob hnx
        have hM0 : M.have_ = 0 ∧ M.l = [] := by rw [hM]; exact ⟨rfl, rfl⟩
        have htu : turnC d s l = if (addM d M (allB (doL s.t l))).2.2 = 0 then ((addM d M (allB (doL s.t l))).1, { s with half := 1 - s.half, log := (addM d M (allB (doL s.t l))).2.1, turns := s.turns + 1 }, 0) else ((addM d M (allB (doL s.t l))).1, s, (addM d M (allB (doL s.t l))).2.2) := by
          unfold turnC
          rw [h.on.up, if_neg (by decide), hM]
        by_cases hfit : blocksN (allB (doL s.t l)).length ≤ hn d
        · obtain ⟨g1, g2, g3, g4⟩ := addM_go hob h.left (allB (doL s.t l)) (by omega) (by omega)
          have hlen := addM_len d M (allB (doL s.t l))
          have hfar := bl_far h ho h.half (by omega) hob (allB (doL s.t l)) (by omega) (by omega)
          have hz : (addM d M (allB (doL s.t l))).2.2 = 0 := by rw [g1]
          have hz1 : (addM d M (allB (doL s.t l))).2.1 = addOk M (allB (doL s.t l)) := by rw [g1]
          rw [if_pos hz, hz1] at htu
          have ha : applyC d s l = ((addM d M (allB (doL s.t l))).1, { s with t := doL s.t l, half := 1 - s.half, log := addOk M (allB (doL s.t l)), turns := s.turns + 1 }, 0) := by
            unfold applyC
            rw [if_neg hcond, hw, htu, if_pos rfl]
          generalize (addM d M (allB (doL s.t l))).1 = d' at *
          have hh : hn d' = hn d := hn_len hlen
          have hfst : (addOk M (allB (doL s.t l))).first = M.next := by unfold addOk; simp only; rw [if_pos hM0.1]
          have hal' : (addOk M (allB (doL s.t l))).l = [allB (doL s.t l)] := by unfold addOk; simp only; rw [hM0.2]; rfl
          have h11 : 1 - (1 - s.half) = s.half := by have := h.half; omega
          refine ⟨by rw [ha]; exact .inr (.inr rfl), by rw [ha]; exact fun h => absurd rfl h, by rw [ha]; simp [hm], fun _ => ?_, by rw [ha]; exact hlen, by rw [ha]; exact fun h => absurd h (by simp)⟩
          rw [ha]
          refine ⟨⟨by simp only; rw [hh]; exact g3, g2, ho, by rw [hh]; exact h.hn1, by rw [hlen]; exact h.few, h.e, hmn, hsn, .inr ⟨?_, ?_, ⟨allB (doL s.t l), [], doL s.t l, hal', raM_back hmn hsn (by have := doL_len s.t h.srt l; omega), rfl⟩, ?_⟩, ?_, ?_⟩, rfl, by simp, by simp, fun _ _ => rfl, fun _ => by simp only; rw [hal']; simp⟩
          · simp only
            rw [halfM_eq]
            unfold bl
            rw [hh]
            exact g4
          · simp only
            rw [hfst]
            have := hob.pos
            omega
          · simp only
            rw [h11, hfst]
            intro _
            have hfe : halfM d' s.half = halfM d s.half := by rw [halfM_eq, halfM_eq, hfar, hh]
            rw [hfe]
            have h1 := half_first d s.half
            have h2 : mostL (bl d s.half) ≤ s.log.next - 1 := mostL_le.2 fun b hb => by have := h.on.fit.ends b hb; omega
            have h3 := h.on.pos
            omega
          · show (addOk M (allB (doL s.t l))).next ≤ K + hn d
            have hx : (addOk M (allB (doL s.t l))).next = M.next + blocksN (allB (doL s.t l)).length := rfl
            omega
          · simp only
            rw [h11, hfar]
            have := h.most_own
            omega
        · have hful := addM_full hob (allB (doL s.t l)) (by omega)
          rw [hful] at htu
          rw [if_neg (by simp)] at htu
          have ha : applyC d s l = (d, s, 31) := by
            unfold applyC
            rw [if_neg hcond, hw, htu, if_neg (show ¬ ((31:Int) = 0) by decide)]
            simp
          exact ⟨by rw [ha]; exact .inr (.inl rfl), by rw [ha]; exact fun _ => ⟨rfl, rfl⟩, by rw [ha]; simp [hm], by rw [ha]; exact fun h => absurd h (by simp), by rw [ha], fun _ => Nat.lt_of_not_le hfit⟩
      rcases h.told with ⟨t1, t2, t3, t4, t5, t6⟩ | ⟨t1, t2, ⟨r, rest, t0, t3, t4, t5⟩, t6⟩
      · exact hturn (by unfold writeC; rw [if_neg (fun hh => hh.1 t4)])
      · by_cases hroom : (blocksN (chsB l).length : Int) ≤ s.log.n - (s.log.have_ : Int)
        · have hlogn := h.on.n_
          have hKb : s.log.have_ + blocksN (chsB l).length ≤ hn d := by omega
          have hnk := h.next
          obtain ⟨g1, g2, g3, g4⟩ := addM_go h.on h.left (chsB l) hKb (by omega)
          have hlen := addM_len d s.log (chsB l)
          have ho : 1 - s.half ≤ 1 := by omega
          have hfar := bl_far h h.half ho (by have := h.half; omega) h.on (chsB l) hKb (by omega)
          have hw : writeC d s l = ((addM d s.log (chsB l)).1, { s with log := addOk s.log (chsB l) }, 0) := by
            unfold writeC
            rw [if_pos ⟨t2, hroom⟩, g1]
          have ha : applyC d s l = ((addM d s.log (chsB l)).1, { s with t := doL s.t l, log := addOk s.log (chsB l) }, 0) := by
            unfold applyC
            rw [if_neg hcond, hw, if_pos rfl]
          generalize (addM d s.log (chsB l)).1 = d' at *
          have hh : hn d' = hn d := hn_len hlen
          have hfew := (h.half_few s.half h.half).few
          rw [t1, t3, List.length_cons] at hfew
          have hfst : (addOk s.log (chsB l)).first = s.log.first := by unfold addOk; simp only; rw [if_neg (by omega)]
          have hal' : (addOk s.log (chsB l)).l = r :: (rest ++ [chsB l]) := by unfold addOk; simp only; rw [t3]; rfl
          refine ⟨by rw [ha]; exact .inr (.inr rfl), by rw [ha]; exact fun h => absurd rfl h, by rw [ha]; simp [hm], fun _ => ?_, by rw [ha]; exact hlen, by rw [ha]; exact fun h => absurd h (by simp)⟩
          rw [ha]
          refine ⟨⟨by simp only; rw [hh]; exact g3, g2, h.half, by rw [hh]; exact h.hn1, by rw [hlen]; exact h.few, h.e, hmn, hsn, .inr ⟨?_, ?_, ⟨r, rest ++ [chsB l], t0, hal', t4, ?_⟩, ?_⟩, ?_, ?_⟩, rfl, Nat.le_refl _, by simp, (fun _ h0 => by rw [t3] at h0; cases h0), fun _ => by simp only; rw [hal']; simp⟩
          · simp only
            rw [halfM_eq]
            unfold bl
            rw [hh]
            exact g4
          · simp only
            rw [hfst]
            exact t2
          · rw [upM_app, t5]
            simp only
            simp only [upM, rcM_back hma hl]
          · simp only
            rw [hfst]
            have hfe : halfM d' (1 - s.half) = halfM d (1 - s.half) := by rw [halfM_eq, halfM_eq, hfar, hh]
            rw [hfe]
            exact t6
          · show (addOk s.log (chsB l)).next ≤ K + hn d
            have hx : (addOk s.log (chsB l)).next = s.log.next + blocksN (chsB l).length := rfl
            omega
          · simp only
            rw [hfar]
            have := h.most
            omega
        · exact hturn (by unfold writeC; rw [if_neg (fun hh => hroom hh.2)])
  · have hm' : l.all mayC = false := by simpa using hm
    rw [hm', if_neg (by simp)] at hrf
    have ha : applyC d s l = (d, s, 1) := by unfold applyC; rw [if_pos (.inl (by rw [hrf]; simp)), hrf]
    exact ⟨by rw [ha]; exact .inl rfl, by rw [ha]; exact fun _ => ⟨rfl, rfl⟩, by rw [ha]; simp [hm'], by rw [ha]; exact fun h => absurd h (by simp), by rw [ha], by rw [ha]; exact fun h => absurd h (by simp)⟩
end
end Go.Proofs.Ytpdkoiogfaimaaa

/-! A log on a disk of a call's own. -/
namespace Go.Proofs.Ytpdkoiogfaimaaa
open Go.RowKit

theorem open_zero {l : Nat} {b : Bool} {f n : Nat} (hf : f + n ≤ l) (hn : 1 ≤ n) (hup : b = false) : openErr l b (f : Int) (n : Int) = 0 := by rw [openErr, if_neg (by omega), if_neg (by simp [hup])]
section
variable {w0 W W' : World} {m g p : Nat} {d : DM} {M : LM} {T : Nat → Prop}
theorem Dsk.add (h : Dsk w0 m W g d) (hl : Lg W T p g M) (hT : ∀ k, T k → m ≤ k) (ok : M.Ok) {U : Nat → Prop} {A : Option Addr} {n c : Nat} {b : List UInt8} (hb : Byt W U A n c b) (hU : ∀ k, U k → ¬ T k ∧ (k < w0.heap.size ∨ m ≤ k)) (hn : n ≤ 1000000) :
    Calls Try.prog 41 #[.pointer (some ⟨p, 0, none⟩), .slice A n c] W fun e w' => e = .returned (.int .i64 (addM d M b).2.2) ∧ Dsk w0 m w' g (addM d M b).1 ∧ Lg w' (fun k => T k ∨ W.heap.size ≤ k) p g (addM d M b).2.1 ∧ Turned (fun k => (w0.heap.size ≤ k ∧ k < m) ∨ T k) W w' := by
  have hle := h.le
  refine (wadd_any hl h.dk (fun k _ h1 h2 => by have := hT k h2; omega) ok hb (fun k _ hk => ?_) hn).mono ?_
  · have := hU k hk
    exact ⟨fun h1 => by omega, this.1⟩
  · rintro _ w' ⟨rfl, h2, h3, h4⟩
    refine ⟨rfl, ⟨h2, h.bel.trans ((h4.mono fun k _ hk => ?_).below h.bel.size), Nat.le_trans h.top h4.size⟩, h3, h4⟩
    rcases hk with hk | hk
    · exact hk.1
    · have := hT k hk; omega
theorem Dsk.open (h : Dsk w0 m W g d) (f n : Nat) (hf : f + n ≤ d.l.length) (hn : 1 ≤ n) (hup : d.down = false) (hl : d.l.length ≤ 65536) :
    Calls Try.prog 31 #[.pointer (some ⟨g, 0, none⟩), .int .i64 (f : Int), .int .i64 (n : Int)] W fun e w' => ∃ p, e = .returned (.tuple #[.pointer (some ⟨p, 0, none⟩), .int .i64 0]) ∧ Lg w' (W.heap.size ≤ ·) p g (openM (blocksOf d.l (f : Int) (n : Int)) (f : Int) (n : Int)) ∧ Dsk w0 m w' g d ∧ Below W.heap.size W w' := by
  refine (wopen_any h.dk (f : Int) (n : Int) (by omega) (by omega)).mono ?_
  rintro _ w' ⟨h1, h2⟩
  rw [open_zero hf hn hup, if_pos rfl] at h1
  obtain ⟨p, rfl, h3⟩ := h1
  exact ⟨p, rfl, h3, h.below h2, h2⟩
theorem Dsk.begin (h : Dsk w0 m W g d) (f n least : Nat) (hf : f + n ≤ d.l.length) (hn : 1 ≤ n) (hup : d.down = false) (hl : d.l.length ≤ 65536) (hls : least < 18446744073709551616) :
    Calls Try.prog 35 #[.pointer (some ⟨g, 0, none⟩), .int .i64 (f : Int), .int .i64 (n : Int), .int .u64 (least : Int)] W fun e w' => ∃ p, e = .returned (.tuple #[.pointer (some ⟨p, 0, none⟩), .int .i64 0]) ∧ Lg w' (W.heap.size ≤ ·) p g (beginM (openM (blocksOf d.l (f : Int) (n : Int)) (f : Int) (n : Int)) (f : Int) (n : Int) least) ∧ Dsk w0 m w' g d ∧ Below W.heap.size W w' := by
  refine (wbegin_any h.dk (f : Int) (n : Int) (by omega) (by omega) least hls).mono ?_
  rintro _ w' ⟨h1, h2⟩
  rw [open_zero hf hn hup, if_pos rfl] at h1
  obtain ⟨p, rfl, h3⟩ := h1
  exact ⟨p, rfl, h3, h.below h2, h2⟩
end
theorem OnD.lok {d : DM} {m : LM} {f n : Nat} (h : OnD d m f n) (hf : f ≤ 65536) (h1 : 1 ≤ n) (hn : n ≤ 65536) (hx : m.next < 18446744073709551616) (hfs : m.first < 18446744073709551616) (hfew : m.l.length ≤ m.have_) : m.Ok :=
  ⟨by rw [h.from_]; omega, by rw [h.n_]; omega, by have := h.have_; rw [h.n_]; omega, hx, hfs, hfew⟩
theorem runW_few : ∀ (bs : List (List UInt8)) (i : Nat) (s : WS), s.recs.length ≤ s.have_ → s.have_ ≤ i → (runW bs i s).recs.length ≤ (runW bs i s).have_ ∧ (runW bs i s).have_ ≤ i + bs.length
  | [], i, s, h1, h2 => ⟨h1, h2⟩
  | b :: bs, i, s, h1, h2 => by
    have hs : (stepW i s b).recs.length ≤ (stepW i s b).have_ ∧ (stepW i s b).have_ ≤ i + 1 := by
      unfold stepW nextW
      split
      · simp only [List.length_append, List.length_singleton]
        omega
      · simp only
        omega
    have := runW_few bs (i + 1) _ hs.1 hs.2
    rw [runW, List.length_cons]
    omega
theorem runW_first {x : Nat} : ∀ (bs : List (List UInt8)) (i : Nat) (s : WS), s.first ≤ x → s.fst ≤ x → (∀ b ∈ bs, fL b ≤ x) → (runW bs i s).first ≤ x
  | [], _, _, h, _, _ => h
  | b :: bs, i, s, h1, h2, hb => by
    have hr := Nat.le_trans readL_le (hb b (by simp))
    rw [runW]
    refine runW_first bs (i + 1) _ ?_ ?_ fun c hc => hb c (by simp [hc])
    · unfold stepW nextW
      split
      · simp only
        split <;> omega
      · exact h1
    · unfold stepW nextW
      split
      · simp only
        split <;> omega
      · simp only
        split <;> omega
/-- A log that stands on a disk may be. -/
theorem OnD.okL {d : DM} {m : LM} {f n : Nat} (h : OnD d m f n) (hf : f ≤ 65536) (h1 : 1 ≤ n) (hn : n ≤ 65536) (hx : m.next < 18446744073709551616) : m.Ok := by
  refine h.lok hf h1 hn hx ?_ ?_
  · rw [h.fit.first]
    have := runW_first (x := m.next) ((blocksOf d.l (f : Int) (n : Int)).take m.have_) 0 ws0 (Nat.zero_le _) (Nat.zero_le _) (fun b hb => by have := (h.fit.ends b (List.mem_of_mem_take hb)).1; omega)
    omega
  · rw [h.fit.recs]
    have h2 := runW_few ((blocksOf d.l (f : Int) (n : Int)).take m.have_) 0 ws0 (Nat.le_refl _) (Nat.le_refl _)
    have h3 := h.fit.clean.have_
    omega
end Go.Proofs.Ytpdkoiogfaimaaa

/-! Cells: a store on a disk of a call's own. -/
namespace Go.Proofs.Ytpdkoiogfaimaaa
open Go.RowKit Codec

theorem czero_scan (k f n : Nat) : scanW (blocksOf (List.replicate k zero128) (f : Int) (n : Int)) 0 ws0 = ws0 := by
  cases hb : blocksOf (List.replicate k zero128) (f : Int) (n : Int) with
  | nil => rfl
  | cons b bs =>
    have hm : b ∈ blocksOf (List.replicate k zero128) (f : Int) (n : Int) := by rw [hb]; simp
    unfold blocksOf at hm
    have h1 := List.eq_of_mem_replicate (List.mem_of_mem_drop (List.mem_of_mem_take hm))
    have h2 : (readL zero128).1 = 0 := by decide +kernel
    rw [h1]
    exact scan_bad (by rw [h2]; simp [badW])
theorem czero_open (k f n : Nat) : openM (blocksOf (List.replicate k zero128) (f : Int) (n : Int)) (f : Int) (n : Int) = ⟨(f : Int), (n : Int), 0, 1, 0, [], 0⟩ := by
  unfold openM
  rw [czero_scan, zero_most]
  rfl
/-- A disk that is new, opened. -/
theorem PS.new (n : Nat) (h2 : 2 ≤ n) (hn6 : n ≤ 65536) : ∃ s, openC (newM (n : Int)).1 = (s, 0) ∧ PS (newM (n : Int)).1 s 2 ∧ s.t = [] ∧ s.turns = 0 ∧ s.log.l = [] := by
  have hd := newM_at' n (by omega) hn6
  have hok : (newM (n : Int)).1.Ok := newM_ok (n : Int)
  rw [hd] at hok ⊢
  obtain ⟨d, hde⟩ : ∃ d : DM, d = ⟨List.replicate n zero128, -1, 0, false⟩ := ⟨_, rfl⟩
  rw [← hde] at hok ⊢
  have hl : d.l = List.replicate n zero128 := by rw [hde]
  have hlen : d.l.length = n := by rw [hl]; simp
  have hhn : hn d = n / 2 := by unfold hn; rw [hlen]
  have hh : ∀ i, halfM d i = ⟨((i * hn d : Nat) : Int), ((hn d : Nat) : Int), 0, 1, 0, [], 0⟩ := fun i => by
    unfold halfM
    rw [hl]
    exact czero_open n (i * hn d) (hn d)
  have hm : ∀ i, mostL (bl d i) = 0 := fun i => by unfold bl; rw [hl]; exact zero_most n _ _
  have hal : ∀ i, allM (halfM d i) = none := fun i => by rw [hh]; rfl
  have hup : d.down = false := by rw [hde]
  have hon := begin_on (d := d) (f := 0 * hn d) (n := hn d) (least := 1) hok hup (by omega) (by have := hm 0; unfold bl at this; omega)
  have hps : PS d ⟨[], 0, beginM (halfM d 0) ((0 * hn d : Nat) : Int) ((hn d : Nat) : Int) 1, 0, 0⟩ 2 := by
    refine ⟨hon, by rw [hde]; simp, Nat.zero_le _, by omega, by omega, rfl, TMay.nil, Srt.nil, .inl ⟨rfl, rfl, rfl, rfl, hal 0, hal 1⟩, ?_, by rw [hm]; omega⟩
    show (beginM (halfM d 0) _ _ 1).next ≤ 2
    unfold beginM
    simp only
    rw [hh]
    simp
  obtain ⟨s', h3, h4, h5, h6, h7⟩ := hps.open_ (by omega)
  exact ⟨s', h3, h4, h5, h6, h7 rfl⟩
theorem PS.sok {d : DM} {s : SM} {K : Nat} (h : PS d s K) (hK : K < 18446744073709551616) (ht : s.turns ≤ 1000000000) : SOk s :=
  ⟨h.on.okL (by have h1 := hn_two (d := d) h.half; have := h.few; omega) h.hn1 (by have h1 := hn_two (d := d) h.half; have := h.few; omega) (by have := h.next; omega), h.half, ht⟩
section
variable {w0 W : World} {m g p : Nat} {d : DM} {s : SM} {K : Nat} {T U : Nat → Prop}
theorem Dsk.copen (h : Dsk w0 m W g d) (hps : PS d s K) (hK : K < 18446744073709551615) :
    Calls Try.prog 9 #[.pointer (some ⟨g, 0, none⟩)] W fun e w' => ∃ p s', e = .returned (.tuple #[.pointer (some ⟨p, 0, none⟩), .int .i64 0]) ∧ Cs w' (W.heap.size ≤ ·) p g s' ∧ Dsk w0 m w' g d ∧ Below W.heap.size W w' ∧ PS d s' K ∧ s'.t = s.t ∧ s'.turns = 0 ∧ (s.log.l = [] → s'.log.l = []) := by
  obtain ⟨s', h3, h4, h5, h6, h7⟩ := hps.open_ hK
  refine (copen_any h.dk).mono ?_
  rintro e w' ⟨h1, h2⟩
  rw [h3, if_pos rfl] at h1
  obtain ⟨p, rfl, h8⟩ := h1
  exact ⟨p, s', rfl, h8, h.below h2, h2, h4, h5, h6, h7⟩
theorem Dsk.capply (h : Dsk w0 m W g d) (hc : Cs W T p g s) (hT : ∀ k, T k → m ≤ k) (hps : PS d s K) (hK : K < 18446744073709551615) (ht : s.turns ≤ 1000000000) {A : Option Addr} {n c : Nat} {l : List Ch} (hl : Chs W U A n c l) (hU : ∀ k, U k → ¬ T k ∧ (k < w0.heap.size ∨ m ≤ k)) (hb : wtT s.t + wtC l ≤ 800000) :
    Calls Try.prog 11 #[.pointer (some ⟨p, 0, none⟩), .slice A n c] W fun e w' => e = .returned (.int .i64 (applyC d s l).2.2) ∧ Dsk w0 m w' g (applyC d s l).1 ∧ Cs w' (fun k => T k ∨ W.heap.size ≤ k) p g (applyC d s l).2.1 ∧ Turned (fun k => (w0.heap.size ≤ k ∧ k < m) ∨ T k) W w' := by
  have hle := h.le
  refine (capply_any hc h.dk (fun k _ h1 h2 => by have := hT k h2; omega) (hps.sok (by omega) ht) hps.hn1 hl (fun k _ hk => ?_) hb).mono ?_
  · have := hU k hk
    exact ⟨fun h1 => by omega, this.1⟩
  · rintro _ w' ⟨rfl, h2, h3, h4⟩
    refine ⟨rfl, ⟨h2, h.bel.trans ((h4.mono fun k _ hk => ?_).below h.bel.size), Nat.le_trans h.top h4.size⟩, h3, h4⟩
    rcases hk with hk | hk
    · exact hk.1
    · have := hT k hk; omega
end
end Go.Proofs.Ytpdkoiogfaimaaa

/-! The cells of old rows stay, and the rows ahead of B whole: 'Cel B'. ('[]byte("a")' marks a row that it has made: its cells stay.) -/
namespace Go.Proofs.Ytpdkoiogfaimaaa
open Go.RowKit

structure Cel (B : Nat) (W W' : World) : Prop where
  os : W'.os = W.os
  tape : W'.tape = W.tape
  output : W'.output = W.output
  size : W.heap.size ≤ W'.heap.size
  block : ∀ k, k < W.heap.size → k < B → W'.heap[k]? = W.heap[k]?
  cell : ∀ b o, b < W.heap.size → W'.cell? ⟨b, o, none⟩ = W.cell? ⟨b, o, none⟩
section
variable {B : Nat} {W W' V : World}
theorem Cel.refl (B : Nat) (W : World) : Cel B W W := ⟨rfl, rfl, rfl, Nat.le_refl _, fun _ _ _ => rfl, fun _ _ _ => rfl⟩
theorem Cel.trans (h : Cel B W W') (k : Cel B W' V) : Cel B W V :=
  ⟨k.os.trans h.os, k.tape.trans h.tape, k.output.trans h.output, Nat.le_trans h.size k.size, fun i hi hb => (k.block i (Nat.lt_of_lt_of_le hi h.size) hb).trans (h.block i hi hb), fun b o hb => (k.cell b o (Nat.lt_of_lt_of_le hb h.size)).trans (h.cell b o hb)⟩
theorem Cel.of_below (h : Below W.heap.size W W') : Cel B W W' := ⟨h.os, h.tape, h.output, h.size, fun k hk _ => h.block k hk, fun b _ hb => h.cell (p := ⟨b, _, none⟩) hb⟩
theorem Cel.below (h : Cel W.heap.size W W') : Below W.heap.size W W' := ⟨h.os, h.tape, h.output, h.size, fun k hk => h.block k hk hk⟩
theorem Cel.of_drew (h : Cel B W.drew W') : Cel B W W' := ⟨h.os, h.tape, h.output, h.size, h.block, h.cell⟩
theorem Byt.cel {S : Nat → Prop} {A : Option Addr} {n c : Nat} {l : List UInt8} (h : Byt W S A n c l) (k : Cel B W W') : Byt W' S A n c l := h.keep k.size k.cell
theorem Rws.cel {S : Nat → Prop} {A : Option Addr} {n c : Nat} {ls : List (List UInt8)} (h : Rws W S A n c ls) (k : Cel B W W') : Rws W' S A n c ls :=
  ⟨h.len, h.cap, h.max, fun h0 => by
    obtain ⟨b, off, hA, hS, hlt, hc⟩ := h.row h0
    refine ⟨b, off, hA, hS, Nat.lt_of_lt_of_le hlt k.size, fun i hi => ?_⟩
    obtain ⟨Ai, ni, ci, h1, h2⟩ := hc i hi
    exact ⟨Ai, ni, ci, (k.cell _ _ hlt).trans h1, h2.cel k⟩⟩

/-- '[]byte("..")' of a constant, whose row lies anywhere. -/
theorem conv_mark {P : Program} (W : World) (t e : TypeId) (ht : P.underlying t = some (.slice e)) (he : P.underlying e = some (.int .u8)) (g n c : Nat) (hB : B ≤ g) :
    ∃ W', (convert t t (.slice (some ⟨g, 0, none⟩) n c)).run P W = .ok (.slice (some ⟨g, 0, none⟩) n c) W' ∧ Cel B W W' := by
  have hf : ∀ k, Cel B W (W.freeze ⟨g, k, none⟩ 1) := fun k => by
    unfold World.freeze
    rw [if_neg (by decide)]
    refine ⟨rfl, rfl, rfl, by simp, fun i _ hi => ?_, fun b o _ => ?_⟩
    · simp only [Array.getElem?_modify]
      rw [if_neg (by omega)]
    · simp only [World.cell?, Array.getElem?_modify]
      by_cases hbg : g = b
      · rw [if_pos hbg]
        cases hh : W.heap[b]? with
        | none => rfl
        | some ob => cases ob <;> rfl
      · rw [if_neg hbg]
  cases hs : W.shape? g with
  | none =>
    refine ⟨W, ?_, Cel.refl _ _⟩
    simp [convert, run_underlying ht, run_underlying he, markStringish, hs]
  | some p =>
    obtain ⟨x, k⟩ := p
    refine ⟨_, ?_, hf k⟩
    simp [convert, run_underlying ht, run_underlying he, markStringish, hs]
end
end Go.Proofs.Ytpdkoiogfaimaaa

/-! The laws' example: a name that is kept, and there again. -/
namespace Go.Proofs.Ytpdkoiogfaimaaa
open Go.RowKit Codec

def ay0 : DM := (newM ((8 : Nat) : Int)).1
def ayL : List Ch := [⟨[98], [120], false⟩, ⟨[97], [], false⟩]
def ayT : Tb := [([97], []), ([98], [120])]
theorem ay_t : doL [] ayL = ayT := by decide +kernel
theorem ay_w : wtT ayT ≤ 50 ∧ wtC ayL ≤ 60 ∧ ayL.all mayC = true := by decide +kernel
theorem ay_g : getT ayT [98] = some [120] := by decide +kernel
theorem newM_len (n : Nat) (h1 : 1 ≤ n) (h2 : n ≤ 65536) : (newM (n : Int)).1.l.length = n := by
  rw [newM_at' n h1 h2]
  simp
/-- Changes in a block of their own. -/
theorem chs_block {w : World} {q : Nat} {S : Nat → Prop} (L : List (Ro × Ch)) (h : w.heap[q]? = some (.cells (chCells L).toArray 25 (0, 0))) (hq : S q) (hL : ∀ y ∈ L, Byt w S y.1.1 y.1.2.1 y.1.2.2 y.2.v) (hlen : L.length ≤ 1000) : Chs w S (some ⟨q, 0, none⟩) L.length L.length (L.map (·.2)) := by
  refine ⟨by simp, Nat.le_refl _, by unfold maxLen; omega, fun _ => ⟨q, 0, rfl, hq, lt_of_cells h, fun i x hx => ?_⟩⟩
  rw [List.getElem?_map] at hx
  cases hy : L[i]? with
  | none => rw [hy] at hx; cases hx
  | some y =>
    rw [hy] at hx
    have hyx : y.2 = x := by simpa using hx
    refine ⟨y.1.1, y.1.2.1, y.1.2.2, fun j u hu => ?_, by rw [← hyx]; exact hL y (List.mem_of_getElem? hy)⟩
    rw [← hyx] at hu
    rw [cell_of_cells h, Nat.zero_add, List.getElem?_toArray]
    exact chCells_at L i y hy j u hu
/-- Changes that have room are done. -/
theorem PS.room {d : DM} {s : SM} {K : Nat} (h : PS d s K) {l : List Ch} (hl : l.length < 18446744073709551616) (htl : s.t.length + l.length < 18446744073709551616) (hK : K + 65536 < 18446744073709551615) (hm : l.all mayC = true) (hw : wtT (doL s.t l) + 20 ≤ 110 * hn d) :
    (applyC d s l).2.2 = 0 := by
  have ha := h.apply_ l hl htl hK
  have hhn : hn d ≤ 65536 := by have h1 : hn d = d.l.length / 2 := rfl; have := h.few; omega
  have hlen := allB_len (doL s.t l) (by omega)
  rcases ha.err with h1 | h1 | h1
  · have := ha.one.1 h1
    rw [hm] at this
    cases this
  · have h2 := ha.full h1
    unfold blocksN at h2
    have h3 := h.hn1
    split at h2 <;> omega
  · exact h1
set_option maxHeartbeats 8000000 in
set_option maxRecDepth 100000 in
theorem celawake_true (w : World) : Calls Try.prog 6 #[] w fun e w' => e = .returned (.bool true) ∧ Below w.heap.size w w' := by
  have hnew := Dsk.new (Below.refl w.heap.size w) 8 (by omega) (by omega)
  obtain ⟨s0, ho0, hps0, ht0, hu0, hl0⟩ := PS.new 8 (by omega) (by omega)
  have hlen := newM_len 8 (by omega) (by omega)
  have hd0 : (newM ((8 : Nat) : Int)).1 = ay0 := rfl
  rw [hd0] at ho0 hps0 hnew hlen
  have HPS := Lib.hid (And.intro hps0 (And.intro ht0 (And.intro hu0 (And.intro hl0 hlen))))
  clear hps0 ht0 hu0 hl0 ho0 hd0 hlen
  go_enter Try.func6, Try.ntmps6
  go_upto_region 2 with (go_at_call 10; refine hnew.mono ?_; clear hnew; rintro _ w1 ⟨g, rfl, hd1⟩)
  obtain ⟨m, hm⟩ : ∃ m, m = w1.heap.size := ⟨_, rfl⟩
  rw [← hm] at hd1
  have HM := Lib.hid (show m ≤ w1.heap.size by omega)
  have hop := hd1.copen HPS.out.1 (by omega)
  clear hd1 hm
  go_upto_region 3 with (go_at_call 9; refine hop.mono ?_; clear hop; rintro _ w2 ⟨p, s1, rfl, hc2, hd2, hb2, hps1, ht1, hu1, hl1⟩)
  have H2 := Lib.hid (And.intro (hc2.mono (T := fun k => m ≤ k ∧ k < w2.heap.size) fun k hk h => ⟨by have := HM.out; omega, hk⟩) (And.intro hd2 (And.intro hps1 (And.intro ht1 (And.intro hu1 (And.intro hl1 hd2.top))))))
  clear hc2 hd2 hb2 hps1 ht1 hu1 hl1
  go_upto_region 5 with fail
  obtain ⟨w3, hcv, hce⟩ := conv_mark (P := Try.prog) (B := w2.heap.size) (w2.alloc (.cells #[.int .u8 120] 5)) 23 5 Try.underlying23 Try.underlying5 w2.heap.size 1 1 (Nat.le_refl _)
  have hb3 : Below w2.heap.size w2 w3 := ⟨hce.os, hce.tape, hce.output, by have := hce.size; simp at this; omega, fun k hk => (hce.block k (by simp; omega) hk).trans (heap_alloc_old _ _ _ hk)⟩
  have hy3 : Byt w3 (w2.heap.size ≤ ·) (some ⟨w2.heap.size, 0, none⟩) 1 1 [120] := (byt_filled' (w' := w2.alloc (.cells #[.int .u8 120] 5)) (l := [120]) (n := 1) (heap_alloc_new w2 _) rfl (by omega) (Nat.le_refl _)).cel hce
  obtain ⟨w4, hw4⟩ : ∃ w4, w4 = w3.alloc (Obj.cells #[.string ⟨#[98]⟩, .slice (some ⟨w2.heap.size, 0, none⟩) 1 1, .bool false, .string ⟨#[97]⟩, .slice none 0 0, .bool false] 25) := ⟨_, rfl⟩
  have hb4 : Below w2.heap.size w2 w4 := hb3.trans (by rw [hw4]; exact (Below.refl _ _).alloc hb3.size _)
  have hch : Chs w4 (w2.heap.size ≤ ·) (some ⟨w3.heap.size, 0, none⟩) 2 2 ayL := by
    refine chs_block (L := [((some ⟨w2.heap.size, 0, none⟩, 1, 1), ⟨[98], [120], false⟩), ((none, 0, 0), ⟨[97], [], false⟩)]) (by rw [hw4]; exact heap_alloc_new w3 _) hb3.size (fun y hy => ?_) (by simp)
    rcases List.mem_cons.1 hy with rfl | hy
    · rw [hw4]; exact hy3.alloc _
    · obtain rfl := List.mem_singleton.1 hy
      exact Byt.nil _ _ _ _ (Nat.zero_le _)
  have hap := (H2.out.2.1.below hb4).capply (H2.out.1.below hb4) (fun k h => h.1) H2.out.2.2.1 (by omega) (by rw [H2.out.2.2.2.2.1]; omega) hch (fun k hk => ⟨fun h => by omega, .inr (by have := H2.out.2.2.2.2.2.2; omega)⟩) (by rw [H2.out.2.2.2.1, HPS.out.2.1]; have := ay_w; simp [wtT]; omega)
  have hT1 : s1.t = [] := by rw [H2.out.2.2.2.1, HPS.out.2.1]
  have hhn0 : hn ay0 = 4 := by unfold hn; rw [HPS.out.2.2.2.2]
  have hz := H2.out.2.2.1.room (l := ayL) (by simp [ayL]) (by rw [hT1]; simp [ayL]) (by omega) ay_w.2.2 (by rw [hT1, ay_t, hhn0]; have := ay_w; omega)
  have hay := H2.out.2.2.1.apply_ ayL (by simp [ayL]) (by rw [hT1]; simp [ayL]) (by omega)
  obtain ⟨hp6, ht6, _, _, hu6, _⟩ := hay.yes hz
  have hu6 := hu6 (by simp [ayL]) (H2.out.2.2.2.2.2.1 HPS.out.2.2.2.1)
  rw [hT1, ay_t] at ht6
  rw [H2.out.2.2.2.2.1] at hu6
  rw [hhn0] at hp6
  rw [hz] at hap
  obtain ⟨d6, hd6⟩ : ∃ d6, d6 = (applyC ay0 s1 ayL).1 := ⟨_, rfl⟩
  obtain ⟨s6, hs6⟩ : ∃ s6, s6 = (applyC ay0 s1 ayL).2.1 := ⟨_, rfl⟩
  rw [← hd6, ← hs6] at hap hp6
  rw [← hs6] at ht6 hu6
  have H6 := Lib.hid (And.intro hp6 (And.intro ht6 hu6))
  have HS4 := Lib.hid hb4.size
  clear hp6 ht6 hu6 hay hz hhn0 hT1 hd6 hs6 hch hb4 hb3 hce hy3
  rw [hw4] at hap
  go_upto_region 6 with (go_at_call 11; refine hap.mono ?_; clear hap; rintro _ w7 ⟨rfl, hd7, hc7, hr7⟩)
  clear hcv
  rw [← hw4] at hc7 hr7
  have H7 := Lib.hid (And.intro (hc7.mono (T := fun k => m ≤ k ∧ k < w7.heap.size) fun k hk h => by have := H2.out.2.2.2.2.2.2; have := HS4.out; rcases h with h | h <;> exact ⟨by omega, hk⟩) hd7)
  clear hc7 hr7 hw4 HS4
  have hop := hd7.copen H6.out.1 (by omega)
  clear hd7
  go_upto_region 7 with (go_at_call 9; refine hop.mono ?_; clear hop; rintro _ w8 ⟨p8, s8, rfl, hc8, hd8, hb8, hps8, ht8, _, _⟩)
  have HT := Lib.hid (And.intro (H7.out.1.below hb8) hd8.bel)
  rw [H6.out.2.1] at ht8
  have hget := cget_any hc8 [98] (by simp) (by rw [ht8, ay_g]; simp)
  rw [ht8, ay_g] at hget
  have H8 := Lib.hid (And.intro hc8 ht8)
  clear hc8 hd8 hb8 hps8 ht8 H7
  go_upto_region 8 with (go_at_call 8; refine hget.mono ?_; clear hget; rintro _ w9 ⟨A9, n9, c9, rfl, hy9, hb9⟩)
  have hks := ckeys_any (H8.out.1.below hb9) (by rw [H8.out.2]; simp [ayT])
  rw [H8.out.2] at hks
  have H9 := Lib.hid (And.intro (HT.out.1.below hb9) (HT.out.2.trans (hb9.mono HT.out.2.size)))
  clear hb9
  go_upto_region 9 with (go_at_call 12; refine hks.mono ?_; clear hks; rintro _ w10 ⟨A10, n10, c10, rfl, hs10, hb10⟩)
  have hc10 := H9.out.1.below hb10
  have HB10 := Lib.hid (H9.out.2.trans (hb10.mono H9.out.2.size))
  have hcv9 := byt_string (hy9.below hb10)
  have htr := cturns_any hc10
  rw [H6.out.2.2] at htr
  obtain rfl : n10 = 2 := by rw [← hs10.len]; rfl
  obtain ⟨q, o, rfl, _, hq, hc⟩ := hs10.row (by omega)
  have hc0 : w10.cell? ⟨q, o, none⟩ = some (.string ⟨#[97]⟩) := hc 0 (by omega)
  clear hs10 hc hq hb10 hy9 hc10
  go_wp2_with (go_at_call 14; refine htr.mono ?_; clear htr; rintro _ _ ⟨rfl, rfl⟩)
  go_ret
  exact ⟨rfl, HB10.out⟩
end Go.Proofs.Ytpdkoiogfaimaaa

/-! The law of drawn regions (Grow) where the last two operations stand behind all others: a call, and what keeps its result. -/
namespace Go.Proofs.Ytpdkoiogfaimaaa
open Go.RowKit
namespace Grow
/-- Each but the last two is waited for by a later one that is not the last; the last one waits for that ahead of it. -/
def pairB (ops : Array Oper) : Bool := ((List.range (ops.size - 2)).all fun j => (List.range (ops.size - 1)).any fun k => decide (j < k) && waitsB ops k j) && waitsB ops (ops.size - 1) (ops.size - 2)
theorem pairB_spec {ops : Array Oper} (h : pairB ops = true) : (∀ j, j < ops.size - 2 → ∃ k, j < k ∧ k < ops.size - 1 ∧ waitsB ops k j = true) ∧ waitsB ops (ops.size - 1) (ops.size - 2) = true := by
  unfold pairB at h
  rw [Bool.and_eq_true] at h
  refine ⟨fun j hj => ?_, h.2⟩
  obtain ⟨k, hk, hkb⟩ := List.any_eq_true.1 (List.all_eq_true.1 h.1 j (List.mem_range.2 hj))
  simp only [Bool.and_eq_true, decide_eq_true_eq] at hkb
  exact ⟨k, hkb.1, List.mem_range.1 hk, hkb.2⟩
theorem waitsB_spec {ops : Array Oper} {k j : Nat} {o : Oper} (h : waitsB ops k j = true) (ho : ops[k]? = some o) : ∃ e ∈ o.after, Region.binds .any e = true ∧ e.on = j := by
  unfold waitsB at h
  rw [ho] at h
  obtain ⟨e, he, hb⟩ := Array.any_eq_true'.1 h
  simp only [Bool.and_eq_true, beq_iff_eq] at hb
  exact ⟨e, he, hb.1, hb.2⟩
section
variable {P : Program} {ops : Array Oper} {Q : Exit → Act → World → Prop} {G : World → World → Prop} {Φ : Nat → Value → World → Prop} {a0 : Act} {w0 : World} {F : Fence} {nr : Nat}
theorem any_of_invP (hF : Open F nr P) {n : Nat} (hnd : noDefer ops = true) (hB : growB ops n = true) (hL : pairB ops = true) (hn : a0.tmps.size = n) (htr : ∀ A B C, G A B → G B C → G A C) (hmono : ∀ j v W W', Φ j v W → G W W' → Φ j v W') (hrefl : ∀ W, G W W)
    {front : List Oper} {oy oz : Oper} (hsp : ops.toList = front ++ [oy, oz]) (hgy : oy.guard = none) (hgz : oz.guard = none)
    (hs : ∀ i, i < front.length → GStep P ops G Φ a0 w0 i) (hfin : ∀ W, G w0 W → fin Φ (fun _ a w => oy.wpIn F nr P a w (fun a' w' => oz.wpIn F nr P a' w' (fun a'' w'' => Q .normal a'' w'') Q) Q) W front 0 a0) :
    ∀ (fuel : Nat) (listed : Array Bool) (a : Act) (w : World), Inv ops G Φ a0 w0 listed a w → listed.getD front.length true = false → listed.toList.count false ≤ fuel → wpAnyIn F nr P .any ops Q fuel listed a w := by
  have hsz : ops.size = front.length + 2 := by
    rw [← Array.length_toList, hsp]
    simp
  have hoy : ops[front.length]? = some oy := by
    rw [← Array.getElem?_toList, hsp]
    simp
  have hoz : ops[front.length + 1]? = some oz := by
    rw [← Array.getElem?_toList, hsp, List.getElem?_append_right (by omega)]
    simp
  obtain ⟨hL1, hL2⟩ := pairB_spec hL
  have e1 : ops.size - 1 = front.length + 1 := by omega
  have e2 : ops.size - 2 = front.length := by omega
  rw [e1, e2] at hL2
  rw [e1, e2] at hL1
  intro fuel
  induction fuel with
  | zero =>
    intro listed a w hI hz hc
    have := count_set hz
    omega
  | succ fuel ih =>
    intro listed a w hI hz hc
    refine ⟨fun hr => ?_, fun i hi => ?_⟩
    · have hall := all_of_ready hB hI.lsize hr front.length (by omega)
      obtain ⟨h1, _⟩ := getD_both' hz
      rw [hall] at h1
      cases h1
    obtain ⟨h1, o, ho, hall⟩ := mem_ready.1 hi
    have hz1 := (getD_both' hz).1
    have hlast : listed.getD (front.length + 1) false = false := by
      cases hq : listed.getD (front.length + 1) false with
      | false => rfl
      | true =>
        obtain ⟨e, he, hb, hon⟩ := waitsB_spec hL2 hoz
        have := hI.closed _ oz hoz hq e he hb
        rw [hon, hz1] at this
        cases this
    by_cases hiz : i = front.length
    · subst hiz
      have hlt : ∀ d j, j < front.length → front.length - j ≤ d → listed.getD j false = true := by
        intro d
        induction d with
        | zero => intro j hj hd; omega
        | succ d ihd =>
          intro j hj hd
          obtain ⟨k, hjk, hk, hw⟩ := hL1 j hj
          by_cases hkz : k = front.length
          · subst hkz
            obtain ⟨e, he, hb, hon⟩ := waitsB_spec hw hoy
            obtain rfl : o = oy := by rw [ho] at hoy; exact Option.some.inj hoy
            exact hon ▸ hall e he hb
          · have hkl := ihd k (by omega) (by omega)
            cases hok : ops[k]? with
            | none => unfold waitsB at hw; rw [hok] at hw; cases hw
            | some ok =>
              obtain ⟨e, he, hb, hon⟩ := waitsB_spec hw hok
              exact hon ▸ hI.closed k ok hok hkl e he hb
      have hq := front_done (Q := fun _ a w => oy.wpIn F nr P a w (fun a' w' => oz.wpIn F nr P a' w' (fun a'' w'' => Q .normal a'' w'') Q) Q) (m := front.length) hB hn hI hsp rfl (fun j hj => hlt _ j hj (Nat.le_refl _)) (fun j hj => by
        rcases Nat.lt_or_ge j ops.size with h | h
        · by_cases hj2 : j = front.length
          · subst hj2; exact hz1
          · obtain rfl : j = front.length + 1 := by omega
            exact hlast
        · rw [Array.getD_eq_getD_getElem?, Array.getElem?_eq_none (by rw [hI.lsize]; exact h)]
          rfl) (hfin w hI.grow)
      have hop : wpOpIn F nr P ops Q front.length (fun a' w' => oz.wpIn F nr P a' w' (fun a'' w'' => Q .normal a'' w'') Q) a w := by
        unfold wpOpIn
        rw [hoy]
        show if Region.wanted oy (yielded ops a.tmps) = true then _ else _
        rw [if_pos (by unfold Region.wanted; rw [hgy])]
        exact hq
      refine wpOpIn_mono ?_ hop
      intro a' w' hQ
      have hsz2 : (listed.setIfInBounds front.length true).size = ops.size := by simpa using hI.lsize
      have hz2 : (listed.setIfInBounds front.length true).getD (front.length + 1) false = false := by rw [getD_set_ne' (by omega)]; exact hlast
      cases fuel with
      | zero =>
        have h2 := count_set h1
        have h3 : (listed.setIfInBounds front.length true).getD (front.length + 1) true = false := by
          rw [Array.getD_eq_getD_getElem?, Array.getElem?_eq_getElem (by rw [hsz2]; omega)] at hz2 ⊢
          exact hz2
        have := count_set h3
        omega
      | succ fuel =>
        refine ⟨fun hr => ?_, fun k hk => ?_⟩
        · have := all_of_ready hB hsz2 hr (front.length + 1) (by omega)
          rw [hz2] at this
          cases this
        · obtain ⟨hun, ok, hok, _⟩ := mem_ready.1 hk
          obtain ⟨hun, hkl⟩ := getD_both' hun
          have hks := (Array.getElem?_eq_some_iff.1 hok).1
          have hkz : k = front.length + 1 := by
            by_cases hkf : k = front.length
            · subst hkf
              rw [getD_set_same (by rw [hI.lsize]; omega)] at hun
              cases hun
            · by_cases hkl : k < front.length
              · rw [getD_set_ne' (fun e => hkf e.symm), hlt _ k hkl (Nat.le_refl _)] at hun
                cases hun
              · omega
          subst hkz
          have hop2 : wpOpIn F nr P ops Q (front.length + 1) (fun a' w' => Q .normal a' w') a' w' := by
            unfold wpOpIn
            rw [hoz]
            show if Region.wanted oz (yielded ops a'.tmps) = true then _ else _
            rw [if_pos (by unfold Region.wanted; rw [hgz])]
            exact hQ
          refine wpOpIn_mono ?_ hop2
          intro a'' w'' hQ2
          have hr : Region.ready .any ops ((listed.setIfInBounds front.length true).setIfInBounds (front.length + 1) true) = [] := by
            rw [List.eq_nil_iff_forall_not_mem]
            intro k hk
            obtain ⟨hun, ok, hok, _⟩ := mem_ready.1 hk
            obtain ⟨hun, hkl⟩ := getD_both' hun
            have hks := (Array.getElem?_eq_some_iff.1 hok).1
            by_cases hkz : k = front.length + 1
            · subst hkz
              rw [getD_set_same (by rw [hsz2]; omega)] at hun
              cases hun
            · rw [getD_set_ne' (fun e => hkz e.symm)] at hun
              by_cases hkf : k = front.length
              · subst hkf
                rw [getD_set_same (by rw [hI.lsize]; omega)] at hun
                cases hun
              · rw [getD_set_ne' (fun e => hkf e.symm), hlt _ k (by omega) (Nat.le_refl _)] at hun
                cases hun
          cases fuel with
          | zero => exact ⟨hr, hQ2⟩
          | succ fuel => exact ⟨fun _ => hQ2, fun k hk => by rw [hr] at hk; cases hk⟩
    · have hlt : i < front.length := by
        have h5 := (Array.getElem?_eq_some_iff.1 ho).1
        by_cases h6 : i = front.length + 1
        · subst h6
          obtain ⟨e, he, hb, hon⟩ := waitsB_spec hL2 ho
          have := hall e he hb
          rw [hon, hz1] at this
          cases this
        · omega
      refine wpOpIn_mono ?_ (step_invF hF hnd hB hn htr hmono hrefl hI hi (hs i hlt))
      intro a' w' hI'
      refine ih _ a' w' hI' ?_ (by have := count_set h1; omega)
      rw [Array.getD_eq_getD_getElem?, Array.getElem?_setIfInBounds_ne hiz, ← Array.getD_eq_getD_getElem?]
      exact hz
end
end Grow
section
variable {P : Program} {ops : Array Oper} {Q : Exit → Act → World → Prop} {F : Fence} {nr id : Nat} {a : Act} {w : World}
/-- THE LAW, where the last two are walked by themselves. -/
theorem wpIn_region_growP (hF : Grow.Open F nr P) (G : World → World → Prop) (Φ : Nat → Value → World → Prop) (n : Nat) (hm : P.follows .mixedOrders = true) (hnd : Grow.noDefer ops = true)
    (hB : Grow.growB ops n = true) (hL : Grow.pairB ops = true) (hn : a.tmps.size = n) (hrefl : ∀ W, G W W) (htr : ∀ A B C, G A B → G B C → G A C) (hmono : ∀ j v W W', Φ j v W → G W W' → Φ j v W')
    (k : Nat) {oy oz : Oper} (hsz : ops.size = k + 2) (hoy : ops.toList[k]? = some oy) (hoz : ops.toList[k + 1]? = some oz) (hgy : oy.guard = none) (hgz : oz.guard = none)
    (hs : Grow.allBelow (Grow.GStep P ops G Φ a w.drew) k) (hfin : ∀ W, G w.drew W → Grow.fin Φ (fun _ a w => oy.wpIn F nr P a w (fun a' w' => oz.wpIn F nr P a' w' (fun a'' w'' => Q .normal a'' w'') Q) Q) W (ops.toList.take k) 0 a) : (Code.region id ops true).wpIn F nr P Q a w := by
  obtain ⟨hk, he⟩ := List.getElem?_eq_some_iff.1 hoy
  obtain ⟨hk2, he2⟩ := List.getElem?_eq_some_iff.1 hoz
  have hsp : ops.toList = ops.toList.take k ++ [oy, oz] := by
    apply List.ext_getElem?
    intro i
    have hl : (ops.toList.take k).length = k := by rw [List.length_take, Array.length_toList]; omega
    by_cases h1 : i < k
    · rw [List.getElem?_append_left (by omega), List.getElem?_take_of_lt h1]
    · rw [List.getElem?_append_right (by omega), hl]
      by_cases h2 : i = k
      · subst h2; rw [hoy]; simp
      · by_cases h3 : i = k + 1
        · subst h3; rw [hoz]; simp
        · rw [List.getElem?_eq_none (by rw [Array.length_toList]; omega), List.getElem?_eq_none (by simp; omega)]
  have hfl : (ops.toList.take k).length = k := by rw [List.length_take, Array.length_toList]; omega
  rw [← hfl] at hs
  exact wpIn_region_any hm (Grow.any_of_invP hF hnd hB hL hn htr hmono hrefl hsp hgy hgz (Grow.allBelow_at hs) hfin ops.size _ a _ (inv_start (hrefl _)) (by rw [hfl]; simp [hsz]) (by simp))
end
end Go.Proofs.Ytpdkoiogfaimaaa
