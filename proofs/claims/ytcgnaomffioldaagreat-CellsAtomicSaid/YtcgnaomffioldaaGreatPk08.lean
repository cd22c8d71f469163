/-
  Cells, pure: a store; what Open and Apply do with a disk.
  What was put is read as it was: the pure part (for CodecBack).
  Cells, pure: what was written is read again.
  Cells, pure: how many names there are behind changes.
  Wal, pure: what a log is that was opened or begun.
  Cells, pure: a store and its disk say the same.
  The library at this seat: maps.Keys, slices.Sorted, slices.Sort, maps.Clone.
  Cells: the names of a map, in order.
-/
import Derived.Test.YtcgnaomffioldaaGreatPk04
import Derived.Test.YtcgnaomffioldaaGreatPk05
import Derived.Test.YtcgnaomffioldaaGreatPk02
import Derived.Test.YtcgnaomffioldaaGreatPk07
import Derived.Shelf.SlIter.Nil
import Derived.Shelf.SortM.Plain
import Derived.Shelf.SortM.SortNone
import Derived.Shelf.SlMaps.Clone
import Derived.Ground.GgzProg
import Derived.Ground.SlgmProg
import Derived.Ground.SlmcProg
import Derived.Test.YtcgnaomffioldaaGreatProg
/-! Cells, pure: a store; what Open and Apply do with a disk. -/
namespace Go.Proofs.YtcgnaomffioldaaGreat
open Go.RowKit Codec

/-- A STORE, but for its disk. -/
structure SM where
  t : Tb
  half : Nat
  log : LM
  turns : Nat
  e : Int
/-- How many blocks a half has. -/
def hn (d : DM) : Nat := d.l.length / 2
/-- A half's log, as it is there. -/
def halfM (d : DM) (i : Nat) : LM := openM (blocksOf d.l ((i * hn d : Nat) : Int) ((hn d : Nat) : Int)) ((i * hn d : Nat) : Int) ((hn d : Nat) : Int)
/-- What its record of all says. -/
def allM (m : LM) : Option Tb := match m.l with | [] => none | r :: _ => raM r
/-- The half that counts; -1: none does. -/
def cntM (c0 c1 : Bool) (f0 f1 : Nat) : Int := if c1 && (!c0 || decide (f0 < f1)) then 1 else if c0 then 0 else -1
/-- The changes of records, one behind the other. -/
def upM (t : Tb) : List (List UInt8) → Option Tb
  | [] => some t
  | b :: bs => match rcM b with
    | none => none
    | some l => upM (doL t l) bs
/-- What a half is that counts, with the names behind its changes; or one of these was broken. -/
def upEnd (i : Nat) (m : LM) : Option Tb → SM × Int
  | none => (⟨[], 0, lm0, 0, 0⟩, 37)
  | some t => (⟨t, i, m, 0, 0⟩, 0)
/-- What Open opens, and its error. -/
def openC (d : DM) : SM × Int :=
  if hn d < 1 then (⟨[], 0, lm0, 0, 0⟩, 1)
  else if d.down then (⟨[], 0, lm0, 0, 0⟩, 30)
  else
    let a := halfM d 0
    let b := halfM d 1
    let at_ := cntM (allM a).isSome (allM b).isSome a.first b.first
    if at_ = -1 then (⟨[], 0, beginM a ((0 * hn d : Nat) : Int) ((hn d : Nat) : Int) b.next, 0, 0⟩, 0)
    else
      upEnd (if at_ = 1 then 1 else 0) (if at_ = 1 then b else a) (upM ((allM (if at_ = 1 then b else a)).getD []) (if at_ = 1 then b else a).l.tail)
/-- All is written anew in the other half. -/
def turnC (d : DM) (s : SM) (l : List Ch) : DM × SM × Int :=
  if d.down then (d, s, 30)
  else if (addM d (beginM (halfM d (1 - s.half)) (((1 - s.half) * hn d : Nat) : Int) ((hn d : Nat) : Int) s.log.next) (allB (doL s.t l))).2.2 = 0 then
    ((addM d (beginM (halfM d (1 - s.half)) (((1 - s.half) * hn d : Nat) : Int) ((hn d : Nat) : Int) s.log.next) (allB (doL s.t l))).1, { s with half := 1 - s.half, log := (addM d (beginM (halfM d (1 - s.half)) (((1 - s.half) * hn d : Nat) : Int) ((hn d : Nat) : Int) s.log.next) (allB (doL s.t l))).2.1, turns := s.turns + 1 }, 0)
  else ((addM d (beginM (halfM d (1 - s.half)) (((1 - s.half) * hn d : Nat) : Int) ((hn d : Nat) : Int) s.log.next) (allB (doL s.t l))).1, s, (addM d (beginM (halfM d (1 - s.half)) (((1 - s.half) * hn d : Nat) : Int) ((hn d : Nat) : Int) s.log.next) (allB (doL s.t l))).2.2)
/-- Changes are written: behind the others, or anew in the other half. -/
def writeC (d : DM) (s : SM) (l : List Ch) : DM × SM × Int :=
  if s.log.first ≠ 0 ∧ (blocksN (chsB l).length : Int) ≤ s.log.n - (s.log.have_ : Int) then
    ((addM d s.log (chsB l)).1, { s with log := (addM d s.log (chsB l)).2.1 }, (addM d s.log (chsB l)).2.2)
  else turnC d s l
/-- What is so of every store. -/
structure SOk (s : SM) : Prop where
  log : s.log.Ok
  half : s.half ≤ 1
  turns : s.turns ≤ 1000000000
/-- Why changes may not be done. -/
def refC (s : SM) (l : List Ch) : Int := if s.e ≠ 0 then s.e else if l.all mayC then 0 else 1
/-- What Apply does. -/
def applyC (d : DM) (s : SM) (l : List Ch) : DM × SM × Int :=
  if refC s l ≠ 0 ∨ l = [] then (d, s, refC s l)
  else if (writeC d s l).2.2 = 0 then ((writeC d s l).1, { (writeC d s l).2.1 with t := doL s.t l }, 0)
  else ((writeC d s l).1, (if (writeC d s l).2.2 = 31 then (writeC d s l).2.1 else { (writeC d s l).2.1 with e := (writeC d s l).2.2 }), (writeC d s l).2.2)
/-- What Open opens where the half that counts is told. -/
def openUp (d : DM) (AT : Int) : SM × Int :=
  if AT = -1 then ((⟨[], 0, beginM (halfM d 0) ((0 * hn d : Nat) : Int) ((hn d : Nat) : Int) (halfM d 1).next, 0, 0⟩ : SM), (0 : Int))
  else upEnd (if AT = 1 then 1 else 0) (if AT = 1 then halfM d 1 else halfM d 0) (upM ((allM (if AT = 1 then halfM d 1 else halfM d 0)).getD []) (if AT = 1 then halfM d 1 else halfM d 0).l.tail)
theorem openC_up {d : DM} (h1 : 1 ≤ hn d) (h2 : d.down = false) : openC d = openUp d (cntM (allM (halfM d 0)).isSome (allM (halfM d 1)).isSome (halfM d 0).first (halfM d 1).first) := by
  unfold openC openUp
  rw [if_neg (by omega), h2, if_neg (by decide)]
theorem may_small {x : Ch} (h : mayC x = true) : 1 ≤ x.k.length ∧ x.k.length ≤ 64 ∧ x.v.length ≤ 4096 ∧ (x.g = true → x.v = []) := by
  unfold mayC at h
  simp only [Bool.and_eq_true, decide_eq_true_eq] at h
  refine ⟨h.1.1, h.1.2, ?_, fun hg => ?_⟩
  · have := h.2
    split at this <;> omega
  · rw [hg] at h
    exact List.eq_nil_of_length_eq_zero (by simpa using h.2)
end Go.Proofs.YtcgnaomffioldaaGreat

/-! What was put is read as it was: the pure part (for CodecBack). -/
namespace Go.Proofs.YtcgnaomffioldaaGreat
open Go.RowKit Codec
theorem fixed_back (b R : List UInt8) (n : Nat) (h : b.length = n) : tkE (b ++ R) 0 (n : Int) = 0 ∧ fxL (b ++ R) 0 (n : Int) = R ∧ fxB (b ++ R) 0 (n : Int) = b := by
  have e : tkE (b ++ R) 0 (n : Int) = 0 := by
    unfold tkE
    rw [if_neg (by simp), if_neg (by omega), if_neg (by simp; omega)]
  refine ⟨e, ?_, ?_⟩
  · unfold fxL; rw [if_pos e]; simp [← h]
  · unfold fxB; rw [if_pos e]; simp [← h]
theorem uint_back (x : Nat) (R : List UInt8) (hx : x < 18446744073709551616) : (rd 0 (put x ++ R)).1 = x ∧ (put x ++ R).drop (rd 0 (put x ++ R)).2.1 = R ∧ (rd 0 (put x ++ R)).2.2 = 0 := by
  rw [rd_put0 hx]
  exact ⟨rfl, List.drop_left, rfl⟩
theorem bytes_back (b R : List UInt8) (h : b.length ≤ 200) : byE ((put b.length ++ b) ++ R) 0 200 = 0 ∧ byL ((put b.length ++ b) ++ R) 0 200 = R ∧ byB ((put b.length ++ b) ++ R) 0 200 = b := by
  obtain ⟨h1, h2, h3⟩ := uint_back b.length (b ++ R) (by omega)
  rw [List.append_assoc]
  have e1 : uiX (put b.length ++ (b ++ R)) 0 = b.length := by unfold uiX; rw [if_pos rfl, h1]
  have e2 : uiL (put b.length ++ (b ++ R)) 0 = b ++ R := by unfold uiL; rw [if_pos rfl, h2]
  have e3 : uiE (put b.length ++ (b ++ R)) 0 = 0 := by unfold uiE; rw [if_pos rfl, h3]; rfl
  obtain ⟨f1, f2, f3⟩ := fixed_back b R b.length rfl
  unfold byE byL byB
  rw [e1, e2, e3]
  have hn : ¬ ((200 : Int) < 0 ∨ (200 : Int) < (b.length : Int)) := by omega
  rw [if_neg (by simp), if_neg hn, if_neg (by simp), if_neg hn, if_neg (by simp), if_neg hn]
  exact ⟨f1, f2, f3⟩
theorem bool_back (v : UInt8) (R : List UInt8) (hv : v.toNat ≤ 1) : boE (v :: R) 0 = 0 ∧ fxL (v :: R) 0 1 = R ∧ boX (v :: R) 0 = (v.toNat == 1) := by
  have e : tkE (v :: R) 0 1 = 0 := by
    unfold tkE
    rw [if_neg (by simp), if_neg (by omega), if_neg (by simp; omega)]
  refine ⟨?_, ?_, ?_⟩
  · unfold boE; rw [e, if_neg (by simp), if_neg (by simp; omega)]
  · unfold fxL; rw [if_pos e]; rfl
  · unfold boX; rw [e, if_neg (by simp)]; rfl
end Go.Proofs.YtcgnaomffioldaaGreat

/-! Cells, pure: what was written is read again. -/
namespace Go.Proofs.YtcgnaomffioldaaGreat
open Go.RowKit Codec

theorem ui_back (x : Nat) (R : List UInt8) (hx : x < 18446744073709551616) : uiX (put x ++ R) 0 = x ∧ uiL (put x ++ R) 0 = R ∧ uiE (put x ++ R) 0 = 0 := by
  obtain ⟨h1, h2, h3⟩ := uint_back x R hx
  exact ⟨by unfold uiX; rw [if_pos rfl, h1], by unfold uiL; rw [if_pos rfl, h2], by unfold uiE; rw [if_pos rfl, h3]; rfl⟩
theorem row_back (b R : List UInt8) (m : Nat) (h : b.length ≤ m) (hm : m ≤ 1000000) : byE (rowB b ++ R) 0 (m : Int) = 0 ∧ byL (rowB b ++ R) 0 (m : Int) = R ∧ byB (rowB b ++ R) 0 (m : Int) = b := by
  have e : rowB b ++ R = put b.length ++ (b ++ R) := by unfold rowB; rw [List.append_assoc]
  obtain ⟨e1, e2, e3⟩ := ui_back b.length (b ++ R) (by omega)
  rw [e]
  obtain ⟨f1, f2, f3⟩ := fixed_back b R b.length rfl
  unfold byE byL byB
  rw [e1, e2, e3]
  have hn : ¬ ((m : Int) < 0 ∨ (m : Int) < (b.length : Int)) := by omega
  rw [if_neg (by simp), if_neg hn, if_neg (by simp), if_neg hn, if_neg (by simp), if_neg hn]
  exact ⟨f1, f2, f3⟩
theorem rc1_back (c : Ch) (R : List UInt8) (h : mayC c = true) : rc1 (chgB c ++ R) 0 = (c, R, 0) := by
  obtain ⟨_, hk, hv, hg⟩ := may_small h
  obtain ⟨k, v, g⟩ := c
  simp only at hk hv hg
  cases g
  · have e : chgB ⟨k, v, false⟩ ++ R = rowB k ++ (0 :: (rowB v ++ R)) := by simp [chgB]
    rw [e]
    obtain ⟨e1, e2, e3⟩ := row_back k (0 :: (rowB v ++ R)) 64 hk (by omega)
    obtain ⟨f1, f2, f3⟩ := bool_back 0 (rowB v ++ R) (by decide)
    obtain ⟨g1, g2, g3⟩ := row_back v R 4096 hv (by omega)
    have e1' : byE (rowB k ++ 0 :: (rowB v ++ R)) 0 64 = 0 := e1
    have e2' : byL (rowB k ++ 0 :: (rowB v ++ R)) 0 64 = 0 :: (rowB v ++ R) := e2
    have e3' : byB (rowB k ++ 0 :: (rowB v ++ R)) 0 64 = k := e3
    unfold rc1
    rw [e1', e2', e3', f1, f2, f3, if_neg (by decide)]
    have g1' : byE (rowB v ++ R) 0 4096 = 0 := g1
    have g2' : byL (rowB v ++ R) 0 4096 = R := g2
    have g3' : byB (rowB v ++ R) 0 4096 = v := g3
    rw [g1', g2', g3']
  · obtain rfl := hg rfl
    have e : chgB ⟨k, [], true⟩ ++ R = rowB k ++ (1 :: R) := by simp [chgB]
    rw [e]
    obtain ⟨e1, e2, e3⟩ := row_back k (1 :: R) 64 hk (by omega)
    obtain ⟨f1, f2, f3⟩ := bool_back 1 R (by decide)
    have e1' : byE (rowB k ++ 1 :: R) 0 64 = 0 := e1
    have e2' : byL (rowB k ++ 1 :: R) 0 64 = 1 :: R := e2
    have e3' : byB (rowB k ++ 1 :: R) 0 64 = k := e3
    unfold rc1
    rw [e1', e2', e3', f1, f2, f3, if_pos (by decide)]
theorem rcGo_back : ∀ (l acc : List Ch) (R : List UInt8), (∀ x ∈ l, mayC x = true) → rcGo l.length acc (ofC l ++ R) 0 = some (acc ++ l, R, 0)
  | [], acc, R, _ => by simp [rcGo, ofC]
  | c :: l, acc, R, h => by
    have hc := h c (by simp)
    have e : ofC (c :: l) ++ R = chgB c ++ (ofC l ++ R) := by simp [ofC]
    rw [e, List.length_cons, rcGo, rc1_back c _ hc, if_neg (by simp [hc]), rcGo_back l _ R fun x hx => h x (by simp [hx])]
    simp
theorem rcM_back {l : List Ch} (h : ∀ x ∈ l, mayC x = true) (hl : l.length < 18446744073709551616) : rcM (chsB l) = some l := by
  have e : chsB l = put 2 ++ (put l.length ++ (ofC l ++ [])) := by simp [chsB]
  obtain ⟨a1, a2, a3⟩ := ui_back 2 (put l.length ++ (ofC l ++ [])) (by omega)
  obtain ⟨b1, b2, b3⟩ := ui_back l.length (ofC l ++ []) hl
  unfold rcM
  rw [e, a1, a2, a3, b1, b2, b3, if_neg (by decide), rcGo_back l [] [] h, rcEnd]
  rfl
/-- Names with bytes that may be. -/
def TMay (t : Tb) : Prop := ∀ p ∈ t, p.1 ≠ [] ∧ p.1.length ≤ 64 ∧ p.2.length ≤ 4096
theorem TMay.nil : TMay [] := fun _ h => by cases h
theorem TMay.chg {t : Tb} (h : TMay t) {c : Ch} (hc : mayC c = true) : TMay (doC t c) := by
  obtain ⟨h1, h2, h3, _⟩ := may_small hc
  intro p hp
  unfold doC at hp
  rcases List.mem_append.1 hp with hp | hp
  · rcases List.mem_append.1 hp with hp | hp
    · exact h p (List.mem_filter.1 hp).1
    · split at hp
      · cases hp
      · simp only [List.mem_singleton] at hp
        rw [hp]
        exact ⟨fun e => by have e1 : c.k = [] := e; rw [e1] at h1; simp at h1, h2, h3⟩
  · exact h p (List.mem_filter.1 hp).1
theorem TMay.chs {t : Tb} (h : TMay t) {l : List Ch} (hl : ∀ x ∈ l, mayC x = true) : TMay (doL t l) := by
  unfold doL
  induction l generalizing t with
  | nil => exact h
  | cons c l ih => exact ih (h.chg (hl c (by simp))) fun x hx => hl x (by simp [hx])
theorem raGo_back : ∀ (t acc : Tb) (last R : List UInt8), TMay t → Srt t → (∀ p ∈ t, last < p.1) → raGo t.length acc last (ofT t ++ R) 0 = some (acc ++ t, R, 0)
  | [], acc, last, R, _, _, _ => by simp [raGo, ofT]
  | p :: t, acc, last, R, hm, hs, hl => by
    obtain ⟨_, hk, hv⟩ := hm p (by simp)
    obtain ⟨hs1, hs2⟩ := List.pairwise_cons.1 hs
    have e : ofT (p :: t) ++ R = rowB p.1 ++ (rowB p.2 ++ (ofT t ++ R)) := by simp [ofT]
    obtain ⟨e1, e2, e3⟩ := row_back p.1 (rowB p.2 ++ (ofT t ++ R)) 64 hk (by omega)
    obtain ⟨g1, g2, g3⟩ := row_back p.2 (ofT t ++ R) 4096 hv (by omega)
    have e1' : byE (rowB p.1 ++ (rowB p.2 ++ (ofT t ++ R))) 0 64 = 0 := e1
    have e2' : byL (rowB p.1 ++ (rowB p.2 ++ (ofT t ++ R))) 0 64 = rowB p.2 ++ (ofT t ++ R) := e2
    have e3' : byB (rowB p.1 ++ (rowB p.2 ++ (ofT t ++ R))) 0 64 = p.1 := e3
    have g1' : byE (rowB p.2 ++ (ofT t ++ R)) 0 4096 = 0 := g1
    have g2' : byL (rowB p.2 ++ (ofT t ++ R)) 0 4096 = ofT t ++ R := g2
    have g3' : byB (rowB p.2 ++ (ofT t ++ R)) 0 4096 = p.2 := g3
    rw [e, List.length_cons, raGo, e1', e2', e3', g1', g2', g3', if_neg (fun h => klt_irr last (Std.lt_of_lt_of_le (hl p (by simp)) h)), raGo_back t _ p.1 R (fun q hq => hm q (by simp [hq])) hs2 hs1]
    simp
theorem raM_back {t : Tb} (h : TMay t) (hs : Srt t) (hl : t.length < 18446744073709551616) : raM (allB t) = some t := by
  have e : allB t = put 1 ++ (put t.length ++ (ofT t ++ [])) := by simp [allB]
  obtain ⟨a1, a2, a3⟩ := ui_back 1 (put t.length ++ (ofT t ++ [])) (by omega)
  obtain ⟨b1, b2, b3⟩ := ui_back t.length (ofT t ++ []) hl
  have hne : ∀ p ∈ t, ([] : List UInt8) < p.1 := fun p hp => by
    have h1 := (h p hp).1
    cases hq : p.1 with
    | nil => exact absurd hq h1
    | cons a b => exact List.nil_lt_cons a b
  unfold raM
  rw [e, a1, a2, a3, b1, b2, b3, if_neg (by decide), raGo_back t [] [] [] h hs hne, raEnd]
  rfl
theorem upM_app : ∀ (bs : List (List UInt8)) (t : Tb) (b : List UInt8), upM t (bs ++ [b]) = match upM t bs with | none => none | some t' => upM t' [b]
  | [], t, b => rfl
  | x :: bs, t, b => by
    rw [List.cons_append, upM, upM]
    rcases rcM x with _ | l
    · rfl
    · exact upM_app bs (doL t l) b
end Go.Proofs.YtcgnaomffioldaaGreat

/-! Cells, pure: how many names there are behind changes. -/
namespace Go.Proofs.YtcgnaomffioldaaGreat
open Go.RowKit Codec

theorem doL_len (t : Tb) (h : Srt t) : ∀ l : List Ch, (doL t l).length ≤ t.length + l.length
  | [] => by simp [doL]
  | c :: l => by
    have h1 := doL_len (doC t c) (h.chg c) l
    have h2 := doC_len h c
    have e : doL t (c :: l) = doL (doC t c) l := rfl
    rw [e, List.length_cons]
    split at h2 <;> split at h2 <;> omega
end Go.Proofs.YtcgnaomffioldaaGreat

/-! Wal, pure: what a log is that was opened or begun. -/
namespace Go.Proofs.YtcgnaomffioldaaGreat
open Go.RowKit

theorem scan_first {x : Nat} : ∀ (bs : List (List UInt8)) (i : Nat) (s : WS), s.first ≤ x → s.fst ≤ x → (∀ b ∈ bs, fL b ≤ x) → (scanW bs i s).first ≤ x
  | [], _, _, h, _, _ => h
  | b :: bs, i, s, h1, h2, hb => by
    have hr := Nat.le_trans readL_le (hb b (by simp))
    rw [scanW]
    split
    · exact h1
    · refine scan_first bs (i + 1) _ ?_ ?_ fun c hc => hb c (by simp [hc])
      · unfold nextW
        split
        · simp only
          split <;> omega
        · exact h1
      · unfold nextW
        split
        · simp only
          split <;> omega
        · simp only
          split <;> omega
theorem scan_few : ∀ (bs : List (List UInt8)) (i : Nat) (s : WS), s.recs.length ≤ s.have_ → s.have_ ≤ i → (scanW bs i s).recs.length ≤ (scanW bs i s).have_ ∧ (scanW bs i s).have_ ≤ i + bs.length
  | [], i, s, h1, h2 => ⟨h1, h2⟩
  | b :: bs, i, s, h1, h2 => by
    rw [scanW]
    split
    · rw [List.length_cons]; omega
    · have hs : (nextW i s (readL b).1 (readL b).2.1 (readL b).2.2).recs.length ≤ (nextW i s (readL b).1 (readL b).2.1 (readL b).2.2).have_ ∧ (nextW i s (readL b).1 (readL b).2.1 (readL b).2.2).have_ ≤ i + 1 := by
        unfold nextW
        split
        · simp only [List.length_append, List.length_singleton]
          omega
        · simp only
          omega
      have := scan_few bs (i + 1) _ hs.1 hs.2
      rw [List.length_cons]
      omega
/-- A log that is opened, or begun, may be: of any blocks. -/
theorem openM_ok {d : DM} {f n : Nat} (hf : f ≤ 65536) (h1 : 1 ≤ n) (hn : n ≤ 65536) (hl : f + n ≤ d.l.length) : (openM (blocksOf d.l (f : Int) (n : Int)) (f : Int) (n : Int)).Ok := by
  have h8 := fun b (hb : b ∈ blocksOf d.l (f : Int) (n : Int)) => val8 b
  have hfew := scan_few (blocksOf d.l (f : Int) (n : Int)) 0 ws0 (Nat.le_refl _) (Nat.le_refl _)
  rw [blocksOf_length hl] at hfew
  have hfs := scan_first (x := 18446744073709551615) (blocksOf d.l (f : Int) (n : Int)) 0 ws0 (Nat.zero_le _) (Nat.zero_le _) (fun b hb => by have := h8 b hb; unfold fL; omega)
  refine ⟨⟨?_, ?_⟩, ⟨?_, ?_⟩, ?_, ?_, ?_, ?_⟩ <;> unfold openM <;> simp only
  · omega
  · omega
  · omega
  · omega
  · omega
  · exact Nat.mod_lt _ (by omega)
  · omega
  · exact hfew.1
theorem beginM_ok {M : LM} (ok : M.Ok) {f n : Int} (hf : M.from_ = f) (hn : M.n = n) {least : Nat} (hl : least < 18446744073709551616) : (beginM M f n least).Ok := by
  have h1 := ok.next
  have h2 := ok.from_
  have h3 := ok.n
  refine ⟨by rw [← hf]; exact h2, by rw [← hn]; exact h3, ?_, ?_, ?_, ?_⟩ <;> unfold beginM <;> simp only
  · rw [← hn]; omega
  · split <;> omega
  · omega
  · simp
end Go.Proofs.YtcgnaomffioldaaGreat

/-! Cells, pure: a store and its disk say the same. -/
namespace Go.Proofs.YtcgnaomffioldaaGreat
open Go.RowKit Codec

/-- A half's blocks. -/
def bl (d : DM) (i : Nat) : List (List UInt8) := blocksOf d.l ((i * hn d : Nat) : Int) ((hn d : Nat) : Int)
theorem halfM_eq (d : DM) (i : Nat) : halfM d i = openM (bl d i) ((i * hn d : Nat) : Int) ((hn d : Nat) : Int) := rfl
theorem hn_two {d : DM} {i : Nat} (hi : i ≤ 1) : i * hn d + hn d ≤ d.l.length := by
  have h : hn d = d.l.length / 2 := rfl
  rcases Nat.le_one_iff_eq_zero_or_eq_one.1 hi with rfl | rfl <;> omega
/-- What is written elsewhere leaves a row of blocks. -/
theorem blocksOf_far {l r : List (List UInt8)} {a f n : Nat} (hl : a + r.length ≤ l.length) (h : a + r.length ≤ f ∨ f + n ≤ a) : blocksOf (putL l a r) (f : Int) (n : Int) = blocksOf l (f : Int) (n : Int) := by
  apply List.ext_getElem?
  intro i
  rw [blocksOf_get, blocksOf_get]
  by_cases hi : i < n
  · rw [if_pos hi, if_pos hi, putL_get hl, if_neg (by omega)]
  · rw [if_neg hi, if_neg hi]
theorem addM_l {d : DM} {m : LM} {f n : Nat} (h : OnD d m f n) (hl : d.left < 0) (b : List UInt8) (hK : m.have_ + blocksN b.length ≤ n) (hx : m.next + blocksN b.length < 18446744073709551616) :
    (addM d m b).1.l = putL d.l (f + m.have_) (recL m.next b (blocksN b.length) (blocksN b.length)) := by
  have hf := h.len
  rw [addM_try h b hK hx]
  have hc := addGo_cases (l := d.l) (a := f + m.have_) (x := m.next) (K := blocksN b.length) (b := b) (by omega) (blocksN b.length) 0 d (by omega) h.up (by simp [recL, putL_nil])
  rcases hc with ⟨h1, h2, _⟩ | ⟨h1, _⟩
  · rw [if_pos h1]
    exact h2
  · omega
/-- A store and its disk say the same; the disk's numbers are below K. -/
structure PS (d : DM) (s : SM) (K : Nat) : Prop where
  on : OnD d s.log (s.half * hn d) (hn d)
  left : d.left < 0
  half : s.half ≤ 1
  hn1 : 1 ≤ hn d
  few : d.l.length ≤ 65536
  e : s.e = 0
  may : TMay s.t
  srt : Srt s.t
  told : (s.log.l = [] ∧ s.t = [] ∧ s.half = 0 ∧ s.log.first = 0 ∧ allM (halfM d 0) = none ∧ allM (halfM d 1) = none) ∨
    (halfM d s.half = s.log ∧ s.log.first ≠ 0 ∧ (∃ r rest t0, s.log.l = r :: rest ∧ raM r = some t0 ∧ upM t0 rest = some s.t) ∧ ((allM (halfM d (1 - s.half))).isSome = true → (halfM d (1 - s.half)).first < s.log.first))
  next : s.log.next ≤ K
  most : mostL (bl d (1 - s.half)) < K
section
variable {d : DM} {s : SM} {K : Nat}
theorem PS.most_own (h : PS d s K) : mostL (bl d s.half) < K := by
  have h1 := h.on.fit.ends
  have h2 := h.on.pos
  have h3 := h.next
  have : mostL (bl d s.half) ≤ s.log.next - 1 := mostL_le.2 fun b hb => by have := h1 b hb; omega
  omega
theorem PS.most_any (h : PS d s K) (i : Nat) (hi : i ≤ 1) : mostL (bl d i) < K := by
  have h1 := h.most_own
  have h2 := h.most
  have h3 := h.half
  rcases Nat.le_one_iff_eq_zero_or_eq_one.1 h3 with h4 | h4 <;> rcases Nat.le_one_iff_eq_zero_or_eq_one.1 hi with h5 | h5 <;> rw [h4] at h1 h2 <;> subst h5 <;> assumption
theorem bl_128 (h : PS d s K) (i : Nat) : ∀ c ∈ bl d i, c.length = 128 := blocksOf_128 h.on.ok _ _
theorem PS.half_next (h : PS d s K) (i : Nat) (hi : i ≤ 1) (hK : K < 18446744073709551616) : (halfM d i).next = mostL (bl d i) + 1 := by
  have := h.most_any i hi
  rw [halfM_eq]
  unfold openM
  simp only
  exact Nat.mod_eq_of_lt (by omega)
theorem PS.begin_ (h : PS d s K) (i : Nat) (hi : i ≤ 1) (hK : K < 18446744073709551615) (least : Nat) : OnD d (beginM (halfM d i) ((i * hn d : Nat) : Int) ((hn d : Nat) : Int) least) (i * hn d) (hn d) :=
  begin_on h.on.ok h.on.up (hn_two hi) (by have := h.most_any i hi; unfold bl at this; omega)
theorem PS.begin_next (h : PS d s K) (i : Nat) (hi : i ≤ 1) (hK : K < 18446744073709551615) {least : Nat} (hl : least ≤ K) : least ≤ (beginM (halfM d i) ((i * hn d : Nat) : Int) ((hn d : Nat) : Int) least).next ∧ (beginM (halfM d i) ((i * hn d : Nat) : Int) ((hn d : Nat) : Int) least).next ≤ K ∧ mostL (bl d i) < (beginM (halfM d i) ((i * hn d : Nat) : Int) ((hn d : Nat) : Int) least).next := by
  have h1 := h.half_next i hi (by omega)
  have h2 := h.most_any i hi
  unfold beginM
  simp only
  rw [h1]
  split <;> omega
/-- Opened anew it is the same. -/
theorem PS.open_ (h : PS d s K) (hK : K < 18446744073709551615) : ∃ s', openC d = (s', 0) ∧ PS d s' K ∧ s'.t = s.t ∧ s'.turns = 0 ∧ (s.log.l = [] → s'.log.l = []) := by
  have hu := openC_up h.hn1 h.on.up
  rcases h.told with ⟨h1, h2, h3, h4, h5, h6⟩ | ⟨h1, h2, ⟨r, rest, t0, h3, h4, h5⟩, h6⟩
  · have hat : cntM (allM (halfM d 0)).isSome (allM (halfM d 1)).isSome (halfM d 0).first (halfM d 1).first = -1 := by rw [h5, h6]; rfl
    rw [hat] at hu
    unfold openUp at hu
    rw [if_pos rfl] at hu
    have hn1 := h.half_next 1 (by omega) (by omega)
    have hm1 := h.most_any 1 (by omega)
    have hb := h.begin_next 0 (by omega) hK (least := (halfM d 1).next) (by omega)
    refine ⟨_, hu, ⟨h.begin_ 0 (by omega) hK _, h.left, Nat.zero_le _, h.hn1, h.few, rfl, TMay.nil, Srt.nil, .inl ⟨rfl, rfl, rfl, rfl, h5, h6⟩, hb.2.1, hm1⟩, h2.symm, rfl, fun _ => rfl⟩
  · have hal : allM (halfM d s.half) = some t0 := by rw [h1]; unfold allM; rw [h3]; exact h4
    rcases Nat.le_one_iff_eq_zero_or_eq_one.1 h.half with h7 | h7
    · rw [h7] at h1 h6 hal
      have hat : cntM (allM (halfM d 0)).isSome (allM (halfM d 1)).isSome (halfM d 0).first (halfM d 1).first = 0 := by
        rw [hal, h1]
        unfold cntM
        rcases hq : (allM (halfM d 1)).isSome
        · rfl
        · have := h6 hq
          have hn : ¬ s.log.first < (halfM d 1).first := by simp at this; omega
          simp [hn]
      rw [hat] at hu
      unfold openUp at hu
      rw [if_neg (by decide)] at hu
      simp only [show ((0:Int) = 1) = False from by simp, if_false] at hu
      rw [hal, h1, h3] at hu
      simp only [Option.getD_some, List.tail_cons] at hu
      rw [h5, upEnd] at hu
      have hs' : PS d ⟨s.t, 0, s.log, 0, 0⟩ K := ⟨by have := h.on; rw [h7] at this; exact this, h.left, Nat.zero_le _, h.hn1, h.few, rfl, h.may, h.srt, .inr ⟨h1, h2, ⟨r, rest, t0, h3, h4, h5⟩, h6⟩, h.next, by have := h.most; rw [h7] at this; exact this⟩
      exact ⟨_, hu, hs', rfl, rfl, id⟩
    · rw [h7] at h1 h6 hal
      have hat : cntM (allM (halfM d 0)).isSome (allM (halfM d 1)).isSome (halfM d 0).first (halfM d 1).first = 1 := by
        rw [hal, h1]
        unfold cntM
        rcases hq : (allM (halfM d 0)).isSome
        · rfl
        · have := h6 hq
          have hn : (halfM d 0).first < s.log.first := by simpa using this
          simp [hn]
      rw [hat] at hu
      unfold openUp at hu
      rw [if_neg (by decide)] at hu
      simp only [if_true] at hu
      rw [hal, h1, h3] at hu
      simp only [Option.getD_some, List.tail_cons] at hu
      rw [h5, upEnd] at hu
      have hs' : PS d ⟨s.t, 1, s.log, 0, 0⟩ K := ⟨by have := h.on; rw [h7] at this; exact this, h.left, Nat.le_refl _, h.hn1, h.few, rfl, h.may, h.srt, .inr ⟨h1, h2, ⟨r, rest, t0, h3, h4, h5⟩, h6⟩, h.next, by have := h.most; rw [h7] at this; exact this⟩
      exact ⟨_, hu, hs', rfl, rfl, id⟩
theorem hn_len {d d' : DM} (h : d'.l.length = d.l.length) : hn d' = hn d := by unfold hn; rw [h]
/-- A half's log has fewer records than blocks; its first number is below the next one. -/
theorem PS.half_few (h : PS d s K) (i : Nat) (hi : i ≤ 1) : (halfM d i).Ok := by
  have h2 := hn_two (d := d) hi
  have h3 := h.few
  have h4 := h.hn1
  rw [halfM_eq]
  exact openM_ok (by omega) h4 (by omega) h2
theorem half_first (d : DM) (i : Nat) : (halfM d i).first ≤ mostL (bl d i) := by
  have hs := scan_first (x := mostL (bl d i)) (bl d i) 0 ws0 (Nat.zero_le _) (Nat.zero_le _) fun b hb => (most_mem hb).1
  rw [halfM_eq]
  unfold openM
  exact hs
/-- The other half where one is written. -/
theorem bl_far (h : PS d s K) {i j : Nat} (hi : i ≤ 1) (hj : j ≤ 1) (hne : i ≠ j) {m : LM} (on : OnD d m (i * hn d) (hn d)) (b : List UInt8) (hKb : m.have_ + blocksN b.length ≤ hn d) (hx : m.next + blocksN b.length < 18446744073709551616) : bl (addM d m b).1 j = bl d j := by
  have hl := addM_l on h.left b hKb hx
  have hlen := addM_len d m b
  have h2i := hn_two (d := d) hi
  have h2j := hn_two (d := d) hj
  unfold bl
  rw [hn_len hlen, hl]
  refine blocksOf_far (by rw [recL_length]; omega) ?_
  rw [recL_length]
  rcases Nat.le_one_iff_eq_zero_or_eq_one.1 hi with rfl | rfl <;> rcases Nat.le_one_iff_eq_zero_or_eq_one.1 hj with rfl | rfl
  · exact absurd rfl hne
  · left; omega
  · right; omega
  · exact absurd rfl hne
/-- What Apply does with such a store. -/
structure ApR (d : DM) (s : SM) (l : List Ch) (K : Nat) : Prop where
  err : (applyC d s l).2.2 = 1 ∨ (applyC d s l).2.2 = 31 ∨ (applyC d s l).2.2 = 0
  no : (applyC d s l).2.2 ≠ 0 → (applyC d s l).1 = d ∧ (applyC d s l).2.1 = s
  one : (applyC d s l).2.2 = 1 ↔ l.all mayC = false
  yes : (applyC d s l).2.2 = 0 → PS (applyC d s l).1 (applyC d s l).2.1 (K + hn d) ∧ (applyC d s l).2.1.t = doL s.t l ∧ s.turns ≤ (applyC d s l).2.1.turns ∧ (applyC d s l).2.1.turns ≤ s.turns + 1 ∧ (l ≠ [] → s.log.l = [] → (applyC d s l).2.1.turns = s.turns + 1) ∧ (l ≠ [] → (applyC d s l).2.1.log.l ≠ [])
  len : (applyC d s l).1.l.length = d.l.length
  full : (applyC d s l).2.2 = 31 → hn d < blocksN (allB (doL s.t l)).length
theorem PS.more (h : PS d s K) {K' : Nat} (hK : K ≤ K') : PS d s K' := ⟨h.on, h.left, h.half, h.hn1, h.few, h.e, h.may, h.srt, h.told, Nat.le_trans h.next hK, Nat.lt_of_lt_of_le h.most hK⟩
theorem PS.apply_ (h : PS d s K) (l : List Ch) (hl : l.length < 18446744073709551616) (htl : s.t.length + l.length < 18446744073709551616) (hK : K + 65536 < 18446744073709551615) : ApR d s l K := by
  have hrf : refC s l = if l.all mayC then 0 else 1 := by unfold refC; rw [if_neg (by simp [h.e])]
  have hhn : hn d ≤ 65536 := by have h1 : hn d = d.l.length / 2 := rfl; have := h.few; omega
  by_cases hm : l.all mayC = true
  · rw [hm, if_pos rfl] at hrf
    have hma : ∀ x ∈ l, mayC x = true := fun x hx => List.all_eq_true.1 hm x hx
    by_cases hn0 : l = []
    · have ha : applyC d s l = (d, s, 0) := by unfold applyC; rw [if_pos (.inr hn0), hrf]
      subst hn0
      refine ⟨by rw [ha]; exact .inr (.inr rfl), by rw [ha]; exact fun h => absurd rfl h, by rw [ha]; simp, fun _ => ?_, by rw [ha], by rw [ha]; exact fun h => absurd h (by simp)⟩
      rw [ha]
      exact ⟨h.more (by omega), rfl, Nat.le_refl _, Nat.le_succ _, fun h => absurd rfl h, fun h => absurd rfl h⟩
    · have hcond : ¬ (refC s l ≠ 0 ∨ l = []) := by rw [hrf]; simp [hn0]
      have hmn : TMay (doL s.t l) := h.may.chs hma
      have hsn : Srt (doL s.t l) := h.srt.chs l
      -- what a turn does
      have hturn : (writeC d s l = turnC d s l) → ApR d s l K := fun hw => by
        have ho : 1 - s.half ≤ 1 := by omega
        have hob := h.begin_ (1 - s.half) ho (by omega) s.log.next
        have hnx := h.begin_next (1 - s.half) ho (by omega) h.next
        obtain ⟨M, hM⟩ : ∃ M, M = beginM (halfM d (1 - s.half)) (((1 - s.half) * hn d : Nat) : Int) ((hn d : Nat) : Int) s.log.next := ⟨_, rfl⟩
        rw [← hM] at hob hnx
        have hM0 : M.have_ = 0 ∧ M.l = [] := by rw [hM]; exact ⟨rfl, rfl⟩
        have htu : turnC d s l = if (addM d M (allB (doL s.t l))).2.2 = 0 then ((addM d M (allB (doL s.t l))).1, { s with half := 1 - s.half, log := (addM d M (allB (doL s.t l))).2.1, turns := s.turns + 1 }, 0) else ((addM d M (allB (doL s.t l))).1, s, (addM d M (allB (doL s.t l))).2.2) := by
          unfold turnC
          rw [h.on.up, if_neg (by decide), hM]
        by_cases hfit : blocksN (allB (doL s.t l)).length ≤ hn d
        · obtain ⟨g1, g2, g3, g4⟩ := addM_go hob h.left (allB (doL s.t l)) (by omega) (by omega)
          have hlen := addM_len d M (allB (doL s.t l))
          have hfar := bl_far h ho h.half (by omega) hob (allB (doL s.t l)) (by omega) (by omega)
          have hz : (addM d M (allB (doL s.t l))).2.2 = 0 := by rw [g1]
          have hz1 : (addM d M (allB (doL s.t l))).2.1 = addOk M (allB (doL s.t l)) := by rw [g1]
          rw [if_pos hz, hz1] at htu
          have ha : applyC d s l = ((addM d M (allB (doL s.t l))).1, { s with t := doL s.t l, half := 1 - s.half, log := addOk M (allB (doL s.t l)), turns := s.turns + 1 }, 0) := by
            unfold applyC
            rw [if_neg hcond, hw, htu, if_pos rfl]
          generalize (addM d M (allB (doL s.t l))).1 = d' at *
          have hh : hn d' = hn d := hn_len hlen
          have hfst : (addOk M (allB (doL s.t l))).first = M.next := by unfold addOk; simp only; rw [if_pos hM0.1]
          have hal' : (addOk M (allB (doL s.t l))).l = [allB (doL s.t l)] := by unfold addOk; simp only; rw [hM0.2]; rfl
          have h11 : 1 - (1 - s.half) = s.half := by have := h.half; omega
          refine ⟨by rw [ha]; exact .inr (.inr rfl), by rw [ha]; exact fun h => absurd rfl h, by rw [ha]; simp [hm], fun _ => ?_, by rw [ha]; exact hlen, by rw [ha]; exact fun h => absurd h (by simp)⟩
          rw [ha]
          refine ⟨⟨by simp only; rw [hh]; exact g3, g2, ho, by rw [hh]; exact h.hn1, by rw [hlen]; exact h.few, h.e, hmn, hsn, .inr ⟨?_, ?_, ⟨allB (doL s.t l), [], doL s.t l, hal', raM_back hmn hsn (by have := doL_len s.t h.srt l; omega), rfl⟩, ?_⟩, ?_, ?_⟩, rfl, by simp, by simp, fun _ _ => rfl, fun _ => by simp only; rw [hal']; simp⟩
          · simp only
            rw [halfM_eq]
            unfold bl
            rw [hh]
            exact g4
          · simp only
            rw [hfst]
            have := hob.pos
            omega
          · simp only
            rw [h11, hfst]
            intro _
            have hfe : halfM d' s.half = halfM d s.half := by rw [halfM_eq, halfM_eq, hfar, hh]
            rw [hfe]
            have h1 := half_first d s.half
            have h2 : mostL (bl d s.half) ≤ s.log.next - 1 := mostL_le.2 fun b hb => by have := h.on.fit.ends b hb; omega
            have h3 := h.on.pos
            omega
          · show (addOk M (allB (doL s.t l))).next ≤ K + hn d
            have hx : (addOk M (allB (doL s.t l))).next = M.next + blocksN (allB (doL s.t l)).length := rfl
            omega
          · simp only
            rw [h11, hfar]
            have := h.most_own
            omega
        · have hful := addM_full hob (allB (doL s.t l)) (by omega)
          rw [hful] at htu
          rw [if_neg (by simp)] at htu
          have ha : applyC d s l = (d, s, 31) := by
            unfold applyC
            rw [if_neg hcond, hw, htu, if_neg (show ¬ ((31:Int) = 0) by decide)]
            simp
          exact ⟨by rw [ha]; exact .inr (.inl rfl), by rw [ha]; exact fun _ => ⟨rfl, rfl⟩, by rw [ha]; simp [hm], by rw [ha]; exact fun h => absurd h (by simp), by rw [ha], fun _ => Nat.lt_of_not_le hfit⟩
      rcases h.told with ⟨t1, t2, t3, t4, t5, t6⟩ | ⟨t1, t2, ⟨r, rest, t0, t3, t4, t5⟩, t6⟩
      · exact hturn (by unfold writeC; rw [if_neg (fun hh => hh.1 t4)])
      · by_cases hroom : (blocksN (chsB l).length : Int) ≤ s.log.n - (s.log.have_ : Int)
        · have hlogn := h.on.n_
          have hKb : s.log.have_ + blocksN (chsB l).length ≤ hn d := by omega
          have hnk := h.next
          obtain ⟨g1, g2, g3, g4⟩ := addM_go h.on h.left (chsB l) hKb (by omega)
          have hlen := addM_len d s.log (chsB l)
          have ho : 1 - s.half ≤ 1 := by omega
          have hfar := bl_far h h.half ho (by have := h.half; omega) h.on (chsB l) hKb (by omega)
          have hw : writeC d s l = ((addM d s.log (chsB l)).1, { s with log := addOk s.log (chsB l) }, 0) := by
            unfold writeC
            rw [if_pos ⟨t2, hroom⟩, g1]
          have ha : applyC d s l = ((addM d s.log (chsB l)).1, { s with t := doL s.t l, log := addOk s.log (chsB l) }, 0) := by
            unfold applyC
            rw [if_neg hcond, hw, if_pos rfl]
          generalize (addM d s.log (chsB l)).1 = d' at *
          have hh : hn d' = hn d := hn_len hlen
          have hfew := (h.half_few s.half h.half).few
          rw [t1, t3, List.length_cons] at hfew
          have hfst : (addOk s.log (chsB l)).first = s.log.first := by unfold addOk; simp only; rw [if_neg (by omega)]
          have hal' : (addOk s.log (chsB l)).l = r :: (rest ++ [chsB l]) := by unfold addOk; simp only; rw [t3]; rfl
          refine ⟨by rw [ha]; exact .inr (.inr rfl), by rw [ha]; exact fun h => absurd rfl h, by rw [ha]; simp [hm], fun _ => ?_, by rw [ha]; exact hlen, by rw [ha]; exact fun h => absurd h (by simp)⟩
          rw [ha]
          refine ⟨⟨by simp only; rw [hh]; exact g3, g2, h.half, by rw [hh]; exact h.hn1, by rw [hlen]; exact h.few, h.e, hmn, hsn, .inr ⟨?_, ?_, ⟨r, rest ++ [chsB l], t0, hal', t4, ?_⟩, ?_⟩, ?_, ?_⟩, rfl, Nat.le_refl _, by simp, (fun _ h0 => by rw [t3] at h0; cases h0), fun _ => by simp only; rw [hal']; simp⟩
          · simp only
            rw [halfM_eq]
            unfold bl
            rw [hh]
            exact g4
          · simp only
            rw [hfst]
            exact t2
          · rw [upM_app, t5]
            simp only
            simp only [upM, rcM_back hma hl]
          · simp only
            rw [hfst]
            have hfe : halfM d' (1 - s.half) = halfM d (1 - s.half) := by rw [halfM_eq, halfM_eq, hfar, hh]
            rw [hfe]
            exact t6
          · show (addOk s.log (chsB l)).next ≤ K + hn d
            have hx : (addOk s.log (chsB l)).next = s.log.next + blocksN (chsB l).length := rfl
            omega
          · simp only
            rw [hfar]
            have := h.most
            omega
        · exact hturn (by unfold writeC; rw [if_neg (fun hh => hroom hh.2)])
  · have hm' : l.all mayC = false := by simpa using hm
    rw [hm', if_neg (by simp)] at hrf
    have ha : applyC d s l = (d, s, 1) := by unfold applyC; rw [if_pos (.inl (by rw [hrf]; simp)), hrf]
    exact ⟨by rw [ha]; exact .inl rfl, by rw [ha]; exact fun _ => ⟨rfl, rfl⟩, by rw [ha]; simp [hm'], by rw [ha]; exact fun h => absurd h (by simp), by rw [ha], by rw [ha]; exact fun h => absurd h (by simp)⟩
end
end Go.Proofs.YtcgnaomffioldaaGreat

/-! The library at this seat: maps.Keys, slices.Sorted, slices.Sort, maps.Clone. -/
namespace Go.Proofs
open Go.Shelf
def Tryz.keysL_ren : Go.Shelf.Ren := ⟨fun | 7 => 51 | 10 => 76 | n => n, fun | 23 => 76 | 26 => 9 | 3 => 54 | 28 => 112 | 0 => 0 | 27 => 111 | 33 => 142 | 4 => 4 | n => n, fun | n => n⟩
theorem Tryz.keysL : Go.Proofs.SlLaysZ.n7 Tryz.prog Tryz.keysL_ren := {
  mixed := by kernel_rfl
  f7 := ⟨Tryz.f51.name, by decide, Tryz.func51.trans (congrArg some (by kernel_rfl))⟩
  f10 := ⟨Tryz.f76.name, by decide, Tryz.func76.trans (congrArg some (by kernel_rfl))⟩
  t0 := Tryz.underlying0
  a0 := Tryz.isAgg0
  z0 := Tryz.sizeOf0
  v0 := Tryz.zeroValue0
  t4 := Tryz.underlying4
  a4 := Tryz.isAgg4
  z4 := Tryz.sizeOf4
  v4 := Tryz.zeroValue4
  t23 := Tryz.underlying76
  a23 := Tryz.isAgg76
  z23 := Tryz.sizeOf76
  v23 := Tryz.zeroValue76
  t26 := Tryz.underlying9
  a26 := Tryz.isAgg9
  z26 := Tryz.sizeOf9
  v26 := Tryz.zeroValue9
  t27 := Tryz.underlying111
  a27 := Tryz.isAgg111
  z27 := Tryz.sizeOf111
  v27 := Tryz.zeroValue111
  t28 := Tryz.underlying112
  a28 := Tryz.isAgg112
  z28 := Tryz.sizeOf112
  v28 := Tryz.zeroValue112
  t33 := Tryz.underlying142
  a33 := Tryz.isAgg142
  z33 := Tryz.sizeOf142
  v33 := Tryz.zeroValue142 }
def Tryz.sortedL_ren : Go.Shelf.Ren := ⟨fun | 6 => 50 | 8 => 74 | 9 => 75 | 11 => 100 | 13 => 102 | 12 => 101 | 23 => 124 | 24 => 125 | 14 => 115 | 15 => 116 | 16 => 117 | 17 => 118 | 18 => 119 | 19 => 120 | 20 => 121 | 21 => 122 | 22 => 123 | 25 => 126 | 26 => 127 | 27 => 128 | 28 => 129 | 29 => 130 | 30 => 131 | 31 => 132 | n => n, fun | 26 => 9 | 28 => 112 | 24 => 28 | 0 => 0 | 3 => 3 | 37 => 169 | 48 => 193 | 50 => 37 | 4 => 4 | 40 => 185 | 39 => 184 | 45 => 190 | 5 => 5 | 9 => 9 | 51 => 195 | 55 => 198 | 57 => 200 | 58 => 201 | 33 => 142 | n => n, fun | n => n⟩
theorem Tryz.sortedL : Go.Proofs.SlLaysZ.n6 Tryz.prog Tryz.sortedL_ren := {
  mixed := by kernel_rfl
  f6 := ⟨Tryz.f50.name, by decide, Tryz.func50.trans (congrArg some (by kernel_rfl))⟩
  f8 := ⟨Tryz.f74.name, by decide, Tryz.func74.trans (congrArg some (by kernel_rfl))⟩
  f11 := ⟨Tryz.f100.name, by decide, Tryz.func100.trans (congrArg some (by kernel_rfl))⟩
  t0 := Tryz.underlying0
  a0 := Tryz.isAgg0
  z0 := Tryz.sizeOf0
  v0 := Tryz.zeroValue0
  t24 := Tryz.underlying28
  a24 := Tryz.isAgg28
  z24 := Tryz.sizeOf28
  v24 := Tryz.zeroValue28
  t26 := Tryz.underlying9
  a26 := Tryz.isAgg9
  z26 := Tryz.sizeOf9
  v26 := Tryz.zeroValue9
  t28 := Tryz.underlying112
  a28 := Tryz.isAgg112
  z28 := Tryz.sizeOf112
  v28 := Tryz.zeroValue112
  i26 := by kernel_rfl }
def Tryz.sortL_ren : Go.Shelf.Ren := ⟨fun | 6 => 75 | 8 => 102 | 9 => 101 | 19 => 124 | 20 => 125 | 21 => 115 | 22 => 116 | 23 => 117 | 24 => 118 | 25 => 119 | 26 => 120 | 27 => 121 | 28 => 122 | 29 => 123 | 36 => 126 | 31 => 127 | 32 => 128 | 37 => 129 | 38 => 130 | 39 => 131 | 41 => 132 | n => n, fun | 27 => 28 | 29 => 9 | 3 => 3 | 32 => 169 | 26 => 28 | 0 => 0 | 44 => 193 | 46 => 37 | 4 => 4 | 36 => 185 | 35 => 184 | 41 => 190 | 5 => 5 | 9 => 9 | 53 => 195 | 57 => 198 | 63 => 200 | 64 => 201 | n => n, fun | n => n⟩
theorem Tryz.sortL : Go.Proofs.SlLaysM.n6 Tryz.prog Tryz.sortL_ren := {
  mixed := by kernel_rfl
  f6 := ⟨Tryz.f75.name, by decide, Tryz.func75.trans (congrArg some (by kernel_rfl))⟩
  f8 := Tryz.func102.trans (congrArg some (by kernel_rfl))
  f9 := ⟨Tryz.f101.name, by decide, Tryz.func101.trans (congrArg some (by kernel_rfl))⟩
  f19 := Tryz.func124.trans (congrArg some (by kernel_rfl))
  f20 := Tryz.func125.trans (congrArg some (by kernel_rfl))
  f21 := ⟨Tryz.f115.name, by decide, Tryz.func115.trans (congrArg some (by kernel_rfl))⟩
  f22 := ⟨Tryz.f116.name, by decide, Tryz.func116.trans (congrArg some (by kernel_rfl))⟩
  f23 := ⟨Tryz.f117.name, by decide, Tryz.func117.trans (congrArg some (by kernel_rfl))⟩
  f24 := ⟨Tryz.f118.name, by decide, Tryz.func118.trans (congrArg some (by kernel_rfl))⟩
  f25 := ⟨Tryz.f119.name, by decide, Tryz.func119.trans (congrArg some (by kernel_rfl))⟩
  f26 := ⟨Tryz.f120.name, by decide, Tryz.func120.trans (congrArg some (by kernel_rfl))⟩
  f27 := ⟨Tryz.f121.name, by decide, Tryz.func121.trans (congrArg some (by kernel_rfl))⟩
  f28 := ⟨Tryz.f122.name, by decide, Tryz.func122.trans (congrArg some (by kernel_rfl))⟩
  f29 := ⟨Tryz.f123.name, by decide, Tryz.func123.trans (congrArg some (by kernel_rfl))⟩
  f31 := Tryz.func127.trans (congrArg some (by kernel_rfl))
  f32 := Tryz.func128.trans (congrArg some (by kernel_rfl))
  f36 := ⟨Tryz.f126.name, by decide, Tryz.func126.trans (congrArg some (by kernel_rfl))⟩
  f37 := ⟨Tryz.f129.name, by decide, Tryz.func129.trans (congrArg some (by kernel_rfl))⟩
  f38 := ⟨Tryz.f130.name, by decide, Tryz.func130.trans (congrArg some (by kernel_rfl))⟩
  f39 := ⟨Tryz.f131.name, by decide, Tryz.func131.trans (congrArg some (by kernel_rfl))⟩
  f41 := ⟨Tryz.f132.name, by decide, Tryz.func132.trans (congrArg some (by kernel_rfl))⟩
  t0 := Tryz.underlying0
  a0 := Tryz.isAgg0
  z0 := Tryz.sizeOf0
  v0 := Tryz.zeroValue0
  t3 := Tryz.underlying3
  a3 := Tryz.isAgg3
  z3 := Tryz.sizeOf3
  v3 := Tryz.zeroValue3
  t4 := Tryz.underlying4
  a4 := Tryz.isAgg4
  z4 := Tryz.sizeOf4
  v4 := Tryz.zeroValue4
  t5 := Tryz.underlying5
  a5 := Tryz.isAgg5
  z5 := Tryz.sizeOf5
  v5 := Tryz.zeroValue5
  t9 := Tryz.underlying9
  a9 := Tryz.isAgg9
  z9 := Tryz.sizeOf9
  v9 := Tryz.zeroValue9
  t26 := Tryz.underlying28
  a26 := Tryz.isAgg28
  z26 := Tryz.sizeOf28
  v26 := Tryz.zeroValue28
  t27 := Tryz.underlying28
  a27 := Tryz.isAgg28
  z27 := Tryz.sizeOf28
  v27 := Tryz.zeroValue28
  t29 := Tryz.underlying9
  a29 := Tryz.isAgg9
  z29 := Tryz.sizeOf9
  v29 := Tryz.zeroValue9
  t32 := Tryz.underlying169
  a32 := Tryz.isAgg169
  z32 := Tryz.sizeOf169
  v32 := Tryz.zeroValue169
  t35 := Tryz.underlying184
  a35 := Tryz.isAgg184
  z35 := Tryz.sizeOf184
  v35 := Tryz.zeroValue184
  t36 := Tryz.underlying185
  a36 := Tryz.isAgg185
  z36 := Tryz.sizeOf185
  v36 := Tryz.zeroValue185
  t41 := Tryz.underlying190
  a41 := Tryz.isAgg190
  z41 := Tryz.sizeOf190
  v41 := Tryz.zeroValue190
  t44 := Tryz.underlying193
  a44 := Tryz.isAgg193
  z44 := Tryz.sizeOf193
  v44 := Tryz.zeroValue193
  t46 := Tryz.underlying37
  a46 := Tryz.isAgg37
  z46 := Tryz.sizeOf37
  v46 := Tryz.zeroValue37
  t53 := Tryz.underlying195
  a53 := Tryz.isAgg195
  z53 := Tryz.sizeOf195
  v53 := Tryz.zeroValue195
  t57 := Tryz.underlying198
  a57 := Tryz.isAgg198
  z57 := Tryz.sizeOf198
  v57 := Tryz.zeroValue198
  t63 := Tryz.underlying200
  a63 := Tryz.isAgg200
  z63 := Tryz.sizeOf200
  v63 := Tryz.zeroValue200
  t64 := Tryz.underlying201
  a64 := Tryz.isAgg201
  z64 := Tryz.sizeOf201
  v64 := Tryz.zeroValue201 }
def Tryz.cloneL_ren : Go.Shelf.Ren := ⟨fun | 5 => 96 | 7 => 114 | n => n, fun | 23 => 76 | 25 => 9 | 3 => 54 | 4 => 4 | 20 => 20 | n => n, fun | n => n⟩
theorem Tryz.cloneL : Go.Proofs.SlLaysW.n5 Tryz.prog Tryz.cloneL_ren := {
  mixed := by kernel_rfl
  f5 := ⟨Tryz.f96.name, by decide, Tryz.func96.trans (congrArg some (by kernel_rfl))⟩
  f7 := Tryz.func114.trans (congrArg some (by kernel_rfl))
  t4 := Tryz.underlying4
  a4 := Tryz.isAgg4
  z4 := Tryz.sizeOf4
  v4 := Tryz.zeroValue4
  t20 := Tryz.underlying20
  a20 := Tryz.isAgg20
  z20 := Tryz.sizeOf20
  v20 := Tryz.zeroValue20
  t23 := Tryz.underlying76
  a23 := Tryz.isAgg76
  z23 := Tryz.sizeOf76
  v23 := Tryz.zeroValue76 }
end Go.Proofs

/-! Cells: the names of a map, in order. -/
namespace Go.Proofs.YtcgnaomffioldaaGreat
open Go.RowKit Go.Maps Go.Sort Go.Shelf Codec

theorem sorts_wide (m : Nat) : AnyZ.SortsIn Tryz.prog Tryz.sortedL_ren Fence.wide m :=
  ⟨fun blk off cap ss W hH hblk hsz => callsIn_wide.2 (AnyM.slices_Sort_string Tryz.sortL blk off cap ss W hH hblk hsz),
   fun p cap W => callsIn_wide.2 (AnyM.slices_Sort_string_none Tryz.sortL p cap W)⟩
theorem keys_func (mb : Option Nat) (W : World) : Calls Tryz.prog 51 #[.map mb] W fun e w' => e = .returned (.func (.func 76) #[] #[.pointer (some ⟨W.heap.size, 0, none⟩)]) ∧ w' = W.alloc (.cells #[.map mb] 76) :=
  callsIn_wide.1 (AnyZ.keys_in Tryz.keysL Fence.wide 5 trivial rfl mb W)
set_option maxHeartbeats 1000000 in
theorem keys_sorted {w : World} {S : Nat → Prop} {b : Nat} {t : Tb} (h : Nms w S b t) (hf : t.length ≤ 100000000) :
    Calls Tryz.prog 50 #[.func (.func 76) #[] #[.pointer (some ⟨w.heap.size, 0, none⟩)]] (w.alloc (.cells #[.map (some b)] 76)) fun e w' => ∃ A n c, e = .returned (.slice A n c) ∧ Strs w' (w.heap.size ≤ ·) A n c (t.map (·.1)) ∧ Below w.heap.size w w' := by
  obtain ⟨_, D, hown, ha⟩ := h
  have hbl := hown.lt
  have hsz : Maps.size D ≤ 100000000 := by rw [ha.size]; exact hf
  have hseq : SeqGives Fence.wide 2 Tryz.prog 76 #[.pointer (some ⟨w.heap.size, 0, none⟩)] encStr (fun ss => ss.Perm (strKeys D)) (Maps.size D) (w.alloc (.cells #[.map (some b)] 76)) :=
    AnyZ.keys_gives (ρ := Tryz.keysL_ren) { Tryz.keysL with } Fence.wide _ trivial rfl (by omega) w.heap.size b t.length D _ (by simp) (by simp) (by
      obtain ⟨es, clock, hb, Ft, hs, hD⟩ := hown
      exact ⟨es, clock, (Below.heap_alloc _ _ b hbl).trans hb, Ft, hs, hD⟩)
  have hS := AnyZ.sorted_in Tryz.sortedL Fence.wide 5 trivial trivial trivial trivial rfl (by omega) (sorts_wide _) (enters_of Tryz.func75 (by kernel_rfl) rfl) 76 #[.pointer (some ⟨w.heap.size, 0, none⟩)] trivial (enters_of Tryz.func76 (by kernel_rfl) rfl) _ _ (by unfold maxLen; omega) (by omega) _ hseq
  refine (callsIn_wide.1 hS).mono ?_
  rintro e w' ⟨v, ss, rfl, hperm, hrow, _, hb⟩
  have hk := ha.keys hown hperm
  rw [hk] at hrow
  have hlen : ss.length = (t.map (·.1)).length := by rw [← hk, List.length_mergeSort]
  rw [hlen] at hrow
  obtain ⟨A, c, rfl, hs⟩ := own_strs (l := t.map (·.1)) hrow
  have hb0 : Below w.heap.size w (w.alloc (.cells #[.map (some b)] 76)) := (Below.refl _ _).alloc (Nat.le_refl _) _
  exact ⟨A, _, c, rfl, hs.mono fun k _ hk => by have h1 : (w.alloc (.cells #[.map (some b)] 76)).heap.size ≤ k := hk; simp at h1; show w.heap.size ≤ k; omega, hb0.trans (hb.mono (by simp))⟩
end Go.Proofs.YtcgnaomffioldaaGreat
