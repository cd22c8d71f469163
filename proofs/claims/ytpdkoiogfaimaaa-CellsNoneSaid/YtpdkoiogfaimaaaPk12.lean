/-
  A log that is opened, or begun: what it is.
  Cells: a store in memory; what only reads it.
  Cells, pure: what Open and Apply do with a disk.
  Cells: changes in memory; whether one may be; a string's copy.
  Cells: changes that grow in memory; what reading takes.
  codec.Writer: what each of its methods does, told of a writer that holds a list of bytes ('Wr').
-/
import Derived.Test.YtpdkoiogfaimaaaPk11
import Derived.Test.YtpdkoiogfaimaaaPk03
import Derived.Test.YtpdkoiogfaimaaaPk02
import Derived.Lib.Strings
import Derived.Lib.Walk
import Derived.Lib.BufferWrite
import Derived.Lib.UnsafeStr
import Derived.Laws.MakeOwn
import Derived.Maps.AppendAt
import Derived.Deep.AppendLies
/-! A log that is opened, or begun: what it is. -/
namespace Go.Proofs.Ytpdkoiogfaimaaa
open Go.RowKit

/-- The value of a log that may be none. -/
def lgV : Option Nat → Value
  | some p => .pointer (some ⟨p, 0, none⟩)
  | none => .pointer none
theorem openErr_range (l : Nat) (b : Bool) (f n : Int) : openErr l b f n = 0 → 0 ≤ f ∧ 1 ≤ n ∧ f + n ≤ (l : Int) ∧ b = false := by
  unfold openErr
  split
  · intro h; exact absurd h (by decide)
  · split
    · intro h; exact absurd h (by decide)
    · intro _
      rename_i h1 h2 _
      exact ⟨by omega, by omega, by omega, by cases b with | true => exact absurd rfl h2 | false => rfl⟩
theorem scan_first {x : Nat} : ∀ (bs : List (List UInt8)) (i : Nat) (s : WS), s.first ≤ x → s.fst ≤ x → (∀ b ∈ bs, fL b ≤ x) → (scanW bs i s).first ≤ x
  | [], _, _, h, _, _ => h
  | b :: bs, i, s, h1, h2, hb => by
    have hr := Nat.le_trans readL_le (hb b (by simp))
    rw [scanW]
    split
    · exact h1
    · refine scan_first bs (i + 1) _ ?_ ?_ fun c hc => hb c (by simp [hc])
      · unfold nextW
        split
        · simp only
          split <;> omega
        · exact h1
      · unfold nextW
        split
        · simp only
          split <;> omega
        · simp only
          split <;> omega
theorem scan_few : ∀ (bs : List (List UInt8)) (i : Nat) (s : WS), s.recs.length ≤ s.have_ → s.have_ ≤ i → (scanW bs i s).recs.length ≤ (scanW bs i s).have_ ∧ (scanW bs i s).have_ ≤ i + bs.length
  | [], i, s, h1, h2 => ⟨h1, h2⟩
  | b :: bs, i, s, h1, h2 => by
    rw [scanW]
    split
    · rw [List.length_cons]; omega
    · have hs : (nextW i s (readL b).1 (readL b).2.1 (readL b).2.2).recs.length ≤ (nextW i s (readL b).1 (readL b).2.1 (readL b).2.2).have_ ∧ (nextW i s (readL b).1 (readL b).2.1 (readL b).2.2).have_ ≤ i + 1 := by
        unfold nextW
        split
        · simp only [List.length_append, List.length_singleton]
          omega
        · simp only
          omega
      have := scan_few bs (i + 1) _ hs.1 hs.2
      rw [List.length_cons]
      omega
/-- A log that is opened, or begun, may be: of any blocks. -/
theorem openM_ok {d : DM} {f n : Nat} (hf : f ≤ 65536) (h1 : 1 ≤ n) (hn : n ≤ 65536) (hl : f + n ≤ d.l.length) : (openM (blocksOf d.l (f : Int) (n : Int)) (f : Int) (n : Int)).Ok := by
  have h8 := fun b (hb : b ∈ blocksOf d.l (f : Int) (n : Int)) => val8 b
  have hfew := scan_few (blocksOf d.l (f : Int) (n : Int)) 0 ws0 (Nat.le_refl _) (Nat.le_refl _)
  rw [blocksOf_length hl] at hfew
  have hfs := scan_first (x := 18446744073709551615) (blocksOf d.l (f : Int) (n : Int)) 0 ws0 (Nat.zero_le _) (Nat.zero_le _) (fun b hb => by have := h8 b hb; unfold fL; omega)
  refine ⟨⟨?_, ?_⟩, ⟨?_, ?_⟩, ?_, ?_, ?_, ?_⟩ <;> unfold openM <;> simp only
  · omega
  · omega
  · omega
  · omega
  · omega
  · exact Nat.mod_lt _ (by omega)
  · omega
  · exact hfew.1
theorem beginM_ok {M : LM} (ok : M.Ok) {f n : Int} (hf : M.from_ = f) (hn : M.n = n) {least : Nat} (hl : least < 18446744073709551616) : (beginM M f n least).Ok := by
  have h1 := ok.next
  have h2 := ok.from_
  have h3 := ok.n
  refine ⟨by rw [← hf]; exact h2, by rw [← hn]; exact h3, ?_, ?_, ?_, ?_⟩ <;> unfold beginM <;> simp only
  · rw [← hn]; omega
  · split <;> omega
  · omega
  · simp
theorem MadeL.cases {W : World} {g : Nat} {M : LM} {E : Int} {e : Ending} {w' : World} (h : MadeL W g M E e w') : ∃ po, e = .returned (.tuple #[lgV po, .int .i64 E]) ∧ ((E = 0 → ∃ p, po = some p ∧ Lg w' (W.heap.size ≤ ·) p g M) ∧ (E ≠ 0 → po = none)) ∧ Below W.heap.size W w' := by
  obtain ⟨h5, hb⟩ := h
  by_cases hz : E = 0
  · rw [if_pos hz] at h5
    obtain ⟨p, h6, h7⟩ := h5
    exact ⟨some p, by rw [h6, hz]; rfl, ⟨fun _ => ⟨p, rfl, h7⟩, fun h => absurd hz h⟩, hb⟩
  · rw [if_neg hz] at h5
    exact ⟨none, by rw [h5]; rfl, ⟨fun h => absurd h hz, fun _ => rfl⟩, hb⟩
end Go.Proofs.Ytpdkoiogfaimaaa

/-! Cells: a store in memory; what only reads it. -/
namespace Go.Proofs.Ytpdkoiogfaimaaa
open Go.RowKit Codec

/-- A STORE, but for its disk. -/
structure SM where
  t : Tb
  half : Nat
  log : LM
  turns : Nat
  e : Int
def scV (g q b : Nat) (s : SM) : Array Value := #[.pointer (some ⟨g, 0, none⟩), .int .i64 (s.half : Int), .pointer (some ⟨q, 0, none⟩), .map (some b), .int .i64 (s.turns : Int), .int .i64 s.e]
/-- A STORE IN MEMORY: in blocks of S. -/
def Cs (w : World) (S : Nat → Prop) (p g : Nat) (s : SM) : Prop :=
  ∃ (q b : Nat) (SL SN : Nat → Prop), S p ∧ w.heap[p]? = some (.cells (scV g q b s) 53 (0, 0)) ∧ Lg w SL q g s.log ∧ Nms w SN b s.t ∧ (∀ k, k < w.heap.size → SL k → S k ∧ k ≠ p ∧ ¬ SN k) ∧ (∀ k, k < w.heap.size → SN k → S k ∧ k ≠ p)
section
variable {w w' : World} {S T : Nat → Prop} {p g : Nat} {s : SM}
theorem Cs.turned (h : Cs w S p g s) (ht : Turned T w w') (hd : ∀ k, k < w.heap.size → S k → ¬ T k) : Cs w' S p g s := by
  obtain ⟨q, b, SL, SN, h1, h2, h3, h4, h5, h6⟩ := h
  refine ⟨q, b, fun k => SL k ∧ k < w.heap.size, fun k => SN k ∧ k < w.heap.size, h1, (ht.block p (lt_of_cells h2) (hd p (lt_of_cells h2) h1)).trans h2, (h3.mono (T := fun k => SL k ∧ k < w.heap.size) fun k hk hs => ⟨hs, hk⟩).turned ht fun k hk hs => hd k hk (h5 k hk hs.1).1,
    (h4.mono (T := fun k => SN k ∧ k < w.heap.size) fun k hk hs => ⟨hs, hk⟩).turned ht fun k hk hs => hd k hk (h6 k hk hs.1).1, fun k _ hs => ?_, fun k _ hs => h6 k hs.2 hs.1⟩
  have h7 := h5 k hs.2 hs.1
  exact ⟨h7.1, h7.2.1, fun h => h7.2.2 h.1⟩
theorem Cs.below (h : Cs w S p g s) (hb : Below w.heap.size w w') : Cs w' S p g s :=
  h.turned (T := fun _ => False) (Turned.of_below hb) fun _ _ _ h => h
theorem Cs.mono (h : Cs w S p g s) (hT : ∀ k, k < w.heap.size → S k → T k) : Cs w T p g s := by
  obtain ⟨q, b, SL, SN, h1, h2, h3, h4, h5, h6⟩ := h
  exact ⟨q, b, SL, SN, hT p (lt_of_cells h2) h1, h2, h3, h4, fun k hk hs => ⟨hT k hk (h5 k hk hs).1, (h5 k hk hs).2⟩, fun k hk hs => ⟨hT k hk (h6 k hk hs).1, (h6 k hk hs).2⟩⟩
theorem Cs.drew (h : Cs w S p g s) : Cs w.drew S p g s := h.below ⟨rfl, rfl, rfl, Nat.le_refl _, fun _ _ => rfl⟩
theorem Cs.lt (h : Cs w S p g s) : p < w.heap.size := by
  obtain ⟨q, b, SL, SN, h1, h2, _⟩ := h
  exact lt_of_cells h2
theorem Cs.srt (h : Cs w S p g s) : Srt s.t := by
  obtain ⟨q, b, SL, SN, h1, h2, h3, h4, _⟩ := h
  exact h4.srt
end
section
variable {w : World} {S : Nat → Prop} {p g : Nat} {s : SM}
set_option maxHeartbeats 1000000 in
theorem cget_nil (k : List UInt8) (w : World) : Calls Try.prog 8 #[.pointer none, .string (st k)] w fun e w' => e = .returned (.tuple #[.slice none 0 0, .bool false]) ∧ w = w' := by
  go_enter Try.func8, Try.ntmps8
  go_wp2_with fail
  go_ret2
  exact ⟨rfl, rfl⟩
theorem ckeys_nil (w : World) : Calls Try.prog 12 #[.pointer none] w fun e w' => e = .returned (.slice none 0 0) ∧ w = w' := by
  go_enter Try.func12, Try.ntmps12
  go_wp2_with fail
  go_ret
  exact ⟨rfl, rfl⟩
theorem cerr_nil (w : World) : Calls Try.prog 13 #[.pointer none] w fun e w' => e = .returned (.int .i64 1) ∧ w = w' := by
  go_enter Try.func13, Try.ntmps13
  go_wp2_with fail
  go_ret
  exact ⟨rfl, rfl⟩
theorem cturns_nil (w : World) : Calls Try.prog 14 #[.pointer none] w fun e w' => e = .returned (.int .i64 0) ∧ w = w' := by
  go_enter Try.func14, Try.ntmps14
  go_wp2_with fail
  go_ret
  exact ⟨rfl, rfl⟩
theorem cerr_any (h : Cs w S p g s) : Calls Try.prog 13 #[.pointer (some ⟨p, 0, none⟩)] w fun e w' => e = .returned (.int .i64 s.e) ∧ w = w' := by
  obtain ⟨q, b, SL, SN, h1, h2, h3, h4, _⟩ := h
  have hc : w.cell? ⟨p, 5, none⟩ = some (.int .i64 s.e) := cell_of_cells h2 5
  clear h2 h3 h4
  go_enter Try.func13, Try.ntmps13
  go_wp2_with fail
  go_ret
  exact ⟨rfl, rfl⟩
theorem cturns_any (h : Cs w S p g s) : Calls Try.prog 14 #[.pointer (some ⟨p, 0, none⟩)] w fun e w' => e = .returned (.int .i64 (s.turns : Int)) ∧ w = w' := by
  obtain ⟨q, b, SL, SN, h1, h2, h3, h4, _⟩ := h
  have hc : w.cell? ⟨p, 4, none⟩ = some (.int .i64 (s.turns : Int)) := cell_of_cells h2 4
  clear h2 h3 h4
  go_enter Try.func14, Try.ntmps14
  go_wp2_with fail
  go_ret
  exact ⟨rfl, rfl⟩
theorem ckeys_any (h : Cs w S p g s) (hf : s.t.length ≤ 100000000) : Calls Try.prog 12 #[.pointer (some ⟨p, 0, none⟩)] w fun e w' => ∃ A n c, e = .returned (.slice A n c) ∧ Strs w' (w.heap.size ≤ ·) A n c (s.t.map (·.1)) ∧ Below w.heap.size w w' := by
  obtain ⟨q, b, SL, SN, h1, h2, h3, h4, _⟩ := h
  have hc : w.cell? ⟨p, 3, none⟩ = some (.map (some b)) := cell_of_cells h2 3
  have hks := keys_func (some b) w
  have hss := keys_sorted h4 hf
  clear h2 h3 h4
  go_enter Try.func12, Try.ntmps12
  go_wp2_with (first
    | (go_at_call 29; refine hks.mono ?_; clear hks; rintro _ _ ⟨rfl, rfl⟩)
    | (go_at_call 28; refine hss.mono ?_; clear hss; rintro _ w4 ⟨A4, n4, c4, rfl, hs4, hb4⟩))
  go_ret
  exact ⟨A4, n4, c4, rfl, hs4, hb4⟩
/-- What Get tells. -/
def GetP (w : World) (r : Option (List UInt8)) (e : Ending) (w' : World) : Prop :=
  ∃ A n c, e = .returned (.tuple #[.slice A n c, .bool r.isSome]) ∧ Byt w' (w.heap.size ≤ ·) A n c (r.getD []) ∧ Below w.heap.size w w'
theorem cget_any (h : Cs w S p g s) (k : List UInt8) (hk : k.length ≤ 1000000) (hv : ((getT s.t k).getD []).length ≤ 1000000) : Calls Try.prog 8 #[.pointer (some ⟨p, 0, none⟩), .string (st k)] w fun e w' => GetP w (getT s.t k) e w' := by
  obtain ⟨q, b, SL, SN, h1, h2, h3, h4, _⟩ := h
  have hc : w.cell? ⟨p, 3, none⟩ = some (.map (some b)) := cell_of_cells h2 3
  obtain ⟨A, n, c, hlk, _, hy⟩ := h4.look hk
  have hcl := clone_byt hy (by have := hy.len; omega)
  clear h2 h3 h4 hy
  go_enter Try.func8, Try.ntmps8
  go_wp2_with (go_at_call 18; refine hcl.mono ?_; clear hcl; rintro _ w4 ⟨A4, c4, rfl, hy4, hb4, _⟩)
  go_ret2
  exact ⟨A4, n, c4, rfl, hy4, hb4⟩
/-! ### a disk's halves -/
theorem size_any {w : World} {S : Nat → Prop} {g : Nat} {d : DM} (h : Dk w S g d) :
    Calls Try.prog 19 #[.pointer (some ⟨g, 0, none⟩)] w fun e w' => e = .returned (.int .i64 ((d.l.length / 2 : Nat) : Int)) ∧ w = w' := by
  have hl := blen_any h
  go_enter Try.func19, Try.ntmps19
  go_wp2_with (go_at_call 30; refine hl.mono ?_; clear hl; rintro _ _ ⟨rfl, rfl⟩)
  go_ret
  have hq2 : wrap64 ((d.l.length : Int) / 2) = (d.l.length : Int) / 2 := IntWalk.wrap64_in _ (by have := h.few; omega)
  exact ⟨by simp [hq2], rfl⟩
theorem size_nil (w : World) :
    Calls Try.prog 19 #[.pointer none] w fun e w' => e = .returned (.int .i64 0) ∧ w = w' := by
  have hl := blen_nil w
  go_enter Try.func19, Try.ntmps19
  go_wp2_with (go_at_call 30; refine hl.mono ?_; clear hl; rintro _ _ ⟨rfl, rfl⟩)
  go_ret
  exact ⟨rfl, rfl⟩
theorem hbegin_any {w : World} {S : Nat → Prop} {g : Nat} {d : DM} (hd : Dk w S g d) (at_ : Nat) (ha : at_ ≤ 1) (least : Nat) (hl : least < 18446744073709551616) :
    Calls Try.prog 22 #[.pointer (some ⟨g, 0, none⟩), .int .i64 (at_ : Int), .int .u64 (least : Int)] w fun e w' =>
      MadeL w g (beginM (openM (blocksOf d.l ((at_ * (d.l.length / 2) : Nat) : Int) ((d.l.length / 2 : Nat) : Int)) ((at_ * (d.l.length / 2) : Nat) : Int) ((d.l.length / 2 : Nat) : Int)) ((at_ * (d.l.length / 2) : Nat) : Int) ((d.l.length / 2 : Nat) : Int) least) (openErr d.l.length d.down ((at_ * (d.l.length / 2) : Nat) : Int) ((d.l.length / 2 : Nat) : Int)) e w' := by
  have hsz := size_any hd
  have hfew := hd.few
  obtain ⟨n, hn⟩ : ∃ n, n = d.l.length / 2 := ⟨_, rfl⟩
  have hn2 : n ≤ 32768 := by omega
  rw [← hn] at hsz ⊢
  obtain ⟨f, hf⟩ : ∃ f, f = at_ * n := ⟨_, rfl⟩
  have hf2 : f ≤ 32768 := by rw [hf]; rcases Nat.le_one_iff_eq_zero_or_eq_one.1 ha with rfl | rfl <;> omega
  have hmul : IntKind.i64.wrap ((at_ : Int) * (n : Int)) = (f : Int) := by rw [IntWalk.i64_in _ (by rw [← Int.natCast_mul, ← hf]; omega), hf]; simp
  have hbg := wbegin_any hd (f : Int) (n : Int) (by omega) (by omega) least hl
  rw [← hf]
  clear hd hn hfew
  have HF := Lib.hid hf
  clear hf
  go_enter Try.func22, Try.ntmps22
  go_wp2_with (first
    | (go_at_call 19; refine hsz.mono ?_; rintro _ _ ⟨rfl, rfl⟩)
    | (go_at_call 35; refine hbg.mono ?_; clear hbg; rintro _ w2 h2; have H2 := Lib.hid h2; obtain ⟨po, rfl, _, _⟩ := h2.cases; clear h2))
  go_ret2
  exact H2.out
end
end Go.Proofs.Ytpdkoiogfaimaaa

/-! Cells, pure: what Open and Apply do with a disk. -/
namespace Go.Proofs.Ytpdkoiogfaimaaa
open Go.RowKit Codec

/-- How many blocks a half has. -/
def hn (d : DM) : Nat := d.l.length / 2
/-- A half's log, as it is there. -/
def halfM (d : DM) (i : Nat) : LM := openM (blocksOf d.l ((i * hn d : Nat) : Int) ((hn d : Nat) : Int)) ((i * hn d : Nat) : Int) ((hn d : Nat) : Int)
/-- What its record of all says. -/
def allM (m : LM) : Option Tb := match m.l with | [] => none | r :: _ => raM r
/-- The half that counts; -1: none does. -/
def cntM (c0 c1 : Bool) (f0 f1 : Nat) : Int := if c1 && (!c0 || decide (f0 < f1)) then 1 else if c0 then 0 else -1
/-- The changes of records, one behind the other. -/
def upM (t : Tb) : List (List UInt8) → Option Tb
  | [] => some t
  | b :: bs => match rcM b with
    | none => none
    | some l => upM (doL t l) bs
/-- What a half is that counts, with the names behind its changes; or one of these was broken. -/
def upEnd (i : Nat) (m : LM) : Option Tb → SM × Int
  | none => (⟨[], 0, lm0, 0, 0⟩, 37)
  | some t => (⟨t, i, m, 0, 0⟩, 0)
/-- What Open opens, and its error. -/
def openC (d : DM) : SM × Int :=
  if hn d < 1 then (⟨[], 0, lm0, 0, 0⟩, 1)
  else if d.down then (⟨[], 0, lm0, 0, 0⟩, 30)
  else
    let a := halfM d 0
    let b := halfM d 1
    let at_ := cntM (allM a).isSome (allM b).isSome a.first b.first
    if at_ = -1 then (⟨[], 0, beginM a ((0 * hn d : Nat) : Int) ((hn d : Nat) : Int) b.next, 0, 0⟩, 0)
    else
      upEnd (if at_ = 1 then 1 else 0) (if at_ = 1 then b else a) (upM ((allM (if at_ = 1 then b else a)).getD []) (if at_ = 1 then b else a).l.tail)
/-- All is written anew in the other half. -/
def turnC (d : DM) (s : SM) (l : List Ch) : DM × SM × Int :=
  if d.down then (d, s, 30)
  else if (addM d (beginM (halfM d (1 - s.half)) (((1 - s.half) * hn d : Nat) : Int) ((hn d : Nat) : Int) s.log.next) (allB (doL s.t l))).2.2 = 0 then
    ((addM d (beginM (halfM d (1 - s.half)) (((1 - s.half) * hn d : Nat) : Int) ((hn d : Nat) : Int) s.log.next) (allB (doL s.t l))).1, { s with half := 1 - s.half, log := (addM d (beginM (halfM d (1 - s.half)) (((1 - s.half) * hn d : Nat) : Int) ((hn d : Nat) : Int) s.log.next) (allB (doL s.t l))).2.1, turns := s.turns + 1 }, 0)
  else ((addM d (beginM (halfM d (1 - s.half)) (((1 - s.half) * hn d : Nat) : Int) ((hn d : Nat) : Int) s.log.next) (allB (doL s.t l))).1, s, (addM d (beginM (halfM d (1 - s.half)) (((1 - s.half) * hn d : Nat) : Int) ((hn d : Nat) : Int) s.log.next) (allB (doL s.t l))).2.2)
/-- Changes are written: behind the others, or anew in the other half. -/
def writeC (d : DM) (s : SM) (l : List Ch) : DM × SM × Int :=
  if s.log.first ≠ 0 ∧ (blocksN (chsB l).length : Int) ≤ s.log.n - (s.log.have_ : Int) then
    ((addM d s.log (chsB l)).1, { s with log := (addM d s.log (chsB l)).2.1 }, (addM d s.log (chsB l)).2.2)
  else turnC d s l
/-- What is so of every store. -/
structure SOk (s : SM) : Prop where
  log : s.log.Ok
  half : s.half ≤ 1
  turns : s.turns ≤ 1000000000
/-- Why changes may not be done. -/
def refC (s : SM) (l : List Ch) : Int := if s.e ≠ 0 then s.e else if l.all mayC then 0 else 1
/-- What Apply does. -/
def applyC (d : DM) (s : SM) (l : List Ch) : DM × SM × Int :=
  if refC s l ≠ 0 ∨ l = [] then (d, s, refC s l)
  else if (writeC d s l).2.2 = 0 then ((writeC d s l).1, { (writeC d s l).2.1 with t := doL s.t l }, 0)
  else ((writeC d s l).1, (if (writeC d s l).2.2 = 31 then (writeC d s l).2.1 else { (writeC d s l).2.1 with e := (writeC d s l).2.2 }), (writeC d s l).2.2)
end Go.Proofs.Ytpdkoiogfaimaaa

/-! Cells: changes in memory; whether one may be; a string's copy. -/
namespace Go.Proofs.Ytpdkoiogfaimaaa
open Go.RowKit Codec

theorem cell_turned {T : Nat → Prop} {w w' : World} (ht : Turned T w w') {k : Nat} (hk : k < w.heap.size) (hT : ¬ T k) (o : Nat) : w'.cell? ⟨k, o, none⟩ = w.cell? ⟨k, o, none⟩ :=
  World.cell?_of_block (w := w) (a := ⟨k, o, none⟩) (ht.block k hk hT)
/-- A change's cells. -/
def chV (A : Option Addr) (n c : Nat) (x : Ch) : Array Value := #[.string (st x.k), .slice A n c, .bool x.g]
theorem chg_info : (Try.prog.info? 25).map (·.size) = some 3 := by kernel_rfl
theorem zero_chg : ∀ W, (zeroValue 25).run Try.prog W = .ok (.agg #[.string ⟨#[]⟩, .slice none 0 0, .bool false]) W := fun W => by kernel_rfl
theorem chV_one (A : Option Addr) (n c : Nat) (x : Ch) : (chV A n c x).all (·.oneCell') = true := by simp [chV, Value.oneCell']
/-- CHANGES IN MEMORY. -/
structure Chs (w : World) (S : Nat → Prop) (A : Option Addr) (n c : Nat) (l : List Ch) : Prop where
  len : l.length = n
  cap : n ≤ c
  max : c ≤ maxLen
  row : 0 < n → ∃ b off, A = some ⟨b, off, none⟩ ∧ S b ∧ b < w.heap.size ∧ ∀ i x, l[i]? = some x → ∃ Ai ni ci, (∀ (j : Nat) (v : Value), (chV Ai ni ci x)[j]? = some v → w.cell? ⟨b, off + i * 3 + j, none⟩ = some v) ∧ Byt w S Ai ni ci x.v
variable {w w' : World} {S T : Nat → Prop} {A : Option Addr} {n c : Nat} {l : List Ch}
theorem Chs.turned (h : Chs w S A n c l) (ht : Turned T w w') (hd : ∀ k, k < w.heap.size → S k → ¬ T k) : Chs w' S A n c l :=
  ⟨h.len, h.cap, h.max, fun h0 => by
    obtain ⟨b, off, h1, h2, h3, h4⟩ := h.row h0
    refine ⟨b, off, h1, h2, Nat.lt_of_lt_of_le h3 ht.size, fun i x hx => ?_⟩
    obtain ⟨Ai, ni, ci, h5, h6⟩ := h4 i x hx
    exact ⟨Ai, ni, ci, fun j v hv => (cell_turned ht h3 (hd b h3 h2) _).trans (h5 j v hv), h6.turned ht hd⟩⟩
theorem Chs.below (h : Chs w S A n c l) (hb : Below w.heap.size w w') : Chs w' S A n c l :=
  h.turned (T := fun _ => False) ⟨hb.os, hb.tape, hb.output, hb.size, fun k hk _ => hb.block k hk⟩ fun _ _ _ h => h
theorem Chs.mono (h : Chs w S A n c l) (hT : ∀ k, k < w.heap.size → S k → T k) : Chs w T A n c l :=
  ⟨h.len, h.cap, h.max, fun h0 => by
    obtain ⟨b, off, h1, h2, h3, h4⟩ := h.row h0
    refine ⟨b, off, h1, hT b h3 h2, h3, fun i x hx => ?_⟩
    obtain ⟨Ai, ni, ci, h5, h6⟩ := h4 i x hx
    exact ⟨Ai, ni, ci, h5, h6.mono hT⟩⟩
theorem Chs.nil (w : World) (S : Nat → Prop) (A : Option Addr) (c : Nat) (hc : c ≤ maxLen) : Chs w S A 0 c [] := ⟨rfl, Nat.zero_le _, hc, fun h => absurd h (by omega)⟩
theorem Chs.at_ (h : Chs w S A n c l) {i : Nat} (hi : i < n) : ∃ b off x Ai ni ci, A = some ⟨b, off, none⟩ ∧ S b ∧ b < w.heap.size ∧ l[i]? = some x ∧ (∀ (j : Nat) (v : Value), (chV Ai ni ci x)[j]? = some v → w.cell? ((⟨b, off + i * 3, none⟩ : Addr).add j) = some v) ∧ Byt w S Ai ni ci x.v := by
  obtain ⟨b, off, h1, h2, h3, h4⟩ := h.row (by omega)
  have hx : l[i]? = some (l[i]'(by have := h.len; omega)) := List.getElem?_eq_getElem _
  obtain ⟨Ai, ni, ci, h5, h6⟩ := h4 i _ hx
  exact ⟨b, off, _, Ai, ni, ci, h1, h2, h3, hx, fun j v hv => by rw [add_plain]; exact h5 j v hv, h6⟩

/-! ### whether one may be -/
set_option maxHeartbeats 1000000 in
set_option maxRecDepth 100000 in
theorem maybe_any (x : Ch) (A : Option Addr) (c : Nat) (w : World) :
    Calls Try.prog 37 #[.agg (chV A x.v.length c x)] w fun e w' => e = .returned (.bool (mayC x)) ∧ Below w.heap.size w w' := by
  have hks := st_size x.k
  obtain ⟨k, v, g⟩ := x
  have hal : ∀ o, Below w.heap.size w (w.alloc o) := fun o => (Below.refl _ _).alloc (Nat.le_refl _) o
  have HAL := Lib.hid hal
  unfold chV mayC
  simp only at hks ⊢
  generalize k.length = K at *
  generalize v.length = V at *
  clear hal
  cases g
  · by_cases h1 : 1 ≤ K
    · by_cases h2 : K ≤ 64
      · by_cases h3 : V ≤ 4096
        · have e1 : (1 : Int) ≤ (K : Int) := by omega
          have e2 : (K : Int) ≤ 64 := by omega
          have e3 : (V : Int) ≤ 4096 := by omega
          go_enter Try.func37, Try.ntmps37
          go_wp2_with fail
          go_ret
          exact ⟨by simp [*] <;> omega, HAL.out _⟩
        · have e1 : (1 : Int) ≤ (K : Int) := by omega
          have e2 : (K : Int) ≤ 64 := by omega
          have e3 : ¬ (V : Int) ≤ 4096 := by omega
          go_enter Try.func37, Try.ntmps37
          go_wp2_with fail
          go_ret
          exact ⟨by simp [*] <;> omega, HAL.out _⟩
      · have e1 : (1 : Int) ≤ (K : Int) := by omega
        have e2 : ¬ (K : Int) ≤ 64 := by omega
        go_enter Try.func37, Try.ntmps37
        go_wp2_with fail
        go_ret
        exact ⟨by simp [*] <;> omega, HAL.out _⟩
    · have e1 : ¬ (1 : Int) ≤ (K : Int) := by omega
      go_enter Try.func37, Try.ntmps37
      go_wp2_with fail
      go_ret
      exact ⟨by simp [*] <;> omega, HAL.out _⟩
  · by_cases h1 : 1 ≤ K
    · by_cases h2 : K ≤ 64
      · by_cases h3 : V ≤ 0
        · have e1 : (1 : Int) ≤ (K : Int) := by omega
          have e2 : (K : Int) ≤ 64 := by omega
          have e3 : (V : Int) ≤ 0 := by omega
          go_enter Try.func37, Try.ntmps37
          go_wp2_with fail
          go_ret
          exact ⟨by simp [*] <;> omega, HAL.out _⟩
        · have e1 : (1 : Int) ≤ (K : Int) := by omega
          have e2 : (K : Int) ≤ 64 := by omega
          have e3 : ¬ (V : Int) ≤ 0 := by omega
          go_enter Try.func37, Try.ntmps37
          go_wp2_with fail
          go_ret
          exact ⟨by simp [*] <;> omega, HAL.out _⟩
      · have e1 : (1 : Int) ≤ (K : Int) := by omega
        have e2 : ¬ (K : Int) ≤ 64 := by omega
        go_enter Try.func37, Try.ntmps37
        go_wp2_with fail
        go_ret
        exact ⟨by simp [*] <;> omega, HAL.out _⟩
    · have e1 : ¬ (1 : Int) ≤ (K : Int) := by omega
      go_enter Try.func37, Try.ntmps37
      go_wp2_with fail
      go_ret
      exact ⟨by simp [*] <;> omega, HAL.out _⟩

/-! ### a string's copy -/
set_option maxHeartbeats 4000000 in
set_option maxRecDepth 100000 in
/-- internal/stringslite.Clone. -/
theorem slclone_any (s : ByteArray) (w : World) (hlim : s.size ≤ 1000000) :
    Calls Try.prog 68 #[.string s] w fun e w' => e = .returned (.string s) ∧ Below w.heap.size w w' := by
  by_cases h0 : s.size = 0
  · have hs : s = ⟨#[]⟩ := by
      apply ByteArray.ext
      exact Array.eq_empty_of_size_eq_zero h0
    subst hs
    go_enter Try.func68, Try.ntmps68
    go_wp2
    go_ret
    exact ⟨rfl, Below.refl _ _⟩
  · obtain ⟨i0, hi, hz0, hz1, hz2⟩ := info_parts u8_info
    have hinfo : (Try.prog.info? 5).map (·.size) = some 1 := by rw [hi]; simp [hz1]
    have hco : Try.prog.cellsOf 5 = 1 := by simp [Program.cellsOf, hi, hz1]
    obtain ⟨M, hM⟩ : ∃ M, M = madeCells (Value.int .u8 0).cells (((s.size : Nat) : Int).toNat * i0.size) := ⟨_, rfl⟩
    have hMs : M.size = s.size := by rw [hM, size_madeCells, hz1]; simp
    have hmk : ∀ W : World, (Instr.makeSlice 23 (.int .i64 (s.size : Int)) (.int .i64 (s.size : Int))).run Try.prog W = .ok (.slice (some ⟨W.heap.size, 0, none⟩) s.size s.size) (W.alloc (.cells M 5)) := fun W => by
      have h := run_make (P := Try.prog) W 23 5 i0 (.int .u8 0) Try.underlying23 hi hz0 .i64 .i64 (s.size : Int) (s.size : Int) (by omega) (by omega) (by rw [hz2]; omega) (by omega)
      rw [← hM] at h
      simpa using h
    clear hM
    have hcp := Lib.run_copy_row_string (P := Try.prog) (w.alloc (.cells M 5)) 23 9 3 5 w.heap.size 0 s.size s.size s M 5 Try.underlying23 hinfo (heap_alloc_new w _) (Nat.le_refl _) (by omega)
    obtain ⟨Y, hY⟩ : ∃ Y, Y = (M.toList.take 0 ++ Lib.byteCells s.data.toList ++ M.toList.drop (0 + s.size)).toArray := ⟨_, rfl⟩
    rw [← hY] at hcp
    have hYl : Y.toList = Lib.byteCells s.data.toList := by
      rw [hY, List.toList_toArray, List.take_zero, List.nil_append, List.drop_of_length_le (by rw [Array.length_toList]; omega), List.append_nil]
    have hYs : Y.size = s.size := by rw [← Array.length_toList, hYl, Lib.byteCells_length, ← Lib.size_eq]
    have hgY : ((w.alloc (.cells M 5)).setRow w.heap.size Y).heap[w.heap.size]? = some (.cells Y 5 (0, 0)) := setRow_heap _ _ M _ 5 (0, 0) (heap_alloc_new w _)
    have hne : s.data.toList ≠ [] := fun e => h0 (by rw [Lib.size_eq, e]; rfl)
    have hUS := Lib.run_unsafeString_row (P := Try.prog) ((w.alloc (.cells M 5)).setRow w.heap.size Y) 138 3 9 5 Try.underlying138 hco w.heap.size Y.size (by unfold World.shape?; rw [hgY]) s.data.toList hne (by rw [← Lib.size_eq]; omega) (by rw [← Lib.size_eq]; omega)
      (fun j x hx => Lib.cells_of_row hgY Y.size j _ (by rw [List.take_of_length_le (by rw [Array.length_toList]; exact Nat.le_refl _), hYl]; simp [Lib.byteCells, hx]))
    rw [← Lib.size_eq] at hUS
    clear hY
    go_enter Try.func68, Try.ntmps68
    go_wp2
    go_ret
    have hb1 : Below w.heap.size w (w.alloc (.cells M 5)) := (Below.refl _ w).alloc (Nat.le_refl _) _
    have hb2 : Below w.heap.size (w.alloc (.cells M 5)) ((w.alloc (.cells M 5)).setRow w.heap.size Y) := ⟨rfl, rfl, rfl, by simp, fun k hk => setRow_other _ _ _ _ (by omega)⟩
    exact ⟨rfl, Lib.below_freeze (hb1.trans hb2) (p := ⟨w.heap.size, 0, none⟩) (Nat.le_refl _) _⟩
theorem sclone_any (s : ByteArray) (w : World) (hlim : s.size ≤ 1000000) :
    Calls Try.prog 43 #[.string s] w fun e w' => e = .returned (.string s) ∧ Below w.heap.size w w' := by
  have hc := slclone_any s w hlim
  go_enter Try.func43, Try.ntmps43
  go_wp2_with (go_at_call 68; refine hc.mono ?_; clear hc; rintro _ w1 ⟨rfl, hb⟩)
  go_ret
  exact ⟨rfl, hb⟩
end Go.Proofs.Ytpdkoiogfaimaaa

/-! Cells: changes that grow in memory; what reading takes. -/
namespace Go.Proofs.Ytpdkoiogfaimaaa
open Go.RowKit Codec

abbrev Ro := Option Addr × Nat × Nat
def chCells (L : List (Ro × Ch)) : List Value := (L.map fun y => (chV y.1.1 y.1.2.1 y.1.2.2 y.2).toList).flatten
theorem chCells_len (L : List (Ro × Ch)) : (chCells L).length = L.length * 3 := by
  induction L with
  | nil => rfl
  | cons y L ih =>
    unfold chCells at ih ⊢
    rw [List.map_cons, List.flatten_cons, List.length_append, ih, List.length_cons]
    simp [chV]
    omega
theorem chCells_at : ∀ (L : List (Ro × Ch)) (i : Nat) (y : Ro × Ch), L[i]? = some y → ∀ (j : Nat) (v : Value), (chV y.1.1 y.1.2.1 y.1.2.2 y.2)[j]? = some v → (chCells L)[i * 3 + j]? = some v
  | [], i, y, h, _, _, _ => by simp at h
  | z :: L, 0, y, h, j, v, hv => by
    simp at h
    subst h
    have hj : j < 3 := by
      have := (Array.getElem?_eq_some_iff.1 hv).1
      simpa [chV] using this
    unfold chCells
    rw [List.map_cons, List.flatten_cons, Nat.zero_mul, Nat.zero_add, List.getElem?_append_left (by simp [chV]; exact hj)]
    simpa using hv
  | z :: L, i + 1, y, h, j, v, hv => by
    have h' : L[i]? = some y := by simpa using h
    have ih := chCells_at L i y h' j v hv
    unfold chCells at ih ⊢
    rw [List.map_cons, List.flatten_cons, List.getElem?_append_right (by simp [chV]; omega), ← ih]
    congr 1
    simp [chV]
    omega
/-- CHANGES IN A ROW THAT MAY GROW, IN BLOCKS OF S. -/
def Gch (w : World) (S : Nat → Prop) (v : Value) (l : List Ch) : Prop :=
  ∃ L : List (Ro × Ch), L.map (·.2) = l ∧ w.ownsRow 0 25 3 v l.length (chCells L) ∧ (∀ g, v.ownBlock = some g → S g) ∧ ∀ y ∈ L, Byt w (fun k => S k ∧ v.ownBlock ≠ some k) y.1.1 y.1.2.1 y.1.2.2 y.2.v
theorem Gch.nil (w : World) (S : Nat → Prop) : Gch w S (.slice none 0 0) [] := ⟨[], rfl, World.ownsRow_nil _ _ _ _, (fun _ h => by cases h), (fun _ h => absurd h (by simp))⟩
variable {w w' : World} {S T U : Nat → Prop} {v : Value} {l : List Ch}
theorem Gch.turned (h : Gch w S v l) (ht : Turned T w w') (hd : ∀ k, k < w.heap.size → S k → ¬ T k) : Gch w' S v l := by
  obtain ⟨L, h1, h2, h4, h3⟩ := h
  refine ⟨L, h1, ?_, h4, fun y hy => (h3 y hy).turned ht fun k hk hs => hd k hk hs.1⟩
  obtain ⟨e1, e2⟩ := h2
  refine ⟨e1, ?_⟩
  rcases e2 with e2 | ⟨g, cap, cur, rfl, e3, e4, e5⟩
  · exact .inl e2
  · exact .inr ⟨g, cap, cur, rfl, e3, (ht.block g (lt_of_cells e4) (hd g (lt_of_cells e4) (h4 g rfl))).trans e4, e5⟩
theorem Gch.below (h : Gch w S v l) (hb : Below w.heap.size w w') : Gch w' S v l :=
  h.turned (T := fun _ => False) (Turned.of_below hb) fun _ _ _ h => h
theorem Gch.mono (h : Gch w S v l) (hT : ∀ k, k < w.heap.size → S k → T k) : Gch w T v l := by
  obtain ⟨L, h1, h2, h4, h3⟩ := h
  exact ⟨L, h1, h2, fun g hg => hT g (h2.lt g hg).2 (h4 g hg), fun y hy => (h3 y hy).mono fun k hk hs => ⟨hT k hk hs.1, hs.2⟩⟩
theorem Gch.slice (h : Gch w S v l) : ∃ A c, v = .slice A l.length c ∧ Chs w S A l.length c l := by
  obtain ⟨L, h1, h2, h9, h3⟩ := h
  obtain ⟨e1, e2⟩ := h2
  have hlen : L.length = l.length := by rw [← h1, List.length_map]
  rcases e2 with ⟨rfl, e2⟩ | ⟨g, cap, cur, rfl, e3, e4, e5, e6, e7, e8⟩
  · have hl : l = [] := List.eq_nil_of_length_eq_zero e2
    subst hl
    exact ⟨none, 0, rfl, Chs.nil _ _ _ _ (Nat.zero_le _)⟩
  · refine ⟨_, _, rfl, rfl, e5, e6, fun h0 => ⟨g, 0, rfl, h9 g rfl, lt_of_cells e4, fun i x hx => ?_⟩⟩
    have hi : i < L.length := by rw [hlen]; exact (List.getElem?_eq_some_iff.1 hx).1
    obtain ⟨y, hy⟩ : ∃ y, L[i]? = some y := ⟨_, List.getElem?_eq_getElem hi⟩
    have hyx : y.2 = x := by
      rw [← h1, List.getElem?_map, hy] at hx
      simpa using hx
    refine ⟨y.1.1, y.1.2.1, y.1.2.2, fun j u hu => ?_, by rw [← hyx]; exact (h3 y (List.mem_of_getElem? hy)).mono fun k _ hk => hk.1⟩
    rw [← hyx] at hu
    have hc := chCells_at L i y hy j u hu
    rw [← e8] at hc
    rw [Nat.zero_add, cell_of_cells e4]
    have hlt := (List.getElem?_eq_some_iff.1 hc).1
    rw [List.length_take] at hlt
    rw [List.getElem?_take_of_lt (by omega)] at hc
    simpa using hc
theorem chg_info3 : (Try.prog.info? 25).map (fun i => (i.zero, i.size, i.bytes)) = some (some (.agg #[.string ⟨#[]⟩, .slice none 0 0, .bool false]), 3, 48) := by kernel_rfl
theorem Gch.push (h : Gch w S v l) {q k : Nat} {A : Option Addr} {n c : Nat} {x : Ch} (hq : ∀ (j : Nat) (u : Value), (chV A n c x)[j]? = some u → w.cell? ⟨q, j, none⟩ = some u) (hy : Byt w U A n c x.v) (hU : ∀ k, k < w.heap.size → U k → ¬ S k) (hl : l.length ≤ 10000000) (ty : TypeId) :
    ∃ A' c' W', (Builtin.append_ #[22, 22] ty #[v, .slice (some ⟨q, 0, none⟩) 1 k]).run Try.prog w = .ok (.slice A' (l.length + 1) c') W' ∧ Gch W' (fun b => S b ∨ U b ∨ (w.heap.size ≤ b ∧ b < W'.heap.size)) (.slice A' (l.length + 1) c') (l ++ [x]) ∧ Turned S w W' := by
  obtain ⟨i0, hi, hz0, hz1, hz2⟩ := info_parts chg_info3
  obtain ⟨L, h1, h2, h4, h3⟩ := h
  obtain ⟨v', W', hr, g1, g2, _, g4⟩ := run_append_own_at (P := Try.prog) w 0 22 ty 25 i0 (.agg #[.string ⟨#[]⟩, .slice none 0 0, .bool false]) 3 48 Try.underlying22 hi hz0 hz1 hz2 rfl (by decide) v l.length (chCells L) h2 ⟨q, 0, none⟩ 1 k (chV A n c x).toList rfl
    (fun j u hj => by rw [add_plain, Nat.zero_add]; exact hq j u (by simpa using hj)) (by simp [chV, Value.oneCell']) (by unfold maxLen; omega) (by omega) (Nat.zero_le _)
  have ht : Turned S w W' := Turned.of_gr g2 fun g hg => h4 g hg
  have keep : ∀ {A : Option Addr} {n c : Nat} {y : List UInt8} {V : Nat → Prop}, Byt w V A n c y → (∀ b, b < w.heap.size → V b → (S b ∨ U b) ∧ v.ownBlock ≠ some b) → Byt W' (fun b => (S b ∨ U b ∨ (w.heap.size ≤ b ∧ b < W'.heap.size)) ∧ v'.ownBlock ≠ some b) A n c y := fun {A n c y V} hx hV => by
    have hx1 : Byt w (fun b => V b ∧ b < w.heap.size) A n c y := hx.mono fun b hb h => ⟨h, hb⟩
    refine (hx1.grown g2 (fun g hg => .inl fun hh => (hV g hh.2 hh.1).2 hg)).mono fun b _ hb => ?_
    have hv := hV b hb.2 hb.1
    refine ⟨hv.1.elim .inl (fun h => .inr (.inl h)), ?_⟩
    rcases g4 with hl | hl
    · rw [hl]; exact hv.2
    · rw [hl]
      intro e
      injection e with e
      have := hb.2
      omega
  have hown' : ∀ g, v'.ownBlock = some g → S g ∨ U g ∨ (w.heap.size ≤ g ∧ g < W'.heap.size) := fun g hg => by
    rcases g4 with hl | hl
    · rw [hl] at hg
      exact .inl (h4 g hg)
    · have hlt := (g1.lt g hg).2
      rw [hl] at hg
      injection hg with hg
      subst hg
      exact .inr (.inr ⟨Nat.le_refl _, hlt⟩)
  obtain ⟨A', c', rfl⟩ : ∃ A' c', v' = .slice A' (l.length + 1) c' := by
    obtain ⟨_, e2⟩ := g1
    rcases e2 with ⟨_, e2⟩ | ⟨g', cap, cur, rfl, _⟩
    · omega
    · exact ⟨_, _, rfl⟩
  refine ⟨A', c', W', hr, ⟨L ++ [((A, n, c), x)], by simp [h1], ?_, hown', fun y hy' => ?_⟩, ht⟩
  · rw [List.length_append, List.length_singleton]
    have e : chCells (L ++ [((A, n, c), x)]) = chCells L ++ (chV A n c x).toList := by simp [chCells]
    rw [e]
    exact g1
  · rcases List.mem_append.1 hy' with h | h
    · exact keep (h3 y h) fun b _ hb => ⟨.inl hb.1, hb.2⟩
    · simp only [List.mem_singleton] at h
      subst h
      exact keep hy fun b hb hu => ⟨.inr hu, fun e => hU b hb hu (h4 b e)⟩

/-! ### what reading takes -/
theorem ui_len {l : List UInt8} {e : Int} (h : uiE l e = 0) : e = 0 ∧ (uiL l e).length + 1 ≤ l.length := by
  unfold uiE at h
  by_cases he : e = 0
  · rw [if_pos he] at h
    refine ⟨he, ?_⟩
    unfold uiL
    rw [if_pos he, List.length_drop]
    have h1 := (put_rd 0 l (by omega) (by omega)).2.2.1
    have h2 := rd_le 0 l
    omega
  · rw [if_neg he] at h
    exact absurd h he
theorem fxL_len (l : List UInt8) (e k : Int) : (fxL l e k).length ≤ l.length := by
  unfold fxL
  split <;> simp
theorem byL_len (l : List UInt8) (e m : Int) : (byL l e m).length ≤ l.length := by
  have h1 := uiL_length l e
  have h2 := fxL_len (uiL l e) 0 (uiX l e)
  unfold byL
  split
  · exact h1
  · split <;> omega
theorem by_bad {l : List UInt8} {e m : Int} (h : byE l e m ≠ 0) : byB l e m = [] := by
  unfold byE at h
  unfold byB
  split
  · rfl
  · split
    · rfl
    · rename_i h1 h2
      rw [if_neg h1, if_neg h2] at h
      unfold fxB
      rw [if_neg h]
theorem by_take (l : List UInt8) (e m : Int) : (byB l e m ≠ [] ∨ byE l e m = 0) → e = 0 ∧ (byL l e m).length + (byB l e m).length + 1 ≤ l.length := by
  intro h
  have h0 : byE l e m = 0 := h.elim (fun h => Classical.byContradiction fun h2 => h (by_bad h2)) id
  have hu : uiE l e = 0 := Classical.byContradiction fun h2 => by
    unfold byE at h0
    rw [if_pos h2] at h0
    exact h2 h0
  obtain ⟨he, hl⟩ := ui_len hu
  refine ⟨he, ?_⟩
  unfold byE at h0
  unfold byL byB
  rw [if_neg (show ¬ uiE l e ≠ 0 from fun h => h hu)] at h0
  rw [if_neg (show ¬ uiE l e ≠ 0 from fun h => h hu), if_neg (show ¬ uiE l e ≠ 0 from fun h => h hu)]
  split at h0
  · exact absurd h0 (by decide)
  · rename_i h3
    rw [if_neg h3, if_neg h3]
    obtain ⟨_, _, h4⟩ := tkE_zero h0
    unfold fxL fxB
    rw [if_pos h0, if_pos h0, List.length_drop, List.length_take]
    omega
theorem by_few (l : List UInt8) (e : Int) (m : Nat) : (byB l e (m : Int)).length ≤ m := by
  unfold byB
  split
  · simp
  · split
    · simp
    · unfold fxB
      split
      · rw [List.length_take]
        omega
      · simp
theorem rc1_take {l : List UInt8} {e : Int} (h : mayC (rc1 l e).1 = true) : (rc1 l e).2.1.length + (rc1 l e).1.k.length + (rc1 l e).1.v.length + 1 ≤ l.length := by
  have hk := rc1_k l e
  have hk1 : byB l e 64 ≠ [] := by
    intro h2
    unfold mayC at h
    rw [hk, h2] at h
    simp at h
  have h1 := (by_take l e 64 (.inl hk1)).2
  have h2 := fxL_len (byL l e 64) (byE l e 64) 1
  rw [hk]
  unfold rc1
  split
  · simp only [List.length_nil]
    omega
  · simp only
    by_cases h3 : byE (fxL (byL l e 64) (byE l e 64) 1) (boE (byL l e 64) (byE l e 64)) 4096 = 0
    · have h4 := (by_take _ _ 4096 (.inr h3)).2
      omega
    · rw [by_bad h3]
      have h4 := byL_len (fxL (byL l e 64) (byE l e 64) 1) (boE (byL l e 64) (byE l e 64)) 4096
      simp only [List.length_nil]
      omega
end Go.Proofs.Ytpdkoiogfaimaaa

/-! codec.Writer: what each of its methods does, told of a writer that holds a list of bytes ('Wr'). -/
namespace Go.Proofs.Ytpdkoiogfaimaaa
open Go.RowKit Codec

/-- THE STRUCT AT BLOCK p IS A WRITER that holds the bytes l; all its memory lies in blocks of S. -/
def Wr (w : World) (S : Nat → Prop) (p : Nat) (l : List UInt8) : Prop :=
  S p ∧ ∃ A c, w.heap[p]? = some (.cells #[.slice A l.length c] 133 (0, 0)) ∧ w.ownsRow 0 5 1 (.slice A l.length c) l.length (u8s l) ∧ ∀ a, A = some a → S a.block

section
variable {w w' : World} {S : Nat → Prop} {p : Nat} {l : List UInt8}
theorem Wr.lt (h : Wr w S p l) : p < w.heap.size := by
  obtain ⟨_, A, c, hh, _⟩ := h
  exact lt_of_cells hh
theorem own_lt {base : Nat} {e : TypeId} {size : Nat} {A : Option Addr} {n c : Nat} {xs : List Value} (h : w.ownsRow base e size (.slice A n c) n xs) : ∀ a, A = some a → a.block < w.heap.size := by
  rintro a rfl
  exact (h.lt a.block rfl).2
theorem Wr.mono {T : Nat → Prop} (h : Wr w S p l) (hS : ∀ b, b < w.heap.size → S b → T b) : Wr w T p l := by
  have hlt := h.lt
  obtain ⟨hp, A, c, hh, ho, hs⟩ := h
  exact ⟨hS _ hlt hp, A, c, hh, ho, fun a ha => hS _ (own_lt ho a ha) (hs a ha)⟩
/-- What a writer does not hold may turn. -/
theorem Wr.turned {T : Nat → Prop} (h : Wr w S p l) (ht : Turned T w w') (hd : ∀ b, b < w.heap.size → S b → ¬ T b) : Wr w' S p l := by
  have hlt := h.lt
  obtain ⟨hp, A, c, hh, ho, hs⟩ := h
  refine ⟨hp, A, c, (ht.block p hlt (hd p hlt hp)).trans hh, ?_, hs⟩
  obtain ⟨h1, h2⟩ := ho
  refine ⟨h1, ?_⟩
  rcases h2 with h2 | ⟨g, cap, cur, hv, hg, hhg, r⟩
  · exact .inl h2
  · have hgl := lt_of_cells hhg
    have hsg : S g := hs ⟨g, 0, none⟩ (by injection hv)
    exact .inr ⟨g, cap, cur, hv, hg, (ht.block g hgl (hd g hgl hsg)).trans hhg, r⟩
theorem Rd.turned {e : Int} {T : Nat → Prop} (h : Rd w S p l e) (ht : Turned T w w') (hd : ∀ b, b < w.heap.size → S b → ¬ T b) : Rd w' S p l e := by
  have hlt := h.lt
  obtain ⟨hB, A, n, c, hh, hy⟩ := h
  exact ⟨hB, A, n, c, (ht.block p hlt (hd p hlt hB)).trans hh, hy.turned ht hd⟩

/-- The store behind an append: the writer then. -/
theorem Wr.put_back {w1 : World} {l m : List UInt8} {A A' : Option Addr} {c c' n : Nat} (hp : S p) (hh : w.heap[p]? = some (.cells #[.slice A l.length c] 133 (0, 0))) (ho : w.ownsRow 0 5 1 (.slice A l.length c) l.length (u8s l)) (hs : ∀ a, A = some a → S a.block)
    (hsz : w.heap.size ≤ w'.heap.size) (hw : ∀ k, k < w.heap.size → w'.heap[k]? = w.heap[k]?)
    (ho1 : w1.ownsRow 0 5 1 (.slice A' n c') n (u8s l ++ u8s m)) (hn : n = l.length + m.length) (hg : w'.grownBy w1 (Value.slice A l.length c).ownBlock)
    (hat : (Value.slice A' n c').ownBlock = (Value.slice A l.length c).ownBlock ∨ (Value.slice A' n c').ownBlock = some w'.heap.size) :
    Wr (w1.setCell ⟨p, 0, none⟩ (.slice A' n c')) (fun b => S b ∨ w.heap.size ≤ b) p (l ++ m) := by
  have hplt := lt_of_cells hh
  have hne : ∀ g, (Value.slice A l.length c).ownBlock = some g → g ≠ p := by
    rintro g hg rfl
    rcases ho.2 with ⟨hv, _⟩ | ⟨g', cap, cur, hv, _, hhg, _⟩
    · rw [hv] at hg; simp [Value.ownBlock] at hg
    · rw [hv] at hg
      simp [Value.ownBlock] at hg
      subst hg
      rw [hh] at hhg
      injection hhg with hhg
      injection hhg with _ ht _
      exact absurd ht (by decide)
  have hp1 : w1.heap[p]? = some (.cells #[.slice A l.length c] 133 (0, 0)) :=
    (hg.block p (by omega) (fun e => hne p e.symm rfl)).trans ((hw p hplt).trans hh)
  have hlen : n = (l ++ m).length := by rw [hn, List.length_append]
  subst hlen
  rw [← u8s_append] at ho1
  have hne1 : ∀ g, (Value.slice A' (l ++ m).length c').ownBlock = some g → g ≠ p := by
    intro g hg1
    rcases hat with e | e
    · rw [e] at hg1; exact hne g hg1
    · rw [e] at hg1; injection hg1; omega
  refine ⟨.inl hp, A', c', by simpa using set_of_cells hp1 0 _, ?_, ?_⟩
  · obtain ⟨h1, h2⟩ := ho1
    refine ⟨h1, ?_⟩
    rcases h2 with h2 | ⟨g, cap, cur, hv, hgb, hhg, r⟩
    · exact .inl h2
    · have : g ≠ p := hne1 g (by rw [hv]; rfl)
      exact .inr ⟨g, cap, cur, hv, hgb, (Below.heap_setCell _ _ _ _ this).trans hhg, r⟩
  · rintro a rfl
    rcases hat with e | e
    · rcases A with _ | a0
      · simp [Value.ownBlock] at e
      · simp [Value.ownBlock] at e
        exact .inl (by rw [e]; exact hs a0 rfl)
    · simp [Value.ownBlock] at e
      exact .inr (by omega)
end

theorem own_wr {S : Nat → Prop} {A : Option Addr} {n c : Nat} (hs : ∀ a, A = some a → S a.block) : ∀ g, (Value.slice A n c).ownBlock = some g → S g := by
  intro g hg
  rcases A with _ | a
  · simp [Value.ownBlock] at hg
  · simp [Value.ownBlock] at hg
    rw [← hg]; exact hs a rfl

/-- What the walk is told behind an append to a writer's bytes. -/
theorem Wr.app {w wx w1 : World} {S : Nat → Prop} {p : Nat} {l m : List UInt8} {A A' : Option Addr} {c c' n : Nat} (hp : S p) (hh : w.heap[p]? = some (.cells #[.slice A l.length c] 133 (0, 0))) (ho : w.ownsRow 0 5 1 (.slice A l.length c) l.length (u8s l)) (hs : ∀ a, A = some a → S a.block)
    (hx : Below w.heap.size w wx) (ho1 : w1.ownsRow 0 5 1 (.slice A' n c') n (u8s l ++ u8s m)) (hn : n = l.length + m.length) (hg : wx.grownBy w1 (Value.slice A l.length c).ownBlock)
    (hat : (Value.slice A' n c').ownBlock = (Value.slice A l.length c).ownBlock ∨ (Value.slice A' n c').ownBlock = some wx.heap.size) :
    w1.cell? ⟨p, 0, none⟩ = some (.slice A l.length c) ∧ w1.frozen? ⟨p, 0, none⟩ = false ∧
      Hid (Wr (w1.setCell ⟨p, 0, none⟩ (.slice A' n c')) (fun b => S b ∨ w.heap.size ≤ b) p (l ++ m) ∧ Turned S w (w1.setCell ⟨p, 0, none⟩ (.slice A' n c'))) := by
  have hplt := lt_of_cells hh
  have hne : (Value.slice A l.length c).ownBlock ≠ some p := by
    intro hg
    rcases ho.2 with ⟨hv, _⟩ | ⟨g', cap, cur, hv, _, hhg, _⟩
    · rw [hv] at hg; simp [Value.ownBlock] at hg
    · rw [hv] at hg
      simp [Value.ownBlock] at hg
      subst hg
      rw [hh] at hhg
      injection hhg with hhg
      injection hhg with _ ht _
      exact absurd ht (by decide)
  have hp1 : w1.heap[p]? = some (.cells #[.slice A l.length c] 133 (0, 0)) :=
    (hg.block p (Nat.lt_of_lt_of_le hplt hx.size) (fun e => hne e.symm)).trans ((hx.block p hplt).trans hh)
  refine ⟨by rw [cell_of_cells hp1 0]; rfl, free_of_cells hp1 0, ?_⟩
  refine ⟨Wr.put_back hp hh ho hs hx.size (fun k hk => hx.block k hk) ho1 hn hg hat, ?_⟩
  exact ((Turned.of_below hx).trans (Turned.of_gr hg (own_wr hs)) fun _ _ h => h).set hp _ _



theorem own_cap {w : World} {base : Nat} {e : TypeId} {size : Nat} {A : Option Addr} {n c : Nat} {xs : List Value} (h : w.ownsRow base e size (.slice A n c) n xs) : n ≤ c := by
  rcases h.2 with ⟨hv, rfl⟩ | ⟨g', cap, cur, hv, _, _, hn, _⟩
  · omega
  · injection hv with _ _ hc; omega

/-- The post of a writer's call. -/
def Put (w : World) (S : Nat → Prop) (p : Nat) (l : List UInt8) (e : Ending) (w' : World) : Prop := e = .returned (.tuple #[]) ∧ Wr w' (fun b => S b ∨ w.heap.size ≤ b) p l ∧ Turned S w w'

set_option maxHeartbeats 1000000 in
theorem wfixed {w : World} {S T : Nat → Prop} {p : Nat} {l m : List UInt8} {A : Option Addr} {n c : Nat} (h : Wr w S p l) (hm : Byt w T A n c m) (hb : l.length + n ≤ 140737488355328) :
    Calls Try.prog 81 #[.pointer (some ⟨p, 0, none⟩), .slice A n c] w (Put w S p (l ++ m)) := by
  obtain ⟨i0, hi, hz0, hz1, hz2⟩ := info_parts u8_info
  have hmax := hm.max
  have hcap := hm.cap
  have hmlen := hm.len
  have hW := Lib.hid h
  obtain ⟨hp, A0, c0, hh, ho, hs⟩ := h
  have h0 := cell_of_cells hh 0
  simp only [List.getElem?_toArray, List.getElem?_cons_zero] at h0
  have f0 := free_of_cells hh 0
  have hoc := own_cap ho
  have HH := Lib.hid hh
  have HO := Lib.hid ho
  have HL := Lib.hid hmlen
  rcases A with _ | ad
  · have hn0 : n = 0 := by
      rcases Nat.eq_zero_or_pos n with h0 | h0
      · exact h0
      · obtain ⟨_, _, hA, _⟩ := hm.row h0
        cases hA
    subst hn0
    obtain rfl : m = [] := List.eq_nil_of_length_eq_zero hmlen
    have fin : Put w S p (l ++ []) (.returned (.tuple #[])) (w.setCell ⟨p, 0, none⟩ (.slice A0 l.length c0)) := by
      rw [List.append_nil]
      refine ⟨rfl, ⟨.inl hp, A0, c0, by simpa using set_of_cells hh 0 (.slice A0 l.length c0), ?_, fun a ha => .inl (hs a ha)⟩, (Turned.refl _ _).set hp _ _⟩
      obtain ⟨h1, h2⟩ := ho
      refine ⟨h1, ?_⟩
      rcases h2 with h2 | ⟨g, cap, cur, hv, hgb, hhg, r⟩
      · exact .inl h2
      · have : g ≠ p := by
          rintro rfl
          rw [hh] at hhg
          injection hhg with hhg
          injection hhg with _ ht _
          exact absurd ht (by decide)
        exact .inr ⟨g, cap, cur, hv, hgb, (Below.heap_setCell _ _ _ _ this).trans hhg, r⟩
    clear hm hh ho hmlen
    go_enter Try.func81, Try.ntmps81
    go_wp2_with (at_builtin; refine wpList_append_zero (by rfl) _ _ 23 (by rfl) 5 i0 Try.underlying23 hi A0 l.length c0 c hoc (by rfl) (by rfl) ?_)
    go_end0
    exact fin
  · have hnews := byt_news hm
    have hlen := u8s_length m
    have hone := u8s_one m
    clear hm hh ho hmlen
    go_enter Try.func81, Try.ntmps81
    go_wp2_with (at_builtin; refine wpList_append_own_at _ rfl _ _ 23 rfl 0 5 i0 (.int .u8 0) 1 1 Try.underlying23 hi hz0 hz1 hz2 rfl (by decide) _ l.length (u8s l) rfl HO.out ad n c (u8s m) rfl ?qc1 hnews hone ?qc4 ?qc5 ?qc6 ?_)
    case qc1 => rw [hlen, HL.out]; omega
    case qc4 => unfold maxLen at *; omega
    case qc5 => omega
    case qc6 => simp
    intro v' w1 hown hgrow hnn hat
    obtain ⟨A', c', rfl, _⟩ := own_byt (l := l ++ m) (by rw [u8s_append]; exact hown)
    obtain ⟨g1, g2, g3⟩ := Wr.app hp HH.out HO.out hs (Below.refl _ _) hown (by rw [HL.out]) hgrow hat
    clear hown hgrow hnn hat h0 f0 hnews
    go_wp2
    go_end0
    exact ⟨rfl, g3.out⟩
end Go.Proofs.Ytpdkoiogfaimaaa
