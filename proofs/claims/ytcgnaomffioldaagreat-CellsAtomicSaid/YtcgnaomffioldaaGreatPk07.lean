/-
  Logs by values: numbers, blocks, what stands in blocks, Open, Begin, Add; torn writes; the laws' steps.
-/
import Derived.Test.YtcgnaomffioldaaGreatPk01
import Derived.Test.YtcgnaomffioldaaGreatPk06
/-! Logs by values: numbers, blocks, what stands in blocks, Open, Begin, Add; torn writes; the laws' steps. -/
namespace Go.Proofs.YtcgnaomffioldaaGreat
open Go.RowKit

/-! A log's blocks, in lists: numbers of eight bytes, the highest first; a block's bytes; what stands in one. -/
/-- The lowest so many bytes of a number, the highest first. -/
def besL (N : Nat) : Nat → List UInt8
  | 0 => []
  | j + 1 => UInt8.ofNat (N / 256 ^ j) :: besL N j
theorem besL_length (N : Nat) : ∀ j, (besL N j).length = j
  | 0 => rfl
  | j + 1 => by simp [besL, besL_length N j]
def numL (N : Nat) : List UInt8 := besL N 8
theorem numL_length (N : Nat) : (numL N).length = 8 := besL_length N 8
/-- The number of bytes. -/
def valL (l : List UInt8) : Nat := l.foldl (fun n b => n * 256 + b.toNat) 0
theorem valL_nil : valL [] = 0 := rfl
theorem valL_snoc (l : List UInt8) (b : UInt8) : valL (l ++ [b]) = valL l * 256 + b.toNat := by simp [valL]
theorem val_fold : ∀ (l : List UInt8) (n : Nat), l.foldl (fun n b => n * 256 + b.toNat) n = n * 256 ^ l.length + valL l
  | [], n => by simp [valL]
  | b :: l, n => by
    have h1 := val_fold l (n * 256 + b.toNat)
    have h2 := val_fold l b.toNat
    have h3 : valL (b :: l) = l.foldl (fun n b => n * 256 + b.toNat) b.toNat := by simp [valL]
    rw [List.foldl_cons, h1, h3, h2, List.length_cons, Nat.pow_succ, Nat.add_mul, Nat.mul_assoc, Nat.mul_comm 256, Nat.add_assoc]
theorem valL_cons (b : UInt8) (l : List UInt8) : valL (b :: l) = b.toNat * 256 ^ l.length + valL l := by
  have h3 : valL (b :: l) = l.foldl (fun n b => n * 256 + b.toNat) b.toNat := by simp [valL]
  rw [h3, val_fold]
theorem valL_lt : ∀ l : List UInt8, valL l < 256 ^ l.length
  | [] => by simp [valL]
  | b :: l => by
    have h1 := valL_lt l
    have h2 := b.toNat_lt
    have h3 : b.toNat * 256 ^ l.length ≤ 255 * 256 ^ l.length := Nat.mul_le_mul_right _ (by omega)
    rw [valL_cons, List.length_cons, Nat.pow_succ]
    omega
theorem valL_bes (N : Nat) : ∀ j, valL (besL N j) = N % 256 ^ j
  | 0 => by rw [besL, valL_nil, Nat.pow_zero, Nat.mod_one]
  | j + 1 => by
    have h := Nat.mod_mul (x := N) (a := 256 ^ j) (b := 256)
    rw [← Nat.pow_succ] at h
    rw [besL, valL_cons, besL_length, valL_bes N j, UInt8.toNat_ofNat', h, show (2 : Nat) ^ 8 = 256 from rfl, Nat.mul_comm, Nat.add_comm]
theorem valL_num {N : Nat} (h : N < 18446744073709551616) : valL (numL N) = N := by
  rw [numL, valL_bes, Nat.mod_eq_of_lt (by omega)]
theorem val_eq : ∀ {a b : List UInt8}, a.length = b.length → valL a = valL b → a = b
  | [], [], _, _ => rfl
  | [], _ :: _, h, _ => by simp at h
  | _ :: _, [], h, _ => by simp at h
  | x :: a, y :: b, h, hv => by
    have hl : a.length = b.length := by simpa using h
    rw [valL_cons, valL_cons, hl] at hv
    have h1 := valL_lt a
    have h2 := valL_lt b
    rw [hl] at h1
    have hp : 0 < 256 ^ b.length := Nat.pow_pos (by omega)
    have hx : x.toNat = y.toNat := by
      have e1 : (x.toNat * 256 ^ b.length + valL a) / 256 ^ b.length = x.toNat := by
        rw [Nat.mul_comm, Nat.mul_add_div hp, Nat.div_eq_of_lt h1, Nat.add_zero]
      have e2 : (y.toNat * 256 ^ b.length + valL b) / 256 ^ b.length = y.toNat := by
        rw [Nat.mul_comm, Nat.mul_add_div hp, Nat.div_eq_of_lt h2, Nat.add_zero]
      rw [← e1, ← e2, hv]
    have hxy : x = y := UInt8.toNat.inj hx
    subst hxy
    rw [val_eq hl (by omega)]
theorem num_val {l : List UInt8} (h : l.length = 8) : numL (valL l) = l := by
  have hlt := valL_lt l
  rw [h] at hlt
  exact val_eq (by rw [numL_length, h]) (valL_num (by omega))
/-- A block's bytes. -/
def blockL (n : Nat) (part : List UInt8) (e : Bool) : List UInt8 := numL n ++ [UInt8.ofNat part.length, if e then 1 else 0] ++ part ++ List.replicate (110 - part.length) 0 ++ numL n
theorem blockL_length (n : Nat) {part : List UInt8} (e : Bool) (h : part.length ≤ 110) : (blockL n part e).length = 128 := by
  simp [blockL, numL_length]
  omega
/-- What stands in a block: its number, its part, whether it is the last one. -/
def readL (b : List UInt8) : Nat × List UInt8 × Bool :=
  if b.length ≠ 128 ∨ 110 < (b[8]?.getD 0).toNat ∨ 1 < (b[9]?.getD 0).toNat then (0, [], false)
  else
    let n := valL (b.take 8)
    let part := (b.drop 10).take (b[8]?.getD 0).toNat
    if blockL n part (decide ((b[9]?.getD 0).toNat = 1)) ≠ b ∨ (b[9]?.getD 0).toNat = 0 ∧ part.length < 110 then (0, [], false) else (n, part, decide ((b[9]?.getD 0).toNat = 1))
/-- How many blocks a record takes. -/
def blocksN (n : Nat) : Nat := if n = 0 then 1 else (n + 109) / 110
theorem blocksN_at (n k : Nat) (h : n ≤ 110 * k) (h2 : k = 1 ∨ 110 * (k - 1) < n) (hk : 1 ≤ k) : blocksN n = k := by
  unfold blocksN
  split
  · omega
  · rcases h2 with rfl | h2 <;> omega

/-! What a log is, by values: what Open tells of blocks. -/
/-- A log, but for its disk. -/
structure LM where
  from_ : Int
  n : Int
  first : Nat
  next : Nat
  have_ : Nat
  l : List (List UInt8)
  e : Int
def lmV (m : LM) (A : Option Addr) (n c : Nat) : Array Value := #[.int .i64 m.from_, .int .i64 m.n, .int .u64 (m.first : Int), .int .u64 (m.next : Int), .int .i64 (m.have_ : Int), .slice A n c, .int .i64 m.e]
def lm0 : LM := ⟨0, 0, 0, 0, 0, [], 0⟩
/-- The greatest number of blocks' ends. -/
def mostS (m : Nat) (b : List UInt8) : Nat := max (max m (valL (b.take 8))) (valL (b.drop 120))
def mostL (bs : List (List UInt8)) : Nat := bs.foldl mostS 0
theorem most_snoc (bs : List (List UInt8)) (b : List UInt8) : mostL (bs ++ [b]) = mostS (mostL bs) b := by simp [mostL]
theorem val8 (b : List UInt8) : valL (b.take 8) < 18446744073709551616 := by
  have h := valL_lt (b.take 8)
  have h2 : 256 ^ (b.take 8).length ≤ 256 ^ 8 := Nat.pow_le_pow_right (by omega) (by rw [List.length_take]; omega)
  have h3 : (256 : Nat) ^ 8 = 18446744073709551616 := by decide
  omega
theorem val120 {b : List UInt8} (hb : b.length = 128) : valL (b.drop 120) < 18446744073709551616 := by
  have h := valL_lt (b.drop 120)
  rw [List.length_drop, hb] at h
  exact h
theorem most_lt : ∀ (bs : List (List UInt8)), (∀ b ∈ bs, b.length = 128) → ∀ m, m < 18446744073709551616 → bs.foldl mostS m < 18446744073709551616
  | [], _, _, h => h
  | b :: bs, hb, m, h => by
    rw [List.foldl_cons]
    refine most_lt bs (fun x hx => hb x (by simp [hx])) _ ?_
    have h1 := val8 b
    have h2 := val120 (hb b (by simp))
    unfold mostS
    omega
/-- Where a scan of blocks stands. -/
structure WS where
  now : List UInt8
  within : Bool
  ahead : Nat
  fst : Nat
  recs : List (List UInt8)
  have_ : Nat
  first : Nat
def ws0 : WS := ⟨[], false, 0, 0, [], 0, 0⟩
def badW (s : WS) (k : Nat) : Bool := decide (k = 0) || decide (k ≤ s.ahead) || (s.within && decide (k - s.ahead ≠ 1))
def nextW (i : Nat) (s : WS) (k : Nat) (part : List UInt8) (e : Bool) : WS :=
  if e then ⟨[], false, k, if i = 0 then k else s.fst, s.recs ++ [s.now ++ part], i + 1, if i = 0 then k else s.fst⟩
  else ⟨s.now ++ part, true, k, if i = 0 then k else s.fst, s.recs, s.have_, s.first⟩
def scanW : List (List UInt8) → Nat → WS → WS
  | [], _, s => s
  | b :: bs, i, s => if badW s (readL b).1 = true then s else scanW bs (i + 1) (nextW i s (readL b).1 (readL b).2.1 (readL b).2.2)
def openM (bs : List (List UInt8)) (from_ n : Int) : LM :=
  let s := scanW bs 0 ws0
  ⟨from_, n, s.first, (mostL bs + 1) % 18446744073709551616, s.have_, s.recs, 0⟩
/-- The blocks of a log. -/
def blocksOf (l : List (List UInt8)) (from_ n : Int) : List (List UInt8) := (l.drop from_.toNat).take n.toNat
def openErr (len : Nat) (down : Bool) (from_ n : Int) : Int := if from_ < 0 ∨ n < 1 ∨ (len : Int) < from_ ∨ (len : Int) - from_ < n then 1 else if down then 30 else 0
theorem readL_small (b : List UInt8) : (readL b).1 < 18446744073709551616 ∧ (readL b).2.1.length ≤ 110 := by
  unfold readL
  split
  · exact ⟨by omega, by simp⟩
  · rename_i h
    simp only
    split
    · exact ⟨by omega, by simp⟩
    · refine ⟨val8 b, ?_⟩
      rw [List.length_take]
      omega

/-! Begin, by values. -/
def beginM (m : LM) (from_ n : Int) (least : Nat) : LM := ⟨from_, n, 0, if 0 < m.next ∧ m.next < least then least else m.next, 0, [], 0⟩

/-! Add, by values. -/
/-- The i-th part of a record. -/
def partL (b : List UInt8) (i : Nat) : List UInt8 := (b.drop (110 * i)).take 110
/-- The i-th block of a record of n, numbers from x on. -/
def recB (x : Nat) (b : List UInt8) (n i : Nat) : List UInt8 := blockL (x + i) (partL b i) (decide (i + 1 = n))
/-- Writing k blocks of a record, from the i-th on. -/
def addGo (at_ : Int) (x : Nat) (b : List UInt8) (n : Nat) : Nat → Nat → DM → DM × Int
  | 0, _, d => (d, 0)
  | k + 1, i, d => if (writeM d (at_ + (i : Int)) (recB x b n i)).2 = 0 then addGo at_ x b n k (i + 1) (writeM d (at_ + (i : Int)) (recB x b n i)).1 else writeM d (at_ + (i : Int)) (recB x b n i)
/-- What an Add that writes all leaves. -/
def addOk (m : LM) (b : List UInt8) : LM := ⟨m.from_, m.n, if m.have_ = 0 then m.next else m.first, m.next + blocksN b.length, m.have_ + blocksN b.length, m.l ++ [b], 0⟩
/-- Add. -/
def addM (d : DM) (m : LM) (b : List UInt8) : DM × LM × Int :=
  if m.e ≠ 0 then (d, m, m.e)
  else if m.n - (m.have_ : Int) < (blocksN b.length : Int) then (d, m, 31)
  else if m.next = 0 ∨ 18446744073709551615 - m.next < blocksN b.length then (d, m, 38)
  else let r := addGo (m.from_ + (m.have_ : Int)) m.next b (blocksN b.length) (blocksN b.length) 0 d
    if r.2 = 0 then (r.1, addOk m b, 0) else (r.1, { m with e := r.2 }, r.2)
/-- A log that may be. -/
structure LM.Ok (m : LM) : Prop where
  from_ : 0 ≤ m.from_ ∧ m.from_ ≤ 65536
  n : 1 ≤ m.n ∧ m.n ≤ 65536
  have_ : (m.have_ : Int) ≤ m.n
  next : m.next < 18446744073709551616
  first : m.first < 18446744073709551616
  few : m.l.length ≤ m.have_
theorem partL_length (b : List UInt8) (i : Nat) : (partL b i).length ≤ 110 := by
  unfold partL
  rw [List.length_take]
  omega
theorem blocksN_one (n : Nat) : 1 ≤ blocksN n := by
  unfold blocksN
  split <;> omega
theorem blocksN_le (n : Nat) : blocksN n ≤ n + 1 := by
  unfold blocksN
  split <;> omega
theorem addGo_ok {at_ : Int} {x : Nat} {b : List UInt8} {n : Nat} : ∀ (k i : Nat) {d : DM}, d.Ok → (addGo at_ x b n k i d).1.Ok
  | 0, _, _, h => h
  | k + 1, i, d, h => by
    unfold addGo
    split
    · exact addGo_ok k (i + 1) (writeM_ok h _ _)
    · exact writeM_ok h _ _
theorem addM_ok {d : DM} {m : LM} {b : List UInt8} (h : d.Ok) : (addM d m b).1.Ok := by
  unfold addM
  split
  · exact h
  · split
    · exact h
    · split
      · exact h
      · simp only
        split <;> exact addGo_ok _ _ h
theorem writeM_len (d : DM) (i : Int) (b : List UInt8) : (writeM d i b).1.l.length = d.l.length := by
  unfold writeM
  split
  · rfl
  · split
    · rfl
    · split
      · rfl
      · split <;> simp
theorem addGo_len {at_ : Int} {x : Nat} {b : List UInt8} {n : Nat} : ∀ (k i : Nat) (d : DM), (addGo at_ x b n k i d).1.l.length = d.l.length
  | 0, _, _ => rfl
  | k + 1, i, d => by
    unfold addGo
    split
    · rw [addGo_len k (i + 1), writeM_len]
    · exact writeM_len _ _ _
theorem addM_len (d : DM) (m : LM) (b : List UInt8) : (addM d m b).1.l.length = d.l.length := by
  unfold addM
  split
  · rfl
  · split
    · rfl
    · split
      · rfl
      · simp only
        split <;> exact addGo_len _ _ _
theorem addM_lok {d : DM} {m : LM} {b : List UInt8} (h : m.Ok) : (addM d m b).2.1.Ok := by
  unfold addM
  split
  · exact h
  · rename_i h1
    split
    · exact h
    · rename_i h2
      split
      · exact h
      · rename_i h3
        simp only
        have h4 := h.next
        have h5 := h.first
        split
        · refine ⟨h.from_, h.n, ?_, ?_, ?_, ?_⟩
          · unfold addOk
            simp only
            omega
          · unfold addOk
            simp only
            omega
          · unfold addOk
            simp only
            split <;> omega
          · have h6 := h.few
            have h7 := blocksN_one b.length
            unfold addOk
            simp only [List.length_append, List.length_singleton]
            omega
        · exact ⟨h.from_, h.n, h.have_, h.next, h.first, h.few⟩

/-! Logs, by values: what a scan of blocks comes to when blocks are written behind its records. -/
def stepW (i : Nat) (s : WS) (b : List UInt8) : WS := nextW i s (readL b).1 (readL b).2.1 (readL b).2.2
def okW : List (List UInt8) → Nat → WS → Prop
  | [], _, _ => True
  | b :: bs, i, s => badW s (readL b).1 = false ∧ okW bs (i + 1) (stepW i s b)
def runW : List (List UInt8) → Nat → WS → WS
  | [], _, s => s
  | b :: bs, i, s => runW bs (i + 1) (stepW i s b)
theorem scanW_app : ∀ (p q : List (List UInt8)) (i : Nat) (s : WS), okW p i s → scanW (p ++ q) i s = scanW q (i + p.length) (runW p i s)
  | [], q, i, s, _ => rfl
  | b :: p, q, i, s, h => by
    obtain ⟨h1, h2⟩ := h
    rw [List.cons_append, scanW, if_neg (by rw [h1]; simp), runW]
    have := scanW_app p q (i + 1) (stepW i s b) h2
    unfold stepW at this ⊢
    rw [this, List.length_cons]
    congr 1
    omega
theorem okW_app : ∀ (p q : List (List UInt8)) (i : Nat) (s : WS), okW (p ++ q) i s ↔ okW p i s ∧ okW q (i + p.length) (runW p i s)
  | [], q, i, s => by simp [okW, runW]
  | b :: p, q, i, s => by
    rw [List.cons_append, okW, okW, okW_app p q, runW, and_assoc, List.length_cons, show i + 1 + p.length = i + (p.length + 1) by omega]
theorem runW_app : ∀ (p q : List (List UInt8)) (i : Nat) (s : WS), runW (p ++ q) i s = runW q (i + p.length) (runW p i s)
  | [], q, i, s => rfl
  | b :: p, q, i, s => by
    rw [List.cons_append, runW, runW_app p q, runW, List.length_cons, show i + 1 + p.length = i + (p.length + 1) by omega]
/-- Behind a record. -/
structure Clean (s : WS) (i : Nat) : Prop where
  now : s.now = []
  within : s.within = false
  have_ : s.have_ = i
  fst : i ≠ 0 → s.fst = s.first
structure Told (f s : WS) : Prop where
  recs : f.recs = s.recs
  have_ : f.have_ = s.have_
  first : f.first = s.first
theorem nextW_end (i : Nat) (s : WS) (k : Nat) (p : List UInt8) : Clean (nextW i s k p true) (i + 1) := ⟨rfl, rfl, rfl, fun _ => rfl⟩
theorem nextW_more (i : Nat) (s : WS) (k : Nat) (p : List UInt8) : Told (nextW i s k p false) s := ⟨rfl, rfl, rfl⟩
theorem scan_parts : ∀ (bs : List (List UInt8)) (i : Nat) (s : WS), Told (scanW bs i s) s ∨ ∃ h, 1 ≤ h ∧ h ≤ bs.length ∧ okW (bs.take h) i s ∧ Clean (runW (bs.take h) i s) (i + h) ∧ Told (scanW bs i s) (runW (bs.take h) i s)
  | [], i, s => .inl ⟨rfl, rfl, rfl⟩
  | b :: bs, i, s => by
    by_cases hb : badW s (readL b).1 = true
    · left
      rw [scanW, if_pos hb]
      exact ⟨rfl, rfl, rfl⟩
    · have hb' : badW s (readL b).1 = false := by simpa using hb
      have hsc : scanW (b :: bs) i s = scanW bs (i + 1) (stepW i s b) := by rw [scanW, if_neg hb]; rfl
      rw [hsc]
      rcases scan_parts bs (i + 1) (stepW i s b) with h | ⟨h, h1, h2, h3, h4, h5⟩
      · cases he : (readL b).2.2 with
        | true =>
          right
          refine ⟨1, Nat.le_refl _, by simp, ?_, ?_, ?_⟩
          · rw [List.take_succ_cons, List.take_zero]; exact ⟨hb', trivial⟩
          · rw [List.take_succ_cons, List.take_zero, runW, runW]
            unfold stepW
            rw [he]
            exact nextW_end _ _ _ _
          · rw [List.take_succ_cons, List.take_zero, runW, runW]
            exact h
        | false =>
          left
          have h6 : Told (stepW i s b) s := by unfold stepW; rw [he]; exact nextW_more _ _ _ _
          exact ⟨h.recs.trans h6.recs, h.have_.trans h6.have_, h.first.trans h6.first⟩
      · right
        refine ⟨h + 1, by omega, by simp; omega, ?_, ?_, ?_⟩
        · rw [List.take_succ_cons]; exact ⟨hb', h3⟩
        · rw [List.take_succ_cons, runW, show i + (h + 1) = i + 1 + h by omega]; exact h4
        · rw [List.take_succ_cons, runW]; exact h5
/-- The ends of blocks. -/
def fL (b : List UInt8) : Nat := valL (b.take 8)
def kL (b : List UInt8) : Nat := valL (b.drop 120)
theorem most_le {x : Nat} : ∀ (bs : List (List UInt8)) (m : Nat), bs.foldl mostS m ≤ x ↔ m ≤ x ∧ ∀ b ∈ bs, fL b ≤ x ∧ kL b ≤ x
  | [], m => by simp
  | b :: bs, m => by
    rw [List.foldl_cons, most_le bs]
    unfold mostS fL kL
    simp only [List.mem_cons, forall_eq_or_imp]
    constructor
    · rintro ⟨h1, h2⟩
      exact ⟨by omega, ⟨by omega, by omega⟩, h2⟩
    · rintro ⟨h1, ⟨h2, h3⟩, h4⟩
      exact ⟨by omega, h4⟩
theorem mostL_le {bs : List (List UInt8)} {x : Nat} : mostL bs ≤ x ↔ ∀ b ∈ bs, fL b ≤ x ∧ kL b ≤ x := by
  unfold mostL
  rw [most_le]
  simp
theorem most_mem {bs : List (List UInt8)} {b : List UInt8} (h : b ∈ bs) : fL b ≤ mostL bs ∧ kL b ≤ mostL bs := mostL_le.1 (Nat.le_refl _) b h
/-- A block that is whole: its number stands at both ends. -/
theorem readL_ends {b : List UInt8} (h : (readL b).1 ≠ 0) : (readL b).1 = fL b ∧ fL b = kL b := by
  unfold readL at h ⊢
  split at h
  · exact absurd rfl h
  · rename_i h1
    rw [if_neg h1]
    simp only at h ⊢
    split at h
    · exact absurd rfl h
    · rename_i h2
      rw [if_neg h2]
      refine ⟨rfl, ?_⟩
      have h3 : blockL (valL (b.take 8)) ((b.drop 10).take (b[8]?.getD 0).toNat) (decide ((b[9]?.getD 0).toNat = 1)) = b := Classical.byContradiction fun h => h2 (.inl h)
      have h4 : ((b.drop 10).take (b[8]?.getD 0).toNat).length ≤ 110 := by rw [List.length_take]; omega
      have h5 : b.drop 120 = numL (valL (b.take 8)) := by
        conv => lhs; rw [← h3]
        unfold blockL
        rw [List.drop_append_of_le_length (by simp [numL_length]; omega), List.drop_eq_nil_of_le (by simp [numL_length]; omega), List.nil_append]
      unfold kL fL
      rw [h5, valL_num (val8 b)]
theorem readL_le {b : List UInt8} : (readL b).1 ≤ fL b := by
  by_cases h : (readL b).1 = 0
  · omega
  · exact Nat.le_of_eq (readL_ends h).1
theorem ahead_le : ∀ (bs : List (List UInt8)) (i : Nat) (s : WS) {x : Nat}, s.ahead ≤ x → (∀ b ∈ bs, fL b ≤ x) → (runW bs i s).ahead ≤ x
  | [], _, _, _, h, _ => h
  | b :: bs, i, s, x, h, hb => by
    rw [runW]
    refine ahead_le bs (i + 1) _ ?_ fun c hc => hb c (by simp [hc])
    have h1 : (stepW i s b).ahead = (readL b).1 := by unfold stepW nextW; split <;> rfl
    rw [h1]
    exact Nat.le_trans readL_le (hb b (by simp))
/-- A block that is laid is read as it was laid. -/
theorem readL_block {n : Nat} {part : List UInt8} {e : Bool} (hn : n < 18446744073709551616) (hp : part.length ≤ 110) (he : e = false → part.length = 110) : readL (blockL n part e) = (n, part, e) := by
  have hlen := blockL_length n e hp
  have h8 : (blockL n part e)[8]?.getD 0 = UInt8.ofNat part.length := by
    unfold blockL
    rw [List.append_assoc, List.append_assoc, List.append_assoc, List.getElem?_append_right (by simp [numL_length]), numL_length]
    rfl
  have h9 : (blockL n part e)[9]?.getD 0 = (if e then 1 else 0) := by
    unfold blockL
    rw [List.append_assoc, List.append_assoc, List.append_assoc, List.getElem?_append_right (by simp [numL_length]), numL_length]
    rfl
  have h8' : ((blockL n part e)[8]?.getD 0).toNat = part.length := by rw [h8, UInt8.toNat_ofNat']; omega
  have h9' : ((blockL n part e)[9]?.getD 0).toNat = (if e then 1 else 0) := by rw [h9]; cases e <;> rfl
  have ht : (blockL n part e).take 8 = numL n := by
    unfold blockL
    rw [List.append_assoc, List.append_assoc, List.append_assoc, List.take_append_of_le_length (by simp [numL_length]), List.take_of_length_le (by simp [numL_length])]
  have hd : ((blockL n part e).drop 10).take part.length = part := by
    unfold blockL
    have h2 : (numL n ++ [UInt8.ofNat part.length, if e then 1 else 0]).length = 10 := by simp [numL_length]
    rw [List.append_assoc, List.append_assoc, List.drop_append_of_le_length (by omega), List.drop_eq_nil_of_le (by omega), List.nil_append, List.take_append_of_le_length (by omega), List.take_of_length_le (by omega)]
  unfold readL
  rw [h8', h9', hlen, ht, valL_num hn, hd]
  rw [if_neg (by cases e <;> simp <;> omega)]
  simp only
  have hdec' : decide ((if e = true then 1 else 0) = (1 : Nat)) = e := by cases e <;> rfl
  rw [hdec']
  rw [if_neg]
  rintro (h | ⟨h1, h2⟩)
  · exact h rfl
  · cases e
    · have := he rfl; omega
    · simp at h1

/-! Logs, by values: a log that stands on blocks, and what an Add that writes all leaves. -/
/-- THE LOG m STANDS ON THE BLOCKS bs: its records are their front. -/
structure Fit (bs : List (List UInt8)) (m : LM) : Prop where
  h : m.have_ ≤ bs.length
  ok : okW (bs.take m.have_) 0 ws0
  clean : Clean (runW (bs.take m.have_) 0 ws0) m.have_
  recs : m.l = (runW (bs.take m.have_) 0 ws0).recs
  first : m.first = (runW (bs.take m.have_) 0 ws0).first
  ends : ∀ b ∈ bs, fL b < m.next ∧ kL b < m.next
  len : ∀ b ∈ bs, b.length = 128
theorem ws0_clean : Clean ws0 0 := ⟨rfl, rfl, rfl, fun h => absurd rfl h⟩
theorem open_fit {bs : List (List UInt8)} {from_ n : Int} (hl : ∀ b ∈ bs, b.length = 128) (hm : mostL bs + 1 < 18446744073709551616) : Fit bs (openM bs from_ n) := by
  have hends : ∀ b ∈ bs, fL b < (mostL bs + 1) % 18446744073709551616 ∧ kL b < (mostL bs + 1) % 18446744073709551616 := fun b hb => by
    have := most_mem hb
    rw [Nat.mod_eq_of_lt hm]
    omega
  unfold openM
  rcases scan_parts bs 0 ws0 with h | ⟨h, h1, h2, h3, h4, h5⟩
  · have hz : (scanW bs 0 ws0).have_ = 0 := h.have_
    refine ⟨by simp [hz], ?_, ?_, ?_, ?_, hends, hl⟩
    · simp only [hz, List.take_zero]; trivial
    · simp only [hz, List.take_zero]; exact ws0_clean
    · simp only [hz, List.take_zero]; exact h.recs
    · simp only [hz, List.take_zero]; exact h.first
  · have hz : (scanW bs 0 ws0).have_ = h := by rw [h5.have_, h4.have_, Nat.zero_add]
    rw [Nat.zero_add] at h4
    refine ⟨by simp only [hz]; exact h2, ?_, ?_, ?_, ?_, hends, hl⟩
    · simp only [hz]; exact h3
    · simp only [hz]; exact h4
    · simp only [hz]; exact h5.recs
    · simp only [hz]; exact h5.first
/-- A log that is begun. -/
theorem begin_fit {bs : List (List UInt8)} {from_ n : Int} {least : Nat} (hl : ∀ b ∈ bs, b.length = 128) (hm : mostL bs + 1 < 18446744073709551616) : Fit bs (beginM (openM bs from_ n) from_ n least) := by
  have h := (open_fit (from_ := from_) (n := n) hl hm).ends
  refine ⟨Nat.zero_le _, trivial, ws0_clean, rfl, rfl, fun b hb => ?_, hl⟩
  have h1 := h b hb
  unfold beginM
  simp only
  split <;> omega
/-- Blocks behind a log: an old one ends the scan. -/
theorem bad_old {s : WS} {b : List UInt8} {x : Nat} (h : fL b < x) (hs : x ≤ s.ahead) : badW s (readL b).1 = true := by
  have := readL_le (b := b)
  unfold badW
  simp only [Bool.or_eq_true, decide_eq_true_eq]
  left
  right
  omega
theorem scan_old {bs : List (List UInt8)} {i : Nat} {s : WS} {x : Nat} (h : ∀ b ∈ bs, fL b < x) (hs : x ≤ s.ahead) : scanW bs i s = s := by
  cases bs with
  | nil => rfl
  | cons b bs => rw [scanW, if_pos (bad_old (h b (by simp)) hs)]
/-- The front of a record's blocks. -/
def recL (x : Nat) (b : List UInt8) (n j : Nat) : List (List UInt8) := (List.range j).map (recB x b n)
theorem recL_length (x : Nat) (b : List UInt8) (n j : Nat) : (recL x b n j).length = j := by simp [recL]
theorem recL_succ (x : Nat) (b : List UInt8) (n j : Nat) : recL x b n (j + 1) = recL x b n j ++ [recB x b n j] := by simp [recL, List.range_succ]
theorem blocksN_lt (n i : Nat) (h : i + 1 < blocksN n) : 110 * (i + 1) < n := by
  unfold blocksN at h
  split at h <;> omega
theorem blocksN_ge (n : Nat) : n ≤ 110 * blocksN n := by
  unfold blocksN
  split <;> omega
theorem readL_rec {x : Nat} {b : List UInt8} {i : Nat} (hi : i < blocksN b.length) (hx : x + i < 18446744073709551616) : readL (recB x b (blocksN b.length) i) = (x + i, partL b i, decide (i + 1 = blocksN b.length)) := by
  unfold recB
  refine readL_block hx (partL_length b i) fun he => ?_
  have h1 := blocksN_lt b.length i (by have := of_decide_eq_false he; omega)
  unfold partL
  rw [List.length_take, List.length_drop]
  omega
theorem part_join (b : List UInt8) (j : Nat) : b.take (110 * j) ++ partL b j = b.take (110 * (j + 1)) := by
  unfold partL
  rw [Nat.mul_add, List.take_add]
/-- Where a scan stands within a record that is being laid. -/
structure MidW (s0 s : WS) (x j : Nat) (b : List UInt8) : Prop where
  now : s.now = b.take (110 * j)
  within : s.within = decide (0 < j)
  ahead : 0 < j → s.ahead = x + j - 1
  recs : s.recs = s0.recs
  have_ : s.have_ = s0.have_
  first : s.first = s0.first
theorem rec_front {x h : Nat} {b : List UInt8} {s0 : WS} (hc : Clean s0 h) (ha : s0.ahead < x) (hx0 : 0 < x) (hx : x + blocksN b.length < 18446744073709551616) : ∀ j, j < blocksN b.length → okW (recL x b (blocksN b.length) j) h s0 ∧ MidW s0 (runW (recL x b (blocksN b.length) j) h s0) x j b ∧ (h = 0 → 0 < j → (runW (recL x b (blocksN b.length) j) h s0).fst = x) ∧ (j = 0 → runW (recL x b (blocksN b.length) j) h s0 = s0) ∧ (h ≠ 0 → (runW (recL x b (blocksN b.length) j) h s0).fst = s0.fst)
  | 0, _ => ⟨trivial, ⟨by simp [recL, runW, hc.now], by simp [recL, runW, hc.within], fun h => by omega, rfl, rfl, rfl⟩, fun _ h => by omega, fun _ => rfl, fun _ => rfl⟩
  | j + 1, hj => by
    obtain ⟨h1, h2, h3, h4, h5⟩ := rec_front hc ha hx0 hx j (by omega)
    have hr := readL_rec (x := x) (b := b) (i := j) (by omega) (by omega)
    rw [recL_succ, okW_app, runW_app, recL_length]
    generalize hs : runW (recL x b (blocksN b.length) j) h s0 = s at *
    have hde : decide (j + 1 = blocksN b.length) = false := decide_eq_false (by omega)
    rw [hde] at hr
    have hbad : badW s (readL (recB x b (blocksN b.length) j)).1 = false := by
      rw [hr]
      unfold badW
      simp only [Bool.or_eq_false_iff, Bool.and_eq_false_iff, decide_eq_false_iff_not]
      by_cases hj0 : j = 0
      · have hss := h4 hj0
        rw [hss]
        refine ⟨⟨by omega, by omega⟩, .inl hc.within⟩
      · have ha2 := h2.ahead (by omega)
        rw [ha2]
        exact ⟨⟨by omega, by omega⟩, .inr (by omega)⟩
    have hst : stepW (h + j) s (recB x b (blocksN b.length) j) = ⟨s.now ++ partL b j, true, x + j, if h + j = 0 then x + j else s.fst, s.recs, s.have_, s.first⟩ := by
      unfold stepW
      rw [hr]
      rfl
    refine ⟨⟨h1, hbad, trivial⟩, ?_, ?_, fun h => by omega, ?_⟩
    · rw [runW, runW, hst]
      exact ⟨by simp only; rw [h2.now, part_join], by simp, fun _ => by simp only; omega, h2.recs, h2.have_, h2.first⟩
    · intro h0 _
      rw [runW, runW, hst]
      simp only
      by_cases hj0 : j = 0
      · rw [if_pos (by omega)]; omega
      · rw [if_neg (by omega)]
        exact h3 h0 (by omega)
    · intro h0
      rw [runW, runW, hst]
      simp only
      rw [if_neg (by omega)]
      exact h5 h0
/-- The whole of a record. -/
theorem rec_whole {x h : Nat} {b : List UInt8} {s0 : WS} (hc : Clean s0 h) (ha : s0.ahead < x) (hx0 : 0 < x) (hx : x + blocksN b.length < 18446744073709551616) :
    okW (recL x b (blocksN b.length) (blocksN b.length)) h s0 ∧ Clean (runW (recL x b (blocksN b.length) (blocksN b.length)) h s0) (h + blocksN b.length) ∧ (runW (recL x b (blocksN b.length) (blocksN b.length)) h s0).recs = s0.recs ++ [b] ∧ (runW (recL x b (blocksN b.length) (blocksN b.length)) h s0).first = (if h = 0 then x else s0.first) ∧ (runW (recL x b (blocksN b.length) (blocksN b.length)) h s0).ahead = x + blocksN b.length - 1 ∧ (runW (recL x b (blocksN b.length) (blocksN b.length)) h s0).fst = (runW (recL x b (blocksN b.length) (blocksN b.length)) h s0).first := by
  have hk := blocksN_one b.length
  obtain ⟨K, hK⟩ : ∃ K, blocksN b.length = K + 1 := ⟨blocksN b.length - 1, by omega⟩
  obtain ⟨h1, h2, h3, h4, h5⟩ := rec_front hc ha hx0 hx K (by omega)
  have hr := readL_rec (x := x) (b := b) (i := K) (by omega) (by omega)
  have hde : decide (K + 1 = blocksN b.length) = true := decide_eq_true (by omega)
  rw [hde] at hr
  have hge := blocksN_ge b.length
  generalize hB : blocksN b.length = B at *
  rw [hK, recL_succ, okW_app, runW_app, recL_length]
  rw [hK] at h1 h2 h3 h4 h5 hr
  generalize hs : runW (recL x b (K + 1) K) h s0 = s at *
  have hbad : badW s (readL (recB x b (K + 1) K)).1 = false := by
    rw [hr]
    unfold badW
    simp only [Bool.or_eq_false_iff, Bool.and_eq_false_iff, decide_eq_false_iff_not]
    by_cases hj0 : K = 0
    · have hss := h4 hj0
      rw [hss]
      exact ⟨⟨by omega, by omega⟩, .inl hc.within⟩
    · have ha2 := h2.ahead (by omega)
      rw [ha2]
      exact ⟨⟨by omega, by omega⟩, .inr (by omega)⟩
  have hfx : (if h + K = 0 then x + K else s.fst) = (if h = 0 then x else s0.first) := by
    by_cases h0 : h = 0
    · rw [if_pos h0]
      by_cases hj0 : K = 0
      · rw [if_pos (by omega)]; omega
      · rw [if_neg (by omega)]; exact h3 h0 (by omega)
    · rw [if_neg h0, if_neg (by omega), h5 h0, hc.fst h0]
  have hst : stepW (h + K) s (recB x b (K + 1) K) = ⟨[], false, x + K, if h + K = 0 then x + K else s.fst, s.recs ++ [s.now ++ partL b K], h + K + 1, if h + K = 0 then x + K else s.fst⟩ := by
    unfold stepW
    rw [hr]
    rfl
  rw [runW, runW, hst]
  refine ⟨⟨h1, hbad, trivial⟩, ⟨rfl, rfl, by simp only; omega, fun _ => rfl⟩, ?_, hfx, by simp only; omega, rfl⟩
  simp only
  rw [h2.recs, h2.now, part_join, List.take_of_length_le (by omega)]

/-! Logs, by values: what an Add that writes all leaves, and where a write was torn. -/
/-- A row with some of it written anew. -/
def putL (l : List (List UInt8)) (a : Nat) (r : List (List UInt8)) : List (List UInt8) := l.take a ++ r ++ l.drop (a + r.length)
theorem putL_length {l r : List (List UInt8)} {a : Nat} (h : a + r.length ≤ l.length) : (putL l a r).length = l.length := by
  unfold putL
  rw [List.length_append, List.length_append, List.length_take, List.length_drop]
  omega
theorem putL_nil (l : List (List UInt8)) (a : Nat) : putL l a [] = l := by simp [putL]
theorem putL_get {l r : List (List UInt8)} {a i : Nat} (h : a + r.length ≤ l.length) : (putL l a r)[i]? = if a ≤ i ∧ i < a + r.length then r[i - a]? else l[i]? := by
  unfold putL
  rw [List.append_assoc]
  by_cases h1 : i < a
  · rw [List.getElem?_append_left (by rw [List.length_take]; omega), List.getElem?_take_of_lt h1, if_neg (by omega)]
  · rw [List.getElem?_append_right (by rw [List.length_take]; omega), List.length_take, Nat.min_eq_left (by omega)]
    by_cases h2 : i < a + r.length
    · rw [List.getElem?_append_left (by omega), if_pos (by omega)]
    · rw [List.getElem?_append_right (by omega), List.getElem?_drop, if_neg (by omega)]
      congr 1
      omega
theorem putL_set {l r : List (List UInt8)} {a : Nat} (h : a + r.length < l.length) (x : List UInt8) : (putL l a r).set (a + r.length) x = putL l a (r ++ [x]) := by
  apply List.ext_getElem?
  intro i
  rw [List.getElem?_set, putL_get (by omega), putL_get (by rw [List.length_append, List.length_singleton]; omega), putL_length (by omega)]
  rw [List.length_append, List.length_singleton]
  by_cases h1 : a + r.length = i
  · rw [if_pos h1, if_pos (by omega), if_pos (by omega), List.getElem?_append_right (by omega)]
    rw [show i - a - r.length = 0 by omega]
    rfl
  · rw [if_neg h1]
    by_cases h2 : a ≤ i ∧ i < a + r.length
    · rw [if_pos h2, if_pos (by omega), List.getElem?_append_left (by omega)]
    · rw [if_neg h2, if_neg (by omega)]
theorem putL_mem {l r : List (List UInt8)} {a : Nat} {c : List UInt8} (h : c ∈ putL l a r) : c ∈ l ∨ c ∈ r := by
  unfold putL at h
  rw [List.mem_append, List.mem_append] at h
  rcases h with (h | h) | h
  · exact .inl (List.mem_of_mem_take h)
  · exact .inr h
  · exact .inl (List.mem_of_mem_drop h)
theorem blocksOf_length {l : List (List UInt8)} {f n : Nat} (h : f + n ≤ l.length) : (blocksOf l (f : Int) (n : Int)).length = n := by
  simp [blocksOf]
  omega
theorem blocksOf_get (l : List (List UInt8)) (f n i : Nat) : (blocksOf l (f : Int) (n : Int))[i]? = if i < n then l[f + i]? else none := by
  unfold blocksOf
  rw [Int.toNat_natCast, Int.toNat_natCast, List.getElem?_take, List.getElem?_drop]
theorem blocksOf_put {l r : List (List UInt8)} {f n h : Nat} (h1 : f + n ≤ l.length) (h2 : h + r.length ≤ n) : blocksOf (putL l (f + h) r) (f : Int) (n : Int) = putL (blocksOf l (f : Int) (n : Int)) h r := by
  apply List.ext_getElem?
  intro i
  rw [blocksOf_get, putL_get (by omega), putL_get (by rw [blocksOf_length h1]; exact h2), blocksOf_get]
  by_cases h3 : i < n
  · rw [if_pos h3, if_pos h3]
    by_cases h4 : h ≤ i ∧ i < h + r.length
    · rw [if_pos h4, if_pos (by omega)]
      congr 1
      omega
    · rw [if_neg h4, if_neg (by omega)]
  · rw [if_neg h3, if_neg (by omega), if_neg h3]
theorem recB_length (x : Nat) (b : List UInt8) (n i : Nat) : (recB x b n i).length = 128 := blockL_length _ _ (partL_length b i)
/-- A block whose write was torn. -/
def tornB (t : Nat) (new old : List UInt8) : List UInt8 := new.take t ++ old.drop t
/-- The blocks of a record, one behind the other: all are written, or one is torn. -/
theorem addGo_cases {l : List (List UInt8)} {a x K : Nat} {b : List UInt8} (ha : a + K ≤ l.length) : ∀ (k i : Nat) (d : DM), i + k = K → d.down = false → d.l = putL l a (recL x b K i) →
    ((addGo (a : Int) x b K k i d).2 = 0 ∧ (addGo (a : Int) x b K k i d).1.l = putL l a (recL x b K K) ∧ (addGo (a : Int) x b K k i d).1.down = false ∧ (addGo (a : Int) x b K k i d).1.torn = d.torn ∧ (d.left < 0 → (addGo (a : Int) x b K k i d).1.left < 0)) ∨
    (0 ≤ d.left ∧ (addGo (a : Int) x b K k i d).2 = 30 ∧ (addGo (a : Int) x b K k i d).1.torn = d.torn ∧ ∃ j, i ≤ j ∧ j < K ∧ (addGo (a : Int) x b K k i d).1.l = putL l a (recL x b K j ++ [tornB d.torn.toNat (recB x b K j) (l[a + j]?.getD [])]))
  | 0, i, d, hk, hd, hl => by
    obtain rfl : i = K := by omega
    left
    exact ⟨rfl, hl, hd, rfl, fun h => h⟩
  | k + 1, i, d, hk, hd, hl => by
    have hlen : d.l.length = l.length := by rw [hl, putL_length (by rw [recL_length]; omega)]
    have hai : (a : Int) + (i : Int) = ((a + i : Nat) : Int) := by omega
    have hol : d.l[a + i]? = l[a + i]? := by rw [hl, putL_get (by rw [recL_length]; omega), recL_length, if_neg (by omega)]
    have hset : ∀ y, d.l.set (a + i) y = putL l a (recL x b K i ++ [y]) := fun y => by
      have := putL_set (l := l) (r := recL x b K i) (a := a) (by rw [recL_length]; omega) y
      rw [recL_length] at this
      rw [hl, this]
    unfold addGo
    rw [hai]
    by_cases hz : d.left = 0
    · have hw : writeM d ((a + i : Nat) : Int) (recB x b K i) = ({ d with l := d.l.set (a + i) ((recB x b K i).take d.torn.toNat ++ (d.l[a + i]?.getD []).drop d.torn.toNat), down := true }, 30) := by
        unfold writeM
        rw [if_neg (by simp [hd]), if_neg (by omega), if_neg (by rw [recB_length]; simp), if_pos hz]
        rfl
      rw [hw]
      rw [if_neg (by simp)]
      right
      refine ⟨by omega, rfl, rfl, i, Nat.le_refl _, by omega, ?_⟩
      simp only
      rw [hset, hol]
      rfl
    · have hw : writeM d ((a + i : Nat) : Int) (recB x b K i) = ({ d with l := d.l.set (a + i) (recB x b K i), left := if 0 < d.left then d.left - 1 else d.left }, 0) := by
        unfold writeM
        rw [if_neg (by simp [hd]), if_neg (by omega), if_neg (by rw [recB_length]; simp), if_neg hz]
        rfl
      rw [hw, if_pos rfl]
      simp only
      have ih := addGo_cases ha k (i + 1) { d with l := d.l.set (a + i) (recB x b K i), left := if 0 < d.left then d.left - 1 else d.left } (by omega) hd (by simp only; rw [hset, recL_succ])
      rcases ih with ⟨h1, h2, h3, h4, h5⟩ | ⟨h1, h2, h3, j, h4, h5, h6⟩
      · left
        refine ⟨h1, h2, h3, h4, fun h => h5 ?_⟩
        simp only
        rw [if_neg (by omega)]
        exact h
      · right
        simp only at h1
        exact ⟨by split at h1 <;> omega, h2, h3, j, by omega, h5, h6⟩
theorem rec_ends {x : Nat} {b : List UInt8} {i : Nat} (hi : i < blocksN b.length) (h0 : 0 < x) (hx : x + i < 18446744073709551616) : fL (recB x b (blocksN b.length) i) = x + i ∧ kL (recB x b (blocksN b.length) i) = x + i := by
  have h1 := readL_rec (x := x) (b := b) hi hx
  have h2 : (readL (recB x b (blocksN b.length) i)).1 = x + i := by rw [h1]
  have h3 := readL_ends (b := recB x b (blocksN b.length) i) (by rw [h2]; omega)
  omega
theorem recL_mem {x : Nat} {b : List UInt8} {n j : Nat} {c : List UInt8} (h : c ∈ recL x b n j) : ∃ i, i < j ∧ c = recB x b n i := by
  unfold recL at h
  obtain ⟨i, h1, h2⟩ := List.mem_map.1 h
  exact ⟨i, List.mem_range.1 h1, h2.symm⟩
theorem fit_ahead {bs : List (List UInt8)} {m : LM} (h : Fit bs m) (h0 : 0 < m.next) : (runW (bs.take m.have_) 0 ws0).ahead < m.next := by
  have := ahead_le (bs.take m.have_) 0 ws0 (x := m.next - 1) (Nat.zero_le _) (fun b hb => by have := (h.ends b (List.mem_of_mem_take hb)).1; omega)
  omega
theorem take_put {l r : List (List UInt8)} {a : Nat} (h : a ≤ l.length) : (putL l a r).take (a + r.length) = l.take a ++ r := by
  unfold putL
  rw [List.take_left' (by rw [List.length_append, List.length_take]; omega)]
/-- AN ADD THAT WRITES ALL. -/
theorem add_fit {bs : List (List UInt8)} {m : LM} (hf : Fit bs m) (b : List UInt8) (h0 : 0 < m.next) (hK : m.have_ + blocksN b.length ≤ bs.length) (hx : m.next + blocksN b.length < 18446744073709551616) :
    Fit (putL bs m.have_ (recL m.next b (blocksN b.length) (blocksN b.length))) (addOk m b) ∧ openM (putL bs m.have_ (recL m.next b (blocksN b.length) (blocksN b.length))) m.from_ m.n = addOk m b := by
  obtain ⟨h1, h2, h3, h4, h5, h6⟩ := rec_whole hf.clean (fit_ahead hf h0) h0 hx
  have hk1 := blocksN_one b.length
  have htk := take_put (l := bs) (r := recL m.next b (blocksN b.length) (blocksN b.length)) (a := m.have_) (by omega)
  rw [recL_length] at htk
  have hlt : (bs.take m.have_).length = m.have_ := by rw [List.length_take]; omega
  have hok : okW (bs.take m.have_ ++ recL m.next b (blocksN b.length) (blocksN b.length)) 0 ws0 := by
    rw [okW_app, hlt, Nat.zero_add]
    exact ⟨hf.ok, h1⟩
  have hrun : runW (bs.take m.have_ ++ recL m.next b (blocksN b.length) (blocksN b.length)) 0 ws0 = runW (recL m.next b (blocksN b.length) (blocksN b.length)) m.have_ (runW (bs.take m.have_) 0 ws0) := by
    rw [runW_app, hlt, Nat.zero_add]
  have hends : ∀ c ∈ putL bs m.have_ (recL m.next b (blocksN b.length) (blocksN b.length)), fL c < m.next + blocksN b.length ∧ kL c < m.next + blocksN b.length := fun c hc => by
    rcases putL_mem hc with hc | hc
    · have := hf.ends c hc
      omega
    · obtain ⟨i, hi, rfl⟩ := recL_mem hc
      have := rec_ends (x := m.next) (b := b) hi h0 (by omega)
      omega
  have hlast : recB m.next b (blocksN b.length) (blocksN b.length - 1) ∈ putL bs m.have_ (recL m.next b (blocksN b.length) (blocksN b.length)) := by
    unfold putL
    rw [List.mem_append, List.mem_append]
    exact .inl (.inr (List.mem_map.2 ⟨_, List.mem_range.2 (by omega), rfl⟩))
  have hmost : mostL (putL bs m.have_ (recL m.next b (blocksN b.length) (blocksN b.length))) = m.next + blocksN b.length - 1 := by
    apply Nat.le_antisymm
    · exact mostL_le.2 fun c hc => by have := hends c hc; omega
    · have e1 := most_mem hlast
      have e2 := rec_ends (x := m.next) (b := b) (i := blocksN b.length - 1) (by omega) h0 (by omega)
      omega
  have hfirst : (addOk m b).first = (runW (bs.take m.have_ ++ recL m.next b (blocksN b.length) (blocksN b.length)) 0 ws0).first := by
    rw [hrun, h4, addOk, ← hf.first]
  have hrecs : (addOk m b).l = (runW (bs.take m.have_ ++ recL m.next b (blocksN b.length) (blocksN b.length)) 0 ws0).recs := by
    rw [hrun, h3, addOk, ← hf.recs]
  refine ⟨⟨?_, ?_, ?_, ?_, ?_, hends, ?_⟩, ?_⟩
  · rw [putL_length (by rw [recL_length]; exact hK)]
    exact hK
  · show okW ((putL bs m.have_ (recL m.next b (blocksN b.length) (blocksN b.length))).take (m.have_ + blocksN b.length)) 0 ws0
    rw [htk]
    exact hok
  · show Clean (runW ((putL bs m.have_ (recL m.next b (blocksN b.length) (blocksN b.length))).take (m.have_ + blocksN b.length)) 0 ws0) (m.have_ + blocksN b.length)
    rw [htk, hrun]
    exact h2
  · show _ = (runW ((putL bs m.have_ (recL m.next b (blocksN b.length) (blocksN b.length))).take (m.have_ + blocksN b.length)) 0 ws0).recs
    rw [htk]
    exact hrecs
  · show _ = (runW ((putL bs m.have_ (recL m.next b (blocksN b.length) (blocksN b.length))).take (m.have_ + blocksN b.length)) 0 ws0).first
    rw [htk]
    exact hfirst
  · intro c hc
    rcases putL_mem hc with hc | hc
    · exact hf.len c hc
    · obtain ⟨i, hi, rfl⟩ := recL_mem hc
      exact recB_length _ _ _ _
  · have hsc : scanW (putL bs m.have_ (recL m.next b (blocksN b.length) (blocksN b.length))) 0 ws0 = runW (bs.take m.have_ ++ recL m.next b (blocksN b.length) (blocksN b.length)) 0 ws0 := by
      unfold putL
      rw [scanW_app _ _ _ _ hok]
      refine scan_old (x := m.next) (fun c hc => (hf.ends c (List.mem_of_mem_drop hc)).1) ?_
      rw [hrun, h5]
      omega
    unfold openM
    simp only
    rw [hsc, hmost, ← hrecs, ← hfirst]
    have hhv : (runW (bs.take m.have_ ++ recL m.next b (blocksN b.length) (blocksN b.length)) 0 ws0).have_ = m.have_ + blocksN b.length := by rw [hrun]; exact h2.have_
    rw [hhv]
    unfold addOk
    simp only [LM.mk.injEq, true_and, and_true]
    omega

/-! A block of a log whose write was torn: it is the old one, or the new one, or none. -/
theorem num_low {x : Nat} (h : x < 65536) : numL x = [0, 0, 0, 0, 0, 0, UInt8.ofNat (x / 256), UInt8.ofNat x] := by
  have z : ∀ j, 2 ≤ j → UInt8.ofNat (x / 256 ^ j) = 0 := fun j hj => by
    have h1 : 256 ^ 2 ≤ 256 ^ j := Nat.pow_le_pow_right (by omega) hj
    rw [Nat.div_eq_of_lt (by omega)]
    rfl
  unfold numL
  simp only [besL]
  rw [z 7 (by omega), z 6 (by omega), z 5 (by omega), z 4 (by omega), z 3 (by omega), z 2 (by omega)]
  simp
theorem val_low (a b : UInt8) : valL [0, 0, 0, 0, 0, 0, a, b] = a.toNat * 256 + b.toNat := by simp [valL]
/-- A block of low ends. -/
theorem block_low {c : List UInt8} (h : c.length = 128) (hf : fL c < 65536) (hk : kL c < 65536) : ∃ a b M k l, c = [0, 0, 0, 0, 0, 0, a, b] ++ M ++ [0, 0, 0, 0, 0, 0, k, l] ∧ M.length = 112 ∧ fL c = a.toNat * 256 + b.toNat ∧ kL c = k.toNat * 256 + l.toNat := by
  have h1 := num_val (l := c.take 8) (by rw [List.length_take]; omega)
  have h2 := num_val (l := c.drop 120) (by rw [List.length_drop]; omega)
  rw [show valL (c.take 8) = fL c from rfl, num_low hf] at h1
  rw [show valL (c.drop 120) = kL c from rfl, num_low hk] at h2
  refine ⟨UInt8.ofNat (fL c / 256), UInt8.ofNat (fL c), (c.drop 8).take 112, UInt8.ofNat (kL c / 256), UInt8.ofNat (kL c), ?_, ?_, ?_, ?_⟩
  · rw [h1, h2, List.append_assoc]
    have h3 : c.drop 120 = (c.drop 8).drop 112 := by rw [List.drop_drop]
    rw [h3, List.take_append_drop, List.take_append_drop]
  · rw [List.length_take, List.length_drop]
    omega
  · rw [UInt8.toNat_ofNat', UInt8.toNat_ofNat']
    omega
  · rw [UInt8.toNat_ofNat', UInt8.toNat_ofNat']
    omega
theorem ends_low (a b k l : UInt8) {M : List UInt8} (h : M.length = 112) : fL ([0, 0, 0, 0, 0, 0, a, b] ++ M ++ [0, 0, 0, 0, 0, 0, k, l]) = a.toNat * 256 + b.toNat ∧ kL ([0, 0, 0, 0, 0, 0, a, b] ++ M ++ [0, 0, 0, 0, 0, 0, k, l]) = k.toNat * 256 + l.toNat := by
  constructor
  · unfold fL
    rw [List.append_assoc, List.take_left' (by rfl), val_low]
  · unfold kL
    rw [List.drop_left' (by simp [h]), val_low]
theorem readL_unlike {c : List UInt8} (h : fL c ≠ kL c) : (readL c).1 = 0 := Classical.byContradiction fun h1 => h (readL_ends h1).2
theorem torn_block {c nb : List UInt8} {x t : Nat} (hc : c.length = 128) (hn : nb.length = 128) (hfx : fL nb = x) (hkx : kL nb = x) (hx : x < 65536) (hf : fL c < x) (hk : kL c < x) (hh : kL c / 256 ≤ fL c / 256) (ht : t ≤ 128) :
    (tornB t nb c = c ∨ tornB t nb c = nb ∨ (readL (tornB t nb c)).1 = 0) ∧ fL (tornB t nb c) ≤ x / 256 * 256 + 255 ∧ kL (tornB t nb c) ≤ x / 256 * 256 + 255 ∧ kL (tornB t nb c) / 256 ≤ fL (tornB t nb c) / 256 := by
  obtain ⟨a, b, M, k, l, ec, hM, h1, h2⟩ := block_low hc (by omega) (by omega)
  obtain ⟨a', b', M', k', l', en, hM', h3, h4⟩ := block_low hn (by omega) (by omega)
  have e1 : a' = k' := UInt8.toNat.inj (by have := a'.toNat_lt; have := b'.toNat_lt; have := k'.toNat_lt; have := l'.toNat_lt; omega)
  have e2 : b' = l' := UInt8.toNat.inj (by have := a'.toNat_lt; have := b'.toNat_lt; have := k'.toNat_lt; have := l'.toNat_lt; omega)
  subst e1 e2
  have ha := a.toNat_lt
  have hb := b.toNat_lt
  have hk1 := k.toNat_lt
  have hl1 := l.toNat_lt
  have ha' := a'.toNat_lt
  have hb' := b'.toNat_lt
  by_cases t6 : t ≤ 6
  · have h6 : nb.take 6 = c.take 6 := by rw [ec, en]; rfl
    have : nb.take t = c.take t := by
      rw [show t = min t 6 by omega, ← List.take_take, ← List.take_take, h6]
    have hcc : tornB t nb c = c := by unfold tornB; rw [this, List.take_append_drop]
    rw [hcc]
    exact ⟨.inl rfl, by omega, by omega, hh⟩
  · by_cases t7 : t = 7
    · subst t7
      have hcc : tornB 7 nb c = [0, 0, 0, 0, 0, 0, a', b] ++ M ++ [0, 0, 0, 0, 0, 0, k, l] := by unfold tornB; rw [ec, en]; rfl
      have he := ends_low a' b k l hM
      rw [hcc]
      refine ⟨?_, by omega, by omega, by omega⟩
      by_cases haa : a' = a
      · left
        rw [ec, haa]
      · right
        right
        refine readL_unlike ?_
        have hne : a'.toNat ≠ a.toNat := fun h => haa (UInt8.toNat.inj h)
        omega
    · by_cases t126 : t ≤ 126
      · have hf' : fL (tornB t nb c) = x := by
          unfold fL tornB
          rw [List.take_append_of_le_length (by rw [List.length_take]; omega), List.take_take, Nat.min_eq_left (by omega)]
          exact hfx
        have hk' : kL (tornB t nb c) = kL c := by
          unfold kL tornB
          congr 1
          apply List.ext_getElem?
          intro i
          rw [List.getElem?_drop, List.getElem?_drop]
          by_cases hi : 120 + i < t
          · rw [List.getElem?_append_left (by rw [List.length_take]; omega), List.getElem?_take_of_lt hi, ec, en]
            rw [List.getElem?_append_right (by simp; omega), List.getElem?_append_right (by simp; omega)]
            simp only [List.length_append, List.length_cons, List.length_nil, hM, hM']
            rw [show 120 + i - (0 + 1 + 1 + 1 + 1 + 1 + 1 + 1 + 1 + 112) = i by omega]
            have hi6 : i < 6 := by omega
            rcases i with _ | _ | _ | _ | _ | _ | i <;> first | rfl | omega
          · rw [List.getElem?_append_right (by rw [List.length_take]; omega), List.length_take, Nat.min_eq_left (by omega), List.getElem?_drop]
            congr 1
            omega
        rw [hf', hk']
        exact ⟨.inr (.inr (readL_unlike (by rw [hf', hk']; omega))), by omega, by omega, by omega⟩
      · by_cases t127 : t = 127
        · subst t127
          have hcc : tornB 127 nb c = [0, 0, 0, 0, 0, 0, a', b'] ++ M' ++ [0, 0, 0, 0, 0, 0, a', l] := by
            have e1 : nb.take 127 = [0, 0, 0, 0, 0, 0, a', b'] ++ M' ++ [0, 0, 0, 0, 0, 0, a'] := by
              rw [en, List.take_append, List.take_of_length_le (by simp [hM'])]
              simp [hM']
            have e2 : c.drop 127 = [l] := by
              rw [ec, List.drop_append, List.drop_eq_nil_of_le (by simp [hM])]
              simp [hM]
            unfold tornB
            rw [e1, e2]
            simp
          have he := ends_low a' b' a' l hM'
          rw [hcc]
          refine ⟨?_, by omega, by omega, by omega⟩
          by_cases hll : l = b'
          · right
            left
            rw [en, hll]
          · right
            right
            refine readL_unlike ?_
            have hne : l.toNat ≠ b'.toNat := fun h => hll (UInt8.toNat.inj h)
            omega
        · have hcc : tornB t nb c = nb := by
            unfold tornB
            rw [List.take_of_length_le (by omega), List.drop_eq_nil_of_le (by omega), List.append_nil]
          rw [hcc]
          exact ⟨.inr (.inl rfl), by omega, by omega, by omega⟩

/-! A log whose Add was torn: what Open tells of its blocks then. -/
/-- Blocks of low ends. -/
def Lo (bs : List (List UInt8)) : Prop := ∀ c ∈ bs, kL c / 256 ≤ fL c / 256
theorem mid_scan {bs : List (List UInt8)} {m : LM} (hf : Fit bs m) (b : List UInt8) (h0 : 0 < m.next) (hx : m.next + blocksN b.length < 18446744073709551616) {j : Nat} (hj : j < blocksN b.length) (hh : m.have_ + j < bs.length) (q : List (List UInt8)) :
    ∃ s, scanW (bs.take m.have_ ++ recL m.next b (blocksN b.length) j ++ q) 0 ws0 = scanW q (m.have_ + j) s ∧ MidW (runW (bs.take m.have_) 0 ws0) s m.next j b := by
  obtain ⟨h1, h2, _, _, _⟩ := rec_front hf.clean (fit_ahead hf h0) h0 hx j hj
  have hlt : (bs.take m.have_).length = m.have_ := by rw [List.length_take]; omega
  have hok : okW (bs.take m.have_ ++ recL m.next b (blocksN b.length) j) 0 ws0 := by
    rw [okW_app, hlt, Nat.zero_add]
    exact ⟨hf.ok, h1⟩
  refine ⟨runW (bs.take m.have_ ++ recL m.next b (blocksN b.length) j) 0 ws0, ?_, ?_⟩
  · rw [scanW_app _ _ _ _ hok, List.length_append, hlt, recL_length, Nat.zero_add]
  · rw [runW_app, hlt, Nat.zero_add]
    exact h2
theorem mid_scan' {bs : List (List UInt8)} {m : LM} (hf : Fit bs m) (b : List UInt8) (h0 : 0 < m.next) (hx : m.next + blocksN b.length < 18446744073709551616) {j : Nat} (hj : j < blocksN b.length) (hh : m.have_ + j < bs.length) (q : List (List UInt8)) (hq : ∀ s, MidW (runW (bs.take m.have_) 0 ws0) s m.next j b → scanW q (m.have_ + j) s = s) :
    (scanW (bs.take m.have_ ++ recL m.next b (blocksN b.length) j ++ q) 0 ws0).recs = m.l := by
  obtain ⟨s, h1, h2⟩ := mid_scan hf b h0 hx hj hh q
  rw [h1, hq s h2, h2.recs, ← hf.recs]
theorem scan_bad {c : List UInt8} {q : List (List UInt8)} {i : Nat} {s : WS} (h : badW s (readL c).1 = true) : scanW (c :: q) i s = s := by rw [scanW, if_pos h]
theorem put_at {bs : List (List UInt8)} {h : Nat} (hh : h < bs.length) : putL bs h [bs[h]?.getD []] = bs := by
  apply List.ext_getElem?
  intro i
  rw [putL_get (by simp; omega)]
  by_cases hi : h ≤ i ∧ i < h + [bs[h]?.getD []].length
  · rw [if_pos hi]
    simp only [List.length_singleton] at hi
    obtain rfl : i = h := by omega
    rw [Nat.sub_self, List.getElem?_eq_getElem hh]
    rfl
  · rw [if_neg hi]
theorem torn_fit {bs : List (List UInt8)} {m : LM} (hf : Fit bs m) (hlo : Lo bs) (hm : (openM bs m.from_ m.n).l = m.l) (b : List UInt8) (h0 : 0 < m.next) {j t : Nat} (hj : j < blocksN b.length) (ht : t ≤ 128) (hK : m.have_ + blocksN b.length ≤ bs.length) (hx : m.next + blocksN b.length < 65536) :
    ((openM (putL bs m.have_ (recL m.next b (blocksN b.length) j ++ [tornB t (recB m.next b (blocksN b.length) j) (bs[m.have_ + j]?.getD [])])) m.from_ m.n).l = m.l ∨ (openM (putL bs m.have_ (recL m.next b (blocksN b.length) j ++ [tornB t (recB m.next b (blocksN b.length) j) (bs[m.have_ + j]?.getD [])])) m.from_ m.n).l = m.l ++ [b]) ∧
    Lo (putL bs m.have_ (recL m.next b (blocksN b.length) j ++ [tornB t (recB m.next b (blocksN b.length) j) (bs[m.have_ + j]?.getD [])])) ∧
    mostL (putL bs m.have_ (recL m.next b (blocksN b.length) j ++ [tornB t (recB m.next b (blocksN b.length) j) (bs[m.have_ + j]?.getD [])])) ≤ m.next + j + 255 := by
  have hin : m.have_ + j < bs.length := by omega
  obtain ⟨c, hc⟩ : ∃ c, c = bs[m.have_ + j]?.getD [] := ⟨_, rfl⟩
  have hcm : c ∈ bs := by rw [hc, List.getElem?_eq_getElem hin]; exact List.getElem_mem hin
  have hce := hf.ends c hcm
  obtain ⟨e1, e2⟩ := rec_ends (x := m.next) (b := b) hj h0 (by omega)
  obtain ⟨h1, h2, h3, h4⟩ := torn_block (c := c) (nb := recB m.next b (blocksN b.length) j) (x := m.next + j) (t := t) (hf.len c hcm) (recB_length _ _ _ _) e1 e2 (by omega) (by omega) (by omega) (hlo c hcm) ht
  rw [← hc]
  obtain ⟨c', hc'⟩ : ∃ c', c' = tornB t (recB m.next b (blocksN b.length) j) c := ⟨_, rfl⟩
  rw [← hc'] at h1 h2 h3 h4 ⊢
  refine ⟨?_, ?_, ?_⟩
  · have hput : putL bs m.have_ (recL m.next b (blocksN b.length) j ++ [c']) = bs.take m.have_ ++ recL m.next b (blocksN b.length) j ++ (c' :: bs.drop (m.have_ + j + 1)) := by
      unfold putL
      rw [List.length_append, recL_length, List.length_singleton, ← Nat.add_assoc]
      simp
    have hold : ∀ y ∈ bs.drop (m.have_ + j + 1), fL y < m.next := fun y hy => (hf.ends y (List.mem_of_mem_drop hy)).1
    have hol : (openM (putL bs m.have_ (recL m.next b (blocksN b.length) j ++ [c'])) m.from_ m.n).l = (scanW (bs.take m.have_ ++ recL m.next b (blocksN b.length) j ++ (c' :: bs.drop (m.have_ + j + 1))) 0 ws0).recs := by rw [← hput]; rfl
    rcases h1 with h1 | h1 | h1
    · left
      by_cases hj0 : j = 0
      · subst hj0
        have hnil : recL m.next b (blocksN b.length) 0 = [] := rfl
        rw [hnil, List.nil_append, h1, hc, Nat.add_zero, put_at (by omega)]
        exact hm
      · rw [hol]
        refine mid_scan' hf b h0 (by omega) hj hin _ fun s hs => scan_bad ?_
        rw [h1]
        exact bad_old hce.1 (by rw [hs.ahead (by omega)]; omega)
    · by_cases hlast : j + 1 = blocksN b.length
      · right
        have := (add_fit hf b h0 hK (by omega)).2
        rw [h1, ← recL_succ, hlast, this]
        rfl
      · left
        have hput2 : putL bs m.have_ (recL m.next b (blocksN b.length) j ++ [c']) = bs.take m.have_ ++ recL m.next b (blocksN b.length) (j + 1) ++ bs.drop (m.have_ + j + 1) := by
          rw [hput, h1, recL_succ]
          simp
        have hol2 : (openM (putL bs m.have_ (recL m.next b (blocksN b.length) j ++ [c'])) m.from_ m.n).l = (scanW (bs.take m.have_ ++ recL m.next b (blocksN b.length) (j + 1) ++ bs.drop (m.have_ + j + 1)) 0 ws0).recs := by rw [← hput2]; rfl
        rw [hol2]
        exact mid_scan' hf b h0 (by omega) (by omega) (by omega) _ fun s hs => scan_old (x := m.next) hold (by rw [hs.ahead (by omega)]; omega)
    · left
      rw [hol]
      refine mid_scan' hf b h0 (by omega) hj hin _ fun s _ => scan_bad ?_
      rw [h1]
      simp [badW]
  · intro y hy
    rcases putL_mem hy with hy | hy
    · exact hlo y hy
    · rcases List.mem_append.1 hy with hy | hy
      · obtain ⟨i, hi, rfl⟩ := recL_mem hy
        have := rec_ends (x := m.next) (b := b) (i := i) (by omega) h0 (by omega)
        omega
      · rw [List.mem_singleton.1 hy]
        exact h4
  · refine mostL_le.2 fun y hy => ?_
    rcases putL_mem hy with hy | hy
    · have := hf.ends y hy
      omega
    · rcases List.mem_append.1 hy with hy | hy
      · obtain ⟨i, hi, rfl⟩ := recL_mem hy
        have := rec_ends (x := m.next) (b := b) (i := i) (by omega) h0 (by omega)
        omega
      · rw [List.mem_singleton.1 hy]
        omega
theorem add_lo {bs : List (List UInt8)} {m : LM} (hlo : Lo bs) (b : List UInt8) (h0 : 0 < m.next) (hx : m.next + blocksN b.length < 18446744073709551616) : Lo (putL bs m.have_ (recL m.next b (blocksN b.length) (blocksN b.length))) := by
  intro y hy
  rcases putL_mem hy with hy | hy
  · exact hlo y hy
  · obtain ⟨i, hi, rfl⟩ := recL_mem hy
    have := rec_ends (x := m.next) (b := b) (i := i) hi h0 (by omega)
    omega

/-! The laws' steps, by values: an Add on a disk that stands, and on one that stops. -/
/-- A log of so many blocks of a disk that is up. -/
structure OnD (d : DM) (m : LM) (f n : Nat) : Prop where
  ok : d.Ok
  up : d.down = false
  len : f + n ≤ d.l.length
  from_ : m.from_ = (f : Int)
  n_ : m.n = (n : Int)
  e : m.e = 0
  pos : 0 < m.next
  fit : Fit (blocksOf d.l (f : Int) (n : Int)) m
theorem OnD.have_ {d : DM} {m : LM} {f n : Nat} (h : OnD d m f n) : m.have_ ≤ n := by
  have := h.fit.h
  rwa [blocksOf_length h.len] at this
theorem addM_try {d : DM} {m : LM} {f n : Nat} (h : OnD d m f n) (b : List UInt8) (hK : m.have_ + blocksN b.length ≤ n) (hx : m.next + blocksN b.length < 18446744073709551616) :
    addM d m b = (if (addGo ((f + m.have_ : Nat) : Int) m.next b (blocksN b.length) (blocksN b.length) 0 d).2 = 0 then ((addGo ((f + m.have_ : Nat) : Int) m.next b (blocksN b.length) (blocksN b.length) 0 d).1, addOk m b, 0) else ((addGo ((f + m.have_ : Nat) : Int) m.next b (blocksN b.length) (blocksN b.length) 0 d).1, { m with e := (addGo ((f + m.have_ : Nat) : Int) m.next b (blocksN b.length) (blocksN b.length) 0 d).2 }, (addGo ((f + m.have_ : Nat) : Int) m.next b (blocksN b.length) (blocksN b.length) 0 d).2)) := by
  have h1 := h.n_
  have h2 := h.pos
  have h3 : m.from_ + (m.have_ : Int) = ((f + m.have_ : Nat) : Int) := by rw [h.from_]; omega
  rw [addM, if_neg (by rw [h.e]; simp), if_neg (by omega), if_neg (by omega), h3]
theorem addM_full {d : DM} {m : LM} {f n : Nat} (h : OnD d m f n) (b : List UInt8) (hK : n < m.have_ + blocksN b.length) : addM d m b = (d, m, 31) := by
  have h1 := h.n_
  rw [addM, if_neg (by rw [h.e]; simp), if_pos (by omega)]
/-- An Add on a disk that doesn't stop. -/
theorem addM_go {d : DM} {m : LM} {f n : Nat} (h : OnD d m f n) (hl : d.left < 0) (b : List UInt8) (hK : m.have_ + blocksN b.length ≤ n) (hx : m.next + blocksN b.length < 18446744073709551616) :
    (addM d m b).2 = (addOk m b, 0) ∧ (addM d m b).1.left < 0 ∧ OnD (addM d m b).1 (addOk m b) f n ∧ openM (blocksOf (addM d m b).1.l (f : Int) (n : Int)) (f : Int) (n : Int) = addOk m b := by
  have hbl := blocksOf_length h.len
  have hac : f + m.have_ + blocksN b.length ≤ d.l.length := by have := h.len; omega
  have hgo := addGo_cases (l := d.l) (a := f + m.have_) (x := m.next) (K := blocksN b.length) (b := b) hac (blocksN b.length) 0 d (by omega) h.up (by rw [show recL m.next b (blocksN b.length) 0 = [] from rfl, putL_nil])
  have hok := addM_ok (m := m) (b := b) h.ok
  have htry := addM_try h b hK hx
  rcases hgo with ⟨h1, h2, h3, h4, h5⟩ | ⟨h1, _⟩
  · rw [if_pos h1] at htry
    have hput := blocksOf_put (l := d.l) (r := recL m.next b (blocksN b.length) (blocksN b.length)) (f := f) (n := n) (h := m.have_) h.len (by rw [recL_length]; exact hK)
    obtain ⟨hf1, hf2⟩ := add_fit h.fit b h.pos (by rw [hbl]; exact hK) hx
    rw [h.from_, h.n_] at hf2
    rw [htry] at hok ⊢
    have hbs : blocksOf (addGo ((f + m.have_ : Nat) : Int) m.next b (blocksN b.length) (blocksN b.length) 0 d).1.l (f : Int) (n : Int) = putL (blocksOf d.l (f : Int) (n : Int)) m.have_ (recL m.next b (blocksN b.length) (blocksN b.length)) := by rw [h2, hput]
    refine ⟨rfl, h5 hl, ⟨hok, h3, ?_, h.from_, h.n_, rfl, ?_, ?_⟩, ?_⟩
    · show f + n ≤ (addGo ((f + m.have_ : Nat) : Int) m.next b (blocksN b.length) (blocksN b.length) 0 d).1.l.length
      rw [h2, putL_length (by rw [recL_length]; exact hac)]
      exact h.len
    · have := h.pos
      show 0 < m.next + blocksN b.length
      omega
    · simp only
      rw [hbs]
      exact hf1
    · simp only
      rw [hbs]
      exact hf2
  · omega
/-- An Add on a disk that may stop. -/
theorem addM_stop {d : DM} {m : LM} {f n : Nat} (h : OnD d m f n) (hlo : Lo (blocksOf d.l (f : Int) (n : Int))) (ho : (openM (blocksOf d.l (f : Int) (n : Int)) (f : Int) (n : Int)).l = m.l) (b : List UInt8) (hK : m.have_ + blocksN b.length ≤ n) (hx : m.next + blocksN b.length < 65536) :
    ((addM d m b).2 = (addOk m b, 0) ∧ OnD (addM d m b).1 (addOk m b) f n ∧ Lo (blocksOf (addM d m b).1.l (f : Int) (n : Int)) ∧ openM (blocksOf (addM d m b).1.l (f : Int) (n : Int)) (f : Int) (n : Int) = addOk m b) ∨
    ((addM d m b).2.2 = 30 ∧ Lo (blocksOf (addM d m b).1.l (f : Int) (n : Int)) ∧ ((openM (blocksOf (addM d m b).1.l (f : Int) (n : Int)) (f : Int) (n : Int)).l = m.l ∨ (openM (blocksOf (addM d m b).1.l (f : Int) (n : Int)) (f : Int) (n : Int)).l = m.l ++ [b]) ∧ mostL (blocksOf (addM d m b).1.l (f : Int) (n : Int)) ≤ m.next + blocksN b.length + 255) := by
  have hbl := blocksOf_length h.len
  have hac : f + m.have_ + blocksN b.length ≤ d.l.length := by have := h.len; omega
  have hgo := addGo_cases (l := d.l) (a := f + m.have_) (x := m.next) (K := blocksN b.length) (b := b) hac (blocksN b.length) 0 d (by omega) h.up (by rw [show recL m.next b (blocksN b.length) 0 = [] from rfl, putL_nil])
  have hok := addM_ok (m := m) (b := b) h.ok
  have htry := addM_try h b hK (by omega)
  rcases hgo with ⟨h1, h2, h3, h4, h5⟩ | ⟨h1, h2, h3, j, h4, h5, h6⟩
  · left
    rw [if_pos h1] at htry
    have hput := blocksOf_put (l := d.l) (r := recL m.next b (blocksN b.length) (blocksN b.length)) (f := f) (n := n) (h := m.have_) h.len (by rw [recL_length]; exact hK)
    obtain ⟨hf1, hf2⟩ := add_fit h.fit b h.pos (by rw [hbl]; exact hK) (by omega)
    have hf3 := add_lo (m := m) hlo b h.pos (by omega)
    rw [h.from_, h.n_] at hf2
    rw [htry] at hok ⊢
    have hbs : blocksOf (addGo ((f + m.have_ : Nat) : Int) m.next b (blocksN b.length) (blocksN b.length) 0 d).1.l (f : Int) (n : Int) = putL (blocksOf d.l (f : Int) (n : Int)) m.have_ (recL m.next b (blocksN b.length) (blocksN b.length)) := by rw [h2, hput]
    refine ⟨rfl, ⟨hok, h3, ?_, h.from_, h.n_, rfl, ?_, ?_⟩, ?_, ?_⟩
    · show f + n ≤ (addGo ((f + m.have_ : Nat) : Int) m.next b (blocksN b.length) (blocksN b.length) 0 d).1.l.length
      rw [h2, putL_length (by rw [recL_length]; exact hac)]
      exact h.len
    · have := h.pos
      show 0 < m.next + blocksN b.length
      omega
    · simp only
      rw [hbs]
      exact hf1
    · simp only
      rw [hbs]
      exact hf3
    · simp only
      rw [hbs]
      exact hf2
  · right
    rw [if_neg (by rw [h2]; decide)] at htry
    have hput := blocksOf_put (l := d.l) (r := recL m.next b (blocksN b.length) j ++ [tornB d.torn.toNat (recB m.next b (blocksN b.length) j) (d.l[f + m.have_ + j]?.getD [])]) (f := f) (n := n) (h := m.have_) h.len (by rw [List.length_append, recL_length, List.length_singleton]; omega)
    have hgt : (blocksOf d.l (f : Int) (n : Int))[m.have_ + j]? = d.l[f + m.have_ + j]? := by rw [blocksOf_get, if_pos (by omega), Nat.add_assoc]
    obtain ⟨hf1, hf2, hf3⟩ := torn_fit (t := d.torn.toNat) h.fit hlo (by rw [h.from_, h.n_]; exact ho) b h.pos h5 (by have := h.ok.torn; omega) (by rw [hbl]; exact hK) hx
    rw [h.from_, h.n_, hgt] at hf1
    rw [hgt] at hf2 hf3
    have hbs : blocksOf (addGo ((f + m.have_ : Nat) : Int) m.next b (blocksN b.length) (blocksN b.length) 0 d).1.l (f : Int) (n : Int) = putL (blocksOf d.l (f : Int) (n : Int)) m.have_ (recL m.next b (blocksN b.length) j ++ [tornB d.torn.toNat (recB m.next b (blocksN b.length) j) (d.l[f + m.have_ + j]?.getD [])]) := by rw [h6, hput]
    rw [htry]
    simp only
    rw [hbs]
    exact ⟨h2, hf2, hf1, by omega⟩
/-- A disk of noughts: nothing stands there. -/
theorem zero_ends : fL zero128 = 0 ∧ kL zero128 = 0 := by decide +kernel
theorem zero_most (k f n : Nat) : mostL (blocksOf (List.replicate k zero128) (f : Int) (n : Int)) = 0 := by
  apply Nat.le_antisymm _ (Nat.zero_le _)
  refine mostL_le.2 fun c hc => ?_
  unfold blocksOf at hc
  have := List.eq_of_mem_replicate (List.mem_of_mem_drop (List.mem_of_mem_take hc))
  rw [this, zero_ends.1, zero_ends.2]
  omega
theorem zero_lo (k f n : Nat) : Lo (blocksOf (List.replicate k zero128) (f : Int) (n : Int)) := by
  intro c hc
  unfold blocksOf at hc
  have := List.eq_of_mem_replicate (List.mem_of_mem_drop (List.mem_of_mem_take hc))
  rw [this, zero_ends.1, zero_ends.2]
  omega
theorem blocksOf_128 {d : DM} (ok : d.Ok) (from_ n : Int) : ∀ c ∈ blocksOf d.l from_ n, c.length = 128 := fun c hc => by
  unfold blocksOf at hc
  exact ok.each c (List.mem_of_mem_drop (List.mem_of_mem_take hc))
/-- A log that is opened. -/
theorem open_on {d : DM} {f n : Nat} (ok : d.Ok) (up : d.down = false) (len : f + n ≤ d.l.length) (hm : mostL (blocksOf d.l (f : Int) (n : Int)) + 1 < 18446744073709551616) : OnD d (openM (blocksOf d.l (f : Int) (n : Int)) (f : Int) (n : Int)) f n :=
  ⟨ok, up, len, rfl, rfl, rfl, by show 0 < (mostL _ + 1) % 18446744073709551616; rw [Nat.mod_eq_of_lt hm]; omega, open_fit (blocksOf_128 ok _ _) hm⟩
/-- One that is begun. -/
theorem begin_on {d : DM} {f n least : Nat} (ok : d.Ok) (up : d.down = false) (len : f + n ≤ d.l.length) (hm : mostL (blocksOf d.l (f : Int) (n : Int)) + 1 < 18446744073709551616) : OnD d (beginM (openM (blocksOf d.l (f : Int) (n : Int)) (f : Int) (n : Int)) (f : Int) (n : Int) least) f n := by
  have h := open_on ok up len hm
  refine ⟨ok, up, len, rfl, rfl, rfl, ?_, begin_fit (blocksOf_128 ok _ _) hm⟩
  have := h.pos
  unfold beginM
  simp only
  split <;> omega
theorem OnD.restart {d : DM} {m : LM} {f n : Nat} (h : OnD d m f n) : OnD (restartM d) m f n := ⟨restartM_ok h.ok, rfl, h.len, h.from_, h.n_, h.e, h.pos, h.fit⟩
theorem OnD.stop {d : DM} {m : LM} {f n : Nat} (h : OnD d m f n) {after torn : Int} (ha : -9223372036854775808 ≤ after ∧ after ≤ 9223372036854775807) : OnD (stopM d after torn) m f n := ⟨stopM_ok h.ok ha, h.up, h.len, h.from_, h.n_, h.e, h.pos, h.fit⟩
end Go.Proofs.YtcgnaomffioldaaGreat
