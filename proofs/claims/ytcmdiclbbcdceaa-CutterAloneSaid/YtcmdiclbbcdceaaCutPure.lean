/-
  cutter, in lists: where pieces end.
-/
import Derived.WalkKit
namespace Go.Proofs.Ytcmdiclbbcdceaa

/-- A config that may be. -/
structure Cfg where
  least : Nat
  most : Nat
  bits : Nat
structure Cfg.Ok (c : Cfg) : Prop where
  least : 1 ≤ c.least
  most : c.least ≤ c.most
  top : c.most ≤ 65536
  bits : 1 ≤ c.bits
  few : c.bits ≤ 24
theorem foldl_snoc {α β : Type} (f : β → α → β) (b : β) (l : List α) (x : α) : (l ++ [x]).foldl f b = f (l.foldl f b) x := by simp
/-- The sum, a byte more. -/
def sumS (s : Nat) (x : UInt8) : Nat := (2 * s + 11400714819323198485 * (x.toNat + 1)) % 18446744073709551616
def sumC (l : List UInt8) : Nat := l.foldl sumS 0
theorem sumS_lt (s : Nat) (x : UInt8) : sumS s x < 18446744073709551616 := Nat.mod_lt _ (by decide)
theorem sumC_snoc (l : List UInt8) (x : UInt8) : sumC (l ++ [x]) = sumS (sumC l) x := by
  unfold sumC
  exact foldl_snoc sumS 0 l x
theorem foldl_sumS_lt : ∀ (l : List UInt8) (s : Nat), s < 18446744073709551616 → l.foldl sumS s < 18446744073709551616
  | [], _, h => by rw [List.foldl_nil]; exact h
  | x :: l, s, _ => by rw [List.foldl_cons]; exact foldl_sumS_lt l (sumS s x) (sumS_lt s x)
theorem sumC_lt (l : List UInt8) : sumC l < 18446744073709551616 := by
  rw [sumC]
  exact foldl_sumS_lt l 0 (by omega)
/-- The highest bits of a number are 0. -/
def rareC (bits s : Nat) : Bool := decide (s < 2 ^ (64 - bits))
/-- The piece may end behind so many bytes. -/
def stopC (c : Cfg) (b : List UInt8) (n : Nat) : Bool := n == c.most || n == b.length || (decide (c.least ≤ n) && rareC c.bits (sumC (b.take n)))
/-- How long the first piece is, if it is longer than n. -/
def scanC (c : Cfg) (b : List UInt8) (n : Nat) : Nat := if n < b.length then (if stopC c b (n + 1) = true then n + 1 else scanC c b (n + 1)) else n
termination_by b.length - n
theorem scanC_end {c : Cfg} {b : List UInt8} {n : Nat} (h : ¬ n < b.length) : scanC c b n = n := by rw [scanC, if_neg h]
theorem scanC_stop {c : Cfg} {b : List UInt8} {n : Nat} (h : n < b.length) (h2 : stopC c b (n + 1) = true) : scanC c b n = n + 1 := by rw [scanC, if_pos h, if_pos h2]
theorem scanC_next {c : Cfg} {b : List UInt8} {n : Nat} (h : n < b.length) (h2 : stopC c b (n + 1) = false) : scanC c b n = scanC c b (n + 1) := by rw [scanC, if_pos h, if_neg (by simp [h2])]
theorem stopC_len (c : Cfg) (b : List UInt8) : stopC c b b.length = true := by simp [stopC]
theorem scanC_spec {c : Cfg} {b : List UInt8} : ∀ (k n : Nat), b.length - n = k → n < b.length → n < scanC c b n ∧ scanC c b n ≤ b.length ∧ stopC c b (scanC c b n) = true ∧ ∀ m, n < m → m < scanC c b n → stopC c b m = false := by
  intro k
  induction k with
  | zero => intro n h1 h2; omega
  | succ k ih =>
    intro n h1 h2
    cases hs : stopC c b (n + 1) with
    | true =>
      rw [scanC_stop h2 hs]
      exact ⟨by omega, by omega, hs, fun m _ _ => by omega⟩
    | false =>
      have hn : n + 1 < b.length := by
        rcases Nat.lt_or_ge (n + 1) b.length with h | h
        · exact h
        · have : n + 1 = b.length := by omega
          rw [this, stopC_len] at hs
          cases hs
      rw [scanC_next h2 hs]
      obtain ⟨a1, a2, a3, a4⟩ := ih (n + 1) (by omega) hn
      refine ⟨by omega, a2, a3, fun m hm hm2 => ?_⟩
      by_cases he : m = n + 1
      · rw [he]; exact hs
      · exact a4 m (by omega) hm2
/-- How long the first piece of bytes is. -/
def pieceC (c : Cfg) (b : List UInt8) : Nat := scanC c b 0
theorem pieceC_spec {c : Cfg} {b : List UInt8} (h : 0 < b.length) : 0 < pieceC c b ∧ pieceC c b ≤ b.length ∧ stopC c b (pieceC c b) = true ∧ ∀ m, 0 < m → m < pieceC c b → stopC c b m = false := scanC_spec _ 0 rfl h
theorem pieceC_is {c : Cfg} {b : List UInt8} {k : Nat} (h0 : 0 < k) (hk : k ≤ b.length) (hs : stopC c b k = true) (hm : ∀ m, 0 < m → m < k → stopC c b m = false) : pieceC c b = k := by
  obtain ⟨a1, a2, a3, a4⟩ := pieceC_spec (c := c) (b := b) (by omega)
  rcases Nat.lt_trichotomy (pieceC c b) k with h | h | h
  · rw [hm _ a1 h] at a3; cases a3
  · exact h
  · rw [a4 k h0 h] at hs; cases hs
theorem pieceC_most {c : Cfg} (hc : c.Ok) {b : List UInt8} (h : 0 < b.length) : pieceC c b ≤ c.most := by
  obtain ⟨a1, a2, a3, a4⟩ := pieceC_spec (c := c) h
  rcases Nat.lt_or_ge c.most (pieceC c b) with h1 | h1
  · have := a4 c.most (by have := hc.least; have := hc.most; omega) h1
    simp [stopC] at this
  · exact h1
theorem pieceC_least {c : Cfg} (hc : c.Ok) {b : List UInt8} (h : 0 < b.length) (h2 : pieceC c b < b.length) : c.least ≤ pieceC c b := by
  obtain ⟨a1, a2, a3, a4⟩ := pieceC_spec (c := c) h
  simp only [stopC, Bool.or_eq_true, beq_iff_eq, Bool.and_eq_true, decide_eq_true_eq] at a3
  have := hc.most
  rcases a3 with (h3 | h3) | h3
  · omega
  · omega
  · exact h3.1
/-- What stands behind doesn't count, as long as a piece ends ahead of it. -/
theorem pieceC_front {c : Cfg} {a d : List UInt8} (h : 0 < a.length) (h2 : pieceC c a < a.length) : pieceC c (a ++ d) = pieceC c a := by
  obtain ⟨a1, a2, a3, a4⟩ := pieceC_spec (c := c) h
  have hl : (a ++ d).length = a.length + d.length := List.length_append
  have same : ∀ m, m < a.length → stopC c (a ++ d) m = stopC c a m := fun m hm => by
    have h1 : (m == (a ++ d).length) = false := by simp [hl]; omega
    have h3 : (m == a.length) = false := by simp; omega
    rw [stopC, stopC, List.take_append_of_le_length (by omega), h1, h3]
  exact pieceC_is a1 (by omega) (by rw [same _ h2]; exact a3) fun m hm hm2 => by rw [same _ (by omega)]; exact a4 m hm hm2
/-- Where pieces end. -/
def endsC (c : Cfg) (b : List UInt8) : List Nat := if 0 < b.length then pieceC c b :: (endsC c (b.drop (pieceC c b))).map (· + pieceC c b) else []
termination_by b.length
decreasing_by
  rename_i h
  have := (pieceC_spec (c := c) h).1
  rw [List.length_drop]
  omega
theorem endsC_nil (c : Cfg) {b : List UInt8} (h : ¬ 0 < b.length) : endsC c b = [] := by rw [endsC, if_neg h]
theorem endsC_cons (c : Cfg) {b : List UInt8} (h : 0 < b.length) : endsC c b = pieceC c b :: (endsC c (b.drop (pieceC c b))).map (· + pieceC c b) := by rw [endsC, if_pos h]
theorem bytes_rec {c : Cfg} {C : List UInt8 → Prop} (h1 : ∀ b, ¬ 0 < b.length → C b) (h2 : ∀ b, 0 < b.length → C (b.drop (pieceC c b)) → C b) (b : List UInt8) : C b := by
  induction hn : b.length using Nat.strongRecOn generalizing b with
  | _ n ih =>
    by_cases h : 0 < b.length
    · have := (pieceC_spec (c := c) h).1
      exact h2 b h (ih _ (by rw [List.length_drop]; omega) _ rfl)
    · exact h1 b h
/-- Behind an end the ends are those of what stands there. -/
theorem endsC_alike (c : Cfg) (b : List UInt8) : ∀ i, i < (endsC c b).length → (endsC c b).drop (i + 1) = (endsC c (b.drop ((endsC c b)[i]?.getD 0))).map (· + (endsC c b)[i]?.getD 0) := by
  refine bytes_rec (c := c) (C := fun b => ∀ i, i < (endsC c b).length → (endsC c b).drop (i + 1) = (endsC c (b.drop ((endsC c b)[i]?.getD 0))).map (· + (endsC c b)[i]?.getD 0)) (fun b h i hi => ?_) (fun b h ih i hi => ?_) b
  · rw [endsC_nil c h] at hi
    simp at hi
  · rw [endsC_cons c h] at hi ⊢
    cases i with
    | zero => simp
    | succ i =>
      have hi' : i < (endsC c (b.drop (pieceC c b))).length := by simpa using hi
      have hu := ih i hi'
      rw [List.drop_succ_cons, ← List.map_drop, hu, List.getElem?_cons_succ, List.getElem?_map, List.getElem?_eq_getElem hi']
      simp only [Option.map_some, Option.getD_some, List.drop_drop, List.map_map, Function.comp_def]
      rw [Nat.add_comm (pieceC c b)]
      apply List.map_congr_left
      intro x _
      omega
/-- The ends rise, the last one is the bytes' end. -/
theorem endsC_last (c : Cfg) (b : List UInt8) (h : 0 < b.length) : (endsC c b).getLast? = some b.length := by
  revert h
  refine bytes_rec (c := c) (C := fun b => 0 < b.length → (endsC c b).getLast? = some b.length) (fun b h h' => absurd h' h) (fun b h ih _ => ?_) b
  rw [endsC_cons c h]
  have hp := pieceC_spec (c := c) h
  by_cases h2 : 0 < (b.drop (pieceC c b)).length
  · have hu := ih h2
    rw [List.getLast?_cons, List.getLast?_map, hu]
    simp only [Option.map_some, Option.getD_some, List.length_drop]
    congr 1
    omega
  · rw [endsC_nil c h2]
    have : pieceC c b = b.length := by rw [List.length_drop] at h2; omega
    simp [this]
/-- But for the last one ends don't hang on what stands behind. -/
theorem endsC_front (c : Cfg) (d a : List UInt8) : (endsC c a).length ≤ (endsC c (a ++ d)).length ∧ ∀ i, i + 1 < (endsC c a).length → (endsC c (a ++ d))[i]? = (endsC c a)[i]? := by
  refine bytes_rec (c := c) (C := fun a => (endsC c a).length ≤ (endsC c (a ++ d)).length ∧ ∀ i, i + 1 < (endsC c a).length → (endsC c (a ++ d))[i]? = (endsC c a)[i]?) (fun a h => ?_) (fun a h ih => ?_) a
  · rw [endsC_nil c h]
    exact ⟨by simp, fun i hi => by simp at hi⟩
  · have hp := pieceC_spec (c := c) h
    have hal : 0 < (a ++ d).length := by rw [List.length_append]; omega
    by_cases h2 : pieceC c a < a.length
    · have hf := pieceC_front (c := c) (d := d) h h2
      rw [endsC_cons c h, endsC_cons c hal, hf, List.drop_append_of_le_length (by omega)]
      refine ⟨by simpa using ih.1, fun i hi => ?_⟩
      cases i with
      | zero => rfl
      | succ i =>
        simp only [List.getElem?_cons_succ, List.getElem?_map]
        rw [ih.2 i (by simpa using hi)]
    · have h3 : ¬ 0 < (a.drop (pieceC c a)).length := by rw [List.length_drop]; omega
      rw [endsC_cons c h, endsC_nil c h3, endsC_cons c hal]
      exact ⟨by simp, fun i hi => by simp at hi⟩

/-- The pieces. -/
def piecesC (c : Cfg) (b : List UInt8) : List (List UInt8) := if 0 < b.length then b.take (pieceC c b) :: piecesC c (b.drop (pieceC c b)) else []
termination_by b.length
decreasing_by
  rename_i h
  have := (pieceC_spec (c := c) h).1
  rw [List.length_drop]
  omega
theorem piecesC_nil (c : Cfg) {b : List UInt8} (h : ¬ 0 < b.length) : piecesC c b = [] := by rw [piecesC, if_neg h]
theorem piecesC_cons (c : Cfg) {b : List UInt8} (h : 0 < b.length) : piecesC c b = b.take (pieceC c b) :: piecesC c (b.drop (pieceC c b)) := by rw [piecesC, if_pos h]
theorem piecesC_count (c : Cfg) (b : List UInt8) : (piecesC c b).length = (endsC c b).length := by
  refine bytes_rec (c := c) (C := fun b => (piecesC c b).length = (endsC c b).length) (fun b h => ?_) (fun b h ih => ?_) b
  · rw [piecesC_nil c h, endsC_nil c h]; rfl
  · rw [piecesC_cons c h, endsC_cons c h, List.length_cons, ih, List.length_cons, List.length_map]
/-- Pieces are all bytes. -/
theorem piecesC_join (c : Cfg) (b : List UInt8) : (piecesC c b).flatten = b := by
  refine bytes_rec (c := c) (C := fun b => (piecesC c b).flatten = b) (fun b h => ?_) (fun b h ih => ?_) b
  · rw [piecesC_nil c h]
    have : b = [] := List.eq_nil_of_length_eq_zero (by omega)
    rw [this]; rfl
  · rw [piecesC_cons c h, List.flatten_cons, ih, List.take_append_drop]
/-- None has more than may be, none is empty, all but the last one have as many as must be. -/
theorem piecesC_sizes {c : Cfg} (hc : c.Ok) (b : List UInt8) : ∀ i, i < (piecesC c b).length → 1 ≤ ((piecesC c b)[i]?.getD []).length ∧ ((piecesC c b)[i]?.getD []).length ≤ c.most ∧ (i + 1 < (piecesC c b).length → c.least ≤ ((piecesC c b)[i]?.getD []).length) := by
  refine bytes_rec (c := c) (C := fun b => ∀ i, i < (piecesC c b).length → 1 ≤ ((piecesC c b)[i]?.getD []).length ∧ ((piecesC c b)[i]?.getD []).length ≤ c.most ∧ (i + 1 < (piecesC c b).length → c.least ≤ ((piecesC c b)[i]?.getD []).length)) (fun b h i hi => ?_) (fun b h ih i hi => ?_) b
  · rw [piecesC_nil c h] at hi; simp at hi
  · have hp := pieceC_spec (c := c) h
    have hm := pieceC_most hc h
    rw [piecesC_cons c h] at hi ⊢
    cases i with
    | zero =>
      simp only [List.getElem?_cons_zero, Option.getD_some, List.length_take, List.length_cons]
      refine ⟨by omega, by omega, fun h2 => ?_⟩
      have h3 : pieceC c b < b.length := by
        rcases Nat.lt_or_ge (pieceC c b) b.length with h4 | h4
        · exact h4
        · rw [piecesC_nil c (by rw [List.length_drop]; omega)] at h2
          simp at h2
      have := pieceC_least hc h h3
      omega
    | succ i =>
      simp only [List.getElem?_cons_succ, List.length_cons]
      have := ih i (by simpa using hi)
      exact ⟨this.1, this.2.1, fun h2 => this.2.2 (by omega)⟩
/-- Where as few as may be are as many as may be. -/
theorem pieceC_alone {c : Cfg} (hc : c.Ok) (he : c.least = c.most) {b : List UInt8} (h : 0 < b.length) : pieceC c b = if c.most < b.length then c.most else b.length := by
  have hp := pieceC_spec (c := c) h
  have hm := pieceC_most hc h
  split
  · rename_i h1
    rcases Nat.lt_or_ge (pieceC c b) b.length with h2 | h2
    · have := pieceC_least hc h h2
      omega
    · omega
  · rename_i h1
    rcases Nat.lt_or_ge (pieceC c b) b.length with h2 | h2
    · have := pieceC_least hc h h2
      omega
    · omega
end Go.Proofs.Ytcmdiclbbcdceaa
