/-
  The model's steps of BlocksTorn.
-/
import Derived.Test.YthndpfkgljkpcaaBlkDsk
namespace Go.Proofs.Ythndpfkgljkpcaa
open Go.RowKit

theorem next_ne {k i : Nat} (hk : 2 ≤ k) (hi : i < k) : (i + 1) % k ≠ i := by
  rcases Nat.lt_or_ge (i + 1) k with h | h
  · rw [Nat.mod_eq_of_lt h]; omega
  · have : i + 1 = k := by omega
    rw [this, Nat.mod_self]; omega
theorem set_at (l : List (List UInt8)) (i p : Nat) (b : List UInt8) : (l.set i b)[p]?.getD [] = if i = p ∧ i < l.length then b else l[p]?.getD [] := by
  rw [List.getElem?_set]
  by_cases h : i = p
  · subst h
    by_cases h2 : i < l.length
    · simp [h2]
    · simp [h2]
  · simp [h]
/-- All blocks up to j are written. -/
structure TnA (k j : Nat) (d : DM) : Prop where
  len : d.l.length = k
  up : d.down = false
  left : d.left = -1
  fill : ∀ p, p < j → d.l[p]?.getD [] = filledL p 128
theorem TnA.start {k : Nat} (h1 : 1 ≤ k) (h2 : k ≤ 65536) : TnA k 0 (newM k).1 := by
  rw [newM_at k h1 h2]
  exact ⟨by simp, rfl, rfl, fun p hp => by omega⟩
theorem TnA.step {k j : Nat} {d : DM} (h : TnA k j d) (hj : j < k) {b : List UInt8} (hb : b.length = 128) (hbb : b = filledL j 128 := by rfl) : writeM d (j : Int) b = ({ d with l := d.l.set j b }, 0) ∧ TnA k (j + 1) { d with l := d.l.set j b } := by
  have hw := writeM_go h.up (i := j) (by rw [h.len]; exact hj) hb (by rw [h.left]; decide)
  rw [h.left, if_neg (by decide)] at hw
  refine ⟨?_, by simp [h.len], h.up, h.left, fun p hp => ?_⟩
  · rw [hw, ← h.left]
  · simp only
    rw [set_at]
    by_cases he : j = p
    · subst he
      rw [if_pos ⟨rfl, by rw [h.len]; exact hj⟩, hbb]
    · rw [if_neg (fun h => he h.1)]
      exact h.fill p (by omega)
/-- So many are written to the block nb. -/
structure TnB (k s nb T j : Nat) (d : DM) : Prop where
  len : d.l.length = k
  up : d.down = false
  left : d.left = (s : Int) - (j : Int)
  torn : d.torn = (T : Int)
  fill : ∀ p, p < k → (p ≠ nb ∨ j = 0) → d.l[p]?.getD [] = filledL p 128
theorem TnA.stop {k s nb T : Nat} {torn : Int} {d : DM} (h : TnA k k d) (hT : (if torn < 0 then 0 else if 128 < torn then 128 else torn) = (T : Int)) : TnB k s nb T 0 (stopM d (s : Int) torn) :=
  ⟨h.len, h.up, by simp [stopM], hT, fun p hp _ => h.fill p hp⟩
theorem TnB.step {k s nb T j : Nat} {d : DM} (h : TnB k s nb T j d) (hj : j < s) (hn : nb < k) {b : List UInt8} (hb : b.length = 128) : ∃ d2, writeM d (nb : Int) b = (d2, 0) ∧ TnB k s nb T (j + 1) d2 := by
  have hw := writeM_go h.up (i := nb) (by rw [h.len]; exact hn) hb (by rw [h.left]; omega)
  refine ⟨_, hw, by simp [h.len], h.up, ?_, h.torn, fun p hp h2 => ?_⟩
  · simp only
    rw [h.left, if_pos (by omega)]
    omega
  · have h3 : p ≠ nb := h2.resolve_right (by omega)
    simp only
    rw [set_at, if_neg (fun h => h3 h.1.symm)]
    exact h.fill p hp (.inl h3)
/-- The write at which it stops. -/
structure TnC (k s nb T i : Nat) (d : DM) : Prop where
  len : d.l.length = k
  up : d.down = false
  at_ : readM d (i : Int) = ((filledL 200 128).take T ++ (filledL i 128).drop T, 0)
  oth : ∀ p, p < k → ∃ b, readM d (p : Int) = (b, 0) ∧ b.length = 128 ∧ (p ≠ i → (p ≠ nb ∨ s = 0) → b = filledL p 128)
theorem TnB.stop {k s nb T i : Nat} {d : DM} (h : TnB k s nb T s d) (ok : d.Ok) (hi : i < k) (hne : nb ≠ i) : ∃ d2, writeM d (i : Int) (filledL 200 128) = (d2, 30) ∧ TnC k s nb T i (restartM d2) := by
  have hw := writeM_stop h.up (i := i) (by rw [h.len]; exact hi) (filledL_length 200 128) (by rw [h.left]; omega)
  refine ⟨_, hw, by simp [restartM, h.len], rfl, ?_, fun p hp => ?_⟩
  · rw [readM_at (by rfl) (by simp [restartM, h.len]; exact hi)]
    simp only [restartM]
    rw [set_at, if_pos ⟨rfl, by rw [h.len]; exact hi⟩, h.torn, h.fill i hi (.inl (Ne.symm hne))]
    rfl
  · refine ⟨_, readM_at (by rfl) (by simp [restartM, h.len]; exact hp), ?_, fun h1 h2 => ?_⟩
    · have hT := ok.torn
      rw [h.torn] at hT
      simp only [restartM]
      rw [set_at]
      split
      · rw [List.length_append, List.length_take, List.length_drop, h.fill i hi (.inl (Ne.symm hne)), filledL_length, filledL_length, h.torn]
        omega
      · rw [List.getElem?_eq_getElem (by rw [h.len]; exact hp)]
        exact ok.each _ (List.getElem_mem _)
    · simp only [restartM]
      rw [set_at, if_neg (fun h => h1 h.1.symm)]
      exact h.fill p hp h2
def RTa (w0 : World) (m g k : Nat) (j : Value) (wr : World) : Prop := ∃ (j' : Nat) (d : DM), j' ≤ k ∧ j = .int .i64 (j' : Int) ∧ TnA k j' d ∧ Dsk w0 m wr g d
def RTb (w0 : World) (m g k s nb T : Nat) (j : Value) (wr : World) : Prop := ∃ (j' : Nat) (d : DM), j' ≤ s ∧ j = .int .i64 (j' : Int) ∧ TnB k s nb T j' d ∧ Dsk w0 m wr g d

/-- A slice of bytes, wherever. -/
def SlT (l : List UInt8) (v : Value) (W : World) : Prop := ∃ A n c, v = .slice A n c ∧ Byt W (fun _ => True) A n c l
theorem SlT.below {l : List UInt8} {v : Value} {W W' : World} (h : SlT l v W) (hb : Below W.heap.size W W') : SlT l v W' := by
  obtain ⟨A, n, c, h1, h2⟩ := h
  exact ⟨A, n, c, h1, h2.below hb⟩
theorem SlT.to {l : List UInt8} {v : Value} {W : World} (h : SlT l v W) (k : Nat) (kk : Int) (e : kk = (k : Int)) (hk : k ≤ l.length) : ∃ v', (Instr.slice 35 v none (some (.int .i64 kk)) none).run Try.prog W = .ok v' W ∧ SlT (l.take k) v' W := by
  obtain ⟨A, n, c, rfl, h2⟩ := h
  have h3 := h2.len
  have h4 := h2.cap
  subst e
  exact ⟨_, run_to (P := Try.prog) 35 5 Try.underlying35 u8_size A n c k (by omega) W, A, k, c, rfl, h2.to (by omega)⟩
theorem SlT.from {l : List UInt8} {v : Value} {W : World} (h : SlT l v W) (k : Nat) (kk : Int) (e : kk = (k : Int)) (hk : k ≤ l.length) : ∃ v', (Instr.slice 35 v (some (.int .i64 kk)) none none).run Try.prog W = .ok v' W ∧ SlT (l.drop k) v' W := by
  obtain ⟨A, n, c, rfl, h2⟩ := h
  have h3 := h2.len
  subst e
  exact ⟨_, run_cut (P := Try.prog) 35 5 Try.underlying35 u8_size A n c k (by omega) W, _, _, _, rfl, h2.cut (by omega)⟩
theorem SlT.str {l : List UInt8} {v : Value} {W : World} (h : SlT l v W) : (convert 35 9 v).run Try.prog W = .ok (.string (st l)) W := by
  obtain ⟨A, n, c, rfl, h2⟩ := h
  exact byt_string h2
theorem slT_filled {W w' : World} {e : Ending} {l : List UInt8} (h : e = .returned (.slice (some ⟨W.heap.size, 0, none⟩) 128 128) ∧ w'.heap[W.heap.size]? = some (.cells (u8s l).toArray 5 (0, 0)) ∧ Below W.heap.size W w') (hl : l.length = 128) : ∃ v, e = .returned v ∧ SlT l v w' ∧ Below W.heap.size W w' := by
  obtain ⟨rfl, h2, h3⟩ := h
  exact ⟨_, rfl, ⟨_, _, _, rfl, (byt_filled' (m := 0) h2 hl (by omega) (Nat.zero_le _)).mono fun _ _ _ => trivial⟩, h3⟩
def RTc (W0 : World) (k : Nat) (j : Value) (wr : World) : Prop := ∃ j' : Nat, j' ≤ k ∧ j = .int .i64 (j' : Int) ∧ Below W0.heap.size W0 wr
end Go.Proofs.Ythndpfkgljkpcaa
