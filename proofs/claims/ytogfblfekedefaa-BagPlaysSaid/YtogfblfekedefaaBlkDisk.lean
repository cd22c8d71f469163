/-
  The code's disk: what stands in memory, and what each of its methods does.
-/
import Derived.Test.YtogfblfekedefaaBlkWrite
import Derived.Test.YtogfblfekedefaaBlkNew
import Derived.Test.YtogfblfekedefaaOwn
namespace Go.Proofs.Ytogfblfekedefaa
open Go.RowKit

/-- What stands for so many writes left: below 0 it is one with any other below 0. -/
structure Lf (lf left : Int) : Prop where
  same : lf = left ∨ (lf < 0 ∧ left < 0)
  lo : -9223372036854775808 ≤ lf
  hi : lf ≤ 9223372036854775807
section
variable {w w' : World} {S T : Nat → Prop} {g : Nat} {d : DM}

end

/-! The methods of a disk that is none. -/

/-! What only reads. -/

/-! What turns the disk. -/
theorem Lf.stop {a : Int} (ha : -9223372036854775808 ≤ a ∧ a ≤ 9223372036854775807) : Lf a (if a < 0 then -1 else a) := ⟨by split <;> omega, ha.1, ha.2⟩
theorem Lf.never : Lf (-1) (-1) := ⟨.inl rfl, by decide, by decide⟩
theorem stop_clip (t : Int) : min (max t 0) 128 = (if t < 0 then 0 else if 128 < t then 128 else t) := by omega

/-! A disk that is new. -/
theorem newM_at' (k : Nat) (h1 : 1 ≤ k) (h2 : k ≤ 65536) : (newM k).1 = ⟨List.replicate k zero128, -1, 0, false⟩ := by
  rw [newM, if_neg (by omega)]
  rfl
def zerosB : Array Value := Array.replicate 128 (.int .u8 0)
theorem zerosB_size : zerosB.size = 128 := by simp [zerosB]
theorem u8s_all (l : List UInt8) : (u8s l).toArray.all (·.oneCell') = true := all_oneCell_toArray (u8s_one l)
theorem flat_zero (k : Nat) : (List.replicate k zero128).flatten = List.replicate (k * 128) 0 := by
  unfold zero128
  rw [List.flatten_replicate_replicate]
theorem made_blk (k : Nat) : madeCells (Value.agg (Array.replicate 128 (.int .u8 0))).cells (k * 128) = (u8s (List.replicate k zero128).flatten).toArray := by
  rw [flat_zero]
  apply Array.ext
  · simp [size_madeCells, u8s]
  · intro i h1 h2
    simp only [madeCells, Value.cells, Array.getElem_map, Array.getElem_range, Array.size_replicate, u8s, List.getElem_toArray, List.getElem_map, List.getElem_replicate]
    rw [getElem!_pos _ _ (by simpa using Nat.mod_lt i (show 0 < 128 by omega))]
    simp

/-! Reading. -/
theorem flat_len {l : List (List UInt8)} (h : ∀ x ∈ l, x.length = 128) : l.flatten.length = l.length * 128 := by
  induction l with
  | nil => rfl
  | cons a l ih =>
    have ha := h a (by simp)
    rw [List.flatten_cons, List.length_append, ih fun x hx => h x (by simp [hx]), ha, List.length_cons]
    omega
theorem flat_at {l : List (List UInt8)} (h : ∀ x ∈ l, x.length = 128) : ∀ (i : Nat), i < l.length → ∀ j, j < 128 → l.flatten[i * 128 + j]? = (l[i]?.getD [])[j]? := by
  induction l with
  | nil => intro i hi; simp at hi
  | cons a l ih =>
    intro i hi j hj
    have ha := h a (by simp)
    cases i with
    | zero => simp [List.getElem?_append_left, ha, hj]
    | succ i =>
      rw [List.flatten_cons, List.getElem?_append_right (by omega), ha, show (i + 1) * 128 + j - 128 = i * 128 + j by omega, ih (fun x hx => h x (by simp [hx])) i (by simpa using hi) j hj]
      simp
theorem flat_put {l : List (List UInt8)} (h : ∀ x ∈ l, x.length = 128) : ∀ (i : Nat), i < l.length → ∀ b : List UInt8, b.length ≤ 128 → l.flatten.take (i * 128) ++ b ++ l.flatten.drop (i * 128 + b.length) = (l.set i (b ++ (l[i]?.getD []).drop b.length)).flatten := by
  induction l with
  | nil => intro i hi; simp at hi
  | cons a l ih =>
    intro i hi b hb
    have ha := h a (by simp)
    cases i with
    | zero =>
      simp only [Nat.zero_mul, List.take_zero, List.nil_append, Nat.zero_add, List.flatten_cons, List.set_cons_zero, List.getElem?_cons_zero, Option.getD_some]
      rw [List.drop_append_of_le_length (by omega), List.append_assoc]
    | succ i =>
      have := ih (fun x hx => h x (by simp [hx])) i (by simpa using hi) b hb
      simp only [List.flatten_cons, List.set_cons_succ, List.getElem?_cons_succ]
      have e1 : (a ++ l.flatten).take ((i + 1) * 128) = a ++ l.flatten.take (i * 128) := by
        rw [List.take_append, List.take_of_length_le (by omega), ha, show (i + 1) * 128 - 128 = i * 128 by omega]
      have e2 : (a ++ l.flatten).drop ((i + 1) * 128 + b.length) = l.flatten.drop (i * 128 + b.length) := by
        rw [List.drop_append, List.drop_of_length_le (by omega), List.nil_append, ha, show (i + 1) * 128 + b.length - 128 = i * 128 + b.length by omega]
      rw [e1, e2, ← this]
      simp only [List.append_assoc]

/-! Writing. -/
theorem u8s_take (l : List UInt8) (k : Nat) : (u8s l).take k = u8s (l.take k) := by simp [u8s, List.map_take]
theorem u8s_drop (l : List UInt8) (k : Nat) : (u8s l).drop k = u8s (l.drop k) := by simp [u8s, List.map_drop]
end Go.Proofs.Ytogfblfekedefaa
