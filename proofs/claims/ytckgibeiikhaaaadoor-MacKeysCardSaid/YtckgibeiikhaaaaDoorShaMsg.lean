/-
  Plain mathematics: a digest under way: what it holds behind the bytes m.
-/
import Derived.Test.YtckgibeiikhaaaaDoorSha
import Derived.Test.YtckgibeiikhaaaaDoorMem
namespace Go.Proofs.YtckgibeiikhaaaaDoor

/-- The numbers behind n blocks. -/
def hashN (m : List UInt8) : Nat → List (BitVec 32)
  | 0 => hTab
  | n + 1 => mixB (hashN m n) ((m.drop (64 * n)).take 64)
theorem hashN_length (m : List UInt8) : ∀ n, (hashN m n).length = 8
  | 0 => by rfl
  | n + 1 => by rw [hashN, mixB_length, hashN_length m n]
theorem hashN_front (m l : List UInt8) : ∀ n, 64 * n ≤ m.length → hashN (m ++ l) n = hashN m n
  | 0, _ => rfl
  | n + 1, h => by
    rw [hashN, hashN, hashN_front m l n (by omega), List.drop_append_of_le_length (by omega), List.take_append_of_le_length (by rw [List.length_drop]; omega)]

/-- The part b, of which d bytes count, behind the bytes m. -/
structure PartOf (m b : List UInt8) : Prop where
  len : b.length = 64
  front : b.take (m.length % 64) = m.drop (64 * (m.length / 64))

/-- So many bytes of l come behind. -/
def laid (m b l : List UInt8) (n : Nat) : List UInt8 := b.take (m.length % 64) ++ (l.take n ++ b.drop (m.length % 64 + n))
theorem laid_length {m b l : List UInt8} {n : Nat} (hb : b.length = 64) (hn : n ≤ l.length) (hd : m.length % 64 + n ≤ 64) : (laid m b l n).length = 64 := by
  simp [laid, hb]; omega
theorem laid_front {m b l : List UInt8} {n : Nat} (h : PartOf m b) (hn : n ≤ l.length) :
    (laid m b l n).take (m.length % 64 + n) = m.drop (64 * (m.length / 64)) ++ l.take n := by
  have hb := h.len
  unfold laid
  rw [← List.append_assoc, List.take_append_of_le_length (by simp [hb]; omega), List.take_of_length_le (by simp [hb]; omega), h.front]
theorem part_short {m b l : List UInt8} {n : Nat} (h : PartOf m b) (hn : n ≤ l.length) (hd : m.length % 64 + n < 64) :
    PartOf (m ++ l.take n) (laid m b l n) ∧ (m ++ l.take n).length % 64 = m.length % 64 + n ∧ hashN (m ++ l.take n) ((m ++ l.take n).length / 64) = hashN m (m.length / 64) := by
  have hl : (m ++ l.take n).length = m.length + n := by simp; omega
  have h1 : (m.length + n) / 64 = m.length / 64 := by omega
  have h2 : (m.length + n) % 64 = m.length % 64 + n := by omega
  refine ⟨⟨laid_length h.len hn (by omega), ?_⟩, by rw [hl, h2], ?_⟩
  · rw [hl, h1, h2, laid_front h hn, List.drop_append_of_le_length (by omega)]
  · rw [hl, h1, hashN_front _ _ _ (by omega)]
theorem part_full {m b l : List UInt8} {n : Nat} (h : PartOf m b) (hn : n ≤ l.length) (hd : m.length % 64 + n = 64) :
    PartOf (m ++ l.take n) (laid m b l n) ∧ (m ++ l.take n).length % 64 = 0 ∧ hashN (m ++ l.take n) ((m ++ l.take n).length / 64) = mixB (hashN m (m.length / 64)) (laid m b l n) := by
  have hl : (m ++ l.take n).length = m.length + n := by simp; omega
  have h1 : (m.length + n) / 64 = m.length / 64 + 1 := by omega
  have h2 : (m.length + n) % 64 = 0 := by omega
  have hll := laid_length (m := m) h.len hn (by omega)
  have hf := laid_front h hn
  rw [hd, List.take_of_length_le (by omega)] at hf
  refine ⟨⟨hll, ?_⟩, by rw [hl, h2], ?_⟩
  · rw [hl, h1, h2, List.take_zero, List.drop_eq_nil_of_le (by rw [hl]; omega)]
  · rw [hl, h1, hashN, hashN_front _ _ _ (by omega), hf]
    congr 1
    rw [List.drop_append_of_le_length (by omega), List.take_of_length_le]
    simp; omega
/-- What the cells are behind the copy. -/
theorem laid_cells (H : List (BitVec 32)) (hH : H.length = 8) (m b l : List UInt8) (n : Nat) (hb : b.length = 64) (hd : m.length % 64 + n ≤ 64) (tl : List Value) :
    (u32s H ++ (u8s b ++ tl)).take (8 + m.length % 64) ++ (u8s (l.take n) ++ (u32s H ++ (u8s b ++ tl)).drop (8 + m.length % 64 + n)) = u32s H ++ (u8s (laid m b l n) ++ tl) := by
  have e1 : (u32s H).length = 8 := by rw [u32s_length, hH]
  have e2 : (u8s b).length = 64 := by rw [u8s_length, hb]
  rw [List.take_append, e1, List.take_of_length_le (by omega), Nat.add_sub_cancel_left, List.drop_append, e1, List.drop_eq_nil_of_le (by omega), List.nil_append,
    List.take_append_of_le_length (by omega), List.drop_append_of_le_length (by omega)]
  rw [show 8 + m.length % 64 + n - 8 = m.length % 64 + n by omega]
  simp only [laid, u8s_append, List.append_assoc]
  simp [u8s, List.map_take, List.map_drop]
end Go.Proofs.YtckgibeiikhaaaaDoor
