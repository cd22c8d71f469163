/-
  A row of digests of the call's own, filled one by one.
-/
import Derived.Test.YtogfblfekedefaaIds
import Derived.Test.YtogfblfekedefaaZeroId
namespace Go.Proofs.Ytogfblfekedefaa
open Go.RowKit

theorem set_flat : ∀ {l : List (List UInt8)} (_ : ∀ x ∈ l, x.length = 32) (i : Nat) (_ : i < l.length) (d : List UInt8) (_ : d.length = 32), (l.set i d).flatten = l.flatten.take (i * 32) ++ d ++ l.flatten.drop (i * 32 + 32)
  | [], _, _, h, _, _ => absurd h (by simp)
  | a :: l, hl, 0, _, d, hd => by
    have ha := hl a (by simp)
    simp [ha, List.take_append]
  | a :: l, hl, i + 1, h, d, hd => by
    have ha := hl a (by simp)
    have ih := set_flat (l := l) (fun x hx => hl x (by simp [hx])) i (by simpa using h) d hd
    rw [List.set_cons_succ, List.flatten_cons, ih, List.flatten_cons, List.take_append, List.drop_append, ha, List.take_of_length_le (by omega : a.length ≤ (i + 1) * 32), List.drop_of_length_le (by omega : a.length ≤ (i + 1) * 32 + 32), show (i + 1) * 32 - 32 = i * 32 by omega, show (i + 1) * 32 + 32 - 32 = i * 32 + 32 by omega]
    simp
theorem set_len32 {l : List (List UInt8)} (hl : ∀ x ∈ l, x.length = 32) (i : Nat) {d : List UInt8} (hd : d.length = 32) : ∀ x ∈ l.set i d, x.length = 32 := fun x hx => by
  rcases List.mem_or_eq_of_mem_set hx with h | h
  · exact hl x h
  · rw [h, hd]
theorem zerosId_at (k : Nat) (hk : k < 32) : zerosId[k]! = .int .u8 0 := by
  have h : zerosId[k]? = some (.int .u8 0) := by
    unfold zerosId
    rw [List.getElem?_toArray, u8s, List.map_replicate, List.getElem?_replicate, if_pos hk]
    rfl
  simp [getElem!_def, h]
theorem made_ids (n : Nat) : madeCells (Value.agg zerosId).cells (n * 32) = row8 (List.replicate n (List.replicate 32 0)).flatten := by
  have hz : (Value.agg zerosId).cells = zerosId := rfl
  have hs : zerosId.size = 32 := by unfold zerosId; simp [u8s_length]
  rw [List.flatten_replicate_replicate, hz]
  apply Array.toList_inj.1
  apply List.ext_getElem
  · simp [madeCells, row8, u8s_length]
  · intro i h1 h2
    have : i % 32 < 32 := Nat.mod_lt _ (by decide)
    simp [madeCells, row8, u8s, hs, zerosId_at _ this]
end Go.Proofs.Ytogfblfekedefaa
