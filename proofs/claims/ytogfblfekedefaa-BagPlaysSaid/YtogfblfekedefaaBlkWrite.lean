/-
  The reference's Write.
-/
import Derived.Test.YtogfblfekedefaaBlkRef
import Derived.Test.YtogfblfekedefaaRegion
namespace Go.Proofs.Ytogfblfekedefaa
open Go.RowKit


theorem dm_one (A : Option Addr) (n c : Nat) (x y : Int) (z : Bool) : (#[Value.slice A n c, .int .i64 x, .int .i64 y, .bool z] : Array Value).all (·.oneCell') = true := by simp [Value.oneCell']


structure DM.Ok (d : DM) : Prop where
  each : ∀ x ∈ d.l, x.length = 128
  torn : 0 ≤ d.torn ∧ d.torn ≤ 128
  left : -9223372036854775808 ≤ d.left ∧ d.left ≤ 9223372036854775807
theorem readM_no {d : DM} {i : Int} {b : List UInt8} (h : (readM d i).2 ≠ 0 ∨ b.length ≠ 128) : writeM d i b = (d, if (readM d i).2 = 0 then 1 else (readM d i).2) := by
  unfold readM at h ⊢
  unfold writeM
  by_cases h1 : d.down = true
  · rw [if_pos h1, if_pos h1]; rfl
  · rw [if_neg h1] at h
    rw [if_neg h1, if_neg h1]
    by_cases h2 : i < 0 ∨ (d.l.length : Int) ≤ i
    · rw [if_pos h2, if_pos h2]; rfl
    · rw [if_neg h2] at h
      rw [if_neg h2, if_neg h2]
      have h3 : b.length ≠ 128 := h.resolve_left (fun h => h rfl)
      rw [if_pos h3]; rfl
theorem readM_yes {d : DM} {i : Int} (h : (readM d i).2 = 0) : d.down = false ∧ 0 ≤ i ∧ i < (d.l.length : Int) := by
  unfold readM at h
  by_cases h1 : d.down = true
  · rw [if_pos h1] at h; exact absurd h (by decide)
  · rw [if_neg h1] at h
    by_cases h2 : i < 0 ∨ (d.l.length : Int) ≤ i
    · rw [if_pos h2] at h; exact absurd h (by decide)
    · exact ⟨by simpa using h1, by omega, by omega⟩
theorem writeM_ok {d : DM} (ok : d.Ok) (i : Int) (b : List UInt8) : (writeM d i b).1.Ok := by
  by_cases hs : (readM d i).2 ≠ 0 ∨ b.length ≠ 128
  · rw [readM_no hs]; exact ok
  · have hr : (readM d i).2 = 0 := Classical.byContradiction fun h => hs (.inl h)
    have hl : b.length = 128 := Classical.byContradiction fun h => hs (.inr h)
    obtain ⟨hd, h0, h1⟩ := readM_yes hr
    unfold writeM
    rw [if_neg (by simp [hd]), if_neg (by omega), if_neg (by omega)]
    have hx : (d.l[i.toNat]?.getD []).length = 128 := by
      have hil : i.toNat < d.l.length := by omega
      rw [List.getElem?_eq_getElem hil]
      exact ok.each _ (List.getElem_mem hil)
    have ht := ok.torn
    split
    · refine ⟨fun x hx2 => ?_, ok.torn, ok.left⟩
      rcases List.mem_or_eq_of_mem_set hx2 with h | rfl
      · exact ok.each x h
      · rw [List.length_append, List.length_take, List.length_drop, hx, hl]
        omega
    · refine ⟨fun x hx2 => ?_, ok.torn, ?_⟩
      · rcases List.mem_or_eq_of_mem_set hx2 with h | rfl
        · exact ok.each x h
        · exact hl
      · have := ok.left
        simp only
        split <;> omega
theorem stopM_ok {d : DM} (ok : d.Ok) {after torn : Int} (h : -9223372036854775808 ≤ after ∧ after ≤ 9223372036854775807) : (stopM d after torn).Ok := by
  refine ⟨ok.each, ?_, ?_⟩
  · unfold stopM
    simp only
    split
    · omega
    · split <;> omega
  · unfold stopM
    simp only
    split <;> omega
theorem restartM_ok {d : DM} (ok : d.Ok) : (restartM d).Ok := ⟨ok.each, ok.torn, by unfold restartM; simp only; omega⟩
end Go.Proofs.Ytogfblfekedefaa
