/-
  bytes.Clone: the bytes in new memory (at a seat that has no codec).
-/
import Derived.Test.YtogfblfekedefaaCells
import Derived.Lib.SliceRun
namespace Go.Proofs.Ytogfblfekedefaa
open Go.RowKit

theorem clone_nil (w : World) : Calls Try.prog 24 #[.slice none 0 0] w fun r w' => r = .returned (.slice none 0 0) ∧ w = w' := by
  have hnil := fun (w : World) (a : Option Addr) (n c : Nat) => Lib.run_eql_slice_nil (P := Try.prog) w 29 5 a n c 0 0 Try.underlying29
  go_enter Try.func24, Try.ntmps24
  go_wp2
  go_ret
  exact ⟨rfl, rfl⟩

/-- bytes.Clone -/
theorem clone_byt {w : World} {S : Nat → Prop} {n c : Nat} {A : Option Addr} {l : List UInt8} (h : Byt w S A n c l) (hn : n ≤ 140737488355328) :
    Calls Try.prog 24 #[.slice A n c] w fun e w' => ∃ A' c', e = .returned (.slice A' n c') ∧ Byt w' (w.heap.size ≤ ·) A' n c' l ∧ Below w.heap.size w w' ∧ (A' = none ↔ A = none) ∧ FreeRow w' A' := by
  obtain ⟨i0, hi, hz0, hz1, hz2⟩ := info_parts u8_info
  have hnil := fun (w : World) (a : Option Addr) (n c : Nat) => Lib.run_eql_slice_nil (P := Try.prog) w 29 5 a n c 0 0 Try.underlying29
  have hmax := h.max
  have hcap := h.cap
  rcases A with _ | ad
  · have h0 : n = 0 := by
      rcases Nat.eq_zero_or_pos n with h0 | h0
      · exact h0
      · obtain ⟨_, _, hA, _⟩ := h.row h0
        cases hA
    subst h0
    have hl : l = [] := List.eq_nil_of_length_eq_zero h.len
    subst hl
    go_enter Try.func24, Try.ntmps24
    go_wp2
    go_ret
    exact ⟨none, 0, rfl, Byt.nil _ _ _ _ (Nat.zero_le _), Below.refl _ _, by simp, FreeRow.none_ _⟩
  · have hnews := byt_news (h.alloc (.cells #[] 5))
    have hlen := u8s_length l
    have hll := h.len
    have hone := u8s_one l
    clear h
    go_enter Try.func24, Try.ntmps24
    go_wp2_with (at_builtin; refine wpList_append_own _ rfl _ _ 29 rfl w.heap.size 5 i0 (.int .u8 0) 1 1 Try.underlying29 hi hz0 hz1 hz2 rfl (by decide) _ 0 [] rfl (World.ownsRow_made w #[] 0 (Nat.le_refl _) (Nat.zero_le _) rfl) ad n c (u8s l) rfl ?qc1 hnews hone ?qc4 ?qc5 ?qc6 ?_)
    case qc1 => omega
    case qc4 => unfold maxLen at *; omega
    case qc5 => omega
    case qc6 => simp
    intro v' w1 hown hgrow hnn
    go_wp2
    go_ret
    obtain ⟨A', c', rfl, hb⟩ := own_byt hown
    refine ⟨A', c', rfl, hb, ((Below.refl _ w).alloc (Nat.le_refl _) _).grown hgrow (by simp) (by intro k hk; simp [Value.ownBlock] at hk; omega), ?_, own_free hown⟩
    constructor
    · rintro rfl
      rcases hown.2 with ⟨h1, h2⟩ | ⟨g, cap, cur, h1, _⟩
      · exact absurd h1 hnn
      · cases h1
    · intro h1; cases h1
end Go.Proofs.Ytogfblfekedefaa
