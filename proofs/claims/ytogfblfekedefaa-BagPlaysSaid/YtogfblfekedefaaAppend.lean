/-
  append of bytes to a slice of bytes of the call's own, or to none.
-/
import Derived.Test.YtogfblfekedefaaOwn
namespace Go.Proofs.Ytogfblfekedefaa
open Go.RowKit

theorem append_any {W : World} {B k : Nat} {v : Value} {xs : List Value} (hown : W.ownsRow B 5 1 v k xs) {S : Nat → Prop} {A : Option Addr} {n c : Nat} {l : List UInt8} (h : Byt W S A n c l) (hb : k + n ≤ 1000000) (hB : B ≤ W.heap.size) (ty : TypeId) :
    ∃ v' W', (Builtin.append_ #[29, 29] ty #[v, .slice A n c]).run Try.prog W = .ok v' W' ∧ W'.ownsRow B 5 1 v' (k + n) (xs ++ u8s l) ∧ W.grownBy W' v.ownBlock := by
  obtain ⟨i0, hi, hz0, hz1, hz2⟩ := info_parts u8_info
  rcases A with _ | ad
  · obtain rfl : n = 0 := by
      rcases Nat.eq_zero_or_pos n with h0 | h0
      · exact h0
      · obtain ⟨_, _, hA, _⟩ := h.row h0
        cases hA
    obtain rfl : l = [] := List.eq_nil_of_length_eq_zero h.len
    have hv : ∃ A' c', v = .slice A' k c' ∧ k ≤ c' := by
      rcases hown.2 with ⟨rfl, h2⟩ | ⟨g, cap, cur, rfl, _, _, hn, _⟩
      · subst h2
        exact ⟨none, 0, rfl, Nat.le_refl _⟩
      · exact ⟨_, cap, rfl, hn⟩
    obtain ⟨A', c', rfl, hc⟩ := hv
    exact ⟨_, W, run_append_zero W 29 ty 5 i0 Try.underlying29 hi _ k c' c hc, by simpa [u8s] using hown, World.grownBy.refl _ _⟩
  · obtain ⟨v', W', hrun, r1, r2, _⟩ := run_append_own (P := Try.prog) W B 29 ty 5 i0 (.int .u8 0) 1 1 Try.underlying29 hi hz0 hz1 hz2 rfl (by decide) v k xs hown ad n c (u8s l) (by rw [u8s_length, h.len, Nat.mul_one]) (byt_news h) (u8s_one l) (by unfold maxLen; omega) (by omega) hB
    exact ⟨v', W', hrun, r1, r2⟩
theorem own_below_gr {W W' : World} {B : Nat} {e : TypeId} {size : Nat} {v : Value} {n : Nat} {xs : List Value} (h : W.ownsRow B e size v n xs) (hg : W.grownBy W' v.ownBlock) {w0 : World} (h0 : Below B w0 W) (hB : B ≤ W.heap.size) : Below B w0 W' :=
  h0.grown hg hB fun k hk => (h.lt k hk).1
theorem own_byt_any {w : World} {B : Nat} {e : TypeId} {v : Value} {n : Nat} {l : List UInt8} (h : w.ownsRow B e 1 v n (u8s l)) : ∃ A c, v = .slice A n c ∧ Byt w (B ≤ ·) A n c l := by
  have hl : l.length = n := by have := h.1; rw [u8s_length] at this; omega
  rcases h.2 with ⟨rfl, h2⟩ | ⟨g, cap, cur, rfl, _⟩
  · subst h2
    obtain rfl : l = [] := List.eq_nil_of_length_eq_zero hl
    exact ⟨none, 0, rfl, Byt.nil _ _ _ _ (Nat.zero_le _)⟩
  · exact ⟨_, cap, rfl, own_byt_at h⟩
end Go.Proofs.Ytogfblfekedefaa
