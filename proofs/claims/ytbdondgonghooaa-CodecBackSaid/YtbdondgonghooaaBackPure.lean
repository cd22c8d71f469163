/-
  What was put is read as it was: the pure part (for CodecBack).
-/
import Derived.Test.YtbdondgonghooaaCodecRead2
namespace Go.Proofs.Ytbdondgonghooaa
open Go.RowKit Codec
theorem fixed_back (b R : List UInt8) (n : Nat) (h : b.length = n) : tkE (b ++ R) 0 (n : Int) = 0 ∧ fxL (b ++ R) 0 (n : Int) = R ∧ fxB (b ++ R) 0 (n : Int) = b := by
  have e : tkE (b ++ R) 0 (n : Int) = 0 := by
    unfold tkE
    rw [if_neg (by simp), if_neg (by omega), if_neg (by simp; omega)]
  refine ⟨e, ?_, ?_⟩
  · unfold fxL; rw [if_pos e]; simp [← h]
  · unfold fxB; rw [if_pos e]; simp [← h]
theorem uint_back (x : Nat) (R : List UInt8) (hx : x < 18446744073709551616) : (rd 0 (put x ++ R)).1 = x ∧ (put x ++ R).drop (rd 0 (put x ++ R)).2.1 = R ∧ (rd 0 (put x ++ R)).2.2 = 0 := by
  rw [rd_put0 hx]
  exact ⟨rfl, List.drop_left, rfl⟩
theorem bytes_back (b R : List UInt8) (h : b.length ≤ 200) : byE ((put b.length ++ b) ++ R) 0 200 = 0 ∧ byL ((put b.length ++ b) ++ R) 0 200 = R ∧ byB ((put b.length ++ b) ++ R) 0 200 = b := by
  obtain ⟨h1, h2, h3⟩ := uint_back b.length (b ++ R) (by omega)
  rw [List.append_assoc]
  have e1 : uiX (put b.length ++ (b ++ R)) 0 = b.length := by unfold uiX; rw [if_pos rfl, h1]
  have e2 : uiL (put b.length ++ (b ++ R)) 0 = b ++ R := by unfold uiL; rw [if_pos rfl, h2]
  have e3 : uiE (put b.length ++ (b ++ R)) 0 = 0 := by unfold uiE; rw [if_pos rfl, h3]; rfl
  obtain ⟨f1, f2, f3⟩ := fixed_back b R b.length rfl
  unfold byE byL byB
  rw [e1, e2, e3]
  have hn : ¬ ((200 : Int) < 0 ∨ (200 : Int) < (b.length : Int)) := by omega
  rw [if_neg (by simp), if_neg hn, if_neg (by simp), if_neg hn, if_neg (by simp), if_neg hn]
  exact ⟨f1, f2, f3⟩
theorem bool_back (v : UInt8) (R : List UInt8) (hv : v.toNat ≤ 1) : boE (v :: R) 0 = 0 ∧ fxL (v :: R) 0 1 = R ∧ boX (v :: R) 0 = (v.toNat == 1) := by
  have e : tkE (v :: R) 0 1 = 0 := by
    unfold tkE
    rw [if_neg (by simp), if_neg (by omega), if_neg (by simp; omega)]
  refine ⟨?_, ?_, ?_⟩
  · unfold boE; rw [e, if_neg (by simp), if_neg (by simp; omega)]
  · unfold fxL; rw [if_pos e]; rfl
  · unfold boX; rw [e, if_neg (by simp)]; rfl
end Go.Proofs.Ytbdondgonghooaa
