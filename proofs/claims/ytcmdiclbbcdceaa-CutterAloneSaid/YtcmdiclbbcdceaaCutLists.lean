/-
  cutter, in lists: ends and pieces of any config; the pieces are what stands between ends.
-/
import Derived.Test.YtcmdiclbbcdceaaCutRefEnds
namespace Go.Proofs.Ytcmdiclbbcdceaa
open Go.RowKit

def cfgOf (le mo bi : Int) : Cfg := ⟨le.toNat, mo.toNat, bi.toNat⟩
def pieV (le mo bi : Int) (b : List UInt8) : List (List UInt8) := if cutErr le mo bi = 0 then piecesC (cfgOf le mo bi) b else []
theorem endV_ok {le mo bi : Int} (h : cutErr le mo bi = 0) (b : List UInt8) : endV le mo bi b = endI (endsC (cfgOf le mo bi) b) := by rw [endV, if_pos h]; rfl
theorem pieV_ok {le mo bi : Int} (h : cutErr le mo bi = 0) (b : List UInt8) : pieV le mo bi b = piecesC (cfgOf le mo bi) b := by rw [pieV, if_pos h]
theorem endV_no {le mo bi : Int} (h : cutErr le mo bi ≠ 0) (b : List UInt8) : endV le mo bi b = [] := by rw [endV, if_neg h]
theorem pieV_no {le mo bi : Int} (h : cutErr le mo bi ≠ 0) (b : List UInt8) : pieV le mo bi b = [] := by rw [pieV, if_neg h]
theorem cfgOf_ok {le mo bi : Int} (h : cutErr le mo bi = 0) : (cfgOf le mo bi).Ok := by
  obtain ⟨c, hc, rfl, rfl, rfl⟩ := cutErr_ok h
  exact hc
theorem endI_length (l : List Nat) : (endI l).length = l.length := by simp [endI]
theorem endI_at (l : List Nat) (i : Nat) (h : i < l.length) : (endI l)[i]?.getD 0 = ((l[i]?.getD 0 : Nat) : Int) := by
  rw [endI, List.getElem?_map, List.getElem?_eq_getElem h]
  rfl
theorem endV_count (le mo bi : Int) (b : List UInt8) : (endV le mo bi b).length = (pieV le mo bi b).length := by
  by_cases h : cutErr le mo bi = 0
  · rw [endV_ok h, pieV_ok h, endI_length, piecesC_count]
  · rw [endV_no h, pieV_no h]; rfl
/-- Where a piece begins. -/
def fromC (l : List Nat) (i : Nat) : Nat := if i = 0 then 0 else l[i - 1]?.getD 0
theorem fromC_zero (l : List Nat) : fromC l 0 = 0 := rfl
theorem fromC_succ (l : List Nat) (i : Nat) : fromC l (i + 1) = l[i]?.getD 0 := by simp [fromC]
/-- A piece is what stands between two ends. -/
theorem piecesC_at (c : Cfg) (b : List UInt8) : ∀ i, i < (endsC c b).length → fromC (endsC c b) i ≤ (endsC c b)[i]?.getD 0 ∧ (endsC c b)[i]?.getD 0 ≤ b.length ∧ (piecesC c b)[i]?.getD [] = (b.drop (fromC (endsC c b) i)).take ((endsC c b)[i]?.getD 0 - fromC (endsC c b) i) := by
  refine bytes_rec (c := c) (C := fun b => ∀ i, i < (endsC c b).length → fromC (endsC c b) i ≤ (endsC c b)[i]?.getD 0 ∧ (endsC c b)[i]?.getD 0 ≤ b.length ∧ (piecesC c b)[i]?.getD [] = (b.drop (fromC (endsC c b) i)).take ((endsC c b)[i]?.getD 0 - fromC (endsC c b) i)) (fun b h i hi => ?_) (fun b h ih i hi => ?_) b
  · rw [endsC_nil c h] at hi
    simp at hi
  · have hp := pieceC_spec (c := c) h
    rw [endsC_cons c h] at hi ⊢
    rw [piecesC_cons c h]
    cases i with
    | zero => exact ⟨Nat.zero_le _, by simpa using hp.2.1, by simp [fromC]⟩
    | succ i =>
      have hi' : i < (endsC c (b.drop (pieceC c b))).length := by simpa using hi
      obtain ⟨h1, h2, h3⟩ := ih i hi'
      rw [List.length_drop] at h2
      have hat : (pieceC c b :: (endsC c (b.drop (pieceC c b))).map (· + pieceC c b))[i + 1]?.getD 0 = (endsC c (b.drop (pieceC c b)))[i]?.getD 0 + pieceC c b := by
        rw [List.getElem?_cons_succ, List.getElem?_map, List.getElem?_eq_getElem hi']
        rfl
      have hfr : fromC (pieceC c b :: (endsC c (b.drop (pieceC c b))).map (· + pieceC c b)) (i + 1) = fromC (endsC c (b.drop (pieceC c b))) i + pieceC c b := by
        rw [fromC_succ]
        cases i with
        | zero => simp [fromC]
        | succ i =>
          rw [fromC_succ, List.getElem?_cons_succ, List.getElem?_map, List.getElem?_eq_getElem (show i < (endsC c (b.drop (pieceC c b))).length by omega)]
          rfl
      rw [hat, hfr, List.getElem?_cons_succ, h3, List.drop_drop]
      exact ⟨by omega, by omega, by rw [Nat.add_comm (pieceC c b)]; congr 1; omega⟩
theorem endsC_short (c : Cfg) (b : List UInt8) : (endsC c b).length ≤ b.length := by
  refine bytes_rec (c := c) (C := fun b => (endsC c b).length ≤ b.length) (fun b h => ?_) (fun b h ih => ?_) b
  · rw [endsC_nil c h]; simp
  · have hp := pieceC_spec (c := c) h
    rw [endsC_cons c h, List.length_cons, List.length_map]
    rw [List.length_drop] at ih
    omega
def endN (le mo bi : Int) (b : List UInt8) : List Nat := if cutErr le mo bi = 0 then endsC (cfgOf le mo bi) b else []
theorem endV_N (le mo bi : Int) (b : List UInt8) : endV le mo bi b = endI (endN le mo bi b) := by
  by_cases h : cutErr le mo bi = 0
  · rw [endV_ok h, endN, if_pos h]
  · rw [endV_no h, endN, if_neg h]; rfl
theorem pieV_count (le mo bi : Int) (b : List UInt8) : (pieV le mo bi b).length = (endN le mo bi b).length := by rw [← endV_count, endV_N, endI_length]
theorem pieV_at (le mo bi : Int) (b : List UInt8) (i : Nat) (hi : i < (endN le mo bi b).length) : fromC (endN le mo bi b) i ≤ (endN le mo bi b)[i]?.getD 0 ∧ (endN le mo bi b)[i]?.getD 0 ≤ b.length ∧ (pieV le mo bi b)[i]?.getD [] = (b.drop (fromC (endN le mo bi b) i)).take ((endN le mo bi b)[i]?.getD 0 - fromC (endN le mo bi b) i) := by
  by_cases h : cutErr le mo bi = 0
  · rw [endN, if_pos h] at hi ⊢
    rw [pieV_ok h]
    exact piecesC_at _ b i hi
  · rw [endN, if_neg h] at hi
    simp at hi
theorem endN_short (le mo bi : Int) (b : List UInt8) : (endN le mo bi b).length ≤ b.length := by
  unfold endN
  split
  · exact endsC_short _ b
  · simp
theorem endsC_pos (c : Cfg) {b : List UInt8} : 0 < (endsC c b).length ↔ 0 < b.length := by
  by_cases h : 0 < b.length
  · rw [endsC_cons c h]; simp [h]
  · rw [endsC_nil c h]; simp [h]
/-- As few as may be are as many as may be. -/
theorem alone_at {k bits : Nat} (hc : (Cfg.mk k k bits).Ok) (b : List UInt8) : (endsC ⟨k, k, bits⟩ b).length = (b.length + k - 1) / k ∧ ∀ i, i + 1 < (endsC ⟨k, k, bits⟩ b).length → ((piecesC ⟨k, k, bits⟩ b)[i]?.getD []).length = k := by
  have hk : 1 ≤ k := hc.least
  refine bytes_rec (c := ⟨k, k, bits⟩) (C := fun b => (endsC ⟨k, k, bits⟩ b).length = (b.length + k - 1) / k ∧ ∀ i, i + 1 < (endsC ⟨k, k, bits⟩ b).length → ((piecesC ⟨k, k, bits⟩ b)[i]?.getD []).length = k) (fun b h => ?_) (fun b h ih => ?_) b
  · rw [endsC_nil _ h]
    refine ⟨?_, fun i hi => by simp at hi⟩
    have : b.length = 0 := by omega
    rw [this, Nat.div_eq_of_lt (by omega)]
    rfl
  · have hp := pieceC_alone hc rfl h
    rw [endsC_cons _ h, piecesC_cons _ h]
    by_cases hlt : k < b.length
    · have hp2 : pieceC ⟨k, k, bits⟩ b = k := by rw [hp]; exact if_pos hlt
      rw [hp2] at ih ⊢
      rw [List.length_drop] at ih
      refine ⟨?_, fun i hi => ?_⟩
      · rw [List.length_cons, List.length_map, ih.1, show b.length + k - 1 = (b.length - k + k - 1) + k by omega, Nat.add_div_right _ (by omega)]
      · cases i with
        | zero => simp; omega
        | succ i =>
          rw [List.getElem?_cons_succ]
          exact ih.2 i (by simpa using hi)
    · have hp2 : pieceC ⟨k, k, bits⟩ b = b.length := by rw [hp]; exact if_neg hlt
      rw [hp2] at ih ⊢
      rw [endsC_nil _ (show ¬ 0 < (b.drop b.length).length by simp)]
      refine ⟨?_, fun i hi => by simp at hi⟩
      rw [List.map_nil, List.length_singleton, show b.length + k - 1 = (b.length - 1) + k by omega, Nat.add_div_right _ (by omega), Nat.div_eq_of_lt (by omega)]
end Go.Proofs.Ytcmdiclbbcdceaa
