/-
  How an array of bytes that came in is opened for my walks.
-/
import Derived.Test.YtogfblfekedefaaFrame
import Derived.Test.YtogfblfekedefaaCells
namespace Go.Proofs.Ytogfblfekedefaa
open Go.ChangeShapes Go.WideShapes Go.ChangeAt Go.RowKit

theorem okWide_arr {P : Program} {w : World} {r : Reach} {base n : Nat} {t e : TypeId} {v : Value} (ht : P.underlying t = some (.array n e)) (h : Value.okWide P w r base t v) : ∃ cs, v = .agg cs ∧ cs.size = P.cellsOf t := by
  unfold Value.okWide at h
  simp only [ht] at h
  obtain ⟨cs, h1, h2, _⟩ := h
  exact ⟨cs, h1, h2⟩

theorem arr_in {P : Program} {w : World} {H : Type} {enc : TypeId × Value → H} {base n : Nat} {spare : Nat → Bool} {held : Bool} {t e : TypeId} {cs : Array Value} {d : DataW H} {p : List MemPlace}
    (ht : P.underlying t = some (.array n e)) (he : P.underlying e = some (.int .u8)) (hc : P.cellsOf e = 1) (hn : P.cellsOf t = n) (h : DataW.Trod enc P w base spare held t (.agg cs) d p) : ∃ l : List UInt8, cs = row8 l ∧ l.length = n := by
  obtain ⟨fuel, hf⟩ := h
  obtain ⟨xs, m, rfl, _, hl, hxl, hel⟩ := DataW.trod_array ht hf
  rw [hn] at hl
  have hl : cs.toList.length = n := by simpa [Value.cells] using hl
  have one : ∀ i, ∃ z : UInt8, i < n → cs.toList[i]? = some (.int .u8 (z.toNat : Int)) := fun i => by
    by_cases hi : i < n
    · have h1 := hel i hi
      rw [hc, Nat.mul_one, List.getElem?_eq_getElem (show i < xs.length by omega)] at h1
      obtain ⟨z, e1, _, hw⟩ := DataW.trod_int he h1
      have hb := u8_bounds hw
      refine ⟨UInt8.ofNat z.toNat, fun _ => ?_⟩
      have h2 := congrArg (fun l => l[0]?) e1
      have h3 : cs.toList[i]? = some (.int .u8 z) := by simpa [List.getElem?_take, List.getElem?_drop, Value.cells] using h2
      rw [h3]
      congr 2
      simp
      omega
    · exact ⟨0, fun h => absurd h hi⟩
  obtain ⟨f, hf⟩ := Classical.skolem.1 one
  refine ⟨(List.range n).map f, ?_, by simp⟩
  apply Array.toList_inj.1
  apply List.ext_getElem?
  intro i
  by_cases hi : i < n
  · rw [hf i hi]
    simp [row8, u8s, hi]
  · rw [List.getElem?_eq_none (by omega)]
    simp [row8, u8s, hi]
end Go.Proofs.Ytogfblfekedefaa
