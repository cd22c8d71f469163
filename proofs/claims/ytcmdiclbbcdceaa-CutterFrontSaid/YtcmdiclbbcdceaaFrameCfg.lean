/-
  How a config (a struct of three numbers) that came in is opened for my walks.
-/
import Derived.Test.YtcmdiclbbcdceaaFrame
import Derived.Test.YtcmdiclbbcdceaaCells
import Derived.Deep.Strs
namespace Go.Proofs.Ytcmdiclbbcdceaa
open Go.ChangeShapes Go.WideShapes Go.ChangeAt Go.RowKit Go.Deep

theorem okWide_cfg {w : World} {r : Reach} {base : Nat} {v : Value} (h : Value.okWide Try.prog w r base 24 v) : ∃ cs, v = .agg cs ∧ cs.size = 3 := by
  have hc : Try.prog.cellsOf 24 = 3 := by kernel_rfl
  unfold Value.okWide at h
  simp only [Try.underlying24] at h
  obtain ⟨cs, h1, h2, _⟩ := h
  exact ⟨cs, h1, by rw [h2, hc]⟩
theorem cfg_in {w : World} {H : Type} {enc : TypeId × Value → H} {base : Nat} {spare : Nat → Bool} {held : Bool} {cs : Array Value} {d : DataW H} {p : List MemPlace}
    (hs : cs.size = 3) (h : DataW.Trod enc Try.prog w base spare held 24 (.agg cs) d p) : ∃ le mo bi : Int, cs = #[.int .i64 le, .int .i64 mo, .int .i64 bi] := by
  obtain ⟨fuel, hf⟩ := h
  have h3 : Try.prog.cellsOf 3 = 1 := by kernel_rfl
  obtain ⟨y0, y1, y2, n', _, _, t0, t1, t2⟩ := trod_struct3 Try.underlying24 hf
  obtain ⟨l, rfl⟩ : ∃ l : List Value, cs = l.toArray := ⟨cs.toList, by simp⟩
  match l, hs with
  | [v0, v1, v2], _ =>
    simp only [h3] at t0 t1 t2
    obtain ⟨z0, e0, _, _⟩ := DataW.trod_int Try.underlying3 t0
    obtain ⟨z1, e1, _, _⟩ := DataW.trod_int Try.underlying3 t1
    obtain ⟨z2, e2, _, _⟩ := DataW.trod_int Try.underlying3 t2
    simp [Value.cells] at e0 e1 e2
    subst e0 e1 e2
    exact ⟨z0, z1, z2, rfl⟩
end Go.Proofs.Ytcmdiclbbcdceaa
