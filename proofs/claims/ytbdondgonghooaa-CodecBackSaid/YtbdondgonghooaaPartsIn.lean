/-
  A slice of structs that came in (CodecBack's parameter), opened.
-/
import Derived.Test.YtbdondgonghooaaFrame
import Derived.Test.YtbdondgonghooaaParts
import Derived.Deep.Strs
namespace Go.Proofs.Ytbdondgonghooaa
open Go.ChangeShapes Go.WideShapes Go.ChangeAt Go.RowKit Go.Deep

theorem parts_in {w : World} {H : Type} {enc : TypeId × Value → H} {base : Nat} {spare : Nat → Bool} {held : Bool} {a : Option Addr} {len cap : Nat} {d : DataW H} {p : List MemPlace}
    (hs : spare = fun _ => true) (h : DataW.Trod enc Try.prog w base spare held 49 (.slice a len cap) d p) : ∃ l, Parts w a len cap l := by
  subst hs
  obtain ⟨fuel, hf⟩ := h
  rcases open_slice Try.underlying49 hf with ⟨hcs, _⟩ | ⟨x, l, c, m, n, D, Pl, hcs, _, hl, hm, hmm, _, hi⟩
  · simp [Value.cells] at hcs
    obtain ⟨rfl, rfl, rfl⟩ := hcs
    exact ⟨[], rfl, Nat.zero_le _, Nat.zero_le _, fun h => absurd h (by omega), by simp⟩
  · simp [Value.cells] at hcs
    obtain ⟨rfl, rfl, rfl⟩ := hcs
    have hce : Try.prog.cellsOf 53 = 3 := by kernel_rfl
    have h3 : Try.prog.cellsOf 3 = 1 := by kernel_rfl
    have h32 : Try.prog.cellsOf 32 = 1 := by kernel_rfl
    have h22 : Try.prog.cellsOf 22 = 1 := by kernel_rfl
    rw [hce] at hi
    simp only [if_true] at hmm
    have one : ∀ i, ∃ q : Pt, i < len → w.cell? ((x.add (i * 3)).add 0) = some (.int .i64 q.k) ∧ w.cell? ((x.add (i * 3)).add 1) = some (.int .u64 q.x) ∧ w.cell? ((x.add (i * 3)).add 2) = some (.slice q.A q.n q.c) ∧
        q.x < 18446744073709551616 ∧ Byt w (fun _ => True) q.A q.n q.c q.b := fun i => by
      by_cases him : i < len
      · obtain ⟨cs', hc, ht⟩ := hi i (by omega)
        obtain ⟨_, hcl, hat⟩ := World.cells?_some hc
        obtain ⟨y0, y1, y2, n', _, _, t0, t1, t2⟩ := trod_struct3 Try.underlying53 ht
        match cs', hcl with
        | [v0, v1, v2], _ =>
          simp only [h3, h32, h22] at t0 t1 t2
          obtain ⟨z0, e0, _, _⟩ := DataW.trod_int Try.underlying3 t0
          obtain ⟨z1, e1, _, w1⟩ := DataW.trod_int Try.underlying32 t1
          simp at e0 e1
          subst e0 e1
          have hb := bounds_u64 w1
          obtain ⟨z, rfl⟩ := Int.eq_ofNat_of_zero_le hb.1
          have c0 := hat 0 (by omega)
          have c1 := hat 1 (by omega)
          have c2 := hat 2 (by omega)
          have t2' : DataW.trod enc Try.prog w base (fun _ => true) held n' 22 [v2] = some y2 := t2
          have hv : ∃ A k c', v2 = .slice A k c' := by
            rcases open_ints Try.underlying22 Try.underlying5 (by kernel_rfl) t2' with ⟨e, _⟩ | ⟨_, _, _, _, e, _⟩ <;> simp at e <;> exact ⟨_, _, _, e⟩
          obtain ⟨A, k, c', rfl⟩ := hv
          obtain ⟨b, hb2⟩ := bytes_in (enc := enc) (base := base) (held := held) (d := y2.1) (p := y2.2) rfl ⟨n', t2'⟩
          exact ⟨⟨z0, z, A, k, c', b⟩, fun _ => ⟨c0, c1, c2, (by omega : z < 18446744073709551616), hb2⟩⟩
      · exact ⟨⟨0, 0, none, 0, 0, []⟩, fun h => absurd h him⟩
    obtain ⟨f, hf⟩ := Classical.skolem.1 one
    refine ⟨(List.range len).map f, by simp, hl, hm, fun h0 => ?_, fun q hq => ?_⟩
    · obtain ⟨b, off, spot⟩ := x
      have hc0 := (hf 0 h0).1
      have hspot : spot = none := by simpa [Addr.add] using World.cell?_spot hc0
      subst hspot
      have hlt := World.block_lt_of_cell? _ _ hc0
      rw [add_plain, add_plain] at hlt
      refine ⟨b, off, rfl, hlt, fun i q hq => ?_⟩
      have hil : i < len := by
        have := (List.getElem?_eq_some_iff.1 hq).1; simpa using this
      obtain rfl : f i = q := by simpa [hil] using hq
      obtain ⟨c0, c1, c2, _, _⟩ := hf i hil
      rw [add_plain, add_plain] at c0 c1 c2
      exact ⟨c0, c1, c2⟩
    · obtain ⟨i, hi', rfl⟩ := List.mem_map.1 hq
      obtain ⟨_, _, _, h4, h5⟩ := hf i (by simpa using hi')
      exact ⟨h4, h5⟩
end Go.Proofs.Ytbdondgonghooaa
