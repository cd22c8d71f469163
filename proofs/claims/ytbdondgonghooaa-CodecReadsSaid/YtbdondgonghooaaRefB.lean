/-
  The document's reading of a row with its length, by value.
-/
import Derived.Test.YtbdondgonghooaaRefU
namespace Go.Proofs.Ytbdondgonghooaa
open Go.RowKit Codec

/-- Two variables of readers that a call has made, in a later world. -/
theorem two_kept {w w1 : World} {a b c d : Value} {t : TypeId} (h : Below ((w.alloc (.cells #[a, b] t)).alloc (.cells #[c, d] t)).heap.size ((w.alloc (.cells #[a, b] t)).alloc (.cells #[c, d] t)) w1) :
    (w1.cell? ⟨w.heap.size, 0, none⟩ = some a ∧ w1.cell? ⟨w.heap.size, 1, none⟩ = some b ∧ w1.cell? ⟨w.heap.size + 1, 0, none⟩ = some c ∧ w1.cell? ⟨w.heap.size + 1, 1, none⟩ = some d) ∧
    (w1.frozen? ⟨w.heap.size, 0, none⟩ = false ∧ w1.frozen? ⟨w.heap.size, 1, none⟩ = false ∧ w1.frozen? ⟨w.heap.size + 1, 0, none⟩ = false ∧ w1.frozen? ⟨w.heap.size + 1, 1, none⟩ = false) ∧ Below w.heap.size w w1 := by
  have h2 : ((w.alloc (.cells #[a, b] t)).alloc (.cells #[c, d] t)).heap[w.heap.size + 1]? = some (.cells #[c, d] t (0, 0)) := by
    have := heap_alloc_new (w.alloc (.cells #[a, b] t)) (.cells #[c, d] t)
    simpa using this
  have h1 : ((w.alloc (.cells #[a, b] t)).alloc (.cells #[c, d] t)).heap[w.heap.size]? = some (.cells #[a, b] t (0, 0)) := by
    have := heap_alloc_new w (.cells #[a, b] t)
    rw [((Below.refl _ (w.alloc (.cells #[a, b] t))).alloc (Nat.le_refl _) (.cells #[c, d] t)).block w.heap.size (by simp)]
    exact this
  have k1 := (h.block w.heap.size (by simp; omega)).trans h1
  have k2 := (h.block (w.heap.size + 1) (by simp)).trans h2
  refine ⟨⟨?_, ?_, ?_, ?_⟩, ⟨?_, ?_, ?_, ?_⟩, (below2 w _ _).trans (h.mono (by simp; omega))⟩
  · rw [cell_of_cells k1]; rfl
  · rw [cell_of_cells k1]; rfl
  · rw [cell_of_cells k2]; rfl
  · rw [cell_of_cells k2]; rfl
  all_goals (simp [World.frozen?, k1, k2])

/-- What is written last stands there. -/
theorem set_set (w : World) (a : Addr) (u v : Value) : (w.setCell a u).setCell a v = w.setCell a v := by
  unfold World.setCell
  congr 1
  apply Array.ext_getElem?
  intro i
  simp only [Array.getElem?_modify]
  split
  · cases w.heap[i]? with
    | none => rfl
    | some o =>
      cases o with
      | cells c e f => by_cases h : a.spot.isSome <;> simp [h]
      | _ => rfl
  · rfl

theorem later {w1 w2 : World} {g g' : Nat} {u v : Value} (hne : g' ≠ g) (hlt : g' < w1.heap.size) (h : Below ((w1.setCell ⟨g, 0, none⟩ u).setCell ⟨g, 1, none⟩ v).heap.size ((w1.setCell ⟨g, 0, none⟩ u).setCell ⟨g, 1, none⟩ v) w2) (o : Nat) :
    w2.cell? ⟨g', o, none⟩ = w1.cell? ⟨g', o, none⟩ ∧ w2.frozen? ⟨g', o, none⟩ = w1.frozen? ⟨g', o, none⟩ := by
  have e : w2.heap[g']? = w1.heap[g']? := (h.block g' (by simp [World.setCell]; exact hlt)).trans ((Below.heap_setCell _ _ _ _ hne).trans (Below.heap_setCell _ _ _ _ hne))
  exact ⟨World.cell?_of_block (w := w1) (a := ⟨g', o, none⟩) e, by simp [World.frozen?, e]⟩
theorem below_four {w w1 : World} (h : Below w.heap.size w w1) (u1 u2 u3 u4 : Value) : Below w.heap.size w ((((w1.setCell ⟨w.heap.size, 0, none⟩ u1).setCell ⟨w.heap.size, 1, none⟩ u2).setCell ⟨w.heap.size + 1, 0, none⟩ u3).setCell ⟨w.heap.size + 1, 1, none⟩ u4) :=
  (((h.setCell (p := ⟨w.heap.size, 0, none⟩) (Nat.le_refl _) u1).setCell (p := ⟨w.heap.size, 1, none⟩) (Nat.le_refl _) u2).setCell (p := ⟨w.heap.size + 1, 0, none⟩) (Nat.le_succ _) u3).setCell (p := ⟨w.heap.size + 1, 1, none⟩) (Nat.le_succ _) u4

set_option maxHeartbeats 1000000 in
theorem ref_bytes (l : List UInt8) (e most : Int) (w : World) (hm : (Lit.int .i64 most).wf = true) : Calls Try.prog 14 #[RV l e, .int .i64 most] w (RGot w (byE l e most) (byL l e most) (.string (strB (byB l e most)))) := by
  have hu := fun w => ref_uint l e w
  unfold byE byB byL
  generalize uiE l e = e1 at *
  generalize hx : uiX l e = x at *
  have hx2 : x < 18446744073709551616 := by rw [← hx]; exact uiX_lt l e
  generalize uiL l e = l1 at *
  have hmb := bounds_i64 hm
  clear hx hm
  unfold RV at *
  by_cases he : e1 = 0
  · subst he
    have hz : ¬ ((0 : Int) ≠ 0) := by simp
    rw [if_neg hz, if_neg hz, if_neg hz]
    clear hz
    by_cases hb : most < 0 ∨ most < (x : Int)
    · rw [if_pos hb, if_pos hb, if_pos hb]
      go_enter Try.func14, Try.ntmps14
      go_wp2_with fail
      refine (hu _).mono ?_
      rintro _ w1 ⟨m, rfl, h1, h2⟩
      unfold RV
      obtain ⟨⟨c1, c2, c3, c4⟩, ⟨f1, f2, f3, f4⟩, hb1⟩ := two_kept h2
      have hbs := below_four hb1
      have hss := set_set
      clear h1 h2 hu
      go_wp2_with fail
      all_goals (refine bodyPost_ret (v := .tuple #[.agg #[.string (strB m), .int .i64 13], .string (strB [])]) (by simp [results, Try.results14, go_sem, c3, c4]; rfl) rfl ⟨m, rfl, (fun h => by cases h), hbs _ _ _ _⟩)
    · rw [if_neg hb, if_neg hb, if_neg hb]
      have hb1 : 0 ≤ most := by omega
      have hb2 : (x : Int) ≤ most := by omega
      clear hb
      go_enter Try.func14, Try.ntmps14
      go_wp2_with fail
      refine (hu _).mono ?_
      rintro _ w1 ⟨m, rfl, h1, h2⟩
      unfold RV
      obtain ⟨⟨c1, c2, c3, c4⟩, ⟨f1, f2, f3, f4⟩, hb1⟩ := two_kept h2
      have hsz : w.heap.size + 1 < w1.heap.size := by have := h2.size; simp at this; omega
      obtain rfl : m = l1 := h1 rfl
      have hbs := below_four hb1
      have hss := set_set
      have HB1 := Lib.hid hb1
      have HSZ := Lib.hid hsz
      clear h1 h2 hu hb1 hsz
      go_wp2_with fail
      refine (ref_fixed m 0 x _).mono ?_
      rintro _ w2 ⟨rfl, hb3⟩
      unfold RV
      obtain ⟨a1, a2⟩ := later (g' := w.heap.size + 1) (by omega) HSZ.out hb3 0
      obtain ⟨a3, a4⟩ := later (g' := w.heap.size + 1) (by omega) HSZ.out hb3 1
      rw [c3] at a1
      rw [f3] at a2
      rw [c4] at a3
      rw [f4] at a4
      have hb4 := ((HB1.out.setCell (p := ⟨w.heap.size, 0, none⟩) (Nat.le_refl _) (.string (strB m))).setCell (p := ⟨w.heap.size, 1, none⟩) (Nat.le_refl _) (.int .i64 0))
      have hb5 := hb4.trans (hb3.mono hb4.size)
      have hbt := fun u v => (hb5.setCell (p := ⟨w.heap.size + 1, 0, none⟩) (Nat.le_succ _) u).setCell (p := ⟨w.heap.size + 1, 1, none⟩) (Nat.le_succ _) v
      generalize fxL m 0 x = m2 at *
      generalize tkE m 0 x = e2 at *
      clear hbs hb3 hb4 hb5 c1 c2 c3 c4 f1 f2 f3 f4
      go_wp2_with fail
      refine bodyPost_ret (v := .tuple #[.agg #[.string (strB m2), .int .i64 e2], .string (strB (fxB m 0 x))]) (by simp [results, Try.results14, go_sem, a1, a3]) rfl ⟨m2, rfl, fun _ => rfl, hbt _ _⟩
  · have HE := Lib.hid he
    rw [if_pos he, if_pos he, if_pos he]
    have he' : (e1 != 0) = true := by simpa using he
    clear he
    go_enter Try.func14, Try.ntmps14
    go_wp2_with fail
    refine (hu _).mono ?_
    rintro _ w1 ⟨m, rfl, h1, h2⟩
    unfold RV
    obtain ⟨⟨c1, c2, c3, c4⟩, ⟨f1, f2, f3, f4⟩, hb1⟩ := two_kept h2
    have hbs := below_four hb1
    have hss := set_set
    clear h1 h2 hu
    go_wp2_with fail
    refine bodyPost_ret (v := .tuple #[.agg #[.string (strB m), .int .i64 e1], .string (strB [])]) (by simp [results, Try.results14, go_sem, c3, c4]; rfl) rfl ⟨m, rfl, fun h => absurd h HE.out, hbs _ _ _ _⟩
end Go.Proofs.Ytbdondgonghooaa
