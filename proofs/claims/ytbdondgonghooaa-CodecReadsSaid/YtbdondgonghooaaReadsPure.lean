/-
  Two readers that agree while there is no error read alike (for CodecReads); a slice of its acts.
-/
import Derived.Test.YtbdondgonghooaaRefBool
import Derived.Test.YtbdondgonghooaaRefId
namespace Go.Proofs.Ytbdondgonghooaa
open Go.RowKit Codec

theorem alike_ui {l m : List UInt8} {e : Int} (h : e = 0 → m = l) : uiX m e = uiX l e ∧ uiE m e = uiE l e ∧ (uiE l e = 0 → uiL m e = uiL l e) := by
  by_cases he : e = 0
  · rw [h he]; exact ⟨rfl, rfl, fun _ => rfl⟩
  · unfold uiX uiE uiL
    simp only [if_neg he]
    exact ⟨trivial, trivial, fun h => absurd h he⟩
theorem alike_fx {l m : List UInt8} {e : Int} (k : Int) (h : e = 0 → m = l) : fxB m e k = fxB l e k ∧ tkE m e k = tkE l e k ∧ (tkE l e k = 0 → fxL m e k = fxL l e k) := by
  by_cases he : e = 0
  · rw [h he]; exact ⟨rfl, rfl, fun _ => rfl⟩
  · have t : ∀ x, tkE x e k = e := fun x => by unfold tkE; rw [if_pos he]
    unfold fxB
    rw [t, t, if_neg he, if_neg he]
    exact ⟨rfl, rfl, fun h => absurd h he⟩
theorem alike_by {l m : List UInt8} {e : Int} (k : Int) (h : e = 0 → m = l) : byB m e k = byB l e k ∧ byE m e k = byE l e k ∧ (byE l e k = 0 → byL m e k = byL l e k) := by
  by_cases he : e = 0
  · rw [h he]; exact ⟨rfl, rfl, fun _ => rfl⟩
  · have t : ∀ x, uiE x e = e := fun x => by unfold uiE; rw [if_neg he]
    have tb : ∀ x, byB x e k = [] := fun x => by unfold byB; rw [t, if_pos he]
    have te : ∀ x, byE x e k = e := fun x => by unfold byE; rw [t, if_pos he]
    rw [tb, tb, te, te]
    exact ⟨rfl, rfl, fun h => absurd h he⟩
theorem alike_bo {l m : List UInt8} {e : Int} (h : e = 0 → m = l) : boE m e = boE l e ∧ (boE l e = 0 → boX m e = boX l e ∧ fxL m e 1 = fxL l e 1) := by
  by_cases he : e = 0
  · rw [h he]; exact ⟨rfl, fun _ => ⟨rfl, rfl⟩⟩
  · have t : ∀ x, tkE x e 1 = e := fun x => by unfold tkE; rw [if_pos he]
    unfold boE
    rw [t, t, if_pos he, if_pos he]
    exact ⟨rfl, fun h => absurd h he⟩
theorem alike_id {l m : List UInt8} {e : Int} (h : e = 0 → m = l) : idC m e = idC l e := by
  by_cases he : e = 0
  · rw [h he]
  · have t : ∀ x, tkE x e 32 = e := fun x => by unfold tkE; rw [if_pos he]
    unfold idC idL
    rw [t, t, if_neg he, if_neg he]
theorem alike_end {l m : List UInt8} {e : Int} (h : e = 0 → m = l) : endE m e = endE l e := by
  by_cases he : e = 0
  · rw [h he]
  · rw [endE_bad he, endE_bad he]
theorem fxL_len (l : List UInt8) (e k : Int) : (fxL l e k).length ≤ l.length := by unfold fxL; split <;> simp
theorem byL_len (l : List UInt8) (e k : Int) : (byL l e k).length ≤ l.length := by
  have h := uiL_length l e
  unfold byL
  split
  · exact h
  · split
    · exact h
    · exact Nat.le_trans (fxL_len _ _ _) h

structure Acts (w : World) (A : Option Addr) (n c : Nat) (l : List (Int × Int)) : Prop where
  len : l.length = n
  cap : n ≤ c
  max : c ≤ maxLen
  row : 0 < n → ∃ b off, A = some ⟨b, off, none⟩ ∧ b < w.heap.size ∧ ∀ i p, l[i]? = some p →
    w.cell? ⟨b, off + i * 2, none⟩ = some (.int .i64 p.1) ∧ w.cell? ⟨b, off + i * 2 + 1, none⟩ = some (.int .i64 p.2)
  wf : ∀ p ∈ l, (Lit.int .i64 p.2).wf = true

/-- The reader and the one by value, side by side. -/
structure Pair (w w2 wr : World) (q g : Nat) (l m : List UInt8) (e : Int) : Prop where
  below : Below w.heap.size w wr
  rd : Rd wr (fun b => w.heap.size ≤ b ∧ b < w2.heap.size) q l e
  var : wr.heap[g]? = some (.cells #[.string (strB m), .int .i64 e] 29 (0, 0))
  alike : e = 0 → m = l
  len : l.length ≤ 600

section
variable {w w2 wr wr' wa X : World} {q g : Nat} {l m l' m' : List UInt8} {e e' : Int}
theorem Pair.lt (h : Pair w w2 wr q g l m e) : g < wr.heap.size := (Array.getElem?_eq_some_iff.1 h.var).1
theorem Pair.later (h : Pair w w2 wr q g l m e) (hb : Below wr.heap.size wr wr') : Pair w w2 wr' q g l m e :=
  ⟨h.below.trans (hb.mono h.below.size), h.rd.below hb, (hb.block g h.lt).trans h.var, h.alike, h.len⟩
/-- Behind a call of the reader. -/
theorem Pair.read (h : Pair w w2 wr q g l m e) (hg2 : w2.heap.size ≤ g) (hg : wr.grownBy wa (some q)) : Below w.heap.size w wa ∧ wa.heap[g]? = some (.cells #[.string (strB m), .int .i64 e] 29 (0, 0)) := by
  have hq := h.rd.1
  exact ⟨h.below.trans (below_gr hg hq.1 h.below.size), (hg.block g h.lt (by intro e; injection e; have := hq.2; omega)).trans h.var⟩
theorem var_facts {x y : Value} {t : TypeId} (h : X.heap[g]? = some (.cells #[x, y] t (0, 0))) : X.cell? ⟨g, 0, none⟩ = some x ∧ X.cell? ⟨g, 1, none⟩ = some y ∧ X.frozen? ⟨g, 0, none⟩ = false ∧ X.frozen? ⟨g, 1, none⟩ = false := by
  refine ⟨?_, ?_, ?_, ?_⟩
  · rw [cell_of_cells h]; rfl
  · rw [cell_of_cells h]; rfl
  · simp [World.frozen?, h]
  · simp [World.frozen?, h]
theorem pair_put {x y : Value} (hb : Below w.heap.size w X) (hr : Rd X (fun b => w.heap.size ≤ b ∧ b < w2.heap.size) q l' e') (hv : X.heap[g]? = some (.cells #[x, y] 29 (0, 0))) (hg : w.heap.size ≤ g) (hg2 : w2.heap.size ≤ g)
    (ha : e' = 0 → m' = l') (hl : l'.length ≤ 600) : Pair w w2 ((X.setCell ⟨g, 0, none⟩ (.string (strB m'))).setCell ⟨g, 1, none⟩ (.int .i64 e')) q g l' m' e' :=
  ⟨(hb.setCell (p := ⟨g, 0, none⟩) hg _).setCell (p := ⟨g, 1, none⟩) hg _,
   hr.turned (T := fun b => b = g) (((Turned.refl (fun b => b = g) X).set rfl 0 _).set rfl 1 _) (fun b _ hs e => by have e : b = g := e; have := hs.2; omega),
   by simpa using set_of_cells (set_of_cells hv 0 (.string (strB m'))) 1 (.int .i64 e'), ha, hl⟩
end
end Go.Proofs.Ytbdondgonghooaa
