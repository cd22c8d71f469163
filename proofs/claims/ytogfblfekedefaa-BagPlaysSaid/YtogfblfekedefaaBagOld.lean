/-
  The code's bag: whether a message is too old; the first such one.
-/
import Derived.Test.YtogfblfekedefaaBagFor
namespace Go.Proofs.Ytogfblfekedefaa
open Go.RowKit

/-- Is it too old? -/
def oldX (K : Nat) (x : Am) : Bool := decide (K < x.m.a)
/-- The function value that asks. -/
def oldF (q : Nat) : Value := .func (.func 23) #[] #[.pointer (some ⟨q, 0, none⟩)]
def amV (x : Am) : Array Value := agV x.m.f x.m.t x.A x.n x.c x.m.a
set_option maxHeartbeats 4000000 in
set_option maxRecDepth 100000 in
theorem old_any {w : World} {q K : Nat} (hq : w.cell? ⟨q, 0, none⟩ = some (.int .i64 (K : Int))) (hlt : q < w.heap.size) (x : Am) :
    Calls Try.prog 23 #[.agg (amV x), .pointer (some ⟨q, 0, none⟩)] w fun e w' => e = .returned (.bool (oldX K x)) ∧ Below w.heap.size w w' := by
  have hb1 : Below w.heap.size w (w.alloc (.cells (amV x) 60)) := (Below.refl _ _).alloc (Nat.le_refl _) _
  have hc1 : (w.alloc (.cells (amV x) 60)).cell? ⟨q, 0, none⟩ = some (.int .i64 (K : Int)) := (hb1.cell (p := ⟨q, 0, none⟩) hlt).trans hq
  have hc3 : (w.alloc (.cells (amV x) 60)).cell? ⟨w.heap.size, 3, none⟩ = some (.int .i64 (x.m.a : Int)) := cell_of_cells (heap_alloc_new w _) 3
  obtain ⟨XV, hXV⟩ : ∃ XV, XV = amV x := ⟨_, rfl⟩
  rw [← hXV] at hb1 hc1 hc3 ⊢
  have HB := Lib.hid hb1
  clear hXV hq hlt hb1
  unfold oldX
  generalize x.m.a = a at *
  go_enter Try.func23, Try.ntmps23
  go_wp2_with fail
  go_ret
  exact ⟨rfl, HB.out⟩
theorem take_snocX {α : Type} {l : List α} {j : Nat} {x : α} (h : l[j]? = some x) : l.take (j + 1) = l.take j ++ [x] := by rw [List.take_add_one, h]; rfl
def RIx (w : World) (xs : List Am) (K : Nat) (i : Value) (wr : World) : Prop := ∃ j : Nat, j ≤ xs.length ∧ i = .int .i64 (j : Int) ∧ (xs.take j).any (oldX K) = false ∧ Below w.heap.size w wr
/-- The first that is too old. -/
def IxOld (w : World) (xs : List Am) (K : Nat) (e : Ending) (w' : World) : Prop :=
  (∃ (i : Nat) (x : Am), e = .returned (.int .i64 (i : Int)) ∧ xs[i]? = some x ∧ oldX K x = true ∧ (xs.take i).any (oldX K) = false ∧ Below w.heap.size w w') ∨
  (e = .returned (.int .i64 (-1)) ∧ xs.any (oldX K) = false ∧ Below w.heap.size w w')
set_option maxHeartbeats 8000000 in
set_option maxRecDepth 100000 in
theorem ixold_any {w : World} {S : Nat → Prop} {p : Nat} {v : Value} {xs : List Am} (h : Ams w S p v xs) (hf : xs.length ≤ 1000000) {q K : Nat} (hq : w.cell? ⟨q, 0, none⟩ = some (.int .i64 (K : Int))) (hlt : q < w.heap.size) :
    Calls Try.prog 25 #[v, oldF q] w (IxOld w xs K) := by
  obtain ⟨AV, c0, rfl, _, _⟩ := h.slice
  have HH := Lib.hid (And.intro h (And.intro hf (And.intro hq hlt)))
  obtain ⟨L, hL⟩ : ∃ L, L = xs.length := ⟨_, rfl⟩
  rw [← hL]
  have HL := Lib.hid hL
  clear h hf hq hlt hL
  unfold oldF
  go_enter Try.func25, Try.ntmps25
  go_upto_region 2 with fail
  go_loopw [5, 8] (fun _ i wr => RIx w xs K i wr) (fun _ i _ => L - (intOf i).toNat)
  case atStart => exact ⟨0, Nat.zero_le _, rfl, rfl, Below.refl _ _⟩
  case round =>
    obtain ⟨j, hj, rfl, hany, hb⟩ := hrel
    by_cases hlt : j < L
    · have hlt' : (j : Int) < (L : Int) := by omega
      have hadd := IntWalk.i64_in ((j : Int) + 1) (by have := HH.out.2.1; have := HL.out; omega)
      obtain ⟨x, hx⟩ : ∃ x, xs[j]? = some x := ⟨_, List.getElem?_eq_getElem (by rw [← HL.out]; exact hlt)⟩
      obtain ⟨g, c1, hv, _, hgl, _, _, _, hcl⟩ := HH.out.1.at_ hx
      injection hv with hA _ hc
      subst hA hc
      have hcq : wr.cell? ⟨q, 0, none⟩ = _ := (hb.cell (p := ⟨q, 0, none⟩) HH.out.2.2.2).trans HH.out.2.2.1
      have hf := old_any hcq (Nat.lt_of_lt_of_le HH.out.2.2.2 hb.size) x
      obtain ⟨XV, hXV⟩ : ∃ XV, XV = amV x := ⟨_, rfl⟩
      rw [← hXV] at hf
      have HC := Lib.hid (show (∀ (i : Nat) (u : Value), XV[i]? = some u → wr.cell? ((⟨g, j * 4, none⟩ : Addr).add i) = some u) ∧ (Try.prog.info? 60).map (·.size) = some XV.size from ⟨fun i u hu => by
        rw [add_plain, hb.cell (p := ⟨g, _, none⟩) hgl]
        refine hcl i u ?_
        rw [hXV] at hu
        simpa [amV, agV, amC] using hu, by rw [hXV]; exact ag_info _ _ _ _ _ _⟩)
      have hnx : (xs.take (j + 1)).any (oldX K) = oldX K x := by rw [take_snocX hx, List.any_append, hany]; simp
      obtain ⟨Y, hY⟩ : ∃ Y, Y = oldX K x := ⟨_, rfl⟩
      rw [← hY] at hf
      have H := Lib.hid (And.intro hb (And.intro hlt (And.intro hnx (And.intro hx (And.intro hany hY)))))
      clear hb hlt hnx hx hany hj hcl hgl hcq hXV hY
      cases Y with
      | false =>
        go_wp2_with (first
          | (refine wpList_load_at (by rfl) 60 (.tmp 14) (by rfl) ⟨g, j * 4, none⟩ (by rfl) XV _ HC.out.1 Try.underlying60 (by rfl) HC.out.2 ?_)
          | (go_at_call 23; refine hf.mono ?_; clear hf; rintro _ w1 ⟨rfl, hb1⟩; have H1 := Lib.hid (H.out.1.trans (hb1.mono H.out.1.size)); clear hb1))
        go_roundw
        case rel => exact ⟨j + 1, by have h1 := H.out.2.1; have h2 := HL.out; omega, by simp, by rw [H.out.2.2.1, ← H.out.2.2.2.2.2], H1.out⟩
        case measure => have := H.out.2.1; simp only [intOf]; omega
      | true =>
        go_wp2_with (first
          | (refine wpList_load_at (by rfl) 60 (.tmp 14) (by rfl) ⟨g, j * 4, none⟩ (by rfl) XV _ HC.out.1 Try.underlying60 (by rfl) HC.out.2 ?_)
          | (go_at_call 23; refine hf.mono ?_; clear hf; rintro _ w1 ⟨rfl, hb1⟩; have H1 := Lib.hid (H.out.1.trans (hb1.mono H.out.1.size)); clear hb1))
        go_ret
        exact .inl ⟨j, x, rfl, H.out.2.2.2.1, H.out.2.2.2.2.2.symm, H.out.2.2.2.2.1, H1.out⟩
    · have hlt' : ¬ (j : Int) < (L : Int) := by omega
      have H : Hid (Below w.heap.size w wr ∧ xs.any (oldX K) = false) := Lib.hid ⟨hb, by rw [List.take_of_length_le (by have := HL.out; omega)] at hany; exact hany⟩
      clear hb hany hj hlt
      go_wp2_with fail
      go_ret
      exact .inr ⟨rfl, H.out.2, H.out.1⟩
end Go.Proofs.Ytogfblfekedefaa
