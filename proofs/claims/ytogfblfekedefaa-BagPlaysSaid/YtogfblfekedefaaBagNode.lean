/-
  The code's bag: New, isNode, Len, has.
-/
import Derived.Test.YtogfblfekedefaaBagMem
namespace Go.Proofs.Ytogfblfekedefaa
open Go.RowKit

set_option maxHeartbeats 4000000 in
set_option maxRecDepth 100000 in
theorem bgnew_ok (w : World) (N : Nat) (h1 : 1 ≤ N) (h2 : N ≤ 64) :
    Calls Try.prog 8 #[.int .i64 (N : Int)] w fun e w' => ∃ p, e = .returned (.tuple #[.pointer (some ⟨p, 0, none⟩), .int .i64 0]) ∧ Bgs w' (w.heap.size ≤ ·) p N [] ∧ Below w.heap.size w w' := by
  have h1' : ¬ (N : Int) < 1 := by omega
  have h2' : ¬ (64 : Int) < (N : Int) := by omega
  have HB := Lib.hid (And.intro h1 h2)
  clear h1 h2
  go_enter Try.func8, Try.ntmps8
  go_wp2_with fail
  go_ret2
  exact ⟨_, rfl, ⟨.slice none 0 0, [], rfl, Nat.le_refl _, heap_alloc_new w _, Ams.nil _ _ _, by have := HB.out; simp; omega⟩, (Below.refl _ _).alloc (Nat.le_refl _) _⟩
set_option maxHeartbeats 4000000 in
set_option maxRecDepth 100000 in
theorem bgnew_no (w : World) (n : Int) (h : n < 1 ∨ 64 < n) :
    Calls Try.prog 8 #[.int .i64 n] w fun e w' => e = .returned (.tuple #[.pointer none, .int .i64 1]) ∧ Below w.heap.size w w' := by
  by_cases h1 : n < 1
  · clear h
    go_enter Try.func8, Try.ntmps8
    go_wp2_with fail
    go_ret2
    exact ⟨rfl, Below.refl _ _⟩
  · have h2 : 64 < n := by omega
    clear h
    go_enter Try.func8, Try.ntmps8
    go_wp2_with fail
    go_ret2
    exact ⟨rfl, Below.refl _ _⟩
/-- Is there such a node? -/
def isN (N : Nat) (x : Int) : Bool := decide (0 ≤ x) && decide (x < (N : Int))
set_option maxHeartbeats 4000000 in
set_option maxRecDepth 100000 in
theorem bgnode {w : World} {p N : Nat} (hc : w.cell? ⟨p, 0, none⟩ = some (.int .i64 (N : Int))) (x : Int) :
    Calls Try.prog 18 #[.pointer (some ⟨p, 0, none⟩), .int .i64 x] w fun e w' => e = .returned (.bool (isN N x)) ∧ w = w' := by
  unfold isN
  by_cases h0 : 0 ≤ x
  · by_cases h1 : x < (N : Int)
    · rw [decide_eq_true h0, decide_eq_true h1]
      go_enter Try.func18, Try.ntmps18
      go_wp2_with fail
      go_ret
      exact ⟨rfl, rfl⟩
    · rw [decide_eq_true h0, decide_eq_false h1]
      go_enter Try.func18, Try.ntmps18
      go_wp2_with fail
      go_ret
      exact ⟨rfl, rfl⟩
  · rw [decide_eq_false h0]
    have h0' : decide (0 ≤ x) = false := decide_eq_false h0
    clear hc h0
    go_enter Try.func18, Try.ntmps18
    go_wp2_with fail
    go_ret
    exact ⟨rfl, rfl⟩
set_option maxHeartbeats 4000000 in
set_option maxRecDepth 100000 in
theorem bglen_c {w : World} {p n c : Nat} {A : Option Addr} (hc : w.cell? ⟨p, 1, none⟩ = some (.slice A n c)) : Calls Try.prog 16 #[.pointer (some ⟨p, 0, none⟩)] w fun e w' => e = .returned (.int .i64 (n : Int)) ∧ w = w' := by
  go_enter Try.func16, Try.ntmps16
  go_wp2_with fail
  go_ret
  exact ⟨rfl, rfl⟩
theorem Bgs.lenc {w : World} {S : Nat → Prop} {p N : Nat} {l : List Bm} (h : Bgs w S p N l) : ∃ A c, w.cell? ⟨p, 1, none⟩ = some (.slice A l.length c) := by
  obtain ⟨v, xs, h1, _, h3, h4, _⟩ := h
  obtain ⟨A, c, rfl, _⟩ := h4.slice
  exact ⟨A, c, by rw [h1, List.length_map]; exact cell_of_cells h3 1⟩
theorem bglen_any {w : World} {S : Nat → Prop} {p N : Nat} {l : List Bm} (h : Bgs w S p N l) : Calls Try.prog 16 #[.pointer (some ⟨p, 0, none⟩)] w fun e w' => e = .returned (.int .i64 (l.length : Int)) ∧ Below w.heap.size w w' := by
  obtain ⟨A, c, hc⟩ := h.lenc
  refine (bglen_c hc).mono ?_
  rintro _ _ ⟨rfl, rfl⟩
  exact ⟨rfl, Below.refl _ _⟩
set_option maxHeartbeats 4000000 in
set_option maxRecDepth 100000 in
theorem bglen_nil0 (w : World) : Calls Try.prog 16 #[.pointer none] w fun e w' => e = .returned (.int .i64 0) ∧ w = w' := by
  go_enter Try.func16, Try.ntmps16
  go_wp2_with fail
  go_ret
  exact ⟨rfl, rfl⟩
/-- Is there an i-th one? -/
def hasB (n : Nat) (i : Int) : Bool := decide (0 ≤ i) && decide (i < (n : Int))
set_option maxHeartbeats 4000000 in
set_option maxRecDepth 100000 in
theorem bghas_c {w : World} {b : Option Addr} {n : Nat} (hl : Calls Try.prog 16 #[.pointer b] w fun e w' => e = .returned (.int .i64 (n : Int)) ∧ w = w') (i : Int) :
    Calls Try.prog 20 #[.pointer b, .int .i64 i] w fun e w' => e = .returned (.bool (hasB n i)) ∧ w = w' := by
  unfold hasB
  by_cases h0 : 0 ≤ i
  · have h0' : decide (0 ≤ i) = true := decide_eq_true h0
    by_cases h1 : i < (n : Int)
    · rw [decide_eq_true h0, decide_eq_true h1]
      go_enter Try.func20, Try.ntmps20
      go_wp2_with (go_at_call 16; refine hl.mono ?_; clear hl; rintro _ _ ⟨rfl, rfl⟩)
      go_ret
      exact ⟨rfl, rfl⟩
    · have h1' : decide (i < (n : Int)) = false := decide_eq_false h1
      rw [decide_eq_true h0, decide_eq_false h1]
      clear h1
      go_enter Try.func20, Try.ntmps20
      go_wp2_with (go_at_call 16; refine hl.mono ?_; clear hl; rintro _ _ ⟨rfl, rfl⟩)
      go_ret
      exact ⟨rfl, rfl⟩
  · rw [decide_eq_false h0]
    have h0' : decide (0 ≤ i) = false := decide_eq_false h0
    clear hl h0
    go_enter Try.func20, Try.ntmps20
    go_wp2_with fail
    go_ret
    exact ⟨rfl, rfl⟩
end Go.Proofs.Ytogfblfekedefaa
