/-
  The code's bag: Put and Copy.
-/
import Derived.Test.YtogfblfekedefaaBagAdd
namespace Go.Proofs.Ytogfblfekedefaa
open Go.RowKit

theorem isN_may {N : Nat} {f t : Int} {b : List UInt8} {a : Nat} : bmay N ⟨f, t, b, a⟩ ↔ isN N f = true ∧ isN N t = true := by
  unfold bmay isN
  simp only [Bool.and_eq_true, decide_eq_true_eq]
  constructor
  · rintro ⟨h1, h2, h3, h4⟩
    exact ⟨⟨h1, h2⟩, h3, h4⟩
  · rintro ⟨⟨h1, h2⟩, h3, h4⟩
    exact ⟨h1, h2, h3, h4⟩
theorem Bgs.nodes {w : World} {S : Nat → Prop} {p N : Nat} {l : List Bm} (h : Bgs w S p N l) : w.cell? ⟨p, 0, none⟩ = some (.int .i64 (N : Int)) := by
  obtain ⟨_, _, _, _, h, _⟩ := h
  exact cell_of_cells h 0
/-- What add tells, and leaves. -/
def addM (l : List Bm) (m : Bm) : List Bm × Int := if 256 ≤ l.length then (l, 31) else (l ++ [{ m with a := 0 }], 0)
theorem bgadd_any {w : World} {S U : Nat → Prop} {p N : Nat} {l : List Bm} (h : Bgs w S p N l) {A : Option Addr} {n c : Nat} {b : List UInt8} (hb : Byt w U A n c b) (f t : Int) (a : Nat) (hm : bmay N ⟨f, t, b, a⟩) (hn : n ≤ 2097152) :
    Calls Try.prog 19 #[.pointer (some ⟨p, 0, none⟩), .agg (mgV f t A n c)] w fun e w' => e = .returned (.int .i64 (addM l ⟨f, t, b, a⟩).2) ∧ Bgs w' (fun k => S k ∨ w.heap.size ≤ k) p N (addM l ⟨f, t, b, a⟩).1 ∧ Turned S w w' := by
  unfold addM
  by_cases hl : 256 ≤ l.length
  · rw [if_pos hl]
    refine (bgadd_full h hl f t A n c).mono ?_
    rintro _ w' ⟨rfl, hb'⟩
    exact ⟨rfl, (h.mono fun _ _ h => .inl h).below hb', Turned.of_below hb'⟩
  · rw [if_neg hl]
    exact bgadd_ok h (by omega) hb f t hm hn
theorem putB_ok {N : Nat} {l : List Bm} {m : Bm} (h : bmay N m) (hb : m.b.length ≤ 2097152) : putB N l m = addM l m := by
  unfold putB addM
  rw [if_neg (fun h1 => h1 h), if_neg (by omega)]
theorem putB_no {N : Nat} {l : List Bm} {m : Bm} (h : ¬ bmay N m) : putB N l m = (l, 1) := by
  unfold putB
  rw [if_pos h]
set_option maxHeartbeats 8000000 in
set_option maxRecDepth 100000 in
theorem bgput_any {w : World} {S U : Nat → Prop} {p N : Nat} {l : List Bm} (h : Bgs w S p N l) {A : Option Addr} {n c : Nat} {b : List UInt8} (hb : Byt w U A n c b) (_ : ∀ k, k < w.heap.size → U k → ¬ S k) (f t : Int) (hn : n ≤ 1000000) :
    Calls Try.prog 9 #[.pointer (some ⟨p, 0, none⟩), .agg #[.int .i64 f, .int .i64 t, .slice A n c]] w fun e w' => e = .returned (.int .i64 (putB N l ⟨f, t, b, 0⟩).2) ∧ Bgs w' (fun k => S k ∨ w.heap.size ≤ k) p N (putB N l ⟨f, t, b, 0⟩).1 ∧ Turned S w w' := by
  rw [show (#[.int .i64 f, .int .i64 t, .slice A n c] : Array Value) = mgV f t A n c from rfl]
  have hb1 : Below w.heap.size w (w.alloc (.cells (mgV f t A n c) 31)) := (Below.refl _ _).alloc (Nat.le_refl _) _
  have h1 := (h.mono (T := fun k => S k ∧ k < w.heap.size) fun k hk h => ⟨h, hk⟩).below hb1
  have hy1 := hb.below hb1
  have hq1 := heap_alloc_new w (.cells (mgV f t A n c) 31)
  have hc0 : (w.alloc (.cells (mgV f t A n c) 31)).cell? ⟨w.heap.size, 0, none⟩ = some (.int .i64 f) := cell_of_cells hq1 0
  have hc1 : (w.alloc (.cells (mgV f t A n c) 31)).cell? ⟨w.heap.size, 1, none⟩ = some (.int .i64 t) := cell_of_cells hq1 1
  have hc2 : (w.alloc (.cells (mgV f t A n c) 31)).cell? ⟨w.heap.size, 2, none⟩ = some (.slice A n c) := cell_of_cells hq1 2
  have hN1 := bgnode h1.nodes f
  have hN2 := bgnode h1.nodes t
  have hn' : decide ((2097152 : Int) < (n : Int)) = false := decide_eq_false (by omega)
  obtain ⟨MV, hMV⟩ : ∃ MV, MV = mgV f t A n c := ⟨_, rfl⟩
  have hinfo : (Try.prog.info? 31).map (·.size) = some MV.size := by rw [hMV]; exact mg_info _ _ _ _ _
  have HH := Lib.hid (And.intro h1 (And.intro hy1 (And.intro hb1 (And.intro hn (And.intro hb.len (And.intro h.lt h))))))
  have hadd : bmay N ⟨f, t, b, 0⟩ → _ := fun hm => bgadd_any h1 hy1 f t 0 hm (by omega)
  rw [← hMV] at hq1 hc0 hc1 hc2 HH hN1 hN2 hadd ⊢
  have HQ := Lib.hid (And.intro hq1 (And.intro hinfo hMV))
  clear h h1 hb hb1 hy1 hq1 hn hMV hinfo
  generalize hB1 : isN N f = B1 at hN1
  generalize hB2 : isN N t = B2 at hN2
  cases B1 with
  | false =>
    rw [putB_no (by rw [isN_may, hB1]; simp)]
    clear hB1 hB2 hadd hN2
    go_enter Try.func9, Try.ntmps9
    go_upto_region 1 with fail
    generalize hw1 : w.alloc (.cells MV 31) = w1 at *
    clear hw1
    go_wp2_with (go_at_call 18; refine hN1.mono ?_; clear hN1; rintro _ _ ⟨rfl, rfl⟩)
    go_ret
    exact ⟨rfl, HH.out.1.mono fun _ _ h => .inl h.1, Turned.of_below HH.out.2.2.1⟩
  | true =>
    cases B2 with
    | false =>
      rw [putB_no (by rw [isN_may, hB2]; simp)]
      clear hB1 hB2 hadd
      go_enter Try.func9, Try.ntmps9
      go_upto_region 1 with fail
      generalize hw1 : w.alloc (.cells MV 31) = w1 at *
      clear hw1
      go_wp2_with (first
        | (go_at_call 18; refine hN1.mono ?_; clear hN1; rintro _ _ ⟨rfl, rfl⟩)
        | (go_at_call 18; refine hN2.mono ?_; clear hN2; rintro _ _ ⟨rfl, rfl⟩))
      go_ret
      exact ⟨rfl, HH.out.1.mono fun _ _ h => .inl h.1, Turned.of_below HH.out.2.2.1⟩
    | true =>
      have hm : bmay N ⟨f, t, b, 0⟩ := isN_may.2 ⟨hB1, hB2⟩
      have hadd := hadd hm
      rw [putB_ok hm (by have := HH.out.2.2.2.1; have := HH.out.2.2.2.2.1; show b.length ≤ 2097152; omega)]
      clear hB1 hB2 hm
      go_enter Try.func9, Try.ntmps9
      go_upto_region 1 with fail
      generalize hw1 : w.alloc (.cells MV 31) = w1 at *
      clear hw1
      go_upto_region 5 with (first
        | (go_at_call 18; refine hN1.mono ?_; clear hN1; rintro _ _ ⟨rfl, rfl⟩)
        | (go_at_call 18; refine hN2.mono ?_; clear hN2; rintro _ _ ⟨rfl, rfl⟩))
      clear hc0 hc1 hc2
      go_wp2_with (first
        | (refine wpList_load_row (by rfl) 31 (.tmp 3) (by rfl) w.heap.size (by rfl) _ MV (0, 0) _ HQ.out.1 Try.underlying31 (by rfl) HQ.out.2.1 ?_)
        | (go_at_call 19; refine hadd.mono ?_; clear hadd; rintro _ w2 ⟨rfl, hg2, ht2⟩; have H4 := Lib.hid (And.intro hg2 ht2); clear hg2 ht2))
      go_ret
      exact ⟨rfl, H4.out.1.mono fun k _ h => by have := HH.out.2.2.1.size; rcases h with h | h; exact .inl h.1; exact .inr (by omega), (Turned.of_below HH.out.2.2.1).trans (H4.out.2.mono fun _ _ h => h.1) fun _ _ h => h⟩
end Go.Proofs.Ytogfblfekedefaa
