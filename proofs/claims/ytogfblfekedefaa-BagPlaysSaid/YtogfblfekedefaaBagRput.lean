/-
  The reference's Put of a message.
-/
import Derived.Test.YtogfblfekedefaaBagPure
namespace Go.Proofs.Ytogfblfekedefaa
open Go.RowKit

/-- What a function that hands rows of messages on answers. -/
def BpPost (w : World) (S : Nat → Prop) (r : List Bm × Int) (e : Ending) (w' : World) : Prop :=
  ∃ A n c, e = .returned (.tuple #[.slice A n c, .int .i64 r.2]) ∧ Ros 4 bmV w' (fun k => S k ∨ w.heap.size ≤ k) A n c r.1 ∧ Below w.heap.size w w'
def bmA (m : Bm) : Array Value := #[.int .i64 m.f, .int .i64 m.t, .string (st m.b), .int .i64 (m.a : Int)]
section
variable {w : World} {S : Nat → Prop} {A : Option Addr} {n c N : Nat} {l : List Bm} {m : Bm}
theorem bp_same (h : Ros 4 bmV w S A n c l) {w' : World} (hb : Below w.heap.size w w') (E : Int) : BpPost w S (l, E) (.returned (.tuple #[.slice A n c, .int .i64 E])) w' :=
  ⟨A, n, c, rfl, (h.below hb).mono fun _ _ h => .inl h, hb⟩
set_option maxHeartbeats 8000000 in
set_option maxRecDepth 100000 in
theorem rbput_no (h : Ros 4 bmV w S A n c l) (hm : ¬ bmay N m) :
    Calls Try.prog 10 #[.int .i64 (N : Int), .slice A n c, .agg #[.int .i64 m.f, .int .i64 m.t, .string (st m.b), .int .i64 (m.a : Int)]] w fun e w' => BpPost w S (l, 1) e w' := by
  have hb : Below w.heap.size w (w.alloc (.cells #[.int .i64 m.f, .int .i64 m.t, .string (st m.b), .int .i64 (m.a : Int)] 38)) := (Below.refl _ _).alloc (Nat.le_refl _) _
  have HP := Lib.hid (bp_same h hb 1)
  have hq := heap_alloc_new w (.cells #[.int .i64 m.f, .int .i64 m.t, .string (st m.b), .int .i64 (m.a : Int)] 38)
  have h0 := cell_of_cells hq 0
  have h1 := cell_of_cells hq 1
  unfold bmay at hm
  clear h hb hq
  by_cases c1 : m.f < 0
  · clear hm
    go_enter Try.func10, Try.ntmps10
    go_wp2_with fail
    refine bodyPost_ret (results_tmp2 rfl _ _ _) rfl ?_
    exact HP.out
  by_cases c2 : (N : Int) ≤ m.f
  · clear hm
    go_enter Try.func10, Try.ntmps10
    go_wp2_with fail
    refine bodyPost_ret (results_tmp2 rfl _ _ _) rfl ?_
    exact HP.out
  by_cases c3 : m.t < 0
  · clear hm
    go_enter Try.func10, Try.ntmps10
    go_wp2_with fail
    refine bodyPost_ret (results_tmp2 rfl _ _ _) rfl ?_
    exact HP.out
  have c4 : (N : Int) ≤ m.t := by omega
  clear hm
  go_enter Try.func10, Try.ntmps10
  go_wp2_with fail
  refine bodyPost_ret (results_tmp2 rfl _ _ _) rfl ?_
  exact HP.out
set_option maxHeartbeats 8000000 in
set_option maxRecDepth 100000 in
theorem rbput_any (h : Ros 4 bmV w S A n c l) (hb : m.b.length ≤ 1000000) (hn : n ≤ 300) :
    Calls Try.prog 10 #[.int .i64 (N : Int), .slice A n c, .agg #[.int .i64 m.f, .int .i64 m.t, .string (st m.b), .int .i64 (m.a : Int)]] w fun e w' => BpPost w S (putB N l m) e w' := by
  by_cases hm : bmay N m
  · have hlen := h.len
    have hbz : ¬ (2097152 : Int) < (m.b.length : Int) := by omega
    have hss := st_size m.b
    have hb1 : Below w.heap.size w (w.alloc (.cells #[.int .i64 m.f, .int .i64 m.t, .string (st m.b), .int .i64 (m.a : Int)] 38)) := (Below.refl _ _).alloc (Nat.le_refl _) _
    have hq := heap_alloc_new w (.cells #[.int .i64 m.f, .int .i64 m.t, .string (st m.b), .int .i64 (m.a : Int)] 38)
    have h0 := cell_of_cells hq 0
    have h1 := cell_of_cells hq 1
    have h2 := cell_of_cells hq 2
    have d1 : ¬ m.f < 0 := by have := hm.1; omega
    have d2 : ¬ (N : Int) ≤ m.f := by have := hm.2.1; omega
    have d3 : ¬ m.t < 0 := by have := hm.2.2.1; omega
    have d4 : ¬ (N : Int) ≤ m.t := by have := hm.2.2.2; omega
    by_cases hf : 256 ≤ n
    · have e : putB N l m = (l, 31) := by unfold putB; rw [if_neg (fun h => h hm), if_neg (by omega), if_pos (by omega)]
      rw [e]
      have hf' : (256 : Int) ≤ (n : Int) := by omega
      have HP := Lib.hid (bp_same h hb1 31)
      clear h hq hm hf hb1 e
      go_enter Try.func10, Try.ntmps10
      go_wp2_with fail
      refine bodyPost_ret (results_tmp2 rfl _ _ _) rfl ?_
      exact HP.out
    · have e : putB N l m = (l ++ [{ m with a := 0 }], 0) := by unfold putB; rw [if_neg (fun h => h hm), if_neg (by omega), if_neg (by omega)]
      rw [e]
      have hf' : ¬ (256 : Int) ≤ (n : Int) := by omega
      have h3 := cell_of_cells hq 3
      have hf3 := free_of_cells hq 3
      obtain ⟨w1, hw1⟩ : ∃ w1, w1 = w.alloc (.cells #[.int .i64 m.f, .int .i64 m.t, .string (st m.b), .int .i64 0] 38) := ⟨_, rfl⟩
      have hq1 : w1.heap[w.heap.size]? = some (.cells #[.int .i64 m.f, .int .i64 m.t, .string (st m.b), .int .i64 0] 38 (0, 0)) := by rw [hw1]; exact heap_alloc_new w _
      have hb1 : Below w.heap.size w w1 := by rw [hw1]; exact (Below.refl _ _).alloc (Nat.le_refl _) _
      obtain ⟨A2, c2, w2, r2, o2, b2⟩ := bm_app (w := w1) (k := []) (v := .slice none 0 0) (B := w1.heap.size) (A := A) (c := c) (World.ownsRow_nil _ _ _ _) (Nat.le_refl _) h.len (h.hat bmV_len hb1) (by simp; omega) 28
      rw [List.nil_append] at r2 o2
      obtain ⟨A3, c3, w3, r3, o3, b3⟩ := bm_app (w := w2.alloc (.cells #[.int .i64 m.f, .int .i64 m.t, .string (st m.b), .int .i64 0] 38)) (l := [{ m with a := 0 }]) (c := 1) (m := 1) (row_below o2 ((Below.refl _ _).alloc (Nat.le_refl _) _)) (by have := b2.size; simp; omega) rfl (bm_hat w2 { m with a := 0 }) (by omega) 28
      have hq2 := (b2.block _ (lt_of_cells hq1)).trans hq1
      obtain ⟨A4, c4, e4, ho4⟩ := own_ros bmV_len o3
      injection e4 with e5 e6 e7
      subst e5 e7
      have hb3 := hb1.trans ((b2.trans ((Below.refl w1.heap.size w2).alloc b2.size _ |>.trans b3)).mono hb1.size)
      have HF := Lib.hid (And.intro (ho4.mono (T := fun k => S k ∨ w.heap.size ≤ k) fun k _ h => .inr (Nat.le_trans hb1.size h)) hb3)
      have HQ := Lib.hid hq2
      have HLT := Lib.hid (bm_lit w2 m.f m.t 0 (st m.b))
      obtain ⟨n3, hn3⟩ : ∃ n3, n3 = (l ++ [{ m with a := 0 }]).length := ⟨_, rfl⟩
      rw [← hn3] at r3 HF
      rw [hlen] at r2 r3
      have HR2 := Lib.hid r2
      have HR3 := Lib.hid r3
      clear hn3 hlen
      clear r2 r3 hq hm hf e h hq1 hb1 o2 b2 o3 b3 ho4 hb3 hq2 e6
      go_enter Try.func10, Try.ntmps10
      go_upto_region 9 with fail
      rw [← hw1]
      clear h0 h1 h2 h3 hf3 hw1
      go_upto_region 10 with (at_builtin; refine wpList_app (by rfl) _ _ 28 (by rfl) (by rfl) (by rfl) HR2.out ?_)
      go_wp2_with (first
        | (refine wpList_load_row (by rfl) 38 (.tmp 5) (by rfl) w.heap.size (by rfl) 38 #[.int .i64 m.f, .int .i64 m.t, .string (st m.b), .int .i64 0] (0, 0) _ HQ.out Try.underlying38 (by rfl) bm_info ?_)
        | (refine wpList_ros1 28 (.tmp 44) HLT.out ?_)
        | (at_builtin; refine wpList_app (by rfl) _ _ 28 (by rfl) (by rfl) (by rfl) HR3.out ?_))
      refine bodyPost_ret (results_tmp2 rfl _ _ _) rfl ?_
      exact ⟨A3, n3, c3, rfl, HF.out.1, HF.out.2⟩
  · have e : putB N l m = (l, 1) := by unfold putB; rw [if_pos hm]
    rw [e]
    exact rbput_no h hm
end
end Go.Proofs.Ytogfblfekedefaa
