/-
  The code's disk: what stands in memory, and what each of its methods does.
  A disk of a call's own, and what it makes behind it; the model's steps.
  Arrays of bytes held against each other.
-/
import Derived.Test.YtcgnaomffioldaaGreatPk06
import Derived.Test.YtcgnaomffioldaaGreatPk03
import Derived.Test.YtcgnaomffioldaaGreatPk01
import Derived.DeepKeys
/-! The code's disk: what stands in memory, and what each of its methods does. -/
namespace Go.Proofs.YtcgnaomffioldaaGreat
open Go.RowKit

/-- What stands for so many writes left: below 0 it is one with any other below 0. -/
structure Lf (lf left : Int) : Prop where
  same : lf = left ∨ (lf < 0 ∧ left < 0)
  lo : -9223372036854775808 ≤ lf
  hi : lf ≤ 9223372036854775807
/-- THE BLOCK g HOLDS A DISK THAT IS d; it and its row lie in blocks of S. -/
def Dk (w : World) (S : Nat → Prop) (g : Nat) (d : DM) : Prop :=
  ∃ q cap lf, S g ∧ S q ∧ g ≠ q ∧ w.heap[g]? = some (.cells #[.slice (some ⟨q, 0, none⟩) d.l.length cap, .bool d.down, .int .i64 lf, .int .i64 d.torn] 73 (0, 0)) ∧ w.heap[q]? = some (.cells (u8s d.l.flatten).toArray 104 (0, 0)) ∧ d.Ok ∧ d.l.length ≤ cap ∧ d.l.length ≤ 65536 ∧ Lf lf d.left
section
variable {w w' : World} {S T : Nat → Prop} {g : Nat} {d : DM}
theorem Dk.ok (h : Dk w S g d) : d.Ok := h.choose_spec.choose_spec.choose_spec.2.2.2.2.2.1
theorem Dk.few (h : Dk w S g d) : d.l.length ≤ 65536 := h.choose_spec.choose_spec.choose_spec.2.2.2.2.2.2.2.1
theorem Dk.turned (h : Dk w S g d) (ht : Turned T w w') (hd : ∀ b, b < w.heap.size → S b → ¬ T b) : Dk w' S g d := by
  obtain ⟨q, cap, lf, h1, h2, h3, h4, h5, h6⟩ := h
  exact ⟨q, cap, lf, h1, h2, h3, (ht.block _ (lt_of_cells h4) (hd _ (lt_of_cells h4) h1)).trans h4, (ht.block _ (lt_of_cells h5) (hd _ (lt_of_cells h5) h2)).trans h5, h6⟩
theorem Dk.below (h : Dk w S g d) (hb : Below w.heap.size w w') : Dk w' S g d := by
  obtain ⟨q, cap, lf, h1, h2, h3, h4, h5, h6⟩ := h
  exact ⟨q, cap, lf, h1, h2, h3, (hb.block _ (lt_of_cells h4)).trans h4, (hb.block _ (lt_of_cells h5)).trans h5, h6⟩
theorem Dk.mono (h : Dk w S g d) (hT : ∀ b, b < w.heap.size → S b → T b) : Dk w T g d := by
  obtain ⟨q, cap, lf, h1, h2, h3, h4, h5, h6⟩ := h
  exact ⟨q, cap, lf, hT _ (lt_of_cells h4) h1, hT _ (lt_of_cells h5) h2, h3, h4, h5, h6⟩
theorem Dk.drew (h : Dk w S g d) : Dk w.drew S g d := h

theorem Dk.cells (h : Dk w S g d) : ∃ q cap lf, S g ∧ S q ∧ g ≠ q ∧ w.heap[g]? = some (.cells #[.slice (some ⟨q, 0, none⟩) d.l.length cap, .bool d.down, .int .i64 lf, .int .i64 d.torn] 73 (0, 0)) ∧ w.heap[q]? = some (.cells (u8s d.l.flatten).toArray 104 (0, 0)) ∧ d.Ok ∧ d.l.length ≤ cap ∧ d.l.length ≤ 65536 ∧ Lf lf d.left := h
end

/-! The methods of a disk that is none. -/
theorem bread_nil (i : Int) (w : World) :
    Calls Tryz.prog 48 #[.pointer none, .int .i64 i] w fun e w' => e = .returned (.tuple #[.slice none 0 0, .int .i64 1]) ∧ w = w' := by
  have hck : Calls Tryz.prog 44 #[.pointer none, .int .i64 i] w fun e w' => e = .returned (.int .i64 1) ∧ w = w' := by
    go_enter Tryz.func44, Tryz.ntmps44
    go_wp2
    go_ret
    exact ⟨rfl, rfl⟩
  go_enter Tryz.func48, Tryz.ntmps48
  go_wp2_with (go_at_call 44; refine hck.mono ?_; clear hck; rintro _ _ ⟨rfl, rfl⟩)
  go_ret2
  exact ⟨rfl, rfl⟩
theorem bwrite_nil (i : Int) (w : World) (A : Option Addr) (n c : Nat) :
    Calls Tryz.prog 16 #[.pointer none, .int .i64 i, .slice A n c] w fun e w' => e = .returned (.int .i64 1) ∧ w = w' := by
  have hck : Calls Tryz.prog 44 #[.pointer none, .int .i64 i] w fun e w' => e = .returned (.int .i64 1) ∧ w = w' := by
    go_enter Tryz.func44, Tryz.ntmps44
    go_wp2
    go_ret
    exact ⟨rfl, rfl⟩
  go_enter Tryz.func16, Tryz.ntmps16
  go_wp2_with (go_at_call 44; refine hck.mono ?_; clear hck; rintro _ _ ⟨rfl, rfl⟩)
  go_ret
  exact ⟨rfl, rfl⟩
theorem bstop_nil (after torn : Int) (w : World) :
    Calls Tryz.prog 14 #[.pointer none, .int .i64 after, .int .i64 torn] w fun e w' => e = .returned (.tuple #[]) ∧ w = w' := by
  go_enter Tryz.func14, Tryz.ntmps14
  go_wp2
  refine bodyPost_ret (results_none rfl _ _ _) rfl ?_
  exact ⟨rfl, rfl⟩
theorem brestart_nil (w : World) :
    Calls Tryz.prog 18 #[.pointer none] w fun e w' => e = .returned (.tuple #[]) ∧ w = w' := by
  go_enter Tryz.func18, Tryz.ntmps18
  go_wp2
  refine bodyPost_ret (results_none rfl _ _ _) rfl ?_
  exact ⟨rfl, rfl⟩
theorem blen_nil (w : World) :
    Calls Tryz.prog 46 #[.pointer none] w fun e w' => e = .returned (.int .i64 0) ∧ w = w' := by
  go_enter Tryz.func46, Tryz.ntmps46
  go_wp2
  go_ret
  exact ⟨rfl, rfl⟩
theorem bdown_nil (w : World) :
    Calls Tryz.prog 47 #[.pointer none] w fun e w' => e = .returned (.bool false) ∧ w = w' := by
  go_enter Tryz.func47, Tryz.ntmps47
  go_wp2
  go_ret
  exact ⟨rfl, rfl⟩

/-! What only reads. -/
theorem blen_any {w : World} {S : Nat → Prop} {g : Nat} {d : DM} (h : Dk w S g d) :
    Calls Tryz.prog 46 #[.pointer (some ⟨g, 0, none⟩)] w fun e w' => e = .returned (.int .i64 (d.l.length : Int)) ∧ w = w' := by
  obtain ⟨q, cap, lf, _, _, _, hb, _⟩ := h.cells
  have hc : w.cell? ⟨g, 0, none⟩ = some (.slice (some ⟨q, 0, none⟩) d.l.length cap) := cell_of_cells hb 0
  clear h hb
  go_enter Tryz.func46, Tryz.ntmps46
  go_wp2
  go_ret
  exact ⟨rfl, rfl⟩
theorem bdown_any {w : World} {S : Nat → Prop} {g : Nat} {d : DM} (h : Dk w S g d) :
    Calls Tryz.prog 47 #[.pointer (some ⟨g, 0, none⟩)] w fun e w' => e = .returned (.bool d.down) ∧ w = w' := by
  obtain ⟨q, cap, lf, _, _, _, hb, _⟩ := h.cells
  have hc : w.cell? ⟨g, 1, none⟩ = some (.bool d.down) := cell_of_cells hb 1
  clear h hb
  generalize d.down = x at *
  go_enter Tryz.func47, Tryz.ntmps47
  go_wp2
  go_ret
  exact ⟨rfl, rfl⟩
theorem bcheck_any {w : World} {S : Nat → Prop} {g : Nat} {d : DM} (h : Dk w S g d) (i : Int) :
    Calls Tryz.prog 44 #[.pointer (some ⟨g, 0, none⟩), .int .i64 i] w fun e w' => e = .returned (.int .i64 (readM d i).2) ∧ w = w' := by
  obtain ⟨q, cap, lf, _, _, _, hb, _⟩ := h.cells
  have hc0 : w.cell? ⟨g, 0, none⟩ = some (.slice (some ⟨q, 0, none⟩) d.l.length cap) := cell_of_cells hb 0
  have hc : w.cell? ⟨g, 1, none⟩ = some (.bool d.down) := cell_of_cells hb 1
  clear h hb
  unfold readM
  generalize d.down = x at *
  generalize d.l.length = n at *
  cases x with
  | true =>
    go_enter Tryz.func44, Tryz.ntmps44
    go_wp2
    go_ret
    exact ⟨rfl, rfl⟩
  | false =>
    by_cases h1 : i < 0
    · rw [if_neg (by simp), if_pos (.inl h1)]
      go_enter Tryz.func44, Tryz.ntmps44
      go_wp2
      go_ret
      exact ⟨rfl, rfl⟩
    · by_cases h2 : (n : Int) ≤ i
      · rw [if_neg (by simp), if_pos (.inr h2)]
        go_enter Tryz.func44, Tryz.ntmps44
        go_wp2
        go_ret
        exact ⟨rfl, rfl⟩
      · rw [if_neg (by simp), if_neg (by omega)]
        go_enter Tryz.func44, Tryz.ntmps44
        go_wp2
        go_ret
        exact ⟨rfl, rfl⟩

/-! What turns the disk. -/
theorem Dk.put {w' : World} {S : Nat → Prop} {g q cap : Nat} {d : DM} {lf : Int} (h1 : S g) (h2 : S q) (h3 : g ≠ q) (h4 : w'.heap[g]? = some (.cells #[.slice (some ⟨q, 0, none⟩) d.l.length cap, .bool d.down, .int .i64 lf, .int .i64 d.torn] 73 (0, 0))) (h5 : w'.heap[q]? = some (.cells (u8s d.l.flatten).toArray 104 (0, 0))) (h6 : d.Ok) (h7 : d.l.length ≤ cap) (h8 : d.l.length ≤ 65536) (h9 : Lf lf d.left) : Dk w' S g d := ⟨q, cap, lf, h1, h2, h3, h4, h5, h6, h7, h8, h9⟩
theorem Lf.stop {a : Int} (ha : -9223372036854775808 ≤ a ∧ a ≤ 9223372036854775807) : Lf a (if a < 0 then -1 else a) := ⟨by split <;> omega, ha.1, ha.2⟩
theorem Lf.never : Lf (-1) (-1) := ⟨.inl rfl, by decide, by decide⟩
theorem stop_clip (t : Int) : min (max t 0) 128 = (if t < 0 then 0 else if 128 < t then 128 else t) := by omega
theorem bstop_any {w : World} {S : Nat → Prop} {g : Nat} {d : DM} (h : Dk w S g d) (after torn : Int) (ha : -9223372036854775808 ≤ after ∧ after ≤ 9223372036854775807) :
    Calls Tryz.prog 14 #[.pointer (some ⟨g, 0, none⟩), .int .i64 after, .int .i64 torn] w fun e w' => e = .returned (.tuple #[]) ∧ Dk w' S g (stopM d after torn) ∧ Turned S w w' := by
  obtain ⟨q, cap, lf, hg, hq, hne, hb, hr, ok, hcap, hfew, hlf⟩ := h.cells
  have ok2 := stopM_ok ok (after := after) (torn := torn) ha
  have hlf2 := Lf.stop ha
  obtain ⟨T, hT⟩ : ∃ T, T = min (max torn 0) 128 := ⟨_, rfl⟩
  have hc1 : w.cell? ⟨g, 2, none⟩ = some (.int .i64 lf) := cell_of_cells hb 2
  have hf1 := free_of_cells hb 2
  have hb2 := set_of_cells hb 2 (.int .i64 after)
  have hc2 : (w.setCell ⟨g, 2, none⟩ (.int .i64 after)).cell? ⟨g, 3, none⟩ = some (.int .i64 d.torn) := cell_of_cells hb2 3
  have hf2 := free_of_cells hb2 3
  have hb3 := set_of_cells hb2 3 (.int .i64 T)
  have hr3 := (Below.heap_setCell (w.setCell ⟨g, 2, none⟩ (.int .i64 after)) ⟨g, 3, none⟩ (.int .i64 T) q (Ne.symm hne)).trans ((Below.heap_setCell w ⟨g, 2, none⟩ (.int .i64 after) q (Ne.symm hne)).trans hr)
  have HR := Lib.hid (show Dk ((w.setCell ⟨g, 2, none⟩ (.int .i64 after)).setCell ⟨g, 3, none⟩ (.int .i64 T)) S g (stopM d after torn) from Dk.put hg hq hne (by rw [hb3]; unfold stopM; simp only; rw [← stop_clip, ← hT]; rfl) hr3 ok2 hcap hfew hlf2)
  have HT := Lib.hid (((Turned.refl S w).set hg 2 (.int .i64 after)).set hg 3 (.int .i64 T))
  have HL := Lib.hid hT
  clear hT
  clear h ok ok2 hb hr hcap hfew hq hne hb2 hb3 hr3 hg hlf hlf2 ha
  go_enter Tryz.func14, Tryz.ntmps14
  go_wp2_with fail
  rw [← HL.out]
  refine bodyPost_end (results_none rfl _ _ _) rfl ?_
  exact ⟨rfl, HR.out, HT.out⟩
theorem brestart_any {w : World} {S : Nat → Prop} {g : Nat} {d : DM} (h : Dk w S g d) :
    Calls Tryz.prog 18 #[.pointer (some ⟨g, 0, none⟩)] w fun e w' => e = .returned (.tuple #[]) ∧ Dk w' S g (restartM d) ∧ Turned S w w' := by
  obtain ⟨q, cap, lf, hg, hq, hne, hb, hr, ok, hcap, hfew, hlf⟩ := h.cells
  have ok2 := restartM_ok ok
  have hc1 : w.cell? ⟨g, 1, none⟩ = some (.bool d.down) := cell_of_cells hb 1
  have hf1 := free_of_cells hb 1
  have hb2 := set_of_cells hb 1 (.bool false)
  have hc3 : (w.setCell ⟨g, 1, none⟩ (.bool false)).cell? ⟨g, 2, none⟩ = some (.int .i64 lf) := cell_of_cells hb2 2
  have hf3 := free_of_cells hb2 2
  have hb3 := set_of_cells hb2 2 (.int .i64 (-1))
  have hr3 := (Below.heap_setCell (w.setCell ⟨g, 1, none⟩ (.bool false)) ⟨g, 2, none⟩ (.int .i64 (-1)) q (Ne.symm hne)).trans ((Below.heap_setCell w ⟨g, 1, none⟩ (.bool false) q (Ne.symm hne)).trans hr)
  have HR := Lib.hid (show Dk ((w.setCell ⟨g, 1, none⟩ (.bool false)).setCell ⟨g, 2, none⟩ (.int .i64 (-1))) S g (restartM d) from Dk.put hg hq hne hb3 hr3 ok2 hcap hfew Lf.never)
  have HT := Lib.hid (((Turned.refl S w).set hg 1 (.bool false)).set hg 2 (.int .i64 (-1)))
  clear h ok ok2 hb hr hcap hfew hq hne hb2 hb3 hr3 hg hlf
  go_enter Tryz.func18, Tryz.ntmps18
  go_wp2
  refine bodyPost_end (results_none rfl _ _ _) rfl ?_
  exact ⟨rfl, HR.out, HT.out⟩

/-! A disk that is new. -/
theorem newM_at' (k : Nat) (h1 : 1 ≤ k) (h2 : k ≤ 65536) : (newM k).1 = ⟨List.replicate k zero128, -1, 0, false⟩ := by
  rw [newM, if_neg (by omega)]
  rfl
theorem blk_info : (Tryz.prog.info? 104).map (fun i => (i.zero, i.size, i.bytes)) = some (some (.agg (Array.replicate 128 (.int .u8 0))), 128, 128) := by kernel_rfl
def zerosB : Array Value := Array.replicate 128 (.int .u8 0)
theorem zerosB_size : zerosB.size = 128 := by simp [zerosB]
theorem zero_blk : ∀ W, (zeroValue 104).run Tryz.prog W = .ok (.agg zerosB) W := fun W => by unfold zerosB; kernel_rfl
theorem blk_size : (Tryz.prog.info? 104).map (·.size) = some 128 := by kernel_rfl
theorem u8s_all (l : List UInt8) : (u8s l).toArray.all (·.oneCell') = true := all_oneCell_toArray (u8s_one l)
theorem flat_zero (k : Nat) : (List.replicate k zero128).flatten = List.replicate (k * 128) 0 := by
  unfold zero128
  rw [List.flatten_replicate_replicate]
theorem made_blk (k : Nat) : madeCells (Value.agg (Array.replicate 128 (.int .u8 0))).cells (k * 128) = (u8s (List.replicate k zero128).flatten).toArray := by
  rw [flat_zero]
  apply Array.ext
  · simp [size_madeCells, u8s]
  · intro i h1 h2
    simp only [madeCells, Value.cells, Array.getElem_map, Array.getElem_range, Array.size_replicate, u8s, List.getElem_toArray, List.getElem_map, List.getElem_replicate]
    rw [getElem!_pos _ _ (by simpa using Nat.mod_lt i (show 0 < 128 by omega))]
    simp
theorem make_blks (w : World) (k : Nat) (h : k ≤ 65536) : (Instr.makeSlice 71 (.int .i64 (k : Int)) (.int .i64 (k : Int))).run Tryz.prog w = .ok (.slice (some ⟨w.heap.size, 0, none⟩) k k) (w.alloc (.cells (u8s (List.replicate k zero128).flatten).toArray 104)) := by
  obtain ⟨i0, hi, hz0, hz1, hz2⟩ := info_parts blk_info
  have hmk := run_make (P := Tryz.prog) (t := 71) (e := 104) w i0 (.agg (Array.replicate 128 (.int .u8 0))) Tryz.underlying71 hi hz0 .i64 .i64 (k : Int) (k : Int) (by omega) (by omega) (by rw [hz2]; omega) (by omega)
  rw [hmk, hz1, Int.toNat_natCast, made_blk]
theorem bnew_no (k : Int) (h : k < 1 ∨ 65536 < k) (w : World) :
    Calls Tryz.prog 6 #[.int .i64 k] w fun e w' => e = .returned (.tuple #[.pointer none, .int .i64 1]) ∧ Below w.heap.size w w' := by
  by_cases h1 : k < 1
  · clear h
    go_enter Tryz.func6, Tryz.ntmps6
    go_wp2
    go_ret2
    exact ⟨rfl, Below.refl _ _⟩
  · have h2 : 65536 < k := by omega
    clear h
    go_enter Tryz.func6, Tryz.ntmps6
    go_wp2
    go_ret2
    exact ⟨rfl, Below.refl _ _⟩
theorem bnew_ok (k : Nat) (h1 : 1 ≤ k) (h2 : k ≤ 65536) (w : World) :
    Calls Tryz.prog 6 #[.int .i64 (k : Int)] w fun e w' => ∃ g, e = .returned (.tuple #[.pointer (some ⟨g, 0, none⟩), .int .i64 0]) ∧ Dk w' (w.heap.size ≤ ·) g (newM k).1 ∧ Below w.heap.size w w' := by
  have hmk := make_blks w k h2
  have ok := newM_ok (k : Int)
  rw [newM_at' k h1 h2] at *
  have e1 : ¬ (k : Int) < 1 := by omega
  have e2 : ¬ 65536 < (k : Int) := by omega
  obtain ⟨ZS, hZS⟩ : ∃ ZS, ZS = u8s (List.replicate k zero128).flatten := ⟨_, rfl⟩
  rw [← hZS] at hmk
  have HZ := Lib.hid (And.intro hZS (And.intro ok h2))
  clear hZS ok h1 h2
  go_enter Tryz.func6, Tryz.ntmps6
  go_wp2
  go_ret2
  have hw1 := heap_alloc_new w (.cells ZS.toArray 104)
  have hb1 : Below w.heap.size w (w.alloc (.cells ZS.toArray 104)) := (Below.refl _ _).alloc (Nat.le_refl _) _
  generalize hw2 : w.alloc (.cells ZS.toArray 104) = w1 at *
  have hsz : w1.heap.size = w.heap.size + 1 := by rw [← hw2]; simp
  have hn := heap_alloc_new w1 (.cells #[.slice (some ⟨w.heap.size, 0, none⟩) k k, .bool false, .int .i64 (-1), .int .i64 0] 73)
  rw [hsz] at hn
  refine ⟨w.heap.size + 1, rfl, ⟨w.heap.size, k, -1, by omega, by omega, by omega, ?_, ?_, HZ.out.2.1, by simp, by simpa using HZ.out.2.2, Lf.never⟩, hb1.alloc (by omega) _⟩
  · rw [hn]
    simp
  · rw [← HZ.out.1]
    exact (Below.heap_alloc _ _ _ (by omega)).trans hw1

/-! Reading. -/
theorem flat_len {l : List (List UInt8)} (h : ∀ x ∈ l, x.length = 128) : l.flatten.length = l.length * 128 := by
  induction l with
  | nil => rfl
  | cons a l ih =>
    have ha := h a (by simp)
    rw [List.flatten_cons, List.length_append, ih fun x hx => h x (by simp [hx]), ha, List.length_cons]
    omega
theorem flat_at {l : List (List UInt8)} (h : ∀ x ∈ l, x.length = 128) : ∀ (i : Nat), i < l.length → ∀ j, j < 128 → l.flatten[i * 128 + j]? = (l[i]?.getD [])[j]? := by
  induction l with
  | nil => intro i hi; simp at hi
  | cons a l ih =>
    intro i hi j hj
    have ha := h a (by simp)
    cases i with
    | zero => simp [List.getElem?_append_left, ha, hj]
    | succ i =>
      rw [List.flatten_cons, List.getElem?_append_right (by omega), ha, show (i + 1) * 128 + j - 128 = i * 128 + j by omega, ih (fun x hx => h x (by simp [hx])) i (by simpa using hi) j hj]
      simp
theorem flat_put {l : List (List UInt8)} (h : ∀ x ∈ l, x.length = 128) : ∀ (i : Nat), i < l.length → ∀ b : List UInt8, b.length ≤ 128 → l.flatten.take (i * 128) ++ b ++ l.flatten.drop (i * 128 + b.length) = (l.set i (b ++ (l[i]?.getD []).drop b.length)).flatten := by
  induction l with
  | nil => intro i hi; simp at hi
  | cons a l ih =>
    intro i hi b hb
    have ha := h a (by simp)
    cases i with
    | zero =>
      simp only [Nat.zero_mul, List.take_zero, List.nil_append, Nat.zero_add, List.flatten_cons, List.set_cons_zero, List.getElem?_cons_zero, Option.getD_some]
      rw [List.drop_append_of_le_length (by omega), List.append_assoc]
    | succ i =>
      have := ih (fun x hx => h x (by simp [hx])) i (by simpa using hi) b hb
      simp only [List.flatten_cons, List.set_cons_succ, List.getElem?_cons_succ]
      have e1 : (a ++ l.flatten).take ((i + 1) * 128) = a ++ l.flatten.take (i * 128) := by
        rw [List.take_append, List.take_of_length_le (by omega), ha, show (i + 1) * 128 - 128 = i * 128 by omega]
      have e2 : (a ++ l.flatten).drop ((i + 1) * 128 + b.length) = l.flatten.drop (i * 128 + b.length) := by
        rw [List.drop_append, List.drop_of_length_le (by omega), List.nil_append, ha, show (i + 1) * 128 + b.length - 128 = i * 128 + b.length by omega]
      rw [e1, e2, ← this]
      simp only [List.append_assoc]
set_option maxRecDepth 100000 in
theorem bread_any {w : World} {S : Nat → Prop} {g : Nat} {d : DM} (h : Dk w S g d) (i : Int) :
    Calls Tryz.prog 48 #[.pointer (some ⟨g, 0, none⟩), .int .i64 i] w fun e w' => ∃ A n c, e = .returned (.tuple #[.slice A n c, .int .i64 (readM d i).2]) ∧ Byt w' (w.heap.size ≤ ·) A n c (readM d i).1 ∧ Below w.heap.size w w' ∧ FreeRow w' A := by
  have hck := bcheck_any h i
  by_cases h0 : (readM d i).2 = 0
  · obtain ⟨hd, hi0, hi1⟩ := readM_yes h0
    obtain ⟨i, rfl⟩ := Int.eq_ofNat_of_zero_le hi0
    obtain ⟨q, cap, lf, _, _, _, hb, hr, ok, hcap, hfew, hlf⟩ := h.cells
    have hrm : readM d (i : Int) = (d.l[i]?.getD [], 0) := by
      unfold readM
      rw [if_neg (by simp [hd]), if_neg (by omega)]
      rfl
    rw [hrm] at hck ⊢
    have hc0 : w.cell? ⟨g, 0, none⟩ = some (.slice (some ⟨q, 0, none⟩) d.l.length cap) := cell_of_cells hb 0
    have hin : (i : Int) < (d.l.length : Int) := by omega
    have hil : i < d.l.length := by omega
    have hx : (d.l[i]?.getD []).length = 128 := by
      rw [List.getElem?_eq_getElem hil]
      exact ok.each _ (List.getElem_mem hil)
    have hz := zero_blk
    obtain ⟨KS, hKS⟩ : ∃ KS, KS = (u8s (d.l[i]?.getD [])).toArray := ⟨_, rfl⟩
    have HKA : Hid (∀ (j : Nat) (v : Value), KS[j]? = some v → w.cell? ((Addr.mk q (i * 128) none).add j) = some v) := Lib.hid fun j v hj => by
      rw [hKS] at hj
      have hj2 : j < 128 := by
        have := (Array.getElem?_eq_some_iff.1 hj).1
        rwa [List.size_toArray, u8s_length, hx] at this
      rw [add_plain, cell_of_cells hr, List.getElem?_toArray, u8s, List.getElem?_map, flat_at ok.each i hil j hj2, ← hj, List.getElem?_toArray, u8s, List.getElem?_map]
    have HKS : Hid (KS.size = 128 ∧ KS.all (·.oneCell') = true) := Lib.hid ⟨by rw [hKS, List.size_toArray, u8s_length, hx], by rw [hKS]; exact u8s_all _⟩
    have HG : Hid ((w.alloc (.cells zerosB 104)).heap[w.heap.size]? = some (.cells zerosB 104 (0, 0))) := Lib.hid (heap_alloc_new w _)
    have HX : Hid (KS = (u8s (d.l[i]?.getD [])).toArray ∧ (d.l[i]?.getD []).length = 128) := Lib.hid ⟨hKS, hx⟩
    clear h h0 hi0 hi1 hb hr ok hcap hfew hlf hx hrm hd hKS
    generalize d.l[i]?.getD [] = xl at *
    generalize d.l.length = nl at *
    clear hil
    go_enter Tryz.func48, Tryz.ntmps48
    go_wp2_with (first
      | (go_at_call 44; refine hck.mono ?_; clear hck; rintro _ _ ⟨rfl, rfl⟩)
      | (refine wpList_load_at (by rfl) 104 (.tmp 19) (by rfl) ⟨q, i * 128, none⟩ (by rfl) KS _ HKA.out Tryz.underlying104 (by rfl) (by rw [HKS.out.1]; exact blk_size) ?_)
      | (refine wpList_store_row (by rfl) 104 (.tmp 7) (.tmp 20) (by rfl) w.heap.size KS (by rfl) (by rfl) 104 _ HG.out (by rw [HKS.out.1]; exact blk_size) (by rw [HKS.out.1]; exact zerosB_size) HKS.out.2 ?_))
    go_ret2
    have e4 := setRow_at (new := KS) HG.out
    have hb4 : Below w.heap.size w ((w.alloc (.cells zerosB 104)).setRow w.heap.size KS) := below_setRow ((Below.refl _ _).alloc (Nat.le_refl _) _) (Nat.le_refl _) _
    rw [HX.out.1] at e4
    have hy := byt_whole e4 (by rw [HX.out.2]; omega)
    rw [HX.out.2, ← HX.out.1] at hy
    rw [← HX.out.1] at e4
    refine ⟨_, _, _, rfl, ⟨hy.len, hy.cap, hy.max, fun h0 => ?_⟩, hb4, fun a ha => ?_⟩
    · obtain ⟨b, off, e, _, h3, h4⟩ := hy.row h0
      injection e with e
      injection e with e1 e2
      subst e1 e2
      exact ⟨_, 0, rfl, Nat.le_refl _, h3, h4⟩
    · injection ha with ha
      subst ha
      exact ⟨lt_of_cells e4, fun j => free_of_cells e4 j⟩
  · obtain ⟨E, hE⟩ : ∃ E, E = (readM d i).2 := ⟨_, rfl⟩
    have hn : (readM d i).1 = [] := by
      unfold readM at h0 ⊢
      split
      · rfl
      · rename_i h1
        rw [if_neg h1] at h0
        split
        · rfl
        · rename_i h2
          rw [if_neg h2] at h0
          exact absurd rfl h0
    rw [← hE] at hck ⊢
    rw [hn]
    have hE0 : (E != 0) = true := by rw [hE]; simpa using h0
    clear h h0 hn hE
    go_enter Tryz.func48, Tryz.ntmps48
    go_wp2_with (go_at_call 44; refine hck.mono ?_; clear hck; rintro _ _ ⟨rfl, rfl⟩)
    go_ret2
    exact ⟨none, 0, 0, rfl, Byt.nil _ _ _ _ (Nat.zero_le _), Below.refl _ _, FreeRow.none_ _⟩

/-! Writing. -/
theorem u8s_take (l : List UInt8) (k : Nat) : (u8s l).take k = u8s (l.take k) := by simp [u8s, List.map_take]
theorem u8s_drop (l : List UInt8) (k : Nat) : (u8s l).drop k = u8s (l.drop k) := by simp [u8s, List.map_drop]
theorem blk_copy {w : World} {q : Nat} {l : List (List UInt8)} (hr : w.heap[q]? = some (.cells (u8s l.flatten).toArray 104 (0, 0))) (he : ∀ x ∈ l, x.length = 128) {i : Nat} (hi : i < l.length) {T : Nat → Prop} {a : Addr} {n c : Nat} {x : List UInt8} (hy : Byt w T (some a) n c x) (hn : n ≤ 128) :
    (Builtin.copy_ #[54, 54] 3 #[.slice (some ⟨q, i * 128, none⟩) 128 128, .slice (some a) n c]).run Tryz.prog w = .ok (goInt (n : Nat)) (w.setRow q (u8s (l.set i (x ++ (l[i]?.getD []).drop n)).flatten).toArray) := by
  have hl := hy.len
  have h := run_copy_row Tryz.prog w 54 54 3 5 q (i * 128) 128 128 a n c (u8s l.flatten).toArray 104 (u8s x) Tryz.underlying54 (by kernel_rfl) hr (by rw [u8s_length, hl]; exact (Nat.min_eq_left hn).symm) (byt_news hy)
    (by rw [u8s_length, hl]; simp only [List.size_toArray]; rw [u8s_length, flat_len he]; omega) (u8s_one _)
  rw [u8s_length, hl, u8s_take, u8s_drop, ← u8s_append, ← u8s_append] at h
  have hf := flat_put he i hi x (by omega)
  rw [hl] at hf
  rw [h, hf]
set_option maxRecDepth 100000 in
theorem bwrite_any {w : World} {S T : Nat → Prop} {g : Nat} {d : DM} (h : Dk w S g d) {A : Option Addr} {n c : Nat} {b : List UInt8} (hy : Byt w T A n c b) (hT : ∀ x, x < w.heap.size → T x → ¬ S x) (i : Int) :
    Calls Tryz.prog 16 #[.pointer (some ⟨g, 0, none⟩), .int .i64 i, .slice A n c] w fun e w' => e = .returned (.int .i64 (writeM d i b).2) ∧ Dk w' S g (writeM d i b).1 ∧ Turned S w w' := by
  have hck := bcheck_any h i
  have hbl := hy.len
  by_cases h0 : (readM d i).2 = 0
  · rw [h0] at hck
    by_cases hn : n = 128
    · subst hn
      obtain ⟨hdn, hi0, hi1⟩ := readM_yes h0
      obtain ⟨i, rfl⟩ := Int.eq_ofNat_of_zero_le hi0
      obtain ⟨q, cap, lf, hg, hq, hne, hb, hr, ok, hcap, hfew, hlf⟩ := h.cells
      have ok2 := writeM_ok ok (i : Int) b
      have hil : i < d.l.length := by omega
      obtain ⟨bb, off, rfl, _, _, _⟩ := hy.row (by omega)
      have hc0 : w.cell? ⟨g, 0, none⟩ = some (.slice (some ⟨q, 0, none⟩) d.l.length cap) := cell_of_cells hb 0
      have hc1 : w.cell? ⟨g, 2, none⟩ = some (.int .i64 lf) := cell_of_cells hb 2
      have hc2 : w.cell? ⟨g, 3, none⟩ = some (.int .i64 d.torn) := cell_of_cells hb 3
      have hc3 : w.cell? ⟨g, 1, none⟩ = some (.bool d.down) := cell_of_cells hb 1
      have hin : (i : Int) < (d.l.length : Int) := by omega
      by_cases hl : d.left = 0
      · obtain ⟨t, ht⟩ := Int.eq_ofNat_of_zero_le ok.torn.1
        have ht2 : t ≤ 128 := by have := ok.torn.2; omega
        have hwm : writeM d (i : Int) b = ({ d with l := d.l.set i (b.take t ++ (d.l[i]?.getD []).drop t), down := true }, 30) := by
          unfold writeM
          rw [if_neg (by simp [hdn]), if_neg (by omega), if_neg (by omega), if_pos hl, ht]
          rfl
        rw [hwm] at ok2 ⊢
        have hcp := blk_copy hr ok.each hil (hy.to (k := t) ht2) ht2
        have HSL := Lib.hid (fun W => run_to (P := Tryz.prog) 54 5 Tryz.underlying54 u8_size (some ⟨bb, off, none⟩) 128 c t (by have := hy.cap; omega) W)
        obtain ⟨l2, hl2⟩ : ∃ l2, l2 = d.l.set i (b.take t ++ (d.l[i]?.getD []).drop t) := ⟨_, rfl⟩
        rw [← hl2] at hcp
        simp only at ok2 ⊢
        rw [← hl2] at ok2 ⊢
        have hlen : l2.length = d.l.length := by rw [hl2, List.length_set]
        have hr2 := setRow_at (new := (u8s l2.flatten).toArray) hr
        have hb2 := (setRow_ne w q g (u8s l2.flatten).toArray hne).trans hb
        have ht3 : Turned S w (w.setRow q (u8s l2.flatten).toArray) := (turned_setRow (w := w) (g := q) _).mono fun _ _ e => by rw [e]; exact hq
        have hcpd : (Builtin.copy_ #[54, 54] 3 #[.slice (some ⟨q, i * 128, none⟩) 128 128, .slice (some ⟨bb, off, none⟩) t c]).run Tryz.prog w.drew = .ok (goInt (t : Nat)) (w.drew.setRow q (u8s l2.flatten).toArray) := by
          have := blk_copy (w := w.drew) hr ok.each hil (hy.to (k := t) ht2).drew ht2
          rwa [← hl2] at this
        have hr2 : (w.drew.setRow q (u8s l2.flatten).toArray).heap[q]? = _ := hr2
        have hb2 : (w.drew.setRow q (u8s l2.flatten).toArray).heap[g]? = _ := hb2
        have ht3 : Turned S w (w.drew.setRow q (u8s l2.flatten).toArray) := ⟨ht3.os, ht3.tape, ht3.output, ht3.size, ht3.block⟩
        generalize w.drew.setRow q (u8s l2.flatten).toArray = w2 at *
        have hc02 : w2.cell? ⟨g, 0, none⟩ = some (.slice (some ⟨q, 0, none⟩) d.l.length cap) := cell_of_cells hb2 0
        have hc22 : w2.cell? ⟨g, 3, none⟩ = some (.int .i64 (t : Int)) := by rw [cell_of_cells hb2, ← ht]; rfl
        have hc32 : w2.cell? ⟨g, 1, none⟩ = some (.bool d.down) := cell_of_cells hb2 1
        have hf32 := free_of_cells hb2 1
        have hb3 := set_of_cells hb2 1 (.bool true)
        have hr3 := (Below.heap_setCell w2 ⟨g, 1, none⟩ (.bool true) q (Ne.symm hne)).trans hr2
        have HR := Lib.hid (show Dk (w2.setCell ⟨g, 1, none⟩ (.bool true)) S g { d with l := l2, down := true } from Dk.put (d := { d with l := l2, down := true }) (cap := cap) (lf := lf) hg hq hne (by rw [hb3, ← hlen]; rfl) hr3 ok2 (by show l2.length ≤ cap; omega) (by show l2.length ≤ 65536; omega) hlf)
        have HT := Lib.hid (ht3.set hg 1 (.bool true))
        have hc2 : w.cell? ⟨g, 3, none⟩ = some (.int .i64 (t : Int)) := by rw [hc2, ht]
        have hlz : lf = 0 := by have := hlf.same; omega
        rw [hlz] at hc1
        clear h hy hbl h0 hg hq hne hb hr ok ok2 hcap hfew hil hl2 hr2 hb2 ht3 hwm hi0 hi1 hlen hdn hcp hb3 hr3 hc3 ht hlf hlz
        go_enter Tryz.func16, Tryz.ntmps16
        go_upto_region 7 with (go_at_call 44; refine hck.mono ?_; clear hck; rintro _ _ ⟨rfl, rfl⟩)
        refine wp_region_plan (fun W => W.cell? ⟨g, 0, none⟩ = some (.slice (some ⟨q, 0, none⟩) d.l.length cap) ∧ W.cell? ⟨g, 3, none⟩ = some (.int .i64 (t : Int))) [([0, 1, 2, 3, 4, 5, 6, 7, 8, 9, 10, 11, 12], 13)] [] (by kernel_rfl) (by kernel_rfl) (fun _ _ d _ _ h => by cases d <;> exact h) ⟨hc0, hc2⟩ ?_
        refine plan_eff ?_
        refine seg_read ?v1 (by rfl) (by rfl) ?h1 ?_
        case h1 => intro W hW; go_simp; with_reducible rfl
        try simp only [Act.put, List.setIfInBounds_toArray, List.set_cons_zero, List.set_cons_succ]
        refine seg_read ?v2 (by rfl) (by rfl) ?h2 ?_
        case h2 => intro W hW; go_simp; with_reducible rfl
        try simp only [Act.put, List.setIfInBounds_toArray, List.set_cons_zero, List.set_cons_succ]
        refine seg_read ?v3 (by rfl) (by rfl) ?h3 ?_
        case h3 => intro W hW; go_simp; with_reducible rfl
        try simp only [Act.put, List.setIfInBounds_toArray, List.set_cons_zero, List.set_cons_succ]
        refine seg_read ?v4 (by rfl) (by rfl) ?h4 ?_
        case h4 => intro W hW; obtain ⟨hc0, hc2⟩ := hW; go_simp; with_reducible rfl
        try simp only [Act.put, List.setIfInBounds_toArray, List.set_cons_zero, List.set_cons_succ]
        refine seg_read ?v5 (by rfl) (by rfl) ?h5 ?_
        case h5 => intro W hW; go_simp; with_reducible rfl
        try simp only [Act.put, List.setIfInBounds_toArray, List.set_cons_zero, List.set_cons_succ]
        refine seg_read ?v6 (by rfl) (by rfl) ?h6 ?_
        case h6 => intro W hW; go_simp; with_reducible rfl
        try simp only [Act.put, List.setIfInBounds_toArray, List.set_cons_zero, List.set_cons_succ]
        refine seg_read ?v7 (by rfl) (by rfl) ?h7 ?_
        case h7 => intro W hW; go_simp; with_reducible rfl
        try simp only [Act.put, List.setIfInBounds_toArray, List.set_cons_zero, List.set_cons_succ]
        refine seg_read ?v8 (by rfl) (by rfl) ?h8 ?_
        case h8 => intro W hW; go_simp; with_reducible rfl
        try simp only [Act.put, List.setIfInBounds_toArray, List.set_cons_zero, List.set_cons_succ]
        refine seg_read ?v9 (by rfl) (by rfl) ?h9 ?_
        case h9 => intro W hW; go_simp; with_reducible rfl
        try simp only [Act.put, List.setIfInBounds_toArray, List.set_cons_zero, List.set_cons_succ]
        refine seg_read ?v10 (by rfl) (by rfl) ?h10 ?_
        case h10 => intro W hW; go_simp; with_reducible rfl
        try simp only [Act.put, List.setIfInBounds_toArray, List.set_cons_zero, List.set_cons_succ]
        refine seg_read ?v11 (by rfl) (by rfl) ?h11 ?_
        case h11 => intro W hW; go_simp; with_reducible rfl
        try simp only [Act.put, List.setIfInBounds_toArray, List.set_cons_zero, List.set_cons_succ]
        refine seg_read ?v12 (by rfl) (by rfl) ?h12 ?_
        case h12 => intro W hW; obtain ⟨hc0, hc2⟩ := hW; go_simp; with_reducible rfl
        try simp only [Act.put, List.setIfInBounds_toArray, List.set_cons_zero, List.set_cons_succ]
        refine seg_read ?v13 (by rfl) (by rfl) ?h13 ?_
        case h13 => intro W hW; have hsl := HSL.out W; go_simp; with_reducible rfl
        try simp only [Act.put, List.setIfInBounds_toArray, List.set_cons_zero, List.set_cons_succ]
        refine seg_nil ?_
        refine eff_step (by rfl) (fun K hK => ?_)
        go_simp
        have hcp := hcpd
        refine hK _ _ ⟨fun W => W = w2, rfl, fun W e => by rw [e]; exact ⟨hc02, hc22⟩, ?_⟩
        clear hK K
        refine plan_last ?_
        repeat (refine seg_step (by rfl) (fun K hK => ?_); go_simp; refine hK _ ?_; clear hK K)
        refine seg_nil ?_
        go_wp2_with fail
        go_ret
        exact ⟨rfl, HR.out, HT.out⟩
      · have hwm : writeM d (i : Int) b = ({ d with l := d.l.set i b, left := if 0 < d.left then d.left - 1 else d.left }, 0) := by
          unfold writeM
          rw [if_neg (by simp [hdn]), if_neg (by omega), if_neg (by omega), if_neg hl]
          rfl
        rw [hwm] at ok2 ⊢
        have hcp := blk_copy hr ok.each hil hy (Nat.le_refl _)
        have hx : (d.l[i]?.getD []).drop 128 = [] := by
          rw [List.getElem?_eq_getElem hil]
          exact List.drop_of_length_le (by rw [Option.getD_some, ok.each _ (List.getElem_mem hil)]; omega)
        rw [hx, List.append_nil] at hcp
        obtain ⟨l2, hl2⟩ : ∃ l2, l2 = d.l.set i b := ⟨_, rfl⟩
        rw [← hl2] at hcp
        simp only at ok2 ⊢
        rw [← hl2] at ok2 ⊢
        have hlen : l2.length = d.l.length := by rw [hl2, List.length_set]
        have hLb := ok.left
        by_cases hpos : 0 < d.left
        · have hlfe : lf = d.left := by have := hlf.same; omega
          subst hlfe
          have hsub := IntWalk.i64_in (d.left - 1) (by omega)
          have hf1 := free_of_cells hb 2
          have hb1 := set_of_cells hb 2 (.int .i64 (d.left - 1))
          have hr1 := (Below.heap_setCell w ⟨g, 2, none⟩ (.int .i64 (d.left - 1)) q (Ne.symm hne)).trans hr
          have ht1 : Turned S w (w.setCell ⟨g, 2, none⟩ (.int .i64 (d.left - 1))) := (Turned.refl S w).set hg 2 (.int .i64 (d.left - 1))
          have hy1 := hy.turned ht1 hT
          have hcp := blk_copy hr1 ok.each hil hy1 (Nat.le_refl _)
          rw [hx, List.append_nil, ← hl2] at hcp
          generalize hW1 : w.setCell ⟨g, 2, none⟩ (.int .i64 (d.left - 1)) = w1 at *
          have hc01 : w1.cell? ⟨g, 0, none⟩ = some (.slice (some ⟨q, 0, none⟩) d.l.length cap) := cell_of_cells hb1 0
          have hr2 := setRow_at (new := (u8s l2.flatten).toArray) hr1
          have hb2 := (setRow_ne w1 q g (u8s l2.flatten).toArray hne).trans hb1
          have ht2 : Turned S w1 (w1.setRow q (u8s l2.flatten).toArray) := (turned_setRow (w := w1) (g := q) _).mono fun _ _ e => by rw [e]; exact hq
          have ht2 := ht1.trans ht2 fun _ _ h => h
          generalize w1.setRow q (u8s l2.flatten).toArray = w2 at *
          rw [if_pos hpos] at ok2 ⊢
          have HR := Lib.hid (show Dk w2 S g { d with l := l2, left := d.left - 1 } from Dk.put (d := { d with l := l2, left := d.left - 1 }) (cap := cap) (lf := d.left - 1) hg hq hne (by rw [hb2, ← hlen]; rfl) hr2 ok2 (by show l2.length ≤ cap; omega) (by show l2.length ≤ 65536; omega) ⟨.inl rfl, by omega, by omega⟩)
          have HT := Lib.hid ht2
          have HW1 := Lib.hid (fun _ : Unit => hW1)
          have hlz : (d.left == 0) = false := by simpa using hl
          clear h hy hy1 hbl h0 hg hq hne hb hr hb1 hr1 ht1 ok ok2 hcap hfew hil hx hl2 hr2 hb2 ht2 hwm hi0 hi1 hlen hdn hc2 hc3 hlf hl hT hW1
          generalize d.left = lf at *
          go_enter Tryz.func16, Tryz.ntmps16
          go_upto_region 12 with (go_at_call 44; refine hck.mono ?_; clear hck; rintro _ _ ⟨rfl, rfl⟩)
          rw [HW1.out ()]
          go_wp2_with fail
          go_ret
          exact ⟨rfl, HR.out, HT.out⟩
        · have hpos' : ¬ 0 < lf := by have := hlf.same; omega
          have hlz : (lf == 0) = false := by have := hlf.same; have : lf ≠ 0 := by omega
                                             simpa using this
          have hr2 := setRow_at (new := (u8s l2.flatten).toArray) hr
          have hb2 := (setRow_ne w q g (u8s l2.flatten).toArray hne).trans hb
          have ht2 : Turned S w (w.setRow q (u8s l2.flatten).toArray) := (turned_setRow (w := w) (g := q) _).mono fun _ _ e => by rw [e]; exact hq
          generalize w.setRow q (u8s l2.flatten).toArray = w2 at *
          rw [if_neg hpos] at ok2 ⊢
          have HR := Lib.hid (show Dk w2 S g { d with l := l2, left := d.left } from Dk.put (d := { d with l := l2, left := d.left }) (cap := cap) (lf := lf) hg hq hne (by rw [hb2, ← hlen]) hr2 ok2 (by show l2.length ≤ cap; omega) (by show l2.length ≤ 65536; omega) hlf)
          have HT := Lib.hid ht2
          clear h hy hbl h0 hg hq hne hb hr ok ok2 hcap hfew hil hx hl2 hr2 hb2 ht2 hwm hi0 hi1 hlen hdn hc2 hc3 hlf hl hpos hLb hT
          go_enter Tryz.func16, Tryz.ntmps16
          go_wp2_with (go_at_call 44; refine hck.mono ?_; clear hck; rintro _ _ ⟨rfl, rfl⟩)
          go_ret
          exact ⟨rfl, HR.out, HT.out⟩
    · have hw : writeM d i b = (d, 1) := by rw [readM_no (.inr (by omega)), if_pos h0]
      rw [hw]
      have HH := Lib.hid h
      have hn' : ((n : Int) != 128) = true := by simp; omega
      clear h hy hbl h0 hn hw
      go_enter Tryz.func16, Tryz.ntmps16
      go_wp2_with (go_at_call 44; refine hck.mono ?_; clear hck; rintro _ _ ⟨rfl, rfl⟩)
      go_ret
      exact ⟨rfl, HH.out, Turned.refl _ _⟩
  · have hw : writeM d i b = (d, (readM d i).2) := by rw [readM_no (.inl h0), if_neg h0]
    rw [hw]
    have HH := Lib.hid h
    obtain ⟨E, hE⟩ : ∃ E, E = (readM d i).2 := ⟨_, rfl⟩
    rw [← hE] at hck ⊢
    have hE0 : (E != 0) = true := by rw [hE]; simpa using h0
    clear h hy hbl h0 hw hE
    go_enter Tryz.func16, Tryz.ntmps16
    go_wp2_with (go_at_call 44; refine hck.mono ?_; clear hck; rintro _ _ ⟨rfl, rfl⟩)
    go_ret
    exact ⟨rfl, HH.out, Turned.refl _ _⟩
end Go.Proofs.YtcgnaomffioldaaGreat

/-! A disk of a call's own, and what it makes behind it; the model's steps. -/
namespace Go.Proofs.YtcgnaomffioldaaGreat
open Go.RowKit

/-- IN A CALL THAT BEGAN AT w0: a disk of its own, in blocks below m. -/
structure Dsk (w0 : World) (m : Nat) (W : World) (g : Nat) (d : DM) : Prop where
  dk : Dk W (fun x => w0.heap.size ≤ x ∧ x < m) g d
  bel : Below w0.heap.size w0 W
  top : m ≤ W.heap.size
section
variable {w0 W W' : World} {m g : Nat} {d d' : DM}
theorem Dsk.below (h : Dsk w0 m W g d) (hb : Below W.heap.size W W') : Dsk w0 m W' g d := ⟨h.dk.below hb, h.bel.trans (hb.mono h.bel.size), Nat.le_trans h.top hb.size⟩
theorem Dsk.turn (h : Dsk w0 m W g d) (hd : Dk W' (fun x => w0.heap.size ≤ x ∧ x < m) g d') (ht : Turned (fun x => w0.heap.size ≤ x ∧ x < m) W W') : Dsk w0 m W' g d' :=
  ⟨hd, h.bel.trans ((ht.mono fun _ _ h => h.1).below h.bel.size), Nat.le_trans h.top ht.size⟩
/-- What stands behind m stays where the disk turned. -/
theorem Dsk.write (h : Dsk w0 m W g d) {A : Option Addr} {n c : Nat} {b : List UInt8} (hy : Byt W (m ≤ ·) A n c b) (i : Int) :
    Calls Tryz.prog 16 #[.pointer (some ⟨g, 0, none⟩), .int .i64 i, .slice A n c] W fun e w' => e = .returned (.int .i64 (writeM d i b).2) ∧ Dsk w0 m w' g (writeM d i b).1 ∧ Turned (· < m) W w' := by
  refine (bwrite_any h.dk hy (fun x _ h1 h2 => by omega) i).mono ?_
  rintro _ w' ⟨rfl, h2, h3⟩
  exact ⟨rfl, h.turn h2 h3, h3.mono fun _ _ h => h.2⟩
theorem Dsk.stop (h : Dsk w0 m W g d) (after torn : Int) (ha : -9223372036854775808 ≤ after ∧ after ≤ 9223372036854775807) :
    Calls Tryz.prog 14 #[.pointer (some ⟨g, 0, none⟩), .int .i64 after, .int .i64 torn] W fun e w' => e = .returned (.tuple #[]) ∧ Dsk w0 m w' g (stopM d after torn) ∧ Turned (· < m) W w' := by
  refine (bstop_any h.dk after torn ha).mono ?_
  rintro _ w' ⟨rfl, h2, h3⟩
  exact ⟨rfl, h.turn h2 h3, h3.mono fun _ _ h => h.2⟩
theorem Dsk.restart (h : Dsk w0 m W g d) :
    Calls Tryz.prog 18 #[.pointer (some ⟨g, 0, none⟩)] W fun e w' => e = .returned (.tuple #[]) ∧ Dsk w0 m w' g (restartM d) ∧ Turned (· < m) W w' := by
  refine (brestart_any h.dk).mono ?_
  rintro _ w' ⟨rfl, h2, h3⟩
  exact ⟨rfl, h.turn h2 h3, h3.mono fun _ _ h => h.2⟩
theorem Dsk.read (h : Dsk w0 m W g d) (i : Int) :
    Calls Tryz.prog 48 #[.pointer (some ⟨g, 0, none⟩), .int .i64 i] W fun e w' => ∃ A n c, e = .returned (.tuple #[.slice A n c, .int .i64 (readM d i).2]) ∧ Byt w' (W.heap.size ≤ ·) A n c (readM d i).1 ∧ Dsk w0 m w' g d ∧ Below W.heap.size W w' ∧ FreeRow w' A := by
  refine (bread_any h.dk i).mono ?_
  rintro _ w' ⟨A, n, c, rfl, h2, h3, h4⟩
  exact ⟨A, n, c, rfl, h2, h.below h3, h3, h4⟩
theorem Dsk.le (h : Dsk w0 m W g d) : w0.heap.size ≤ m := by
  obtain ⟨q, cap, h1, _⟩ := h.dk
  omega
theorem Dsk.setAt (h : Dsk w0 m W g d) {p : Nat} (hp : m ≤ p) (o : Nat) (v : Value) : Dsk w0 m (W.setCell ⟨p, o, none⟩ v) g d :=
  ⟨h.dk.turned (T := fun x => m ≤ x) ((Turned.refl (fun x => m ≤ x) W).set hp o v) fun _ _ h1 h2 => by omega, h.bel.setCell (Nat.le_trans h.le hp) v, by have := h.top; simpa [World.setCell] using this⟩
theorem Dsk.drew (h : Dsk w0 m W g d) : Dsk w0 m W.drew g d := ⟨h.dk.drew, h.bel.drew, h.top⟩
/-- A step that leaves the disk as it is, and all that stands behind it. -/
structure GDk (w0 : World) (m g : Nat) (d : DM) (W W' : World) : Prop where
  trn : Turned (· < m) W W'
  dsk : Dsk w0 m W g d → Dsk w0 m W' g d
theorem GDk.refl (w0 : World) (m g : Nat) (d : DM) (W : World) : GDk w0 m g d W W := ⟨Turned.refl _ _, id⟩
theorem GDk.trans {W'' : World} (h : GDk w0 m g d W W') (k : GDk w0 m g d W' W'') : GDk w0 m g d W W'' := ⟨h.trn.trans k.trn fun _ _ h => h, fun x => k.dsk (h.dsk x)⟩
theorem GDk.of_below (h : Below W.heap.size W W') : GDk w0 m g d W W' := ⟨Turned.of_below h, fun x => x.below h⟩
theorem GDk.byt (h : GDk w0 m g d W W') {A : Option Addr} {n c : Nat} {b : List UInt8} (hy : Byt W (m ≤ ·) A n c b) : Byt W' (m ≤ ·) A n c b := hy.turned h.trn fun _ _ h1 h2 => by omega
/-- A disk that is new. -/
theorem Dsk.new {wa : World} (hb : Below w0.heap.size w0 wa) (k : Nat) (h1 : 1 ≤ k) (h2 : k ≤ 65536) :
    Calls Tryz.prog 6 #[.int .i64 (k : Int)] wa fun e w' => ∃ g, e = .returned (.tuple #[.pointer (some ⟨g, 0, none⟩), .int .i64 0]) ∧ Dsk w0 w'.heap.size w' g (newM k).1 := by
  refine (bnew_ok k h1 h2 wa).mono ?_
  rintro _ w' ⟨g, rfl, h3, h4⟩
  exact ⟨g, rfl, h3.mono fun x hx h => ⟨by have := hb.size; omega, hx⟩, hb.trans (h4.mono hb.size), Nat.le_refl _⟩
end
theorem byt_filled' {w' : World} {q m n : Nat} {l : List UInt8} (h : w'.heap[q]? = some (.cells (u8s l).toArray 5 (0, 0))) (hl : l.length = n) (hn : n ≤ 1000000) (hm : m ≤ q) : Byt w' (m ≤ ·) (some ⟨q, 0, none⟩) n n l := by
  subst hl
  have h1 := byt_whole h hn
  refine ⟨h1.len, h1.cap, h1.max, fun h0 => ?_⟩
  obtain ⟨b, off, e, _, h3, h4⟩ := h1.row h0
  injection e with e
  injection e with e1 e2
  subst e1 e2
  exact ⟨q, 0, rfl, hm, h3, h4⟩
theorem FreeRow.turned {w w' : World} {A : Option Addr} (h : FreeRow w A) {T : Nat → Prop} (ht : Turned T w w') (hd : ∀ a, A = some a → ¬ T a.block) : FreeRow w' A := fun a ha => by
  obtain ⟨h1, h2⟩ := h a ha
  refine ⟨Nat.lt_of_lt_of_le h1 ht.size, fun i => ?_⟩
  rw [← h2 i]
  simp only [World.frozen?, ht.block _ h1 (hd a ha)]

/-! The model's steps. -/
theorem writeM_down {d : DM} (h : d.down = true) (i : Int) (b : List UInt8) : writeM d i b = (d, 30) := by rw [writeM, if_pos h]
theorem writeM_stop {d : DM} (h : d.down = false) {i : Nat} (hi : i < d.l.length) {b : List UInt8} (hb : b.length = 128) (hl : d.left = 0) :
    writeM d (i : Int) b = ({ d with l := d.l.set i (b.take d.torn.toNat ++ (d.l[i]?.getD []).drop d.torn.toNat), down := true }, 30) := by
  unfold writeM
  rw [if_neg (by simp [h]), if_neg (by omega), if_neg (by omega), if_pos hl]
  rfl
theorem writeM_go {d : DM} (h : d.down = false) {i : Nat} (hi : i < d.l.length) {b : List UInt8} (hb : b.length = 128) (hl : d.left ≠ 0) :
    writeM d (i : Int) b = ({ d with l := d.l.set i b, left := if 0 < d.left then d.left - 1 else d.left }, 0) := by
  unfold writeM
  rw [if_neg (by simp [h]), if_neg (by omega), if_neg (by omega), if_neg hl]
  rfl
theorem readM_down {d : DM} (h : d.down = true) (i : Int) : readM d i = ([], 30) := by rw [readM, if_pos h]
theorem readM_at {d : DM} (h : d.down = false) {i : Nat} (hi : i < d.l.length) : readM d (i : Int) = (d.l[i]?.getD [], 0) := by
  unfold readM
  rw [if_neg (by simp [h]), if_neg (by omega)]
  rfl
theorem newM_at (k : Nat) (h1 : 1 ≤ k) (h2 : k ≤ 65536) : (newM k).1 = ⟨List.replicate k zero128, -1, 0, false⟩ := by
  rw [newM, if_neg (by omega)]
  rfl
end Go.Proofs.YtcgnaomffioldaaGreat

/-! Arrays of bytes held against each other. -/
namespace Go.Proofs.YtcgnaomffioldaaGreat
open Go.RowKit

section
variable {P : Program} (w : World)
theorem run_part_byte {e : TypeId} (he : P.underlying e = some (.int .u8)) (l : List UInt8) (k : Nat) (hk : k < l.length) :
    (part e (u8s l).toArray (k * 1)).run P w = .ok (.int .u8 ((l[k]).toNat : Int)) w := by
  have hag : (isAgg e).run P w = .ok false w := by
    unfold isAgg
    rw [Sem.run_bind, run_underlying he w]
    simp
  have hc : (u8s l)[k]? = some (.int .u8 ((l[k]).toNat : Int)) := by simp [u8s, List.getElem?_eq_getElem hk]
  simp [part, Sem.run_bind, hag, hc]

theorem run_eqItems_bytes (d : Nat) {e : TypeId} (he : P.underlying e = some (.int .u8)) (l m : List UInt8) (hlm : l.length = m.length) :
    ∀ (j k : Nat), k + j = l.length → (Op.eqItems (d + 1) e 1 (u8s l).toArray (u8s m).toArray (List.range' k j)).run P w = .ok (decide (l.drop k = m.drop k)) w
  | 0, k, h => by
    have h1 : l.drop k = [] := List.drop_eq_nil_of_le (by omega)
    have h2 : m.drop k = [] := List.drop_eq_nil_of_le (by omega)
    simp [Op.eqItems, h1, h2]
  | j + 1, k, h => by
    have hk : k < l.length := by omega
    have hk2 : k < m.length := by omega
    rw [List.range'_succ]
    simp only [Op.eqItems, Sem.run_bind, run_part_byte w he l k hk, run_part_byte w he m k hk2, Result.andThen_ok, run_equalIn_int w d e .u8 .u8 _ _ he]
    have e1 : l.drop k = l[k] :: l.drop (k + 1) := List.drop_eq_getElem_cons hk
    have e2 : m.drop k = m[k] :: m.drop (k + 1) := List.drop_eq_getElem_cons hk2
    have ih := run_eqItems_bytes d he l m hlm j (k + 1) (by omega)
    rw [e1, e2]
    clear e1 e2
    generalize l.drop (k + 1) = a at *
    generalize m.drop (k + 1) = b at *
    by_cases hx : l[k] = m[k]
    · rw [hx]
      simp [ih]
    · have hne : ¬ ((l[k]).toNat : Int) = ((m[k]).toNat : Int) := by
        intro e1
        exact hx (UInt8.toNat.inj (by omega))
      simp [hx, hne]

theorem run_equalIn_bytes {t e : TypeId} {n : Nat} {i : TypeInfo} (ht : P.underlying t = some (.array n e)) (he : P.underlying e = some (.int .u8)) (hi : P.info? e = some i) (hs : P.cellsOf e = 1) (d : Nat) (l m : List UInt8) (hl : l.length = n) (hm : m.length = n) :
    (Op.equalIn (d + 2) t (.agg (u8s l).toArray) (.agg (u8s m).toArray)).run P w = .ok (decide (l = m)) w := by
  rw [show d + 2 = (d + 1) + 1 from rfl, run_equalIn_array w (d + 1) _ _ ht hi, hs, List.range_eq_range', run_eqItems_bytes w d he l m (by omega) n 0 (by omega)]
  simp
end
end Go.Proofs.YtcgnaomffioldaaGreat
