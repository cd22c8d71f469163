/-
  codec.Writer: Bytes, Bool, Out, NewWriter; a Writer and a Reader that are none.
-/
import Derived.Test.YtbdondgonghooaaCodecWrite2
import Derived.Test.YtbdondgonghooaaCodecId
namespace Go.Proofs.Ytbdondgonghooaa
open Go.RowKit Codec

theorem Put.join {w w1 w2 : World} {S : Nat → Prop} {p : Nat} {l m : List UInt8} {e1 e2 : Ending} (h1 : Put w S p l e1 w1) (h2 : Put w1 (fun b => S b ∨ w.heap.size ≤ b) p m e2 w2) : Put w S p m (.returned (.tuple #[])) w2 :=
  ⟨rfl, h2.2.1.mono fun _ _ hs => by
    rcases hs with hs | hs
    · exact hs
    · exact .inr (Nat.le_trans h1.2.2.size hs),
   h1.2.2.trans h2.2.2 fun i hi hs => by
    rcases hs with hs | hs
    · exact hs
    · omega⟩
/-- Where all from B on is the writer's own. -/
theorem Put.from {w w' : World} {B p : Nat} {l : List UInt8} {e : Ending} (h : Put w (B ≤ ·) p l e w') (hB : B ≤ w.heap.size) : Wr w' (B ≤ ·) p l ∧ Below B w w' :=
  ⟨h.2.1.mono fun _ _ hs => by rcases hs with hs | hs <;> omega, h.2.2.below hB⟩

set_option maxHeartbeats 1000000 in
theorem wbytes {w : World} {S T : Nat → Prop} {p : Nat} {l m : List UInt8} {A : Option Addr} {n c : Nat} (h : Wr w S p l) (hm : Byt w T A n c m) (hd : ∀ b, b < w.heap.size → T b → ¬ S b) (hb : l.length + 10 + n ≤ 140737488355328) :
    Calls Try.prog 27 #[.pointer (some ⟨p, 0, none⟩), .slice A n c] w (Put w S p (l ++ (put m.length ++ m))) := by
  have hn : n < 18446744073709551616 := by omega
  have hml := hm.len
  have hput := put_length_64 (x := n) (by omega)
  have hu := wuint (x := n) h hn (by omega)
  have HB := Lib.hid hb
  have HM := Lib.hid hml
  clear hml
  go_enter Try.func27, Try.ntmps27
  go_wp2_with fail
  refine hu.mono ?_
  rintro _ w1 ⟨rfl, h1⟩
  go_wp2_with fail
  refine (wfixed h1.1 (hm.turned h1.2 hd) (by have := HB.out; simp; omega)).mono ?_
  rintro _ w2 ⟨rfl, h2⟩
  go_wp2
  go_end0
  have h3 := Put.join (e1 := .returned (.tuple #[])) (e2 := .returned (.tuple #[])) ⟨rfl, h1⟩ ⟨rfl, h2⟩
  rw [HM.out]
  rw [List.append_assoc] at h3
  exact h3

set_option maxHeartbeats 1000000 in
theorem wbool {w : World} {S : Nat → Prop} {p : Nat} {l : List UInt8} (h : Wr w S p l) (x : Bool) (hb : l.length + 1 ≤ 140737488355328) :
    Calls Try.prog 29 #[.pointer (some ⟨p, 0, none⟩), .bool x] w (Put w S p (l ++ [if x then 1 else 0])) := by
  have one : ∀ v : UInt8, Byt (w.alloc (.cells #[.int .u8 (v.toNat : Int)] 5)) (w.heap.size ≤ ·) (some ⟨w.heap.size, 0, none⟩) 1 1 [v] := fun v =>
    ⟨rfl, Nat.le_refl _, by unfold maxLen; omega, fun _ => ⟨w.heap.size, 0, rfl, Nat.le_refl _, by simp, fun i hi => by
      obtain rfl : i = 0 := by omega
      rw [cell_of_cells (heap_alloc_new w _)]; rfl⟩⟩
  have hT : ∀ o, Turned S w (w.alloc o) := fun o => (Turned.refl S w).alloc o
  have hW : ∀ o, Wr (w.alloc o) S p l := fun o => h.turned (T := fun _ => False) ((Turned.refl _ w).alloc o) (fun _ _ _ hf => hf)
  have fin : ∀ (o : Obj) (m : List UInt8) (e : Ending) (w2 : World), Put (w.alloc o) S p m e w2 → Put w S p m e w2 := fun o m e w2 h2 =>
    ⟨h2.1, h2.2.1.mono fun b _ hs => by
      rcases hs with hs | hs
      · exact .inl hs
      · simp at hs; exact .inr (by omega), (hT o).trans h2.2.2 fun _ _ hs => hs⟩
  cases x
  · have h0 := one 0
    simp only [show ((0 : UInt8).toNat : Int) = 0 from rfl] at h0
    go_enter Try.func29, Try.ntmps29
    go_wp2_with fail
    refine (wfixed (hW _) h0 hb).mono ?_
    rintro _ w2 ⟨rfl, h2⟩
    go_wp2
    go_end0
    exact fin _ _ _ _ ⟨rfl, h2⟩
  · have h0 := one 1
    simp only [show ((1 : UInt8).toNat : Int) = 1 from rfl] at h0
    go_enter Try.func29, Try.ntmps29
    go_wp2_with fail
    refine (wfixed (hW _) h0 hb).mono ?_
    rintro _ w2 ⟨rfl, h2⟩
    go_wp2
    refine bodyPost_ret (results_none rfl _ _ _) rfl ?_
    exact fin _ _ _ _ ⟨rfl, h2⟩

/-- What a writer holds, as bytes in its own row. -/
theorem wr_byt {w : World} {S : Nat → Prop} {p : Nat} {l : List UInt8} (h : Wr w S p l) : ∃ A c, w.cell? ⟨p, 0, none⟩ = some (.slice A l.length c) ∧ Byt w (fun _ => True) A l.length c l := by
  obtain ⟨_, A, c, hh, ho, _⟩ := h
  obtain ⟨A', c', hv, hb⟩ := own_byt ho
  injection hv with h1 _ h2
  subst h1 h2
  exact ⟨A, c, by rw [cell_of_cells hh 0]; rfl, hb.mono fun _ _ _ => trivial⟩

set_option maxHeartbeats 1000000 in
theorem wout {w : World} {S : Nat → Prop} {p : Nat} {l : List UInt8} (h : Wr w S p l) (hb : l.length ≤ 140737488355328) :
    Calls Try.prog 31 #[.pointer (some ⟨p, 0, none⟩)] w fun r w' => ∃ A c, r = .returned (.slice A l.length c) ∧ Byt w' (w.heap.size ≤ ·) A l.length c l ∧ Below w.heap.size w w' ∧ FreeRow w' A := by
  obtain ⟨A0, c0, h0, hY⟩ := wr_byt h
  go_enter Try.func31, Try.ntmps31
  go_wp2_with fail
  refine (clone_byt hY hb).mono ?_
  rintro _ w1 ⟨A, c, rfl, hY1, hb1, _, hF1⟩
  go_wp2
  go_ret
  exact ⟨A, c, rfl, hY1, hb1, hF1⟩

theorem newWriter (w : World) :
    Calls Try.prog 24 #[] w fun r w' => ∃ p, r = .returned (.pointer (some ⟨p, 0, none⟩)) ∧ Wr w' (w.heap.size ≤ ·) p [] ∧ Below w.heap.size w w' := by
  go_enter Try.func24, Try.ntmps24
  go_wp2
  go_ret
  exact ⟨w.heap.size, rfl, ⟨Nat.le_refl _, none, 0, heap_alloc_new w _, World.ownsRow_nil _ _ _ _, fun a h => by cases h⟩, (Below.refl _ _).alloc (Nat.le_refl _) _⟩

/-! None -/
theorem wuint_nil (w : World) (x : Int) : Calls Try.prog 25 #[.pointer none, .int .u64 x] w fun e w' => e = .returned (.tuple #[]) ∧ w = w' := by
  go_enter Try.func25, Try.ntmps25
  go_wp2
  refine bodyPost_ret (results_none rfl _ _ _) rfl ?_
  exact ⟨rfl, rfl⟩
theorem wfixed_nil (w : World) (A : Option Addr) (n c : Nat) : Calls Try.prog 30 #[.pointer none, .slice A n c] w fun e w' => e = .returned (.tuple #[]) ∧ w = w' := by
  go_enter Try.func30, Try.ntmps30
  go_wp2
  refine bodyPost_ret (results_none rfl _ _ _) rfl ?_
  exact ⟨rfl, rfl⟩
theorem wbytes_nil (w : World) (A : Option Addr) (n c : Nat) : Calls Try.prog 27 #[.pointer none, .slice A n c] w fun e w' => e = .returned (.tuple #[]) ∧ w = w' := by
  go_enter Try.func27, Try.ntmps27
  go_wp2_with fail
  refine (wuint_nil _ _).mono ?_
  rintro _ _ ⟨rfl, rfl⟩
  go_wp2_with fail
  refine (wfixed_nil _ _ _ _).mono ?_
  rintro _ _ ⟨rfl, rfl⟩
  go_wp2
  go_end0
  exact ⟨rfl, rfl⟩
theorem wbool_nil (w : World) (x : Bool) : Calls Try.prog 29 #[.pointer none, .bool x] w fun e w' => e = .returned (.tuple #[]) ∧ Below w.heap.size w w' := by
  cases x
  · go_enter Try.func29, Try.ntmps29
    go_wp2_with fail
    refine (wfixed_nil _ _ _ _).mono ?_
    rintro _ _ ⟨rfl, rfl⟩
    go_wp2
    go_end0
    exact ⟨rfl, (Below.refl _ _).alloc (Nat.le_refl _) _⟩
  · go_enter Try.func29, Try.ntmps29
    go_wp2_with fail
    refine (wfixed_nil _ _ _ _).mono ?_
    rintro _ _ ⟨rfl, rfl⟩
    go_wp2
    refine bodyPost_ret (results_none rfl _ _ _) rfl ?_
    exact ⟨rfl, (Below.refl _ _).alloc (Nat.le_refl _) _⟩
theorem wout_nil (w : World) : Calls Try.prog 31 #[.pointer none] w fun r w' => r = .returned (.slice none 0 0) ∧ w = w' := by
  go_enter Try.func31, Try.ntmps31
  go_wp2
  go_ret
  exact ⟨rfl, rfl⟩

theorem uint_nil (w : World) : Calls Try.prog 11 #[.pointer none] w fun r w' => r = .returned (.int .u64 0) ∧ w = w' := by
  go_enter Try.func11, Try.ntmps11
  go_wp2_with (go_at_call 21; refine (err_nil _).mono ?_; rintro _ _ ⟨rfl, rfl⟩)
  go_ret
  exact ⟨rfl, rfl⟩
theorem take_nil (w : World) (k : Int) : Calls Try.prog 34 #[.pointer none, .int .i64 k] w fun r w' => r = .returned (.slice none 0 0) ∧ w = w' := by
  go_enter Try.func34, Try.ntmps34
  go_wp2_with (go_at_call 21; refine (err_nil _).mono ?_; rintro _ _ ⟨rfl, rfl⟩)
  go_ret
  exact ⟨rfl, rfl⟩
theorem fixed_nil (w : World) (k : Int) : Calls Try.prog 15 #[.pointer none, .int .i64 k] w fun r w' => r = .returned (.slice none 0 0) ∧ w = w' := by
  have hc := clone_nil
  go_enter Try.func15, Try.ntmps15
  go_wp2_with fail
  refine (take_nil _ _).mono ?_
  rintro _ _ ⟨rfl, rfl⟩
  go_wp2_with fail
  refine (hc _).mono ?_
  rintro _ _ ⟨rfl, rfl⟩
  go_wp2
  go_ret
  exact ⟨rfl, rfl⟩
theorem bytes_nil (w : World) (k : Int) : Calls Try.prog 13 #[.pointer none, .int .i64 k] w fun r w' => r = .returned (.slice none 0 0) ∧ w = w' := by
  go_enter Try.func13, Try.ntmps13
  go_wp2_with fail
  refine (uint_nil _).mono ?_
  rintro _ _ ⟨rfl, rfl⟩
  go_wp2_with fail
  refine (err_nil _).mono ?_
  rintro _ _ ⟨rfl, rfl⟩
  go_wp2
  go_ret
  exact ⟨rfl, rfl⟩
theorem bool_nil (w : World) : Calls Try.prog 17 #[.pointer none] w fun r w' => r = .returned (.bool false) ∧ w = w' := by
  have hnil := fun (w : World) (a : Option Addr) (n c : Nat) => Lib.run_eql_slice_nil (P := Try.prog) w 22 5 a n c 0 0 Try.underlying22
  go_enter Try.func17, Try.ntmps17
  go_wp2_with fail
  refine (take_nil _ _).mono ?_
  rintro _ _ ⟨rfl, rfl⟩
  go_wp2
  go_ret
  exact ⟨rfl, rfl⟩
theorem end_nil (w : World) : Calls Try.prog 22 #[.pointer none] w fun r w' => r = .returned (.int .i64 1) ∧ w = w' := by
  go_enter Try.func22, Try.ntmps22
  go_wp2_with (go_at_call 21; refine (err_nil _).mono ?_; rintro _ _ ⟨rfl, rfl⟩)
  go_ret
  exact ⟨rfl, rfl⟩
set_option maxHeartbeats 1000000 in
theorem id_nil (w : World) : Calls Try.prog 19 #[.pointer none] w fun r w' => r = .returned (.agg Z32) ∧ Below w.heap.size w w' := by
  have hnil := fun (w : World) (a : Option Addr) (n c : Nat) => Lib.run_eql_slice_nil (P := Try.prog) w 22 5 a n c 0 0 Try.underlying22
  go_enter Try.func19, Try.ntmps19
  go_wp2_with fail
  refine (take_nil _ _).mono ?_
  rintro _ _ ⟨rfl, rfl⟩
  have hg1 := heap_alloc_new w (.cells #[.int .u8 0, .int .u8 0, .int .u8 0, .int .u8 0, .int .u8 0, .int .u8 0, .int .u8 0, .int .u8 0, .int .u8 0, .int .u8 0, .int .u8 0, .int .u8 0, .int .u8 0, .int .u8 0, .int .u8 0, .int .u8 0,
    .int .u8 0, .int .u8 0, .int .u8 0, .int .u8 0, .int .u8 0, .int .u8 0, .int .u8 0, .int .u8 0, .int .u8 0, .int .u8 0, .int .u8 0, .int .u8 0, .int .u8 0, .int .u8 0, .int .u8 0, .int .u8 0] 42)
  go_wp2_with (first | (refine wpList_build0 (by rfl) 42 (by rfl) (.agg Z32) build_id ?_) | (refine wpList_store_row (by rfl) 42 (.tmp 2) (.tmp 8) (by rfl) w.heap.size Z32 (by rfl) (by rfl) 42 _ hg1 (by unfold Z32; rw [zeros32]; exact id_info) (by unfold Z32; rw [zeros32]) (u8s_all _) ?_))
  refine bodyPost_ret (results_cell_row rfl _ _ w.heap.size 42 Z32 (0, 0) _ rfl (setRow_at hg1) Try.underlying42 rfl (by unfold Z32; rw [zeros32]; exact id_info)) rfl ⟨rfl, ?_⟩
  have h1 : Below w.heap.size w (w.alloc (.cells #[.int .u8 0, .int .u8 0, .int .u8 0, .int .u8 0, .int .u8 0, .int .u8 0, .int .u8 0, .int .u8 0, .int .u8 0, .int .u8 0, .int .u8 0, .int .u8 0, .int .u8 0, .int .u8 0, .int .u8 0, .int .u8 0,
    .int .u8 0, .int .u8 0, .int .u8 0, .int .u8 0, .int .u8 0, .int .u8 0, .int .u8 0, .int .u8 0, .int .u8 0, .int .u8 0, .int .u8 0, .int .u8 0, .int .u8 0, .int .u8 0, .int .u8 0, .int .u8 0] 42)) := (Below.refl _ _).alloc (Nat.le_refl _) _
  exact h1.trans (below_gr (gr_row _ _ _) (Nat.le_refl _) (by simp))
end Go.Proofs.Ytbdondgonghooaa
