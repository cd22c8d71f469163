/-
  codec.Writer: Bytes, Bool, Out, NewWriter; a Writer and a Reader that are none.
  Files: a tree's bytes.
  What was put is read as it was: the pure part (for CodecBack).
  Files, pure: what was put is got.
  Files, pure: what is got, put again, is the bytes.
  Objects, pure: what is put is got, and the other way.
  Files: the reference's files in memory.
  Objects in memory: entries, ids, objects, the model's.
  Objects: nothing stands in its fields.
-/
import Derived.Test.YtmakpjcgiiljfaaDoorPk06
import Derived.Test.YtmakpjcgiiljfaaDoorPk04
import Derived.Test.YtmakpjcgiiljfaaDoorPk03
import Derived.Test.YtmakpjcgiiljfaaDoorPk05
import Derived.Test.YtmakpjcgiiljfaaDoorPk02
/-! codec.Writer: Bytes, Bool, Out, NewWriter; a Writer and a Reader that are none. -/
namespace Go.Proofs.YtmakpjcgiiljfaaDoor
open Go.RowKit Codec

theorem Put.join {w w1 w2 : World} {S : Nat → Prop} {p : Nat} {l m : List UInt8} {e1 e2 : Ending} (h1 : Put w S p l e1 w1) (h2 : Put w1 (fun b => S b ∨ w.heap.size ≤ b) p m e2 w2) : Put w S p m (.returned (.tuple #[])) w2 :=
  ⟨rfl, h2.2.1.mono fun _ _ hs => by
    rcases hs with hs | hs
    · exact hs
    · exact .inr (Nat.le_trans h1.2.2.size hs),
   h1.2.2.trans h2.2.2 fun i hi hs => by
    rcases hs with hs | hs
    · exact hs
    · omega⟩
/-- Where all from B on is the writer's own. -/
theorem Put.from {w w' : World} {B p : Nat} {l : List UInt8} {e : Ending} (h : Put w (B ≤ ·) p l e w') (hB : B ≤ w.heap.size) : Wr w' (B ≤ ·) p l ∧ Below B w w' :=
  ⟨h.2.1.mono fun _ _ hs => by rcases hs with hs | hs <;> omega, h.2.2.below hB⟩

set_option maxHeartbeats 1000000 in
theorem wbytes {w : World} {S T : Nat → Prop} {p : Nat} {l m : List UInt8} {A : Option Addr} {n c : Nat} (h : Wr w S p l) (hm : Byt w T A n c m) (hd : ∀ b, b < w.heap.size → T b → ¬ S b) (hb : l.length + 10 + n ≤ 140737488355328) :
    Calls Tryd.prog 20 #[.pointer (some ⟨p, 0, none⟩), .slice A n c] w (Put w S p (l ++ (put m.length ++ m))) := by
  have hn : n < 18446744073709551616 := by omega
  have hml := hm.len
  have hput := put_length_64 (x := n) (by omega)
  have hu := wuint (x := n) h hn (by omega)
  have HB := Lib.hid hb
  have HM := Lib.hid hml
  clear hml
  go_enter Tryd.func20, Tryd.ntmps20
  go_wp2_with fail
  refine hu.mono ?_
  rintro _ w1 ⟨rfl, h1⟩
  go_wp2_with fail
  refine (wfixed h1.1 (hm.turned h1.2 hd) (by have := HB.out; simp; omega)).mono ?_
  rintro _ w2 ⟨rfl, h2⟩
  go_wp2
  go_end0
  have h3 := Put.join (e1 := .returned (.tuple #[])) (e2 := .returned (.tuple #[])) ⟨rfl, h1⟩ ⟨rfl, h2⟩
  rw [HM.out]
  rw [List.append_assoc] at h3
  exact h3

set_option maxHeartbeats 1000000 in
theorem wbool {w : World} {S : Nat → Prop} {p : Nat} {l : List UInt8} (h : Wr w S p l) (x : Bool) (hb : l.length + 1 ≤ 140737488355328) :
    Calls Tryd.prog 22 #[.pointer (some ⟨p, 0, none⟩), .bool x] w (Put w S p (l ++ [if x then 1 else 0])) := by
  have one : ∀ v : UInt8, Byt (w.alloc (.cells #[.int .u8 (v.toNat : Int)] 5)) (w.heap.size ≤ ·) (some ⟨w.heap.size, 0, none⟩) 1 1 [v] := fun v =>
    ⟨rfl, Nat.le_refl _, by unfold maxLen; omega, fun _ => ⟨w.heap.size, 0, rfl, Nat.le_refl _, by simp, fun i hi => by
      obtain rfl : i = 0 := by omega
      rw [cell_of_cells (heap_alloc_new w _)]; rfl⟩⟩
  have hT : ∀ o, Turned S w (w.alloc o) := fun o => (Turned.refl S w).alloc o
  have hW : ∀ o, Wr (w.alloc o) S p l := fun o => h.turned (T := fun _ => False) ((Turned.refl _ w).alloc o) (fun _ _ _ hf => hf)
  have fin : ∀ (o : Obj) (m : List UInt8) (e : Ending) (w2 : World), Put (w.alloc o) S p m e w2 → Put w S p m e w2 := fun o m e w2 h2 =>
    ⟨h2.1, h2.2.1.mono fun b _ hs => by
      rcases hs with hs | hs
      · exact .inl hs
      · simp at hs; exact .inr (by omega), (hT o).trans h2.2.2 fun _ _ hs => hs⟩
  cases x
  · have h0 := one 0
    simp only [show ((0 : UInt8).toNat : Int) = 0 from rfl] at h0
    go_enter Tryd.func22, Tryd.ntmps22
    go_wp2_with fail
    refine (wfixed (hW _) h0 hb).mono ?_
    rintro _ w2 ⟨rfl, h2⟩
    go_wp2
    go_end0
    exact fin _ _ _ _ ⟨rfl, h2⟩
  · have h0 := one 1
    simp only [show ((1 : UInt8).toNat : Int) = 1 from rfl] at h0
    go_enter Tryd.func22, Tryd.ntmps22
    go_wp2_with fail
    refine (wfixed (hW _) h0 hb).mono ?_
    rintro _ w2 ⟨rfl, h2⟩
    go_wp2
    refine bodyPost_ret (results_none rfl _ _ _) rfl ?_
    exact fin _ _ _ _ ⟨rfl, h2⟩

/-- What a writer holds, as bytes in its own row. -/
theorem wr_byt {w : World} {S : Nat → Prop} {p : Nat} {l : List UInt8} (h : Wr w S p l) : ∃ A c, w.cell? ⟨p, 0, none⟩ = some (.slice A l.length c) ∧ Byt w (fun _ => True) A l.length c l := by
  obtain ⟨_, A, c, hh, ho, _⟩ := h
  obtain ⟨A', c', hv, hb⟩ := own_byt ho
  injection hv with h1 _ h2
  subst h1 h2
  exact ⟨A, c, by rw [cell_of_cells hh 0]; rfl, hb.mono fun _ _ _ => trivial⟩

set_option maxHeartbeats 1000000 in
theorem wout {w : World} {S : Nat → Prop} {p : Nat} {l : List UInt8} (h : Wr w S p l) (hb : l.length ≤ 140737488355328) :
    Calls Tryd.prog 23 #[.pointer (some ⟨p, 0, none⟩)] w fun r w' => ∃ A c, r = .returned (.slice A l.length c) ∧ Byt w' (w.heap.size ≤ ·) A l.length c l ∧ Below w.heap.size w w' ∧ FreeRow w' A := by
  obtain ⟨A0, c0, h0, hY⟩ := wr_byt h
  go_enter Tryd.func23, Tryd.ntmps23
  go_wp2_with fail
  refine (clone_byt hY hb).mono ?_
  rintro _ w1 ⟨A, c, rfl, hY1, hb1, _, hF1⟩
  go_wp2
  go_ret
  exact ⟨A, c, rfl, hY1, hb1, hF1⟩

theorem newWriter (w : World) :
    Calls Tryd.prog 18 #[] w fun r w' => ∃ p, r = .returned (.pointer (some ⟨p, 0, none⟩)) ∧ Wr w' (w.heap.size ≤ ·) p [] ∧ Below w.heap.size w w' := by
  go_enter Tryd.func18, Tryd.ntmps18
  go_wp2
  go_ret
  exact ⟨w.heap.size, rfl, ⟨Nat.le_refl _, none, 0, heap_alloc_new w _, World.ownsRow_nil _ _ _ _, fun a h => by cases h⟩, (Below.refl _ _).alloc (Nat.le_refl _) _⟩

/-! None -/
theorem wuint_nil (w : World) (x : Int) : Calls Tryd.prog 19 #[.pointer none, .int .u64 x] w fun e w' => e = .returned (.tuple #[]) ∧ w = w' := by
  go_enter Tryd.func19, Tryd.ntmps19
  go_wp2
  refine bodyPost_ret (results_none rfl _ _ _) rfl ?_
  exact ⟨rfl, rfl⟩
theorem wfixed_nil (w : World) (A : Option Addr) (n c : Nat) : Calls Tryd.prog 21 #[.pointer none, .slice A n c] w fun e w' => e = .returned (.tuple #[]) ∧ w = w' := by
  go_enter Tryd.func21, Tryd.ntmps21
  go_wp2
  refine bodyPost_ret (results_none rfl _ _ _) rfl ?_
  exact ⟨rfl, rfl⟩
theorem wbytes_nil (w : World) (A : Option Addr) (n c : Nat) : Calls Tryd.prog 20 #[.pointer none, .slice A n c] w fun e w' => e = .returned (.tuple #[]) ∧ w = w' := by
  go_enter Tryd.func20, Tryd.ntmps20
  go_wp2_with fail
  refine (wuint_nil _ _).mono ?_
  rintro _ _ ⟨rfl, rfl⟩
  go_wp2_with fail
  refine (wfixed_nil _ _ _ _).mono ?_
  rintro _ _ ⟨rfl, rfl⟩
  go_wp2
  go_end0
  exact ⟨rfl, rfl⟩
theorem wbool_nil (w : World) (x : Bool) : Calls Tryd.prog 22 #[.pointer none, .bool x] w fun e w' => e = .returned (.tuple #[]) ∧ Below w.heap.size w w' := by
  cases x
  · go_enter Tryd.func22, Tryd.ntmps22
    go_wp2_with fail
    refine (wfixed_nil _ _ _ _).mono ?_
    rintro _ _ ⟨rfl, rfl⟩
    go_wp2
    go_end0
    exact ⟨rfl, (Below.refl _ _).alloc (Nat.le_refl _) _⟩
  · go_enter Tryd.func22, Tryd.ntmps22
    go_wp2_with fail
    refine (wfixed_nil _ _ _ _).mono ?_
    rintro _ _ ⟨rfl, rfl⟩
    go_wp2
    refine bodyPost_ret (results_none rfl _ _ _) rfl ?_
    exact ⟨rfl, (Below.refl _ _).alloc (Nat.le_refl _) _⟩
theorem wout_nil (w : World) : Calls Tryd.prog 23 #[.pointer none] w fun r w' => r = .returned (.slice none 0 0) ∧ w = w' := by
  go_enter Tryd.func23, Tryd.ntmps23
  go_wp2
  go_ret
  exact ⟨rfl, rfl⟩

theorem uint_nil (w : World) : Calls Tryd.prog 44 #[.pointer none] w fun r w' => r = .returned (.int .u64 0) ∧ w = w' := by
  go_enter Tryd.func44, Tryd.ntmps44
  go_wp2_with (go_at_call 45; refine (err_nil _).mono ?_; rintro _ _ ⟨rfl, rfl⟩)
  go_ret
  exact ⟨rfl, rfl⟩
theorem take_nil (w : World) (k : Int) : Calls Tryd.prog 56 #[.pointer none, .int .i64 k] w fun r w' => r = .returned (.slice none 0 0) ∧ w = w' := by
  go_enter Tryd.func56, Tryd.ntmps56
  go_wp2_with (go_at_call 45; refine (err_nil _).mono ?_; rintro _ _ ⟨rfl, rfl⟩)
  go_ret
  exact ⟨rfl, rfl⟩
theorem fixed_nil (w : World) (k : Int) : Calls Tryd.prog 55 #[.pointer none, .int .i64 k] w fun r w' => r = .returned (.slice none 0 0) ∧ w = w' := by
  have hc := clone_nil
  go_enter Tryd.func55, Tryd.ntmps55
  go_wp2_with fail
  refine (take_nil _ _).mono ?_
  rintro _ _ ⟨rfl, rfl⟩
  go_wp2_with fail
  refine (hc _).mono ?_
  rintro _ _ ⟨rfl, rfl⟩
  go_wp2
  go_ret
  exact ⟨rfl, rfl⟩
theorem bytes_nil (w : World) (k : Int) : Calls Tryd.prog 46 #[.pointer none, .int .i64 k] w fun r w' => r = .returned (.slice none 0 0) ∧ w = w' := by
  go_enter Tryd.func46, Tryd.ntmps46
  go_wp2_with fail
  refine (uint_nil _).mono ?_
  rintro _ _ ⟨rfl, rfl⟩
  go_wp2_with fail
  refine (err_nil _).mono ?_
  rintro _ _ ⟨rfl, rfl⟩
  go_wp2
  go_ret
  exact ⟨rfl, rfl⟩
theorem bool_nil (w : World) : Calls Tryd.prog 57 #[.pointer none] w fun r w' => r = .returned (.bool false) ∧ w = w' := by
  have hnil := fun (w : World) (a : Option Addr) (n c : Nat) => Lib.run_eql_slice_nil (P := Tryd.prog) w 22 5 a n c 0 0 Tryd.underlying22
  go_enter Tryd.func57, Tryd.ntmps57
  go_wp2_with fail
  refine (take_nil _ _).mono ?_
  rintro _ _ ⟨rfl, rfl⟩
  go_wp2
  go_ret
  exact ⟨rfl, rfl⟩
theorem end_nil (w : World) : Calls Tryd.prog 32 #[.pointer none] w fun r w' => r = .returned (.int .i64 1) ∧ w = w' := by
  go_enter Tryd.func32, Tryd.ntmps32
  go_wp2_with (go_at_call 45; refine (err_nil _).mono ?_; rintro _ _ ⟨rfl, rfl⟩)
  go_ret
  exact ⟨rfl, rfl⟩
end Go.Proofs.YtmakpjcgiiljfaaDoor

/-! Files: a tree's bytes. -/
namespace Go.Proofs.YtmakpjcgiiljfaaDoor
open Go.RowKit Codec

/-- What a tree that may be is bounded by. -/
structure FiOk (l : Tb) : Prop where
  few : l.length ≤ 65536
  path : ∀ x ∈ l, x.1.length ≤ 255
  one : ∀ x ∈ l, x.2.length ≤ 1048576
  all : allF l ≤ 16777216
theorem chk_ok {l : Tb} (h : chkE l = 0) : riseB l = true ∧ clashB l = false ∧ tooB l = false := by
  unfold chkE at h
  split at h
  · cases h
  · rename_i h1
    split at h
    · cases h
    · rename_i h2
      simp only [not_or] at h1
      exact ⟨by simpa using h1.1, by simpa using h1.2, by simpa using h2⟩
theorem fi_ok {l : Tb} (h : chkE l = 0) : FiOk l := by
  obtain ⟨h1, _, h3⟩ := chk_ok h
  unfold tooB at h3
  simp only [Bool.or_eq_false_iff, decide_eq_false_iff_not] at h3
  refine ⟨by omega, fun x hx => pathOk_len (rise_path h1 x hx), fun x hx => ?_, by omega⟩
  have := List.any_eq_false.1 h3.1.2 x hx
  simp at this
  omega
def filEs (l : Tb) : List UInt8 := (l.map filE).flatten
theorem filEs_snoc (l : Tb) (x : Fi) : filEs (l ++ [x]) = filEs l ++ filE x := by simp [filEs]
theorem filE_len {x : Fi} (h1 : x.1.length ≤ 255) (h2 : x.2.length ≤ 1048576) : (filE x).length ≤ 275 + x.2.length := by
  unfold filE
  have e1 := put_length_64 (x := x.1.length) (by omega)
  have e2 := put_length_64 (x := x.2.length) (by omega)
  simp only [List.length_append]
  omega
theorem filEs_len : ∀ (l : Tb), (∀ x ∈ l, x.1.length ≤ 255) → (∀ x ∈ l, x.2.length ≤ 1048576) → (filEs l).length ≤ 275 * l.length + allF l
  | [], _, _ => by simp [filEs]
  | x :: l, h1, h2 => by
    have ih := filEs_len l (fun y hy => h1 y (List.mem_cons_of_mem _ hy)) fun y hy => h2 y (List.mem_cons_of_mem _ hy)
    have h := filE_len (h1 x List.mem_cons_self) (h2 x List.mem_cons_self)
    have e : filEs (x :: l) = filE x ++ filEs l := by simp [filEs]
    rw [e, List.length_append, List.length_cons]
    have e2 : allF (x :: l) = x.2.length + allF l := by simp [allF]
    rw [e2]
    omega
theorem FiOk.take {l : Tb} (h : FiOk l) (j : Nat) : (filEs (l.take j)).length ≤ 40000000 := by
  have h1 := filEs_len (l.take j) (fun x hx => h.path x (List.mem_of_mem_take hx)) fun x hx => h.one x (List.mem_of_mem_take hx)
  have h2 := allF_take l j
  have h3 := h.few
  have h4 := h.all
  have h5 : (l.take j).length ≤ l.length := by rw [List.length_take]; omega
  omega
/-- What Put tells. -/
def fpB (l : Tb) : List UInt8 := if chkE l = 0 then filB l else []
/-- While it is written. -/
def FpR (w : World) (p : Nat) (pre : List UInt8) (l : Tb) (i : Value) (wr : World) : Prop :=
  ∃ j : Nat, j ≤ l.length ∧ i = .int .i64 (j : Int) ∧ Wr wr (w.heap.size ≤ ·) p (pre ++ filEs (l.take j)) ∧ Below w.heap.size w wr
end Go.Proofs.YtmakpjcgiiljfaaDoor

/-! What was put is read as it was: the pure part (for CodecBack). -/
namespace Go.Proofs.YtmakpjcgiiljfaaDoor
open Go.RowKit Codec
theorem fixed_back (b R : List UInt8) (n : Nat) (h : b.length = n) : tkE (b ++ R) 0 (n : Int) = 0 ∧ fxL (b ++ R) 0 (n : Int) = R ∧ fxB (b ++ R) 0 (n : Int) = b := by
  have e : tkE (b ++ R) 0 (n : Int) = 0 := by
    unfold tkE
    rw [if_neg (by simp), if_neg (by omega), if_neg (by simp; omega)]
  refine ⟨e, ?_, ?_⟩
  · unfold fxL; rw [if_pos e]; simp [← h]
  · unfold fxB; rw [if_pos e]; simp [← h]
theorem uint_back (x : Nat) (R : List UInt8) (hx : x < 18446744073709551616) : (rd 0 (put x ++ R)).1 = x ∧ (put x ++ R).drop (rd 0 (put x ++ R)).2.1 = R ∧ (rd 0 (put x ++ R)).2.2 = 0 := by
  rw [rd_put0 hx]
  exact ⟨rfl, List.drop_left, rfl⟩
theorem bytes_back (b R : List UInt8) (h : b.length ≤ 200) : byE ((put b.length ++ b) ++ R) 0 200 = 0 ∧ byL ((put b.length ++ b) ++ R) 0 200 = R ∧ byB ((put b.length ++ b) ++ R) 0 200 = b := by
  obtain ⟨h1, h2, h3⟩ := uint_back b.length (b ++ R) (by omega)
  rw [List.append_assoc]
  have e1 : uiX (put b.length ++ (b ++ R)) 0 = b.length := by unfold uiX; rw [if_pos rfl, h1]
  have e2 : uiL (put b.length ++ (b ++ R)) 0 = b ++ R := by unfold uiL; rw [if_pos rfl, h2]
  have e3 : uiE (put b.length ++ (b ++ R)) 0 = 0 := by unfold uiE; rw [if_pos rfl, h3]; rfl
  obtain ⟨f1, f2, f3⟩ := fixed_back b R b.length rfl
  unfold byE byL byB
  rw [e1, e2, e3]
  have hn : ¬ ((200 : Int) < 0 ∨ (200 : Int) < (b.length : Int)) := by omega
  rw [if_neg (by simp), if_neg hn, if_neg (by simp), if_neg hn, if_neg (by simp), if_neg hn]
  exact ⟨f1, f2, f3⟩
theorem bool_back (v : UInt8) (R : List UInt8) (hv : v.toNat ≤ 1) : boE (v :: R) 0 = 0 ∧ fxL (v :: R) 0 1 = R ∧ boX (v :: R) 0 = (v.toNat == 1) := by
  have e : tkE (v :: R) 0 1 = 0 := by
    unfold tkE
    rw [if_neg (by simp), if_neg (by omega), if_neg (by simp; omega)]
  refine ⟨?_, ?_, ?_⟩
  · unfold boE; rw [e, if_neg (by simp), if_neg (by simp; omega)]
  · unfold fxL; rw [if_pos e]; rfl
  · unfold boX; rw [e, if_neg (by simp)]; rfl
end Go.Proofs.YtmakpjcgiiljfaaDoor

/-! Files, pure: what was put is got. -/
namespace Go.Proofs.YtmakpjcgiiljfaaDoor
open Go.RowKit Codec

theorem fui_back (x : Nat) (R : List UInt8) (hx : x < 18446744073709551616) : uiX (put x ++ R) 0 = x ∧ uiL (put x ++ R) 0 = R ∧ uiE (put x ++ R) 0 = 0 := by
  obtain ⟨h1, h2, h3⟩ := uint_back x R hx
  exact ⟨by unfold uiX; rw [if_pos rfl, h1], by unfold uiL; rw [if_pos rfl, h2], by unfold uiE; rw [if_pos rfl, h3]; rfl⟩
theorem frow_back (b R : List UInt8) (m : Nat) (h : b.length ≤ m) (hm : m ≤ 2000000) : byE (put b.length ++ (b ++ R)) 0 (m : Int) = 0 ∧ byL (put b.length ++ (b ++ R)) 0 (m : Int) = R ∧ byB (put b.length ++ (b ++ R)) 0 (m : Int) = b := by
  obtain ⟨e1, e2, e3⟩ := fui_back b.length (b ++ R) (by omega)
  obtain ⟨f1, f2, f3⟩ := fixed_back b R b.length rfl
  unfold byE byL byB
  rw [e1, e2, e3]
  have hn : ¬ ((m : Int) < 0 ∨ (m : Int) < (b.length : Int)) := by omega
  rw [if_neg (by simp), if_neg hn, if_neg (by simp), if_neg hn, if_neg (by simp), if_neg hn]
  exact ⟨f1, f2, f3⟩
theorem fgGo_back : ∀ (l acc : Tb) (R : List UInt8), (∀ x ∈ l, x.1.length ≤ 255) → (∀ x ∈ l, x.2.length ≤ 1048576) → fgGo l.length acc (filEs l ++ R) 0 = (acc ++ l, R, 0)
  | [], acc, R, _, _ => by simp [fgGo, filEs]
  | x :: l, acc, R, h1, h2 => by
    have e : filEs (x :: l) ++ R = put x.1.length ++ (x.1 ++ (put x.2.length ++ (x.2 ++ (filEs l ++ R)))) := by simp [filEs, filE]
    obtain ⟨a1, a2, a3⟩ := frow_back x.1 (put x.2.length ++ (x.2 ++ (filEs l ++ R))) 255 (h1 x List.mem_cons_self) (by omega)
    obtain ⟨b1, b2, b3⟩ := frow_back x.2 (filEs l ++ R) 1048576 (h2 x List.mem_cons_self) (by omega)
    have a1' : byE (put x.1.length ++ (x.1 ++ (put x.2.length ++ (x.2 ++ (filEs l ++ R))))) 0 255 = 0 := a1
    have a2' : byL (put x.1.length ++ (x.1 ++ (put x.2.length ++ (x.2 ++ (filEs l ++ R))))) 0 255 = _ := a2
    have a3' : byB (put x.1.length ++ (x.1 ++ (put x.2.length ++ (x.2 ++ (filEs l ++ R))))) 0 255 = _ := a3
    have b1' : byE (put x.2.length ++ (x.2 ++ (filEs l ++ R))) 0 1048576 = 0 := b1
    have b2' : byL (put x.2.length ++ (x.2 ++ (filEs l ++ R))) 0 1048576 = _ := b2
    have b3' : byB (put x.2.length ++ (x.2 ++ (filEs l ++ R))) 0 1048576 = _ := b3
    rw [e, List.length_cons, fgGo, a1', a2', a3', b1', b2', b3', if_neg (by simp), fgGo_back l (acc ++ [(x.1, x.2)]) R (fun y hy => h1 y (List.mem_cons_of_mem _ hy)) fun y hy => h2 y (List.mem_cons_of_mem _ hy)]
    simp
/-- WHAT IS PUT IS GOT. -/
theorem get_put {l : Tb} (h : chkE l = 0) : getF (filB l) = (l, 0) := by
  have ho := fi_ok h
  have e : filB l = put l.length ++ filEs l := rfl
  obtain ⟨e1, e2, e3⟩ := fui_back l.length (filEs l) (by have := ho.few; omega)
  unfold getF
  rw [e, e1, e2, e3, if_neg (by have := ho.few; omega)]
  have hg := fgGo_back l [] [] ho.path ho.one
  rw [List.append_nil, List.nil_append] at hg
  rw [hg, fgEnd]
  simp only
  rw [if_neg (by simp [endE]), if_neg (by simp [h])]
theorem rise_ris : ∀ {l : Tb}, riseB l = true → Ris l := by
  intro l h i k x y hik hi hk
  -- each one is above the one ahead
  have step : ∀ (l : Tb), riseB l = true → ∀ (i : Nat) (x y : Fi), l[i]? = some x → l[i + 1]? = some y → x.1 < y.1 := by
    intro l
    induction l with
    | nil => intro _ i x y hx; simp at hx
    | cons z t ih =>
      intro h i x y hx hy
      unfold riseB at h
      simp only [Bool.and_eq_true] at h
      cases i with
      | zero =>
        simp at hx hy
        subst hx
        cases t with
        | nil => simp at hy
        | cons u t =>
          simp at hy
          subst hy
          simpa using h.1.2
      | succ i => exact ih h.2 i x y (by simpa using hx) (by simpa using hy)
  have key : ∀ d i x y, l[i]? = some x → l[i + d + 1]? = some y → x.1 < y.1 := by
    intro d
    induction d with
    | zero => exact fun i x y hx hy => step l h i x y hx hy
    | succ d ih =>
      intro i x y hx hy
      obtain ⟨z, hz⟩ : ∃ z, l[i + d + 1]? = some z := ⟨_, List.getElem?_eq_getElem (by have := (List.getElem?_eq_some_iff.1 hy).1; omega)⟩
      exact klt_tr (ih i x z hx hz) (step l h (i + d + 1) z y hz hy)
  exact key (k - i - 1) i x y hi (by rw [show i + (k - i - 1) + 1 = k by omega]; exact hk)
end Go.Proofs.YtmakpjcgiiljfaaDoor

/-! Files, pure: what is got, put again, is the bytes. -/
namespace Go.Proofs.YtmakpjcgiiljfaaDoor
open Go.RowKit Codec

theorem fend_zero {l : List UInt8} {e : Int} (h : endE l e = 0) : e = 0 ∧ l = [] := by
  unfold endE at h
  split at h
  · rename_i h1; exact absurd h h1
  · rename_i h1
    refine ⟨Classical.not_not.1 h1, ?_⟩
    cases l with
    | nil => rfl
    | cons c t => simp at h
theorem ui_put {l : List UInt8} (h : uiE l 0 = 0) : put (uiX l 0) ++ uiL l 0 = l := by
  unfold uiE at h
  unfold uiX uiL
  rw [if_pos rfl] at h ⊢
  rw [if_pos rfl]
  have hp := put_rd 0 l (by omega) (by simpa using h)
  rw [hp.1, List.take_append_drop]
theorem by_put {l : List UInt8} {m : Int} (h : byE l 0 m = 0) : put (byB l 0 m).length ++ (byB l 0 m ++ byL l 0 m) = l := by
  unfold byE at h
  split at h
  · rename_i h1; exact absurd h h1
  · rename_i h1
    split at h
    · simp at h
    · rename_i h2
      have h3 := tkE_zero h
      have hb : byB l 0 m = (uiL l 0).take (uiX l 0) := by
        unfold byB
        rw [if_neg h1, if_neg h2]
        unfold fxB
        rw [if_pos h, Int.toNat_natCast]
      have hl : byL l 0 m = (uiL l 0).drop (uiX l 0) := by
        unfold byL
        rw [if_neg h1, if_neg h2]
        unfold fxL
        rw [if_pos h, Int.toNat_natCast]
      have hn : ((uiL l 0).take (uiX l 0)).length = uiX l 0 := by
        rw [List.length_take]
        have := h3.2.2
        rw [Int.toNat_natCast] at this
        omega
      rw [hb, hl, hn, List.take_append_drop]
      exact ui_put (Classical.not_not.1 h1)
theorem fgGo_put : ∀ (M : Nat) (acc : Tb) (l : List UInt8) (e : Int) (r : Tb) (l' : List UInt8), fgGo M acc l e = (r, l', 0) → e = 0 ∧ ∃ t, r = acc ++ t ∧ t.length = M ∧ filEs t ++ l' = l
  | 0, acc, l, e, r, l', h => by
    simp only [fgGo, Prod.mk.injEq] at h
    obtain ⟨rfl, rfl, rfl⟩ := h
    exact ⟨rfl, [], by simp, rfl, by simp [filEs]⟩
  | M + 1, acc, l, e, r, l', h => by
    unfold fgGo at h
    split at h
    · rename_i h1
      simp only [Prod.mk.injEq] at h
      exact absurd h.2.2 h1
    · rename_i h1
      have h3 := Classical.not_not.1 h1
      obtain ⟨e1, _⟩ := by_take _ _ _ (.inr h3)
      obtain ⟨e0, _⟩ := by_take _ _ _ (.inr e1)
      subst e0
      rw [e1] at h h3
      obtain ⟨_, t, rfl, ht, hb⟩ := fgGo_put M _ _ _ _ _ h
      refine ⟨rfl, (byB l 0 255, byB (byL l 0 255) 0 1048576) :: t, by simp, by simp [ht], ?_⟩
      have p1 := by_put e1
      have p2 := by_put h3
      have e : filEs ((byB l 0 255, byB (byL l 0 255) 0 1048576) :: t) = put (byB l 0 255).length ++ (byB l 0 255 ++ (put (byB (byL l 0 255) 0 1048576).length ++ (byB (byL l 0 255) 0 1048576 ++ filEs t))) := by simp [filEs, filE]
      rw [e]
      simp only [List.append_assoc]
      rw [hb, p2, p1]
/-- WHAT IS GOT, PUT AGAIN. -/
theorem put_get {b : List UInt8} {l : Tb} (h : getF b = (l, 0)) : chkE l = 0 ∧ filB l = b := by
  unfold getF at h
  split at h
  · simp at h
  · unfold fgEnd at h
    generalize hr : fgGo (uiX b 0) [] (uiL b 0) (uiE b 0) = r at h
    obtain ⟨acc, l', e⟩ := r
    simp only at h
    split at h
    · rename_i h1
      simp only [Prod.mk.injEq] at h
      exact absurd h.2 h1
    · rename_i h1
      split at h
      · simp at h
      · rename_i h2
        simp only [Prod.mk.injEq, and_true] at h
        subst h
        obtain ⟨rfl, rfl⟩ := fend_zero (Classical.not_not.1 h1)
        obtain ⟨he, t, ht, hl, hb⟩ := fgGo_put _ _ _ _ _ _ hr
        rw [List.nil_append] at ht
        subst ht
        refine ⟨Classical.not_not.1 h2, ?_⟩
        have e : filB acc = put acc.length ++ filEs acc := rfl
        rw [List.append_nil] at hb
        rw [e, hb, hl]
        exact ui_put he
theorem getF_bad {b : List UInt8} (h : (getF b).2 ≠ 0) : (getF b).1 = [] := by
  unfold getF fgEnd at h ⊢
  split
  · rfl
  · rename_i h1
    rw [if_neg h1] at h
    split
    · rfl
    · rename_i h2
      rw [if_neg h2] at h
      split
      · rfl
      · rename_i h3
        rw [if_neg h3] at h
        exact absurd rfl h
theorem getF_len (b : List UInt8) : (getF b).1.length ≤ 65536 := by
  by_cases h : (getF b).2 = 0
  · obtain ⟨h1, _⟩ := put_get (b := b) (l := (getF b).1) (by rw [← h])
    exact (fi_ok h1).few
  · rw [getF_bad h]
    simp
end Go.Proofs.YtmakpjcgiiljfaaDoor

/-! Objects, pure: what is put is got, and the other way. -/
namespace Go.Proofs.YtmakpjcgiiljfaaDoor
open Go.RowKit Codec

theorem id_back {x R : List UInt8} (h : x.length = 32) : idL (x ++ R) 0 = x ∧ fxL (x ++ R) 0 32 = R ∧ tkE (x ++ R) 0 32 = 0 := by
  obtain ⟨h1, h2, _⟩ := fixed_back x R 32 h
  have h1' : tkE (x ++ R) 0 32 = 0 := h1
  refine ⟨?_, h2, h1'⟩
  unfold idL
  rw [if_pos h1', List.take_append_of_le_length (by omega), List.take_of_length_le (by omega)]
theorem yes_back (b : Bool) (R : List UInt8) : boE (yesB b ++ R) 0 = 0 ∧ fxL (yesB b ++ R) 0 1 = R ∧ boX (yesB b ++ R) 0 = b := by
  cases b
  · exact bool_back 0 R (by decide)
  · exact bool_back 1 R (by decide)
theorem igo_back : ∀ (l acc : List (List UInt8)) (R : List UInt8), (∀ x ∈ l, x.length = 32) → igo l.length acc (l.flatten ++ R) 0 = (acc ++ l, R, 0)
  | [], acc, R, _ => by simp [igo]
  | x :: l, acc, R, h => by
    obtain ⟨a1, a2, a3⟩ := id_back (x := x) (R := l.flatten ++ R) (h x List.mem_cons_self)
    rw [List.length_cons, List.flatten_cons, List.append_assoc, igo, a1, a2, a3, igo_back l (acc ++ [x]) R fun y hy => h y (List.mem_cons_of_mem _ hy)]
    simp
theorem en_back {y : En} {R : List UInt8} (h1 : y.1.length ≤ 255) (h2 : y.2.2.length = 32) : (enN (enB y ++ R) 0, enD (enB y ++ R) 0, enI (enB y ++ R) 0) = y ∧ enL3 (enB y ++ R) 0 = R ∧ enE3 (enB y ++ R) 0 = 0 := by
  obtain ⟨n, d, i⟩ := y
  have e : enB (n, d, i) ++ R = put n.length ++ (n ++ (yesB d ++ (i ++ R))) := by simp [enB]
  obtain ⟨a1, a2, a3⟩ := frow_back n (yesB d ++ (i ++ R)) 255 h1 (by omega)
  have a1' : byE (put n.length ++ (n ++ (yesB d ++ (i ++ R)))) 0 255 = 0 := a1
  have a2' : byL (put n.length ++ (n ++ (yesB d ++ (i ++ R)))) 0 255 = _ := a2
  have a3' : byB (put n.length ++ (n ++ (yesB d ++ (i ++ R)))) 0 255 = _ := a3
  obtain ⟨b1, b2, b3⟩ := yes_back d (i ++ R)
  obtain ⟨c1, c2, c3⟩ := id_back (R := R) h2
  have c1' : idL (i ++ R) 0 = i := c1
  have c2' : fxL (i ++ R) 0 32 = R := c2
  have c3' : tkE (i ++ R) 0 32 = 0 := c3
  have f1 : enN (enB (n, d, i) ++ R) 0 = n := by unfold enN; rw [e]; exact a3'
  have g1 : enL1 (enB (n, d, i) ++ R) 0 = yesB d ++ (i ++ R) := by unfold enL1; rw [e]; exact a2'
  have g2 : enE1 (enB (n, d, i) ++ R) 0 = 0 := by unfold enE1; rw [e]; exact a1'
  have f2 : enD (enB (n, d, i) ++ R) 0 = d := by unfold enD; rw [g1, g2]; exact b3
  have g3 : enL2 (enB (n, d, i) ++ R) 0 = i ++ R := by unfold enL2; rw [g1, g2]; exact b2
  have g4 : enE2 (enB (n, d, i) ++ R) 0 = 0 := by unfold enE2; rw [g1, g2]; exact b1
  have f3 : enI (enB (n, d, i) ++ R) 0 = i := by unfold enI; rw [g3, g4]; exact c1'
  refine ⟨by rw [f1, f2, f3], ?_, ?_⟩
  · unfold enL3; rw [g3, g4]; exact c2'
  · unfold enE3; rw [g3, g4]; exact c3'
theorem ego_back : ∀ (l acc : List En) (R : List UInt8), (∀ x ∈ l, x.1.length ≤ 255) → (∀ x ∈ l, x.2.2.length = 32) → ego l.length acc (ensB l ++ R) 0 = (acc ++ l, R, 0)
  | [], acc, R, _, _ => by simp [ego, ensB]
  | x :: l, acc, R, h1, h2 => by
    obtain ⟨a1, a2, a3⟩ := en_back (R := ensB l ++ R) (h1 x List.mem_cons_self) (h2 x List.mem_cons_self)
    have e : ensB (x :: l) ++ R = enB x ++ (ensB l ++ R) := by simp [ensB]
    rw [List.length_cons, e, ego, a1, a2, a3, ego_back l (acc ++ [x]) R (fun y hy => h1 y (List.mem_cons_of_mem _ hy)) fun y hy => h2 y (List.mem_cons_of_mem _ hy)]
    simp
theorem endO_fine {x : Ob} (h : chkO x = 0) : endO (x, 0, [], 0) = (x, 0) := by
  unfold endO
  simp only
  rw [if_neg (by simp), if_neg (by simp [endE]), if_neg (by simp [h])]
/-- WHAT IS PUT IS GOT. -/
theorem obj_get_put {x : Ob} (hw : x.Wf) (h : chkO x = 0) : getO (putO x) = (x, 0) := by
  have hs := may_small (chk_may h)
  have hz := hw.z
  have h0 : readO (putO x) = (x, 0, [], 0) := by
    obtain ⟨k, b, z, ids, es, lb⟩ := x
    rcases may_cases (chk_may h) with ⟨h1, h2, h3, h4, h5, h6⟩ | ⟨h1, h2, h3, h4, h5, h6, h7⟩ | ⟨h1, h2, h3, h4, h5, h6, h7⟩ | ⟨h1, h2, h3, h4, h5⟩
    · simp only at h1 h2 h3 h4 h5 h6
      subst h1 h3 h4 h5 h6
      have e : putO ⟨1, b, 0, [], [], []⟩ = put 1 ++ (put b.length ++ b) := rfl
      obtain ⟨e1, e2, e3⟩ := fui_back 1 (put b.length ++ b) (by omega)
      obtain ⟨a1, a2, a3⟩ := frow_back b [] 32768 h2 (by omega)
      rw [List.append_nil] at a1 a2 a3
      have a1' : byE (put b.length ++ b) 0 32768 = 0 := a1
      have a2' : byL (put b.length ++ b) 0 32768 = [] := a2
      have a3' : byB (put b.length ++ b) 0 32768 = b := a3
      rw [e]
      unfold readO
      rw [e1, e2, e3, if_neg (by simp), if_neg (by omega), if_pos rfl, a1', a2', a3']
      rfl
    · simp only at h1 h2 h3 h5 h6 h7
      subst h1 h5 h6 h7
      have e : putO ⟨2, [], z, ids, [], []⟩ = put 2 ++ (put z ++ (put ids.length ++ (ids.flatten ++ []))) := by simp [putO]
      obtain ⟨e1, e2, e3⟩ := fui_back 2 (put z ++ (put ids.length ++ (ids.flatten ++ []))) (by omega)
      obtain ⟨f1, f2, f3⟩ := fui_back z (put ids.length ++ (ids.flatten ++ [])) hz
      obtain ⟨g1, g2, g3⟩ := fui_back ids.length (ids.flatten ++ []) (by omega)
      rw [e]
      unfold readO
      rw [e1, e2, e3, if_neg (by simp), if_neg (by omega), if_neg (by omega), if_pos rfl, f1, f2, f3, g1, g2, g3, if_neg (by omega), igo_back ids [] [] hw.ids]
      rfl
    · simp only at h1 h2 h3 h4 h5 h6 h7
      subst h1 h4 h5 h6 h7
      have e : putO ⟨3, [], 0, [], es, []⟩ = put 3 ++ (put es.length ++ (ensB es ++ [])) := by simp [putO]
      obtain ⟨e1, e2, e3⟩ := fui_back 3 (put es.length ++ (ensB es ++ [])) (by omega)
      obtain ⟨g1, g2, g3⟩ := fui_back es.length (ensB es ++ []) (by omega)
      rw [e]
      unfold readO
      rw [e1, e2, e3, if_neg (by simp), if_neg (by omega), if_neg (by omega), if_neg (by omega), if_pos rfl, g1, g2, g3, if_neg (by omega), ego_back es [] [] hs.nm hw.es]
      rfl
    · simp only at h1 h2 h3 h4 h5
      subst h1 h4 h5
      obtain ⟨i, rfl⟩ := List.length_eq_one_iff.1 h2
      have hi := hw.ids i List.mem_cons_self
      have e : putO ⟨4, [], z, [i], [], lb⟩ = put 4 ++ (put z ++ (i ++ (put lb.length ++ lb))) := by simp [putO]
      obtain ⟨e1, e2, e3⟩ := fui_back 4 (put z ++ (i ++ (put lb.length ++ lb))) (by omega)
      obtain ⟨f1, f2, f3⟩ := fui_back z (i ++ (put lb.length ++ lb)) hz
      obtain ⟨c1, c2, c3⟩ := id_back (R := put lb.length ++ lb) hi
      obtain ⟨a1, a2, a3⟩ := frow_back lb [] 255 h3 (by omega)
      rw [List.append_nil] at a1 a2 a3
      have a1' : byE (put lb.length ++ lb) 0 255 = 0 := a1
      have a2' : byL (put lb.length ++ lb) 0 255 = [] := a2
      have a3' : byB (put lb.length ++ lb) 0 255 = lb := a3
      rw [e]
      unfold readO
      simp only
      rw [e1, e2, e3, if_neg (by simp), if_neg (by omega), if_neg (by omega), if_neg (by omega), if_neg (by omega), f1, f2, f3, c1, c2, c3, a1', a2', a3']
      rfl
  unfold getO
  rw [h0]
  exact endO_fine h
theorem ui_zero {l : List UInt8} {e : Int} (h : uiE l e = 0) : e = 0 := by
  unfold uiE at h
  split at h
  · assumption
  · exact h
theorem id_put {l : List UInt8} {e : Int} (h : tkE l e 32 = 0) : e = 0 ∧ idL l e ++ fxL l e 32 = l := by
  obtain ⟨h1, _, h3⟩ := tkE_zero h
  refine ⟨h1, ?_⟩
  unfold idL fxL
  rw [if_pos h, if_pos h]
  exact List.take_append_drop 32 l
theorem bo_put {l : List UInt8} {e : Int} (h : boE l e = 0) : e = 0 ∧ yesB (boX l e) ++ fxL l e 1 = l := by
  unfold boE at h
  split at h
  · rename_i h1; exact absurd h h1
  · rename_i h1
    have h1 := Classical.not_not.1 h1
    obtain ⟨h2, _, h3⟩ := tkE_zero h1
    refine ⟨h2, ?_⟩
    unfold boX fxL
    rw [if_neg (by simp [h1]), if_pos h1]
    cases l with
    | nil => simp at h3
    | cons c t =>
      simp only [List.getElem?_cons_zero, Option.getD_some] at h ⊢
      have hc : ¬ 1 < c.toNat := fun h' => by rw [if_pos h'] at h; cases h
      have : c = 0 ∨ c = 1 := by
        have : c.toNat = 0 ∨ c.toNat = 1 := by omega
        rcases this with h | h
        · exact .inl (UInt8.toNat_inj.1 h)
        · exact .inr (UInt8.toNat_inj.1 h)
      rcases this with rfl | rfl <;> rfl
theorem igo_put : ∀ (M : Nat) (acc : List (List UInt8)) (l : List UInt8) (e : Int) (r : List (List UInt8)) (l' : List UInt8), igo M acc l e = (r, l', 0) → e = 0 ∧ ∃ t, r = acc ++ t ∧ t.length = M ∧ t.flatten ++ l' = l
  | 0, acc, l, e, r, l', h => by
    simp only [igo, Prod.mk.injEq] at h
    obtain ⟨rfl, rfl, rfl⟩ := h
    exact ⟨rfl, [], by simp, rfl, by simp⟩
  | M + 1, acc, l, e, r, l', h => by
    unfold igo at h
    obtain ⟨h1, t, rfl, ht, hb⟩ := igo_put M _ _ _ _ _ h
    obtain ⟨h2, h3⟩ := id_put h1
    exact ⟨h2, idL l e :: t, by simp, by simp [ht], by rw [List.flatten_cons, List.append_assoc, hb, h3]⟩
theorem ego_put : ∀ (M : Nat) (acc : List En) (l : List UInt8) (e : Int) (r : List En) (l' : List UInt8), ego M acc l e = (r, l', 0) → e = 0 ∧ ∃ t, r = acc ++ t ∧ t.length = M ∧ ensB t ++ l' = l
  | 0, acc, l, e, r, l', h => by
    simp only [ego, Prod.mk.injEq] at h
    obtain ⟨rfl, rfl, rfl⟩ := h
    exact ⟨rfl, [], by simp, rfl, by simp [ensB]⟩
  | M + 1, acc, l, e, r, l', h => by
    unfold ego at h
    obtain ⟨h1, t, rfl, ht, hb⟩ := ego_put M _ _ _ _ _ h
    obtain ⟨h2, h3⟩ := id_put (l := enL2 l e) (e := enE2 l e) h1
    obtain ⟨h4, h5⟩ := bo_put (l := enL1 l e) (e := enE1 l e) h2
    have h4' : byE l e 255 = 0 := h4
    obtain ⟨h6, _⟩ := by_take _ _ _ (.inr h4')
    subst h6
    have h7 := by_put h4'
    refine ⟨rfl, (enN l 0, enD l 0, enI l 0) :: t, by simp, by simp [ht], ?_⟩
    have e1 : ensB ((enN l 0, enD l 0, enI l 0) :: t) ++ l' = put (enN l 0).length ++ (enN l 0 ++ (yesB (enD l 0) ++ (enI l 0 ++ (ensB t ++ l')))) := by simp [ensB, enB]
    rw [e1, hb]
    have h3' : enI l 0 ++ enL3 l 0 = enL2 l 0 := h3
    have h5' : yesB (enD l 0) ++ enL2 l 0 = enL1 l 0 := h5
    have h7' : put (enN l 0).length ++ (enN l 0 ++ enL1 l 0) = l := h7
    rw [h3', h5', h7']
/-- WHAT IS GOT, PUT AGAIN. -/
theorem obj_put_get {b : List UInt8} {x : Ob} (h : getO b = (x, 0)) : chkO x = 0 ∧ putO x = b := by
  unfold getO at h
  generalize hr : readO b = r at h
  obtain ⟨x', e1, l', e⟩ := r
  unfold endO at h
  simp only at h
  split at h
  · rename_i h1
    simp only [Prod.mk.injEq] at h
    exact absurd h.2 h1
  · rename_i h1
    split at h
    · rename_i h2
      simp only [Prod.mk.injEq] at h
      exact absurd h.2 h2
    · rename_i h2
      split at h
      · simp at h
      · rename_i h3
        simp only [Prod.mk.injEq, and_true] at h
        subst h
        obtain ⟨rfl, rfl⟩ := fend_zero (Classical.not_not.1 h2)
        have h1 := Classical.not_not.1 h1
        subst h1
        refine ⟨Classical.not_not.1 h3, ?_⟩
        unfold readO at hr
        split at hr
        · rename_i h4
          simp only [Prod.mk.injEq] at hr
          exact absurd hr.2.1 h4
        · rename_i h4
          have hu := ui_put (Classical.not_not.1 h4)
          split at hr
          · simp at hr
          · rename_i h5
            split at hr
            · rename_i h6
              simp only [Prod.mk.injEq, true_and] at hr
              obtain ⟨rfl, h7, h8⟩ := hr
              have hb := by_put h8
              rw [h7, List.append_nil] at hb
              show put 1 ++ (put _ ++ _) = b
              rw [hb, ← h6, hu]
            · split at hr
              · rename_i h6
                split at hr
                · simp at hr
                · simp only [Prod.mk.injEq, true_and] at hr
                  obtain ⟨rfl, h7, h8⟩ := hr
                  generalize hg : igo _ _ _ _ = g at h7 h8 ⊢
                  obtain ⟨g1, g2, g3⟩ := g
                  simp only at h7 h8 ⊢
                  subst h7 h8
                  obtain ⟨he, t, hgt, ht, hb⟩ := igo_put _ _ _ _ _ _ hg
                  rw [List.nil_append] at hgt
                  subst hgt
                  rw [List.append_nil] at hb
                  have hu1 : uiE (uiL b 0) 0 = 0 := ui_zero he
                  have hu2 := ui_put hu1
                  rw [hu1] at he hb ht
                  have hu3 := ui_put he
                  show put 2 ++ put (uiX (uiL b 0) 0) ++ put g1.length ++ g1.flatten = b
                  rw [ht, hb, List.append_assoc, List.append_assoc, hu3, hu2, ← h6, hu]
              · split at hr
                · rename_i h6
                  split at hr
                  · simp at hr
                  · simp only [Prod.mk.injEq, true_and] at hr
                    obtain ⟨rfl, h7, h8⟩ := hr
                    generalize hg : ego _ _ _ _ = g at h7 h8 ⊢
                    obtain ⟨g1, g2, g3⟩ := g
                    simp only at h7 h8 ⊢
                    subst h7 h8
                    obtain ⟨he, t, hgt, ht, hb⟩ := ego_put _ _ _ _ _ _ hg
                    rw [List.nil_append] at hgt
                    subst hgt
                    rw [List.append_nil] at hb
                    have hu3 := ui_put he
                    show put 3 ++ put g1.length ++ ensB g1 = b
                    rw [ht, hb, List.append_assoc, hu3, ← h6, hu]
                · rename_i n1 n2 n3
                  have h6 : uiX b 0 = 4 := by omega
                  simp only [Prod.mk.injEq, true_and] at hr
                  obtain ⟨rfl, h7, h8⟩ := hr
                  obtain ⟨he, _⟩ := by_take _ _ _ (.inr h8)
                  rw [he] at h7 h8
                  have hb := by_put h8
                  rw [h7, List.append_nil] at hb
                  obtain ⟨he2, hid⟩ := id_put he
                  have hu2 := ui_put he2
                  show put 4 ++ put (uiX (uiL b 0) 0) ++ [idL (uiL (uiL b 0) 0) (uiE (uiL b 0) 0)].flatten ++ (put (byB (fxL (uiL (uiL b 0) 0) (uiE (uiL b 0) 0) 32) (tkE (uiL (uiL b 0) 0) (uiE (uiL b 0) 0) 32) 255).length ++ byB (fxL (uiL (uiL b 0) 0) (uiE (uiL b 0) 0) 32) (tkE (uiL (uiL b 0) 0) (uiE (uiL b 0) 0) 32) 255) = b
                  rw [he, hb, List.append_assoc, List.append_assoc]
                  have e1 : [idL (uiL (uiL b 0) 0) (uiE (uiL b 0) 0)].flatten = idL (uiL (uiL b 0) 0) (uiE (uiL b 0) 0) := by simp
                  rw [e1, hid, hu2, ← h6, hu]
theorem idL_len (l : List UInt8) (e : Int) : (idL l e).length = 32 := idL_length l e
theorem igo_wf : ∀ (M : Nat) (acc : List (List UInt8)) (l : List UInt8) (e : Int), (∀ x ∈ acc, x.length = 32) → ∀ x ∈ (igo M acc l e).1, x.length = 32
  | 0, acc, l, e, h => by simpa [igo] using h
  | M + 1, acc, l, e, h => by
    unfold igo
    refine igo_wf M _ _ _ fun x hx => ?_
    rcases List.mem_append.1 hx with hx | hx
    · exact h x hx
    · rw [List.mem_singleton.1 hx]
      exact idL_length l e
theorem ego_wf : ∀ (M : Nat) (acc : List En) (l : List UInt8) (e : Int), (∀ x ∈ acc, x.2.2.length = 32) → ∀ x ∈ (ego M acc l e).1, x.2.2.length = 32
  | 0, acc, l, e, h => by simpa [ego] using h
  | M + 1, acc, l, e, h => by
    unfold ego
    refine ego_wf M _ _ _ fun x hx => ?_
    rcases List.mem_append.1 hx with hx | hx
    · exact h x hx
    · rw [List.mem_singleton.1 hx]
      exact idL_length _ _
theorem getO_bad {b : List UInt8} (h : (getO b).2 ≠ 0) : (getO b).1 = obZ := by
  unfold getO endO at h ⊢
  split
  · rfl
  · rename_i h1
    rw [if_neg h1] at h
    split
    · rfl
    · rename_i h2
      rw [if_neg h2] at h
      split
      · rfl
      · rename_i h3
        rw [if_neg h3] at h
        exact absurd rfl h
end Go.Proofs.YtmakpjcgiiljfaaDoor

/-! Files: the reference's files in memory. -/
namespace Go.Proofs.YtmakpjcgiiljfaaDoor
open Go.RowKit Codec

def fmV (x : Fi) : Array Value := #[.string (st x.1), .string (st x.2)]
def fmCells (L : List Fi) : List Value := (L.map fun y => (fmV y).toList).flatten
theorem fmCells_len (L : List Fi) : (fmCells L).length = L.length * 2 := by
  induction L with
  | nil => rfl
  | cons y L ih =>
    unfold fmCells at ih ⊢
    rw [List.map_cons, List.flatten_cons, List.length_append, ih, List.length_cons]
    simp [fmV]
    omega
theorem fmCells_app (L M : List Fi) : fmCells (L ++ M) = fmCells L ++ fmCells M := by simp [fmCells]
theorem fmCells_at : ∀ (L : List Fi) (i : Nat) (y : Fi), L[i]? = some y → ∀ (j : Nat) (v : Value), (fmV y)[j]? = some v → (fmCells L)[i * 2 + j]? = some v
  | [], i, y, h, _, _, _ => by simp at h
  | z :: L, 0, y, h, j, v, hv => by
    simp at h
    subst h
    have hj : j < 2 := by
      have := (Array.getElem?_eq_some_iff.1 hv).1
      simpa [fmV] using this
    unfold fmCells
    rw [List.map_cons, List.flatten_cons, Nat.zero_mul, Nat.zero_add, List.getElem?_append_left (by simp [fmV]; exact hj)]
    simpa using hv
  | z :: L, i + 1, y, h, j, v, hv => by
    have h' : L[i]? = some y := by simpa using h
    have ih := fmCells_at L i y h' j v hv
    unfold fmCells at ih ⊢
    rw [List.map_cons, List.flatten_cons, List.getElem?_append_right (by simp [fmV]; omega), ← ih]
    congr 1
    simp [fmV]
    omega
theorem fmCells_one (L : List Fi) : ∀ u ∈ fmCells L, u.oneCell' = true := by
  intro u hu
  unfold fmCells at hu
  obtain ⟨l, hl, hu⟩ := List.mem_flatten.1 hu
  obtain ⟨y, _, rfl⟩ := List.mem_map.1 hl
  simp [fmV] at hu
  rcases hu with rfl | rfl <;> rfl
/-- THE MODEL'S CHANGES IN MEMORY. -/
structure Fms (w : World) (S : Nat → Prop) (A : Option Addr) (n c : Nat) (l : List Fi) : Prop where
  len : l.length = n
  cap : n ≤ c
  max : c ≤ maxLen
  row : 0 < n → ∃ b off, A = some ⟨b, off, none⟩ ∧ S b ∧ b < w.heap.size ∧ ∀ i x, l[i]? = some x → ∀ (j : Nat) (v : Value), (fmV x)[j]? = some v → w.cell? ⟨b, off + i * 2 + j, none⟩ = some v
variable {w w' : World} {S T : Nat → Prop} {A : Option Addr} {n c : Nat} {l : List Fi}
theorem Fms.turned (h : Fms w S A n c l) (ht : Turned T w w') (hd : ∀ k, k < w.heap.size → S k → ¬ T k) : Fms w' S A n c l :=
  ⟨h.len, h.cap, h.max, fun h0 => by
    obtain ⟨b, off, h1, h2, h3, h4⟩ := h.row h0
    exact ⟨b, off, h1, h2, Nat.lt_of_lt_of_le h3 ht.size, fun i x hx j v hv => (cell_turned ht h3 (hd b h3 h2) _).trans (h4 i x hx j v hv)⟩⟩
theorem Fms.below (h : Fms w S A n c l) (hb : Below w.heap.size w w') : Fms w' S A n c l :=
  h.turned (T := fun _ => False) (Turned.of_below hb) fun _ _ _ h => h
theorem Fms.mono (h : Fms w S A n c l) (hT : ∀ k, k < w.heap.size → S k → T k) : Fms w T A n c l :=
  ⟨h.len, h.cap, h.max, fun h0 => by
    obtain ⟨b, off, h1, h2, h3, h4⟩ := h.row h0
    exact ⟨b, off, h1, hT b h3 h2, h3, h4⟩⟩
theorem Fms.nil (w : World) (S : Nat → Prop) (A : Option Addr) (c : Nat) (hc : c ≤ maxLen) : Fms w S A 0 c [] := ⟨rfl, Nat.zero_le _, hc, fun h => absurd h (by omega)⟩
theorem Fms.at_ (h : Fms w S A n c l) {i : Nat} (hi : i < n) : ∃ b off x, A = some ⟨b, off, none⟩ ∧ S b ∧ b < w.heap.size ∧ l[i]? = some x ∧ w.cell? ⟨b, off + i * 2, none⟩ = some (.string (st x.1)) ∧ w.cell? ⟨b, off + i * 2 + 1, none⟩ = some (.string (st x.2)) := by
  obtain ⟨b, off, h1, h2, h3, h4⟩ := h.row (by omega)
  have hx : l[i]? = some (l[i]'(by have := h.len; omega)) := List.getElem?_eq_getElem _
  exact ⟨b, off, _, h1, h2, h3, hx, h4 i _ hx 0 _ rfl, h4 i _ hx 1 _ rfl⟩
theorem fmV_one (x : Fi) : (fmV x).all (·.oneCell') = true := by simp [fmV, Value.oneCell']
end Go.Proofs.YtmakpjcgiiljfaaDoor

/-! Objects in memory: entries, ids, objects, the model's. -/
namespace Go.Proofs.YtmakpjcgiiljfaaDoor
open Go.RowKit Codec

def enV (y : En) : Array Value := #[.string (st y.1), .bool y.2.1] ++ row8 y.2.2
theorem enV_list (y : En) : (enV y).toList = .string (st y.1) :: .bool y.2.1 :: u8s y.2.2 := by simp [enV, row8]
theorem enV_size {y : En} (h : y.2.2.length = 32) : (enV y).size = 34 := by simp [enV, row8_size, h]
theorem enV_0 (y : En) : (enV y)[0]? = some (.string (st y.1)) := by
  unfold enV
  rw [Array.getElem?_append_left (by simp)]
  rfl
theorem enV_1 (y : En) : (enV y)[1]? = some (.bool y.2.1) := by
  unfold enV
  rw [Array.getElem?_append_left (by simp)]
  rfl
theorem enV_one (y : En) : ∀ u ∈ (enV y).toList, u.oneCell' = true := by
  intro u hu
  rw [enV_list] at hu
  rcases List.mem_cons.1 hu with rfl | hu
  · rfl
  · rcases List.mem_cons.1 hu with rfl | hu
    · rfl
    · exact u8s_one _ u hu
theorem enV_all (y : En) : (enV y).all (·.oneCell') = true := by
  rw [← Array.all_toList, List.all_eq_true]
  exact enV_one y
theorem enV_id {y : En} {j : Nat} {v : Value} (h : (row8 y.2.2)[j]? = some v) : (enV y)[2 + j]? = some v := by
  unfold enV
  rw [Array.getElem?_append_right (by simp)]
  simpa using h
def enCells (L : List En) : List Value := (L.map fun y => (enV y).toList).flatten
theorem enCells_len {L : List En} (h : ∀ y ∈ L, y.2.2.length = 32) : (enCells L).length = L.length * 34 := by
  induction L with
  | nil => rfl
  | cons y L ih =>
    have ih := ih fun z hz => h z (List.mem_cons_of_mem _ hz)
    unfold enCells at ih ⊢
    rw [List.map_cons, List.flatten_cons, List.length_append, ih, List.length_cons, Array.length_toList, enV_size (h y List.mem_cons_self)]
    omega
theorem enCells_app (L M : List En) : enCells (L ++ M) = enCells L ++ enCells M := by simp [enCells]
theorem enCells_at : ∀ {L : List En}, (∀ y ∈ L, y.2.2.length = 32) → ∀ (i : Nat) (y : En), L[i]? = some y → ∀ (j : Nat) (v : Value), (enV y)[j]? = some v → (enCells L)[i * 34 + j]? = some v
  | [], _, i, y, h, _, _, _ => by simp at h
  | z :: L, hw, 0, y, h, j, v, hv => by
    simp at h
    subst h
    have hj : j < 34 := by
      have := (Array.getElem?_eq_some_iff.1 hv).1
      rwa [enV_size (hw z List.mem_cons_self)] at this
    unfold enCells
    rw [List.map_cons, List.flatten_cons, Nat.zero_mul, Nat.zero_add, List.getElem?_append_left (by rw [Array.length_toList, enV_size (hw z List.mem_cons_self)]; exact hj)]
    simpa using hv
  | z :: L, hw, i + 1, y, h, j, v, hv => by
    have h' : L[i]? = some y := by simpa using h
    have ih := enCells_at (L := L) (fun y hy => hw y (List.mem_cons_of_mem _ hy)) i y h' j v hv
    have hs := enV_size (hw z List.mem_cons_self)
    unfold enCells at ih ⊢
    rw [List.map_cons, List.flatten_cons, List.getElem?_append_right (by rw [Array.length_toList, hs]; omega), ← ih, Array.length_toList, hs]
    congr 1
    omega
theorem enCells_one (L : List En) : ∀ u ∈ enCells L, u.oneCell' = true := by
  intro u hu
  unfold enCells at hu
  obtain ⟨l, hl, hu⟩ := List.mem_flatten.1 hu
  obtain ⟨y, _, rfl⟩ := List.mem_map.1 hl
  exact enV_one y u hu
/-- ENTRIES IN MEMORY (the code's and the model's lie alike). -/
structure Ens (w : World) (S : Nat → Prop) (A : Option Addr) (n c : Nat) (l : List En) : Prop where
  len : l.length = n
  cap : n ≤ c
  max : c ≤ maxLen
  each : ∀ y ∈ l, y.2.2.length = 32
  row : 0 < n → ∃ b off, A = some ⟨b, off, none⟩ ∧ S b ∧ b < w.heap.size ∧ ∀ i x, l[i]? = some x → ∀ (j : Nat) (v : Value), (enV x)[j]? = some v → w.cell? ⟨b, off + i * 34 + j, none⟩ = some v
section
variable {w w' : World} {S T : Nat → Prop} {A : Option Addr} {n c : Nat} {l : List En}
theorem Ens.turned (h : Ens w S A n c l) (ht : Turned T w w') (hd : ∀ k, k < w.heap.size → S k → ¬ T k) : Ens w' S A n c l :=
  ⟨h.len, h.cap, h.max, h.each, fun h0 => by
    obtain ⟨b, off, h1, h2, h3, h4⟩ := h.row h0
    exact ⟨b, off, h1, h2, Nat.lt_of_lt_of_le h3 ht.size, fun i x hx j v hv => (cell_turned ht h3 (hd b h3 h2) _).trans (h4 i x hx j v hv)⟩⟩
theorem Ens.below (h : Ens w S A n c l) (hb : Below w.heap.size w w') : Ens w' S A n c l :=
  h.turned (T := fun _ => False) ⟨hb.os, hb.tape, hb.output, hb.size, fun k hk _ => hb.block k hk⟩ fun _ _ _ h => h
theorem Ens.mono (h : Ens w S A n c l) (hT : ∀ k, k < w.heap.size → S k → T k) : Ens w T A n c l :=
  ⟨h.len, h.cap, h.max, h.each, fun h0 => by
    obtain ⟨b, off, h1, h2, h3, h4⟩ := h.row h0
    exact ⟨b, off, h1, hT b h3 h2, h3, h4⟩⟩
theorem Ens.nil (w : World) (S : Nat → Prop) (A : Option Addr) (c : Nat) (hc : c ≤ maxLen) : Ens w S A 0 c [] := ⟨rfl, Nat.zero_le _, hc, (fun _ h => absurd h (by simp)), fun h => absurd h (by omega)⟩
theorem Ens.at_ (h : Ens w S A n c l) {i : Nat} (hi : i < n) : ∃ b off x, A = some ⟨b, off, none⟩ ∧ S b ∧ b < w.heap.size ∧ l[i]? = some x ∧ x.2.2.length = 32 ∧ ∀ (j : Nat) (v : Value), (enV x)[j]? = some v → w.cell? ⟨b, off + i * 34 + j, none⟩ = some v := by
  obtain ⟨b, off, h1, h2, h3, h4⟩ := h.row (by omega)
  have hx : l[i]? = some (l[i]'(by have := h.len; omega)) := List.getElem?_eq_getElem _
  exact ⟨b, off, _, h1, h2, h3, hx, h.each _ (List.getElem_mem _), h4 i _ hx⟩
/-- A row that a call has made. -/
theorem own_ens {e : TypeId} {B : Nat} {v : Value} (hw : ∀ y ∈ l, y.2.2.length = 32) (h : w.ownsRow B e 34 v l.length (enCells l)) : ∃ A c, v = .slice A l.length c ∧ Ens w (B ≤ ·) A l.length c l := by
  obtain ⟨e1, e2⟩ := h
  rcases e2 with ⟨rfl, e2⟩ | ⟨g, cap, cur, rfl, e3, e4, e5, e6, e7, e8⟩
  · have hl : l = [] := List.eq_nil_of_length_eq_zero e2
    subst hl
    exact ⟨none, 0, rfl, Ens.nil _ _ _ _ (Nat.zero_le _)⟩
  · refine ⟨_, _, rfl, rfl, e5, e6, hw, fun h0 => ⟨g, 0, rfl, e3, lt_of_cells e4, fun i x hx j u hu => ?_⟩⟩
    have hc := enCells_at hw i x hx j u hu
    rw [← e8] at hc
    rw [Nat.zero_add, cell_of_cells e4]
    have hlt := (List.getElem?_eq_some_iff.1 hc).1
    rw [List.length_take] at hlt
    rw [List.getElem?_take_of_lt (by omega)] at hc
    simpa using hc
end
def zeroEn : Array Value := #[.string ⟨#[]⟩, .bool false] ++ row8 (List.replicate 32 0)
theorem zeroEn_en : zeroEn = enV ([], false, List.replicate 32 0) := rfl
theorem en_info3 : (Tryd.prog.info? 51).map (fun i => (i.zero, i.size, i.bytes)) = some (some (.agg zeroEn), 34, 56) := by unfold zeroEn row8 u8s; kernel_rfl
theorem nn_info3 : (Tryd.prog.info? 62).map (fun i => (i.zero, i.size, i.bytes)) = some (some (.agg zeroEn), 34, 56) := by unfold zeroEn row8 u8s; kernel_rfl
theorem en_info : (Tryd.prog.info? 51).map (·.size) = some 34 := by kernel_rfl
theorem nn_info : (Tryd.prog.info? 62).map (·.size) = some 34 := by kernel_rfl
theorem run_zero {T : TypeId} {z : Value} {s b : Nat} (h : (Tryd.prog.info? T).map (fun i => (i.zero, i.size, i.bytes)) = some (some z, s, b)) : ∀ W, (zeroValue T).run Tryd.prog W = .ok z W := fun W => by
  obtain ⟨i, hi, hz, _, _⟩ := info_parts h
  simp [zeroValue, typeInfo, hi, hz]
theorem zero_en : ∀ W, (zeroValue 51).run Tryd.prog W = .ok (.agg zeroEn) W := run_zero en_info3
theorem zero_nn : ∀ W, (zeroValue 62).run Tryd.prog W = .ok (.agg zeroEn) W := run_zero nn_info3
/-- Some are laid behind such a row. -/
theorem own_ens_app {w : World} {l : List En} {e t : TypeId} (hi3 : (Tryd.prog.info? e).map (fun i => (i.zero, i.size, i.bytes)) = some (some (.agg zeroEn), 34, 56)) (ht : Tryd.prog.underlying t = some (.slice e)) {B : Nat} {v : Value} (h : w.ownsRow B e 34 v l.length (enCells l)) (hB : B ≤ w.heap.size) {n2 c2 : Nat} {a : Addr} {m : List En} (hw : ∀ y ∈ l ++ m, y.2.2.length = 32) (hm : m.length = n2) (hrow : ∀ (j : Nat) (u : Value), (enCells m)[j]? = some u → w.cell? (a.add j) = some u) (hl : l.length + n2 ≤ 1000000) (ty : TypeId) :
    ∃ A' c' W', (Builtin.append_ #[t, t] ty #[v, .slice (some a) n2 c2]).run Tryd.prog w = .ok (.slice A' (l ++ m).length c') W' ∧ W'.ownsRow B e 34 (.slice A' (l ++ m).length c') (l ++ m).length (enCells (l ++ m)) ∧ Below B w W' ∧ w.grownBy W' v.ownBlock := by
  obtain ⟨i0, hi, hz0, hz1, hz2⟩ := info_parts hi3
  obtain ⟨v', W', hr, g1, g2, _, g4⟩ := run_append_own_at (P := Tryd.prog) w B t ty e i0 (.agg zeroEn) 34 56 ht hi hz0 hz1 hz2 (by rw [zeroEn_en]; exact enV_size (by simp)) (by decide) v l.length (enCells l) h a n2 c2 (enCells m) (by rw [enCells_len fun y hy => hw y (List.mem_append_right _ hy), hm])
    hrow (enCells_one m) (by unfold maxLen; omega) (by omega) hB
  have hb : Below B w W' := (Below.refl B w).grown g2 hB fun g hg => (h.lt g hg).1
  rw [← enCells_app] at g1
  have hlen : l.length + n2 = (l ++ m).length := by rw [List.length_append, hm]
  rw [hlen] at g1
  obtain ⟨A', c', rfl, _⟩ := own_ens hw g1
  exact ⟨A', c', W', hr, g1, hb, g2⟩
theorem own_ids_app {w : World} {l : List (List UInt8)} {B : Nat} {v : Value} (h : w.ownsRow B 49 32 v l.length (idsC l)) (hB : B ≤ w.heap.size) {n2 c2 : Nat} {a : Addr} {m : List (List UInt8)} (hw : ∀ y ∈ l ++ m, y.length = 32) (hm : m.length = n2) (hrow : ∀ (j : Nat) (u : Value), (idsC m)[j]? = some u → w.cell? (a.add j) = some u) (hl : l.length + n2 ≤ 1000000) (ty : TypeId) :
    ∃ A' c' W', (Builtin.append_ #[24, 24] ty #[v, .slice (some a) n2 c2]).run Tryd.prog w = .ok (.slice A' (l ++ m).length c') W' ∧ W'.ownsRow B 49 32 (.slice A' (l ++ m).length c') (l ++ m).length (idsC (l ++ m)) ∧ Below B w W' ∧ w.grownBy W' v.ownBlock := by
  obtain ⟨i0, hi, hz0, hz1, hz2⟩ := info_parts id_info3
  obtain ⟨v', W', hr, g1, g2, _, g4⟩ := run_append_own_at (P := Tryd.prog) w B 24 ty 49 i0 (.agg zerosId) 32 32 Tryd.underlying24 hi hz0 hz1 hz2 (by unfold zerosId; simp [Value.cells, u8s_length]) (by decide) v l.length (idsC l) h a n2 c2 (idsC m) (by unfold idsC; rw [u8s_length, flatten_length32 fun y hy => hw y (List.mem_append_right _ hy), hm])
    hrow (u8s_one _) (by unfold maxLen; omega) (by omega) hB
  have hb : Below B w W' := (Below.refl B w).grown g2 hB fun g hg => (h.lt g hg).1
  have e : idsC l ++ idsC m = idsC (l ++ m) := by unfold idsC; rw [← u8s_append, List.flatten_append]
  rw [e] at g1
  have hlen : l.length + n2 = (l ++ m).length := by rw [List.length_append, hm]
  rw [hlen] at g1
  obtain ⟨A', c', rfl, _⟩ := own_ids g1 hw
  exact ⟨A', c', W', hr, g1, hb, g2⟩

/-! ### objects -/
/-- Where an object's slices lie. -/
structure At where
  A : Option Addr
  n : Nat
  c : Nat
  IA : Option Addr
  i : Nat
  ic : Nat
  EA : Option Addr
  e : Nat
  ec : Nat
def atZ : At := ⟨none, 0, 0, none, 0, 0, none, 0, 0⟩
/-- An object's cells. -/
def obV (p : At) (x : Ob) : Array Value := #[.int .u8 (x.k : Int), .slice p.A p.n p.c, .int .u64 (x.z : Int), .slice p.IA p.i p.ic, .slice p.EA p.e p.ec, .string (st x.lb)]
/-- The model's. -/
def omV (p : At) (x : Ob) : Array Value := #[.int .u8 (x.k : Int), .string (st x.b), .int .u64 (x.z : Int), .slice p.IA p.i p.ic, .slice p.EA p.e p.ec, .string (st x.lb)]
theorem obV_one (p : At) (x : Ob) : (obV p x).all (·.oneCell') = true := by simp [obV, Value.oneCell']
theorem omV_one (p : At) (x : Ob) : (omV p x).all (·.oneCell') = true := by simp [omV, Value.oneCell']
theorem ob_info : (Tryd.prog.info? 27).map (·.size) = some 6 := by kernel_rfl
theorem om_info : (Tryd.prog.info? 37).map (·.size) = some 6 := by kernel_rfl
theorem zero_ob : ∀ W, (zeroValue 27).run Tryd.prog W = .ok (.agg #[.int .u8 0, .slice none 0 0, .int .u64 0, .slice none 0 0, .slice none 0 0, .string ⟨#[]⟩]) W := fun W => by kernel_rfl
theorem zero_om : ∀ W, (zeroValue 37).run Tryd.prog W = .ok (.agg #[.int .u8 0, .string ⟨#[]⟩, .int .u64 0, .slice none 0 0, .slice none 0 0, .string ⟨#[]⟩]) W := fun W => by kernel_rfl
/-- THE IDS AND ENTRIES OF AN OBJECT. -/
structure Ois (w : World) (S : Nat → Prop) (p : At) (x : Ob) : Prop where
  wf : x.Wf
  lb : x.lb.length ≤ maxLen
  nm : ∀ y ∈ x.es, y.1.length ≤ maxLen
  bl : x.b.length ≤ maxLen
  ids : Ids w S p.IA p.i p.ic x.ids
  es : Ens w S p.EA p.e p.ec x.es
/-- AN OBJECT IN MEMORY. -/
structure Obm (w : World) (S : Nat → Prop) (p : At) (x : Ob) : Prop where
  o : Ois w S p x
  b : Byt w S p.A p.n p.c x.b
section
variable {w w' : World} {S T : Nat → Prop} {p : At} {x : Ob}
theorem Ois.turned (h : Ois w S p x) (ht : Turned T w w') (hd : ∀ k, k < w.heap.size → S k → ¬ T k) : Ois w' S p x := ⟨h.wf, h.lb, h.nm, h.bl, h.ids.turned ht hd, h.es.turned ht hd⟩
theorem Ois.below (h : Ois w S p x) (hb : Below w.heap.size w w') : Ois w' S p x := ⟨h.wf, h.lb, h.nm, h.bl, h.ids.below hb, h.es.below hb⟩
theorem Ois.mono (h : Ois w S p x) (hT : ∀ k, k < w.heap.size → S k → T k) : Ois w T p x := ⟨h.wf, h.lb, h.nm, h.bl, h.ids.mono hT, h.es.mono hT⟩
theorem Obm.turned (h : Obm w S p x) (ht : Turned T w w') (hd : ∀ k, k < w.heap.size → S k → ¬ T k) : Obm w' S p x := ⟨h.o.turned ht hd, h.b.turned ht hd⟩
theorem Obm.below (h : Obm w S p x) (hb : Below w.heap.size w w') : Obm w' S p x := ⟨h.o.below hb, h.b.below hb⟩
theorem Obm.mono (h : Obm w S p x) (hT : ∀ k, k < w.heap.size → S k → T k) : Obm w T p x := ⟨h.o.mono hT, h.b.mono hT⟩
theorem ois_zero (w : World) (S : Nat → Prop) : Ois w S atZ obZ := ⟨obZ_wf, by simp [obZ], (fun _ h => by cases h), by simp [obZ], Ids.nil _ _ _ _ (Nat.zero_le _), Ens.nil _ _ _ _ (Nat.zero_le _)⟩
theorem obj_zero (w : World) (S : Nat → Prop) : Obm w S atZ obZ := ⟨ois_zero w S, Byt.nil _ _ _ _ (Nat.zero_le _)⟩
end
end Go.Proofs.YtmakpjcgiiljfaaDoor

/-! Objects: nothing stands in its fields. -/
namespace Go.Proofs.YtmakpjcgiiljfaaDoor
open Go.RowKit Codec

theorem st_empty (l : List UInt8) : (st l).toList.isEmpty = l.isEmpty := by rw [st, ByteArray.toList_mk]
theorem len_zero {α : Type} {l : List α} {n : Nat} (h : l.length = n) : (l = [] ↔ n = 0) := by rw [← h, List.length_eq_zero_iff]
theorem cast_zero (n : Nat) : ((n : Int) == 0) = decide (n = 0) := by
  by_cases h : n = 0
  · subst h; rfl
  · rw [decide_eq_false h]
    simp
    omega
theorem none_eq (x : Ob) {n i e : Nat} (h1 : x.b.length = n) (h2 : x.ids.length = i) (h3 : x.es.length = e) : x.none = (decide (n = 0) && (decide (x.z = 0) && (decide (i = 0) && (decide (e = 0) && decide (x.lb = []))))) := by
  unfold Ob.none
  rw [decide_eq_decide.2 (len_zero h1), decide_eq_decide.2 (len_zero h2), decide_eq_decide.2 (len_zero h3)]
set_option maxHeartbeats 4000000 in
set_option maxRecDepth 100000 in
theorem nothing_any {w : World} {S : Nat → Prop} {p : At} {x : Ob} (h : Obm w S p x) :
    Calls Tryd.prog 52 #[.agg (obV p x)] w fun e w' => e = .returned (.bool x.none) ∧ Below w.heap.size w w' := by
  rw [none_eq x h.b.len h.o.ids.len h.o.es.len]
  obtain ⟨A, n, c, IA, i, ic, EA, m, mc⟩ := p
  obtain ⟨k, b, z, ids, es, lb⟩ := x
  have hemp := st_empty lb
  have hbl : Below w.heap.size w (w.alloc (.cells (obV ⟨A, n, c, IA, i, ic, EA, m, mc⟩ ⟨k, b, z, ids, es, lb⟩) 27)) := (Below.refl _ _).alloc (Nat.le_refl _) _
  have HB := Lib.hid hbl
  clear h hbl
  unfold obV at HB ⊢
  simp only at HB ⊢
  have e1 := cast_zero n
  have e2 := cast_zero z
  have e3 := cast_zero i
  have e4 := cast_zero m
  by_cases h1 : n = 0
  · rw [decide_eq_true h1] at e1 ⊢
    by_cases h2 : z = 0
    · rw [decide_eq_true h2] at e2 ⊢
      by_cases h3 : i = 0
      · rw [decide_eq_true h3] at e3 ⊢
        by_cases h4 : m = 0
        · rw [decide_eq_true h4] at e4 ⊢
          clear h1 h2 h3 h4
          by_cases h5 : lb = []
          · subst h5
            simp only [List.isEmpty_nil] at hemp
            go_enter Tryd.func52, Tryd.ntmps52
            go_wp2_with fail
            go_ret
            exact ⟨rfl, HB.out⟩
          · have h5' : lb.isEmpty = false := by simpa using h5
            rw [h5'] at hemp
            rw [decide_eq_false h5]
            clear h5 h5'
            go_enter Tryd.func52, Tryd.ntmps52
            go_wp2_with fail
            go_ret
            exact ⟨rfl, HB.out⟩
        · rw [decide_eq_false h4] at e4 ⊢
          clear h1 h2 h3 h4 hemp
          go_enter Tryd.func52, Tryd.ntmps52
          go_wp2_with fail
          go_ret
          exact ⟨rfl, HB.out⟩
      · rw [decide_eq_false h3] at e3 ⊢
        clear h1 h2 h3 hemp e4
        go_enter Tryd.func52, Tryd.ntmps52
        go_wp2_with fail
        go_ret
        exact ⟨rfl, HB.out⟩
    · rw [decide_eq_false h2] at e2 ⊢
      clear h1 h2 hemp e3 e4
      go_enter Tryd.func52, Tryd.ntmps52
      go_wp2_with fail
      go_ret
      exact ⟨rfl, HB.out⟩
  · rw [decide_eq_false h1] at e1 ⊢
    clear h1 hemp e2 e3 e4
    go_enter Tryd.func52, Tryd.ntmps52
    go_wp2_with fail
    go_ret
    exact ⟨rfl, HB.out⟩
end Go.Proofs.YtmakpjcgiiljfaaDoor
