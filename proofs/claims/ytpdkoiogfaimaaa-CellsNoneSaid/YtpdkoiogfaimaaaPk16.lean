/-
  []byte(s) of any string.
  codec.Writer, its further methods.
  codec.Writer: Bytes, Bool, Out, NewWriter; a Writer and a Reader that are none.
  Cells: the record of changes, written.
  Cells: the changes behind a record of all, done; what may be read.
-/
import Derived.Test.YtpdkoiogfaimaaaPk01
import Derived.Laws.IdiomStrings
import Derived.Test.YtpdkoiogfaimaaaPk02
import Derived.Test.YtpdkoiogfaimaaaPk12
import Derived.Test.YtpdkoiogfaimaaaPk15
/-! []byte(s) of any string. -/
namespace Go.Proofs.Ytpdkoiogfaimaaa
open Go.RowKit
/-- []byte(s) -/
theorem conv_bytes (l : List UInt8) (hl : l.length ≤ 1000000) (W : World) : ∃ c' W', (convert 9 23 (.string (st l))).run Try.prog W = .ok (.slice (some ⟨W.heap.size, 0, none⟩) l.length c') W' ∧ Below W.heap.size W W' ∧ Byt W' (fun b => b = W.heap.size) (some ⟨W.heap.size, 0, none⟩) l.length c' l := by
  have h := run_bytes_of_string (P := Try.prog) W 9 23 5 (st l) Try.underlying9 Try.underlying23 Try.underlying5
  rw [st_size] at h
  have hge := grownCap_ge W l.length 0 5
  have hle := grownCap_le_maxLen W l.length 0 5 (by unfold maxLen; omega)
  generalize grownCap W l.length 0 5 = C at *
  refine ⟨C, _, h, (below_drew (Below.refl _ _)).alloc (Nat.le_refl _) _, rfl, hge, hle, fun h0 => ⟨_, 0, rfl, rfl, by simp, fun i hi => ?_⟩⟩
  have hnew : (W.drew.alloc (.cells (bytesRow (st l) C) 5 ((bytesRow (st l) C).size, (bytesRow (st l) C).size + 1))).heap[W.heap.size]? = some _ := heap_alloc_new W.drew _
  rw [cell_of_cells hnew]
  simp [bytesRow, st, Array.getElem?_append, hi]
end Go.Proofs.Ytpdkoiogfaimaaa

/-! codec.Writer, its further methods. -/
namespace Go.Proofs.Ytpdkoiogfaimaaa
open Go.RowKit Codec

theorem or128_all : ∀ a, a < 256 → a ||| 128 = a % 128 + 128 := by decide +kernel
theorem byte_more (x : Nat) : bits .or .u8 (IntKind.u8.wrap (x : Int)) 128 = ((UInt8.ofNat (x % 128 + 128)).toNat : Int) := by
  have e : IntKind.u8.wrap (x : Int) = ((x % 256 : Nat) : Int) := by simp [IntKind.wrap, IntKind.signed, IntKind.bits]
  rw [e, show (128 : Int) = ((128 : Nat) : Int) from rfl, u8_or_nat _ _ (by omega) (by omega), or128_all _ (by omega)]
  have : (UInt8.ofNat (x % 128 + 128)).toNat = x % 128 + 128 := by simp; omega
  rw [this]
  omega
theorem byte_last (x : Nat) : IntKind.u8.wrap (x : Int) = ((UInt8.ofNat x).toNat : Int) := by
  have e : IntKind.u8.wrap (x : Int) = ((x % 256 : Nat) : Int) := by simp [IntKind.wrap, IntKind.signed, IntKind.bits]
  rw [e]
  simp


set_option maxHeartbeats 1000000 in
set_option maxRecDepth 100000 in
theorem wuint {w : World} {S : Nat → Prop} {p : Nat} {l : List UInt8} {x : Nat} (h : Wr w S p l) (hx : x < 18446744073709551616) (hb : l.length + 10 ≤ 140737488355328) :
    Calls Try.prog 56 #[.pointer (some ⟨p, 0, none⟩), .int .u64 x] w (Put w S p (l ++ put x)) := by
  obtain ⟨i0, hi, hz0, hz1, hz2⟩ := info_parts u8_info
  go_enter Try.func56, Try.ntmps56
  go_wp2
  go_loopw [1] (fun s1 wr => ∃ (y : Nat) (d : List UInt8), y < 18446744073709551616 ∧ s1 = .int .u64 y ∧ Hid (l ++ put x = d ++ put y) ∧ Wr wr (fun b => S b ∨ w.heap.size ≤ b) p d ∧ Turned S w wr) (fun s1 _ => (intOf s1).toNat)
  case atStart => exact ⟨x, l, hx, rfl, rfl, h.mono fun _ _ hs => .inl hs, Turned.refl _ _⟩
  case round =>
    obtain ⟨y, d, hy, rfl, HD, hW, hT⟩ := hrel
    obtain ⟨hp, A0, c0, hh, ho, hs⟩ := hW
    have h0 := cell_of_cells hh 0
    simp only [List.getElem?_toArray, List.getElem?_cons_zero] at h0
    have f0 := free_of_cells hh 0
    have hdl : d.length + 1 ≤ l.length + 10 := by
      have e := congrArg List.length HD.out
      have := put_length_64 hx
      have := put_length_pos y
      simp at e
      omega
    have HH := Lib.hid hh
    have HO := Lib.hid ho
    clear hh ho
    have hq4 : d.length + 1 ≤ maxLen := by unfold maxLen; omega
    have hq5 : (d.length + 1) * 1 ≤ 140737488355328 := by omega
    by_cases hlt : y < 128
    · have hge : ¬ 128 ≤ y := by omega
      have hput := put_small hlt
      have HP := Lib.hid hput
      have hone : [Value.int .u8 (y : Int)] = u8s [UInt8.ofNat y] := by simp [u8s, Nat.mod_eq_of_lt (show y < 256 by omega)]
      have HV := Lib.hid hone
      clear hput hone
      go_wp2_with (at_builtin; refine wpList_append_own_at _ rfl _ _ 23 rfl 0 5 i0 (.int .u8 0) 1 1 Try.underlying23 hi hz0 hz1 hz2 rfl (by decide) _ d.length (u8s d) rfl (HO.out.alloc _) ⟨wr.heap.size, 0, none⟩ 1 1 [.int .u8 (y : Int)] rfl rfl (cell_one_new _ _ _) (one_of rfl) hq4 hq5 (Nat.zero_le _) ?_)
      intro v' w1 hown hgrow hnn hat
      rw [HV.out] at hown
      obtain ⟨A', c', rfl, _⟩ := own_byt (l := d ++ [UInt8.ofNat y]) (by rw [u8s_append]; exact hown)
      obtain ⟨g1, g2, g3⟩ := Wr.app (S := fun b => S b ∨ w.heap.size ≤ b) hp HH.out HO.out hs ((Below.refl _ _).alloc (Nat.le_refl _) _) hown rfl hgrow (hat.imp_right fun e => e.trans (by simp))
      have fin : Put w S p (l ++ put x) (.returned (.tuple #[])) (w1.setCell ⟨p, 0, none⟩ (.slice A' (d.length + 1) c')) := by
        rw [HD.out, HP.out]
        refine ⟨rfl, g3.out.1.mono fun b _ hs => ?_, hT.trans g3.out.2 fun i hi hs => ?_⟩
        · rcases hs with hs | hs
          · exact hs
          · exact .inr (Nat.le_trans hT.size hs)
        · rcases hs with hs | hs
          · exact hs
          · omega
      have HF := Lib.hid fin
      clear hown hgrow hnn hat h0 f0 fin
      go_wp2
      go_end0
      exact HF.out
    · have hone : [Value.int .u8 (bits .or .u8 (IntKind.u8.wrap (y : Int)) 128)] = u8s [UInt8.ofNat (y % 128 + 128)] := by rw [byte_more]; rfl
      have HV := Lib.hid hone
      have hput := put_big (x := y) (by omega)
      have HP := Lib.hid hput
      clear hput hone
      go_wp2_with (at_builtin; refine wpList_append_own_at _ rfl _ _ 23 rfl 0 5 i0 (.int .u8 0) 1 1 Try.underlying23 hi hz0 hz1 hz2 rfl (by decide) _ d.length (u8s d) rfl (HO.out.alloc _) ⟨wr.heap.size, 0, none⟩ 1 1 [.int .u8 (bits .or .u8 (IntKind.u8.wrap (y : Int)) 128)] rfl rfl (cell_one_new _ _ _) (one_of rfl) hq4 hq5 (Nat.zero_le _) ?_)
      intro v' w1 hown hgrow hnn hat
      rw [HV.out] at hown
      obtain ⟨A', c', rfl, _⟩ := own_byt (l := d ++ [UInt8.ofNat (y % 128 + 128)]) (by rw [u8s_append]; exact hown)
      obtain ⟨g1, g2, g3⟩ := Wr.app (S := fun b => S b ∨ w.heap.size ≤ b) hp HH.out HO.out hs ((Below.refl _ _).alloc (Nat.le_refl _) _) hown rfl hgrow (hat.imp_right fun e => e.trans (by simp))
      clear hown hgrow hnn hat h0 f0
      go_wp2
      go_roundw
      case rel =>
        refine ⟨y / 128, d ++ [UInt8.ofNat (y % 128 + 128)], by omega, ?_, ?_, g3.out.1.mono fun b _ hs => ?_, hT.trans g3.out.2 fun i hi hs => ?_⟩
        · go_num
        · show l ++ put x = _
          rw [HD.out, HP.out]; simp
        · rcases hs with hs | hs
          · exact hs
          · exact .inr (Nat.le_trans hT.size hs)
        · rcases hs with hs | hs
          · exact hs
          · omega
      case measure => simp [intOf]; omega
end Go.Proofs.Ytpdkoiogfaimaaa

/-! codec.Writer: Bytes, Bool, Out, NewWriter; a Writer and a Reader that are none. -/
namespace Go.Proofs.Ytpdkoiogfaimaaa
open Go.RowKit Codec

theorem Put.join {w w1 w2 : World} {S : Nat → Prop} {p : Nat} {l m : List UInt8} {e1 e2 : Ending} (h1 : Put w S p l e1 w1) (h2 : Put w1 (fun b => S b ∨ w.heap.size ≤ b) p m e2 w2) : Put w S p m (.returned (.tuple #[])) w2 :=
  ⟨rfl, h2.2.1.mono fun _ _ hs => by
    rcases hs with hs | hs
    · exact hs
    · exact .inr (Nat.le_trans h1.2.2.size hs),
   h1.2.2.trans h2.2.2 fun i hi hs => by
    rcases hs with hs | hs
    · exact hs
    · omega⟩
/-- Where all from B on is the writer's own. -/
theorem Put.from {w w' : World} {B p : Nat} {l : List UInt8} {e : Ending} (h : Put w (B ≤ ·) p l e w') (hB : B ≤ w.heap.size) : Wr w' (B ≤ ·) p l ∧ Below B w w' :=
  ⟨h.2.1.mono fun _ _ hs => by rcases hs with hs | hs <;> omega, h.2.2.below hB⟩

set_option maxHeartbeats 1000000 in
theorem wbytes {w : World} {S T : Nat → Prop} {p : Nat} {l m : List UInt8} {A : Option Addr} {n c : Nat} (h : Wr w S p l) (hm : Byt w T A n c m) (hd : ∀ b, b < w.heap.size → T b → ¬ S b) (hb : l.length + 10 + n ≤ 140737488355328) :
    Calls Try.prog 57 #[.pointer (some ⟨p, 0, none⟩), .slice A n c] w (Put w S p (l ++ (put m.length ++ m))) := by
  have hn : n < 18446744073709551616 := by omega
  have hml := hm.len
  have hput := put_length_64 (x := n) (by omega)
  have hu := wuint (x := n) h hn (by omega)
  have HB := Lib.hid hb
  have HM := Lib.hid hml
  clear hml
  go_enter Try.func57, Try.ntmps57
  go_wp2_with fail
  refine hu.mono ?_
  rintro _ w1 ⟨rfl, h1⟩
  go_wp2_with fail
  refine (wfixed h1.1 (hm.turned h1.2 hd) (by have := HB.out; simp; omega)).mono ?_
  rintro _ w2 ⟨rfl, h2⟩
  go_wp2
  go_end0
  have h3 := Put.join (e1 := .returned (.tuple #[])) (e2 := .returned (.tuple #[])) ⟨rfl, h1⟩ ⟨rfl, h2⟩
  rw [HM.out]
  rw [List.append_assoc] at h3
  exact h3

set_option maxHeartbeats 1000000 in
theorem wbool {w : World} {S : Nat → Prop} {p : Nat} {l : List UInt8} (h : Wr w S p l) (x : Bool) (hb : l.length + 1 ≤ 140737488355328) :
    Calls Try.prog 58 #[.pointer (some ⟨p, 0, none⟩), .bool x] w (Put w S p (l ++ [if x then 1 else 0])) := by
  have one : ∀ v : UInt8, Byt (w.alloc (.cells #[.int .u8 (v.toNat : Int)] 5)) (w.heap.size ≤ ·) (some ⟨w.heap.size, 0, none⟩) 1 1 [v] := fun v =>
    ⟨rfl, Nat.le_refl _, by unfold maxLen; omega, fun _ => ⟨w.heap.size, 0, rfl, Nat.le_refl _, by simp, fun i hi => by
      obtain rfl : i = 0 := by omega
      rw [cell_of_cells (heap_alloc_new w _)]; rfl⟩⟩
  have hT : ∀ o, Turned S w (w.alloc o) := fun o => (Turned.refl S w).alloc o
  have hW : ∀ o, Wr (w.alloc o) S p l := fun o => h.turned (T := fun _ => False) ((Turned.refl _ w).alloc o) (fun _ _ _ hf => hf)
  have fin : ∀ (o : Obj) (m : List UInt8) (e : Ending) (w2 : World), Put (w.alloc o) S p m e w2 → Put w S p m e w2 := fun o m e w2 h2 =>
    ⟨h2.1, h2.2.1.mono fun b _ hs => by
      rcases hs with hs | hs
      · exact .inl hs
      · simp at hs; exact .inr (by omega), (hT o).trans h2.2.2 fun _ _ hs => hs⟩
  cases x
  · have h0 := one 0
    simp only [show ((0 : UInt8).toNat : Int) = 0 from rfl] at h0
    go_enter Try.func58, Try.ntmps58
    go_wp2_with fail
    refine (wfixed (hW _) h0 hb).mono ?_
    rintro _ w2 ⟨rfl, h2⟩
    go_wp2
    go_end0
    exact fin _ _ _ _ ⟨rfl, h2⟩
  · have h0 := one 1
    simp only [show ((1 : UInt8).toNat : Int) = 1 from rfl] at h0
    go_enter Try.func58, Try.ntmps58
    go_wp2_with fail
    refine (wfixed (hW _) h0 hb).mono ?_
    rintro _ w2 ⟨rfl, h2⟩
    go_wp2
    refine bodyPost_ret (results_none rfl _ _ _) rfl ?_
    exact fin _ _ _ _ ⟨rfl, h2⟩

/-- What a writer holds, as bytes in its own row. -/
theorem wr_byt {w : World} {S : Nat → Prop} {p : Nat} {l : List UInt8} (h : Wr w S p l) : ∃ A c, w.cell? ⟨p, 0, none⟩ = some (.slice A l.length c) ∧ Byt w (fun _ => True) A l.length c l := by
  obtain ⟨_, A, c, hh, ho, _⟩ := h
  obtain ⟨A', c', hv, hb⟩ := own_byt ho
  injection hv with h1 _ h2
  subst h1 h2
  exact ⟨A, c, by rw [cell_of_cells hh 0]; rfl, hb.mono fun _ _ _ => trivial⟩

set_option maxHeartbeats 1000000 in
theorem wout {w : World} {S : Nat → Prop} {p : Nat} {l : List UInt8} (h : Wr w S p l) (hb : l.length ≤ 140737488355328) :
    Calls Try.prog 59 #[.pointer (some ⟨p, 0, none⟩)] w fun r w' => ∃ A c, r = .returned (.slice A l.length c) ∧ Byt w' (w.heap.size ≤ ·) A l.length c l ∧ Below w.heap.size w w' ∧ FreeRow w' A := by
  obtain ⟨A0, c0, h0, hY⟩ := wr_byt h
  go_enter Try.func59, Try.ntmps59
  go_wp2_with fail
  refine (clone_byt hY hb).mono ?_
  rintro _ w1 ⟨A, c, rfl, hY1, hb1, _, hF1⟩
  go_wp2
  go_ret
  exact ⟨A, c, rfl, hY1, hb1, hF1⟩

theorem newWriter (w : World) :
    Calls Try.prog 55 #[] w fun r w' => ∃ p, r = .returned (.pointer (some ⟨p, 0, none⟩)) ∧ Wr w' (w.heap.size ≤ ·) p [] ∧ Below w.heap.size w w' := by
  go_enter Try.func55, Try.ntmps55
  go_wp2
  go_ret
  exact ⟨w.heap.size, rfl, ⟨Nat.le_refl _, none, 0, heap_alloc_new w _, World.ownsRow_nil _ _ _ _, fun a h => by cases h⟩, (Below.refl _ _).alloc (Nat.le_refl _) _⟩

/-! None -/
theorem wuint_nil (w : World) (x : Int) : Calls Try.prog 56 #[.pointer none, .int .u64 x] w fun e w' => e = .returned (.tuple #[]) ∧ w = w' := by
  go_enter Try.func56, Try.ntmps56
  go_wp2
  refine bodyPost_ret (results_none rfl _ _ _) rfl ?_
  exact ⟨rfl, rfl⟩
theorem wfixed_nil (w : World) (A : Option Addr) (n c : Nat) : Calls Try.prog 81 #[.pointer none, .slice A n c] w fun e w' => e = .returned (.tuple #[]) ∧ w = w' := by
  go_enter Try.func81, Try.ntmps81
  go_wp2
  refine bodyPost_ret (results_none rfl _ _ _) rfl ?_
  exact ⟨rfl, rfl⟩
theorem wbytes_nil (w : World) (A : Option Addr) (n c : Nat) : Calls Try.prog 57 #[.pointer none, .slice A n c] w fun e w' => e = .returned (.tuple #[]) ∧ w = w' := by
  go_enter Try.func57, Try.ntmps57
  go_wp2_with fail
  refine (wuint_nil _ _).mono ?_
  rintro _ _ ⟨rfl, rfl⟩
  go_wp2_with fail
  refine (wfixed_nil _ _ _ _).mono ?_
  rintro _ _ ⟨rfl, rfl⟩
  go_wp2
  go_end0
  exact ⟨rfl, rfl⟩
theorem wbool_nil (w : World) (x : Bool) : Calls Try.prog 58 #[.pointer none, .bool x] w fun e w' => e = .returned (.tuple #[]) ∧ Below w.heap.size w w' := by
  cases x
  · go_enter Try.func58, Try.ntmps58
    go_wp2_with fail
    refine (wfixed_nil _ _ _ _).mono ?_
    rintro _ _ ⟨rfl, rfl⟩
    go_wp2
    go_end0
    exact ⟨rfl, (Below.refl _ _).alloc (Nat.le_refl _) _⟩
  · go_enter Try.func58, Try.ntmps58
    go_wp2_with fail
    refine (wfixed_nil _ _ _ _).mono ?_
    rintro _ _ ⟨rfl, rfl⟩
    go_wp2
    refine bodyPost_ret (results_none rfl _ _ _) rfl ?_
    exact ⟨rfl, (Below.refl _ _).alloc (Nat.le_refl _) _⟩
theorem wout_nil (w : World) : Calls Try.prog 59 #[.pointer none] w fun r w' => r = .returned (.slice none 0 0) ∧ w = w' := by
  go_enter Try.func59, Try.ntmps59
  go_wp2
  go_ret
  exact ⟨rfl, rfl⟩

theorem uint_nil (w : World) : Calls Try.prog 51 #[.pointer none] w fun r w' => r = .returned (.int .u64 0) ∧ w = w' := by
  go_enter Try.func51, Try.ntmps51
  go_wp2_with (go_at_call 77; refine (err_nil _).mono ?_; rintro _ _ ⟨rfl, rfl⟩)
  go_ret
  exact ⟨rfl, rfl⟩
theorem take_nil (w : World) (k : Int) : Calls Try.prog 80 #[.pointer none, .int .i64 k] w fun r w' => r = .returned (.slice none 0 0) ∧ w = w' := by
  go_enter Try.func80, Try.ntmps80
  go_wp2_with (go_at_call 77; refine (err_nil _).mono ?_; rintro _ _ ⟨rfl, rfl⟩)
  go_ret
  exact ⟨rfl, rfl⟩
theorem fixed_nil (w : World) (k : Int) : Calls Try.prog 79 #[.pointer none, .int .i64 k] w fun r w' => r = .returned (.slice none 0 0) ∧ w = w' := by
  have hc := clone_nil
  go_enter Try.func79, Try.ntmps79
  go_wp2_with fail
  refine (take_nil _ _).mono ?_
  rintro _ _ ⟨rfl, rfl⟩
  go_wp2_with fail
  refine (hc _).mono ?_
  rintro _ _ ⟨rfl, rfl⟩
  go_wp2
  go_ret
  exact ⟨rfl, rfl⟩
theorem bytes_nil (w : World) (k : Int) : Calls Try.prog 52 #[.pointer none, .int .i64 k] w fun r w' => r = .returned (.slice none 0 0) ∧ w = w' := by
  go_enter Try.func52, Try.ntmps52
  go_wp2_with fail
  refine (uint_nil _).mono ?_
  rintro _ _ ⟨rfl, rfl⟩
  go_wp2_with fail
  refine (err_nil _).mono ?_
  rintro _ _ ⟨rfl, rfl⟩
  go_wp2
  go_ret
  exact ⟨rfl, rfl⟩
theorem bool_nil (w : World) : Calls Try.prog 54 #[.pointer none] w fun r w' => r = .returned (.bool false) ∧ w = w' := by
  have hnil := fun (w : World) (a : Option Addr) (n c : Nat) => Lib.run_eql_slice_nil (P := Try.prog) w 23 5 a n c 0 0 Try.underlying23
  go_enter Try.func54, Try.ntmps54
  go_wp2_with fail
  refine (take_nil _ _).mono ?_
  rintro _ _ ⟨rfl, rfl⟩
  go_wp2
  go_ret
  exact ⟨rfl, rfl⟩
theorem end_nil (w : World) : Calls Try.prog 53 #[.pointer none] w fun r w' => r = .returned (.int .i64 1) ∧ w = w' := by
  go_enter Try.func53, Try.ntmps53
  go_wp2_with (go_at_call 77; refine (err_nil _).mono ?_; rintro _ _ ⟨rfl, rfl⟩)
  go_ret
  exact ⟨rfl, rfl⟩
end Go.Proofs.Ytpdkoiogfaimaaa

/-! Cells: the record of changes, written. -/
namespace Go.Proofs.Ytpdkoiogfaimaaa
open Go.RowKit Codec

/-- While it is written. -/
def CrR (w : World) (p : Nat) (pre : List UInt8) (l : List Ch) (i : Value) (wr : World) : Prop :=
  ∃ j : Nat, j ≤ l.length ∧ i = .int .i64 (j : Int) ∧ Wr wr (w.heap.size ≤ ·) p (pre ++ ofC (l.take j)) ∧ Below w.heap.size w wr
theorem wtC_app (l m : List Ch) : wtC (l ++ m) = wtC l + wtC m := by
  induction l with
  | nil => simp [wtC]
  | cons p t ih => simp only [List.cons_append, wtC, ih]; omega
theorem wtC_take (l : List Ch) (j : Nat) : wtC (l.take j) ≤ wtC l := by
  have h := wtC_app (l.take j) (l.drop j)
  rw [List.take_append_drop] at h
  omega
theorem wtC_mem {l : List Ch} {x : Ch} (h : x ∈ l) : x.k.length + x.v.length + 21 ≤ wtC l := by
  obtain ⟨a, b, rfl⟩ := List.append_of_mem h
  rw [wtC_app]
  simp only [wtC]
  omega
set_option maxHeartbeats 4000000 in
set_option maxRecDepth 100000 in
theorem chsrec_any {w : World} {S : Nat → Prop} {A : Option Addr} {n c : Nat} {l : List Ch} (hl : Chs w S A n c l) (hb : wtC l ≤ 900000) :
    Calls Try.prog 38 #[.slice A n c] w fun e w' => ∃ A' m c', e = .returned (.slice A' m c') ∧ Byt w' (w.heap.size ≤ ·) A' m c' (chsB l) ∧ Below w.heap.size w w' := by
  have hnw := newWriter w
  have hwl := wtC_len l
  have hnl := hl.len
  have hcv := IntWalk.u64_in (n : Int) (by omega)
  have hbig : n ≤ 100000 := by omega
  have HL := Lib.hid (And.intro hl hb)
  have hzc := zero_chg
  clear hl hb
  go_enter Try.func38, Try.ntmps38
  go_upto_region 2 with (go_at_call 55; refine hnw.mono ?_; clear hnw; rintro _ w1 ⟨p, rfl, hw1, hb1⟩)
  have h2 := wuint hw1 (x := 2) (by omega) (by simp)
  have HB1 := Lib.hid hb1
  clear hw1 hb1
  go_upto_region 3 with (go_at_call 56; refine h2.mono ?_; clear h2; rintro _ w2 hp2; obtain ⟨rfl, hw2, ht2⟩ := hp2)
  have hp2 := Put.from (e := .returned (.tuple #[])) (show Put w1 (w.heap.size ≤ ·) p ([] ++ put 2) _ w2 from ⟨rfl, hw2, ht2⟩) HB1.out.size
  have HB2 := Lib.hid (HB1.out.trans hp2.2)
  have h3 := wuint hp2.1 (x := n) (by omega) (by have := put_length_64 (x := 2) (by omega); simp; omega)
  clear hw2 ht2 hp2 HB1
  go_upto_region 4 with (go_at_call 56; refine h3.mono ?_; clear h3; rintro _ w3 hp3; obtain ⟨rfl, hw3, ht3⟩ := hp3)
  have hp3 := Put.from (e := .returned (.tuple #[])) (show Put w2 (w.heap.size ≤ ·) p ([] ++ put 2 ++ put n) _ w3 from ⟨rfl, hw3, ht3⟩) HB2.out.size
  obtain ⟨pre, hpre⟩ : ∃ pre, pre = put 2 ++ put n := ⟨_, rfl⟩
  have H0 : Hid (CrR w p pre l (.int .i64 0) w3) := Lib.hid ⟨0, Nat.zero_le _, rfl, by rw [hpre]; simpa [ofC] using hp3.1, HB2.out.trans hp3.2⟩
  have HPRE : Hid (pre = put 2 ++ put n ∧ pre.length ≤ 20) := Lib.hid ⟨hpre, by rw [hpre, List.length_append]; have h1 := put_length_64 (x := 2) (by omega); have h2 := put_length_64 (x := n) (by omega); omega⟩
  have HN := Lib.hid hnl
  clear hw3 ht3 hp3 HB2 hpre hnl hwl
  go_wp2_with fail
  go_loopw [16] (fun i wr => CrR w p pre l i wr) (fun i _ => n - (intOf i).toNat)
  case atStart => exact H0.out
  case round =>
    obtain ⟨j, hj, rfl, hwr, hbw⟩ := hrel
    clear H0
    have HK := Lib.hid (And.intro hwr hbw)
    clear hwr hbw
    by_cases hlt : j < n
    · have hlt' : (j : Int) < (n : Int) := by omega
      obtain ⟨q, off, x, Ai, ni, ci, rfl, _, hqlt, hx, hcs, hy⟩ := HL.out.1.at_ hlt
      have hxw := wtC_mem (List.mem_of_getElem? hx)
      obtain ⟨CV, hCV⟩ : ∃ CV, CV = chV Ai ni ci x := ⟨_, rfl⟩
      rw [← hCV] at hcs
      have hcw : ∀ (i : Nat) (v : Value), CV[i]? = some v → wr.cell? ((⟨q, off + j * 3, none⟩ : Addr).add i) = some v := fun i v hv => by
        have h1 := hcs i v hv
        rw [add_plain] at h1 ⊢
        exact (HK.out.2.cell (p := ⟨_, _, none⟩) hqlt).trans h1
      have hyr := (hy.mono (T := fun k => k < w.heap.size) fun k hk _ => hk).below HK.out.2
      have hadd := IntWalk.i64_in ((j : Int) + 1) (by omega)
      have HCV := Lib.hid (And.intro hCV (And.intro hcw hyr))
      have HX := Lib.hid (And.intro hx hxw)
      clear hCV hcw hyr hcs hy hx hxw hqlt
      go_upto_region 7 with (first
        | (refine wpList_load_at (by rfl) 25 (.tmp 18) (by rfl) ⟨q, off + j * 3, none⟩ (by rfl) CV _ HCV.out.2.1 Try.underlying25 (by rfl) (by rw [HCV.out.1]; exact chg_info) ?_)
        | (refine wpList_store_row (by rfl) 25 (.tmp 5) (.tmp 19) (by rfl) wr.heap.size CV (by rfl) (by rfl) 25 _ (heap_alloc_new wr _) (by rw [HCV.out.1]; exact chg_info) (by rw [HCV.out.1]; rfl) (by rw [HCV.out.1]; exact chV_one _ _ _ _) ?_))
      have hal : Below wr.heap.size wr ((wr.alloc (.cells #[.string ⟨#[]⟩, .slice none 0 0, .bool false] 25)).setRow wr.heap.size CV) := below_setRow ((Below.refl _ _).alloc (Nat.le_refl _) _) (Nat.le_refl _) _
      have hpa : ((wr.alloc (.cells #[.string ⟨#[]⟩, .slice none 0 0, .bool false] 25)).setRow wr.heap.size CV).heap[wr.heap.size]? = some (.cells CV 25 (0, 0)) := setRow_at (heap_alloc_new wr _)
      have hw5 := (HK.out.1.mono (T := fun k => w.heap.size ≤ k ∧ k ≠ wr.heap.size) fun k hk h => ⟨h, by omega⟩).turned (T := fun _ => False) (Turned.of_below hal) fun _ _ _ h => h
      have H5 := Lib.hid (And.intro hal (And.intro hpa (show ((wr.alloc (.cells #[.string ⟨#[]⟩, .slice none 0 0, .bool false] 25)).setRow wr.heap.size CV).heap.size = wr.heap.size + 1 by simp [World.setRow])))
      have HW5 := Lib.hid hw5
      clear hal hpa hzc hw5
      generalize (wr.alloc (.cells #[.string ⟨#[]⟩, .slice none 0 0, .bool false] 25)).setRow wr.heap.size CV = w5 at *
      have hc0 : w5.cell? ⟨wr.heap.size, 0, none⟩ = some (.string (st x.k)) := by rw [cell_of_cells H5.out.2.1, HCV.out.1]; rfl
      have hy5 := HCV.out.2.2.below H5.out.1
      have HY5 := Lib.hid hy5
      clear hy5
      obtain ⟨c6, w6, hcv6, hb6, hy6⟩ := conv_bytes x.k (by have := HX.out.2; have := HL.out.2; omega) w5
      have hwt := wtC_take l j
      have hofl := ofC_len (l.take j) (by have := HL.out.2; omega)
      have hl5 : (pre ++ ofC (l.take j)).length ≤ 1000000 := by rw [List.length_append]; have := HPRE.out.2; have := HL.out.2; omega
      have hxb : x.k.length + x.v.length ≤ 900000 := by have := HX.out.2; have := HL.out.2; omega
      have hwb := wbytes ((HW5.out.mono (T := fun k => (w.heap.size ≤ k ∧ k ≠ wr.heap.size) ∧ k < w5.heap.size) fun k hk h => ⟨h, hk⟩).turned (T := fun _ => False) (Turned.of_below hb6) fun _ _ _ h => h) hy6 (fun k _ h1 h2 => by rw [h1] at h2; omega) (by omega)
      have HB6 := Lib.hid (And.intro hb6 (And.intro hl5 hxb))
      clear hb6 hy6 hwt hofl hl5 hxb
      go_upto_region 8 with (go_at_call 57; refine hwb.mono ?_; clear hwb; rintro _ w7 hp7; obtain ⟨rfl, hw7, ht7⟩ := hp7)
      have H7 := Lib.hid (And.intro (hw7.mono (T := fun k => w.heap.size ≤ k ∧ k ≠ wr.heap.size) fun k hk h => by
          have h1 := HB6.out.1.size; have h2 := H5.out.2.2; have h3 := HK.out.2.size
          rcases h with h | h
          · exact h.1
          · exact ⟨by omega, by omega⟩) ((Turned.of_below (S := fun k => w.heap.size ≤ k ∧ k ≠ wr.heap.size) HB6.out.1).trans ht7 fun k _ h => h.1))
      clear hw7 ht7 hcv6
      have hc2 : w7.cell? ⟨wr.heap.size, 2, none⟩ = some (.bool x.g) := (cell_turned H7.out.2 (by have := H5.out.2.2; omega) (fun h => h.2 rfl) 2).trans (by rw [cell_of_cells H5.out.2.1, HCV.out.1]; rfl)
      have hrl : ((pre ++ ofC (l.take j)) ++ (put x.k.length ++ x.k)).length ≤ 2000000 := by
        have h1 := put_length_64 (x := x.k.length) (by have := HB6.out.2.2; omega)
        have h2 := HB6.out.2.1
        have h3 := HB6.out.2.2
        simp only [List.length_append] at h2 ⊢
        omega
      have hwo := wbool H7.out.1 x.g (by omega)
      have HRL := Lib.hid hrl
      clear hrl hc0
      go_upto_region 9 with (go_at_call 58; refine hwo.mono ?_; clear hwo; rintro _ w8 hp8; obtain ⟨rfl, hw8, ht8⟩ := hp8)
      have H8 := Lib.hid (And.intro (hw8.mono (T := fun k => w.heap.size ≤ k ∧ k ≠ wr.heap.size) fun k hk h => by
          have h1 := H7.out.2.size; have h2 := H5.out.2.2; have h3 := HK.out.2.size
          rcases h with h | h
          · exact h
          · exact ⟨by omega, by omega⟩) (H7.out.2.trans ht8 fun k _ h => h))
      clear hw8 ht8 hc2
      have hc2 : w8.cell? ⟨wr.heap.size, 2, none⟩ = some (.bool x.g) := (cell_turned H8.out.2 (by have := H5.out.2.2; omega) (fun h => h.2 rfl) 2).trans (by rw [cell_of_cells H5.out.2.1, HCV.out.1]; rfl)
      have hc1 : w8.cell? ⟨wr.heap.size, 1, none⟩ = some (.slice Ai ni ci) := (cell_turned H8.out.2 (by have := H5.out.2.2; omega) (fun h => h.2 rfl) 1).trans (by rw [cell_of_cells H5.out.2.1, HCV.out.1]; rfl)
      have HTK : Hid (l.take (j + 1) = l.take j ++ [x]) := Lib.hid (by
        obtain ⟨hjl, hxe⟩ := List.getElem?_eq_some_iff.1 HX.out.1
        rw [List.take_succ_eq_append_getElem hjl, hxe])
      have HBA : Hid (∀ W, Turned (fun k => w.heap.size ≤ k ∧ k ≠ wr.heap.size) w5 W → Below w.heap.size w W) := Lib.hid (fun W h => HK.out.2.trans ((H5.out.1.mono HK.out.2.size).trans ((h.mono (T := (w.heap.size ≤ ·)) fun k _ hk => hk.1).below (by have := HK.out.2.size; have := H5.out.2.2; omega))))
      cases hg : x.g
      · rw [hg] at hc2
        have hwv := wbytes (H8.out.1) (HY5.out.turned H8.out.2 fun k _ h1 h2 => by have := h2.1; omega) (fun k _ h1 h2 => by have := h2.1; omega) (by have h1 := HRL.out; have := HB6.out.2.2; have := HY5.out.len; simp only [List.length_append, List.length_singleton] at h1 ⊢; omega)
        have HG := Lib.hid hg
        clear hg
        go_wp2_with (go_at_call 57; refine hwv.mono ?_; clear hwv; rintro _ w9 hp9; obtain ⟨rfl, hw9, ht9⟩ := hp9; have H9 := Lib.hid (And.intro hw9 ht9); clear hw9 ht9)
        go_roundw
        case rel =>
          unfold CrR
          refine ⟨j + 1, by have := HN.out; omega, by simp, ?_, HBA.out _ (H8.out.2.trans H9.out.2 fun k _ h => h)⟩
          rw [HTK.out, ofC_snoc]
          have e : pre ++ (ofC (l.take j) ++ chgB x) = pre ++ ofC (l.take j) ++ (put x.k.length ++ x.k) ++ [if x.g then 1 else 0] ++ (put x.v.length ++ x.v) := by
            unfold chgB rowB
            simp [HG.out]
          rw [e]
          refine H9.out.1.mono fun k hk h => ?_
          rcases h with h | h
          · exact h.1
          · have h1 := H8.out.2.size
            have h2 := H5.out.2.2
            have h3 := HK.out.2.size
            omega
        case measure => simp only [intOf]; omega
      · rw [hg] at hc2
        have HG := Lib.hid hg
        clear hg hc1
        go_wp2_with fail
        go_roundw
        case rel =>
          unfold CrR
          refine ⟨j + 1, by have := HN.out; omega, by simp, ?_, HBA.out _ H8.out.2⟩
          rw [HTK.out, ofC_snoc]
          have e : pre ++ (ofC (l.take j) ++ chgB x) = pre ++ ofC (l.take j) ++ (put x.k.length ++ x.k) ++ [if x.g then 1 else 0] := by
            unfold chgB rowB
            simp [HG.out]
          rw [e]
          exact H8.out.1.mono fun k hk h => h.1
        case measure => simp only [intOf]; omega
    · obtain rfl : j = n := by have := HN.out; omega
      have hnl : ¬ (j : Int) < (j : Int) := by omega
      have hfull : l.take j = l := List.take_of_length_le (by have := HN.out; omega)
      have h1 := HK.out.1
      rw [hfull, HPRE.out.1, ← HN.out, show put 2 ++ put l.length ++ ofC l = chsB l from rfl] at h1
      have hcl := chsB_len l (by have := HL.out.2; omega)
      have hout := wout h1 (by have := HL.out.2; omega)
      have HB := Lib.hid HK.out.2
      clear hlt h1 hfull hcl
      obtain ⟨M, hM⟩ : ∃ M, M = (chsB l).length := ⟨_, rfl⟩
      rw [← hM] at hout
      clear hM
      go_wp2_with (go_at_call 59; refine hout.mono ?_; clear hout; rintro _ w8 ⟨A8, c8, rfl, hy8, hb8, _⟩; have H8 := Lib.hid (And.intro (hy8.mono (T := (w.heap.size ≤ ·)) fun k _ hk => Nat.le_trans HB.out.size hk) (HB.out.trans (hb8.mono HB.out.size))); clear hy8 hb8)
      go_ret
      exact ⟨A8, _, c8, rfl, H8.out.1, H8.out.2⟩
end Go.Proofs.Ytpdkoiogfaimaaa

/-! Cells: the changes behind a record of all, done; what may be read. -/
namespace Go.Proofs.Ytpdkoiogfaimaaa
open Go.RowKit Codec

/-- What is read of changes may be; how much it is. -/
theorem rcGo_may : ∀ (n : Nat) (acc : List Ch) (l : List UInt8) (e : Int) {a : List Ch} {l' : List UInt8} {e' : Int}, rcGo n acc l e = some (a, l', e') → (∀ x ∈ acc, mayC x = true) → (∀ x ∈ a, mayC x = true) ∧ a.length + l'.length ≤ acc.length + l.length ∧ wtC a + 22 * l'.length ≤ wtC acc + 22 * l.length
  | 0, acc, l, e, a, l', e', h, hm => by
    rw [rcGo] at h
    simp only [Option.some.injEq, Prod.mk.injEq] at h
    obtain ⟨rfl, rfl, rfl⟩ := h
    exact ⟨hm, Nat.le_refl _, Nat.le_refl _⟩
  | n + 1, acc, l, e, a, l', e', h, hm => by
    rw [rcGo] at h
    split at h
    · cases h
    · rename_i hx
      have hx' : mayC (rc1 l e).1 = true := by simpa using hx
      have ht := rc1_take hx'
      obtain ⟨h1, h2, h3⟩ := rcGo_may n _ _ _ h (fun x hx => by
        rcases List.mem_append.1 hx with hx | hx
        · exact hm x hx
        · simp only [List.mem_singleton] at hx
          rw [hx]
          exact hx')
      refine ⟨h1, ?_, ?_⟩
      · rw [List.length_append, List.length_singleton] at h2
        omega
      · rw [wtC_app] at h3
        simp only [wtC] at h3
        omega
theorem rcM_may {b : List UInt8} {a : List Ch} (h : rcM b = some a) : (∀ x ∈ a, mayC x = true) ∧ a.length ≤ b.length ∧ wtC a ≤ 22 * b.length := by
  unfold rcM at h
  split at h
  · cases h
  · rcases hg : rcGo (uiX (uiL b 0) (uiE b 0)) [] (uiL (uiL b 0) (uiE b 0)) (uiE (uiL b 0) (uiE b 0)) with _ | ⟨a', l', e'⟩
    · rw [hg, rcEnd] at h; cases h
    · rw [hg, rcEnd] at h
      split at h
      · injection h with h
        subst h
        obtain ⟨h1, h2, h3⟩ := rcGo_may _ _ _ _ hg (by simp)
        have h4 := uiL_length b 0
        have h5 := uiL_length (uiL b 0) (uiE b 0)
        simp only [List.length_nil, wtC] at h2 h3
        exact ⟨h1, by omega, by omega⟩
      · cases h
theorem may_small {x : Ch} (h : mayC x = true) : 1 ≤ x.k.length ∧ x.k.length ≤ 64 ∧ x.v.length ≤ 4096 ∧ (x.g = true → x.v = []) := by
  unfold mayC at h
  simp only [Bool.and_eq_true, decide_eq_true_eq] at h
  refine ⟨h.1.1, h.1.2, ?_, fun hg => ?_⟩
  · have := h.2
    split at this <;> omega
  · rw [hg] at h
    exact List.eq_nil_of_length_eq_zero (by simpa using h.2)
theorem raGo_may : ∀ (n : Nat) (t : Tb) (last l : List UInt8) (e : Int) {a : Tb} {l' : List UInt8} {e' : Int}, raGo n t last l e = some (a, l', e') → a.length + l'.length ≤ t.length + l.length ∧ wtT a + 22 * l'.length ≤ wtT t + 22 * l.length
  | 0, t, last, l, e, a, l', e', h => by
    rw [raGo] at h
    simp only [Option.some.injEq, Prod.mk.injEq] at h
    obtain ⟨rfl, rfl, rfl⟩ := h
    exact ⟨Nat.le_refl _, Nat.le_refl _⟩
  | n + 1, t, last, l, e, a, l', e', h => by
    rw [raGo] at h
    split at h
    · cases h
    · rename_i hx
      have hne : byB l e 64 ≠ [] := fun e1 => hx (by rw [e1]; exact List.nil_le _)
      have ht := (by_take l e 64 (.inl hne)).2
      obtain ⟨h2, h3⟩ := raGo_may n _ _ _ _ h
      have hv : (byL (byL l e 64) (byE l e 64) 4096).length + (byB (byL l e 64) (byE l e 64) 4096).length ≤ (byL l e 64).length := by
        by_cases h0 : byE (byL l e 64) (byE l e 64) 4096 = 0
        · have := (by_take _ _ 4096 (.inr h0)).2
          omega
        · rw [by_bad h0]
          have := byL_len (byL l e 64) (byE l e 64) 4096
          simpa using this
      refine ⟨?_, ?_⟩
      · rw [List.length_append, List.length_singleton] at h2
        omega
      · rw [wtT_app] at h3
        simp only [wtT] at h3
        omega
theorem raM_may {b : List UInt8} {a : Tb} (h : raM b = some a) : a.length ≤ b.length ∧ wtT a ≤ 22 * b.length := by
  unfold raM at h
  split at h
  · cases h
  · rcases hg : raGo (uiX (uiL b 0) (uiE b 0)) [] [] (uiL (uiL b 0) (uiE b 0)) (uiE (uiL b 0) (uiE b 0)) with _ | ⟨a', l', e'⟩
    · rw [hg, raEnd] at h; cases h
    · rw [hg, raEnd] at h
      split at h
      · injection h with h
        subst h
        obtain ⟨h2, h3⟩ := raGo_may _ _ _ _ _ hg
        have h4 := uiL_length b 0
        have h5 := uiL_length (uiL b 0) (uiE b 0)
        simp only [List.length_nil, wtT] at h2 h3
        exact ⟨by omega, by omega⟩
      · cases h
/-- While they are done. -/
def UpR (w : World) (S : Nat → Prop) (mb : Nat) (t : Tb) (bs : List (List UInt8)) (i : Value) (wr : World) : Prop :=
  ∃ (j : Nat) (t' : Tb), j ≤ bs.length ∧ i = .int .i64 (j : Int) ∧ upM t bs = upM t' (bs.drop j) ∧ Nms wr (fun k => S k ∨ (w.heap.size ≤ k ∧ k < wr.heap.size)) mb t' ∧ Turned (fun k => k = mb) w wr ∧ t'.length ≤ t.length + 10000000 * j
def UpPost (w : World) (S : Nat → Prop) (mb : Nat) (r : Option Tb) (e : Ending) (w' : World) : Prop :=
  (match r with
   | none => e = .returned (.int .i64 37)
   | some t' => e = .returned (.int .i64 0) ∧ Nms w' (fun k => S k ∨ (w.heap.size ≤ k ∧ k < w'.heap.size)) mb t') ∧ Turned (fun k => k = mb) w w'
set_option maxHeartbeats 4000000 in
set_option maxRecDepth 100000 in
theorem catchup_any {w : World} {S U : Nat → Prop} {x q mb : Nat} {cnt : Bool} {A : Option Addr} {n c : Nat} {t : Tb} {bs : List (List UInt8)} (hx : w.heap[x]? = some (.cells #[.pointer (some ⟨q, 0, none⟩), .bool cnt, .map (some mb), .slice A n c] 58 (0, 0))) (hm : Nms w S mb t) (hr : Rws w U A n c bs)
    (hxm : x ≠ mb) (hU : ∀ k, k < w.heap.size → U k → k ≠ mb) (hf : bs.length ≤ 65536 ∧ t.length ≤ 10000000) (hb : ∀ b ∈ bs, b.length ≤ 10000000) :
    Calls Try.prog 24 #[.pointer (some ⟨x, 0, none⟩)] w fun e w' => UpPost w S mb (upM t bs) e w' := by
  have hc3 : w.cell? ⟨x, 3, none⟩ = some (.slice A n c) := cell_of_cells hx 3
  have H0 : Hid (UpR w S mb t bs (.int .i64 0) w) := Lib.hid ⟨0, t, Nat.zero_le _, rfl, by rw [List.drop_zero], hm.mono (T := fun k => S k ∨ (w.heap.size ≤ k ∧ k < w.heap.size)) fun k _ h => .inl h, Turned.refl _ _, by omega⟩
  have HL := Lib.hid (And.intro hx (And.intro hr (And.intro hxm (And.intro hU (And.intro hf (And.intro hb hm.lt))))))
  have hbig : n ≤ 65536 := by have := hr.len; omega
  have HN := Lib.hid hr.len
  clear hx hm hr hxm hU hf hb
  go_enter Try.func24, Try.ntmps24
  go_wp2_with fail
  go_loopw [12] (fun i wr => UpR w S mb t bs i wr) (fun i _ => n - (intOf i).toNat)
  case atStart => exact H0.out
  case round =>
    clear hc3
    obtain ⟨j, t', hj, rfl, hup, hnm, htn, htl⟩ := hrel
    clear H0
    have HK := Lib.hid (And.intro hup (And.intro hnm (And.intro htn htl)))
    clear hup hnm htn htl
    by_cases hlt : j < n
    · have hlt' : (j : Int) < (n : Int) := by omega
      obtain ⟨b0, off0, rfl, hub, hblt, hcl⟩ := HL.out.2.1.row (by omega)
      obtain ⟨A0, n0, c0, hc0, hy0⟩ := hcl j hlt
      have hbm := HL.out.2.2.2.1 b0 hblt hub
      have hcw : wr.cell? ⟨b0, off0 + j, none⟩ = some (.slice A0 n0 c0) := (cell_turned HK.out.2.2.1 hblt hbm _).trans hc0
      obtain ⟨B, hB⟩ : ∃ B, bs[j]? = some B := ⟨_, List.getElem?_eq_getElem (by have := HN.out; omega)⟩
      have hBe : bs[j]?.getD [] = B := by rw [hB]; rfl
      rw [hBe] at hy0
      have hBl := HL.out.2.2.2.2.2.1 B (List.mem_of_getElem? hB)
      have hyw := hy0.turned HK.out.2.2.1 (fun k hk h1 h2 => HL.out.2.2.2.1 k hk h1 h2)
      have hrd := readchs_any hyw (by have := hy0.len; omega)
      have hadd := IntWalk.i64_in ((j : Int) + 1) (by omega)
      have hdr : bs.drop j = B :: bs.drop (j + 1) := by
        obtain ⟨hjl, hxe⟩ := List.getElem?_eq_some_iff.1 hB
        rw [List.drop_eq_getElem_cons hjl, hxe]
      have HX := Lib.hid (And.intro hdr hBl)
      have hcx : wr.heap[x]? = some (.cells #[.pointer (some ⟨q, 0, none⟩), .bool cnt, .map (some mb), .slice (some ⟨b0, off0, none⟩) n c] 58 (0, 0)) := (HK.out.2.2.1.block _ (lt_of_cells HL.out.1) HL.out.2.2.1).trans HL.out.1
      have HCX := Lib.hid hcx
      clear hub hblt hcl hc0 hy0 hbm hB hBe hBl hyw hdr hcx
      rcases hrc : rcM B with _ | l
      · rw [hrc] at hrd
        have HRC := Lib.hid hrc
        clear hrc
        go_wp2_with (go_at_call 36; refine hrd.mono ?_; clear hrd; rintro _ w5 ⟨rfl, hb5⟩; have H5 := Lib.hid hb5; clear hb5)
        go_ret
        have hr : upM t bs = none := by rw [HK.out.1, HX.out.1, upM, HRC.out]
        rw [hr]
        exact ⟨rfl, HK.out.2.2.1.trans (Turned.of_below (S := fun k => k = mb) H5.out) fun _ _ h => h⟩
      · rw [hrc] at hrd
        have HRC := Lib.hid hrc
        clear hrc
        go_upto_region 7 with (go_at_call 36; refine hrd.mono ?_; clear hrd; rintro _ w5 ⟨⟨A5, c5, rfl, hcs5⟩, hb5⟩; have H5 := Lib.hid (And.intro hb5 (hcs5.mono (T := fun k => wr.heap.size ≤ k ∧ k < w5.heap.size) fun k hk h => ⟨h, hk⟩)); clear hcs5 hb5)
        have hmay := rcM_may HRC.out
        have hc2 : w5.cell? ⟨x, 2, none⟩ = some (.map (some mb)) := by rw [cell_of_cells ((H5.out.1.block _ (lt_of_cells HCX.out)).trans HCX.out)]; rfl
        have hmb := HK.out.2.1.lt
        have hdo := do_any (HK.out.2.1.below H5.out.1) H5.out.2 (fun k _ h e => by omega) ⟨by have h1 := HK.out.2.2.2; have h2 := HL.out.2.2.2.2.1.2; have h3 := HX.out.2; have h4 := hmay.2.1; omega, by have h3 := HX.out.2; have h4 := hmay.2.1; omega⟩ (fun y hy => by have h1 := may_small (hmay.1 y hy); exact ⟨by omega, by omega⟩)
        have HM := Lib.hid hmay
        clear hmay hmb
        go_wp2_with (go_at_call 27; refine hdo.mono ?_; clear hdo; rintro _ w6 ⟨rfl, hn6, ht6⟩; have H6 := Lib.hid (And.intro hn6 ht6); clear hn6 ht6)
        go_roundw
        case rel =>
          unfold UpR
          have h5s := H5.out.1.size
          have h6s := H6.out.2.size
          have hws := HK.out.2.2.1.size
          refine ⟨j + 1, doL t' l, by have := HN.out; omega, by simp, ?_, ?_, (HK.out.2.2.1.trans (Turned.of_below (S := fun k => k = mb) H5.out.1) fun _ _ h => h).trans H6.out.2 fun _ _ h => h, ?_⟩
          · rw [HK.out.1, HX.out.1, upM, HRC.out]
          · refine H6.out.1.mono fun k hk h => ?_
            rcases h with (h | h) | h
            · exact .inl h
            · exact .inr ⟨h.1, hk⟩
            · exact .inr ⟨by omega, hk⟩
          · have h1 := doL_len t' HK.out.2.1.srt l
            have h2 := HK.out.2.2.2
            have h3 := HM.out.2.1
            have h4 := HX.out.2
            omega
        case measure => simp only [intOf]; omega
    · obtain rfl : j = n := by have := HN.out; omega
      have hnl : ¬ (j : Int) < (j : Int) := by omega
      clear hlt
      go_wp2_with fail
      go_ret
      have hr : upM t bs = some t' := by rw [HK.out.1, List.drop_of_length_le (by have := HN.out; omega), upM]
      rw [hr]
      exact ⟨⟨rfl, HK.out.2.1⟩, HK.out.2.2.1⟩
end Go.Proofs.Ytpdkoiogfaimaaa
