/-
  codec.Writer, its further methods.
  codec.Writer: Bytes, Bool, Out, NewWriter; a Writer and a Reader that are none.
  Cells: the record of changes, written.
  The string of a row of bytes.
  Strings of bytes: read, cut, held against each other.
  A slice of strings that reads as a list of rows of bytes.
  append of bytes to a slice of bytes of the call's own, or to none.
  Words for slices of numbers: one that reads as a list ('Ints'); what a call owns is kept where other blocks turn.
  A disk as the document has it, by values; the reference's Read, Stop, Restart.
-/
import Derived.Test.YtcgnaomffioldaaGreatPk02
import Derived.Test.YtcgnaomffioldaaGreatPk04
import Derived.Test.YtcgnaomffioldaaGreatPk03
import Derived.Test.YtcgnaomffioldaaGreatPk01
import Derived.Deep.AppendLies
/-! codec.Writer, its further methods. -/
namespace Go.Proofs.YtcgnaomffioldaaGreat
open Go.RowKit Codec

theorem or128_all : ∀ a, a < 256 → a ||| 128 = a % 128 + 128 := by decide +kernel
theorem byte_more (x : Nat) : bits .or .u8 (IntKind.u8.wrap (x : Int)) 128 = ((UInt8.ofNat (x % 128 + 128)).toNat : Int) := by
  have e : IntKind.u8.wrap (x : Int) = ((x % 256 : Nat) : Int) := by simp [IntKind.wrap, IntKind.signed, IntKind.bits]
  rw [e, show (128 : Int) = ((128 : Nat) : Int) from rfl, u8_or_nat _ _ (by omega) (by omega), or128_all _ (by omega)]
  have : (UInt8.ofNat (x % 128 + 128)).toNat = x % 128 + 128 := by simp; omega
  rw [this]
  omega
theorem byte_last (x : Nat) : IntKind.u8.wrap (x : Int) = ((UInt8.ofNat x).toNat : Int) := by
  have e : IntKind.u8.wrap (x : Int) = ((x % 256 : Nat) : Int) := by simp [IntKind.wrap, IntKind.signed, IntKind.bits]
  rw [e]
  simp


set_option maxHeartbeats 1000000 in
set_option maxRecDepth 100000 in
theorem wuint {w : World} {S : Nat → Prop} {p : Nat} {l : List UInt8} {x : Nat} (h : Wr w S p l) (hx : x < 18446744073709551616) (hb : l.length + 10 ≤ 140737488355328) :
    Calls Tryz.prog 87 #[.pointer (some ⟨p, 0, none⟩), .int .u64 x] w (Put w S p (l ++ put x)) := by
  obtain ⟨i0, hi, hz0, hz1, hz2⟩ := info_parts u8_info
  go_enter Tryz.func87, Tryz.ntmps87
  go_wp2
  go_loopw [1] (fun s1 wr => ∃ (y : Nat) (d : List UInt8), y < 18446744073709551616 ∧ s1 = .int .u64 y ∧ Hid (l ++ put x = d ++ put y) ∧ Wr wr (fun b => S b ∨ w.heap.size ≤ b) p d ∧ Turned S w wr) (fun s1 _ => (intOf s1).toNat)
  case atStart => exact ⟨x, l, hx, rfl, rfl, h.mono fun _ _ hs => .inl hs, Turned.refl _ _⟩
  case round =>
    obtain ⟨y, d, hy, rfl, HD, hW, hT⟩ := hrel
    obtain ⟨hp, A0, c0, hh, ho, hs⟩ := hW
    have h0 := cell_of_cells hh 0
    simp only [List.getElem?_toArray, List.getElem?_cons_zero] at h0
    have f0 := free_of_cells hh 0
    have hdl : d.length + 1 ≤ l.length + 10 := by
      have e := congrArg List.length HD.out
      have := put_length_64 hx
      have := put_length_pos y
      simp at e
      omega
    have HH := Lib.hid hh
    have HO := Lib.hid ho
    clear hh ho
    have hq4 : d.length + 1 ≤ maxLen := by unfold maxLen; omega
    have hq5 : (d.length + 1) * 1 ≤ 140737488355328 := by omega
    by_cases hlt : y < 128
    · have hge : ¬ 128 ≤ y := by omega
      have hput := put_small hlt
      have HP := Lib.hid hput
      have hone : [Value.int .u8 (y : Int)] = u8s [UInt8.ofNat y] := by simp [u8s, Nat.mod_eq_of_lt (show y < 256 by omega)]
      have HV := Lib.hid hone
      clear hput hone
      go_wp2_with (at_builtin; refine wpList_append_own_at _ rfl _ _ 54 rfl 0 5 i0 (.int .u8 0) 1 1 Tryz.underlying54 hi hz0 hz1 hz2 rfl (by decide) _ d.length (u8s d) rfl (HO.out.alloc _) ⟨wr.heap.size, 0, none⟩ 1 1 [.int .u8 (y : Int)] rfl rfl (cell_one_new _ _ _) (one_of rfl) hq4 hq5 (Nat.zero_le _) ?_)
      intro v' w1 hown hgrow hnn hat
      rw [HV.out] at hown
      obtain ⟨A', c', rfl, _⟩ := own_byt (l := d ++ [UInt8.ofNat y]) (by rw [u8s_append]; exact hown)
      obtain ⟨g1, g2, g3⟩ := Wr.app (S := fun b => S b ∨ w.heap.size ≤ b) hp HH.out HO.out hs ((Below.refl _ _).alloc (Nat.le_refl _) _) hown rfl hgrow (hat.imp_right fun e => e.trans (by simp))
      have fin : Put w S p (l ++ put x) (.returned (.tuple #[])) (w1.setCell ⟨p, 0, none⟩ (.slice A' (d.length + 1) c')) := by
        rw [HD.out, HP.out]
        refine ⟨rfl, g3.out.1.mono fun b _ hs => ?_, hT.trans g3.out.2 fun i hi hs => ?_⟩
        · rcases hs with hs | hs
          · exact hs
          · exact .inr (Nat.le_trans hT.size hs)
        · rcases hs with hs | hs
          · exact hs
          · omega
      have HF := Lib.hid fin
      clear hown hgrow hnn hat h0 f0 fin
      go_wp2
      go_end0
      exact HF.out
    · have hone : [Value.int .u8 (bits .or .u8 (IntKind.u8.wrap (y : Int)) 128)] = u8s [UInt8.ofNat (y % 128 + 128)] := by rw [byte_more]; rfl
      have HV := Lib.hid hone
      have hput := put_big (x := y) (by omega)
      have HP := Lib.hid hput
      clear hput hone
      go_wp2_with (at_builtin; refine wpList_append_own_at _ rfl _ _ 54 rfl 0 5 i0 (.int .u8 0) 1 1 Tryz.underlying54 hi hz0 hz1 hz2 rfl (by decide) _ d.length (u8s d) rfl (HO.out.alloc _) ⟨wr.heap.size, 0, none⟩ 1 1 [.int .u8 (bits .or .u8 (IntKind.u8.wrap (y : Int)) 128)] rfl rfl (cell_one_new _ _ _) (one_of rfl) hq4 hq5 (Nat.zero_le _) ?_)
      intro v' w1 hown hgrow hnn hat
      rw [HV.out] at hown
      obtain ⟨A', c', rfl, _⟩ := own_byt (l := d ++ [UInt8.ofNat (y % 128 + 128)]) (by rw [u8s_append]; exact hown)
      obtain ⟨g1, g2, g3⟩ := Wr.app (S := fun b => S b ∨ w.heap.size ≤ b) hp HH.out HO.out hs ((Below.refl _ _).alloc (Nat.le_refl _) _) hown rfl hgrow (hat.imp_right fun e => e.trans (by simp))
      clear hown hgrow hnn hat h0 f0
      go_wp2
      go_roundw
      case rel =>
        refine ⟨y / 128, d ++ [UInt8.ofNat (y % 128 + 128)], by omega, ?_, ?_, g3.out.1.mono fun b _ hs => ?_, hT.trans g3.out.2 fun i hi hs => ?_⟩
        · go_num
        · show l ++ put x = _
          rw [HD.out, HP.out]; simp
        · rcases hs with hs | hs
          · exact hs
          · exact .inr (Nat.le_trans hT.size hs)
        · rcases hs with hs | hs
          · exact hs
          · omega
      case measure => simp [intOf]; omega
end Go.Proofs.YtcgnaomffioldaaGreat

/-! codec.Writer: Bytes, Bool, Out, NewWriter; a Writer and a Reader that are none. -/
namespace Go.Proofs.YtcgnaomffioldaaGreat
open Go.RowKit Codec

theorem Put.join {w w1 w2 : World} {S : Nat → Prop} {p : Nat} {l m : List UInt8} {e1 e2 : Ending} (h1 : Put w S p l e1 w1) (h2 : Put w1 (fun b => S b ∨ w.heap.size ≤ b) p m e2 w2) : Put w S p m (.returned (.tuple #[])) w2 :=
  ⟨rfl, h2.2.1.mono fun _ _ hs => by
    rcases hs with hs | hs
    · exact hs
    · exact .inr (Nat.le_trans h1.2.2.size hs),
   h1.2.2.trans h2.2.2 fun i hi hs => by
    rcases hs with hs | hs
    · exact hs
    · omega⟩
/-- Where all from B on is the writer's own. -/
theorem Put.from {w w' : World} {B p : Nat} {l : List UInt8} {e : Ending} (h : Put w (B ≤ ·) p l e w') (hB : B ≤ w.heap.size) : Wr w' (B ≤ ·) p l ∧ Below B w w' :=
  ⟨h.2.1.mono fun _ _ hs => by rcases hs with hs | hs <;> omega, h.2.2.below hB⟩

set_option maxHeartbeats 1000000 in
theorem wbytes {w : World} {S T : Nat → Prop} {p : Nat} {l m : List UInt8} {A : Option Addr} {n c : Nat} (h : Wr w S p l) (hm : Byt w T A n c m) (hd : ∀ b, b < w.heap.size → T b → ¬ S b) (hb : l.length + 10 + n ≤ 140737488355328) :
    Calls Tryz.prog 88 #[.pointer (some ⟨p, 0, none⟩), .slice A n c] w (Put w S p (l ++ (put m.length ++ m))) := by
  have hn : n < 18446744073709551616 := by omega
  have hml := hm.len
  have hput := put_length_64 (x := n) (by omega)
  have hu := wuint (x := n) h hn (by omega)
  have HB := Lib.hid hb
  have HM := Lib.hid hml
  clear hml
  go_enter Tryz.func88, Tryz.ntmps88
  go_wp2_with fail
  refine hu.mono ?_
  rintro _ w1 ⟨rfl, h1⟩
  go_wp2_with fail
  refine (wfixed h1.1 (hm.turned h1.2 hd) (by have := HB.out; simp; omega)).mono ?_
  rintro _ w2 ⟨rfl, h2⟩
  go_wp2
  go_end0
  have h3 := Put.join (e1 := .returned (.tuple #[])) (e2 := .returned (.tuple #[])) ⟨rfl, h1⟩ ⟨rfl, h2⟩
  rw [HM.out]
  rw [List.append_assoc] at h3
  exact h3

set_option maxHeartbeats 1000000 in
theorem wbool {w : World} {S : Nat → Prop} {p : Nat} {l : List UInt8} (h : Wr w S p l) (x : Bool) (hb : l.length + 1 ≤ 140737488355328) :
    Calls Tryz.prog 89 #[.pointer (some ⟨p, 0, none⟩), .bool x] w (Put w S p (l ++ [if x then 1 else 0])) := by
  have one : ∀ v : UInt8, Byt (w.alloc (.cells #[.int .u8 (v.toNat : Int)] 5)) (w.heap.size ≤ ·) (some ⟨w.heap.size, 0, none⟩) 1 1 [v] := fun v =>
    ⟨rfl, Nat.le_refl _, by unfold maxLen; omega, fun _ => ⟨w.heap.size, 0, rfl, Nat.le_refl _, by simp, fun i hi => by
      obtain rfl : i = 0 := by omega
      rw [cell_of_cells (heap_alloc_new w _)]; rfl⟩⟩
  have hT : ∀ o, Turned S w (w.alloc o) := fun o => (Turned.refl S w).alloc o
  have hW : ∀ o, Wr (w.alloc o) S p l := fun o => h.turned (T := fun _ => False) ((Turned.refl _ w).alloc o) (fun _ _ _ hf => hf)
  have fin : ∀ (o : Obj) (m : List UInt8) (e : Ending) (w2 : World), Put (w.alloc o) S p m e w2 → Put w S p m e w2 := fun o m e w2 h2 =>
    ⟨h2.1, h2.2.1.mono fun b _ hs => by
      rcases hs with hs | hs
      · exact .inl hs
      · simp at hs; exact .inr (by omega), (hT o).trans h2.2.2 fun _ _ hs => hs⟩
  cases x
  · have h0 := one 0
    simp only [show ((0 : UInt8).toNat : Int) = 0 from rfl] at h0
    go_enter Tryz.func89, Tryz.ntmps89
    go_wp2_with fail
    refine (wfixed (hW _) h0 hb).mono ?_
    rintro _ w2 ⟨rfl, h2⟩
    go_wp2
    go_end0
    exact fin _ _ _ _ ⟨rfl, h2⟩
  · have h0 := one 1
    simp only [show ((1 : UInt8).toNat : Int) = 1 from rfl] at h0
    go_enter Tryz.func89, Tryz.ntmps89
    go_wp2_with fail
    refine (wfixed (hW _) h0 hb).mono ?_
    rintro _ w2 ⟨rfl, h2⟩
    go_wp2
    refine bodyPost_ret (results_none rfl _ _ _) rfl ?_
    exact fin _ _ _ _ ⟨rfl, h2⟩

/-- What a writer holds, as bytes in its own row. -/
theorem wr_byt {w : World} {S : Nat → Prop} {p : Nat} {l : List UInt8} (h : Wr w S p l) : ∃ A c, w.cell? ⟨p, 0, none⟩ = some (.slice A l.length c) ∧ Byt w (fun _ => True) A l.length c l := by
  obtain ⟨_, A, c, hh, ho, _⟩ := h
  obtain ⟨A', c', hv, hb⟩ := own_byt ho
  injection hv with h1 _ h2
  subst h1 h2
  exact ⟨A, c, by rw [cell_of_cells hh 0]; rfl, hb.mono fun _ _ _ => trivial⟩

set_option maxHeartbeats 1000000 in
theorem wout {w : World} {S : Nat → Prop} {p : Nat} {l : List UInt8} (h : Wr w S p l) (hb : l.length ≤ 140737488355328) :
    Calls Tryz.prog 90 #[.pointer (some ⟨p, 0, none⟩)] w fun r w' => ∃ A c, r = .returned (.slice A l.length c) ∧ Byt w' (w.heap.size ≤ ·) A l.length c l ∧ Below w.heap.size w w' ∧ FreeRow w' A := by
  obtain ⟨A0, c0, h0, hY⟩ := wr_byt h
  go_enter Tryz.func90, Tryz.ntmps90
  go_wp2_with fail
  refine (clone_byt hY hb).mono ?_
  rintro _ w1 ⟨A, c, rfl, hY1, hb1, _, hF1⟩
  go_wp2
  go_ret
  exact ⟨A, c, rfl, hY1, hb1, hF1⟩

theorem newWriter (w : World) :
    Calls Tryz.prog 86 #[] w fun r w' => ∃ p, r = .returned (.pointer (some ⟨p, 0, none⟩)) ∧ Wr w' (w.heap.size ≤ ·) p [] ∧ Below w.heap.size w w' := by
  go_enter Tryz.func86, Tryz.ntmps86
  go_wp2
  go_ret
  exact ⟨w.heap.size, rfl, ⟨Nat.le_refl _, none, 0, heap_alloc_new w _, World.ownsRow_nil _ _ _ _, fun a h => by cases h⟩, (Below.refl _ _).alloc (Nat.le_refl _) _⟩

/-! None -/
theorem wuint_nil (w : World) (x : Int) : Calls Tryz.prog 87 #[.pointer none, .int .u64 x] w fun e w' => e = .returned (.tuple #[]) ∧ w = w' := by
  go_enter Tryz.func87, Tryz.ntmps87
  go_wp2
  refine bodyPost_ret (results_none rfl _ _ _) rfl ?_
  exact ⟨rfl, rfl⟩
theorem wfixed_nil (w : World) (A : Option Addr) (n c : Nat) : Calls Tryz.prog 111 #[.pointer none, .slice A n c] w fun e w' => e = .returned (.tuple #[]) ∧ w = w' := by
  go_enter Tryz.func111, Tryz.ntmps111
  go_wp2
  refine bodyPost_ret (results_none rfl _ _ _) rfl ?_
  exact ⟨rfl, rfl⟩
theorem wbytes_nil (w : World) (A : Option Addr) (n c : Nat) : Calls Tryz.prog 88 #[.pointer none, .slice A n c] w fun e w' => e = .returned (.tuple #[]) ∧ w = w' := by
  go_enter Tryz.func88, Tryz.ntmps88
  go_wp2_with fail
  refine (wuint_nil _ _).mono ?_
  rintro _ _ ⟨rfl, rfl⟩
  go_wp2_with fail
  refine (wfixed_nil _ _ _ _).mono ?_
  rintro _ _ ⟨rfl, rfl⟩
  go_wp2
  go_end0
  exact ⟨rfl, rfl⟩
theorem wbool_nil (w : World) (x : Bool) : Calls Tryz.prog 89 #[.pointer none, .bool x] w fun e w' => e = .returned (.tuple #[]) ∧ Below w.heap.size w w' := by
  cases x
  · go_enter Tryz.func89, Tryz.ntmps89
    go_wp2_with fail
    refine (wfixed_nil _ _ _ _).mono ?_
    rintro _ _ ⟨rfl, rfl⟩
    go_wp2
    go_end0
    exact ⟨rfl, (Below.refl _ _).alloc (Nat.le_refl _) _⟩
  · go_enter Tryz.func89, Tryz.ntmps89
    go_wp2_with fail
    refine (wfixed_nil _ _ _ _).mono ?_
    rintro _ _ ⟨rfl, rfl⟩
    go_wp2
    refine bodyPost_ret (results_none rfl _ _ _) rfl ?_
    exact ⟨rfl, (Below.refl _ _).alloc (Nat.le_refl _) _⟩
theorem wout_nil (w : World) : Calls Tryz.prog 90 #[.pointer none] w fun r w' => r = .returned (.slice none 0 0) ∧ w = w' := by
  go_enter Tryz.func90, Tryz.ntmps90
  go_wp2
  go_ret
  exact ⟨rfl, rfl⟩

theorem uint_nil (w : World) : Calls Tryz.prog 81 #[.pointer none] w fun r w' => r = .returned (.int .u64 0) ∧ w = w' := by
  go_enter Tryz.func81, Tryz.ntmps81
  go_wp2_with (go_at_call 107; refine (err_nil _).mono ?_; rintro _ _ ⟨rfl, rfl⟩)
  go_ret
  exact ⟨rfl, rfl⟩
theorem take_nil (w : World) (k : Int) : Calls Tryz.prog 110 #[.pointer none, .int .i64 k] w fun r w' => r = .returned (.slice none 0 0) ∧ w = w' := by
  go_enter Tryz.func110, Tryz.ntmps110
  go_wp2_with (go_at_call 107; refine (err_nil _).mono ?_; rintro _ _ ⟨rfl, rfl⟩)
  go_ret
  exact ⟨rfl, rfl⟩
theorem fixed_nil (w : World) (k : Int) : Calls Tryz.prog 109 #[.pointer none, .int .i64 k] w fun r w' => r = .returned (.slice none 0 0) ∧ w = w' := by
  have hc := clone_nil
  go_enter Tryz.func109, Tryz.ntmps109
  go_wp2_with fail
  refine (take_nil _ _).mono ?_
  rintro _ _ ⟨rfl, rfl⟩
  go_wp2_with fail
  refine (hc _).mono ?_
  rintro _ _ ⟨rfl, rfl⟩
  go_wp2
  go_ret
  exact ⟨rfl, rfl⟩
theorem bytes_nil (w : World) (k : Int) : Calls Tryz.prog 82 #[.pointer none, .int .i64 k] w fun r w' => r = .returned (.slice none 0 0) ∧ w = w' := by
  go_enter Tryz.func82, Tryz.ntmps82
  go_wp2_with fail
  refine (uint_nil _).mono ?_
  rintro _ _ ⟨rfl, rfl⟩
  go_wp2_with fail
  refine (err_nil _).mono ?_
  rintro _ _ ⟨rfl, rfl⟩
  go_wp2
  go_ret
  exact ⟨rfl, rfl⟩
theorem bool_nil (w : World) : Calls Tryz.prog 84 #[.pointer none] w fun r w' => r = .returned (.bool false) ∧ w = w' := by
  have hnil := fun (w : World) (a : Option Addr) (n c : Nat) => Lib.run_eql_slice_nil (P := Tryz.prog) w 54 5 a n c 0 0 Tryz.underlying54
  go_enter Tryz.func84, Tryz.ntmps84
  go_wp2_with fail
  refine (take_nil _ _).mono ?_
  rintro _ _ ⟨rfl, rfl⟩
  go_wp2
  go_ret
  exact ⟨rfl, rfl⟩
theorem end_nil (w : World) : Calls Tryz.prog 83 #[.pointer none] w fun r w' => r = .returned (.int .i64 1) ∧ w = w' := by
  go_enter Tryz.func83, Tryz.ntmps83
  go_wp2_with (go_at_call 107; refine (err_nil _).mono ?_; rintro _ _ ⟨rfl, rfl⟩)
  go_ret
  exact ⟨rfl, rfl⟩
end Go.Proofs.YtcgnaomffioldaaGreat

/-! Cells: the record of changes, written. -/
namespace Go.Proofs.YtcgnaomffioldaaGreat
open Go.RowKit Codec

/-- While it is written. -/
def CrR (w : World) (p : Nat) (pre : List UInt8) (l : List Ch) (i : Value) (wr : World) : Prop :=
  ∃ j : Nat, j ≤ l.length ∧ i = .int .i64 (j : Int) ∧ Wr wr (w.heap.size ≤ ·) p (pre ++ ofC (l.take j)) ∧ Below w.heap.size w wr
theorem wtC_app (l m : List Ch) : wtC (l ++ m) = wtC l + wtC m := by
  induction l with
  | nil => simp [wtC]
  | cons p t ih => simp only [List.cons_append, wtC, ih]; omega
theorem wtC_take (l : List Ch) (j : Nat) : wtC (l.take j) ≤ wtC l := by
  have h := wtC_app (l.take j) (l.drop j)
  rw [List.take_append_drop] at h
  omega
theorem wtC_mem {l : List Ch} {x : Ch} (h : x ∈ l) : x.k.length + x.v.length + 21 ≤ wtC l := by
  obtain ⟨a, b, rfl⟩ := List.append_of_mem h
  rw [wtC_app]
  simp only [wtC]
  omega
set_option maxHeartbeats 4000000 in
set_option maxRecDepth 100000 in
theorem chsrec_any {w : World} {S : Nat → Prop} {A : Option Addr} {n c : Nat} {l : List Ch} (hl : Chs w S A n c l) (hb : wtC l ≤ 900000) :
    Calls Tryz.prog 65 #[.slice A n c] w fun e w' => ∃ A' m c', e = .returned (.slice A' m c') ∧ Byt w' (w.heap.size ≤ ·) A' m c' (chsB l) ∧ Below w.heap.size w w' := by
  have hnw := newWriter w
  have hwl := wtC_len l
  have hnl := hl.len
  have hcv := IntWalk.u64_in (n : Int) (by omega)
  have hbig : n ≤ 100000 := by omega
  have HL := Lib.hid (And.intro hl hb)
  have hzc := zero_chg
  clear hl hb
  go_enter Tryz.func65, Tryz.ntmps65
  go_upto_region 2 with (go_at_call 86; refine hnw.mono ?_; clear hnw; rintro _ w1 ⟨p, rfl, hw1, hb1⟩)
  have h2 := wuint hw1 (x := 2) (by omega) (by simp)
  have HB1 := Lib.hid hb1
  clear hw1 hb1
  go_upto_region 3 with (go_at_call 87; refine h2.mono ?_; clear h2; rintro _ w2 hp2; obtain ⟨rfl, hw2, ht2⟩ := hp2)
  have hp2 := Put.from (e := .returned (.tuple #[])) (show Put w1 (w.heap.size ≤ ·) p ([] ++ put 2) _ w2 from ⟨rfl, hw2, ht2⟩) HB1.out.size
  have HB2 := Lib.hid (HB1.out.trans hp2.2)
  have h3 := wuint hp2.1 (x := n) (by omega) (by have := put_length_64 (x := 2) (by omega); simp; omega)
  clear hw2 ht2 hp2 HB1
  go_upto_region 4 with (go_at_call 87; refine h3.mono ?_; clear h3; rintro _ w3 hp3; obtain ⟨rfl, hw3, ht3⟩ := hp3)
  have hp3 := Put.from (e := .returned (.tuple #[])) (show Put w2 (w.heap.size ≤ ·) p ([] ++ put 2 ++ put n) _ w3 from ⟨rfl, hw3, ht3⟩) HB2.out.size
  obtain ⟨pre, hpre⟩ : ∃ pre, pre = put 2 ++ put n := ⟨_, rfl⟩
  have H0 : Hid (CrR w p pre l (.int .i64 0) w3) := Lib.hid ⟨0, Nat.zero_le _, rfl, by rw [hpre]; simpa [ofC] using hp3.1, HB2.out.trans hp3.2⟩
  have HPRE : Hid (pre = put 2 ++ put n ∧ pre.length ≤ 20) := Lib.hid ⟨hpre, by rw [hpre, List.length_append]; have h1 := put_length_64 (x := 2) (by omega); have h2 := put_length_64 (x := n) (by omega); omega⟩
  have HN := Lib.hid hnl
  clear hw3 ht3 hp3 HB2 hpre hnl hwl
  go_wp2_with fail
  go_loopw [16] (fun i wr => CrR w p pre l i wr) (fun i _ => n - (intOf i).toNat)
  case atStart => exact H0.out
  case round =>
    obtain ⟨j, hj, rfl, hwr, hbw⟩ := hrel
    clear H0
    have HK := Lib.hid (And.intro hwr hbw)
    clear hwr hbw
    by_cases hlt : j < n
    · have hlt' : (j : Int) < (n : Int) := by omega
      obtain ⟨q, off, x, Ai, ni, ci, rfl, _, hqlt, hx, hcs, hy⟩ := HL.out.1.at_ hlt
      have hxw := wtC_mem (List.mem_of_getElem? hx)
      obtain ⟨CV, hCV⟩ : ∃ CV, CV = chV Ai ni ci x := ⟨_, rfl⟩
      rw [← hCV] at hcs
      have hcw : ∀ (i : Nat) (v : Value), CV[i]? = some v → wr.cell? ((⟨q, off + j * 3, none⟩ : Addr).add i) = some v := fun i v hv => by
        have h1 := hcs i v hv
        rw [add_plain] at h1 ⊢
        exact (HK.out.2.cell (p := ⟨_, _, none⟩) hqlt).trans h1
      have hyr := (hy.mono (T := fun k => k < w.heap.size) fun k hk _ => hk).below HK.out.2
      have hadd := IntWalk.i64_in ((j : Int) + 1) (by omega)
      have HCV := Lib.hid (And.intro hCV (And.intro hcw hyr))
      have HX := Lib.hid (And.intro hx hxw)
      clear hCV hcw hyr hcs hy hx hxw hqlt
      go_upto_region 7 with (first
        | (refine wpList_load_at (by rfl) 67 (.tmp 18) (by rfl) ⟨q, off + j * 3, none⟩ (by rfl) CV _ HCV.out.2.1 Tryz.underlying67 (by rfl) (by rw [HCV.out.1]; exact chg_info) ?_)
        | (refine wpList_store_row (by rfl) 67 (.tmp 5) (.tmp 19) (by rfl) wr.heap.size CV (by rfl) (by rfl) 67 _ (heap_alloc_new wr _) (by rw [HCV.out.1]; exact chg_info) (by rw [HCV.out.1]; rfl) (by rw [HCV.out.1]; exact chV_one _ _ _ _) ?_))
      have hal : Below wr.heap.size wr ((wr.alloc (.cells #[.string ⟨#[]⟩, .slice none 0 0, .bool false] 67)).setRow wr.heap.size CV) := below_setRow ((Below.refl _ _).alloc (Nat.le_refl _) _) (Nat.le_refl _) _
      have hpa : ((wr.alloc (.cells #[.string ⟨#[]⟩, .slice none 0 0, .bool false] 67)).setRow wr.heap.size CV).heap[wr.heap.size]? = some (.cells CV 67 (0, 0)) := setRow_at (heap_alloc_new wr _)
      have hw5 := (HK.out.1.mono (T := fun k => w.heap.size ≤ k ∧ k ≠ wr.heap.size) fun k hk h => ⟨h, by omega⟩).turned (T := fun _ => False) (Turned.of_below hal) fun _ _ _ h => h
      have H5 := Lib.hid (And.intro hal (And.intro hpa (show ((wr.alloc (.cells #[.string ⟨#[]⟩, .slice none 0 0, .bool false] 67)).setRow wr.heap.size CV).heap.size = wr.heap.size + 1 by simp [World.setRow])))
      have HW5 := Lib.hid hw5
      clear hal hpa hzc hw5
      generalize (wr.alloc (.cells #[.string ⟨#[]⟩, .slice none 0 0, .bool false] 67)).setRow wr.heap.size CV = w5 at *
      have hc0 : w5.cell? ⟨wr.heap.size, 0, none⟩ = some (.string (st x.k)) := by rw [cell_of_cells H5.out.2.1, HCV.out.1]; rfl
      have hy5 := HCV.out.2.2.below H5.out.1
      have HY5 := Lib.hid hy5
      clear hy5
      obtain ⟨c6, w6, hcv6, hb6, hy6⟩ := conv_bytes x.k (by have := HX.out.2; have := HL.out.2; omega) w5
      have hwt := wtC_take l j
      have hofl := ofC_len (l.take j) (by have := HL.out.2; omega)
      have hl5 : (pre ++ ofC (l.take j)).length ≤ 1000000 := by rw [List.length_append]; have := HPRE.out.2; have := HL.out.2; omega
      have hxb : x.k.length + x.v.length ≤ 900000 := by have := HX.out.2; have := HL.out.2; omega
      have hwb := wbytes ((HW5.out.mono (T := fun k => (w.heap.size ≤ k ∧ k ≠ wr.heap.size) ∧ k < w5.heap.size) fun k hk h => ⟨h, hk⟩).turned (T := fun _ => False) (Turned.of_below hb6) fun _ _ _ h => h) hy6 (fun k _ h1 h2 => by rw [h1] at h2; omega) (by omega)
      have HB6 := Lib.hid (And.intro hb6 (And.intro hl5 hxb))
      clear hb6 hy6 hwt hofl hl5 hxb
      go_upto_region 8 with (go_at_call 88; refine hwb.mono ?_; clear hwb; rintro _ w7 hp7; obtain ⟨rfl, hw7, ht7⟩ := hp7)
      have H7 := Lib.hid (And.intro (hw7.mono (T := fun k => w.heap.size ≤ k ∧ k ≠ wr.heap.size) fun k hk h => by
          have h1 := HB6.out.1.size; have h2 := H5.out.2.2; have h3 := HK.out.2.size
          rcases h with h | h
          · exact h.1
          · exact ⟨by omega, by omega⟩) ((Turned.of_below (S := fun k => w.heap.size ≤ k ∧ k ≠ wr.heap.size) HB6.out.1).trans ht7 fun k _ h => h.1))
      clear hw7 ht7 hcv6
      have hc2 : w7.cell? ⟨wr.heap.size, 2, none⟩ = some (.bool x.g) := (cell_turned H7.out.2 (by have := H5.out.2.2; omega) (fun h => h.2 rfl) 2).trans (by rw [cell_of_cells H5.out.2.1, HCV.out.1]; rfl)
      have hrl : ((pre ++ ofC (l.take j)) ++ (put x.k.length ++ x.k)).length ≤ 2000000 := by
        have h1 := put_length_64 (x := x.k.length) (by have := HB6.out.2.2; omega)
        have h2 := HB6.out.2.1
        have h3 := HB6.out.2.2
        simp only [List.length_append] at h2 ⊢
        omega
      have hwo := wbool H7.out.1 x.g (by omega)
      have HRL := Lib.hid hrl
      clear hrl hc0
      go_upto_region 9 with (go_at_call 89; refine hwo.mono ?_; clear hwo; rintro _ w8 hp8; obtain ⟨rfl, hw8, ht8⟩ := hp8)
      have H8 := Lib.hid (And.intro (hw8.mono (T := fun k => w.heap.size ≤ k ∧ k ≠ wr.heap.size) fun k hk h => by
          have h1 := H7.out.2.size; have h2 := H5.out.2.2; have h3 := HK.out.2.size
          rcases h with h | h
          · exact h
          · exact ⟨by omega, by omega⟩) (H7.out.2.trans ht8 fun k _ h => h))
      clear hw8 ht8 hc2
      have hc2 : w8.cell? ⟨wr.heap.size, 2, none⟩ = some (.bool x.g) := (cell_turned H8.out.2 (by have := H5.out.2.2; omega) (fun h => h.2 rfl) 2).trans (by rw [cell_of_cells H5.out.2.1, HCV.out.1]; rfl)
      have hc1 : w8.cell? ⟨wr.heap.size, 1, none⟩ = some (.slice Ai ni ci) := (cell_turned H8.out.2 (by have := H5.out.2.2; omega) (fun h => h.2 rfl) 1).trans (by rw [cell_of_cells H5.out.2.1, HCV.out.1]; rfl)
      have HTK : Hid (l.take (j + 1) = l.take j ++ [x]) := Lib.hid (by
        obtain ⟨hjl, hxe⟩ := List.getElem?_eq_some_iff.1 HX.out.1
        rw [List.take_succ_eq_append_getElem hjl, hxe])
      have HBA : Hid (∀ W, Turned (fun k => w.heap.size ≤ k ∧ k ≠ wr.heap.size) w5 W → Below w.heap.size w W) := Lib.hid (fun W h => HK.out.2.trans ((H5.out.1.mono HK.out.2.size).trans ((h.mono (T := (w.heap.size ≤ ·)) fun k _ hk => hk.1).below (by have := HK.out.2.size; have := H5.out.2.2; omega))))
      cases hg : x.g
      · rw [hg] at hc2
        have hwv := wbytes (H8.out.1) (HY5.out.turned H8.out.2 fun k _ h1 h2 => by have := h2.1; omega) (fun k _ h1 h2 => by have := h2.1; omega) (by have h1 := HRL.out; have := HB6.out.2.2; have := HY5.out.len; simp only [List.length_append, List.length_singleton] at h1 ⊢; omega)
        have HG := Lib.hid hg
        clear hg
        go_wp2_with (go_at_call 88; refine hwv.mono ?_; clear hwv; rintro _ w9 hp9; obtain ⟨rfl, hw9, ht9⟩ := hp9; have H9 := Lib.hid (And.intro hw9 ht9); clear hw9 ht9)
        go_roundw
        case rel =>
          unfold CrR
          refine ⟨j + 1, by have := HN.out; omega, by simp, ?_, HBA.out _ (H8.out.2.trans H9.out.2 fun k _ h => h)⟩
          rw [HTK.out, ofC_snoc]
          have e : pre ++ (ofC (l.take j) ++ chgB x) = pre ++ ofC (l.take j) ++ (put x.k.length ++ x.k) ++ [if x.g then 1 else 0] ++ (put x.v.length ++ x.v) := by
            unfold chgB rowB
            simp [HG.out]
          rw [e]
          refine H9.out.1.mono fun k hk h => ?_
          rcases h with h | h
          · exact h.1
          · have h1 := H8.out.2.size
            have h2 := H5.out.2.2
            have h3 := HK.out.2.size
            omega
        case measure => simp only [intOf]; omega
      · rw [hg] at hc2
        have HG := Lib.hid hg
        clear hg hc1
        go_wp2_with fail
        go_roundw
        case rel =>
          unfold CrR
          refine ⟨j + 1, by have := HN.out; omega, by simp, ?_, HBA.out _ H8.out.2⟩
          rw [HTK.out, ofC_snoc]
          have e : pre ++ (ofC (l.take j) ++ chgB x) = pre ++ ofC (l.take j) ++ (put x.k.length ++ x.k) ++ [if x.g then 1 else 0] := by
            unfold chgB rowB
            simp [HG.out]
          rw [e]
          exact H8.out.1.mono fun k hk h => h.1
        case measure => simp only [intOf]; omega
    · obtain rfl : j = n := by have := HN.out; omega
      have hnl : ¬ (j : Int) < (j : Int) := by omega
      have hfull : l.take j = l := List.take_of_length_le (by have := HN.out; omega)
      have h1 := HK.out.1
      rw [hfull, HPRE.out.1, ← HN.out, show put 2 ++ put l.length ++ ofC l = chsB l from rfl] at h1
      have hcl := chsB_len l (by have := HL.out.2; omega)
      have hout := wout h1 (by have := HL.out.2; omega)
      have HB := Lib.hid HK.out.2
      clear hlt h1 hfull hcl
      obtain ⟨M, hM⟩ : ∃ M, M = (chsB l).length := ⟨_, rfl⟩
      rw [← hM] at hout
      clear hM
      go_wp2_with (go_at_call 90; refine hout.mono ?_; clear hout; rintro _ w8 ⟨A8, c8, rfl, hy8, hb8, _⟩; have H8 := Lib.hid (And.intro (hy8.mono (T := (w.heap.size ≤ ·)) fun k _ hk => Nat.le_trans HB.out.size hk) (HB.out.trans (hb8.mono HB.out.size))); clear hy8 hb8)
      go_ret
      exact ⟨A8, _, c8, rfl, H8.out.1, H8.out.2⟩
end Go.Proofs.YtcgnaomffioldaaGreat

/-! The string of a row of bytes. -/
namespace Go.Proofs.YtcgnaomffioldaaGreat
open Go.RowKit

theorem st_list (l : List UInt8) : (st l).toList = l := by simp [st]
theorem st_app (l m : List UInt8) : st l ++ st m = st (l ++ m) := by
  unfold st
  apply ByteArray.ext
  simp
theorem st_extract (l : List UInt8) (a b : Nat) : (st l).extract a b = st ((l.drop a).take (b - a)) := by
  apply ByteArray.ext
  unfold st
  simp
end Go.Proofs.YtcgnaomffioldaaGreat

/-! Strings of bytes: read, cut, held against each other. -/
namespace Go.Proofs.YtcgnaomffioldaaGreat
open Go.RowKit

section
variable {P : Program} (t : TypeId) (h : P.underlying t = some .string) (l : List UInt8) (W : World)
include h
theorem sti_at (i : Nat) (hi : i < l.length) : (Instr.index t (.string (st l)) (.int .i64 (i : Int))).run P W = .ok (.int .u8 ((l[i]?.getD 0).toNat : Int)) W := by
  rw [run_index_string W t (st l) .i64 (i : Int) h, dif_pos ⟨by omega, by rw [st_size]; omega⟩]
  congr 4
  rw [List.getElem?_eq_getElem hi, Option.getD_some]
  rfl
theorem st_index (i : Nat) (ii : Int) (e : ii = (i : Int)) (hi : i < l.length) : (Instr.index t (.string (st l)) (.int .i64 ii)).run P W = .ok (.int .u8 ((l[i]?.getD 0).toNat : Int)) W := by
  subst e
  exact sti_at t h l W i hi
theorem st_to (k : Nat) (kk : Int) (e : kk = (k : Int)) (hk : k ≤ l.length) : (Instr.slice t (.string (st l)) none (some (.int .i64 kk)) none).run P W = .ok (.string (st (l.take k))) W := by
  subst e
  rw [run_slice_string_h W t (st l) h .i64 (k : Int) (by omega) (by rw [st_size]; omega), st_extract]
  simp
theorem st_from (k : Nat) (kk : Int) (e : kk = (k : Int)) (hk : k ≤ l.length) : (Instr.slice t (.string (st l)) (some (.int .i64 kk)) none none).run P W = .ok (.string (st (l.drop k))) W := by
  subst e
  rw [run_slice_string_l W t (st l) h .i64 (k : Int) (by omega) (by rw [st_size]; omega), st_extract, st_size, List.take_of_length_le (by simp)]
  simp
theorem st_mid (j k : Nat) (jj kk : Int) (ej : jj = (j : Int)) (e : kk = (k : Int)) (hj : j ≤ k) (hk : k ≤ l.length) : (Instr.slice t (.string (st l)) (some (.int .i64 jj)) (some (.int .i64 kk)) none).run P W = .ok (.string (st ((l.drop j).take (k - j)))) W := by
  subst e ej
  rw [run_slice_string_if, if_pos ⟨by omega, by rw [st_size]; omega⟩, if_pos ⟨by omega, by omega⟩, st_extract]
  · simp
  · exact h
end
theorem st_inj {a b : List UInt8} : st a = st b ↔ a = b := by
  constructor
  · intro h
    have := congrArg ByteArray.toList h
    rwa [st_list, st_list] at this
  · rintro rfl
    rfl
theorem st_beq (a b : List UInt8) : ((st a).toList == (st b).toList) = decide (a = b) := by
  rw [st_list, st_list]
  by_cases h : a = b <;> simp [h]
end Go.Proofs.YtcgnaomffioldaaGreat

/-! A slice of strings that reads as a list of rows of bytes. -/
namespace Go.Proofs.YtcgnaomffioldaaGreat
open Go.RowKit

/-- THE SLICE VALUE '.slice A n c' OF STRINGS READS AS l; its row, if it has any, lies in a block of S. -/
structure Strs (w : World) (S : Nat → Prop) (A : Option Addr) (n c : Nat) (l : List (List UInt8)) : Prop where
  len : l.length = n
  cap : n ≤ c
  max : c ≤ maxLen
  row : 0 < n → ∃ b off, A = some ⟨b, off, none⟩ ∧ S b ∧ b < w.heap.size ∧ ∀ i, i < n → w.cell? ⟨b, off + i, none⟩ = some (.string (st (l[i]?.getD [])))
section
variable {w w' : World} {S T : Nat → Prop} {A : Option Addr} {n c : Nat} {l : List (List UInt8)}
theorem Strs.below (h : Strs w S A n c l) (hb : Below w.heap.size w w') : Strs w' S A n c l :=
  ⟨h.len, h.cap, h.max, fun h0 => by
    obtain ⟨b, off, hA, hS, hlt, hc⟩ := h.row h0
    exact ⟨b, off, hA, hS, Nat.lt_of_lt_of_le hlt hb.size, fun i hi => (hb.cell (p := ⟨_, _, none⟩) hlt).trans (hc i hi)⟩⟩
theorem Strs.turned (h : Strs w S A n c l) (ht : Turned T w w') (hd : ∀ b, b < w.heap.size → S b → ¬ T b) : Strs w' S A n c l :=
  ⟨h.len, h.cap, h.max, fun h0 => by
    obtain ⟨b, off, hA, hS, hlt, hc⟩ := h.row h0
    exact ⟨b, off, hA, hS, Nat.lt_of_lt_of_le hlt ht.size, fun i hi => (World.cell?_of_block (w := w) (a := ⟨b, off + i, none⟩) (ht.block b hlt (hd b hlt hS))).trans (hc i hi)⟩⟩
theorem Strs.mono (h : Strs w S A n c l) (hT : ∀ b, b < w.heap.size → S b → T b) : Strs w T A n c l :=
  ⟨h.len, h.cap, h.max, fun h0 => by
    obtain ⟨b, off, hA, hS, hlt, hc⟩ := h.row h0
    exact ⟨b, off, hA, hT b hlt hS, hlt, hc⟩⟩
theorem Strs.drew (h : Strs w S A n c l) : Strs w.drew S A n c l := ⟨h.len, h.cap, h.max, h.row⟩
theorem Strs.drewN (h : Strs w S A n c l) (k : Nat) : Strs (w.drewN k) S A n c l := ⟨h.len, h.cap, h.max, h.row⟩
theorem Strs.nil (w : World) (S : Nat → Prop) (A : Option Addr) (c : Nat) (hc : c ≤ maxLen) : Strs w S A 0 c [] := ⟨rfl, Nat.zero_le _, hc, fun h => absurd h (by omega)⟩
end
def strs (l : List (List UInt8)) : List Value := l.map fun x => .string (st x)
theorem strs_length (l : List (List UInt8)) : (strs l).length = l.length := by simp [strs]
/-- A row of the call's own. -/
theorem own_strs {w : World} {B : Nat} {e : TypeId} {v : Value} {n : Nat} {l : List (List UInt8)} (h : w.ownsRow B e 1 v n (strs l)) : ∃ A c, v = .slice A n c ∧ Strs w (B ≤ ·) A n c l := by
  have hl : l.length = n := by have := h.1; rw [strs_length] at this; omega
  rcases h.2 with ⟨rfl, h2⟩ | ⟨g, cap, cur, rfl, hb, hg, hnc, hm, _, _⟩
  · subst h2
    obtain rfl : l = [] := List.eq_nil_of_length_eq_zero hl
    exact ⟨none, 0, rfl, Strs.nil _ _ _ _ (Nat.zero_le _)⟩
  · refine ⟨_, cap, rfl, hl, hnc, hm, fun _ => ⟨g, 0, rfl, hb, (Array.getElem?_eq_some_iff.1 hg).1, fun i hi => ?_⟩⟩
    have hil : i < l.length := by omega
    have := h.cells (g := g) rfl i (.string (st (l[i]?.getD []))) (by simp [strs, List.getElem?_map, List.getElem?_eq_getElem hil])
    rw [add_plain] at this
    simpa using this
theorem strs_one (l : List (List UInt8)) : ∀ u ∈ strs l, u.oneCell' = true := by
  intro u hu
  obtain ⟨x, _, rfl⟩ := List.mem_map.1 hu
  rfl
/-- What stands in the row that is read, for an append. -/
theorem Strs.news {w : World} {S : Nat → Prop} {b off n c : Nat} {l : List (List UInt8)} (h : Strs w S (some ⟨b, off, none⟩) n c l) (h0 : 0 < n) : ∀ j u, (strs l)[j]? = some u → w.cell? ((⟨b, off, none⟩ : Addr).add j) = some u := by
  intro j u hj
  obtain ⟨b', off', hA, _, _, hc⟩ := h.row h0
  injection hA with hA
  injection hA with e1 e2
  subst e1 e2
  have hjl : j < l.length := by have := (List.getElem?_eq_some_iff.1 hj).1; rwa [strs_length] at this
  rw [add_plain, hc j (by rw [← h.len]; exact hjl), ← hj, strs, List.getElem?_map, List.getElem?_eq_getElem hjl]
  rfl
theorem str_info2 : (Tryz.prog.info? 9).map (fun i => (i.zero, i.size, i.bytes)) = some (some (.string ByteArray.empty), 1, 16) := by kernel_rfl
/-- append of strings to no slice. -/
theorem append_strs {W : World} {S : Nat → Prop} {A : Option Addr} {n c : Nat} {l : List (List UInt8)} (h : Strs W S A n c l) (h0 : 0 < n) (hn : n ≤ 1000000) (ty : TypeId) :
    ∃ g c' W', (Builtin.append_ #[28, 28] ty #[.slice none 0 0, .slice A n c]).run Tryz.prog W = .ok (.slice (some ⟨g, 0, none⟩) n c') W' ∧ W'.ownsRow W.heap.size 9 1 (.slice (some ⟨g, 0, none⟩) n c') n (strs l) ∧ Below W.heap.size W W' := by
  obtain ⟨i0, hi, hz0, hz1, hz2⟩ := info_parts str_info2
  obtain ⟨b, off, rfl, _, _, _⟩ := h.row h0
  obtain ⟨v', W', hrun, r1, r2, _⟩ := run_append_own (P := Tryz.prog) W W.heap.size 28 ty 9 i0 (.string ByteArray.empty) 1 16 Tryz.underlying28 hi hz0 hz1 hz2 rfl (by decide) (.slice none 0 0) 0 [] (World.ownsRow_nil _ _ _ _) ⟨b, off, none⟩ n c (strs l) (by rw [strs_length, h.len, Nat.mul_one]) (h.news h0) (strs_one l) (by unfold maxLen; omega) (by omega) (Nat.le_refl _)
  rw [List.nil_append, Nat.zero_add] at r1
  obtain ⟨g, c', rfl, _⟩ := r1.form h0
  exact ⟨g, c', W', hrun, r1, (Below.refl _ W).grown r2 (Nat.le_refl _) (by intro k hk; simp [Value.ownBlock] at hk)⟩
theorem strs_set (l : List (List UInt8)) (i : Nat) (x : List UInt8) : (strs l).set i (.string (st x)) = strs (l.set i x) := by simp [strs, List.map_set]
end Go.Proofs.YtcgnaomffioldaaGreat

/-! append of bytes to a slice of bytes of the call's own, or to none. -/
namespace Go.Proofs.YtcgnaomffioldaaGreat
open Go.RowKit

theorem append_any {W : World} {B k : Nat} {v : Value} {xs : List Value} (hown : W.ownsRow B 5 1 v k xs) {S : Nat → Prop} {A : Option Addr} {n c : Nat} {l : List UInt8} (h : Byt W S A n c l) (hb : k + n ≤ 1000000) (hB : B ≤ W.heap.size) (ty : TypeId) :
    ∃ v' W', (Builtin.append_ #[54, 54] ty #[v, .slice A n c]).run Tryz.prog W = .ok v' W' ∧ W'.ownsRow B 5 1 v' (k + n) (xs ++ u8s l) ∧ W.grownBy W' v.ownBlock := by
  obtain ⟨i0, hi, hz0, hz1, hz2⟩ := info_parts u8_info
  rcases A with _ | ad
  · obtain rfl : n = 0 := by
      rcases Nat.eq_zero_or_pos n with h0 | h0
      · exact h0
      · obtain ⟨_, _, hA, _⟩ := h.row h0
        cases hA
    obtain rfl : l = [] := List.eq_nil_of_length_eq_zero h.len
    have hv : ∃ A' c', v = .slice A' k c' ∧ k ≤ c' := by
      rcases hown.2 with ⟨rfl, h2⟩ | ⟨g, cap, cur, rfl, _, _, hn, _⟩
      · subst h2
        exact ⟨none, 0, rfl, Nat.le_refl _⟩
      · exact ⟨_, cap, rfl, hn⟩
    obtain ⟨A', c', rfl, hc⟩ := hv
    exact ⟨_, W, run_append_zero W 54 ty 5 i0 Tryz.underlying54 hi _ k c' c hc, by simpa [u8s] using hown, World.grownBy.refl _ _⟩
  · obtain ⟨v', W', hrun, r1, r2, _⟩ := run_append_own (P := Tryz.prog) W B 54 ty 5 i0 (.int .u8 0) 1 1 Tryz.underlying54 hi hz0 hz1 hz2 rfl (by decide) v k xs hown ad n c (u8s l) (by rw [u8s_length, h.len, Nat.mul_one]) (byt_news h) (u8s_one l) (by unfold maxLen; omega) (by omega) hB
    exact ⟨v', W', hrun, r1, r2⟩
theorem own_below_gr {W W' : World} {B : Nat} {e : TypeId} {size : Nat} {v : Value} {n : Nat} {xs : List Value} (h : W.ownsRow B e size v n xs) (hg : W.grownBy W' v.ownBlock) {w0 : World} (h0 : Below B w0 W) (hB : B ≤ W.heap.size) : Below B w0 W' :=
  h0.grown hg hB fun k hk => (h.lt k hk).1
theorem own_byt_any {w : World} {B : Nat} {e : TypeId} {v : Value} {n : Nat} {l : List UInt8} (h : w.ownsRow B e 1 v n (u8s l)) : ∃ A c, v = .slice A n c ∧ Byt w (B ≤ ·) A n c l := by
  have hl : l.length = n := by have := h.1; rw [u8s_length] at this; omega
  rcases h.2 with ⟨rfl, h2⟩ | ⟨g, cap, cur, rfl, _⟩
  · subst h2
    obtain rfl : l = [] := List.eq_nil_of_length_eq_zero hl
    exact ⟨none, 0, rfl, Byt.nil _ _ _ _ (Nat.zero_le _)⟩
  · exact ⟨_, cap, rfl, own_byt_at h⟩
end Go.Proofs.YtcgnaomffioldaaGreat

/-! Words for slices of numbers: one that reads as a list ('Ints'); what a call owns is kept where other blocks turn. -/
namespace Go.Proofs.YtcgnaomffioldaaGreat
open Go.RowKit

/-- THE SLICE VALUE '.slice A n c' OF NUMBERS OF KIND kd READS AS l; its row, if it has any, lies in a block of S. -/
structure Ints (kd : IntKind) (w : World) (S : Nat → Prop) (A : Option Addr) (n c : Nat) (l : List Int) : Prop where
  len : l.length = n
  cap : n ≤ c
  max : c ≤ maxLen
  wf : ∀ x ∈ l, (Lit.int kd x).wf = true
  row : 0 < n → ∃ b off, A = some ⟨b, off, none⟩ ∧ S b ∧ b < w.heap.size ∧ ∀ i, i < n → w.cell? ⟨b, off + i, none⟩ = some (.int kd (l[i]?.getD 0))

section
variable {kd : IntKind} {w w' : World} {S : Nat → Prop} {A : Option Addr} {n c : Nat} {l : List Int}
theorem Ints.below (h : Ints kd w S A n c l) (hb : Below w.heap.size w w') : Ints kd w' S A n c l :=
  ⟨h.len, h.cap, h.max, h.wf, fun h0 => by
    obtain ⟨b, off, hA, hB, hlt, hc⟩ := h.row h0
    exact ⟨b, off, hA, hB, Nat.lt_of_lt_of_le hlt hb.size, fun i hi => (hb.cell (p := ⟨b, off + i, none⟩) hlt).trans (hc i hi)⟩⟩
theorem Ints.mono {T : Nat → Prop} (h : Ints kd w S A n c l) (hB : ∀ b, b < w.heap.size → S b → T b) : Ints kd w T A n c l :=
  ⟨h.len, h.cap, h.max, h.wf, fun h0 => by
    obtain ⟨b, off, hA, hB', hlt, hc⟩ := h.row h0
    exact ⟨b, off, hA, hB b hlt hB', hlt, hc⟩⟩
theorem Ints.turned {T : Nat → Prop} (h : Ints kd w S A n c l) (ht : Turned T w w') (hd : ∀ b, b < w.heap.size → S b → ¬ T b) : Ints kd w' S A n c l :=
  ⟨h.len, h.cap, h.max, h.wf, fun h0 => by
    obtain ⟨b, off, hA, hB, hlt, hc⟩ := h.row h0
    exact ⟨b, off, hA, hB, Nat.lt_of_lt_of_le hlt ht.size, fun i hi => (World.cell?_of_block (w := w) (a := ⟨b, off + i, none⟩) (ht.block b hlt (hd b hlt hB))).trans (hc i hi)⟩⟩
theorem Ints.nil (kd : IntKind) (w : World) (S : Nat → Prop) (A : Option Addr) (c : Nat) (hc : c ≤ maxLen) : Ints kd w S A 0 c [] := ⟨rfl, Nat.zero_le _, hc, by simp, fun h => absurd h (by omega)⟩
end

/-- A row of numbers that came in. -/
theorem ints_of_row {kd : IntKind} {w : World} {x : Addr} {len cap : Nat} {zs : List Int} (hl : len ≤ cap) (hm : cap ≤ maxLen) (hz : zs.length = cap) (hcell : ∀ i, i < zs.length → w.cell? (x.add i) = some (.int kd (zs.getD i 0)))
    (hwz : ∀ n ∈ zs, (Lit.int kd n).wf = true) : Ints kd w (fun _ => True) (some x) len cap (zs.take len) := by
  refine ⟨by simp; omega, hl, hm, fun y hy => hwz y (List.mem_of_mem_take hy), fun h0 => ?_⟩
  obtain ⟨b, off, spot⟩ := x
  have hc0 := hcell 0 (by omega)
  have hspot : spot = none := by simpa [Addr.add] using World.cell?_spot hc0
  subst hspot
  have hlt := World.block_lt_of_cell? _ _ hc0
  rw [add_plain] at hlt
  refine ⟨b, off, rfl, trivial, hlt, fun i hi => ?_⟩
  have hc := hcell i (by omega)
  rw [add_plain] at hc
  rw [hc]
  simp [List.getD, List.getElem?_take_of_lt hi]

/-- What the call owns is kept where other blocks turn. -/
theorem own_turned {w w' : World} {T : Nat → Prop} {base : Nat} {e : TypeId} {size : Nat} {v : Value} {n : Nat} {xs : List Value} (h : w.ownsRow base e size v n xs) (ht : Turned T w w') (hd : ∀ g, v.ownBlock = some g → ¬ T g) : w'.ownsRow base e size v n xs := by
  obtain ⟨h1, h2⟩ := h
  refine ⟨h1, ?_⟩
  rcases h2 with h2 | ⟨g, cap, cur, rfl, hg, hhg, r⟩
  · exact .inl h2
  · exact .inr ⟨g, cap, cur, rfl, hg, (ht.block g (Array.getElem?_eq_some_iff.1 hhg).1 (hd g rfl)).trans hhg, r⟩

/-- Numbers as cells. -/
def nums (kd : IntKind) (l : List Int) : List Value := l.map (.int kd)
theorem nums_append (kd : IntKind) (l m : List Int) : nums kd (l ++ m) = nums kd l ++ nums kd m := by simp [nums]
theorem nums_length (kd : IntKind) (l : List Int) : (nums kd l).length = l.length := by simp [nums]

/-- A row of the call's own, its elements. -/
theorem own_row {w : World} {B : Nat} {e : TypeId} {v : Value} {n : Nat} {kd : IntKind} {l : List Int} (h : w.ownsRow B e 1 v n (nums kd l)) (h0 : 0 < n) : ∃ g c, v = .slice (some ⟨g, 0, none⟩) n c ∧ ∀ i, i < n → w.cell? ⟨g, i, none⟩ = some (.int kd (l[i]?.getD 0)) := by
  have hl : l.length = n := by have := h.1; rw [nums_length] at this; omega
  rcases h.2 with ⟨rfl, rfl⟩ | ⟨g, cap, cur, rfl, hb, hg, hn, hm, _, _⟩
  · omega
  · refine ⟨g, cap, rfl, fun i hi => ?_⟩
    have := h.cells (g := g) rfl i (.int kd (l[i]?.getD 0)) (by
      have hil : i < l.length := by omega
      simp [nums, List.getElem?_map, List.getElem?_eq_getElem hil])
    rw [add_plain] at this
    simpa using this
theorem own_slice {w : World} {B : Nat} {e : TypeId} {size : Nat} {v : Value} {n : Nat} {xs : List Value} (h : w.ownsRow B e size v n xs) : ∃ A c, v = .slice A n c := by
  rcases h.2 with ⟨rfl, rfl⟩ | ⟨g, cap, cur, rfl, _⟩
  · exact ⟨none, 0, rfl⟩
  · exact ⟨_, cap, rfl⟩
end Go.Proofs.YtcgnaomffioldaaGreat

/-! A disk as the document has it, by values; the reference's Read, Stop, Restart. -/
namespace Go.Proofs.YtcgnaomffioldaaGreat
open Go.RowKit

/-- A disk. -/
structure DM where
  l : List (List UInt8)
  left : Int
  torn : Int
  down : Bool
/-- Its value in the reference. -/
def dmV (d : DM) (A : Option Addr) (n c : Nat) : Array Value := #[.slice A n c, .int .i64 d.left, .int .i64 d.torn, .bool d.down]
def readM (d : DM) (i : Int) : List UInt8 × Int := if d.down = true then ([], 30) else if i < 0 ∨ (d.l.length : Int) ≤ i then ([], 14) else (d.l[i.toNat]?.getD [], 0)
def writeM (d : DM) (i : Int) (b : List UInt8) : DM × Int :=
  if d.down = true then (d, 30) else if i < 0 ∨ (d.l.length : Int) ≤ i then (d, 14) else if b.length ≠ 128 then (d, 1)
  else if d.left = 0 then ({ d with l := d.l.set i.toNat (b.take d.torn.toNat ++ (d.l[i.toNat]?.getD []).drop d.torn.toNat), down := true }, 30)
  else ({ d with l := d.l.set i.toNat b, left := if 0 < d.left then d.left - 1 else d.left }, 0)
def stopM (d : DM) (after torn : Int) : DM := { d with left := if after < 0 then -1 else after, torn := if torn < 0 then 0 else if 128 < torn then 128 else torn }
def restartM (d : DM) : DM := { d with left := -1, down := false }

set_option maxHeartbeats 1000000 in
theorem rbread_any {w : World} {S : Nat → Prop} {A : Option Addr} {n c : Nat} {d : DM} (h : Strs w S A n c d.l) (i : Int) :
    Calls Tryz.prog 45 #[.agg (dmV d A n c), .int .i64 i] w fun e w' => e = .returned (.tuple #[.string (st (readM d i).1), .int .i64 (readM d i).2]) ∧ Below w.heap.size w w' := by
  obtain ⟨l, left, torn, down⟩ := d
  simp only at h
  have hb : Below w.heap.size w (w.alloc (.cells (dmV ⟨l, left, torn, down⟩ A n c) 30)) := (Below.refl _ _).alloc (Nat.le_refl _) _
  have HB := Lib.hid (And.intro hb (h.below hb))
  have hlen := h.len
  clear hb h
  unfold dmV at *
  cases down with
  | true =>
    have HR : Hid (readM ⟨l, left, torn, true⟩ i = ([], 30)) := Lib.hid (by simp [readM])
    clear hlen
    go_enter Tryz.func45, Tryz.ntmps45
    go_wp2
    go_ret2
    exact ⟨by rw [HR.out]; rfl, HB.out.1⟩
  | false =>
    by_cases h1 : i < 0
    · have HR : Hid (readM ⟨l, left, torn, false⟩ i = ([], 14)) := Lib.hid (by simp [readM, h1])
      clear hlen
      go_enter Tryz.func45, Tryz.ntmps45
      go_wp2
      go_ret2
      exact ⟨by rw [HR.out]; rfl, HB.out.1⟩
    · by_cases h2 : (n : Int) ≤ i
      · have HR : Hid (readM ⟨l, left, torn, false⟩ i = ([], 14)) := Lib.hid (by simp [readM, hlen, h2])
        clear hlen
        go_enter Tryz.func45, Tryz.ntmps45
        go_wp2
        go_ret2
        exact ⟨by rw [HR.out]; rfl, HB.out.1⟩
      · obtain ⟨i', rfl⟩ := Int.eq_ofNat_of_zero_le (show 0 ≤ i by omega)
        have HR : Hid (readM ⟨l, left, torn, false⟩ (i' : Int) = (l[i']?.getD [], 0)) := Lib.hid (by simp [readM, hlen, h2])
        obtain ⟨q, o, rfl, _, _, hc⟩ := HB.out.2.row (by omega)
        have hc := hc i' (by omega)
        have h3 : (i' : Int) < (n : Int) := by omega
        generalize l[i']?.getD [] = x at *
        clear hlen h1 h2
        go_enter Tryz.func45, Tryz.ntmps45
        go_wp2
        go_ret2
        exact ⟨by rw [HR.out]; rfl, HB.out.1⟩

theorem dm_info : (Tryz.prog.info? 30).map (·.size) = some 4 := by kernel_rfl
theorem zero_dm : ∀ W, (zeroValue 30).run Tryz.prog W = .ok (.agg #[.slice none 0 0, .int .i64 0, .int .i64 0, .bool false]) W := fun W => by kernel_rfl
/-- What is answered stands in the second of two new cells. -/
theorem dm_result {fn : Func} {p : Tmp} (h : fn.results = #[.cell p 30]) (tmps : Array Value) (w : World) (o : Obj) (v1 v2 v3 v4 : Value) (hp : tmps.getD p undef = .pointer (some ⟨w.heap.size + 1, 0, none⟩)) :
    (results fn tmps).run Tryz.prog ((w.alloc o).alloc (.cells #[v1, v2, v3, v4] 30)) = .ok (.agg #[v1, v2, v3, v4]) ((w.alloc o).alloc (.cells #[v1, v2, v3, v4] 30)) :=
  results_cell_row h tmps _ (w.heap.size + 1) 30 #[v1, v2, v3, v4] (0, 0) _ hp (by have := heap_alloc_new (w.alloc o) (.cells #[v1, v2, v3, v4] 30); rwa [World.size_alloc] at this) Tryz.underlying30 rfl dm_info
theorem below_two (w : World) (o p : Obj) : Below w.heap.size w ((w.alloc o).alloc p) := ((Below.refl _ _).alloc (Nat.le_refl _) _).alloc (by simp) _
set_option maxHeartbeats 1000000 in
theorem rbrestart_any (d : DM) (A : Option Addr) (n c : Nat) (w : World) :
    Calls Tryz.prog 19 #[.agg (dmV d A n c)] w fun e w' => e = .returned (.agg (dmV (restartM d) A n c)) ∧ Below w.heap.size w w' := by
  obtain ⟨l, left, torn, down⟩ := d
  unfold dmV restartM
  have hz := zero_dm
  go_enter Tryz.func19, Tryz.ntmps19
  go_wp2
  exact bodyPost_ret (dm_result rfl _ w _ _ _ _ _ rfl) rfl ⟨rfl, below_two w _ _⟩
set_option maxHeartbeats 1000000 in
theorem rbstop_nn (d : DM) (A : Option Addr) (n c : Nat) (after torn : Int) (h1 : after < 0) (h2 : torn < 0) (h3 : ¬ 128 < torn) (w : World) :
    Calls Tryz.prog 15 #[.agg (dmV d A n c), .int .i64 after, .int .i64 torn] w fun e w' => e = .returned (.agg #[.slice A n c, .int .i64 (-1), .int .i64 0, .bool d.down]) ∧ Below w.heap.size w w' := by
  obtain ⟨l, left, tn, down⟩ := d
  unfold dmV
  have hz := zero_dm
  go_enter Tryz.func15, Tryz.ntmps15
  go_wp2
  exact bodyPost_ret (dm_result rfl _ w _ _ _ _ _ rfl) rfl ⟨rfl, below_two w _ _⟩
set_option maxHeartbeats 1000000 in
theorem rbstop_nh (d : DM) (A : Option Addr) (n c : Nat) (after torn : Int) (h1 : after < 0) (h2 : ¬ torn < 0) (h3 : 128 < torn) (w : World) :
    Calls Tryz.prog 15 #[.agg (dmV d A n c), .int .i64 after, .int .i64 torn] w fun e w' => e = .returned (.agg #[.slice A n c, .int .i64 (-1), .int .i64 128, .bool d.down]) ∧ Below w.heap.size w w' := by
  obtain ⟨l, left, tn, down⟩ := d
  unfold dmV
  have hz := zero_dm
  go_enter Tryz.func15, Tryz.ntmps15
  go_wp2
  exact bodyPost_ret (dm_result rfl _ w _ _ _ _ _ rfl) rfl ⟨rfl, below_two w _ _⟩
set_option maxHeartbeats 1000000 in
theorem rbstop_nm (d : DM) (A : Option Addr) (n c : Nat) (after torn : Int) (h1 : after < 0) (h2 : ¬ torn < 0) (h3 : ¬ 128 < torn) (w : World) :
    Calls Tryz.prog 15 #[.agg (dmV d A n c), .int .i64 after, .int .i64 torn] w fun e w' => e = .returned (.agg #[.slice A n c, .int .i64 (-1), .int .i64 torn, .bool d.down]) ∧ Below w.heap.size w w' := by
  obtain ⟨l, left, tn, down⟩ := d
  unfold dmV
  have hz := zero_dm
  go_enter Tryz.func15, Tryz.ntmps15
  go_wp2
  exact bodyPost_ret (dm_result rfl _ w _ _ _ _ _ rfl) rfl ⟨rfl, below_two w _ _⟩
set_option maxHeartbeats 1000000 in
theorem rbstop_pn (d : DM) (A : Option Addr) (n c : Nat) (after torn : Int) (h1 : ¬ after < 0) (h2 : torn < 0) (h3 : ¬ 128 < torn) (w : World) :
    Calls Tryz.prog 15 #[.agg (dmV d A n c), .int .i64 after, .int .i64 torn] w fun e w' => e = .returned (.agg #[.slice A n c, .int .i64 after, .int .i64 0, .bool d.down]) ∧ Below w.heap.size w w' := by
  obtain ⟨l, left, tn, down⟩ := d
  unfold dmV
  have hz := zero_dm
  go_enter Tryz.func15, Tryz.ntmps15
  go_wp2
  exact bodyPost_ret (dm_result rfl _ w _ _ _ _ _ rfl) rfl ⟨rfl, below_two w _ _⟩
set_option maxHeartbeats 1000000 in
theorem rbstop_ph (d : DM) (A : Option Addr) (n c : Nat) (after torn : Int) (h1 : ¬ after < 0) (h2 : ¬ torn < 0) (h3 : 128 < torn) (w : World) :
    Calls Tryz.prog 15 #[.agg (dmV d A n c), .int .i64 after, .int .i64 torn] w fun e w' => e = .returned (.agg #[.slice A n c, .int .i64 after, .int .i64 128, .bool d.down]) ∧ Below w.heap.size w w' := by
  obtain ⟨l, left, tn, down⟩ := d
  unfold dmV
  have hz := zero_dm
  go_enter Tryz.func15, Tryz.ntmps15
  go_wp2
  exact bodyPost_ret (dm_result rfl _ w _ _ _ _ _ rfl) rfl ⟨rfl, below_two w _ _⟩
set_option maxHeartbeats 1000000 in
theorem rbstop_pm (d : DM) (A : Option Addr) (n c : Nat) (after torn : Int) (h1 : ¬ after < 0) (h2 : ¬ torn < 0) (h3 : ¬ 128 < torn) (w : World) :
    Calls Tryz.prog 15 #[.agg (dmV d A n c), .int .i64 after, .int .i64 torn] w fun e w' => e = .returned (.agg #[.slice A n c, .int .i64 after, .int .i64 torn, .bool d.down]) ∧ Below w.heap.size w w' := by
  obtain ⟨l, left, tn, down⟩ := d
  unfold dmV
  have hz := zero_dm
  go_enter Tryz.func15, Tryz.ntmps15
  go_wp2
  exact bodyPost_ret (dm_result rfl _ w _ _ _ _ _ rfl) rfl ⟨rfl, below_two w _ _⟩
theorem rbstop_any (d : DM) (A : Option Addr) (n c : Nat) (after torn : Int) (w : World) :
    Calls Tryz.prog 15 #[.agg (dmV d A n c), .int .i64 after, .int .i64 torn] w fun e w' => e = .returned (.agg (dmV (stopM d after torn) A n c)) ∧ Below w.heap.size w w' := by
  unfold dmV stopM
  by_cases h1 : after < 0
  · rw [if_pos h1]
    by_cases h2 : torn < 0
    · rw [if_pos h2]; exact rbstop_nn d A n c after torn h1 h2 (by omega) w
    · rw [if_neg h2]
      by_cases h3 : 128 < torn
      · rw [if_pos h3]; exact rbstop_nh d A n c after torn h1 h2 h3 w
      · rw [if_neg h3]; exact rbstop_nm d A n c after torn h1 h2 h3 w
  · rw [if_neg h1]
    by_cases h2 : torn < 0
    · rw [if_pos h2]; exact rbstop_pn d A n c after torn h1 h2 (by omega) w
    · rw [if_neg h2]
      by_cases h3 : 128 < torn
      · rw [if_pos h3]; exact rbstop_ph d A n c after torn h1 h2 h3 w
      · rw [if_neg h3]; exact rbstop_pm d A n c after torn h1 h2 h3 w
end Go.Proofs.YtcgnaomffioldaaGreat
