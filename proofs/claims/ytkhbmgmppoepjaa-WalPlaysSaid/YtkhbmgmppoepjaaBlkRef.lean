/-
  A disk as the document has it, by values; the reference's Read, Stop, Restart.
-/
import Derived.Test.YtkhbmgmppoepjaaStrs
import Derived.Test.YtkhbmgmppoepjaaAppend
import Derived.Test.YtkhbmgmppoepjaaInts
import Derived.Test.YtkhbmgmppoepjaaGrow
namespace Go.Proofs.Ytkhbmgmppoepjaa
open Go.RowKit

/-- A disk. -/
structure DM where
  l : List (List UInt8)
  left : Int
  torn : Int
  down : Bool
/-- Its value in the reference. -/
def dmV (d : DM) (A : Option Addr) (n c : Nat) : Array Value := #[.slice A n c, .int .i64 d.left, .int .i64 d.torn, .bool d.down]
def readM (d : DM) (i : Int) : List UInt8 × Int := if d.down = true then ([], 30) else if i < 0 ∨ (d.l.length : Int) ≤ i then ([], 14) else (d.l[i.toNat]?.getD [], 0)
def writeM (d : DM) (i : Int) (b : List UInt8) : DM × Int :=
  if d.down = true then (d, 30) else if i < 0 ∨ (d.l.length : Int) ≤ i then (d, 14) else if b.length ≠ 128 then (d, 1)
  else if d.left = 0 then ({ d with l := d.l.set i.toNat (b.take d.torn.toNat ++ (d.l[i.toNat]?.getD []).drop d.torn.toNat), down := true }, 30)
  else ({ d with l := d.l.set i.toNat b, left := if 0 < d.left then d.left - 1 else d.left }, 0)
def stopM (d : DM) (after torn : Int) : DM := { d with left := if after < 0 then -1 else after, torn := if torn < 0 then 0 else if 128 < torn then 128 else torn }
def restartM (d : DM) : DM := { d with left := -1, down := false }

set_option maxHeartbeats 1000000 in
theorem rbread_any {w : World} {S : Nat → Prop} {A : Option Addr} {n c : Nat} {d : DM} (h : Strs w S A n c d.l) (i : Int) :
    Calls Try.prog 46 #[.agg (dmV d A n c), .int .i64 i] w fun e w' => e = .returned (.tuple #[.string (st (readM d i).1), .int .i64 (readM d i).2]) ∧ Below w.heap.size w w' := by
  obtain ⟨l, left, torn, down⟩ := d
  simp only at h
  have hb : Below w.heap.size w (w.alloc (.cells (dmV ⟨l, left, torn, down⟩ A n c) 31)) := (Below.refl _ _).alloc (Nat.le_refl _) _
  have HB := Lib.hid (And.intro hb (h.below hb))
  have hlen := h.len
  clear hb h
  unfold dmV at *
  cases down with
  | true =>
    have HR : Hid (readM ⟨l, left, torn, true⟩ i = ([], 30)) := Lib.hid (by simp [readM])
    clear hlen
    go_enter Try.func46, Try.ntmps46
    go_wp2
    go_ret2
    exact ⟨by rw [HR.out]; rfl, HB.out.1⟩
  | false =>
    by_cases h1 : i < 0
    · have HR : Hid (readM ⟨l, left, torn, false⟩ i = ([], 14)) := Lib.hid (by simp [readM, h1])
      clear hlen
      go_enter Try.func46, Try.ntmps46
      go_wp2
      go_ret2
      exact ⟨by rw [HR.out]; rfl, HB.out.1⟩
    · by_cases h2 : (n : Int) ≤ i
      · have HR : Hid (readM ⟨l, left, torn, false⟩ i = ([], 14)) := Lib.hid (by simp [readM, hlen, h2])
        clear hlen
        go_enter Try.func46, Try.ntmps46
        go_wp2
        go_ret2
        exact ⟨by rw [HR.out]; rfl, HB.out.1⟩
      · obtain ⟨i', rfl⟩ := Int.eq_ofNat_of_zero_le (show 0 ≤ i by omega)
        have HR : Hid (readM ⟨l, left, torn, false⟩ (i' : Int) = (l[i']?.getD [], 0)) := Lib.hid (by simp [readM, hlen, h2])
        obtain ⟨q, o, rfl, _, _, hc⟩ := HB.out.2.row (by omega)
        have hc := hc i' (by omega)
        have h3 : (i' : Int) < (n : Int) := by omega
        generalize l[i']?.getD [] = x at *
        clear hlen h1 h2
        go_enter Try.func46, Try.ntmps46
        go_wp2
        go_ret2
        exact ⟨by rw [HR.out]; rfl, HB.out.1⟩

theorem dm_info : (Try.prog.info? 31).map (·.size) = some 4 := by kernel_rfl
theorem zero_dm : ∀ W, (zeroValue 31).run Try.prog W = .ok (.agg #[.slice none 0 0, .int .i64 0, .int .i64 0, .bool false]) W := fun W => by kernel_rfl
/-- What is answered stands in the second of two new cells. -/
theorem dm_result {fn : Func} {p : Tmp} (h : fn.results = #[.cell p 31]) (tmps : Array Value) (w : World) (o : Obj) (v1 v2 v3 v4 : Value) (hp : tmps.getD p undef = .pointer (some ⟨w.heap.size + 1, 0, none⟩)) :
    (results fn tmps).run Try.prog ((w.alloc o).alloc (.cells #[v1, v2, v3, v4] 31)) = .ok (.agg #[v1, v2, v3, v4]) ((w.alloc o).alloc (.cells #[v1, v2, v3, v4] 31)) :=
  results_cell_row h tmps _ (w.heap.size + 1) 31 #[v1, v2, v3, v4] (0, 0) _ hp (by have := heap_alloc_new (w.alloc o) (.cells #[v1, v2, v3, v4] 31); rwa [World.size_alloc] at this) Try.underlying31 rfl dm_info
theorem below_two (w : World) (o p : Obj) : Below w.heap.size w ((w.alloc o).alloc p) := ((Below.refl _ _).alloc (Nat.le_refl _) _).alloc (by simp) _
set_option maxHeartbeats 1000000 in
theorem rbrestart_any (d : DM) (A : Option Addr) (n c : Nat) (w : World) :
    Calls Try.prog 23 #[.agg (dmV d A n c)] w fun e w' => e = .returned (.agg (dmV (restartM d) A n c)) ∧ Below w.heap.size w w' := by
  obtain ⟨l, left, torn, down⟩ := d
  unfold dmV restartM
  have hz := zero_dm
  go_enter Try.func23, Try.ntmps23
  go_wp2
  exact bodyPost_ret (dm_result rfl _ w _ _ _ _ _ rfl) rfl ⟨rfl, below_two w _ _⟩
set_option maxHeartbeats 1000000 in
theorem rbstop_nn (d : DM) (A : Option Addr) (n c : Nat) (after torn : Int) (h1 : after < 0) (h2 : torn < 0) (h3 : ¬ 128 < torn) (w : World) :
    Calls Try.prog 17 #[.agg (dmV d A n c), .int .i64 after, .int .i64 torn] w fun e w' => e = .returned (.agg #[.slice A n c, .int .i64 (-1), .int .i64 0, .bool d.down]) ∧ Below w.heap.size w w' := by
  obtain ⟨l, left, tn, down⟩ := d
  unfold dmV
  have hz := zero_dm
  go_enter Try.func17, Try.ntmps17
  go_wp2
  exact bodyPost_ret (dm_result rfl _ w _ _ _ _ _ rfl) rfl ⟨rfl, below_two w _ _⟩
set_option maxHeartbeats 1000000 in
theorem rbstop_nh (d : DM) (A : Option Addr) (n c : Nat) (after torn : Int) (h1 : after < 0) (h2 : ¬ torn < 0) (h3 : 128 < torn) (w : World) :
    Calls Try.prog 17 #[.agg (dmV d A n c), .int .i64 after, .int .i64 torn] w fun e w' => e = .returned (.agg #[.slice A n c, .int .i64 (-1), .int .i64 128, .bool d.down]) ∧ Below w.heap.size w w' := by
  obtain ⟨l, left, tn, down⟩ := d
  unfold dmV
  have hz := zero_dm
  go_enter Try.func17, Try.ntmps17
  go_wp2
  exact bodyPost_ret (dm_result rfl _ w _ _ _ _ _ rfl) rfl ⟨rfl, below_two w _ _⟩
set_option maxHeartbeats 1000000 in
theorem rbstop_nm (d : DM) (A : Option Addr) (n c : Nat) (after torn : Int) (h1 : after < 0) (h2 : ¬ torn < 0) (h3 : ¬ 128 < torn) (w : World) :
    Calls Try.prog 17 #[.agg (dmV d A n c), .int .i64 after, .int .i64 torn] w fun e w' => e = .returned (.agg #[.slice A n c, .int .i64 (-1), .int .i64 torn, .bool d.down]) ∧ Below w.heap.size w w' := by
  obtain ⟨l, left, tn, down⟩ := d
  unfold dmV
  have hz := zero_dm
  go_enter Try.func17, Try.ntmps17
  go_wp2
  exact bodyPost_ret (dm_result rfl _ w _ _ _ _ _ rfl) rfl ⟨rfl, below_two w _ _⟩
set_option maxHeartbeats 1000000 in
theorem rbstop_pn (d : DM) (A : Option Addr) (n c : Nat) (after torn : Int) (h1 : ¬ after < 0) (h2 : torn < 0) (h3 : ¬ 128 < torn) (w : World) :
    Calls Try.prog 17 #[.agg (dmV d A n c), .int .i64 after, .int .i64 torn] w fun e w' => e = .returned (.agg #[.slice A n c, .int .i64 after, .int .i64 0, .bool d.down]) ∧ Below w.heap.size w w' := by
  obtain ⟨l, left, tn, down⟩ := d
  unfold dmV
  have hz := zero_dm
  go_enter Try.func17, Try.ntmps17
  go_wp2
  exact bodyPost_ret (dm_result rfl _ w _ _ _ _ _ rfl) rfl ⟨rfl, below_two w _ _⟩
set_option maxHeartbeats 1000000 in
theorem rbstop_ph (d : DM) (A : Option Addr) (n c : Nat) (after torn : Int) (h1 : ¬ after < 0) (h2 : ¬ torn < 0) (h3 : 128 < torn) (w : World) :
    Calls Try.prog 17 #[.agg (dmV d A n c), .int .i64 after, .int .i64 torn] w fun e w' => e = .returned (.agg #[.slice A n c, .int .i64 after, .int .i64 128, .bool d.down]) ∧ Below w.heap.size w w' := by
  obtain ⟨l, left, tn, down⟩ := d
  unfold dmV
  have hz := zero_dm
  go_enter Try.func17, Try.ntmps17
  go_wp2
  exact bodyPost_ret (dm_result rfl _ w _ _ _ _ _ rfl) rfl ⟨rfl, below_two w _ _⟩
set_option maxHeartbeats 1000000 in
theorem rbstop_pm (d : DM) (A : Option Addr) (n c : Nat) (after torn : Int) (h1 : ¬ after < 0) (h2 : ¬ torn < 0) (h3 : ¬ 128 < torn) (w : World) :
    Calls Try.prog 17 #[.agg (dmV d A n c), .int .i64 after, .int .i64 torn] w fun e w' => e = .returned (.agg #[.slice A n c, .int .i64 after, .int .i64 torn, .bool d.down]) ∧ Below w.heap.size w w' := by
  obtain ⟨l, left, tn, down⟩ := d
  unfold dmV
  have hz := zero_dm
  go_enter Try.func17, Try.ntmps17
  go_wp2
  exact bodyPost_ret (dm_result rfl _ w _ _ _ _ _ rfl) rfl ⟨rfl, below_two w _ _⟩
theorem rbstop_any (d : DM) (A : Option Addr) (n c : Nat) (after torn : Int) (w : World) :
    Calls Try.prog 17 #[.agg (dmV d A n c), .int .i64 after, .int .i64 torn] w fun e w' => e = .returned (.agg (dmV (stopM d after torn) A n c)) ∧ Below w.heap.size w w' := by
  unfold dmV stopM
  by_cases h1 : after < 0
  · rw [if_pos h1]
    by_cases h2 : torn < 0
    · rw [if_pos h2]; exact rbstop_nn d A n c after torn h1 h2 (by omega) w
    · rw [if_neg h2]
      by_cases h3 : 128 < torn
      · rw [if_pos h3]; exact rbstop_nh d A n c after torn h1 h2 h3 w
      · rw [if_neg h3]; exact rbstop_nm d A n c after torn h1 h2 h3 w
  · rw [if_neg h1]
    by_cases h2 : torn < 0
    · rw [if_pos h2]; exact rbstop_pn d A n c after torn h1 h2 (by omega) w
    · rw [if_neg h2]
      by_cases h3 : 128 < torn
      · rw [if_pos h3]; exact rbstop_ph d A n c after torn h1 h2 h3 w
      · rw [if_neg h3]; exact rbstop_pm d A n c after torn h1 h2 h3 w
end Go.Proofs.Ytkhbmgmppoepjaa
