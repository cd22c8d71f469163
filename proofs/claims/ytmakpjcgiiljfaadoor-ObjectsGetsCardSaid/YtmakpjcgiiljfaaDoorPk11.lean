/-
  The document's answers for the reader, by value: End, Fixed, Bytes, Bool.
  The document's reading of a number, by value.
  The document's reading of a row with its length, by value.
  The document's reading of an Id, by value.
  Objects: an entry that is read.
  Objects: a slice literal of one entry; rows of the call's own where one other block turns.
-/
import Derived.Test.YtmakpjcgiiljfaaDoorPk10
import Derived.Test.YtmakpjcgiiljfaaDoorPk07
import Derived.Lib.Strings
import Derived.Test.YtmakpjcgiiljfaaDoorPk04
/-! The document's answers for the reader, by value: End, Fixed, Bytes, Bool. -/
namespace Go.Proofs.YtmakpjcgiiljfaaDoor
open Go.RowKit Codec

/-- A reader by value. -/
def RV (l : List UInt8) (e : Int) : Value := .agg #[.string (strB l), .int .i64 e]
theorem strB_empty (l : List UInt8) : (strB l).toList.isEmpty = l.isEmpty := by rw [strB, ByteArray.toList_mk]
theorem strB_to (l : List UInt8) (k : Nat) : (strB l).extract 0 k = strB (l.take k) := by
  apply ByteArray.ext; apply Array.toList_inj.1
  rw [Lib.extract_data]; simp [strB]
theorem strB_from (l : List UInt8) (k : Nat) : (strB l).extract k (strB l).size = strB (l.drop k) := by
  apply ByteArray.ext; apply Array.toList_inj.1
  rw [Lib.extract_data, strB_size, List.take_of_length_le (by simp [strB])]; simp [strB]
theorem below2 (w : World) (o1 o2 : Obj) : Below w.heap.size w ((w.alloc o1).alloc o2) := ((Below.refl _ _).alloc (Nat.le_refl _) _).alloc (by simp) _
theorem endE_bad {l : List UInt8} {e : Int} (h : ¬ e = 0) : endE l e = e := by unfold endE; rw [if_pos h]

set_option maxHeartbeats 1000000 in
theorem ref_end (l : List UInt8) (e : Int) (w : World) : Calls Tryd.prog 37 #[RV l e] w fun r w' => r = .returned (.int .i64 (endE l e)) ∧ Below w.heap.size w w' := by
  have b1 := fun o => (Below.refl w.heap.size w).alloc (Nat.le_refl _) o
  by_cases he : e = 0
  · subst he
    cases l with
    | nil =>
      rw [show endE [] 0 = 0 from rfl]
      unfold RV
      have hE : (strB []).toList.isEmpty = true := strB_empty []
      go_enter Tryd.func37, Tryd.ntmps37
      go_wp2_with fail
      go_ret
      exact ⟨rfl, b1 _⟩
    | cons c t =>
      rw [show endE (c :: t) 0 = 12 by simp [endE]]
      unfold RV
      have hE : (strB (c :: t)).toList.isEmpty = false := strB_empty (c :: t)
      go_enter Tryd.func37, Tryd.ntmps37
      go_wp2_with fail
      go_ret
      exact ⟨rfl, b1 _⟩
  · rw [endE_bad he]
    have he' : (e != 0) = true := by simpa using he
    unfold RV
    clear he
    go_enter Tryd.func37, Tryd.ntmps37
    go_wp2_with fail
    go_ret
    exact ⟨rfl, b1 _⟩

set_option maxHeartbeats 1000000 in
theorem ref_fixed (l : List UInt8) (e k : Int) (w : World) : Calls Tryd.prog 51 #[RV l e, .int .i64 k] w fun r w' => r = .returned (.tuple #[RV (fxL l e k) (tkE l e k), .string (strB (fxB l e k))]) ∧ Below w.heap.size w w' := by
  have b2 := below2 w
  by_cases he : e = 0
  · subst he
    by_cases hk : k < 0
    · have e1 : tkE l 0 k = 1 := by unfold tkE; rw [if_neg (by simp), if_pos hk]
      have e2 : fxL l 0 k = l := by unfold fxL; rw [e1]; rfl
      have e3 : fxB l 0 k = [] := by unfold fxB; rw [e1]; rfl
      rw [e1, e2, e3]
      unfold RV
      clear e1 e2 e3
      go_enter Tryd.func51, Tryd.ntmps51
      go_wp2_with fail
      refine bodyPost_ret (v := .tuple #[.agg #[.string (strB l), .int .i64 1], .string (strB [])]) (by simp [results, Tryd.results51, go_sem]; rfl) rfl ⟨rfl, b2 _ _⟩
    · by_cases hl : (l.length : Int) < k
      · have e1 : tkE l 0 k = 10 := by unfold tkE; rw [if_neg (by simp), if_neg hk, if_pos hl]
        have e2 : fxL l 0 k = l := by unfold fxL; rw [e1]; rfl
        have e3 : fxB l 0 k = [] := by unfold fxB; rw [e1]; rfl
        rw [e1, e2, e3]
        unfold RV
        have hl' : ((strB l).size : Int) < k := by rw [strB_size]; exact hl
        clear e1 e2 e3 hl
        go_enter Tryd.func51, Tryd.ntmps51
        go_wp2_with fail
        refine bodyPost_ret (v := .tuple #[.agg #[.string (strB l), .int .i64 10], .string (strB [])]) (by simp [results, Tryd.results51, go_sem]; rfl) rfl ⟨rfl, b2 _ _⟩
      · have e1 : tkE l 0 k = 0 := by unfold tkE; rw [if_neg (by simp), if_neg hk, if_neg hl]
        have e2 : fxL l 0 k = l.drop k.toNat := by unfold fxL; rw [if_pos e1]
        have e3 : fxB l 0 k = l.take k.toNat := by unfold fxB; rw [if_pos e1]
        rw [e1, e2, e3]
        unfold RV
        have hl' : k ≤ ((strB l).size : Int) := by rw [strB_size]; omega
        have E1 := Lib.hid (strB_to l k.toNat)
        have E2 := Lib.hid (strB_from l k.toNat)
        clear e1 e2 e3 hl
        go_enter Tryd.func51, Tryd.ntmps51
        go_wp2_with fail
        rw [E1.out, E2.out]
        refine bodyPost_ret (v := .tuple #[.agg #[.string (strB (l.drop k.toNat)), .int .i64 0], .string (strB (l.take k.toNat))]) (by simp [results, Tryd.results51, go_sem]) rfl ⟨rfl, b2 _ _⟩
  · have e1 : tkE l e k = e := by unfold tkE; rw [if_pos he]
    have e2 : fxL l e k = l := by unfold fxL; rw [e1, if_neg he]
    have e3 : fxB l e k = [] := by unfold fxB; rw [e1, if_neg he]
    rw [e1, e2, e3]
    have he' : (e != 0) = true := by simpa using he
    unfold RV
    clear he e1 e2 e3
    go_enter Tryd.func51, Tryd.ntmps51
    go_wp2_with fail
    refine bodyPost_ret (v := .tuple #[.agg #[.string (strB l), .int .i64 e], .string (strB [])]) (by simp [results, Tryd.results51, go_sem]; rfl) rfl ⟨rfl, b2 _ _⟩
end Go.Proofs.YtmakpjcgiiljfaaDoor

/-! The document's reading of a number, by value. -/
namespace Go.Proofs.YtmakpjcgiiljfaaDoor
open Go.RowKit Codec

theorem strB_head (d : UInt8) (t : List UInt8) (h : 0 < (strB (d :: t)).size) : (strB (d :: t))[0] = d := rfl
theorem pow_small {k : Nat} (hk : k ≤ 9) : 128 ^ k ≤ 9223372036854775808 := by
  have h := Nat.pow_le_pow_right (show 0 < 128 by omega) hk
  simpa using h
theorem u64_in {z : Int} (h0 : 0 ≤ z) (h1 : z < 18446744073709551616) : IntKind.u64.wrap z = z := by unfold IntKind.wrap; simp [IntKind.signed, IntKind.bits]; omega
theorem wrap_mul {k X d : Nat} (hX : X < 128 ^ k) (hk : k ≤ 9) (h9 : k = 9 → d % 128 ≤ 1) : IntKind.u64.wrap ((X : Int) + IntKind.u64.wrap (128 ^ k * ((d : Int) % 128))) = ((X + d % 128 * 128 ^ k : Nat) : Int) := by
  have hs := n_small (c := d % 128) hX hk (by omega) h9
  have e : (128 : Int) ^ k * ((d : Int) % 128) = ((d % 128 * 128 ^ k : Nat) : Int) := by
    rw [Nat.mul_comm]; push_cast; rfl
  rw [e, u64_in (Int.natCast_nonneg _) (by omega), u64_in (by omega) (by omega)]
  push_cast; rfl
theorem wrap_pow {k : Nat} (hk : k < 9) : IntKind.u64.wrap ((128 : Int) ^ k * 128) = ((128 ^ (k + 1) : Nat) : Int) := by
  have h := pow_small (k := k + 1) (by omega)
  have e : (128 : Int) ^ k * 128 = ((128 ^ (k + 1) : Nat) : Int) := by rw [Nat.pow_succ]; push_cast; rfl
  rw [e, u64_in (Int.natCast_nonneg _) (by omega)]

set_option maxHeartbeats 2000000 in
set_option maxRecDepth 100000 in
theorem ref_uint0 (l : List UInt8) (w : World) : Calls Tryd.prog 33 #[RV l 0] w fun r w' => ∃ m : List UInt8, r = .returned (.tuple #[RV m (rd 0 l).2.2, .int .u64 (rd 0 l).1]) ∧ ((rd 0 l).2.2 = 0 → m = l.drop (rd 0 l).2.1) ∧ Below w.heap.size w w' := by
  have b2 := below2 w
  unfold RV
  go_enter Tryd.func33, Tryd.ntmps33
  go_wp2_with fail
  go_loopw [4, 5, 6, 7] (fun x m i c wr => ∃ (k X : Nat), k ≤ 9 ∧ i = .int .i64 k ∧ m = .int .u64 ((128 ^ k : Nat) : Int) ∧ x = .int .u64 X ∧ X < 128 ^ k ∧ Hid (rd 0 l = comb k X (rd k (l.drop k))) ∧
    wr = (w.alloc (.cells #[.string (strB (l.drop k)), .int .i64 0] 75)).alloc (.cells #[.string ByteArray.empty, .int .i64 0] 75)) (fun _ _ i _ _ => 10 - (intOf i).toNat)
  case atStart => exact ⟨0, 0, by omega, rfl, rfl, rfl, by simp, by rw [List.drop_zero, comb_zero _ (rd_err 0 l)]; exact rfl, rfl⟩
  case round =>
    obtain ⟨k, X, hk9, rfl, rfl, rfl, hX, HD, rfl⟩ := hrel
    generalize hR : l.drop k = R at *
    cases R with
    | nil =>
      have hE : (strB []).toList.isEmpty = true := strB_empty []
      have E : rd 0 l = (0, 0, 10) := by rw [HD.out]; rfl
      clear HD
      have HE := Lib.hid E
      clear E
      go_wp2_with fail
      refine bodyPost_ret (v := .tuple #[.agg #[.string (strB []), .int .i64 10], .int .u64 0]) (by simp [results, Tryd.results33, go_sem]) rfl ⟨[], ?_, ?_, b2 _ _⟩
      · rw [HE.out]; rfl
      · rw [HE.out]; intro h; cases h
    | cons d t =>
      have hE : (strB (d :: t)).toList.isEmpty = false := strB_empty (d :: t)
      have hsz : (strB (d :: t)).size = t.length + 1 := by rw [strB_size]; rfl
      have hd0 := strB_head d t
      have EX := Lib.hid (strB_from (d :: t) 1)
      have ht : l.drop (k + 1) = t := by rw [← List.drop_drop, hR]; rfl
      have HT := Lib.hid ht
      have HX := Lib.hid hX
      have hu := d.toNat_lt
      clear hR ht hX
      rw [hsz] at EX
      go_wp2_with fail
      · have h9 : (k : Int) = 9 := by assumption
        have h1 : 1 < (d.toNat : Int) ∨ ((d.toNat : Int) == 0) = true := by assumption
        simp only [beq_iff_eq] at h1
        have E := n_bad HD.out (by omega)
        rw [EX.out]
        refine bodyPost_ret (v := .tuple #[.agg #[.string (strB t), .int .i64 11], .int .u64 0]) (by simp [results, Tryd.results33, go_sem]) rfl ⟨t, ?_, ?_, b2 _ _⟩
        · rw [E]; rfl
        · rw [E]; intro h; cases h
      · have h9 : (k : Int) = 9 := by assumption
        have h1 : (d.toNat : Int) ≤ 1 ∧ ((d.toNat : Int) == 0) = false := by assumption
        have := WalkArith.int_ne h1.2
        have E := n_end HD.out (by omega) (by omega)
        have W := wrap_mul (d := d.toNat) HX.out hk9 (by omega)
        rw [EX.out, W]
        refine bodyPost_ret (v := .tuple #[.agg #[.string (strB t), .int .i64 0], .int .u64 ((X + d.toNat % 128 * 128 ^ k : Nat) : Int)]) (by simp [results, Tryd.results33, go_sem]) rfl ⟨t, ?_, ?_, b2 _ _⟩
        · rw [E, Nat.mod_eq_of_lt (by omega)]; rfl
        · rw [E]; intro _; exact HT.out.symm
      · have h9 : (k : Int) = 9 := by assumption
        have h1 : 1 < (d.toNat : Int) := by assumption
        have E := n_bad HD.out (by omega)
        rw [EX.out]
        refine bodyPost_ret (v := .tuple #[.agg #[.string (strB t), .int .i64 11], .int .u64 0]) (by simp [results, Tryd.results33, go_sem]) rfl ⟨t, ?_, ?_, b2 _ _⟩
        · rw [E]; rfl
        · rw [E]; intro h; cases h
      · have hp : 0 < k := by assumption
        have h0 : ((d.toNat : Int) == 0) = true := by assumption
        have := WalkArith.int_eq h0
        have E := n_bad HD.out (by omega)
        rw [EX.out]
        refine bodyPost_ret (v := .tuple #[.agg #[.string (strB t), .int .i64 11], .int .u64 0]) (by simp [results, Tryd.results33, go_sem]) rfl ⟨t, ?_, ?_, b2 _ _⟩
        · rw [E]; rfl
        · rw [E]; intro h; cases h
      · have h9 : ¬ (k : Int) = 9 := by assumption
        have h0 : ((d.toNat : Int) == 0) = false := by assumption
        have hs : (d.toNat : Int) < 128 := by assumption
        have := WalkArith.int_ne h0
        have E := n_end HD.out (by omega) (by omega)
        have W := wrap_mul (d := d.toNat) HX.out hk9 (by omega)
        rw [EX.out, W]
        refine bodyPost_ret (v := .tuple #[.agg #[.string (strB t), .int .i64 0], .int .u64 ((X + d.toNat % 128 * 128 ^ k : Nat) : Int)]) (by simp [results, Tryd.results33, go_sem]) rfl ⟨t, ?_, ?_, b2 _ _⟩
        · rw [E, Nat.mod_eq_of_lt (by omega)]; rfl
        · rw [E]; intro _; exact HT.out.symm
      · have h9 : ¬ (k : Int) = 9 := by assumption
        have hs : 128 ≤ (d.toNat : Int) := by assumption
        have E := HD.out
        rw [comb_step (by omega) (by omega)] at E
        have W := wrap_mul (d := d.toNat) HX.out hk9 (by omega)
        have W2 := wrap_pow (k := k) (by omega)
        have hX2 := n_next (c := d.toNat % 128) HX.out (by omega)
        go_roundw
        case rel => exact ⟨k + 1, _, by omega, by go_num, by rw [W2], by rw [W], hX2, by rw [HT.out, show d.toNat % 128 = d.toNat - 128 by omega]; exact E, by rw [EX.out, HT.out]; rfl⟩
        case measure => simp [intOf]; omega
      · have h9 : ¬ (k : Int) = 9 := by assumption
        have hp : ¬ 0 < k := by assumption
        have hs : (d.toNat : Int) < 128 := by assumption
        have E := n_end HD.out (by omega) (by omega)
        have W := wrap_mul (d := d.toNat) HX.out hk9 (by omega)
        rw [EX.out, W]
        refine bodyPost_ret (v := .tuple #[.agg #[.string (strB t), .int .i64 0], .int .u64 ((X + d.toNat % 128 * 128 ^ k : Nat) : Int)]) (by simp [results, Tryd.results33, go_sem]) rfl ⟨t, ?_, ?_, b2 _ _⟩
        · rw [E, Nat.mod_eq_of_lt (by omega)]; rfl
        · rw [E]; intro _; exact HT.out.symm
      · have h9 : ¬ (k : Int) = 9 := by assumption
        have hs : 128 ≤ (d.toNat : Int) := by assumption
        have E := HD.out
        rw [comb_step (by omega) (by omega)] at E
        have W := wrap_mul (d := d.toNat) HX.out hk9 (by omega)
        have W2 := wrap_pow (k := k) (by omega)
        have hX2 := n_next (c := d.toNat % 128) HX.out (by omega)
        go_roundw
        case rel => exact ⟨k + 1, _, by omega, by go_num, by rw [W2], by rw [W], hX2, by rw [HT.out, show d.toNat % 128 = d.toNat - 128 by omega]; exact E, by rw [EX.out, HT.out]; rfl⟩
        case measure => simp [intOf]; omega

/-- The post of a reading by value: a reader with error e, that has l left where e is none; the value v. -/
def RGot (w : World) (e : Int) (l : List UInt8) (v : Value) (r : Ending) (w' : World) : Prop := ∃ m : List UInt8, r = .returned (.tuple #[RV m e, v]) ∧ (e = 0 → m = l) ∧ Below w.heap.size w w'

set_option maxHeartbeats 1000000 in
theorem ref_uint (l : List UInt8) (e : Int) (w : World) : Calls Tryd.prog 33 #[RV l e] w (RGot w (uiE l e) (uiL l e) (.int .u64 (uiX l e))) := by
  by_cases he : e = 0
  · subst he
    refine (ref_uint0 l w).mono ?_
    rintro _ w1 ⟨m, rfl, h1, h2⟩
    unfold uiE uiX uiL
    rw [if_pos rfl, if_pos rfl, if_pos rfl]
    exact ⟨m, rfl, fun h => h1 (by omega), h2⟩
  · have e1 : uiE l e = e := by unfold uiE; rw [if_neg he]
    have e2 : uiX l e = 0 := by unfold uiX; rw [if_neg he]
    rw [e1, e2]
    have b2 := below2 w
    have HE := Lib.hid he
    have he' : (e != 0) = true := by simpa using he
    unfold RV
    clear he e1 e2
    go_enter Tryd.func33, Tryd.ntmps33
    go_wp2_with fail
    refine bodyPost_ret (v := .tuple #[.agg #[.string (strB l), .int .i64 e], .int .u64 0]) (by simp [results, Tryd.results33, go_sem]) rfl ⟨l, rfl, fun h => absurd h HE.out, b2 _ _⟩
end Go.Proofs.YtmakpjcgiiljfaaDoor

/-! The document's reading of a row with its length, by value. -/
namespace Go.Proofs.YtmakpjcgiiljfaaDoor
open Go.RowKit Codec

/-- Two variables of readers that a call has made, in a later world. -/
theorem two_kept {w w1 : World} {a b c d : Value} {t : TypeId} (h : Below ((w.alloc (.cells #[a, b] t)).alloc (.cells #[c, d] t)).heap.size ((w.alloc (.cells #[a, b] t)).alloc (.cells #[c, d] t)) w1) :
    (w1.cell? ⟨w.heap.size, 0, none⟩ = some a ∧ w1.cell? ⟨w.heap.size, 1, none⟩ = some b ∧ w1.cell? ⟨w.heap.size + 1, 0, none⟩ = some c ∧ w1.cell? ⟨w.heap.size + 1, 1, none⟩ = some d) ∧
    (w1.frozen? ⟨w.heap.size, 0, none⟩ = false ∧ w1.frozen? ⟨w.heap.size, 1, none⟩ = false ∧ w1.frozen? ⟨w.heap.size + 1, 0, none⟩ = false ∧ w1.frozen? ⟨w.heap.size + 1, 1, none⟩ = false) ∧ Below w.heap.size w w1 := by
  have h2 : ((w.alloc (.cells #[a, b] t)).alloc (.cells #[c, d] t)).heap[w.heap.size + 1]? = some (.cells #[c, d] t (0, 0)) := by
    have := heap_alloc_new (w.alloc (.cells #[a, b] t)) (.cells #[c, d] t)
    simpa using this
  have h1 : ((w.alloc (.cells #[a, b] t)).alloc (.cells #[c, d] t)).heap[w.heap.size]? = some (.cells #[a, b] t (0, 0)) := by
    have := heap_alloc_new w (.cells #[a, b] t)
    rw [((Below.refl _ (w.alloc (.cells #[a, b] t))).alloc (Nat.le_refl _) (.cells #[c, d] t)).block w.heap.size (by simp)]
    exact this
  have k1 := (h.block w.heap.size (by simp; omega)).trans h1
  have k2 := (h.block (w.heap.size + 1) (by simp)).trans h2
  refine ⟨⟨?_, ?_, ?_, ?_⟩, ⟨?_, ?_, ?_, ?_⟩, (below2 w _ _).trans (h.mono (by simp; omega))⟩
  · rw [cell_of_cells k1]; rfl
  · rw [cell_of_cells k1]; rfl
  · rw [cell_of_cells k2]; rfl
  · rw [cell_of_cells k2]; rfl
  all_goals (simp [World.frozen?, k1, k2])

/-- What is written last stands there. -/
theorem set_set (w : World) (a : Addr) (u v : Value) : (w.setCell a u).setCell a v = w.setCell a v := by
  unfold World.setCell
  congr 1
  apply Array.ext_getElem?
  intro i
  simp only [Array.getElem?_modify]
  split
  · cases w.heap[i]? with
    | none => rfl
    | some o =>
      cases o with
      | cells c e f => by_cases h : a.spot.isSome <;> simp [h]
      | _ => rfl
  · rfl

theorem later {w1 w2 : World} {g g' : Nat} {u v : Value} (hne : g' ≠ g) (hlt : g' < w1.heap.size) (h : Below ((w1.setCell ⟨g, 0, none⟩ u).setCell ⟨g, 1, none⟩ v).heap.size ((w1.setCell ⟨g, 0, none⟩ u).setCell ⟨g, 1, none⟩ v) w2) (o : Nat) :
    w2.cell? ⟨g', o, none⟩ = w1.cell? ⟨g', o, none⟩ ∧ w2.frozen? ⟨g', o, none⟩ = w1.frozen? ⟨g', o, none⟩ := by
  have e : w2.heap[g']? = w1.heap[g']? := (h.block g' (by simp [World.setCell]; exact hlt)).trans ((Below.heap_setCell _ _ _ _ hne).trans (Below.heap_setCell _ _ _ _ hne))
  exact ⟨World.cell?_of_block (w := w1) (a := ⟨g', o, none⟩) e, by simp [World.frozen?, e]⟩
theorem below_four {w w1 : World} (h : Below w.heap.size w w1) (u1 u2 u3 u4 : Value) : Below w.heap.size w ((((w1.setCell ⟨w.heap.size, 0, none⟩ u1).setCell ⟨w.heap.size, 1, none⟩ u2).setCell ⟨w.heap.size + 1, 0, none⟩ u3).setCell ⟨w.heap.size + 1, 1, none⟩ u4) :=
  (((h.setCell (p := ⟨w.heap.size, 0, none⟩) (Nat.le_refl _) u1).setCell (p := ⟨w.heap.size, 1, none⟩) (Nat.le_refl _) u2).setCell (p := ⟨w.heap.size + 1, 0, none⟩) (Nat.le_succ _) u3).setCell (p := ⟨w.heap.size + 1, 1, none⟩) (Nat.le_succ _) u4

set_option maxHeartbeats 1000000 in
theorem ref_bytes (l : List UInt8) (e most : Int) (w : World) (hm : (Lit.int .i64 most).wf = true) : Calls Tryd.prog 34 #[RV l e, .int .i64 most] w (RGot w (byE l e most) (byL l e most) (.string (strB (byB l e most)))) := by
  have hu := fun w => ref_uint l e w
  unfold byE byB byL
  generalize uiE l e = e1 at *
  generalize hx : uiX l e = x at *
  have hx2 : x < 18446744073709551616 := by rw [← hx]; exact uiX_lt l e
  generalize uiL l e = l1 at *
  have hmb := bounds_i64 hm
  clear hx hm
  unfold RV at *
  by_cases he : e1 = 0
  · subst he
    have hz : ¬ ((0 : Int) ≠ 0) := by simp
    rw [if_neg hz, if_neg hz, if_neg hz]
    clear hz
    by_cases hb : most < 0 ∨ most < (x : Int)
    · rw [if_pos hb, if_pos hb, if_pos hb]
      go_enter Tryd.func34, Tryd.ntmps34
      go_wp2_with fail
      refine (hu _).mono ?_
      rintro _ w1 ⟨m, rfl, h1, h2⟩
      unfold RV
      obtain ⟨⟨c1, c2, c3, c4⟩, ⟨f1, f2, f3, f4⟩, hb1⟩ := two_kept h2
      have hbs := below_four hb1
      have hss := set_set
      clear h1 h2 hu
      go_wp2_with fail
      all_goals (refine bodyPost_ret (v := .tuple #[.agg #[.string (strB m), .int .i64 13], .string (strB [])]) (by simp [results, Tryd.results34, go_sem, c3, c4]; rfl) rfl ⟨m, rfl, (fun h => by cases h), hbs _ _ _ _⟩)
    · rw [if_neg hb, if_neg hb, if_neg hb]
      have hb1 : 0 ≤ most := by omega
      have hb2 : (x : Int) ≤ most := by omega
      clear hb
      go_enter Tryd.func34, Tryd.ntmps34
      go_wp2_with fail
      refine (hu _).mono ?_
      rintro _ w1 ⟨m, rfl, h1, h2⟩
      unfold RV
      obtain ⟨⟨c1, c2, c3, c4⟩, ⟨f1, f2, f3, f4⟩, hb1⟩ := two_kept h2
      have hsz : w.heap.size + 1 < w1.heap.size := by have := h2.size; simp at this; omega
      obtain rfl : m = l1 := h1 rfl
      have hbs := below_four hb1
      have hss := set_set
      have HB1 := Lib.hid hb1
      have HSZ := Lib.hid hsz
      clear h1 h2 hu hb1 hsz
      go_wp2_with fail
      refine (ref_fixed m 0 x _).mono ?_
      rintro _ w2 ⟨rfl, hb3⟩
      unfold RV
      obtain ⟨a1, a2⟩ := later (g' := w.heap.size + 1) (by omega) HSZ.out hb3 0
      obtain ⟨a3, a4⟩ := later (g' := w.heap.size + 1) (by omega) HSZ.out hb3 1
      rw [c3] at a1
      rw [f3] at a2
      rw [c4] at a3
      rw [f4] at a4
      have hb4 := ((HB1.out.setCell (p := ⟨w.heap.size, 0, none⟩) (Nat.le_refl _) (.string (strB m))).setCell (p := ⟨w.heap.size, 1, none⟩) (Nat.le_refl _) (.int .i64 0))
      have hb5 := hb4.trans (hb3.mono hb4.size)
      have hbt := fun u v => (hb5.setCell (p := ⟨w.heap.size + 1, 0, none⟩) (Nat.le_succ _) u).setCell (p := ⟨w.heap.size + 1, 1, none⟩) (Nat.le_succ _) v
      generalize fxL m 0 x = m2 at *
      generalize tkE m 0 x = e2 at *
      clear hbs hb3 hb4 hb5 c1 c2 c3 c4 f1 f2 f3 f4
      go_wp2_with fail
      refine bodyPost_ret (v := .tuple #[.agg #[.string (strB m2), .int .i64 e2], .string (strB (fxB m 0 x))]) (by simp [results, Tryd.results34, go_sem, a1, a3]) rfl ⟨m2, rfl, fun _ => rfl, hbt _ _⟩
  · have HE := Lib.hid he
    rw [if_pos he, if_pos he, if_pos he]
    have he' : (e1 != 0) = true := by simpa using he
    clear he
    go_enter Tryd.func34, Tryd.ntmps34
    go_wp2_with fail
    refine (hu _).mono ?_
    rintro _ w1 ⟨m, rfl, h1, h2⟩
    unfold RV
    obtain ⟨⟨c1, c2, c3, c4⟩, ⟨f1, f2, f3, f4⟩, hb1⟩ := two_kept h2
    have hbs := below_four hb1
    have hss := set_set
    clear h1 h2 hu
    go_wp2_with fail
    refine bodyPost_ret (v := .tuple #[.agg #[.string (strB m), .int .i64 e1], .string (strB [])]) (by simp [results, Tryd.results34, go_sem, c3, c4]; rfl) rfl ⟨m, rfl, fun h => absurd h HE.out, hbs _ _ _ _⟩
end Go.Proofs.YtmakpjcgiiljfaaDoor

/-! The document's reading of an Id, by value. -/
namespace Go.Proofs.YtmakpjcgiiljfaaDoor
open Go.RowKit Codec

/-- The first k bytes, noughts behind. -/
def pad (s : List UInt8) (k : Nat) : List UInt8 := s.take k ++ List.replicate (32 - k) 0
theorem pad_length (s : List UInt8) (k : Nat) (h : k ≤ s.length) (h2 : s.length ≤ 32) : (pad s k).length = 32 := by unfold pad; simp; omega
theorem pad_step (s : List UInt8) (k : Nat) (h : k < s.length) (h2 : s.length ≤ 32) : (u8s (pad s k)).toArray.setIfInBounds k (.int .u8 (((s[k]?.getD 0).toNat : Nat) : Int)) = (u8s (pad s (k + 1))).toArray := by
  have e1 : pad s k = s.take k ++ 0 :: List.replicate (31 - k) 0 := by
    unfold pad; rw [show 32 - k = (31 - k) + 1 by omega, List.replicate_succ]
  have e2 : pad s (k + 1) = s.take k ++ s[k]?.getD 0 :: List.replicate (31 - k) 0 := by
    unfold pad
    rw [show 32 - (k + 1) = 31 - k by omega, List.take_succ_eq_append_getElem h, List.append_assoc, List.getElem?_eq_getElem h]
    rfl
  have hl : (u8s (s.take k)).length = k := by rw [u8s_length, List.length_take]; omega
  rw [e1, e2, List.setIfInBounds_toArray]
  congr 1
  rw [u8s_append, List.set_append_right _ _ (by omega), hl, Nat.sub_self, u8s_append]
  rfl
theorem pad_zero (s : List UInt8) : (u8s (pad s 0)).toArray = Z32 := by simp [pad, Z32]
theorem pad_id (l : List UInt8) (e : Int) : pad (fxB l e 32) (fxB l e 32).length = idL l e ∧ (fxB l e 32).length ≤ 32 := by
  unfold fxB idL pad
  split
  · rename_i h
    obtain ⟨_, _, h1⟩ := tkE_zero h
    have h2 : (32 : Int).toNat = 32 := rfl
    rw [h2] at h1 ⊢
    rw [List.take_of_length_le (Nat.le_refl _), List.length_take, Nat.min_eq_left h1]
    simp
  · simp

theorem three_kept {w w1 : World} {a b c d : Value} {t : TypeId} {o : Obj} (h : Below (((w.alloc (.cells #[a, b] t)).alloc (.cells #[c, d] t)).alloc o).heap.size (((w.alloc (.cells #[a, b] t)).alloc (.cells #[c, d] t)).alloc o) w1) :
    (w1.cell? ⟨w.heap.size, 0, none⟩ = some a ∧ w1.cell? ⟨w.heap.size, 1, none⟩ = some b ∧ w1.cell? ⟨w.heap.size + 1, 0, none⟩ = some c ∧ w1.cell? ⟨w.heap.size + 1, 1, none⟩ = some d) ∧
    (w1.frozen? ⟨w.heap.size, 0, none⟩ = false ∧ w1.frozen? ⟨w.heap.size, 1, none⟩ = false ∧ w1.frozen? ⟨w.heap.size + 1, 0, none⟩ = false ∧ w1.frozen? ⟨w.heap.size + 1, 1, none⟩ = false) ∧
    w1.heap[w.heap.size + 2]? = some o ∧ w1.heap[w.heap.size + 1]? = some (.cells #[c, d] t (0, 0)) ∧ w.heap.size + 2 < w1.heap.size ∧ Below w.heap.size w w1 := by
  have hs : ((w.alloc (.cells #[a, b] t)).alloc (.cells #[c, d] t)).heap.size = w.heap.size + 2 := by simp
  have h3 := heap_alloc_new ((w.alloc (.cells #[a, b] t)).alloc (.cells #[c, d] t)) o
  rw [hs] at h3
  have hb : Below ((w.alloc (.cells #[a, b] t)).alloc (.cells #[c, d] t)).heap.size ((w.alloc (.cells #[a, b] t)).alloc (.cells #[c, d] t)) w1 := ((Below.refl _ _).alloc (Nat.le_refl _) o).trans (h.mono (by simp))
  obtain ⟨k1, k2, k3⟩ := two_kept hb
  have hz := h.size
  simp at hz
  have h4 := heap_alloc_new (w.alloc (.cells #[a, b] t)) (.cells #[c, d] t)
  rw [show (w.alloc (.cells #[a, b] t)).heap.size = w.heap.size + 1 by simp] at h4
  exact ⟨k1, k2, (h.block (w.heap.size + 2) (by simp)).trans h3, (hb.block (w.heap.size + 1) (by simp)).trans h4, by omega, k3⟩

theorem rangeAt_heap {w w' : World} {b o : Nat} {cs : List Value} (e : w'.heap[b]? = w.heap[b]?) (h : w.rangeAt b o cs) : w'.rangeAt b o cs := fun j v hj => (World.cell?_of_block (w := w) (w' := w') (a := ⟨b, o + j, none⟩) e).trans (h j v hj)
theorem heap_setRow {w : World} {g : Nat} {cs : Array Value} {i : Nat} (h : i ≠ g) : (w.setRow g cs).heap[i]? = w.heap[i]? := by
  simp only [World.setRow, Array.getElem?_modify]
  rw [if_neg (fun e => h e.symm)]
theorem seg_yield {P : Program} {ops : Array Oper} {C : World → Prop} {Q' : Act → Prop} {i : Nat} {r : List Nat} {a : Act} {o : Oper} (v : Value) (ho : ops.toList[i]? = some o) (hy : YieldsIf P ops C o v a) (h : wpSeg P ops C Q' r (a.put o.dst v)) : wpSeg P ops C Q' (i :: r) a :=
  ⟨o, v, by rw [← ho, Array.getElem?_toList], hy, h⟩
/-- A function's two results that live in variables. -/
theorem results_two {P : Program} {fn : Func} {p q : Tmp} {ty uy : TypeId} (h : fn.results = #[.cell p ty, .cell q uy]) (tmps : Array Value) (w : World) (A B : Addr) (v u : Value)
    (hp : tmps.getD p undef = .pointer (some A)) (hq : tmps.getD q undef = .pointer (some B)) (hv : (loadVar ty A).run P w = .ok v w) (hu : (loadVar uy B).run P w = .ok u w) :
    (results fn tmps).run P w = .ok (.tuple #[v, u]) w := by
  have hp' : tmps[p]?.getD undef = .pointer (some A) := by simpa using hp
  have hq' : tmps[q]?.getD undef = .pointer (some B) := by simpa using hq
  simp [results, h, hp', hq', asAddr, hv, hu]
theorem strB_at (s : List UInt8) (k : Nat) (h : k < (strB s).size) : (strB s)[k] = s[k]?.getD 0 := by
  have h2 : k < s.length := by rw [strB_size] at h; exact h
  rw [List.getElem?_eq_getElem h2]; rfl

set_option linter.unusedSimpArgs false
set_option maxHeartbeats 1000000 in
set_option maxRecDepth 100000 in
theorem ref_id (l : List UInt8) (e : Int) (w : World) : Calls Tryd.prog 36 #[RV l e] w fun r w' => r = .returned (.tuple #[RV (fxL l e 32) (tkE l e 32), .agg (idC l e)]) ∧ Below w.heap.size w w' := by
  have hu := fun w => ref_fixed l e 32 w
  unfold idC
  rw [← (pad_id l e).1]
  have h32 := (pad_id l e).2
  generalize tkE l e 32 = e1 at *
  generalize fxL l e 32 = m at *
  generalize fxB l e 32 = s at *
  unfold RV at *
  go_enter Tryd.func36, Tryd.ntmps36
  go_wp2_with fail
  refine (hu _).mono ?_
  rintro _ w1 ⟨rfl, h2⟩
  obtain ⟨⟨c1, c2, c3, c4⟩, ⟨f1, f2, f3, f4⟩, hh, hh1, hsz, hb1⟩ := three_kept h2
  have HH := Lib.hid hh
  have HH1 := Lib.hid hh1
  have HSZ := Lib.hid hsz
  have HB := Lib.hid hb1
  clear h2 hu hh hh1 hsz hb1
  go_wp2_with fail
  generalize hW2 : World.alloc (World.setCell (World.setCell w1 _ _) _ _) _ = W2
  have hs2 : ((w1.setCell ⟨w.heap.size, 0, none⟩ (.string (strB m))).setCell ⟨w.heap.size, 1, none⟩ (.int .i64 e1)).heap.size = w1.heap.size := by simp [World.setCell]
  have hg : W2.heap[w1.heap.size]? = some (.cells Z32 49 (0, 0)) := by
    rw [← hW2]
    have := heap_alloc_new ((w1.setCell ⟨w.heap.size, 0, none⟩ (.string (strB m))).setCell ⟨w.heap.size, 1, none⟩ (.int .i64 e1)) (.cells Z32 49)
    rw [hs2] at this
    exact this
  have hT : Turned (fun b => b = w.heap.size) w1 W2 := by
    rw [← hW2]
    exact (((Turned.refl (fun b => b = w.heap.size) w1).set rfl 0 _).set rfl 1 _).alloc _
  have d1 : W2.cell? ⟨w.heap.size, 0, none⟩ = some (.string (strB m)) := by
    rw [← hW2]
    refine (((Below.refl ((w1.setCell ⟨w.heap.size, 0, none⟩ (.string (strB m))).setCell ⟨w.heap.size, 1, none⟩ (.int .i64 e1)).heap.size _).alloc (Nat.le_refl _) _).cell (p := ⟨w.heap.size, 0, none⟩) (by rw [hs2]; have := HSZ.out; show w.heap.size < _; omega)).trans ?_
    simp [go_sem, c1, c2]
  have d2 : W2.cell? ⟨w.heap.size, 1, none⟩ = some (.int .i64 e1) := by
    rw [← hW2]
    refine (((Below.refl ((w1.setCell ⟨w.heap.size, 0, none⟩ (.string (strB m))).setCell ⟨w.heap.size, 1, none⟩ (.int .i64 e1)).heap.size _).alloc (Nat.le_refl _) _).cell (p := ⟨w.heap.size, 1, none⟩) (by rw [hs2]; have := HSZ.out; show w.heap.size < _; omega)).trans ?_
    simp [go_sem, c1, c2]
  have hg1 : W2.heap[w.heap.size + 1]? = w1.heap[w.heap.size + 1]? := hT.block _ (by have := HSZ.out; omega) (by omega)
  have hg2 : W2.heap[w.heap.size + 2]? = w1.heap[w.heap.size + 2]? := hT.block _ HSZ.out (by omega)
  have hb2 : Below w.heap.size w W2 := by
    rw [← hW2]
    exact ((HB.out.setCell (p := ⟨w.heap.size, 0, none⟩) (Nat.le_refl _) _).setCell (p := ⟨w.heap.size, 1, none⟩) (Nat.le_refl _) _).alloc (by rw [hs2]; exact HB.out.size) _
  have hsz2 : w1.heap.size < W2.heap.size := by rw [← hW2]; simp [World.setCell]
  clear hW2 hs2 hT
  have HS := Lib.hid (strB_size s)
  go_loopw [6] (fun i wr => ∃ k : Nat, k ≤ s.length ∧ i = .int .i64 k ∧ wr.heap[w1.heap.size]? = some (.cells (u8s (pad s k)).toArray 49 (0, 0)) ∧ Turned (fun b => b = w1.heap.size) W2 wr) (fun i _ => s.length - (intOf i).toNat)
  case atStart => exact ⟨0, Nat.zero_le _, rfl, by rw [pad_zero]; exact hg, Turned.refl _ _⟩
  case round =>
    obtain ⟨k, hk, rfl, hgk, hTk⟩ := hrel
    have hsz := HS.out
    by_cases hlt : k < s.length
    · have hc := cell_of_cells hgk k
      have hpl := pad_length s k hk h32
      have hck : wr.cell? ⟨w1.heap.size, k, none⟩ = some (.int .u8 (((pad s k)[k]?.getD 0).toNat : Int)) := by
        rw [hc]
        have hkp : k < (pad s k).length := by omega
        simp [u8s, List.getElem?_eq_getElem hkp]
      have hfk : wr.frozen? ⟨w1.heap.size, k, none⟩ = false := by simp [World.frozen?, hgk]
      have hix := strB_at s k
      have hk32 : k < 32 := by omega
      have HG := Lib.hid hgk
      clear hc hgk hpl
      go_wp2_with fail
      go_roundw
      case rel => exact ⟨k + 1, by omega, by go_num, by rw [← pad_step s k hlt h32, List.getElem?_eq_getElem hlt]; exact set_of_cells HG.out k _, hTk.set rfl k _⟩
      case measure => simp [intOf]; omega
    · have hkl : k = s.length := by omega
      subst hkl
      have hsw := HSZ.out
      have k0 : wr.heap[w.heap.size]? = W2.heap[w.heap.size]? := hTk.block _ (by omega) (by omega)
      have k1 : wr.heap[w.heap.size + 1]? = w1.heap[w.heap.size + 1]? := (hTk.block _ (by omega) (by omega)).trans hg1
      have k2 : wr.heap[w.heap.size + 2]? = w1.heap[w.heap.size + 2]? := (hTk.block _ (by omega) (by omega)).trans hg2
      have d1 := (World.cell?_of_block (w := W2) (w' := wr) (a := ⟨w.heap.size, 0, none⟩) k0).trans d1
      have d2 := (World.cell?_of_block (w := W2) (w' := wr) (a := ⟨w.heap.size, 1, none⟩) k0).trans d2
      have d3 := (World.cell?_of_block (w := w1) (w' := wr) (a := ⟨w.heap.size + 1, 0, none⟩) k1).trans c3
      have d4 := (World.cell?_of_block (w := w1) (w' := wr) (a := ⟨w.heap.size + 1, 1, none⟩) k1).trans c4
      have g3 : wr.frozen? ⟨w.heap.size + 1, 0, none⟩ = false := by rw [← f3]; simp only [World.frozen?, k1]
      have g4 : wr.frozen? ⟨w.heap.size + 1, 1, none⟩ = false := by rw [← f4]; simp only [World.frozen?, k1]
      have HK2 := Lib.hid (k2.trans HH.out)
      have HK1 := Lib.hid (k1.trans HH1.out)
      have hbr := hb2.trans ((hTk.mono (T := (w.heap.size ≤ ·)) (fun b _ e => by have e : b = w1.heap.size := e; show w.heap.size ≤ b; omega)).below hb2.size)
      have hpl := pad_length s s.length (Nat.le_refl _) h32
      have hrg : wr.rangeAt w1.heap.size 0 (u8s (pad s s.length)) := by
        have := World.rangeAt_of_block hgk 0 32
        rwa [show ((u8s (pad s s.length)).toArray.extract 0 (0 + 32)).toList = u8s (pad s s.length) by rw [List.extract_toArray, List.toList_toArray, List.extract_eq_take_drop, List.drop_zero, Nat.zero_add, Nat.sub_zero, List.take_of_length_le (by rw [u8s_length, hpl]; omega)]] at this
      have hi32 : (Tryd.prog.info? 49).map (·.size) = some (u8s (pad s s.length)).length := by rw [u8s_length, hpl]; exact id_info
      have HI := Lib.hid hi32
      have HRG := Lib.hid hrg
      have HBR := Lib.hid hbr
      have hne1 : w1.heap.size ≠ w.heap.size + 1 := by omega
      clear k0 k1 k2 hgk hTk hpl hi32 hrg hbr c1 c2 c3 c4 f1 f2 f3 f4 hg hg1 hg2 hb2
      generalize hcs : u8s (pad s s.length) = cs at *
      go_wp2_with fail
      refine wp_region_plan (fun W => W.cell? ⟨w.heap.size, 0, none⟩ = some (.string (strB m)) ∧ W.cell? ⟨w.heap.size, 1, none⟩ = some (.int .i64 e1) ∧ W.rangeAt w1.heap.size 0 cs) [([0, 1], 2), ([], 3)] [] (by kernel_rfl) (by kernel_rfl) (fun _ _ d _ _ h => by cases d <;> exact h) ⟨by simp [go_sem, d1], by simp [go_sem, d2], by simpa using HRG.out⟩ ?_
      refine plan_eff ?_
      refine seg_read ?v1 (by rfl) (by rfl) ?h1 ?_
      case h1 => intro W hW; obtain ⟨e1, e2, _⟩ := hW; go_simp; with_reducible rfl
      try simp only [Act.put, List.setIfInBounds_toArray, List.set_cons_zero, List.set_cons_succ]
      refine seg_yield (.agg cs.toArray) (by rfl) (yieldsIf_load_mid (by rfl) 49 (.tmp 5) (by rfl) w1.heap.size 0 (by rfl) cs _ (fun W hW => hW.2.2) Tryd.underlying49 (by rfl) HI.out) ?_
      try simp only [Act.put, List.setIfInBounds_toArray, List.set_cons_zero, List.set_cons_succ]
      refine seg_nil ?_
      refine eff_step (by rfl) (fun K hK => ?_)
      go_simp
      obtain ⟨WA, hWA⟩ : ∃ WA, WA = ((wr.setCell ⟨w.heap.size + 1, 0, none⟩ (.string (strB m))).setCell ⟨w.heap.size + 1, 1, none⟩ (.int .i64 e1)).drew := ⟨_, rfl⟩
      have oth : ∀ i, i ≠ w.heap.size + 1 → WA.heap[i]? = wr.heap[i]? := fun i hi => by
        rw [hWA]; exact (Below.heap_setCell _ _ _ _ hi).trans (Below.heap_setCell _ _ _ _ hi)
      have a0 : WA.cell? ⟨w.heap.size, 0, none⟩ = some (.string (strB m)) := (World.cell?_of_block (w := wr) (w' := WA) (a := ⟨w.heap.size, 0, none⟩) (oth w.heap.size (by omega))).trans d1
      have a1 : WA.cell? ⟨w.heap.size, 1, none⟩ = some (.int .i64 e1) := (World.cell?_of_block (w := wr) (w' := WA) (a := ⟨w.heap.size, 1, none⟩) (oth w.heap.size (by omega))).trans d2
      have a2 : WA.rangeAt w1.heap.size 0 cs := rangeAt_heap (oth _ hne1) HRG.out
      have a3 := (oth (w.heap.size + 2) (by omega)).trans HK2.out
      have a4 : WA.heap[w.heap.size + 1]? = some (.cells #[.string (strB m), .int .i64 e1] 75 (0, 0)) := by
        rw [hWA]
        have := set_of_cells (set_of_cells HK1.out 0 (.string (strB m))) 1 (.int .i64 e1)
        show ((wr.setCell ⟨w.heap.size + 1, 0, none⟩ (.string (strB m))).setCell ⟨w.heap.size + 1, 1, none⟩ (.int .i64 e1)).heap[w.heap.size + 1]? = _
        simpa using this
      have a5 : Below w.heap.size w WA := by
        rw [hWA]; exact ((HBR.out.setCell (p := ⟨w.heap.size + 1, 0, none⟩) (Nat.le_succ _) _).setCell (p := ⟨w.heap.size + 1, 1, none⟩) (Nat.le_succ _) _).drew
      rw [← hWA]
      clear hWA oth d1 d2 d3 d4 g3 g4
      refine hK _ _ ⟨fun W => W.cell? ⟨w.heap.size, 0, none⟩ = some (.string (strB m)) ∧ W.cell? ⟨w.heap.size, 1, none⟩ = some (.int .i64 e1) ∧ W.rangeAt w1.heap.size 0 cs, ⟨a0, a1, a2⟩, fun W e => e, ?_⟩
      clear hK K
      refine plan_eff ?_
      refine seg_nil ?_
      refine eff_step (by rfl) (fun K hK => ?_)
      rw [if_pos (by rfl)]
      refine wp_store_row 49 (.tmp 3) (.tmp 24) (by rfl) (w.heap.size + 2) cs.toArray (by rfl) (by rfl) 49 _ a3 (by simpa using HI.out) ?_ ?_ ?_
      · rw [← hcs]; simp [u8s, pad_length s s.length (Nat.le_refl _) h32]
      · rw [← hcs]; exact u8s_allc _
      have oth : ∀ i, i ≠ w.heap.size + 2 → (WA.setRow (w.heap.size + 2) cs.toArray).heap[i]? = WA.heap[i]? := fun i hi => heap_setRow hi
      have b0 := (World.cell?_of_block (w := WA) (w' := WA.setRow (w.heap.size + 2) cs.toArray) (a := ⟨w.heap.size, 0, none⟩) (oth w.heap.size (by omega))).trans a0
      have b1 := (World.cell?_of_block (w := WA) (w' := WA.setRow (w.heap.size + 2) cs.toArray) (a := ⟨w.heap.size, 1, none⟩) (oth w.heap.size (by omega))).trans a1
      have b2 : (WA.setRow (w.heap.size + 2) cs.toArray).rangeAt w1.heap.size 0 cs := rangeAt_heap (oth _ (by omega)) a2
      have b3 := setRow_at (new := cs.toArray) a3
      have b4 := (oth (w.heap.size + 1) (by omega)).trans a4
      have b5 : Below w.heap.size w (WA.setRow (w.heap.size + 2) cs.toArray) := ⟨a5.os, a5.tape, a5.output, by simpa [World.setRow] using a5.size, fun i hi => (oth i (by omega)).trans (a5.block i hi)⟩
      generalize WA.setRow (w.heap.size + 2) cs.toArray = WB at *
      refine hK _ _ ⟨fun W => W = WB, rfl, fun W e => e ▸ ⟨b0, b1, b2⟩, ?_⟩
      clear hK K
      refine plan_last ?_
      refine seg_nil ?_
      go_wp2_with fail
      refine bodyPost_ret (results_two rfl _ _ ⟨w.heap.size + 1, 0, none⟩ ⟨w.heap.size + 2, 0, none⟩ (.agg #[.string (strB m), .int .i64 e1]) (.agg cs.toArray) rfl rfl (run_loadVar_row _ _ _ _ _ _ _ b4 Tryd.underlying75 rfl (by kernel_rfl)) (run_loadVar_row _ _ _ _ _ _ _ b3 Tryd.underlying49 rfl (by simpa using HI.out))) rfl ⟨by rw [hcs], b5⟩
end Go.Proofs.YtmakpjcgiiljfaaDoor

/-! Objects: an entry that is read. -/
namespace Go.Proofs.YtmakpjcgiiljfaaDoor
open Go.RowKit Codec

theorem results_ca {P : Program} {fn : Func} {p : Tmp} {ty : TypeId} (h : fn.results = #[.cell p ty]) (tmps : Array Value) (w : World) (A : Addr) (v : Value)
    (hp : tmps.getD p undef = .pointer (some A)) (hv : (loadVar ty A).run P w = .ok v w) : (results fn tmps).run P w = .ok v w := by
  have hp' : tmps[p]?.getD undef = .pointer (some A) := by simpa using hp
  simp [results, h, hp', asAddr, hv]
theorem results_ct {P : Program} {fn : Func} {p q : Tmp} {ty : TypeId} (h : fn.results = #[.cell p ty, .tmp q]) (tmps : Array Value) (w : World) (A : Addr) (v u : Value)
    (hp : tmps.getD p undef = .pointer (some A)) (hq : tmps.getD q undef = u) (hv : (loadVar ty A).run P w = .ok v w) : (results fn tmps).run P w = .ok (.tuple #[v, u]) w := by
  have hp' : tmps[p]?.getD undef = .pointer (some A) := by simpa using hp
  have hq' : tmps[q]?.getD undef = u := by simpa using hq
  simp [results, h, hp', hq', asAddr, hv]
/-- A part of a block is stored. -/
theorem run_store_part {w : World} {g : Nat} {t : TypeId} {cs : Array Value} (h : w.heap[g]? = some (.cells cs t (0, 0))) (ty : TypeId) (DS : List Value) (o : Nat) (hsz : o + DS.length ≤ cs.size) (h1 : ∀ u ∈ DS, u.oneCell' = true) (hi : (Tryd.prog.info? ty).map (·.size) = some DS.length) :
    (Instr.storeAt ty (.pointer (some ⟨g, o, none⟩)) (.agg DS.toArray)).run Tryd.prog w = .ok () (w.setRow g (cs.toList.take o ++ DS ++ cs.toList.drop (o + DS.length)).toArray) := by
  have hst := run_storeCells_at (P := Tryd.prog) g o t DS 0 cs w h (by omega) h1
  rw [Nat.add_zero] at hst
  cases hi2 : Tryd.prog.info? ty with
  | none => simp [hi2] at hi
  | some inf =>
    have hs2 : inf.size = DS.length := by simpa [hi2] using hi
    simp [Instr.storeAt, Instr.sureAddr, Sem.run_bind, storeVar, sizeOf, typeInfo, hi2, hs2, Value.cells, hst, Result.andThen]
theorem wpList_store_part {ops : Array Oper} {rest : List Oper} {op : Oper} {a : Act} {w : World} {Q : Exit → Act → World → Prop} (hgd : op.guard = none) (ty : TypeId) (x y : Operand) (ho : op.op = .store ty x y)
    {g : Nat} {t : TypeId} {cs : Array Value} (h : w.heap[g]? = some (.cells cs t (0, 0))) (DS : List Value) (o : Nat) (hsz : o + DS.length ≤ cs.size) (h1 : ∀ u ∈ DS, u.oneCell' = true) (hi : (Tryd.prog.info? ty).map (·.size) = some DS.length)
    (NS : Array Value) (hNS : (cs.toList.take o ++ DS ++ cs.toList.drop (o + DS.length)).toArray = NS)
    (hx : a.eval x = .pointer (some ⟨g, o, none⟩)) (hy : a.eval y = .agg DS.toArray)
    (hK : wpList Tryd.prog ops Q rest (a.put op.dst undef) (w.setRow g NS)) : wpList Tryd.prog ops Q (op :: rest) a w :=
  wpList_plain hgd fun K hK' => by
    subst hNS
    have hr := run_store_part h ty DS o hsz h1 hi
    unfold Oper.wp execOp
    simp only [ho, hx, hy, Sem.run_bind, hr, Result.andThen_ok, Sem.run_pure]
    exact hK' _ _ hK
theorem enV_set0 (y : En) (s : List UInt8) : (enV y).setIfInBounds 0 (.string (st s)) = enV (s, y.2) := by
  unfold enV
  apply Array.toList_inj.1
  simp
theorem enV_set1 (y : En) (b : Bool) : (enV y).setIfInBounds 1 (.bool b) = enV (y.1, b, y.2.2) := by
  unfold enV
  apply Array.toList_inj.1
  simp
theorem enV_setI (y : En) (i : List UInt8) (h : y.2.2.length = 32) (hi : i.length = 32) : ((enV y).toList.take 2 ++ u8s i ++ (enV y).toList.drop (2 + (u8s i).length)).toArray = enV (y.1, y.2.1, i) := by
  apply Array.toList_inj.1
  rw [enV_list, enV_list, u8s_length, hi]
  simp [u8s_length, h]
/-- Within 'entry': the reader, what is told, what is read. -/
structure EnS (S : Nat → Prop) (w W : World) (p : Nat) (l : List UInt8) (e : Int) (y : En) : Prop where
  rd : Rd W (fun k => S k ∧ k < w.heap.size) p l e
  gr : w.grownBy W (some p)
  res : W.heap[w.heap.size]? = some (.cells zeroEn 51 (0, 0))
  row : W.heap[w.heap.size + 1]? = some (.cells (enV y) 51 (0, 0))
  i32 : y.2.2.length = 32
section
variable {S : Nat → Prop} {w W W' : World} {p : Nat} {l l' : List UInt8} {e e' : Int} {y : En}
theorem EnS.lt (h : EnS S w W p l e y) : p < w.heap.size := h.rd.1.2
theorem EnS.call (h : EnS S w W p l e y) (hr : Rd W' (fun k => S k ∧ k < w.heap.size) p l' e') (hg : W.grownBy W' (some p)) : EnS S w W' p l' e' y :=
  have h1 := h.lt
  ⟨hr, gr_trans h.gr hg, (hg.block _ (lt_of_cells h.res) (fun e => by injection e; omega)).trans h.res, (hg.block _ (lt_of_cells h.row) (fun e => by injection e; omega)).trans h.row, h.i32⟩
theorem EnS.setRow (h : EnS S w W p l e y) (y' : En) (hi : y'.2.2.length = 32) : EnS S w (W.setRow (w.heap.size + 1) (enV y')) p l e y' :=
  have h1 := h.lt
  have hg : W.grownBy (W.setRow (w.heap.size + 1) (enV y')) (some (w.heap.size + 1)) := gr_row W _ _
  ⟨h.rd.grown hg (fun g e => by injection e with e; subst e; intro hs; have := hs.2; omega), ⟨hg.os.trans h.gr.os, hg.tape.trans h.gr.tape, hg.output.trans h.gr.output, Nat.le_trans h.gr.size hg.size, fun i hi hne => (hg.block i (Nat.lt_of_lt_of_le hi h.gr.size) (fun e => by injection e; omega)).trans (h.gr.block i hi hne)⟩,
   (setRow_ne W _ _ _ (by omega)).trans h.res, setRow_at h.row, hi⟩
theorem EnS.set (h : EnS S w W p l e y) (j : Nat) (u : Value) (y' : En) (hy : (enV y).setIfInBounds j u = enV y') (hi : y'.2.2.length = 32) : EnS S w (W.setCell ⟨w.heap.size + 1, j, none⟩ u) p l e y' :=
  have h1 := h.lt
  have hg : W.grownBy (W.setCell ⟨w.heap.size + 1, j, none⟩ u) (some (w.heap.size + 1)) := gr_set (gr_refl W _) j u
  ⟨h.rd.grown hg (fun g e => by injection e with e; subst e; intro hs; have := hs.2; omega), ⟨hg.os.trans h.gr.os, hg.tape.trans h.gr.tape, hg.output.trans h.gr.output, Nat.le_trans h.gr.size hg.size, fun i hi hne => (hg.block i (Nat.lt_of_lt_of_le hi h.gr.size) (fun e => by injection e; omega)).trans (h.gr.block i hi hne)⟩,
   (hg.block _ (lt_of_cells h.res) (fun e => by injection e; omega)).trans h.res, by rw [set_of_cells h.row, hy], hi⟩
end
set_option maxHeartbeats 8000000 in
set_option maxRecDepth 100000 in
theorem entry_any {w : World} {S : Nat → Prop} {p : Nat} {l : List UInt8} {e : Int} (h : Rd w S p l e) (hl : l.length ≤ 140737488355328) :
    Calls Tryd.prog 50 #[.pointer (some ⟨p, 0, none⟩)] w fun r w' => r = .returned (.agg (enV (enN l e, enD l e, enI l e))) ∧ Rd w' S p (enL3 l e) (enE3 l e) ∧ w.grownBy w' (some p) := by
  have hze := zero_en
  obtain ⟨ZE, hZE⟩ : ∃ ZE, ZE = zeroEn := ⟨_, rfl⟩
  have HZE : Hid (ZE = zeroEn ∧ ZE = enV ([], false, List.replicate 32 0)) := Lib.hid ⟨hZE, by rw [hZE, zeroEn_en]⟩
  have hlt := h.lt
  have H0 : Hid (EnS S w ((w.alloc (.cells ZE 51)).alloc (.cells ZE 51)) p l e ([], false, List.replicate 32 0)) := Lib.hid (by
    have hb : Below w.heap.size w ((w.alloc (.cells ZE 51)).alloc (.cells ZE 51)) := ((Below.refl _ _).alloc (Nat.le_refl _) _).alloc (by simp) _
    have h2 := heap_alloc_new (w.alloc (.cells ZE 51)) (.cells ZE 51)
    have h3 := heap_alloc_new w (.cells ZE 51)
    have hsz : (w.alloc (.cells ZE 51)).heap.size = w.heap.size + 1 := by simp
    rw [hsz] at h2
    refine ⟨(h.mono (T := fun k => S k ∧ k < w.heap.size) fun k hk hs => ⟨hs, hk⟩).below hb, gr_below (gr_refl w _) hb, ?_, ?_, by simp⟩
    · rw [← hZE]
      exact (Below.heap_alloc _ _ _ (by simp)).trans h3
    · rw [HZE.out.2] at h2 ⊢
      exact h2)
  rw [← hZE] at hze
  have HL := Lib.hid hl
  clear hZE h hl
  go_enter Tryd.func50, Tryd.ntmps50
  go_upto_region 2 with fail
  generalize (w.alloc (.cells ZE 51)).alloc (.cells ZE 51) = w2 at *
  generalize hq : w.heap.size = q at *
  have HQ := Lib.hid hq
  clear hq
  have HLT := Lib.hid hlt
  clear hlt
  have hby := bytes_any (most := 255) H0.out.rd HL.out (by omega)
  obtain ⟨K, hK⟩ : ∃ K, K = byB l e 255 := ⟨_, rfl⟩
  obtain ⟨l1, hl1⟩ : ∃ l1, l1 = byL l e 255 := ⟨_, rfl⟩
  obtain ⟨e1, he1⟩ : ∃ e1, e1 = byE l e 255 := ⟨_, rfl⟩
  rw [← hK, ← hl1, ← he1] at hby
  have HE1 : Hid (K = enN l e ∧ l1 = enL1 l e ∧ e1 = enE1 l e) := Lib.hid ⟨hK, hl1, he1⟩
  clear hK hl1 he1
  go_upto_region 3 with (go_at_call 46; refine hby.mono ?_; clear hby; rintro _ w3 ⟨A3, n3, c3, rfl, hy3, hr3, hg3, _⟩; have hcs : (convert 22 9 (.slice A3 n3 c3)).run Tryd.prog w3 = .ok (.string (st K)) w3 := byt_string hy3; have H3 := Lib.hid (H0.out.call hr3 hg3); have hrw := H3.out.row; rw [HQ.out] at hrw; have hc0 := cell_of_cells hrw 0; have hf0 := free_of_cells hrw 0; have hs0 := lt_of_cells hrw; rw [enV_0] at hc0; clear hrw hy3 hr3 hg3)
  have H4 := Lib.hid (H3.out.set 0 (.string (st K)) (K, false, List.replicate 32 0) (enV_set0 _ _) (by simp))
  rw [HQ.out] at H4
  clear hcs hc0 hf0 hs0 H3 H0
  generalize w3.setCell ⟨q + 1, 0, none⟩ (.string (st K)) = w4 at *
  have hbo := bool_any H4.out.rd
  obtain ⟨D, hD⟩ : ∃ D, D = boX l1 e1 := ⟨_, rfl⟩
  obtain ⟨l2, hl2⟩ : ∃ l2, l2 = fxL l1 e1 1 := ⟨_, rfl⟩
  obtain ⟨e2, he2⟩ : ∃ e2, e2 = boE l1 e1 := ⟨_, rfl⟩
  rw [← hD, ← hl2, ← he2] at hbo
  have HE2 : Hid (D = enD l e ∧ l2 = enL2 l e ∧ e2 = enE2 l e) := Lib.hid ⟨by rw [hD, HE1.out.2.1, HE1.out.2.2]; rfl, by rw [hl2, HE1.out.2.1, HE1.out.2.2]; rfl, by rw [he2, HE1.out.2.1, HE1.out.2.2]; rfl⟩
  clear hD hl2 he2
  go_upto_region 4 with (go_at_call 57; refine hbo.mono ?_; clear hbo; rintro _ w5 ⟨rfl, hr5, hg5⟩; have H5 := Lib.hid (H4.out.call hr5 hg5); have hrw := H5.out.row; rw [HQ.out] at hrw; have hc1 := cell_of_cells hrw 1; have hf1 := free_of_cells hrw 1; have hs1 := lt_of_cells hrw; rw [enV_1] at hc1; clear hrw hr5 hg5)
  have H6 := Lib.hid (H5.out.set 1 (.bool D) (K, D, List.replicate 32 0) (enV_set1 _ _) (by simp))
  rw [HQ.out] at H6
  clear hc1 hf1 hs1 H5 H4
  generalize w5.setCell ⟨q + 1, 1, none⟩ (.bool D) = w6 at *
  have hid := id_any H6.out.rd
  obtain ⟨I, hI⟩ : ∃ I, I = idL l2 e2 := ⟨_, rfl⟩
  obtain ⟨IS, hIS⟩ : ∃ IS, IS = idC l2 e2 := ⟨_, rfl⟩
  obtain ⟨l3, hl3⟩ : ∃ l3, l3 = fxL l2 e2 32 := ⟨_, rfl⟩
  obtain ⟨e3, he3⟩ : ∃ e3, e3 = tkE l2 e2 32 := ⟨_, rfl⟩
  rw [← hIS, ← hl3, ← he3] at hid
  have HE3 : Hid (I = enI l e ∧ l3 = enL3 l e ∧ e3 = enE3 l e ∧ I.length = 32) := Lib.hid ⟨by rw [hI, HE2.out.2.1, HE2.out.2.2]; rfl, by rw [hl3, HE2.out.2.1, HE2.out.2.2]; rfl, by rw [he3, HE2.out.2.1, HE2.out.2.2]; rfl, by rw [hI]; exact idL_length _ _⟩
  have HIS : Hid (IS = (u8s I).toArray) := Lib.hid (by rw [hIS, hI]; rfl)
  clear hI hIS hl3 he3
  obtain ⟨EV, hEV⟩ : ∃ EV, EV = enV (K, D, I) := ⟨_, rfl⟩
  have HEV : Hid (EV = enV (K, D, I)) := Lib.hid hEV
  clear hEV
  go_upto_region 5 with (first
    | (go_at_call 48; refine hid.mono ?_; clear hid; rintro _ w7 ⟨rfl, hr7, hg7⟩; have H7 := Lib.hid (H6.out.call hr7 hg7); have hrw : w7.heap[q + 1]? = some (.cells (enV (K, D, List.replicate 32 0)) 51 (0, 0)) := by { have := H7.out.row; rwa [HQ.out] at this }; clear hr7 hg7)
    | (refine wpList_store_part (by rfl) 49 (.tmp 13) (.tmp 12) (by rfl) hrw (u8s I) 2 (by rw [u8s_length, HE3.out.2.2.2, enV_size (by simp)]; decide) (u8s_one I) (by rw [u8s_length, HE3.out.2.2.2]; exact id_info) EV (by rw [HEV.out]; exact enV_setI _ I (by simp) HE3.out.2.2.2) (by rfl) (by rw [← HIS.out]; rfl) ?_))
  have H8 := Lib.hid (H7.out.setRow (K, D, I) HE3.out.2.2.2)
  rw [HQ.out, ← HEV.out] at H8
  clear hrw H7 H6
  generalize w7.setRow (q + 1) EV = w8 at *
  have HRW : Hid (w8.heap[q + 1]? = some (.cells EV 51 (0, 0)) ∧ w8.heap[q]? = some (.cells zeroEn 51 (0, 0)) ∧ EV.size = 34 ∧ EV.all (·.oneCell') = true) := Lib.hid ⟨by have := H8.out.row; rw [HQ.out] at this; rw [HEV.out]; exact this, by have := H8.out.res; rwa [HQ.out] at this, by rw [HEV.out]; exact enV_size HE3.out.2.2.2, by rw [HEV.out]; exact enV_all _⟩
  go_wp2_with (first
    | (refine wpList_load_row (by rfl) 51 (.tmp 3) (by rfl) (q + 1) (by rfl) 51 EV (0, 0) _ HRW.out.1 Tryd.underlying51 (by rfl) (by rw [HRW.out.2.2.1]; exact en_info) ?_)
    | (refine wpList_store_row (by rfl) 51 (.tmp 2) (.tmp 14) (by rfl) q EV (by rfl) (by rfl) 51 _ HRW.out.2.1 (by rw [HRW.out.2.2.1]; exact en_info) (by rw [HRW.out.2.2.1, zeroEn_en, enV_size (by simp)]) HRW.out.2.2.2 ?_))
  have hrf : (w8.setRow q EV).heap[q]? = some (.cells EV 51 (0, 0)) := setRow_at HRW.out.2.1
  have hg : w8.grownBy (w8.setRow q EV) (some q) := gr_row w8 _ _
  refine bodyPost_ret (results_ca rfl _ _ ⟨q, 0, none⟩ (.agg EV) rfl (run_loadVar_row _ _ _ _ _ _ _ hrf Tryd.underlying51 rfl (by rw [HRW.out.2.2.1]; exact en_info))) rfl ⟨?_, ?_, ?_⟩
  · rw [HEV.out, HE1.out.1, HE2.out.1, HE3.out.1]
  · rw [← HE3.out.2.1, ← HE3.out.2.2.1]
    exact (H8.out.rd.grown hg fun g e => by injection e with e; subst e; intro hs; have := hs.2; have := HQ.out; omega).mono fun _ _ h => h.1
  · have h1 := H8.out.gr
    exact ⟨hg.os.trans h1.os, hg.tape.trans h1.tape, hg.output.trans h1.output, Nat.le_trans h1.size hg.size, fun i hi hne => (hg.block i (Nat.lt_of_lt_of_le hi h1.size) (fun e => by injection e with e; have := HQ.out; omega)).trans (h1.block i hi hne)⟩
end Go.Proofs.YtmakpjcgiiljfaaDoor

/-! Objects: a slice literal of one entry; rows of the call's own where one other block turns. -/
namespace Go.Proofs.YtmakpjcgiiljfaaDoor
open Go.RowKit Codec

theorem own_grown {w w' : World} {B : Nat} {e : TypeId} {size : Nat} {v : Value} {n : Nat} {xs : List Value} {p : Nat} (h : w.ownsRow B e size v n xs) (hg : w.grownBy w' (some p)) (hp : p < B) : w'.ownsRow B e size v n xs := by
  obtain ⟨e1, e2⟩ := h
  refine ⟨e1, ?_⟩
  rcases e2 with e2 | ⟨g, cap, cur, rfl, e3, e4, e5⟩
  · exact .inl e2
  · exact .inr ⟨g, cap, cur, rfl, e3, (hg.block g (lt_of_cells e4) (fun e => by injection e; omega)).trans e4, e5⟩
set_option maxRecDepth 100000 in
theorem fill_en {y : En} (hl : y.2.2.length = 32) : Instr.fill (fun i => some (i * 34, 34)) zeroEn [(0, .agg (enV y))] = some (enV y) := by
  obtain ⟨n, d, i⟩ := y
  obtain ⟨a0, a1, a2, a3, a4, a5, a6, a7, a8, a9, b0, b1, b2, b3, b4, b5, b6, b7, b8, b9, c0, c1, c2, c3, c4, c5, c6, c7, c8, c9, d0, d1, hi⟩ := list32' hl
  simp only at hi
  subst hi
  unfold enV zeroEn row8 u8s
  kernel_rfl
theorem made_en : madeCells (Value.agg zeroEn).cells (1 * 34) = zeroEn := by
  have hz : (Value.agg zeroEn).cells = zeroEn := rfl
  have hs : zeroEn.size = 34 := by rw [zeroEn_en]; exact enV_size (by simp)
  rw [hz]
  apply Array.toList_inj.1
  apply List.ext_getElem
  · simp [madeCells, hs]
  · intro i h1 h2
    have : i < 34 := by rw [Array.length_toList, hs] at h2; exact h2
    simp [madeCells, hs, Nat.mod_eq_of_lt this]
    rw [getElem!_pos zeroEn i (by rw [hs]; exact this)]
/-- []T{x}, of one entry. -/
theorem run_ens_lit {e t : TypeId} (hi3 : (Tryd.prog.info? e).map (fun i => (i.zero, i.size, i.bytes)) = some (some (.agg zeroEn), 34, 56)) (ht : Tryd.prog.underlying t = some (.slice e)) (w : World) (XS : Array Value) {y : En} (h : XS = enV y) (hl : y.2.2.length = 32) :
    (Instr.buildSlice t 1 #[(0, .agg XS)]).run Tryd.prog w = .ok (.slice (some ⟨w.heap.size, 0, none⟩) 1 1) (w.alloc (.cells XS e)) := by
  obtain ⟨i0, hi, hz0, hz1, _⟩ := info_parts hi3
  have hm := made_en
  unfold madeCells at hm
  subst h
  refine run_buildSlice w t e 1 #[(0, .agg (enV y))] (enV y) i0 (.agg zeroEn) ht hi hz0 (by rw [hz1]; omega) (by rw [hz1]; omega) ?_
  rw [hz1, hm]
  exact fill_en hl
theorem wpList_lit1 {P : Program} {ops : Array Oper} {rest : List Oper} {o : Oper} {a : Act} {Q : Exit → Act → World → Prop} {w w' : World} (hgd : o.guard = none) (t : TypeId) (x : Operand) (hop : o.op = .buildSlice t 1 #[(0, x)]) {u v' : Value} (hx : a.eval x = u)
    (hrun : (Instr.buildSlice t 1 #[(0, u)]).run P w = .ok v' w') (h : wpList P ops Q rest (a.put o.dst v') w') : wpList P ops Q (o :: rest) a w :=
  wpList_plain hgd fun _ hK => by
    unfold Oper.wp execOp
    simp only [hop, Sem.run_bind, Sem.run_pure, Result.andThen_ok, List.map_toArray, List.map_cons, List.map_nil, hx, hrun]
    exact hK _ _ h
end Go.Proofs.YtmakpjcgiiljfaaDoor
