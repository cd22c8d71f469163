/-
  The document's answers for the reader, by value: End, Fixed, Bytes, Bool.
  The document's reading of a number, by value.
  The document's reading of a row with its length, by value.
  The reference's Get.
  The reference's Same.
  Files, pure: what is got, put again, is the bytes.
  The law FilesGets.
  The statement FilesGets, proved: for every slice of bytes the law returns true. No condition but that utf8's two tables hold what the program's text lays (the card ties it; no walk reads them).
-/
import Derived.Test.YtpcoiakdbfihlaaDoorPkChecks03
import Derived.Test.YtpcoiakdbfihlaaDoorPk10
import Derived.Lib.Strings
import Derived.Test.YtpcoiakdbfihlaaDoorPk09
import Derived.BigQuiet
import Derived.Test.YtpcoiakdbfihlaaDoorPkChecks01
import Derived.Test.YtpcoiakdbfihlaaDoorPkChecks04
import Derived.Test.YtpcoiakdbfihlaaDoorPk11
import Derived.Test.YtpcoiakdbfihlaaDoorCards
import Derived.Test.YtpcoiakdbfihlaaDoorTie
import Derived.SevenTiedAt
/-! The document's answers for the reader, by value: End, Fixed, Bytes, Bool. -/
namespace Go.Proofs.YtpcoiakdbfihlaaDoor
open Go.RowKit Codec

/-- A reader by value. -/
def RV (l : List UInt8) (e : Int) : Value := .agg #[.string (strB l), .int .i64 e]
theorem strB_empty (l : List UInt8) : (strB l).toList.isEmpty = l.isEmpty := by rw [strB, ByteArray.toList_mk]
theorem strB_to (l : List UInt8) (k : Nat) : (strB l).extract 0 k = strB (l.take k) := by
  apply ByteArray.ext; apply Array.toList_inj.1
  rw [Lib.extract_data]; simp [strB]
theorem strB_from (l : List UInt8) (k : Nat) : (strB l).extract k (strB l).size = strB (l.drop k) := by
  apply ByteArray.ext; apply Array.toList_inj.1
  rw [Lib.extract_data, strB_size, List.take_of_length_le (by simp [strB])]; simp [strB]
theorem below2 (w : World) (o1 o2 : Obj) : Below w.heap.size w ((w.alloc o1).alloc o2) := ((Below.refl _ _).alloc (Nat.le_refl _) _).alloc (by simp) _
theorem endE_bad {l : List UInt8} {e : Int} (h : ¬ e = 0) : endE l e = e := by unfold endE; rw [if_pos h]

set_option maxHeartbeats 1000000 in
theorem ref_end (l : List UInt8) (e : Int) (w : World) : Calls Tryd.prog 46 #[RV l e] w fun r w' => r = .returned (.int .i64 (endE l e)) ∧ Below w.heap.size w w' := by
  have b1 := fun o => (Below.refl w.heap.size w).alloc (Nat.le_refl _) o
  by_cases he : e = 0
  · subst he
    cases l with
    | nil =>
      rw [show endE [] 0 = 0 from rfl]
      unfold RV
      have hE : (strB []).toList.isEmpty = true := strB_empty []
      go_enter Tryd.func46, Tryd.ntmps46
      go_wp2_with fail
      go_ret
      exact ⟨rfl, b1 _⟩
    | cons c t =>
      rw [show endE (c :: t) 0 = 12 by simp [endE]]
      unfold RV
      have hE : (strB (c :: t)).toList.isEmpty = false := strB_empty (c :: t)
      go_enter Tryd.func46, Tryd.ntmps46
      go_wp2_with fail
      go_ret
      exact ⟨rfl, b1 _⟩
  · rw [endE_bad he]
    have he' : (e != 0) = true := by simpa using he
    unfold RV
    clear he
    go_enter Tryd.func46, Tryd.ntmps46
    go_wp2_with fail
    go_ret
    exact ⟨rfl, b1 _⟩

set_option maxHeartbeats 1000000 in
theorem ref_fixed (l : List UInt8) (e k : Int) (w : World) : Calls Tryd.prog 55 #[RV l e, .int .i64 k] w fun r w' => r = .returned (.tuple #[RV (fxL l e k) (tkE l e k), .string (strB (fxB l e k))]) ∧ Below w.heap.size w w' := by
  have b2 := below2 w
  by_cases he : e = 0
  · subst he
    by_cases hk : k < 0
    · have e1 : tkE l 0 k = 1 := by unfold tkE; rw [if_neg (by simp), if_pos hk]
      have e2 : fxL l 0 k = l := by unfold fxL; rw [e1]; rfl
      have e3 : fxB l 0 k = [] := by unfold fxB; rw [e1]; rfl
      rw [e1, e2, e3]
      unfold RV
      clear e1 e2 e3
      go_enter Tryd.func55, Tryd.ntmps55
      go_wp2_with fail
      refine bodyPost_ret (v := .tuple #[.agg #[.string (strB l), .int .i64 1], .string (strB [])]) (by simp [results, Tryd.results55, go_sem]; rfl) rfl ⟨rfl, b2 _ _⟩
    · by_cases hl : (l.length : Int) < k
      · have e1 : tkE l 0 k = 10 := by unfold tkE; rw [if_neg (by simp), if_neg hk, if_pos hl]
        have e2 : fxL l 0 k = l := by unfold fxL; rw [e1]; rfl
        have e3 : fxB l 0 k = [] := by unfold fxB; rw [e1]; rfl
        rw [e1, e2, e3]
        unfold RV
        have hl' : ((strB l).size : Int) < k := by rw [strB_size]; exact hl
        clear e1 e2 e3 hl
        go_enter Tryd.func55, Tryd.ntmps55
        go_wp2_with fail
        refine bodyPost_ret (v := .tuple #[.agg #[.string (strB l), .int .i64 10], .string (strB [])]) (by simp [results, Tryd.results55, go_sem]; rfl) rfl ⟨rfl, b2 _ _⟩
      · have e1 : tkE l 0 k = 0 := by unfold tkE; rw [if_neg (by simp), if_neg hk, if_neg hl]
        have e2 : fxL l 0 k = l.drop k.toNat := by unfold fxL; rw [if_pos e1]
        have e3 : fxB l 0 k = l.take k.toNat := by unfold fxB; rw [if_pos e1]
        rw [e1, e2, e3]
        unfold RV
        have hl' : k ≤ ((strB l).size : Int) := by rw [strB_size]; omega
        have E1 := Lib.hid (strB_to l k.toNat)
        have E2 := Lib.hid (strB_from l k.toNat)
        clear e1 e2 e3 hl
        go_enter Tryd.func55, Tryd.ntmps55
        go_wp2_with fail
        rw [E1.out, E2.out]
        refine bodyPost_ret (v := .tuple #[.agg #[.string (strB (l.drop k.toNat)), .int .i64 0], .string (strB (l.take k.toNat))]) (by simp [results, Tryd.results55, go_sem]) rfl ⟨rfl, b2 _ _⟩
  · have e1 : tkE l e k = e := by unfold tkE; rw [if_pos he]
    have e2 : fxL l e k = l := by unfold fxL; rw [e1, if_neg he]
    have e3 : fxB l e k = [] := by unfold fxB; rw [e1, if_neg he]
    rw [e1, e2, e3]
    have he' : (e != 0) = true := by simpa using he
    unfold RV
    clear he e1 e2 e3
    go_enter Tryd.func55, Tryd.ntmps55
    go_wp2_with fail
    refine bodyPost_ret (v := .tuple #[.agg #[.string (strB l), .int .i64 e], .string (strB [])]) (by simp [results, Tryd.results55, go_sem]; rfl) rfl ⟨rfl, b2 _ _⟩
end Go.Proofs.YtpcoiakdbfihlaaDoor

/-! The document's reading of a number, by value. -/
namespace Go.Proofs.YtpcoiakdbfihlaaDoor
open Go.RowKit Codec

theorem strB_head (d : UInt8) (t : List UInt8) (h : 0 < (strB (d :: t)).size) : (strB (d :: t))[0] = d := rfl
theorem pow_small {k : Nat} (hk : k ≤ 9) : 128 ^ k ≤ 9223372036854775808 := by
  have h := Nat.pow_le_pow_right (show 0 < 128 by omega) hk
  simpa using h
theorem u64_in {z : Int} (h0 : 0 ≤ z) (h1 : z < 18446744073709551616) : IntKind.u64.wrap z = z := by unfold IntKind.wrap; simp [IntKind.signed, IntKind.bits]; omega
theorem wrap_mul {k X d : Nat} (hX : X < 128 ^ k) (hk : k ≤ 9) (h9 : k = 9 → d % 128 ≤ 1) : IntKind.u64.wrap ((X : Int) + IntKind.u64.wrap (128 ^ k * ((d : Int) % 128))) = ((X + d % 128 * 128 ^ k : Nat) : Int) := by
  have hs := n_small (c := d % 128) hX hk (by omega) h9
  have e : (128 : Int) ^ k * ((d : Int) % 128) = ((d % 128 * 128 ^ k : Nat) : Int) := by
    rw [Nat.mul_comm]; push_cast; rfl
  rw [e, u64_in (Int.natCast_nonneg _) (by omega), u64_in (by omega) (by omega)]
  push_cast; rfl
theorem wrap_pow {k : Nat} (hk : k < 9) : IntKind.u64.wrap ((128 : Int) ^ k * 128) = ((128 ^ (k + 1) : Nat) : Int) := by
  have h := pow_small (k := k + 1) (by omega)
  have e : (128 : Int) ^ k * 128 = ((128 ^ (k + 1) : Nat) : Int) := by rw [Nat.pow_succ]; push_cast; rfl
  rw [e, u64_in (Int.natCast_nonneg _) (by omega)]

set_option maxHeartbeats 2000000 in
set_option maxRecDepth 100000 in
theorem ref_uint0 (l : List UInt8) (w : World) : Calls Tryd.prog 44 #[RV l 0] w fun r w' => ∃ m : List UInt8, r = .returned (.tuple #[RV m (rd 0 l).2.2, .int .u64 (rd 0 l).1]) ∧ ((rd 0 l).2.2 = 0 → m = l.drop (rd 0 l).2.1) ∧ Below w.heap.size w w' := by
  have b2 := below2 w
  unfold RV
  go_enter Tryd.func44, Tryd.ntmps44
  go_wp2_with fail
  go_loopw [4, 5, 6, 7] (fun x m i c wr => ∃ (k X : Nat), k ≤ 9 ∧ i = .int .i64 k ∧ m = .int .u64 ((128 ^ k : Nat) : Int) ∧ x = .int .u64 X ∧ X < 128 ^ k ∧ Hid (rd 0 l = comb k X (rd k (l.drop k))) ∧
    wr = (w.alloc (.cells #[.string (strB (l.drop k)), .int .i64 0] 76)).alloc (.cells #[.string ByteArray.empty, .int .i64 0] 76)) (fun _ _ i _ _ => 10 - (intOf i).toNat)
  case atStart => exact ⟨0, 0, by omega, rfl, rfl, rfl, by simp, by rw [List.drop_zero, comb_zero _ (rd_err 0 l)]; exact rfl, rfl⟩
  case round =>
    obtain ⟨k, X, hk9, rfl, rfl, rfl, hX, HD, rfl⟩ := hrel
    generalize hR : l.drop k = R at *
    cases R with
    | nil =>
      have hE : (strB []).toList.isEmpty = true := strB_empty []
      have E : rd 0 l = (0, 0, 10) := by rw [HD.out]; rfl
      clear HD
      have HE := Lib.hid E
      clear E
      go_wp2_with fail
      refine bodyPost_ret (v := .tuple #[.agg #[.string (strB []), .int .i64 10], .int .u64 0]) (by simp [results, Tryd.results44, go_sem]) rfl ⟨[], ?_, ?_, b2 _ _⟩
      · rw [HE.out]; rfl
      · rw [HE.out]; intro h; cases h
    | cons d t =>
      have hE : (strB (d :: t)).toList.isEmpty = false := strB_empty (d :: t)
      have hsz : (strB (d :: t)).size = t.length + 1 := by rw [strB_size]; rfl
      have hd0 := strB_head d t
      have EX := Lib.hid (strB_from (d :: t) 1)
      have ht : l.drop (k + 1) = t := by rw [← List.drop_drop, hR]; rfl
      have HT := Lib.hid ht
      have HX := Lib.hid hX
      have hu := d.toNat_lt
      clear hR ht hX
      rw [hsz] at EX
      go_wp2_with fail
      · have h9 : (k : Int) = 9 := by assumption
        have h1 : 1 < (d.toNat : Int) ∨ ((d.toNat : Int) == 0) = true := by assumption
        simp only [beq_iff_eq] at h1
        have E := n_bad HD.out (by omega)
        rw [EX.out]
        refine bodyPost_ret (v := .tuple #[.agg #[.string (strB t), .int .i64 11], .int .u64 0]) (by simp [results, Tryd.results44, go_sem]) rfl ⟨t, ?_, ?_, b2 _ _⟩
        · rw [E]; rfl
        · rw [E]; intro h; cases h
      · have h9 : (k : Int) = 9 := by assumption
        have h1 : (d.toNat : Int) ≤ 1 ∧ ((d.toNat : Int) == 0) = false := by assumption
        have := WalkArith.int_ne h1.2
        have E := n_end HD.out (by omega) (by omega)
        have W := wrap_mul (d := d.toNat) HX.out hk9 (by omega)
        rw [EX.out, W]
        refine bodyPost_ret (v := .tuple #[.agg #[.string (strB t), .int .i64 0], .int .u64 ((X + d.toNat % 128 * 128 ^ k : Nat) : Int)]) (by simp [results, Tryd.results44, go_sem]) rfl ⟨t, ?_, ?_, b2 _ _⟩
        · rw [E, Nat.mod_eq_of_lt (by omega)]; rfl
        · rw [E]; intro _; exact HT.out.symm
      · have h9 : (k : Int) = 9 := by assumption
        have h1 : 1 < (d.toNat : Int) := by assumption
        have E := n_bad HD.out (by omega)
        rw [EX.out]
        refine bodyPost_ret (v := .tuple #[.agg #[.string (strB t), .int .i64 11], .int .u64 0]) (by simp [results, Tryd.results44, go_sem]) rfl ⟨t, ?_, ?_, b2 _ _⟩
        · rw [E]; rfl
        · rw [E]; intro h; cases h
      · have hp : 0 < k := by assumption
        have h0 : ((d.toNat : Int) == 0) = true := by assumption
        have := WalkArith.int_eq h0
        have E := n_bad HD.out (by omega)
        rw [EX.out]
        refine bodyPost_ret (v := .tuple #[.agg #[.string (strB t), .int .i64 11], .int .u64 0]) (by simp [results, Tryd.results44, go_sem]) rfl ⟨t, ?_, ?_, b2 _ _⟩
        · rw [E]; rfl
        · rw [E]; intro h; cases h
      · have h9 : ¬ (k : Int) = 9 := by assumption
        have h0 : ((d.toNat : Int) == 0) = false := by assumption
        have hs : (d.toNat : Int) < 128 := by assumption
        have := WalkArith.int_ne h0
        have E := n_end HD.out (by omega) (by omega)
        have W := wrap_mul (d := d.toNat) HX.out hk9 (by omega)
        rw [EX.out, W]
        refine bodyPost_ret (v := .tuple #[.agg #[.string (strB t), .int .i64 0], .int .u64 ((X + d.toNat % 128 * 128 ^ k : Nat) : Int)]) (by simp [results, Tryd.results44, go_sem]) rfl ⟨t, ?_, ?_, b2 _ _⟩
        · rw [E, Nat.mod_eq_of_lt (by omega)]; rfl
        · rw [E]; intro _; exact HT.out.symm
      · have h9 : ¬ (k : Int) = 9 := by assumption
        have hs : 128 ≤ (d.toNat : Int) := by assumption
        have E := HD.out
        rw [comb_step (by omega) (by omega)] at E
        have W := wrap_mul (d := d.toNat) HX.out hk9 (by omega)
        have W2 := wrap_pow (k := k) (by omega)
        have hX2 := n_next (c := d.toNat % 128) HX.out (by omega)
        go_roundw
        case rel => exact ⟨k + 1, _, by omega, by go_num, by rw [W2], by rw [W], hX2, by rw [HT.out, show d.toNat % 128 = d.toNat - 128 by omega]; exact E, by rw [EX.out, HT.out]; rfl⟩
        case measure => simp [intOf]; omega
      · have h9 : ¬ (k : Int) = 9 := by assumption
        have hp : ¬ 0 < k := by assumption
        have hs : (d.toNat : Int) < 128 := by assumption
        have E := n_end HD.out (by omega) (by omega)
        have W := wrap_mul (d := d.toNat) HX.out hk9 (by omega)
        rw [EX.out, W]
        refine bodyPost_ret (v := .tuple #[.agg #[.string (strB t), .int .i64 0], .int .u64 ((X + d.toNat % 128 * 128 ^ k : Nat) : Int)]) (by simp [results, Tryd.results44, go_sem]) rfl ⟨t, ?_, ?_, b2 _ _⟩
        · rw [E, Nat.mod_eq_of_lt (by omega)]; rfl
        · rw [E]; intro _; exact HT.out.symm
      · have h9 : ¬ (k : Int) = 9 := by assumption
        have hs : 128 ≤ (d.toNat : Int) := by assumption
        have E := HD.out
        rw [comb_step (by omega) (by omega)] at E
        have W := wrap_mul (d := d.toNat) HX.out hk9 (by omega)
        have W2 := wrap_pow (k := k) (by omega)
        have hX2 := n_next (c := d.toNat % 128) HX.out (by omega)
        go_roundw
        case rel => exact ⟨k + 1, _, by omega, by go_num, by rw [W2], by rw [W], hX2, by rw [HT.out, show d.toNat % 128 = d.toNat - 128 by omega]; exact E, by rw [EX.out, HT.out]; rfl⟩
        case measure => simp [intOf]; omega

/-- The post of a reading by value: a reader with error e, that has l left where e is none; the value v. -/
def RGot (w : World) (e : Int) (l : List UInt8) (v : Value) (r : Ending) (w' : World) : Prop := ∃ m : List UInt8, r = .returned (.tuple #[RV m e, v]) ∧ (e = 0 → m = l) ∧ Below w.heap.size w w'

set_option maxHeartbeats 1000000 in
theorem ref_uint (l : List UInt8) (e : Int) (w : World) : Calls Tryd.prog 44 #[RV l e] w (RGot w (uiE l e) (uiL l e) (.int .u64 (uiX l e))) := by
  by_cases he : e = 0
  · subst he
    refine (ref_uint0 l w).mono ?_
    rintro _ w1 ⟨m, rfl, h1, h2⟩
    unfold uiE uiX uiL
    rw [if_pos rfl, if_pos rfl, if_pos rfl]
    exact ⟨m, rfl, fun h => h1 (by omega), h2⟩
  · have e1 : uiE l e = e := by unfold uiE; rw [if_neg he]
    have e2 : uiX l e = 0 := by unfold uiX; rw [if_neg he]
    rw [e1, e2]
    have b2 := below2 w
    have HE := Lib.hid he
    have he' : (e != 0) = true := by simpa using he
    unfold RV
    clear he e1 e2
    go_enter Tryd.func44, Tryd.ntmps44
    go_wp2_with fail
    refine bodyPost_ret (v := .tuple #[.agg #[.string (strB l), .int .i64 e], .int .u64 0]) (by simp [results, Tryd.results44, go_sem]) rfl ⟨l, rfl, fun h => absurd h HE.out, b2 _ _⟩
end Go.Proofs.YtpcoiakdbfihlaaDoor

/-! The document's reading of a row with its length, by value. -/
namespace Go.Proofs.YtpcoiakdbfihlaaDoor
open Go.RowKit Codec

/-- Two variables of readers that a call has made, in a later world. -/
theorem two_kept {w w1 : World} {a b c d : Value} {t : TypeId} (h : Below ((w.alloc (.cells #[a, b] t)).alloc (.cells #[c, d] t)).heap.size ((w.alloc (.cells #[a, b] t)).alloc (.cells #[c, d] t)) w1) :
    (w1.cell? ⟨w.heap.size, 0, none⟩ = some a ∧ w1.cell? ⟨w.heap.size, 1, none⟩ = some b ∧ w1.cell? ⟨w.heap.size + 1, 0, none⟩ = some c ∧ w1.cell? ⟨w.heap.size + 1, 1, none⟩ = some d) ∧
    (w1.frozen? ⟨w.heap.size, 0, none⟩ = false ∧ w1.frozen? ⟨w.heap.size, 1, none⟩ = false ∧ w1.frozen? ⟨w.heap.size + 1, 0, none⟩ = false ∧ w1.frozen? ⟨w.heap.size + 1, 1, none⟩ = false) ∧ Below w.heap.size w w1 := by
  have h2 : ((w.alloc (.cells #[a, b] t)).alloc (.cells #[c, d] t)).heap[w.heap.size + 1]? = some (.cells #[c, d] t (0, 0)) := by
    have := heap_alloc_new (w.alloc (.cells #[a, b] t)) (.cells #[c, d] t)
    simpa using this
  have h1 : ((w.alloc (.cells #[a, b] t)).alloc (.cells #[c, d] t)).heap[w.heap.size]? = some (.cells #[a, b] t (0, 0)) := by
    have := heap_alloc_new w (.cells #[a, b] t)
    rw [((Below.refl _ (w.alloc (.cells #[a, b] t))).alloc (Nat.le_refl _) (.cells #[c, d] t)).block w.heap.size (by simp)]
    exact this
  have k1 := (h.block w.heap.size (by simp; omega)).trans h1
  have k2 := (h.block (w.heap.size + 1) (by simp)).trans h2
  refine ⟨⟨?_, ?_, ?_, ?_⟩, ⟨?_, ?_, ?_, ?_⟩, (below2 w _ _).trans (h.mono (by simp; omega))⟩
  · rw [cell_of_cells k1]; rfl
  · rw [cell_of_cells k1]; rfl
  · rw [cell_of_cells k2]; rfl
  · rw [cell_of_cells k2]; rfl
  all_goals (simp [World.frozen?, k1, k2])

/-- What is written last stands there. -/
theorem set_set (w : World) (a : Addr) (u v : Value) : (w.setCell a u).setCell a v = w.setCell a v := by
  unfold World.setCell
  congr 1
  apply Array.ext_getElem?
  intro i
  simp only [Array.getElem?_modify]
  split
  · cases w.heap[i]? with
    | none => rfl
    | some o =>
      cases o with
      | cells c e f => by_cases h : a.spot.isSome <;> simp [h]
      | _ => rfl
  · rfl

theorem later {w1 w2 : World} {g g' : Nat} {u v : Value} (hne : g' ≠ g) (hlt : g' < w1.heap.size) (h : Below ((w1.setCell ⟨g, 0, none⟩ u).setCell ⟨g, 1, none⟩ v).heap.size ((w1.setCell ⟨g, 0, none⟩ u).setCell ⟨g, 1, none⟩ v) w2) (o : Nat) :
    w2.cell? ⟨g', o, none⟩ = w1.cell? ⟨g', o, none⟩ ∧ w2.frozen? ⟨g', o, none⟩ = w1.frozen? ⟨g', o, none⟩ := by
  have e : w2.heap[g']? = w1.heap[g']? := (h.block g' (by simp [World.setCell]; exact hlt)).trans ((Below.heap_setCell _ _ _ _ hne).trans (Below.heap_setCell _ _ _ _ hne))
  exact ⟨World.cell?_of_block (w := w1) (a := ⟨g', o, none⟩) e, by simp [World.frozen?, e]⟩
theorem below_four {w w1 : World} (h : Below w.heap.size w w1) (u1 u2 u3 u4 : Value) : Below w.heap.size w ((((w1.setCell ⟨w.heap.size, 0, none⟩ u1).setCell ⟨w.heap.size, 1, none⟩ u2).setCell ⟨w.heap.size + 1, 0, none⟩ u3).setCell ⟨w.heap.size + 1, 1, none⟩ u4) :=
  (((h.setCell (p := ⟨w.heap.size, 0, none⟩) (Nat.le_refl _) u1).setCell (p := ⟨w.heap.size, 1, none⟩) (Nat.le_refl _) u2).setCell (p := ⟨w.heap.size + 1, 0, none⟩) (Nat.le_succ _) u3).setCell (p := ⟨w.heap.size + 1, 1, none⟩) (Nat.le_succ _) u4

set_option maxHeartbeats 1000000 in
theorem ref_bytes (l : List UInt8) (e most : Int) (w : World) (hm : (Lit.int .i64 most).wf = true) : Calls Tryd.prog 45 #[RV l e, .int .i64 most] w (RGot w (byE l e most) (byL l e most) (.string (strB (byB l e most)))) := by
  have hu := fun w => ref_uint l e w
  unfold byE byB byL
  generalize uiE l e = e1 at *
  generalize hx : uiX l e = x at *
  have hx2 : x < 18446744073709551616 := by rw [← hx]; exact uiX_lt l e
  generalize uiL l e = l1 at *
  have hmb := bounds_i64 hm
  clear hx hm
  unfold RV at *
  by_cases he : e1 = 0
  · subst he
    have hz : ¬ ((0 : Int) ≠ 0) := by simp
    rw [if_neg hz, if_neg hz, if_neg hz]
    clear hz
    by_cases hb : most < 0 ∨ most < (x : Int)
    · rw [if_pos hb, if_pos hb, if_pos hb]
      go_enter Tryd.func45, Tryd.ntmps45
      go_wp2_with fail
      refine (hu _).mono ?_
      rintro _ w1 ⟨m, rfl, h1, h2⟩
      unfold RV
      obtain ⟨⟨c1, c2, c3, c4⟩, ⟨f1, f2, f3, f4⟩, hb1⟩ := two_kept h2
      have hbs := below_four hb1
      have hss := set_set
      clear h1 h2 hu
      go_wp2_with fail
      all_goals (refine bodyPost_ret (v := .tuple #[.agg #[.string (strB m), .int .i64 13], .string (strB [])]) (by simp [results, Tryd.results45, go_sem, c3, c4]; rfl) rfl ⟨m, rfl, (fun h => by cases h), hbs _ _ _ _⟩)
    · rw [if_neg hb, if_neg hb, if_neg hb]
      have hb1 : 0 ≤ most := by omega
      have hb2 : (x : Int) ≤ most := by omega
      clear hb
      go_enter Tryd.func45, Tryd.ntmps45
      go_wp2_with fail
      refine (hu _).mono ?_
      rintro _ w1 ⟨m, rfl, h1, h2⟩
      unfold RV
      obtain ⟨⟨c1, c2, c3, c4⟩, ⟨f1, f2, f3, f4⟩, hb1⟩ := two_kept h2
      have hsz : w.heap.size + 1 < w1.heap.size := by have := h2.size; simp at this; omega
      obtain rfl : m = l1 := h1 rfl
      have hbs := below_four hb1
      have hss := set_set
      have HB1 := Lib.hid hb1
      have HSZ := Lib.hid hsz
      clear h1 h2 hu hb1 hsz
      go_wp2_with fail
      refine (ref_fixed m 0 x _).mono ?_
      rintro _ w2 ⟨rfl, hb3⟩
      unfold RV
      obtain ⟨a1, a2⟩ := later (g' := w.heap.size + 1) (by omega) HSZ.out hb3 0
      obtain ⟨a3, a4⟩ := later (g' := w.heap.size + 1) (by omega) HSZ.out hb3 1
      rw [c3] at a1
      rw [f3] at a2
      rw [c4] at a3
      rw [f4] at a4
      have hb4 := ((HB1.out.setCell (p := ⟨w.heap.size, 0, none⟩) (Nat.le_refl _) (.string (strB m))).setCell (p := ⟨w.heap.size, 1, none⟩) (Nat.le_refl _) (.int .i64 0))
      have hb5 := hb4.trans (hb3.mono hb4.size)
      have hbt := fun u v => (hb5.setCell (p := ⟨w.heap.size + 1, 0, none⟩) (Nat.le_succ _) u).setCell (p := ⟨w.heap.size + 1, 1, none⟩) (Nat.le_succ _) v
      generalize fxL m 0 x = m2 at *
      generalize tkE m 0 x = e2 at *
      clear hbs hb3 hb4 hb5 c1 c2 c3 c4 f1 f2 f3 f4
      go_wp2_with fail
      refine bodyPost_ret (v := .tuple #[.agg #[.string (strB m2), .int .i64 e2], .string (strB (fxB m 0 x))]) (by simp [results, Tryd.results45, go_sem, a1, a3]) rfl ⟨m2, rfl, fun _ => rfl, hbt _ _⟩
  · have HE := Lib.hid he
    rw [if_pos he, if_pos he, if_pos he]
    have he' : (e1 != 0) = true := by simpa using he
    clear he
    go_enter Tryd.func45, Tryd.ntmps45
    go_wp2_with fail
    refine (hu _).mono ?_
    rintro _ w1 ⟨m, rfl, h1, h2⟩
    unfold RV
    obtain ⟨⟨c1, c2, c3, c4⟩, ⟨f1, f2, f3, f4⟩, hb1⟩ := two_kept h2
    have hbs := below_four hb1
    have hss := set_set
    clear h1 h2 hu
    go_wp2_with fail
    refine bodyPost_ret (v := .tuple #[.agg #[.string (strB m), .int .i64 e1], .string (strB [])]) (by simp [results, Tryd.results45, go_sem, c3, c4]; rfl) rfl ⟨m, rfl, fun h => absurd h HE.out, hbs _ _ _ _⟩
end Go.Proofs.YtpcoiakdbfihlaaDoor

/-! The reference's Get. -/
namespace Go.Proofs.YtpcoiakdbfihlaaDoor
open Go.RowKit Codec

theorem galike_ui {l m : List UInt8} {e : Int} (h : e = 0 → m = l) : uiX m e = uiX l e ∧ uiE m e = uiE l e ∧ (uiE l e = 0 → uiL m e = uiL l e) := by
  by_cases he : e = 0
  · rw [h he]; exact ⟨rfl, rfl, fun _ => rfl⟩
  · unfold uiX uiE uiL
    simp only [if_neg he]
    exact ⟨trivial, trivial, fun h => absurd h he⟩
theorem galike_fx {l m : List UInt8} {e : Int} (k : Int) (h : e = 0 → m = l) : fxB m e k = fxB l e k ∧ tkE m e k = tkE l e k ∧ (tkE l e k = 0 → fxL m e k = fxL l e k) := by
  by_cases he : e = 0
  · rw [h he]; exact ⟨rfl, rfl, fun _ => rfl⟩
  · have t : ∀ x, tkE x e k = e := fun x => by unfold tkE; rw [if_pos he]
    unfold fxB
    rw [t, t, if_neg he, if_neg he]
    exact ⟨rfl, rfl, fun h => absurd h he⟩
theorem galike_by {l m : List UInt8} {e : Int} (k : Int) (h : e = 0 → m = l) : byB m e k = byB l e k ∧ byE m e k = byE l e k ∧ (byE l e k = 0 → byL m e k = byL l e k) := by
  by_cases he : e = 0
  · rw [h he]; exact ⟨rfl, rfl, fun _ => rfl⟩
  · have t : ∀ x, uiE x e = e := fun x => by unfold uiE; rw [if_neg he]
    have tb : ∀ x, byB x e k = [] := fun x => by unfold byB; rw [t, if_pos he]
    have te : ∀ x, byE x e k = e := fun x => by unfold byE; rw [t, if_pos he]
    rw [tb, tb, te, te]
    exact ⟨rfl, rfl, fun h => absurd h he⟩
theorem r_info : (Tryd.prog.info? 76).map (·.size) = some 2 := by kernel_rfl
theorem fm_info : (Tryd.prog.info? 54).map (·.size) = some 2 := by kernel_rfl
def rvC (m : List UInt8) (e : Int) : Array Value := #[.string (strB m), .int .i64 e]
theorem rvC_one (m : List UInt8) (e : Int) : (rvC m e).all (·.oneCell') = true := by simp [rvC, Value.oneCell']
/-- While a file is read: the reader's block q, the files ahead. -/
structure RgO (w W : World) (q : Nat) (m : List UInt8) (e : Int) (v : Value) (acc : Tb) : Prop where
  qw : w.heap.size ≤ q
  row : W.heap[q]? = some (.cells (rvC m e) 76 (0, 0))
  own : W.ownsRow (q + 1) 54 2 v acc.length (fmCells acc)
  bel : Below w.heap.size w W
section
variable {w W W' : World} {q x0 : Nat} {m m' : List UInt8} {e e' : Int} {v : Value} {acc : Tb} {K : List UInt8} {F : Fi}
theorem RgO.later (h : RgO w W q m e v acc) (hb : Below W.heap.size W W') : RgO w W' q m e v acc :=
  ⟨h.qw, (hb.block q (lt_of_cells h.row)).trans h.row, own_kept2 h.own fun g hg => hb.block g (h.own.lt g hg).2, h.bel.trans (hb.mono h.bel.size)⟩
theorem RgO.setr (h : RgO w W q m e v acc) (m' : List UInt8) (e' : Int) : RgO w (W.setRow q (rvC m' e')) q m' e' v acc :=
  ⟨h.qw, setRow_at h.row, own_kept2 h.own fun g hg => setRow_ne _ _ _ _ (by have := (h.own.lt g hg).1; omega), below_setRow h.bel h.qw _⟩
/-- .. and the file, in a block x0 of its own. -/
structure RgS (w W : World) (q x0 : Nat) (m : List UInt8) (e : Int) (v : Value) (acc : Tb) (F : Fi) : Prop where
  o : RgO w W q m e v acc
  qx : q < x0
  ol : ∀ g, v.ownBlock = some g → g < x0
  frow : W.heap[x0]? = some (.cells (fmV F) 54 (0, 0))
theorem RgO.file (h : RgO w W q m e v acc) : RgS w (W.alloc (.cells #[.string ⟨#[]⟩, .string ⟨#[]⟩] 54)) q W.heap.size m e v acc ([], []) :=
  ⟨h.later ((Below.refl _ _).alloc (Nat.le_refl _) _), lt_of_cells h.row, fun g hg => (h.own.lt g hg).2, heap_alloc_new W _⟩
theorem RgS.later (h : RgS w W q x0 m e v acc F) (hb : Below W.heap.size W W') : RgS w W' q x0 m e v acc F :=
  ⟨h.o.later hb, h.qx, h.ol, (hb.block x0 (lt_of_cells h.frow)).trans h.frow⟩
theorem RgS.setr (h : RgS w W q x0 m e v acc F) (m' : List UInt8) (e' : Int) : RgS w (W.setRow q (rvC m' e')) q x0 m' e' v acc F :=
  ⟨h.o.setr m' e', h.qx, h.ol, (setRow_ne _ _ _ _ (by have := h.qx; omega)).trans h.frow⟩
theorem RgS.set0 (h : RgS w W q x0 m e v acc F) (K : List UInt8) : RgS w (W.setCell ⟨x0, 0, none⟩ (.string (st K))) q x0 m e v acc (K, F.2) := by
  have hqx := h.qx
  have hk : ∀ g, g ≠ x0 → (W.setCell ⟨x0, 0, none⟩ (.string (st K))).heap[g]? = W.heap[g]? := fun g hg => Below.heap_setCell _ _ _ _ hg
  refine ⟨⟨h.o.qw, (hk q (by omega)).trans h.o.row, own_kept2 h.o.own fun g hg => hk g (by have := h.ol g hg; omega), h.o.bel.setCell (p := ⟨x0, 0, none⟩) (by have := h.o.qw; show w.heap.size ≤ x0; omega) _⟩, hqx, h.ol, ?_⟩
  have := set_of_cells h.frow 0 (.string (st K))
  simpa [fmV] using this
theorem RgS.set1 (h : RgS w W q x0 m e v acc F) (K : List UInt8) : RgS w (W.setCell ⟨x0, 1, none⟩ (.string (st K))) q x0 m e v acc (F.1, K) := by
  have hqx := h.qx
  have hk : ∀ g, g ≠ x0 → (W.setCell ⟨x0, 1, none⟩ (.string (st K))).heap[g]? = W.heap[g]? := fun g hg => Below.heap_setCell _ _ _ _ hg
  refine ⟨⟨h.o.qw, (hk q (by omega)).trans h.o.row, own_kept2 h.o.own fun g hg => hk g (by have := h.ol g hg; omega), h.o.bel.setCell (p := ⟨x0, 1, none⟩) (by have := h.o.qw; show w.heap.size ≤ x0; omega) _⟩, hqx, h.ol, ?_⟩
  have := set_of_cells h.frow 1 (.string (st K))
  simpa [fmV] using this
end
theorem zero_r2 : ∀ W, (zeroValue 76).run Tryd.prog W = .ok (.agg #[.string ⟨#[]⟩, .int .i64 0]) W := fun W => by kernel_rfl
/-- What the reference's Get tells. -/
def RgPost (w : World) (r : Tb × Int) (e : Ending) (w' : World) : Prop :=
  ∃ A c, e = .returned (.tuple #[.slice A r.1.length c, .int .i64 r.2]) ∧ Fms w' (w.heap.size ≤ ·) A r.1.length c r.1 ∧ Below w.heap.size w w'
theorem rgPost_nil {w w' : World} {r : Tb × Int} {E : Int} (hr : r = ([], E)) (hb : Below w.heap.size w w') : RgPost w r (.returned (.tuple #[.slice none 0 0, .int .i64 E])) w' := by
  subst hr
  exact ⟨none, 0, rfl, Fms.nil _ _ _ _ (Nat.zero_le _), hb⟩
theorem fgEnd_bad {acc : Tb} {l : List UInt8} {e : Int} (h : e ≠ 0) : fgEnd (acc, l, e) = ([], e) := by
  unfold fgEnd
  simp only
  rw [endE_bad h, if_pos h]
/-- The loop's state. -/
def RgR (w : World) (q M : Nat) (l0 : List UInt8) (v i : Value) (wr : World) : Prop :=
  ∃ j : Nat, i = .int .u64 (j : Int) ∧ j ≤ M ∧ ((∃ acc l, fgGo M [] l0 0 = fgGo (M - j) acc l 0 ∧ RgO w wr q l 0 v acc ∧ acc.length = j) ∨ ∃ e m acc, e ≠ 0 ∧ fgEnd (fgGo M [] l0 0) = ([], e) ∧ RgO w wr q m e v acc)
theorem RgO.cell1 {w W : World} {q : Nat} {m : List UInt8} {e : Int} {v : Value} {acc : Tb} (h : RgO w W q m e v acc) : W.cell? ⟨q, 1, none⟩ = some (.int .i64 e) := by
  rw [cell_of_cells h.row]
  rfl
set_option maxHeartbeats 16000000 in
set_option maxRecDepth 100000 in
theorem rget_any (b : List UInt8) (w : World) :
    Calls Tryd.prog 20 #[.string (st b)] w fun e w' => RgPost w (getF b) e w' := by
  have hui := ref_uint b 0 w
  have hzr := zero_r2
  have hzf := zero_fm
  have HGF : Hid (getF b = if 65536 < uiX b 0 then ([], 13) else fgEnd (fgGo (uiX b 0) [] (uiL b 0) (uiE b 0))) := Lib.hid rfl
  have HE0 : Hid (uiE b 0 ≠ 0 → uiX b 0 = 0) := Lib.hid fun h => by
    unfold uiE at h
    unfold uiX
    split at h
    · rename_i h1; rw [if_pos h1]; exact (rd_err 0 b (by intro e; rw [e] at h; exact h rfl)).1
    · rename_i h1; rw [if_neg h1]
  obtain ⟨M, hM⟩ : ∃ M, M = uiX b 0 := ⟨_, rfl⟩
  obtain ⟨e0, he0⟩ : ∃ e0, e0 = uiE b 0 := ⟨_, rfl⟩
  obtain ⟨l0, hl0⟩ : ∃ l0, l0 = uiL b 0 := ⟨_, rfl⟩
  rw [← hM, ← he0, ← hl0] at hui HGF
  rw [← hM, ← he0] at HE0
  clear hM he0 hl0
  go_enter Tryd.func20, Tryd.ntmps20
  go_upto_region 2 with (first
    | (go_at_call 44; refine hui.mono ?_; clear hui; rintro _ w1 ⟨m0, rfl, hm0, hb1⟩)
    | (refine wpList_store_row (by rfl) 76 (.tmp 4) (.tmp 14) (by rfl) w1.heap.size (rvC m0 e0) (by rfl) (by rfl) 76 _ (heap_alloc_new w1 _) r_info (by rfl) (rvC_one _ _) ?_))
  have H2 : Hid (RgO w ((w1.alloc (.cells #[.string ⟨#[]⟩, .int .i64 0] 76)).setRow w1.heap.size (rvC m0 e0)) w1.heap.size m0 e0 (.slice none 0 0) []) :=
    Lib.hid ⟨hb1.size, setRow_at (heap_alloc_new w1 _), World.ownsRow_nil _ _ _ _, below_setRow (hb1.alloc hb1.size _) hb1.size _⟩
  have HM0 := Lib.hid hm0
  clear hm0 hb1 hzr
  obtain ⟨q, hq⟩ : ∃ q, q = w1.heap.size := ⟨_, rfl⟩
  rw [← hq] at H2 ⊢
  generalize (w1.alloc (.cells #[.string ⟨#[]⟩, .int .i64 0] 76)).setRow q (rvC m0 e0) = w2 at *
  clear hq
  have hc1 := H2.out.cell1
  by_cases he : ¬ e0 = 0
  · have hne : (e0 != 0) = true := by simpa using he
    have HR : Hid (getF b = ([], e0)) := Lib.hid (by
      rw [HGF.out, HE0.out he, if_neg (by omega)]
      exact fgEnd_bad he)
    clear he
    go_wp2_with fail
    go_quiet (fail)
    go_wp2_with fail
    go_ret2
    exact rgPost_nil HR.out (below_drewN H2.out.bel _)
  obtain rfl : e0 = 0 := Classical.not_not.1 he
  obtain rfl : m0 = l0 := HM0.out rfl
  clear he hc1 HM0 HE0
  by_cases hbig : 65536 < M
  · have hb' : (M : Int) > 65536 := by omega
    have hc1 := H2.out.cell1
    have HR : Hid (getF b = ([], 13)) := Lib.hid (by rw [HGF.out, if_pos hbig])
    clear hbig
    go_wp2_with fail
    go_ret2
    exact rgPost_nil HR.out H2.out.bel
  have hb' : ¬ (M : Int) > 65536 := by omega
  have HG : Hid (getF b = fgEnd (fgGo M [] m0 0)) := Lib.hid (by rw [HGF.out, if_neg hbig])
  have hM : M ≤ 65536 := by omega
  have hc1 := H2.out.cell1
  have H0 : Hid (RgR w q M m0 (.slice none 0 0) (.int .u64 0) w2) := Lib.hid ⟨0, rfl, Nat.zero_le _, .inl ⟨[], m0, rfl, H2.out, rfl⟩⟩
  clear hbig HGF
  go_upto_region 8 with fail
  clear hc1
  go_loopw [6, 7] (fun v i wr => RgR w q M m0 v i wr) (fun _ i _ => M - (intOf i).toNat)
  case atStart => exact H0.out
  case round =>
    obtain ⟨j, rfl, hj, hrel⟩ := hrel
    clear H0 H2
    rcases hrel with ⟨acc, l, hgo, hO, hac⟩ | ⟨e, m, acc, he, hgo, hO⟩
    · have HO := Lib.hid hO
      have hc1 := HO.out.cell1
      have HGO := Lib.hid hgo
      have HAC := Lib.hid hac
      clear hO hgo hac
      by_cases hlt : j < M
      · have hlt' : (j : Int) < (M : Int) := by omega
        have hadd : IntKind.u64.wrap ((j : Int) + 1) = (j : Int) + 1 := IntWalk.u64_in _ (by omega)
        obtain ⟨Av, cv, rfl, _⟩ := own_fms HO.out.own
        have H5 := Lib.hid HO.out.file
        have HAL : Hid (acc.length ≤ 65536) := Lib.hid (by have := HAC.out; omega)
        clear hlt
        go_upto_region 11 with fail
        clear hc1
        obtain ⟨x0, hx0⟩ : ∃ x0, x0 = wr.heap.size := ⟨_, rfl⟩
        rw [← hx0] at H5 ⊢
        generalize wr.alloc (.cells #[.string ⟨#[]⟩, .string ⟨#[]⟩] 54) = w5 at *
        clear hx0 HO
        have hby := ref_bytes l 0 255 w5 (by decide)
        obtain ⟨K, hK⟩ : ∃ K, K = byB l 0 255 := ⟨_, rfl⟩
        obtain ⟨l1, hl1⟩ : ∃ l1, l1 = byL l 0 255 := ⟨_, rfl⟩
        obtain ⟨e1, he1⟩ : ∃ e1, e1 = byE l 0 255 := ⟨_, rfl⟩
        rw [← hK, ← hl1, ← he1] at hby
        have HEQ := Lib.hid (And.intro hK (And.intro hl1 he1))
        clear hK hl1 he1
        go_upto_region 12 with (first
          | (refine wpList_load_row (by rfl) 76 (.tmp 4) (by rfl) q (by rfl) 76 (rvC l 0) (0, 0) _ H5.out.o.row Tryd.underlying76 (by rfl) r_info ?_)
          | (go_at_call 45; refine hby.mono ?_; clear hby; rintro _ w6 ⟨m1, rfl, hm1, hb6⟩; rw [strB_st]; have H6 := Lib.hid (H5.out.later hb6); have H6s := Lib.hid (H6.out.setr m1 e1); have hc0 := cell_of_cells H6s.out.frow 0; have hf0 := free_of_cells H6s.out.frow 0; clear hb6)
          | (refine wpList_store_row (by rfl) 76 (.tmp 4) (.tmp 36) (by rfl) q (rvC m1 e1) (by rfl) (by rfl) 76 _ H6.out.o.row r_info (by rfl) (rvC_one _ _) ?_))
        have H7 := Lib.hid (H6s.out.set0 K)
        have HM1 := Lib.hid hm1
        clear hc0 hf0 H6 H6s H5 hm1
        generalize (w6.setRow q (rvC m1 e1)).setCell ⟨x0, 0, none⟩ (.string (st K)) = w7 at *
        have hby2 := ref_bytes m1 e1 1048576 w7 (by decide)
        obtain ⟨a1, a2, a3⟩ := galike_by (l := l1) (m := m1) (e := e1) 1048576 HM1.out
        obtain ⟨V, hV⟩ : ∃ V, V = byB l1 e1 1048576 := ⟨_, rfl⟩
        obtain ⟨l3, hl3⟩ : ∃ l3, l3 = byL l1 e1 1048576 := ⟨_, rfl⟩
        obtain ⟨e3, he3⟩ : ∃ e3, e3 = byE l1 e1 1048576 := ⟨_, rfl⟩
        rw [a1, a2, ← hV, ← he3] at hby2
        have HA3 : Hid (e3 = 0 → byL m1 e1 1048576 = l3) := Lib.hid fun h => by rw [hl3]; exact a3 (by rw [← he3]; exact h)
        have HEQ2 := Lib.hid (And.intro hV (And.intro hl3 he3))
        clear hV hl3 he3 a1 a2 a3 HM1
        go_upto_region 13 with (first
          | (refine wpList_load_row (by rfl) 76 (.tmp 4) (by rfl) q (by rfl) 76 (rvC m1 e1) (0, 0) _ H7.out.o.row Tryd.underlying76 (by rfl) r_info ?_)
          | (go_at_call 45; refine hby2.mono ?_; clear hby2; rintro _ w8 ⟨m3, rfl, hm3, hb8⟩; rw [strB_st]; have H8 := Lib.hid (H7.out.later hb8); have H8s := Lib.hid (H8.out.setr m3 e3); have hc1 := cell_of_cells H8s.out.frow 1; have hf1 := free_of_cells H8s.out.frow 1; clear hb8)
          | (refine wpList_store_row (by rfl) 76 (.tmp 4) (.tmp 42) (by rfl) q (rvC m3 e3) (by rfl) (by rfl) 76 _ H8.out.o.row r_info (by rfl) (rvC_one _ _) ?_))
        have H9 := Lib.hid (H8s.out.set1 V)
        have HM3 : Hid (e3 = 0 → m3 = l3) := Lib.hid fun h => by rw [hm3 h]; exact HA3.out h
        clear hc1 hf1 H8 H8s H7 hm3 HA3
        generalize (w8.setRow q (rvC m3 e3)).setCell ⟨x0, 1, none⟩ (.string (st V)) = w9 at *
        obtain ⟨X, hX⟩ : ∃ X : Fi, X = (K, V) := ⟨_, rfl⟩
        have hfr := H9.out.frow
        rw [← hX] at hfr
        have HFR : Hid (w9.heap[x0]? = some (.cells #[.string (st K), .string (st V)] 54 (0, 0))) := Lib.hid (by rw [hX] at hfr; exact hfr)
        have HCX : Hid (fmV X = #[.string (st K), .string (st V)]) := Lib.hid (by rw [hX]; rfl)
        have hb10 : Below w9.heap.size w9 (w9.alloc (.cells #[.string (st K), .string (st V)] 54)) := (Below.refl _ _).alloc (Nat.le_refl _) _
        obtain ⟨A12, c12, w12, hap, hown12, hb12⟩ := own_fms_app (m := [X]) (n2 := 1) (c2 := 1) (a := ⟨w9.heap.size, 0, none⟩) (H9.out.o.later hb10).own (by have h1 := lt_of_cells H9.out.o.row; have h2 := hb10.size; omega) rfl (fun o u hu => by
          rw [add_plain, Nat.zero_add, cell_of_cells (heap_alloc_new w9 _), ← HCX.out]
          simpa [fmCells] using hu) (by have := HAL.out; omega) 25
        have H12 : Hid (RgO w w12 q m3 e3 (.slice A12 (acc ++ [X]).length c12) (acc ++ [X])) := Lib.hid ⟨H9.out.o.qw, (hb12.block q (by omega)).trans (H9.out.o.later hb10).row, hown12, (H9.out.o.later hb10).bel.trans (hb12.mono (by have := H9.out.o.qw; omega))⟩
        have HX := Lib.hid hX
        clear hfr hX hb10 hown12 hb12 H9
        go_wp2_with (first
          | (refine wpList_load_row (by rfl) 54 (.tmp 8) (by rfl) x0 (by rfl) 54 #[.string (st K), .string (st V)] (0, 0) _ HFR.out Tryd.underlying54 (by rfl) fm_info ?_)
          | (at_builtin; refine wpList_app (by rfl) (.tmp 45) (.tmp 47) 25 (by rfl) (by rfl) (by rfl) hap ?_))
        go_roundw
        case rel =>
          have hO12 := H12.out
          rw [List.length_append, List.length_singleton] at hO12
          refine ⟨j + 1, by simp, by omega, ?_⟩
          have hstep : fgGo (M - j) acc l 0 = if e3 ≠ 0 then (acc, l3, e3) else fgGo (M - (j + 1)) (acc ++ [X]) l3 e3 := by
            rw [show M - j = (M - (j + 1)) + 1 by omega, fgGo, ← HEQ.out.1, ← HEQ.out.2.1, ← HEQ.out.2.2, ← HEQ2.out.1, ← HEQ2.out.2.1, ← HEQ2.out.2.2, HX.out]
          by_cases h3 : e3 = 0
          · left
            refine ⟨acc ++ [X], l3, ?_, ?_, by have := HAC.out; simp; omega⟩
            · rw [HGO.out, hstep, if_neg (by simp [h3]), h3]
            · rw [HM3.out h3, h3] at hO12
              exact hO12
          · right
            refine ⟨e3, m3, acc ++ [X], h3, ?_, hO12⟩
            rw [HGO.out, hstep, if_pos h3]
            exact fgEnd_bad h3
        case measure => simp only [intOf]; omega
      · have hlt' : ¬ (j : Int) < (M : Int) := by omega
        have hjM : M - j = 0 := by omega
        have HF : Hid (getF b = fgEnd (acc, l, 0)) := Lib.hid (by rw [HG.out, HGO.out, hjM]; rfl)
        have HAL : Hid (acc.length ≤ 65536) := Lib.hid (by have := HAC.out; omega)
        clear hlt hjM
        have hen1 := ref_end l 0 wr
        obtain ⟨A6, c6, rfl, hfm⟩ := own_fms HO.out.own
        have HFM := Lib.hid (hfm.mono (T := (w.heap.size ≤ ·)) fun k _ h => by have h1 := HO.out.qw; have h2 : q + 1 ≤ k := h; omega)
        clear hfm
        by_cases h0 : endE l 0 = 0
        · rw [h0] at hen1
          have hck := fun (W : World) (hW : Below wr.heap.size wr W) => rcheck_any (HFM.out.below hW) (by have := HAL.out; omega)
          by_cases hk : chkE acc = 0
          · rw [hk] at hck
            have HR : Hid (getF b = (acc, 0)) := Lib.hid (by rw [HF.out]; unfold fgEnd; simp only; rw [if_neg (by simp [h0]), if_neg (by simp [hk])])
            clear h0 hk
            obtain ⟨NA, hNA⟩ : ∃ NA, NA = acc.length := ⟨_, rfl⟩
            rw [← hNA] at hck ⊢
            have HNA := Lib.hid hNA
            clear hNA
            go_wp2_with (first
              | (refine wpList_load_row (by rfl) 76 (.tmp 4) (by rfl) q (by rfl) 76 (rvC l 0) (0, 0) _ HO.out.row Tryd.underlying76 (by rfl) r_info ?_)
              | (go_at_call 46; refine hen1.mono ?_; clear hen1; rintro _ w9 ⟨rfl, hb9⟩; have hck9 := hck w9 hb9; clear hck)
              | (go_at_call 17; refine hck9.mono ?_; clear hck9; rintro _ w8 ⟨rfl, hb8⟩))
            go_ret2
            have hb89 := hb9.trans (hb8.mono hb9.size)
            unfold RgPost
            rw [HR.out]
            exact ⟨A6, c6, by rw [← HNA.out]; rfl, HFM.out.below hb89, HO.out.bel.trans (hb89.mono HO.out.bel.size)⟩
          · have hkne : (chkE acc != 0) = true := by simpa using hk
            have HR : Hid (getF b = ([], 11)) := Lib.hid (by rw [HF.out]; unfold fgEnd; simp only; rw [if_neg (by simp [h0]), if_pos (by simpa using hk)])
            obtain ⟨E, hE⟩ : ∃ E, E = chkE acc := ⟨_, rfl⟩
            rw [← hE] at hck hkne
            clear h0 hk hE
            go_wp2_with (first
              | (refine wpList_load_row (by rfl) 76 (.tmp 4) (by rfl) q (by rfl) 76 (rvC l 0) (0, 0) _ HO.out.row Tryd.underlying76 (by rfl) r_info ?_)
              | (go_at_call 46; refine hen1.mono ?_; clear hen1; rintro _ w9 ⟨rfl, hb9⟩; have hck9 := hck w9 hb9; clear hck)
              | (go_at_call 17; refine hck9.mono ?_; clear hck9; rintro _ w8 ⟨rfl, hb8⟩))
            go_ret2
            have hb89 := hb9.trans (hb8.mono hb9.size)
            exact rgPost_nil HR.out (HO.out.bel.trans (hb89.mono HO.out.bel.size))
        · have hen0 : (endE l 0 != 0) = true := by simpa using h0
          have HR : Hid (getF b = ([], endE l 0)) := Lib.hid (by rw [HF.out]; unfold fgEnd; simp only; rw [if_pos (by simpa using h0)])
          obtain ⟨E, hE⟩ : ∃ E, E = endE l 0 := ⟨_, rfl⟩
          rw [← hE] at hen1 hen0 HR
          clear h0 hE
          go_wp2_with (first
            | (refine wpList_load_row (by rfl) 76 (.tmp 4) (by rfl) q (by rfl) 76 (rvC l 0) (0, 0) _ HO.out.row Tryd.underlying76 (by rfl) r_info ?_)
            | (go_at_call 46; refine hen1.mono ?_; clear hen1; rintro _ w9 ⟨rfl, hb9⟩))
          go_ret2
          exact rgPost_nil HR.out (HO.out.bel.trans (hb9.mono HO.out.bel.size))
    · have HO := Lib.hid hO
      have hc1 := HO.out.cell1
      have HF : Hid (getF b = ([], e)) := Lib.hid (by rw [HG.out, hgo])
      have heq0 : (e == 0) = false := by simpa using he
      have hne : (e != 0) = true := by simpa using he
      have hen := ref_end m e
      rw [endE_bad he] at hen
      clear he hO hgo
      by_cases hlt : j < M
      · have hlt' : (j : Int) < (M : Int) := by omega
        clear hlt
        have hen1 := hen wr
        clear hen
        go_wp2_with (first
          | (refine wpList_load_row (by rfl) 76 (.tmp 4) (by rfl) q (by rfl) 76 (rvC m e) (0, 0) _ HO.out.row Tryd.underlying76 (by rfl) r_info ?_)
          | (go_at_call 46; refine hen1.mono ?_; clear hen1; rintro _ w9 ⟨rfl, hb9⟩))
        go_ret2
        exact rgPost_nil HF.out (HO.out.bel.trans (hb9.mono HO.out.bel.size))
      · have hlt' : ¬ (j : Int) < (M : Int) := by omega
        clear hlt
        have hen1 := hen wr
        clear hen
        go_wp2_with (first
          | (refine wpList_load_row (by rfl) 76 (.tmp 4) (by rfl) q (by rfl) 76 (rvC m e) (0, 0) _ HO.out.row Tryd.underlying76 (by rfl) r_info ?_)
          | (go_at_call 46; refine hen1.mono ?_; clear hen1; rintro _ w9 ⟨rfl, hb9⟩))
        go_ret2
        exact rgPost_nil HF.out (HO.out.bel.trans (hb9.mono HO.out.bel.size))
end Go.Proofs.YtpcoiakdbfihlaaDoor

/-! The reference's Same. -/
namespace Go.Proofs.YtpcoiakdbfihlaaDoor
open Go.RowKit Codec

set_option maxHeartbeats 8000000 in
set_option maxRecDepth 100000 in
/-- Two rows of files that are the same. -/
theorem rsame_any {w : World} {S T : Nat → Prop} {A B : Option Addr} {n c k d : Nat} {l : Tb} (hl : Fms w S A n c l) (hm : Fms w T B k d l) (hn : n ≤ 100000000) :
    Calls Tryd.prog 21 #[.slice A n c, .slice B k d] w fun e w' => e = .returned (.bool true) ∧ Below w.heap.size w w' := by
  obtain rfl : n = k := by rw [← hl.len, ← hm.len]
  have HL := Lib.hid (And.intro hl hm)
  clear hl hm
  go_enter Tryd.func21, Tryd.ntmps21
  go_wp2_with fail
  go_loopw [5] (fun i wr => ∃ j : Nat, j ≤ n ∧ i = .int .i64 (j : Int) ∧ Below w.heap.size w wr) (fun i _ => n - (intOf i).toNat)
  case atStart => exact ⟨0, Nat.zero_le _, rfl, Below.refl _ _⟩
  case round =>
    obtain ⟨j, hj, rfl, hb⟩ := hrel
    by_cases hlt : j < n
    · have hlt' : (j : Int) < (n : Int) := by omega
      have hadd := IntWalk.i64_in ((j : Int) + 1) (by omega)
      obtain ⟨q, off, x, rfl, _, hq, hx, h0, h1⟩ := HL.out.1.at_ hlt
      obtain ⟨p, of2, y, rfl, _, hp, hy, h2, h3⟩ := HL.out.2.at_ hlt
      obtain rfl : x = y := by rw [hx] at hy; exact Option.some.inj hy
      have c0 := (hb.cell (p := ⟨_, _, none⟩) hq).trans h0
      have c1 := (hb.cell (p := ⟨_, _, none⟩) hq).trans h1
      have c2 := (hb.cell (p := ⟨_, _, none⟩) hp).trans h2
      have c3 := (hb.cell (p := ⟨_, _, none⟩) hp).trans h3
      have HB := Lib.hid hb
      clear hx hy h0 h1 h2 h3 hq hp hb
      go_wp2_with fail
      go_quiet (fail)
      go_wp2_with fail
      go_roundw
      case rel => exact ⟨j + 1, by omega, by simp, below_drewN HB.out _⟩
      case measure => simp only [intOf]; omega
    · have hlt' : ¬ (j : Int) < (n : Int) := by omega
      clear hlt
      go_wp2_with fail
      go_ret
      exact ⟨rfl, hb⟩
end Go.Proofs.YtpcoiakdbfihlaaDoor

/-! Files, pure: what is got, put again, is the bytes. -/
namespace Go.Proofs.YtpcoiakdbfihlaaDoor
open Go.RowKit Codec

theorem fend_zero {l : List UInt8} {e : Int} (h : endE l e = 0) : e = 0 ∧ l = [] := by
  unfold endE at h
  split at h
  · rename_i h1; exact absurd h h1
  · rename_i h1
    refine ⟨Classical.not_not.1 h1, ?_⟩
    cases l with
    | nil => rfl
    | cons c t => simp at h
theorem ui_put {l : List UInt8} (h : uiE l 0 = 0) : put (uiX l 0) ++ uiL l 0 = l := by
  unfold uiE at h
  unfold uiX uiL
  rw [if_pos rfl] at h ⊢
  rw [if_pos rfl]
  have hp := put_rd 0 l (by omega) (by simpa using h)
  rw [hp.1, List.take_append_drop]
theorem by_put {l : List UInt8} {m : Int} (h : byE l 0 m = 0) : put (byB l 0 m).length ++ (byB l 0 m ++ byL l 0 m) = l := by
  unfold byE at h
  split at h
  · rename_i h1; exact absurd h h1
  · rename_i h1
    split at h
    · simp at h
    · rename_i h2
      have h3 := tkE_zero h
      have hb : byB l 0 m = (uiL l 0).take (uiX l 0) := by
        unfold byB
        rw [if_neg h1, if_neg h2]
        unfold fxB
        rw [if_pos h, Int.toNat_natCast]
      have hl : byL l 0 m = (uiL l 0).drop (uiX l 0) := by
        unfold byL
        rw [if_neg h1, if_neg h2]
        unfold fxL
        rw [if_pos h, Int.toNat_natCast]
      have hn : ((uiL l 0).take (uiX l 0)).length = uiX l 0 := by
        rw [List.length_take]
        have := h3.2.2
        rw [Int.toNat_natCast] at this
        omega
      rw [hb, hl, hn, List.take_append_drop]
      exact ui_put (Classical.not_not.1 h1)
theorem fgGo_put : ∀ (M : Nat) (acc : Tb) (l : List UInt8) (e : Int) (r : Tb) (l' : List UInt8), fgGo M acc l e = (r, l', 0) → e = 0 ∧ ∃ t, r = acc ++ t ∧ t.length = M ∧ filEs t ++ l' = l
  | 0, acc, l, e, r, l', h => by
    simp only [fgGo, Prod.mk.injEq] at h
    obtain ⟨rfl, rfl, rfl⟩ := h
    exact ⟨rfl, [], by simp, rfl, by simp [filEs]⟩
  | M + 1, acc, l, e, r, l', h => by
    unfold fgGo at h
    split at h
    · rename_i h1
      simp only [Prod.mk.injEq] at h
      exact absurd h.2.2 h1
    · rename_i h1
      have h3 := Classical.not_not.1 h1
      obtain ⟨e1, _⟩ := by_take _ _ _ (.inr h3)
      obtain ⟨e0, _⟩ := by_take _ _ _ (.inr e1)
      subst e0
      rw [e1] at h h3
      obtain ⟨_, t, rfl, ht, hb⟩ := fgGo_put M _ _ _ _ _ h
      refine ⟨rfl, (byB l 0 255, byB (byL l 0 255) 0 1048576) :: t, by simp, by simp [ht], ?_⟩
      have p1 := by_put e1
      have p2 := by_put h3
      have e : filEs ((byB l 0 255, byB (byL l 0 255) 0 1048576) :: t) = put (byB l 0 255).length ++ (byB l 0 255 ++ (put (byB (byL l 0 255) 0 1048576).length ++ (byB (byL l 0 255) 0 1048576 ++ filEs t))) := by simp [filEs, filE]
      rw [e]
      simp only [List.append_assoc]
      rw [hb, p2, p1]
/-- WHAT IS GOT, PUT AGAIN. -/
theorem put_get {b : List UInt8} {l : Tb} (h : getF b = (l, 0)) : chkE l = 0 ∧ filB l = b := by
  unfold getF at h
  split at h
  · simp at h
  · unfold fgEnd at h
    generalize hr : fgGo (uiX b 0) [] (uiL b 0) (uiE b 0) = r at h
    obtain ⟨acc, l', e⟩ := r
    simp only at h
    split at h
    · rename_i h1
      simp only [Prod.mk.injEq] at h
      exact absurd h.2 h1
    · rename_i h1
      split at h
      · simp at h
      · rename_i h2
        simp only [Prod.mk.injEq, and_true] at h
        subst h
        obtain ⟨rfl, rfl⟩ := fend_zero (Classical.not_not.1 h1)
        obtain ⟨he, t, ht, hl, hb⟩ := fgGo_put _ _ _ _ _ _ hr
        rw [List.nil_append] at ht
        subst ht
        refine ⟨Classical.not_not.1 h2, ?_⟩
        have e : filB acc = put acc.length ++ filEs acc := rfl
        rw [List.append_nil] at hb
        rw [e, hb, hl]
        exact ui_put he
theorem getF_bad {b : List UInt8} (h : (getF b).2 ≠ 0) : (getF b).1 = [] := by
  unfold getF fgEnd at h ⊢
  split
  · rfl
  · rename_i h1
    rw [if_neg h1] at h
    split
    · rfl
    · rename_i h2
      rw [if_neg h2] at h
      split
      · rfl
      · rename_i h3
        rw [if_neg h3] at h
        exact absurd rfl h
theorem getF_len (b : List UInt8) : (getF b).1.length ≤ 65536 := by
  by_cases h : (getF b).2 = 0
  · obtain ⟨h1, _⟩ := put_get (b := b) (l := (getF b).1) (by rw [← h])
    exact (fi_ok h1).few
  · rw [getF_bad h]
    simp
end Go.Proofs.YtpcoiakdbfihlaaDoor

/-! The law FilesGets. -/
namespace Go.Proofs.YtpcoiakdbfihlaaDoor
open Go.RowKit Codec

set_option maxHeartbeats 16000000 in
set_option maxRecDepth 100000 in
theorem law_fgets {w : World} {S : Nat → Prop} {A : Option Addr} {n c : Nat} {b : List UInt8} (hb : Byt w S A n c b) :
    Calls Tryd.prog 4 #[.slice A n c] w fun e w' => e = .returned (.bool true) ∧ Below w.heap.size w w' := by
  have haw := fawake_true w
  have HB := Lib.hid hb
  clear hb
  by_cases hbig : n > 1000
  · have hb' : (n : Int) > 1000 := by omega
    clear hbig
    go_enter Tryd.func4, Tryd.ntmps4
    go_wp2_with (go_at_call 9; refine haw.mono ?_; clear haw; rintro _ w1 ⟨rfl, hb1⟩)
    go_ret
    exact ⟨rfl, hb1⟩
  have hb' : ¬ (n : Int) > 1000 := by omega
  have hn : n ≤ 1000 := by omega
  clear hbig
  go_enter Tryd.func4, Tryd.ntmps4
  go_upto_region 6 with (go_at_call 9; refine haw.mono ?_; clear haw; rintro _ w1 ⟨rfl, hb1⟩)
  have HB1 := Lib.hid hb1
  have hg := fget_any (HB.out.below hb1) (by omega)
  obtain ⟨r, hr⟩ : ∃ r, r = getF b := ⟨_, rfl⟩
  have HLEN : Hid (r.1.length ≤ 65536) := Lib.hid (by rw [hr]; exact getF_len b)
  have HPG : Hid (r.2 = 0 → chkE r.1 = 0 ∧ filB r.1 = b) := Lib.hid fun h => put_get (by rw [← hr, ← h])
  have hrg := fun W => rget_any b W
  rw [← hr] at hg hrg
  clear hr hb1
  obtain ⟨l, E⟩ := r
  have hg2 : Calls Tryd.prog 18 #[.slice A n c] w1 fun e w' => ∃ Ag cg, e = .returned (.tuple #[.slice Ag l.length cg, .int .i64 E]) ∧ Fls w' (w1.heap.size ≤ ·) Ag l.length cg l ∧ Below w1.heap.size w1 w' := hg
  have hrg2 : ∀ W, Calls Tryd.prog 20 #[.string (st b)] W fun e w' => ∃ Ag cg, e = .returned (.tuple #[.slice Ag l.length cg, .int .i64 E]) ∧ Fms w' (W.heap.size ≤ ·) Ag l.length cg l ∧ Below W.heap.size W w' := hrg
  have HLEN2 : Hid (l.length ≤ 65536) := Lib.hid HLEN.out
  have HPG2 : Hid (E = 0 → chkE l = 0 ∧ filB l = b) := Lib.hid HPG.out
  clear hg hrg HLEN HPG
  obtain ⟨M, hM⟩ : ∃ M, M = l.length := ⟨_, rfl⟩
  rw [← hM] at hg2 hrg2 HLEN2
  clear hM
  go_upto_region 7 with (go_at_call 18; refine hg2.mono ?_; clear hg2; rintro _ w2 ⟨Ag, cg, rfl, hfl, hb2⟩)
  have HB2 := Lib.hid (HB1.out.trans (hb2.mono HB1.out.size))
  have HF2 := Lib.hid hfl
  have hcv := byt_string (HB.out.below HB2.out)
  have hrg3 := hrg2 w2
  clear hb2 hfl hrg2
  go_upto_region 8 with (go_at_call 20; refine hrg3.mono ?_; clear hrg3; rintro _ w3 ⟨Am, cm, rfl, hfm, hb3⟩)
  have HB3 := Lib.hid (HB2.out.trans (hb3.mono HB2.out.size))
  have HF3 : Hid (Fls w3 (w1.heap.size ≤ ·) Ag M cg l) := Lib.hid (HF2.out.below hb3)
  have HM3 := Lib.hid hfm
  have hof := filesof_any HF3.out (by have := HLEN2.out; omega)
  clear hb3 hfm hcv HF2
  go_upto_region 10 with (first
    | (go_at_call 11; refine hof.mono ?_; clear hof; rintro _ w4 ⟨Ao, co, rfl, hfo, hb4⟩; have hsm := rsame_any hfo (HM3.out.below hb4) (by have := HLEN2.out; omega); clear hfo)
    | (go_at_call 21; refine hsm.mono ?_; clear hsm; rintro _ w5 ⟨rfl, hb5⟩))
  have hb35 := hb4.trans (hb5.mono hb4.size)
  have HB5 := Lib.hid (HB3.out.trans (hb35.mono HB3.out.size))
  have HF5 : Hid (Fls w5 (w1.heap.size ≤ ·) Ag M cg l) := Lib.hid (HF3.out.below hb35)
  clear hb4 hb5 hb35 HF3 HM3
  by_cases h0 : E = 0
  · subst h0
    have HOK := Lib.hid (HPG2.out rfl)
    have hpt := fput_any HF5.out (by have := HLEN2.out; omega) (fun x hx => by have h1 := pathOk_len (rise_path (chk_ok HOK.out.1).1 x hx); unfold maxLen; omega)
    rw [HOK.out.1, show fpB l = b by unfold fpB; rw [if_pos HOK.out.1]; exact HOK.out.2] at hpt
    go_upto_region 13 with (go_at_call 12; refine hpt.mono ?_; clear hpt; rintro _ w6 ⟨Ax, nx, cx, rfl, hx, hb6⟩)
    have HB6 := Lib.hid (HB5.out.trans (hb6.mono HB5.out.size))
    have hc1 := byt_string hx
    have hc2 := byt_string (HB.out.below HB6.out)
    clear hx hb6
    go_wp2_with fail
    go_ret
    exact ⟨rfl, HB6.out⟩
  · have hne : (E != 0) = true := by simpa using h0
    clear h0
    go_wp2_with fail
    go_ret
    exact ⟨rfl, HB5.out⟩
end Go.Proofs.YtpcoiakdbfihlaaDoor

/-! The statement FilesGets, proved: for every slice of bytes the law returns true. No condition but that utf8's two tables hold what the program's text lays (the card ties it; no walk reads them). -/
namespace Go.Proofs.YtpcoiakdbfihlaaDoor.filesGets
open Go.ChangeShapes Go.WideShapes Go.ChangeAt Go.RowKit
set_option linter.unusedVariables false

set_option maxRecDepth 100000 in
theorem lifted (os : Os) (started : os.Started) (H : Type) (enc : TypeId × Value → H) :
    ReturnsInHanded {} Tryd.checked os 4 .any (fun w args => (Rows.filesGetsSpec.pre enc Tryd.prog Tryd.f4 [] false w args ∧ laidMetH Tryd.prog laidsU w) ∧ sizedMet enc Tryd.prog Tryd.f4 (OpenSpec.ofChange Rows.filesGetsSpec) false w args) (Rows.filesGetsSpec.post enc Tryd.prog Tryd.f4 false true false false) := by
  refine returnsInHanded_of_change_and (C := Tryd.checked) (X := fun w _ => laidMetH Tryd.prog laidsU w) (fun _ _ _ hh h => h.of_heap hh) own_knob started (by kernel_rfl) Tryd.func4
    (ChangeSpec.witness_shaped (enc := enc) (C := Tryd.checked) (os := os) (X := fun w _ => laidMetH Tryd.prog laidsU w) false (World.laidAll Tryd.prog os laidsU) #[.slice none 0 0] 8 (World.laidAll_os _ _ _) (World.shaped_of_ZipB (by kernel_rfl) (by kernel_rfl)) (by kernel_rfl) (by kernel_rfl) (by kernel_rfl) (door_metU os _)) ?_
  intro W base args ds gs before hval0 hW _ _ hL _
  have hval : ∀ (j : Nat) t v, Tryd.f4.params[j]? = some t → args[j]? = some v → Value.okWide Tryd.prog W .any base t v := hval0
  have hW' := hW
  obtain ⟨p, q, hA0, hV, rfl, hfz, hnd⟩ := hW
  have hA : DataW.TrodAll enc Tryd.prog W 0 (fun _ => true) true Tryd.f4.params.toList args.toList ds p := hA0
  rw [Tryd.params4] at hA hval
  obtain ⟨v0, vs0, d0, ds0, p0, q0, hargs, rfl, rfl, h0, r0⟩ := trodAll_cons hA
  obtain ⟨rfl, rfl, rfl⟩ := trodAll_nil r0
  obtain rfl : args = #[v0] := by cases args; simp_all
  obtain ⟨rfl, rfl⟩ := trodVars_none hV
  obtain ⟨a0, len0, cap0, rfl⟩ := okWide_slice Tryd.underlying27 (hval 0 27 v0 rfl rfl)
  obtain ⟨l0, w0⟩ := bytes_in rfl h0
  clear hA0 hval0
  refine (law_fgets w0).mono fun e W' ⟨he, bel⟩ => ?_
  subst he
  exact ⟨_, rfl, _, _, _, [], _, [], hW', trodAll_mk1 (shut_bool Tryd.underlying4 _), (trodAll_cons_mk (Below.trod laid_out (by kernel_rfl) (of_decide_eq_true (by kernel_rfl)) h0 bel (trod_lt h0)) trodAll_mk0), rfl, bel.frame _, fun h => by cases h⟩

theorem proved : Rows.FilesGetsSaid :=
  OpenClaim.holds_of_wide 4 Tryd.f4 rfl rfl rfl rfl rfl rfl rfl ⟨rfl, rfl, rfl, rfl, rfl⟩ rfl rfl rfl rfl rfl (by kernel_rfl) Tryd.func4 (by kernel_rfl)
    (of_decide_eq_true (by kernel_rfl)) (by unfold Func.isWrapper; first | (rw [if_pos (by decide +kernel)]; kernel_rfl) | (rw [if_neg (by decide +kernel)]; exact ⟨rfl, rfl⟩))
    (fun os started H enc _ => lifted os started H enc)

theorem proved_card : Rows.FilesGetsCardSaid :=
  Claim7.holds_tied_plain_at .later [] [.data, .pinned] true (true, Rows.filesGetsCard.stood.harness.2) false proved (fun _ h => by cases h) (by kernel_rfl) (fun _ h => by cases h) filesGets_row_tie rfl ⟨rfl, rfl⟩ (by kernel_rfl) rfl
    (fun f fn hf hfn => by
      obtain rfl : f = 4 := Option.some.inj ((show Tryd.prog.funcNamed Rows.filesGetsRow.func = some 4 by kernel_rfl).symm.trans hf) |>.symm
      obtain rfl : fn = Tryd.f4 := (Option.some.inj (Tryd.func4.symm.trans hfn)).symm
      exact ⟨by kernel_rfl, fun j t ht => by
        have hall : (Tryd.f4.params.toList.all fun u => !Tryd.prog.wantsStandIn u) = true := by kernel_rfl
        exact (show Tryd.prog.wantsStandIn t = false by simpa using List.all_eq_true.1 hall t (by rw [Array.mem_toList_iff]; exact Array.mem_of_getElem? ht))⟩)
    (by kernel_rfl)
#print axioms proved_card
end Go.Proofs.YtpcoiakdbfihlaaDoor.filesGets
