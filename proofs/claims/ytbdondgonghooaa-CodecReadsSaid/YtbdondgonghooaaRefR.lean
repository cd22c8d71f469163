/-
  The document's answers for the reader, by value: End, Fixed, Bytes, Bool.
-/
import Derived.Test.YtbdondgonghooaaRef
import Derived.Test.YtbdondgonghooaaBackPure
import Derived.Lib.Strings
namespace Go.Proofs.Ytbdondgonghooaa
open Go.RowKit Codec

/-- A reader by value. -/
def RV (l : List UInt8) (e : Int) : Value := .agg #[.string (strB l), .int .i64 e]
theorem strB_empty (l : List UInt8) : (strB l).toList.isEmpty = l.isEmpty := by rw [strB, ByteArray.toList_mk]
theorem strB_to (l : List UInt8) (k : Nat) : (strB l).extract 0 k = strB (l.take k) := by
  apply ByteArray.ext; apply Array.toList_inj.1
  rw [Lib.extract_data]; simp [strB]
theorem strB_from (l : List UInt8) (k : Nat) : (strB l).extract k (strB l).size = strB (l.drop k) := by
  apply ByteArray.ext; apply Array.toList_inj.1
  rw [Lib.extract_data, strB_size, List.take_of_length_le (by simp [strB])]; simp [strB]
theorem below2 (w : World) (o1 o2 : Obj) : Below w.heap.size w ((w.alloc o1).alloc o2) := ((Below.refl _ _).alloc (Nat.le_refl _) _).alloc (by simp) _
theorem endE_bad {l : List UInt8} {e : Int} (h : ¬ e = 0) : endE l e = e := by unfold endE; rw [if_pos h]

set_option maxHeartbeats 1000000 in
theorem ref_end (l : List UInt8) (e : Int) (w : World) : Calls Try.prog 23 #[RV l e] w fun r w' => r = .returned (.int .i64 (endE l e)) ∧ Below w.heap.size w w' := by
  have b1 := fun o => (Below.refl w.heap.size w).alloc (Nat.le_refl _) o
  by_cases he : e = 0
  · subst he
    cases l with
    | nil =>
      rw [show endE [] 0 = 0 from rfl]
      unfold RV
      have hE : (strB []).toList.isEmpty = true := strB_empty []
      go_enter Try.func23, Try.ntmps23
      go_wp2_with fail
      go_ret
      exact ⟨rfl, b1 _⟩
    | cons c t =>
      rw [show endE (c :: t) 0 = 12 by simp [endE]]
      unfold RV
      have hE : (strB (c :: t)).toList.isEmpty = false := strB_empty (c :: t)
      go_enter Try.func23, Try.ntmps23
      go_wp2_with fail
      go_ret
      exact ⟨rfl, b1 _⟩
  · rw [endE_bad he]
    have he' : (e != 0) = true := by simpa using he
    unfold RV
    clear he
    go_enter Try.func23, Try.ntmps23
    go_wp2_with fail
    go_ret
    exact ⟨rfl, b1 _⟩

set_option maxHeartbeats 1000000 in
theorem ref_fixed (l : List UInt8) (e k : Int) (w : World) : Calls Try.prog 16 #[RV l e, .int .i64 k] w fun r w' => r = .returned (.tuple #[RV (fxL l e k) (tkE l e k), .string (strB (fxB l e k))]) ∧ Below w.heap.size w w' := by
  have b2 := below2 w
  by_cases he : e = 0
  · subst he
    by_cases hk : k < 0
    · have e1 : tkE l 0 k = 1 := by unfold tkE; rw [if_neg (by simp), if_pos hk]
      have e2 : fxL l 0 k = l := by unfold fxL; rw [e1]; rfl
      have e3 : fxB l 0 k = [] := by unfold fxB; rw [e1]; rfl
      rw [e1, e2, e3]
      unfold RV
      clear e1 e2 e3
      go_enter Try.func16, Try.ntmps16
      go_wp2_with fail
      refine bodyPost_ret (v := .tuple #[.agg #[.string (strB l), .int .i64 1], .string (strB [])]) (by simp [results, Try.results16, go_sem]; rfl) rfl ⟨rfl, b2 _ _⟩
    · by_cases hl : (l.length : Int) < k
      · have e1 : tkE l 0 k = 10 := by unfold tkE; rw [if_neg (by simp), if_neg hk, if_pos hl]
        have e2 : fxL l 0 k = l := by unfold fxL; rw [e1]; rfl
        have e3 : fxB l 0 k = [] := by unfold fxB; rw [e1]; rfl
        rw [e1, e2, e3]
        unfold RV
        have hl' : ((strB l).size : Int) < k := by rw [strB_size]; exact hl
        clear e1 e2 e3 hl
        go_enter Try.func16, Try.ntmps16
        go_wp2_with fail
        refine bodyPost_ret (v := .tuple #[.agg #[.string (strB l), .int .i64 10], .string (strB [])]) (by simp [results, Try.results16, go_sem]; rfl) rfl ⟨rfl, b2 _ _⟩
      · have e1 : tkE l 0 k = 0 := by unfold tkE; rw [if_neg (by simp), if_neg hk, if_neg hl]
        have e2 : fxL l 0 k = l.drop k.toNat := by unfold fxL; rw [if_pos e1]
        have e3 : fxB l 0 k = l.take k.toNat := by unfold fxB; rw [if_pos e1]
        rw [e1, e2, e3]
        unfold RV
        have hl' : k ≤ ((strB l).size : Int) := by rw [strB_size]; omega
        have E1 := Lib.hid (strB_to l k.toNat)
        have E2 := Lib.hid (strB_from l k.toNat)
        clear e1 e2 e3 hl
        go_enter Try.func16, Try.ntmps16
        go_wp2_with fail
        rw [E1.out, E2.out]
        refine bodyPost_ret (v := .tuple #[.agg #[.string (strB (l.drop k.toNat)), .int .i64 0], .string (strB (l.take k.toNat))]) (by simp [results, Try.results16, go_sem]) rfl ⟨rfl, b2 _ _⟩
  · have e1 : tkE l e k = e := by unfold tkE; rw [if_pos he]
    have e2 : fxL l e k = l := by unfold fxL; rw [e1, if_neg he]
    have e3 : fxB l e k = [] := by unfold fxB; rw [e1, if_neg he]
    rw [e1, e2, e3]
    have he' : (e != 0) = true := by simpa using he
    unfold RV
    clear he e1 e2 e3
    go_enter Try.func16, Try.ntmps16
    go_wp2_with fail
    refine bodyPost_ret (v := .tuple #[.agg #[.string (strB l), .int .i64 e], .string (strB [])]) (by simp [results, Try.results16, go_sem]; rfl) rfl ⟨rfl, b2 _ _⟩
end Go.Proofs.Ytbdondgonghooaa
