/-
  The statement WalTorn, by values: what holds ahead of each Add.
-/
import Derived.Test.YtkhbmgmppoepjaaWalAgain
namespace Go.Proofs.Ytkhbmgmppoepjaa
open Go.RowKit

structure TnP (d : DM) (M : LM) (tl : List (List UInt8)) (top : Nat) : Prop where
  on : OnD d M 0 40
  lo : Lo (blocksOf d.l ((0 : Nat) : Int) ((40 : Nat) : Int))
  op : openM (blocksOf d.l ((0 : Nat) : Int) ((40 : Nat) : Int)) ((0 : Nat) : Int) ((40 : Nat) : Int) = M
  recs : M.l = tl
  next : M.next ≤ top
  len : d.l.length = 40
theorem TnP.start : TnP (newM ((40 : Nat) : Int)).1 (beginM (openM (blocksOf (newM ((40 : Nat) : Int)).1.l ((0 : Nat) : Int) ((40 : Nat) : Int)) ((0 : Nat) : Int) ((40 : Nat) : Int)) ((0 : Nat) : Int) ((40 : Nat) : Int) 1) [] 1 := by
  have h := RowP.start (k := 40) (f := 0) (n := 40) (by omega) (by omega) (by omega)
  refine ⟨h.on, ?_, h.op, h.recs, by have := h.next; omega, by decide +kernel⟩
  rw [newM_at 40 (by omega) (by omega)]
  exact zero_lo 40 0 40
theorem TnP.stop {d : DM} {M : LM} {tl : List (List UInt8)} {top : Nat} (h : TnP d M tl top) {after torn : Int} (ha : -9223372036854775808 ≤ after ∧ after ≤ 9223372036854775807) : TnP (stopM d after torn) M tl top := ⟨h.on.stop ha, h.lo, h.op, h.recs, h.next, h.len⟩
theorem TnP.ok {d : DM} {M : LM} {tl : List (List UInt8)} {top : Nat} (h : TnP d M tl top) (ht : top < 65536) : M.Ok := h.on.okL (by omega) (by omega) (by omega) (by have := h.next; omega)
theorem TnP.go {d : DM} {M : LM} {tl : List (List UInt8)} {top : Nat} (h : TnP d M tl top) (ht : top + 300 < 65536) (b : List UInt8) (hb : b.length ≤ 300) (he : (addM d M b).2.2 = 0) : TnP (addM d M b).1 (addM d M b).2.1 (tl ++ [b]) (top + 300) := by
  have hK := blocks3 hb
  have hn := h.next
  by_cases hfit : M.have_ + blocksN b.length ≤ 40
  · rcases addM_stop h.on h.lo (by rw [h.op]) b hfit (by omega) with ⟨e1, e2, e3, e4⟩ | ⟨e1, _⟩
    · have e5 : (addM d M b).2.1 = addOk M b := by rw [e1]
      rw [e5]
      refine ⟨e2, e3, e4, by rw [addOk, h.recs], ?_, by rw [addM_len]; exact h.len⟩
      rw [addOk]
      simp only
      omega
    · rw [e1] at he
      exact absurd he (by decide)
  · rw [addM_full h.on b (by omega)] at he
    exact absurd (show (31 : Int) = 0 from he) (by decide)
theorem TnP.err {d : DM} {M : LM} {tl : List (List UInt8)} {top : Nat} (h : TnP d M tl top) (ht : top + 300 < 65536) (b : List UInt8) (hb : b.length ≤ 300) (he : (addM d M b).2.2 ≠ 0) :
    ((addM d M b).2.2 = 30 ∨ (addM d M b).2.2 = 31) ∧ ∃ t2, (t2 = tl ∨ t2 = tl ++ [b]) ∧ TnP (restartM (addM d M b).1) (openM (blocksOf (restartM (addM d M b).1).l ((0 : Nat) : Int) ((40 : Nat) : Int)) ((0 : Nat) : Int) ((40 : Nat) : Int)) t2 (top + 300) := by
  have hK := blocks3 hb
  have hn := h.next
  have hlen : (restartM (addM d M b).1).l.length = 40 := by show (addM d M b).1.l.length = 40; rw [addM_len]; exact h.len
  have hok : (restartM (addM d M b).1).Ok := restartM_ok (addM_ok h.on.ok)
  have hrl : (restartM (addM d M b).1).l = (addM d M b).1.l := rfl
  by_cases hfit : M.have_ + blocksN b.length ≤ 40
  · rcases addM_stop h.on h.lo (by rw [h.op]) b hfit (by omega) with ⟨e1, _⟩ | ⟨e1, e2, e3, e4⟩
    · rw [e1] at he
      exact absurd rfl he
    · refine ⟨.inl e1, _, (by rw [← h.recs]; exact e3), ?_⟩
      have hon := open_on (d := restartM (addM d M b).1) (f := 0) (n := 40) hok rfl (by rw [hlen]; omega) (by rw [hrl]; omega)
      rw [hrl] at hon ⊢
      refine ⟨hon, by rw [hrl]; exact e2, by rw [hrl], rfl, ?_, hlen⟩
      show (mostL _ + 1) % 18446744073709551616 ≤ _
      omega
  · have hf := addM_full h.on b (by omega)
    refine ⟨.inr (by rw [hf]), tl, .inl rfl, ?_⟩
    rw [hf]
    have hrl2 : (restartM d).l = d.l := rfl
    simp only
    rw [hrl2, h.op]
    exact ⟨h.on.restart, h.lo, h.op, h.recs, by omega, h.len⟩
end Go.Proofs.Ytkhbmgmppoepjaa
