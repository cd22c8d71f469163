/-
  codec.Reader, its further methods; NewReader.
-/
import Derived.Test.YtbdondgonghooaaCodecRead
namespace Go.Proofs.Ytbdondgonghooaa
open Go.RowKit Codec

/-- Uint: value, what is left, error. -/
def uiX (l : List UInt8) (e : Int) : Nat := if e = 0 then (rd 0 l).1 else 0
def uiL (l : List UInt8) (e : Int) : List UInt8 := if e = 0 then l.drop (rd 0 l).2.1 else l
def uiE (l : List UInt8) (e : Int) : Int := if e = 0 then (rd 0 l).2.2 else e

theorem uiX_lt (l : List UInt8) (e : Int) : uiX l e < 18446744073709551616 := by
  unfold uiX
  split
  · have := rd_bound 0 l (by omega); simp at this; omega
  · omega
theorem uiL_length (l : List UInt8) (e : Int) : (uiL l e).length ≤ l.length := by unfold uiL; split <;> simp

theorem uint_any {w : World} {S : Nat → Prop} {p : Nat} {l : List UInt8} {e : Int} (h : Rd w S p l e) :
    Calls Try.prog 11 #[.pointer (some ⟨p, 0, none⟩)] w fun r w' => r = .returned (.int .u64 (uiX l e)) ∧ Rd w' S p (uiL l e) (uiE l e) ∧ w.grownBy w' (some p) := by
  unfold uiX uiL uiE
  by_cases he : e = 0
  · subst he
    simp only [if_true]
    exact uint_ok h
  · simp only [he, if_false]
    exact (uint_bad h (by simpa using he)).mono (by rintro _ _ ⟨rfl, rfl⟩; exact ⟨rfl, h, gr_refl _ _⟩)

/-- Bytes: error, what is left, the bytes. -/
def byE (l : List UInt8) (e most : Int) : Int := if uiE l e ≠ 0 then uiE l e else if most < 0 ∨ most < (uiX l e : Int) then 13 else tkE (uiL l e) 0 (uiX l e)
def byL (l : List UInt8) (e most : Int) : List UInt8 := if uiE l e ≠ 0 then uiL l e else if most < 0 ∨ most < (uiX l e : Int) then uiL l e else fxL (uiL l e) 0 (uiX l e)
def byB (l : List UInt8) (e most : Int) : List UInt8 := if uiE l e ≠ 0 then [] else if most < 0 ∨ most < (uiX l e : Int) then [] else fxB (uiL l e) 0 (uiX l e)

theorem Rd.mono {w : World} {S T : Nat → Prop} {p : Nat} {l : List UInt8} {e : Int} (h : Rd w S p l e) (hS : ∀ b, b < w.heap.size → S b → T b) : Rd w T p l e := by
  have hlt := h.lt
  obtain ⟨hB, A, n, c, hh, hy⟩ := h
  exact ⟨hS _ hlt hB, A, n, c, hh, hy.mono hS⟩
/-- What a reader does not hold may turn. -/
theorem Rd.grown {w w' : World} {S : Nat → Prop} {p : Nat} {l : List UInt8} {e : Int} (h : Rd w S p l e) {row : Option Nat} (hg : w.grownBy w' row) (hr : ∀ g, row = some g → ¬ S g) : Rd w' S p l e := by
  have hlt := h.lt
  obtain ⟨hB, A, n, c, hh, hy⟩ := h
  exact ⟨hB, A, n, c, (hg.block p hlt (fun e => hr p e.symm hB)).trans hh, hy.grown hg fun g hgr => .inl (hr g hgr)⟩
theorem Rd.set_err {w : World} {S : Nat → Prop} {p : Nat} {l : List UInt8} {e : Int} (h : Rd w S p l e) (er : Int) : Rd (w.setCell ⟨p, 1, none⟩ (.int .i64 er)) S p l er := by
  obtain ⟨hB, A, n, c, hh, hy⟩ := h
  exact ⟨hB, A, n, c, by simpa using set_of_cells hh 1 (.int .i64 er), hy.far (nou8_of_cells hh) _⟩
theorem Rd.free {w : World} {S : Nat → Prop} {p : Nat} {l : List UInt8} {e : Int} (h : Rd w S p l e) : w.frozen? ⟨p, 1, none⟩ = false := by
  obtain ⟨_, A, n, c, hh, _⟩ := h
  exact free_of_cells hh 1
theorem Rd.cell1 {w : World} {S : Nat → Prop} {p : Nat} {l : List UInt8} {e : Int} (h : Rd w S p l e) : w.cell? ⟨p, 1, none⟩ = some (.int .i64 e) := by
  obtain ⟨_, A, n, c, hh, _⟩ := h
  rw [cell_of_cells hh 1]; rfl

set_option maxHeartbeats 1000000 in
theorem bytes_any {w : World} {S : Nat → Prop} {p : Nat} {l : List UInt8} {e most : Int} (h : Rd w S p l e) (hl : l.length ≤ 140737488355328) (hm : most ≤ 9223372036854775807) :
    Calls Try.prog 13 #[.pointer (some ⟨p, 0, none⟩), .int .i64 most] w (Got w S p (byB l e most) (byL l e most) (byE l e most)) := by
  have hx := uiX_lt l e
  have hul := uiL_length l e
  have hc := uint_any h
  unfold byB byL byE
  generalize uiX l e = x at *
  generalize uiL l e = l1 at *
  generalize uiE l e = e1 at *
  by_cases he : e1 = 0
  · subst he
    simp only [ne_eq, not_true, if_false]
    by_cases h0 : most < 0
    · simp only [h0, true_or, if_true]
      go_enter Try.func13, Try.ntmps13
      go_wp2_with fail
      refine hc.mono ?_
      rintro _ w1 ⟨rfl, hR, hb⟩
      have hf := hR.free
      have h1 := hR.cell1
      go_wp2_with fail
      refine (err_rd hR).mono ?_
      rintro _ _ ⟨rfl, rfl⟩
      go_wp2_with fail
      go_ret
      exact ⟨none, 0, 0, rfl, Byt.nil _ _ _ _ (Nat.zero_le _), hR.set_err 13, gr_set hb _ _, FreeRow.none_ _⟩
    · by_cases hx2 : most < (x : Int)
      · simp only [h0, hx2, false_or, if_true]
        go_enter Try.func13, Try.ntmps13
        go_wp2_with fail
        refine hc.mono ?_
        rintro _ w1 ⟨rfl, hR, hb⟩
        have hf := hR.free
        have h1 := hR.cell1
        go_wp2_with fail
        refine (err_rd hR).mono ?_
        rintro _ _ ⟨rfl, rfl⟩
        go_wp2_with fail
        go_ret
        exact ⟨none, 0, 0, rfl, Byt.nil _ _ _ _ (Nat.zero_le _), hR.set_err 13, gr_set hb _ _, FreeRow.none_ _⟩
      · simp only [h0, hx2, false_or, if_false]
        go_enter Try.func13, Try.ntmps13
        go_wp2_with fail
        refine hc.mono ?_
        rintro _ w1 ⟨rfl, hR, hb⟩
        go_wp2_with fail
        refine (err_rd hR).mono ?_
        rintro _ _ ⟨rfl, rfl⟩
        go_wp2_with fail
        refine (fixed_any hR (by omega)).mono ?_
        rintro _ w2 ⟨A, n, c, rfl, hY, hR2, hb2, hF2⟩
        go_wp2_with fail
        go_ret
        exact ⟨A, n, c, rfl, hY.mono (fun _ _ h => Nat.le_trans hb.size h), hR2, gr_trans hb hb2, hF2⟩
  · simp only [ne_eq, he, not_false_iff, if_true]
    have he2 : (e1 != 0) = true := by simpa using he
    clear he
    go_enter Try.func13, Try.ntmps13
    go_wp2_with fail
    refine hc.mono ?_
    rintro _ w1 ⟨rfl, hR, hb⟩
    go_wp2_with fail
    refine (err_rd hR).mono ?_
    rintro _ _ ⟨rfl, rfl⟩
    go_wp2_with fail
    go_ret
    exact ⟨none, 0, 0, rfl, Byt.nil _ _ _ _ (Nat.zero_le _), hR, hb, FreeRow.none_ _⟩

/-- Bool: error, what is left, the answer. -/
def boE (l : List UInt8) (e : Int) : Int := if tkE l e 1 ≠ 0 then tkE l e 1 else if 1 < (l[0]?.getD 0).toNat then 11 else 0
def boX (l : List UInt8) (e : Int) : Bool := if tkE l e 1 ≠ 0 then false else (l[0]?.getD 0).toNat == 1

set_option maxHeartbeats 1000000 in
theorem bool_any {w : World} {S : Nat → Prop} {p : Nat} {l : List UInt8} {e : Int} (h : Rd w S p l e) :
    Calls Try.prog 17 #[.pointer (some ⟨p, 0, none⟩)] w fun r w' => r = .returned (.bool (boX l e)) ∧ Rd w' S p (fxL l e 1) (boE l e) ∧ w.grownBy w' (some p) := by
  have hnil := fun (w : World) (a : Option Addr) (n c : Nat) => Lib.run_eql_slice_nil (P := Try.prog) w 22 5 a n c 0 0 Try.underlying22
  unfold boX boE fxL
  by_cases hk : tkE l e 1 = 0
  · obtain ⟨rfl, _, h1⟩ := tkE_zero hk
    simp only [hk, ne_eq, not_true, if_false, if_true]
    have ht := take_ok (m := 1) h (by simpa using h1)
    clear hk
    generalize hd : (l[0]?.getD 0).toNat = d at *
    have HD := Lib.hid hd
    clear hd
    by_cases hd1 : 1 < d
    · simp only [hd1, if_true]
      have hd2 : 1 < (d : Int) := by omega
      have hd3 : (d == 1) = false := by simp; omega
      rw [hd3]
      go_enter Try.func17, Try.ntmps17
      go_wp2_with fail
      refine ht.mono ?_
      rintro _ w1 ⟨A, rfl, hR, hY, hb⟩
      obtain ⟨bb, off, rfl, _, _, hcell⟩ := hY.row (by omega)
      have hc0 := hcell 0 (by omega)
      rw [List.getElem?_take_of_lt (by omega), HD.out, Nat.add_zero] at hc0
      have hf := hR.free
      have h1 := hR.cell1
      clear hcell hY
      go_wp2
      go_ret
      exact ⟨rfl, hR.set_err 11, gr_set hb _ _⟩
    · simp only [hd1, if_false]
      have hd2 : (d : Int) ≤ 1 := by omega
      go_enter Try.func17, Try.ntmps17
      go_wp2_with fail
      refine ht.mono ?_
      rintro _ w1 ⟨A, rfl, hR, hY, hb⟩
      obtain ⟨bb, off, rfl, _, _, hcell⟩ := hY.row (by omega)
      have hc0 := hcell 0 (by omega)
      rw [List.getElem?_take_of_lt (by omega), HD.out, Nat.add_zero] at hc0
      clear hcell hY
      go_wp2
      go_ret
      refine ⟨?_, hR, hb⟩
      have : ((d : Int) == 1) = (d == 1) := by rw [Bool.eq_iff_iff]; simp; omega
      simp [this]
  · simp only [hk, ne_eq, not_false_iff, if_true, if_false]
    have ht := take_bad h hk
    go_enter Try.func17, Try.ntmps17
    go_wp2_with fail
    refine ht.mono ?_
    rintro _ w1 ⟨rfl, hR, hb⟩
    go_wp2
    go_ret
    exact ⟨rfl, hR, hb⟩

set_option maxHeartbeats 1000000 in
theorem newReader {w : World} {S : Nat → Prop} {n c : Nat} {A : Option Addr} {l : List UInt8} (h : Byt w S A n c l) (hn : n ≤ 140737488355328) :
    Calls Try.prog 10 #[.slice A n c] w fun r w' => ∃ p, r = .returned (.pointer (some ⟨p, 0, none⟩)) ∧ Rd w' (w.heap.size ≤ ·) p l 0 ∧ Below w.heap.size w w' := by
  go_enter Try.func10, Try.ntmps10
  go_wp2_with fail
  refine (clone_byt h hn).mono ?_
  rintro _ w1 ⟨A2, c2, rfl, hY, hb, _⟩
  go_wp2
  go_ret
  exact ⟨w1.heap.size, rfl, ⟨hb.size, A2, n, c2, heap_alloc_new w1 _, hY.alloc _⟩, hb.alloc hb.size _⟩

end Go.Proofs.Ytbdondgonghooaa
