/-
  codec.Reader: what each of its methods does, told of a reader that reads as a list of bytes with an error ('Rd').
  codec.Reader, its further methods; NewReader.
  Cells, pure: changes, names with bytes in order, the records of them, how they are read again.
  Cells: a map of names with bytes, in memory.
  make([]byte, n), and a block of bytes known whole.
  Rows of bytes: a slice of slices of bytes that reads as a list of rows.
-/
import Derived.Test.YtcgnaomffioldaaGreatPk01
import Derived.Maps.OwnSet
import Derived.Sort.KeysCollected
import Derived.StringKeys
/-! codec.Reader: what each of its methods does, told of a reader that reads as a list of bytes with an error ('Rd'). -/
namespace Go.Proofs.YtcgnaomffioldaaGreat
open Go.RowKit Codec

/-- THE STRUCT AT BLOCK p IS A READER: the bytes l are left, its error is e; all its memory lies in blocks of S. -/
def Rd (w : World) (S : Nat → Prop) (p : Nat) (l : List UInt8) (e : Int) : Prop := S p ∧ ∃ A n c, w.heap[p]? = some (.cells #[.slice A n c, .int .i64 e] 174 (0, 0)) ∧ Byt w S A n c l

section
variable {w w' : World} {S : Nat → Prop} {p : Nat} {l : List UInt8} {e : Int}
theorem nou8_of_cells {A : Option Addr} {n c : Nat} {t : TypeId} {f : Nat × Nat} (h : w.heap[p]? = some (.cells #[.slice A n c, .int .i64 e] t f)) : ∀ o x, w.cell? ⟨p, o, none⟩ ≠ some (.int .u8 x) := by
  intro o x
  rw [cell_of_cells h]
  rcases o with _ | _ | o <;> simp

theorem Rd.lt (h : Rd w S p l e) : p < w.heap.size := by
  obtain ⟨_, A, n, c, hh, _⟩ := h
  exact lt_of_cells hh
theorem Rd.below (h : Rd w S p l e) (hb : Below w.heap.size w w') : Rd w' S p l e := by
  obtain ⟨hB, A, n, c, hh, hy⟩ := h
  exact ⟨hB, A, n, c, (hb.block p (lt_of_cells hh)).trans hh, hy.below hb⟩
end

theorem err_rd {w : World} {S : Nat → Prop} {p : Nat} {l : List UInt8} {e : Int} (h : Rd w S p l e) :
    Calls Tryz.prog 107 #[.pointer (some ⟨p, 0, none⟩)] w fun r w' => r = .returned (.int .i64 e) ∧ w = w' := by
  obtain ⟨hB, A, n, c, hh, hy⟩ := h
  have h0 := cell_of_cells hh 1
  simp only [List.getElem?_toArray, List.getElem?_cons_succ, List.getElem?_cons_zero] at h0
  clear hh hy
  go_enter Tryz.func107, Tryz.ntmps107
  go_wp2
  go_ret
  exact ⟨rfl, rfl⟩

theorem err_nil (w : World) :
    Calls Tryz.prog 107 #[.pointer none] w fun r w' => r = .returned (.int .i64 1) ∧ w = w' := by
  go_enter Tryz.func107, Tryz.ntmps107
  go_wp2
  go_ret
  exact ⟨rfl, rfl⟩

set_option maxHeartbeats 1000000 in
/-- Uint behind an error. -/
theorem uint_bad {w : World} {S : Nat → Prop} {p : Nat} {l : List UInt8} {e : Int} (h : Rd w S p l e) (he : (e == 0) = false) :
    Calls Tryz.prog 81 #[.pointer (some ⟨p, 0, none⟩)] w fun r w' => r = .returned (.int .u64 0) ∧ w = w' := by
  have he2 : (e != 0) = true := by simpa using he
  go_enter Tryz.func81, Tryz.ntmps81
  go_wp2_with (go_at_call 107; refine (err_rd h).mono ?_; rintro r w' ⟨rfl, rfl⟩)
  go_ret
  exact ⟨rfl, rfl⟩

set_option maxHeartbeats 1000000 in
/-- Uint. -/
theorem uint_ok {w : World} {S : Nat → Prop} {p : Nat} {l : List UInt8} (h : Rd w S p l 0) :
    Calls Tryz.prog 81 #[.pointer (some ⟨p, 0, none⟩)] w fun r w' => r = .returned (.int .u64 (rd 0 l).1) ∧ Rd w' S p (l.drop (rd 0 l).2.1) (rd 0 l).2.2 ∧ w.grownBy w' (some p) := by
  have h' := h
  obtain ⟨hB, A, n, c, hh, hy⟩ := h
  have h0 := cell_of_cells hh 0
  have h1 := cell_of_cells hh 1
  simp only [List.getElem?_toArray, List.getElem?_cons_succ, List.getElem?_cons_zero] at h0 h1
  have f0 := free_of_cells hh 0
  have f1 := free_of_cells hh 1
  have hk : (rd 0 l).2.1 ≤ n := by have := rd_le 0 l; have := hy.len; omega
  have hcut := run_cut (P := Tryz.prog) 54 5 Tryz.underlying54 u8_size A n c (rd 0 l).2.1 hk
  have hnum := number_byt hy
  generalize hr : rd 0 l = r at *
  have HR := Lib.hid hr
  clear hr
  obtain ⟨x, k, er⟩ := r
  go_enter Tryz.func81, Tryz.ntmps81
  go_wp2_with fail
  refine (err_rd h').mono ?_
  rintro _ _ ⟨rfl, rfl⟩
  go_wp2_with fail
  refine hnum.mono ?_
  rintro _ _ ⟨rfl, rfl⟩
  go_wp2_with fail
  go_ret
  refine ⟨rfl, ⟨hB, cutA A c k, n - k, c - k, ?_, ?_⟩, gr_set (gr_set (gr_refl _ _) _ _) _ _⟩
  · have e1 := set_of_cells hh 1 (.int .i64 er)
    have e2 := set_of_cells e1 0 (.slice (cutA A c k) (n - k) (c - k))
    simpa using e2
  · have e1 := set_of_cells hh 1 (.int .i64 er)
    exact ((hy.cut hk).far (nou8_of_cells hh) _).far (nou8_of_cells (by simpa using e1)) _

/-- The error behind a call that takes k bytes. -/
def tkE (l : List UInt8) (e k : Int) : Int := if e ≠ 0 then e else if k < 0 then 1 else if (l.length : Int) < k then 10 else 0

set_option maxHeartbeats 1000000 in
/-- take, told an error. -/
theorem ctake_bad {w : World} {S : Nat → Prop} {p : Nat} {l : List UInt8} {e k : Int} (h : Rd w S p l e) (hk : tkE l e k ≠ 0) :
    Calls Tryz.prog 110 #[.pointer (some ⟨p, 0, none⟩), .int .i64 k] w fun r w' => r = .returned (.slice none 0 0) ∧ Rd w' S p l (tkE l e k) ∧ w.grownBy w' (some p) := by
  have h' := h
  obtain ⟨hB, A, n, c, hh, hy⟩ := h
  have h0 := cell_of_cells hh 0
  have h1 := cell_of_cells hh 1
  simp only [List.getElem?_toArray, List.getElem?_cons_succ, List.getElem?_cons_zero] at h0 h1
  have f0 := free_of_cells hh 0
  have f1 := free_of_cells hh 1
  have hl := hy.len
  unfold tkE at hk ⊢
  have fin : ∀ er : Int, Rd (w.setCell ⟨p, 1, none⟩ (.int .i64 er)) S p l er := fun er =>
    ⟨hB, A, n, c, by simpa using set_of_cells hh 1 (.int .i64 er), hy.far (nou8_of_cells hh) _⟩
  by_cases he : e = 0
  · subst he
    by_cases hk0 : k < 0
    · simp only [ne_eq, not_true, if_false, if_pos hk0] at hk ⊢
      clear hh hy hl
      go_enter Tryz.func110, Tryz.ntmps110
      go_wp2_with (go_at_call 107; refine (err_rd h').mono ?_; rintro _ _ ⟨rfl, rfl⟩)
      go_ret
      exact ⟨rfl, fin 1, gr_set (gr_refl _ _) _ _⟩
    · by_cases hk1 : (l.length : Int) < k
      · simp only [ne_eq, not_true, if_false, if_neg hk0, if_pos hk1] at hk ⊢
        have hk2 : (n : Int) < k := by omega
        clear hh hy hl hk1
        go_enter Tryz.func110, Tryz.ntmps110
        go_wp2_with (go_at_call 107; refine (err_rd h').mono ?_; rintro _ _ ⟨rfl, rfl⟩)
        go_ret
        exact ⟨rfl, fin 10, gr_set (gr_refl _ _) _ _⟩
      · simp [hk0, hk1] at hk
  · simp only [ne_eq, he, not_false_iff, if_true] at hk ⊢
    have he2 : (e != 0) = true := by simpa using he
    clear hh hy hl he hk
    go_enter Tryz.func110, Tryz.ntmps110
    go_wp2_with (go_at_call 107; refine (err_rd h').mono ?_; rintro _ _ ⟨rfl, rfl⟩)
    go_ret
    exact ⟨rfl, h', gr_refl _ _⟩

set_option maxHeartbeats 1000000 in
/-- take, told m bytes. -/
theorem take_ok {w : World} {S : Nat → Prop} {p : Nat} {l : List UInt8} {m : Nat} (h : Rd w S p l 0) (hm : m ≤ l.length) :
    Calls Tryz.prog 110 #[.pointer (some ⟨p, 0, none⟩), .int .i64 m] w fun r w' => ∃ A, r = .returned (.slice A m m) ∧ Rd w' S p (l.drop m) 0 ∧ Byt w' S A m m (l.take m) ∧ w.grownBy w' (some p) := by
  have h' := h
  obtain ⟨hB, A, n, c, hh, hy⟩ := h
  have h0 := cell_of_cells hh 0
  have h1 := cell_of_cells hh 1
  simp only [List.getElem?_toArray, List.getElem?_cons_succ, List.getElem?_cons_zero] at h0 h1
  have f0 := free_of_cells hh 0
  have f1 := free_of_cells hh 1
  have hl := hy.len
  have hk : m ≤ n := by omega
  have hkc : m ≤ c := by have := hy.cap; omega
  have hk2 : ¬ (n : Int) < (m : Int) := by omega
  have hk3 : ¬ (m : Int) < 0 := by omega
  have hcut := run_cut (P := Tryz.prog) 54 5 Tryz.underlying54 u8_size A n c m hk
  have hfront := run_front (P := Tryz.prog) 54 5 Tryz.underlying54 u8_size A n c m hkc
  have fin : Rd (w.setCell ⟨p, 0, none⟩ (.slice (cutA A c m) (n - m) (c - m))) S p (l.drop m) 0 ∧ Byt (w.setCell ⟨p, 0, none⟩ (.slice (cutA A c m) (n - m) (c - m))) S A m m (l.take m) :=
    ⟨⟨hB, _, _, _, by simpa using set_of_cells hh 0 (.slice (cutA A c m) (n - m) (c - m)), (hy.cut hk).far (nou8_of_cells hh) _⟩, (hy.take hk).far (nou8_of_cells hh) _⟩
  clear hh hy hl
  go_enter Tryz.func110, Tryz.ntmps110
  go_wp2_with (go_at_call 107; refine (err_rd h').mono ?_; rintro _ _ ⟨rfl, rfl⟩)
  go_ret
  exact ⟨A, rfl, fin.1, fin.2, gr_set (gr_refl _ _) _ _⟩

/-- What Fixed gives, and what it leaves. -/
def fxB (l : List UInt8) (e k : Int) : List UInt8 := if tkE l e k = 0 then l.take k.toNat else []
def fxL (l : List UInt8) (e k : Int) : List UInt8 := if tkE l e k = 0 then l.drop k.toNat else l

theorem tkE_zero {l : List UInt8} {e k : Int} (h : tkE l e k = 0) : e = 0 ∧ 0 ≤ k ∧ k.toNat ≤ l.length := by
  unfold tkE at h
  by_cases he : e = 0
  · subst he
    by_cases h1 : k < 0
    · simp [h1] at h
    · by_cases h2 : (l.length : Int) < k
      · simp [h1, h2] at h
      · exact ⟨rfl, by omega, by omega⟩
  · simp [he] at h

/-- The post of Fixed and Bytes: a row b in new memory, the reader then. -/
def Got (w : World) (S : Nat → Prop) (p : Nat) (b l : List UInt8) (e : Int) (r : Ending) (w' : World) : Prop :=
  ∃ A n c, r = .returned (.slice A n c) ∧ Byt w' (w.heap.size ≤ ·) A n c b ∧ Rd w' S p l e ∧ w.grownBy w' (some p) ∧ FreeRow w' A

set_option maxHeartbeats 1000000 in
theorem fixed_any {w : World} {S : Nat → Prop} {p : Nat} {l : List UInt8} {e k : Int} (h : Rd w S p l e) (hl : l.length ≤ 140737488355328) :
    Calls Tryz.prog 109 #[.pointer (some ⟨p, 0, none⟩), .int .i64 k] w (Got w S p (fxB l e k) (fxL l e k) (tkE l e k)) := by
  unfold fxB fxL
  by_cases hk : tkE l e k = 0
  · obtain ⟨rfl, h0, h1⟩ := tkE_zero hk
    obtain ⟨m, rfl⟩ := Int.eq_ofNat_of_zero_le h0
    simp only [Int.toNat_natCast] at h1
    rw [if_pos hk, if_pos hk, hk, Int.toNat_natCast]
    clear hk
    go_enter Tryz.func109, Tryz.ntmps109
    go_wp2_with fail
    refine (take_ok h h1).mono ?_
    rintro _ w1 ⟨A, rfl, hR, hY, hb⟩
    go_wp2_with fail
    refine (clone_byt hY (by omega)).mono ?_
    rintro _ w2 ⟨A2, c2, rfl, hY2, hb2, _, hF2⟩
    go_wp2_with fail
    go_ret
    exact ⟨A2, m, c2, rfl, hY2.mono (fun _ _ h => Nat.le_trans hb.size h), hR.below hb2, gr_below hb hb2, hF2⟩
  · rw [if_neg hk, if_neg hk]
    go_enter Tryz.func109, Tryz.ntmps109
    go_wp2_with fail
    refine (ctake_bad h hk).mono ?_
    rintro _ w1 ⟨rfl, hR, hb⟩
    go_wp2_with fail
    refine (clone_byt (Byt.nil w1 (fun _ => True) none 0 (Nat.zero_le _)) (by omega)).mono ?_
    rintro _ w2 ⟨A2, c2, rfl, hY2, hb2, _, hF2⟩
    go_wp2_with fail
    go_ret
    exact ⟨A2, 0, c2, rfl, hY2.mono (fun _ _ h => Nat.le_trans hb.size h), hR.below hb2, gr_below hb hb2, hF2⟩

/-- End. -/
def endE (l : List UInt8) (e : Int) : Int := if e ≠ 0 then e else if l = [] then 0 else 12

set_option maxHeartbeats 1000000 in
theorem end_rd {w : World} {S : Nat → Prop} {p : Nat} {l : List UInt8} {e : Int} (h : Rd w S p l e) :
    Calls Tryz.prog 83 #[.pointer (some ⟨p, 0, none⟩)] w fun r w' => r = .returned (.int .i64 (endE l e)) ∧ w = w' := by
  have h' := h
  obtain ⟨hB, A, n, c, hh, hy⟩ := h
  have h0 := cell_of_cells hh 0
  simp only [List.getElem?_toArray, List.getElem?_cons_zero] at h0
  have hl := hy.len
  unfold endE
  by_cases he : e = 0
  · subst he
    by_cases hn : l = []
    · subst hn
      simp at hl
      subst hl
      clear hh hy
      go_enter Tryz.func83, Tryz.ntmps83
      go_wp2_with (go_at_call 107; refine (err_rd h').mono ?_; rintro _ _ ⟨rfl, rfl⟩)
      go_ret
      exact ⟨rfl, rfl⟩
    · have hp : 0 < n := by
        rcases Nat.eq_zero_or_pos n with hz | hz
        · exact absurd (List.eq_nil_of_length_eq_zero (hl.trans hz)) hn
        · exact hz
      simp only [ne_eq, not_true, if_false, if_neg hn]
      clear hh hy hl hn
      go_enter Tryz.func83, Tryz.ntmps83
      go_wp2_with (go_at_call 107; refine (err_rd h').mono ?_; rintro _ _ ⟨rfl, rfl⟩)
      go_ret
      exact ⟨rfl, rfl⟩
  · have he2 : (e != 0) = true := by simpa using he
    simp only [ne_eq, he, not_false_iff, if_true]
    clear hh hy hl he
    go_enter Tryz.func83, Tryz.ntmps83
    go_wp2_with (go_at_call 107; refine (err_rd h').mono ?_; rintro _ _ ⟨rfl, rfl⟩)
    go_ret
    exact ⟨rfl, rfl⟩

end Go.Proofs.YtcgnaomffioldaaGreat

/-! codec.Reader, its further methods; NewReader. -/
namespace Go.Proofs.YtcgnaomffioldaaGreat
open Go.RowKit Codec

/-- Uint: value, what is left, error. -/
def uiX (l : List UInt8) (e : Int) : Nat := if e = 0 then (rd 0 l).1 else 0
def uiL (l : List UInt8) (e : Int) : List UInt8 := if e = 0 then l.drop (rd 0 l).2.1 else l
def uiE (l : List UInt8) (e : Int) : Int := if e = 0 then (rd 0 l).2.2 else e

theorem uiX_lt (l : List UInt8) (e : Int) : uiX l e < 18446744073709551616 := by
  unfold uiX
  split
  · have := rd_bound 0 l (by omega); simp at this; omega
  · omega
theorem uiL_length (l : List UInt8) (e : Int) : (uiL l e).length ≤ l.length := by unfold uiL; split <;> simp

theorem uint_any {w : World} {S : Nat → Prop} {p : Nat} {l : List UInt8} {e : Int} (h : Rd w S p l e) :
    Calls Tryz.prog 81 #[.pointer (some ⟨p, 0, none⟩)] w fun r w' => r = .returned (.int .u64 (uiX l e)) ∧ Rd w' S p (uiL l e) (uiE l e) ∧ w.grownBy w' (some p) := by
  unfold uiX uiL uiE
  by_cases he : e = 0
  · subst he
    simp only [if_true]
    exact uint_ok h
  · simp only [he, if_false]
    exact (uint_bad h (by simpa using he)).mono (by rintro _ _ ⟨rfl, rfl⟩; exact ⟨rfl, h, gr_refl _ _⟩)

/-- Bytes: error, what is left, the bytes. -/
def byE (l : List UInt8) (e most : Int) : Int := if uiE l e ≠ 0 then uiE l e else if most < 0 ∨ most < (uiX l e : Int) then 13 else tkE (uiL l e) 0 (uiX l e)
def byL (l : List UInt8) (e most : Int) : List UInt8 := if uiE l e ≠ 0 then uiL l e else if most < 0 ∨ most < (uiX l e : Int) then uiL l e else fxL (uiL l e) 0 (uiX l e)
def byB (l : List UInt8) (e most : Int) : List UInt8 := if uiE l e ≠ 0 then [] else if most < 0 ∨ most < (uiX l e : Int) then [] else fxB (uiL l e) 0 (uiX l e)

theorem Rd.mono {w : World} {S T : Nat → Prop} {p : Nat} {l : List UInt8} {e : Int} (h : Rd w S p l e) (hS : ∀ b, b < w.heap.size → S b → T b) : Rd w T p l e := by
  have hlt := h.lt
  obtain ⟨hB, A, n, c, hh, hy⟩ := h
  exact ⟨hS _ hlt hB, A, n, c, hh, hy.mono hS⟩
/-- What a reader does not hold may turn. -/
theorem Rd.grown {w w' : World} {S : Nat → Prop} {p : Nat} {l : List UInt8} {e : Int} (h : Rd w S p l e) {row : Option Nat} (hg : w.grownBy w' row) (hr : ∀ g, row = some g → ¬ S g) : Rd w' S p l e := by
  have hlt := h.lt
  obtain ⟨hB, A, n, c, hh, hy⟩ := h
  exact ⟨hB, A, n, c, (hg.block p hlt (fun e => hr p e.symm hB)).trans hh, hy.grown hg fun g hgr => .inl (hr g hgr)⟩
theorem Rd.set_err {w : World} {S : Nat → Prop} {p : Nat} {l : List UInt8} {e : Int} (h : Rd w S p l e) (er : Int) : Rd (w.setCell ⟨p, 1, none⟩ (.int .i64 er)) S p l er := by
  obtain ⟨hB, A, n, c, hh, hy⟩ := h
  exact ⟨hB, A, n, c, by simpa using set_of_cells hh 1 (.int .i64 er), hy.far (nou8_of_cells hh) _⟩
theorem Rd.free {w : World} {S : Nat → Prop} {p : Nat} {l : List UInt8} {e : Int} (h : Rd w S p l e) : w.frozen? ⟨p, 1, none⟩ = false := by
  obtain ⟨_, A, n, c, hh, _⟩ := h
  exact free_of_cells hh 1
theorem Rd.cell1 {w : World} {S : Nat → Prop} {p : Nat} {l : List UInt8} {e : Int} (h : Rd w S p l e) : w.cell? ⟨p, 1, none⟩ = some (.int .i64 e) := by
  obtain ⟨_, A, n, c, hh, _⟩ := h
  rw [cell_of_cells hh 1]; rfl

set_option maxHeartbeats 1000000 in
theorem bytes_any {w : World} {S : Nat → Prop} {p : Nat} {l : List UInt8} {e most : Int} (h : Rd w S p l e) (hl : l.length ≤ 140737488355328) (hm : most ≤ 9223372036854775807) :
    Calls Tryz.prog 82 #[.pointer (some ⟨p, 0, none⟩), .int .i64 most] w (Got w S p (byB l e most) (byL l e most) (byE l e most)) := by
  have hx := uiX_lt l e
  have hul := uiL_length l e
  have hc := uint_any h
  unfold byB byL byE
  generalize uiX l e = x at *
  generalize uiL l e = l1 at *
  generalize uiE l e = e1 at *
  by_cases he : e1 = 0
  · subst he
    simp only [ne_eq, not_true, if_false]
    by_cases h0 : most < 0
    · simp only [h0, true_or, if_true]
      go_enter Tryz.func82, Tryz.ntmps82
      go_wp2_with fail
      refine hc.mono ?_
      rintro _ w1 ⟨rfl, hR, hb⟩
      have hf := hR.free
      have h1 := hR.cell1
      go_wp2_with fail
      refine (err_rd hR).mono ?_
      rintro _ _ ⟨rfl, rfl⟩
      go_wp2_with fail
      go_ret
      exact ⟨none, 0, 0, rfl, Byt.nil _ _ _ _ (Nat.zero_le _), hR.set_err 13, gr_set hb _ _, FreeRow.none_ _⟩
    · by_cases hx2 : most < (x : Int)
      · simp only [h0, hx2, false_or, if_true]
        go_enter Tryz.func82, Tryz.ntmps82
        go_wp2_with fail
        refine hc.mono ?_
        rintro _ w1 ⟨rfl, hR, hb⟩
        have hf := hR.free
        have h1 := hR.cell1
        go_wp2_with fail
        refine (err_rd hR).mono ?_
        rintro _ _ ⟨rfl, rfl⟩
        go_wp2_with fail
        go_ret
        exact ⟨none, 0, 0, rfl, Byt.nil _ _ _ _ (Nat.zero_le _), hR.set_err 13, gr_set hb _ _, FreeRow.none_ _⟩
      · simp only [h0, hx2, false_or, if_false]
        go_enter Tryz.func82, Tryz.ntmps82
        go_wp2_with fail
        refine hc.mono ?_
        rintro _ w1 ⟨rfl, hR, hb⟩
        go_wp2_with fail
        refine (err_rd hR).mono ?_
        rintro _ _ ⟨rfl, rfl⟩
        go_wp2_with fail
        refine (fixed_any hR (by omega)).mono ?_
        rintro _ w2 ⟨A, n, c, rfl, hY, hR2, hb2, hF2⟩
        go_wp2_with fail
        go_ret
        exact ⟨A, n, c, rfl, hY.mono (fun _ _ h => Nat.le_trans hb.size h), hR2, gr_trans hb hb2, hF2⟩
  · simp only [ne_eq, he, not_false_iff, if_true]
    have he2 : (e1 != 0) = true := by simpa using he
    clear he
    go_enter Tryz.func82, Tryz.ntmps82
    go_wp2_with fail
    refine hc.mono ?_
    rintro _ w1 ⟨rfl, hR, hb⟩
    go_wp2_with fail
    refine (err_rd hR).mono ?_
    rintro _ _ ⟨rfl, rfl⟩
    go_wp2_with fail
    go_ret
    exact ⟨none, 0, 0, rfl, Byt.nil _ _ _ _ (Nat.zero_le _), hR, hb, FreeRow.none_ _⟩

/-- Bool: error, what is left, the answer. -/
def boE (l : List UInt8) (e : Int) : Int := if tkE l e 1 ≠ 0 then tkE l e 1 else if 1 < (l[0]?.getD 0).toNat then 11 else 0
def boX (l : List UInt8) (e : Int) : Bool := if tkE l e 1 ≠ 0 then false else (l[0]?.getD 0).toNat == 1

set_option maxHeartbeats 1000000 in
theorem bool_any {w : World} {S : Nat → Prop} {p : Nat} {l : List UInt8} {e : Int} (h : Rd w S p l e) :
    Calls Tryz.prog 84 #[.pointer (some ⟨p, 0, none⟩)] w fun r w' => r = .returned (.bool (boX l e)) ∧ Rd w' S p (fxL l e 1) (boE l e) ∧ w.grownBy w' (some p) := by
  have hnil := fun (w : World) (a : Option Addr) (n c : Nat) => Lib.run_eql_slice_nil (P := Tryz.prog) w 54 5 a n c 0 0 Tryz.underlying54
  unfold boX boE fxL
  by_cases hk : tkE l e 1 = 0
  · obtain ⟨rfl, _, h1⟩ := tkE_zero hk
    simp only [hk, ne_eq, not_true, if_false, if_true]
    have ht := take_ok (m := 1) h (by simpa using h1)
    clear hk
    generalize hd : (l[0]?.getD 0).toNat = d at *
    have HD := Lib.hid hd
    clear hd
    by_cases hd1 : 1 < d
    · simp only [hd1, if_true]
      have hd2 : 1 < (d : Int) := by omega
      have hd3 : (d == 1) = false := by simp; omega
      rw [hd3]
      go_enter Tryz.func84, Tryz.ntmps84
      go_wp2_with fail
      refine ht.mono ?_
      rintro _ w1 ⟨A, rfl, hR, hY, hb⟩
      obtain ⟨bb, off, rfl, _, _, hcell⟩ := hY.row (by omega)
      have hc0 := hcell 0 (by omega)
      rw [List.getElem?_take_of_lt (by omega), HD.out, Nat.add_zero] at hc0
      have hf := hR.free
      have h1 := hR.cell1
      clear hcell hY
      go_wp2
      go_ret
      exact ⟨rfl, hR.set_err 11, gr_set hb _ _⟩
    · simp only [hd1, if_false]
      have hd2 : (d : Int) ≤ 1 := by omega
      go_enter Tryz.func84, Tryz.ntmps84
      go_wp2_with fail
      refine ht.mono ?_
      rintro _ w1 ⟨A, rfl, hR, hY, hb⟩
      obtain ⟨bb, off, rfl, _, _, hcell⟩ := hY.row (by omega)
      have hc0 := hcell 0 (by omega)
      rw [List.getElem?_take_of_lt (by omega), HD.out, Nat.add_zero] at hc0
      clear hcell hY
      go_wp2
      go_ret
      refine ⟨?_, hR, hb⟩
      have : ((d : Int) == 1) = (d == 1) := by rw [Bool.eq_iff_iff]; simp; omega
      simp [this]
  · simp only [hk, ne_eq, not_false_iff, if_true, if_false]
    have ht := ctake_bad h hk
    go_enter Tryz.func84, Tryz.ntmps84
    go_wp2_with fail
    refine ht.mono ?_
    rintro _ w1 ⟨rfl, hR, hb⟩
    go_wp2
    go_ret
    exact ⟨rfl, hR, hb⟩

set_option maxHeartbeats 1000000 in
theorem newReader {w : World} {S : Nat → Prop} {n c : Nat} {A : Option Addr} {l : List UInt8} (h : Byt w S A n c l) (hn : n ≤ 140737488355328) :
    Calls Tryz.prog 80 #[.slice A n c] w fun r w' => ∃ p, r = .returned (.pointer (some ⟨p, 0, none⟩)) ∧ Rd w' (w.heap.size ≤ ·) p l 0 ∧ Below w.heap.size w w' := by
  go_enter Tryz.func80, Tryz.ntmps80
  go_wp2_with fail
  refine (clone_byt h hn).mono ?_
  rintro _ w1 ⟨A2, c2, rfl, hY, hb, _⟩
  go_wp2
  go_ret
  exact ⟨w1.heap.size, rfl, ⟨hb.size, A2, n, c2, heap_alloc_new w1 _, hY.alloc _⟩, hb.alloc hb.size _⟩

end Go.Proofs.YtcgnaomffioldaaGreat

/-! Cells, pure: changes, names with bytes in order, the records of them, how they are read again. -/
namespace Go.Proofs.YtcgnaomffioldaaGreat
open Go.RowKit Codec

/-- A CHANGE. -/
structure Ch where
  k : List UInt8
  v : List UInt8
  g : Bool
/-- NAMES WITH BYTES. -/
abbrev Tb := List (List UInt8 × List UInt8)
/-- May a change be? -/
def mayC (c : Ch) : Bool := decide (1 ≤ c.k.length) && decide (c.k.length ≤ 64) && decide (c.v.length ≤ if c.g then 0 else 4096)
/-- In order, no name twice. -/
def Srt (t : Tb) : Prop := t.Pairwise fun a b => a.1 < b.1
/-- A name's bytes. -/
def getT (t : Tb) (k : List UInt8) : Option (List UInt8) := (t.find? fun p => p.1 == k).map (·.2)
/-- Names behind a change. -/
def doC (t : Tb) (c : Ch) : Tb := (t.filter fun p => decide (p.1 < c.k)) ++ (if c.g then [] else [(c.k, c.v)]) ++ (t.filter fun p => decide (c.k < p.1))
def doL (t : Tb) (l : List Ch) : Tb := l.foldl doC t

theorem bytes_less : ∀ a b : List UInt8, Op.bytesLess a b = decide (a < b)
  | _, [] => by
    rename_i a
    cases a <;> simp [Op.bytesLess]
  | [], b :: y => by simp [Op.bytesLess]
  | a :: x, b :: y => by
    rw [Op.bytesLess, bytes_less x y]
    simp only [List.cons_lt_cons_iff]
    by_cases h : a < b <;> by_cases h2 : a = b <;> simp [h, h2]
theorem kle_of_not {a b : List UInt8} (h : ¬ a < b) : b ≤ a := List.not_lt.1 h
theorem klt_irr (a : List UInt8) : ¬ a < a := List.lt_irrefl a
theorem klt_tr {a b c : List UInt8} (h : a < b) (h' : b < c) : a < c := List.lt_trans h h'
theorem klt_as {a b : List UInt8} (h : a < b) : ¬ b < a := List.lt_asymm h
theorem klt_tri {a b : List UInt8} (h : ¬ a < b) (h' : ¬ b < a) : a = b := List.le_antisymm (List.not_lt.1 h') (List.not_lt.1 h)
theorem klt_ne {a b : List UInt8} (h : a < b) : a ≠ b := fun e => klt_irr b (e ▸ h)

theorem Srt.nil : Srt [] := List.Pairwise.nil
theorem Srt.chg {t : Tb} (h : Srt t) (c : Ch) : Srt (doC t c) := by
  unfold Srt doC
  refine List.pairwise_append.2 ⟨List.pairwise_append.2 ⟨h.filter _, by split <;> simp, ?_⟩, h.filter _, ?_⟩
  · intro a ha b hb
    have h1 : a.1 < c.k := by simpa using (List.mem_filter.1 ha).2
    split at hb
    · simp at hb
    · simp only [List.mem_singleton] at hb
      rw [hb]
      exact h1
  · intro a ha b hb
    have h2 : c.k < b.1 := by simpa using (List.mem_filter.1 hb).2
    rcases List.mem_append.1 ha with ha | ha
    · exact klt_tr (by simpa using (List.mem_filter.1 ha).2) h2
    · split at ha
      · simp at ha
      · simp only [List.mem_singleton] at ha
        rw [ha]
        exact h2
theorem Srt.chs {t : Tb} (h : Srt t) (l : List Ch) : Srt (doL t l) := by
  unfold doL
  induction l generalizing t with
  | nil => exact h
  | cons c l ih => exact ih (h.chg c)
theorem getT_nil (k : List UInt8) : getT [] k = none := rfl
theorem getT_cons (p : List UInt8 × List UInt8) (t : Tb) (k : List UInt8) : getT (p :: t) k = if p.1 = k then some p.2 else getT t k := by
  unfold getT
  by_cases h : p.1 = k
  · simp [h]
  · simp [h]
theorem getT_app (t u : Tb) (k : List UInt8) : getT (t ++ u) k = (getT t k).or (getT u k) := by
  unfold getT
  rw [List.find?_append]
  cases t.find? (fun p => p.1 == k) <;> simp
theorem getT_filter_lt (t : Tb) (c k : List UInt8) (h : k < c) : getT (t.filter fun p => decide (p.1 < c)) k = getT t k := by
  induction t with
  | nil => rfl
  | cons p t ih =>
    by_cases hp : p.1 < c
    · rw [List.filter_cons_of_pos (by simpa using hp), getT_cons, getT_cons, ih]
    · rw [List.filter_cons_of_neg (by simpa using hp), getT_cons, ih, if_neg (fun e => hp (by rw [e]; exact h))]
theorem getT_filter_gt (t : Tb) (c k : List UInt8) (h : c < k) : getT (t.filter fun p => decide (c < p.1)) k = getT t k := by
  induction t with
  | nil => rfl
  | cons p t ih =>
    by_cases hp : c < p.1
    · rw [List.filter_cons_of_pos (by simpa using hp), getT_cons, getT_cons, ih]
    · rw [List.filter_cons_of_neg (by simpa using hp), getT_cons, ih, if_neg (fun e => hp (by rw [e]; exact h))]
theorem getT_none {t : Tb} {k : List UInt8} (h : ∀ p ∈ t, p.1 ≠ k) : getT t k = none := by
  unfold getT
  rw [List.find?_eq_none.2 (fun p hp => by simpa using h p hp)]
  rfl
theorem getT_doC (t : Tb) (c : Ch) (k : List UInt8) : getT (doC t c) k = if k = c.k then (if c.g then none else some c.v) else getT t k := by
  unfold doC
  rw [getT_app, getT_app]
  have hl : ¬ k < c.k → getT (t.filter fun p => decide (p.1 < c.k)) k = none := fun h => getT_none fun p hp e => h (by have := (List.mem_filter.1 hp).2; rw [← e]; simpa using this)
  have hg : ¬ c.k < k → getT (t.filter fun p => decide (c.k < p.1)) k = none := fun h => getT_none fun p hp e => h (by have := (List.mem_filter.1 hp).2; rw [← e]; simpa using this)
  by_cases he : k = c.k
  · rw [if_pos he, hl (he ▸ klt_irr c.k), hg (he ▸ klt_irr c.k)]
    by_cases hG : c.g = true
    · simp [hG, getT_nil]
    · simp [hG, getT_cons, he]
  · rw [if_neg he]
    have hm : getT (if c.g = true then [] else [(c.k, c.v)]) k = none := by
      split
      · rfl
      · rw [getT_cons, if_neg (fun e => he e.symm)]; rfl
    rw [hm]
    by_cases hlt : k < c.k
    · rw [getT_filter_lt _ _ _ hlt, hg (klt_as hlt)]
      simp
    · have hgt : c.k < k := Classical.byContradiction fun h => he (klt_tri hlt h)
      rw [hl hlt, getT_filter_gt _ _ _ hgt]
      simp
theorem getT_mem {t : Tb} (h : Srt t) {p : List UInt8 × List UInt8} (hp : p ∈ t) : getT t p.1 = some p.2 := by
  induction t with
  | nil => simp at hp
  | cons q t ih =>
    rw [getT_cons]
    obtain ⟨h1, h2⟩ := List.pairwise_cons.1 h
    rcases List.mem_cons.1 hp with rfl | hp
    · rw [if_pos rfl]
    · rw [if_neg (klt_ne (h1 p hp)), ih h2 hp]
theorem getT_some {t : Tb} {k v : List UInt8} (h : getT t k = some v) : (k, v) ∈ t := by
  unfold getT at h
  rcases hf : t.find? (fun p => p.1 == k) with _ | p
  · rw [hf] at h; simp at h
  · rw [hf] at h
    have h1 := List.mem_of_find?_eq_some hf
    have h2 := List.find?_some hf
    simp only [beq_iff_eq] at h2
    simp only [Option.map_some, Option.some.injEq] at h
    rw [← h, ← h2]
    exact h1
theorem getT_isSome {t : Tb} {k : List UInt8} : (getT t k).isSome = true ↔ k ∈ t.map (·.1) := by
  unfold getT
  rw [Option.isSome_map, List.find?_isSome]
  simp
theorem Srt.keys {t : Tb} (h : Srt t) : (t.map (·.1)).Pairwise (· < ·) := List.pairwise_map.2 h

/-! ### how much they are -/
/-- How many bytes names with bytes are at most, in a record. -/
def wtT : Tb → Nat
  | [] => 0
  | p :: t => p.1.length + p.2.length + 20 + wtT t
def wtC : List Ch → Nat
  | [] => 0
  | c :: l => c.k.length + c.v.length + 21 + wtC l
theorem wtT_app (t u : Tb) : wtT (t ++ u) = wtT t + wtT u := by
  induction t with
  | nil => simp [wtT]
  | cons p t ih => simp only [List.cons_append, wtT, ih]; omega
theorem wtT_len (t : Tb) : 20 * t.length ≤ wtT t := by
  induction t with
  | nil => simp [wtT]
  | cons p t ih => simp only [List.length_cons, wtT]; omega
theorem wtC_len (l : List Ch) : 21 * l.length ≤ wtC l := by
  induction l with
  | nil => simp [wtC]
  | cons p t ih => simp only [List.length_cons, wtC]; omega
theorem wtT_filter (t : Tb) (c : List UInt8) : wtT (t.filter fun p => decide (p.1 < c)) + wtT (t.filter fun p => decide (c < p.1)) ≤ wtT t := by
  induction t with
  | nil => simp [wtT]
  | cons p t ih =>
    by_cases h1 : p.1 < c
    · rw [List.filter_cons_of_pos (by simpa using h1), List.filter_cons_of_neg (by simpa using klt_as h1)]
      simp only [wtT]
      omega
    · rw [List.filter_cons_of_neg (by simpa using h1)]
      by_cases h2 : c < p.1
      · rw [List.filter_cons_of_pos (by simpa using h2)]
        simp only [wtT]
        omega
      · rw [List.filter_cons_of_neg (by simpa using h2)]
        simp only [wtT]
        omega
theorem wtT_doC (t : Tb) (c : Ch) : wtT (doC t c) ≤ wtT t + (c.k.length + c.v.length + 20) := by
  have h := wtT_filter t c.k
  unfold doC
  rw [wtT_app, wtT_app]
  split
  · simp only [wtT]; omega
  · simp only [wtT]; omega
theorem wtT_doL : ∀ (l : List Ch) (t : Tb), wtT (doL t l) ≤ wtT t + wtC l
  | [], t => by simp [doL, wtC]
  | c :: l, t => by
    have h1 := wtT_doL l (doC t c)
    have h2 := wtT_doC t c
    have e : doL t (c :: l) = doL (doC t c) l := rfl
    rw [e]
    simp only [wtC]
    omega
theorem doL_snoc (t : Tb) (l : List Ch) (c : Ch) : doL t (l ++ [c]) = doC (doL t l) c := by simp [doL]
theorem doL_app (t : Tb) (l m : List Ch) : doL t (l ++ m) = doL (doL t l) m := by simp [doL]

/-! ### records -/
def rowB (b : List UInt8) : List UInt8 := put b.length ++ b
def ofT (t : Tb) : List UInt8 := (t.map fun p => rowB p.1 ++ rowB p.2).flatten
def chgB (c : Ch) : List UInt8 := rowB c.k ++ ([if c.g then 1 else 0] ++ if c.g then [] else rowB c.v)
def ofC (l : List Ch) : List UInt8 := (l.map chgB).flatten
/-- The record of all. -/
def allB (t : Tb) : List UInt8 := put 1 ++ put t.length ++ ofT t
/-- The record of changes. -/
def chsB (l : List Ch) : List UInt8 := put 2 ++ put l.length ++ ofC l
theorem ofT_snoc (t : Tb) (p : List UInt8 × List UInt8) : ofT (t ++ [p]) = ofT t ++ (rowB p.1 ++ rowB p.2) := by simp [ofT]
theorem ofC_snoc (l : List Ch) (c : Ch) : ofC (l ++ [c]) = ofC l ++ chgB c := by simp [ofC]
theorem rowB_len (b : List UInt8) (h : b.length < 18446744073709551616) : (rowB b).length ≤ b.length + 10 := by
  have := put_length_64 h
  simp only [rowB, List.length_append]
  omega
theorem ofT_len : ∀ (t : Tb), wtT t < 18446744073709551616 → (ofT t).length ≤ wtT t
  | [], _ => by simp [ofT]
  | p :: t, h => by
    simp only [wtT] at h ⊢
    have h1 := ofT_len t (by omega)
    have h2 := rowB_len p.1 (by omega)
    have h3 := rowB_len p.2 (by omega)
    have e : ofT (p :: t) = (rowB p.1 ++ rowB p.2) ++ ofT t := by simp [ofT]
    rw [e, List.length_append, List.length_append]
    omega
theorem ofC_len : ∀ (l : List Ch), wtC l < 18446744073709551616 → (ofC l).length ≤ wtC l
  | [], _ => by simp [ofC]
  | c :: t, h => by
    simp only [wtC] at h ⊢
    have h1 := ofC_len t (by omega)
    have h2 := rowB_len c.k (by omega)
    have h3 := rowB_len c.v (by omega)
    have e : ofC (c :: t) = chgB c ++ ofC t := by simp [ofC]
    have h4 : (chgB c).length ≤ (rowB c.k).length + 1 + (rowB c.v).length := by
      unfold chgB
      simp only [List.length_append, List.length_singleton]
      split
      · simp
      · omega
    rw [e, List.length_append]
    omega
theorem allB_len (t : Tb) (h : wtT t < 1000000000) : (allB t).length ≤ wtT t + 20 := by
  have h1 := ofT_len t (by omega)
  have h2 := wtT_len t
  have h3 := put_length_64 (x := 1) (by omega)
  have h4 := put_length_64 (x := t.length) (by omega)
  simp only [allB, List.length_append]
  omega
theorem chsB_len (l : List Ch) (h : wtC l < 1000000000) : (chsB l).length ≤ wtC l + 20 := by
  have h1 := ofC_len l (by omega)
  have h2 := wtC_len l
  have h3 := put_length_64 (x := 2) (by omega)
  have h4 := put_length_64 (x := l.length) (by omega)
  simp only [chsB, List.length_append]
  omega

/-! ### read again -/
/-- The names of a record of all: so many are left; the names so far, the last one; what is left of the bytes, and the error. -/
def raGo : Nat → Tb → List UInt8 → List UInt8 → Int → Option (Tb × List UInt8 × Int)
  | 0, t, _, l, e => some (t, l, e)
  | n + 1, t, last, l, e =>
    if byB l e 64 ≤ last then none
    else raGo n (t ++ [(byB l e 64, byB (byL l e 64) (byE l e 64) 4096)]) (byB l e 64) (byL (byL l e 64) (byE l e 64) 4096) (byE (byL l e 64) (byE l e 64) 4096)
def raEnd : Option (Tb × List UInt8 × Int) → Option Tb
  | none => none
  | some (t, l, e) => if endE l e = 0 then some t else none
/-- What a record of all says. -/
def raM (b : List UInt8) : Option Tb := if uiX b 0 ≠ 1 then none else raEnd (raGo (uiX (uiL b 0) (uiE b 0)) [] [] (uiL (uiL b 0) (uiE b 0)) (uiE (uiL b 0) (uiE b 0)))
/-- One change, read; what is left, and the error. -/
def rc1 (l : List UInt8) (e : Int) : Ch × List UInt8 × Int :=
  if boX (byL l e 64) (byE l e 64) = true then (⟨byB l e 64, [], true⟩, fxL (byL l e 64) (byE l e 64) 1, boE (byL l e 64) (byE l e 64))
  else (⟨byB l e 64, byB (fxL (byL l e 64) (byE l e 64) 1) (boE (byL l e 64) (byE l e 64)) 4096, false⟩, byL (fxL (byL l e 64) (byE l e 64) 1) (boE (byL l e 64) (byE l e 64)) 4096, byE (fxL (byL l e 64) (byE l e 64) 1) (boE (byL l e 64) (byE l e 64)) 4096)
theorem rc1_k (l : List UInt8) (e : Int) : (rc1 l e).1.k = byB l e 64 := by
  unfold rc1
  split <;> rfl
def rcGo : Nat → List Ch → List UInt8 → Int → Option (List Ch × List UInt8 × Int)
  | 0, a, l, e => some (a, l, e)
  | n + 1, a, l, e => if mayC (rc1 l e).1 = false then none else rcGo n (a ++ [(rc1 l e).1]) (rc1 l e).2.1 (rc1 l e).2.2
def rcEnd : Option (List Ch × List UInt8 × Int) → Option (List Ch)
  | none => none
  | some (a, l, e) => if endE l e = 0 then some a else none
/-- What a record of changes says. -/
def rcM (b : List UInt8) : Option (List Ch) := if uiX b 0 ≠ 2 then none else rcEnd (rcGo (uiX (uiL b 0) (uiE b 0)) [] (uiL (uiL b 0) (uiE b 0)) (uiE (uiL b 0) (uiE b 0)))
end Go.Proofs.YtcgnaomffioldaaGreat

/-! Cells: a map of names with bytes, in memory. -/
namespace Go.Proofs.YtcgnaomffioldaaGreat
open Go.RowKit Go.Maps Codec

/-- How a map's element reads: as it is. -/
def rv (v : Value) : Option (DataW Value × List MemPlace) := some (.held v, [])
theorem mlaw : Keyed Tryz.prog 9 := string_keyed Tryz.underlying9
theorem zero_sl (w : World) : (zeroValue 54).run Tryz.prog w = .ok (.slice none 0 0) w := by kernel_rfl
/-- THE DATUM HAS JUST THESE NAMES, each with a slice that reads as its bytes. -/
structure Agr (w : World) (S : Nat → Prop) (D : DataW Value) (t : Tb) : Prop where
  srt : Srt t
  size : Maps.size D = t.length
  has : ∀ k, Maps.has D (.string k) = (getT t k).isSome
  at_ : ∀ k v, getT t k = some v → ∃ A n c, (∀ z, D.atKey (.string k) z = .held (.slice A n c)) ∧ Byt w S A n c v
/-- BLOCK b IS A MAP OF THESE NAMES WITH BYTES, all of it in blocks of S. -/
def Nms (w : World) (S : Nat → Prop) (b : Nat) (t : Tb) : Prop :=
  S b ∧ ∃ D, w.ownsMap Tryz.prog 9 rv b t.length D ∧ Agr w (fun k => S k ∧ k ≠ b) D t
variable {w w' : World} {S T : Nat → Prop} {b : Nat} {t : Tb}
theorem Nms.srt (h : Nms w S b t) : Srt t := by
  obtain ⟨_, D, _, ha⟩ := h
  exact ha.srt
theorem Nms.lt (h : Nms w S b t) : b < w.heap.size := by
  obtain ⟨_, D, ho, _⟩ := h
  exact ho.lt
theorem ownsMap_exact {P : Program} {k : TypeId} {R : Value → Option (DataW Value × List MemPlace)} {n : Nat} {D : DataW Value} (h : w.ownsMap P k R b n D) : w.ownsMap P k R b (Maps.size D) D := by
  obtain ⟨es, clock, hb, F, hs, rfl⟩ := h
  exact ⟨es, clock, hb, F, by simp [Maps.size, length_sorted], rfl⟩
theorem ownsMap_kept {P : Program} {k : TypeId} {R : Value → Option (DataW Value × List MemPlace)} {n : Nat} {D : DataW Value} (h : w.ownsMap P k R b n D) (hb : w'.heap[b]? = w.heap[b]?) : w'.ownsMap P k R b n D := by
  obtain ⟨es, clock, hb', r⟩ := h
  exact ⟨es, clock, hb.trans hb', r⟩
theorem Agr.turned {D : DataW Value} (h : Agr w S D t) (ht : Turned T w w') (hd : ∀ k, k < w.heap.size → S k → ¬ T k) : Agr w' S D t :=
  ⟨h.srt, h.size, h.has, fun k v hk => by
    obtain ⟨A, n, c, h1, h2⟩ := h.at_ k v hk
    exact ⟨A, n, c, h1, h2.turned ht hd⟩⟩
theorem Agr.mono {D : DataW Value} (h : Agr w S D t) (hT : ∀ k, k < w.heap.size → S k → T k) : Agr w T D t :=
  ⟨h.srt, h.size, h.has, fun k v hk => by
    obtain ⟨A, n, c, h1, h2⟩ := h.at_ k v hk
    exact ⟨A, n, c, h1, h2.mono hT⟩⟩
theorem Nms.turned (h : Nms w S b t) (ht : Turned T w w') (hd : ∀ k, k < w.heap.size → S k → ¬ T k) : Nms w' S b t := by
  obtain ⟨hS, D, ho, ha⟩ := h
  exact ⟨hS, D, ownsMap_kept ho (ht.block _ ho.lt (hd _ ho.lt hS)), ha.turned ht fun k hk hs => hd k hk hs.1⟩
theorem Nms.below (h : Nms w S b t) (hb : Below w.heap.size w w') : Nms w' S b t :=
  h.turned (T := fun _ => False) ⟨hb.os, hb.tape, hb.output, hb.size, fun k hk _ => hb.block k hk⟩ fun _ _ _ h => h
theorem Nms.mono (h : Nms w S b t) (hT : ∀ k, k < w.heap.size → S k → T k) : Nms w T b t := by
  obtain ⟨hS, D, ho, ha⟩ := h
  exact ⟨hT _ ho.lt hS, D, ho, ha.mono fun k hk hs => ⟨hT k hk hs.1, hs.2⟩⟩
theorem Nms.drew (h : Nms w S b t) : Nms w.drew S b t := h.below ⟨rfl, rfl, rfl, Nat.le_refl _, fun _ _ => rfl⟩
theorem made_map (w : World) : Nms (w.alloc (.map #[] 0)) (fun k => k = w.heap.size) w.heap.size [] :=
  ⟨rfl, .map [], World.ownsMap_made _ _ _ _, Srt.nil, rfl, fun _ => rfl, fun _ _ h => by cases h⟩
theorem str_key (k : List UInt8) (h : k.length ≤ 1000000) : keyOf Tryz.prog 9 (.string (st k)) = some (.string k) := by
  have h1 := Go.WideMaps.keyOf_string_mk (P := Tryz.prog) (k := 9) Tryz.underlying9 (s := st k) (by rw [st_size]; unfold maxLen; omega)
  simpa [st] using h1
theorem str_lit (k : List UInt8) : WideAt.IsKeyLit (.string k) := by trivial
theorem len_split {t : Tb} (h : Srt t) (k : List UInt8) : (t.filter fun p => decide (p.1 < k)).length + (t.filter fun p => decide (k < p.1)).length + (if (getT t k).isSome = true then 1 else 0) = t.length := by
  induction t with
  | nil => simp [getT_nil]
  | cons p t ih =>
    obtain ⟨h1, h2⟩ := List.pairwise_cons.1 h
    have h3 := ih h2
    rw [getT_cons]
    by_cases hl : p.1 < k
    · rw [List.filter_cons_of_pos (by simpa using hl), List.filter_cons_of_neg (by simpa using klt_as hl), if_neg (klt_ne hl), List.length_cons, List.length_cons]
      omega
    · rw [List.filter_cons_of_neg (by simpa using hl)]
      by_cases he : p.1 = k
      · have hn : getT t k = none := getT_none fun q hq => (klt_ne (he ▸ h1 q hq)).symm
        rw [hn] at h3
        rw [List.filter_cons_of_neg (by simp [he]), if_pos he, List.length_cons]
        simp at h3 ⊢
        omega
      · have hg : k < p.1 := Classical.byContradiction fun h => he (klt_tri hl h)
        rw [List.filter_cons_of_pos (by simpa using hg), if_neg he, List.length_cons, List.length_cons]
        omega
theorem doC_len {t : Tb} (h : Srt t) (c : Ch) : (doC t c).length + (if (getT t c.k).isSome = true then 1 else 0) = t.length + (if c.g then 0 else 1) := by
  have h1 := len_split h c.k
  unfold doC
  rw [List.length_append, List.length_append]
  cases c.g <;> simp <;> omega
/-- 'm[k] = v'. -/
theorem Nms.put (h : Nms w S b t) {k v : List UInt8} {A : Option Addr} {n c : Nat} (hk : k.length ≤ 1000000) (hl : t.length ≤ 10000000000000) {U : Nat → Prop} (hy : Byt w U A n c v) (hU : ∀ q, q < w.heap.size → U q → q ≠ b) :
    ∃ w', (Instr.mapUpdate 76 (.map (some b)) (.string (st k)) (.slice A n c)).run Tryz.prog w = .ok () w' ∧ Nms w' (fun q => S q ∨ U q) b (doC t ⟨k, v, false⟩) ∧ w.mapTurned w' b := by
  obtain ⟨hS, D, ho, ha⟩ := h
  obtain ⟨w', hrun, ho', hm⟩ := ho.store (t := 76) (e := 54) mlaw Tryz.underlying76 (by unfold maxLen; omega) (str_key k hk) (d := .held (.slice A n c)) (ps := []) rfl
  have hg := hm.grown
  have ht : Turned (fun q => q = b) w w' := Turned.of_gr hg fun _ e => (Option.some.inj e).symm
  have hti := ho.tidy mlaw
  have him := ho.isMap
  have hsz : Maps.size (D.put (.string k) (.held (.slice A n c))) = (doC t ⟨k, v, false⟩).length := by
    have h1 := doC_len ha.srt ⟨k, v, false⟩
    rw [size_put hti, ha.has, ha.size]
    cases hq : (getT t k).isSome <;> simp [hq] at h1 ⊢ <;> omega
  refine ⟨w', hrun, ⟨.inl hS, _, by rw [← hsz]; exact ownsMap_exact ho', ⟨ha.srt.chg _, hsz, fun x => ?_, fun x y hx => ?_⟩⟩, hm⟩
  · rw [getT_doC]
    by_cases e : x = k
    · subst e
      rw [has_put_same him (str_lit x)]
      simp
    · rw [has_put_other (by simpa using e), ha.has, if_neg e]
  · rw [getT_doC] at hx
    by_cases e : x = k
    · subst e
      rw [if_pos rfl] at hx
      obtain rfl : v = y := by simpa using hx
      exact ⟨A, n, c, fun z => atKey_put_same him (str_lit x) _ _, (hy.mono fun q hq hu => (⟨.inr hu, hU q hq hu⟩ : (S q ∨ U q) ∧ q ≠ b)).turned ht fun q _ hq => hq.2⟩
    · rw [if_neg e] at hx
      obtain ⟨A', n', c', h1, h2⟩ := ha.at_ x y hx
      exact ⟨A', n', c', fun z => by rw [atKey_put_other (by simpa using e)]; exact h1 z, (h2.mono fun q hq hu => ⟨.inl hu.1, hu.2⟩).turned ht fun q _ hq => hq.2⟩
/-- 'delete(m, k)'. -/
theorem Nms.del (h : Nms w S b t) {k v : List UInt8} (hk : k.length ≤ 1000000) (ty : TypeId) :
    ∃ w', (Builtin.delete_ #[76, 9] ty #[.map (some b), .string (st k)]).run Tryz.prog w = .ok (.tuple #[]) w' ∧ Nms w' S b (doC t ⟨k, v, true⟩) ∧ w.mapTurned w' b := by
  obtain ⟨hS, D, ho, ha⟩ := h
  obtain ⟨w', hrun, ho', hm⟩ := ho.drop (t := 76) (e := 54) mlaw Tryz.underlying76 (str_key k hk) ty
  have hg := hm.grown
  have ht : Turned (fun q => q = b) w w' := Turned.of_gr hg fun _ e => (Option.some.inj e).symm
  have hti := ho.tidy mlaw
  have hsz : Maps.size (D.del (.string k)) = (doC t ⟨k, v, true⟩).length := by
    have h1 := size_del (k := .string k) hti
    have h2 := doC_len ha.srt ⟨k, v, true⟩
    rw [ha.has, ha.size] at h1
    simp at h2
    omega
  refine ⟨w', hrun, ⟨hS, _, by rw [← hsz]; exact ownsMap_exact ho', ⟨ha.srt.chg _, hsz, fun x => ?_, fun x y hx => ?_⟩⟩, hm⟩
  · rw [getT_doC]
    by_cases e : x = k
    · subst e
      rw [has_del_same]
      simp
    · rw [has_del_other (by simpa using e), ha.has, if_neg e]
  · rw [getT_doC] at hx
    by_cases e : x = k
    · subst e
      rw [if_pos rfl] at hx
      simp at hx
    · rw [if_neg e] at hx
      obtain ⟨A', n', c', h1, h2⟩ := ha.at_ x y hx
      exact ⟨A', n', c', fun z => by rw [atKey_del_other (by simpa using e)]; exact h1 z, h2.turned ht fun q _ hq => hq.2⟩
/-- 'v, ok := m[k]', 'm[k]'. -/
theorem Nms.look (h : Nms w S b t) {k : List UInt8} (hk : k.length ≤ 1000000) :
    ∃ A n c, (Instr.lookup 76 (.map (some b)) (.string (st k)) true).run Tryz.prog w = .ok (.tuple #[.slice A n c, .bool (getT t k).isSome]) w ∧
      (Instr.lookup 76 (.map (some b)) (.string (st k)) false).run Tryz.prog w = .ok (.slice A n c) w ∧ Byt w S A n c ((getT t k).getD []) := by
  obtain ⟨hS, D, ho, ha⟩ := h
  obtain ⟨v, ps, hrun, hv⟩ := ho.look_ok (t := 76) (e := 54) mlaw Tryz.underlying76 (zero_sl w) (zd := .held (.slice none 0 0)) (zp := []) rfl (str_key k hk)
  obtain ⟨v2, ps2, hrun2, hv2⟩ := ho.lookup (t := 76) (e := 54) mlaw Tryz.underlying76 (zero_sl w) (zd := .held (.slice none 0 0)) (zp := []) rfl (str_key k hk)
  rw [ha.has] at hrun
  have hvv : v2 = v := by
    unfold rv at hv hv2
    simp only [Option.some.injEq, Prod.mk.injEq] at hv hv2
    have e1 := hv.1.trans hv2.1.symm
    simp only [DataW.held.injEq] at e1
    exact e1.symm
  subst hvv
  rcases hg : getT t k with _ | y
  · have hno : Maps.has D (.string k) = false := by rw [ha.has, hg]; rfl
    unfold rv at hv
    simp only [Option.some.injEq, Prod.mk.injEq] at hv
    rw [atKey_of_not_has hno] at hv
    obtain rfl : v2 = .slice none 0 0 := by
      have e1 := hv.1
      simpa only [DataW.held.injEq] using e1
    rw [hg] at hrun
    exact ⟨none, 0, 0, hrun, hrun2, Byt.nil _ _ _ _ (Nat.zero_le _)⟩
  · obtain ⟨A, n, c, h1, h2⟩ := ha.at_ k y hg
    unfold rv at hv
    simp only [Option.some.injEq, Prod.mk.injEq] at hv
    rw [h1] at hv
    obtain rfl : v2 = .slice A n c := by
      have e1 := hv.1
      simpa only [DataW.held.injEq] using e1
    rw [hg] at hrun
    exact ⟨A, n, c, hrun, hrun2, by simpa using h2.mono fun q _ hq => hq.1⟩
theorem mapTurned_turned' {w w' : World} {b : Nat} (h : w.mapTurned w' b) : Turned (fun q => q = b) w w' := Turned.of_gr h.grown fun _ e => (Option.some.inj e).symm
theorem Nms.len (h : Nms w S b t) (ty : TypeId) : (Builtin.len_ #[76] ty #[.map (some b)]).run Tryz.prog w = .ok (.int .i64 (t.length : Int)) w := by
  obtain ⟨hS, D, ho, ha⟩ := h
  rw [ho.len (e := 54) (k := 9) Tryz.underlying76 ty, ha.size]
/-- What the names are, sorted. -/
theorem Agr.keys {D : DataW Value} (h : Agr w S D t) {n : Nat} (ho : w'.ownsMap Tryz.prog 9 rv b n D) {ss : List (List UInt8)} (hs : ss.Perm (strKeys D)) : ss.mergeSort (fun x y => decide (x ≤ y)) = t.map (·.1) := by
  obtain ⟨es, hD, hpw, _⟩ := ho.entries mlaw
  obtain ⟨es', hD', hko⟩ := ho.keysOf
  obtain rfl : es = es' := by rw [hD] at hD'; simpa using hD'
  have hnd : (t.map (·.1)).Nodup := (h.srt.keys).imp fun h => klt_ne h
  have hp : (t.map (·.1)).Perm (strKeys D) := by
    have hh := h.has
    subst hD
    exact perm_strKeys hpw (fun p hp => by obtain ⟨v, hv⟩ := hko p hp; obtain ⟨x, _, hx, _⟩ := Maps.keyOf_str Tryz.underlying9 hv; exact ⟨x, hx⟩) hnd (fun x => by rw [hh x]; exact getT_isSome.symm)
  rw [show ss.mergeSort (fun x y => decide (x ≤ y)) = (t.map (·.1)).mergeSort leB from mergeSort_of_perm (hs.trans hp.symm)]
  exact List.mergeSort_of_pairwise ((h.srt.keys).imp fun {a b} h => by simpa using List.le_of_lt h)
end Go.Proofs.YtcgnaomffioldaaGreat

/-! make([]byte, n), and a block of bytes known whole. -/
namespace Go.Proofs.YtcgnaomffioldaaGreat
open Go.RowKit

theorem made_zero (c : Nat) : (madeCells #[Value.int .u8 0] (c * 1)).toList = u8s (List.replicate c 0) := by
  simp only [madeCells, u8s, Nat.mul_one]
  apply List.ext_getElem
  · simp
  · intro i h1 h2
    simp [Nat.mod_one]

/-- make([]byte, n) -/
theorem make_bytes (w : World) (N : Nat) (h : N ≤ 1000000) : (Instr.makeSlice 54 (.int .i64 (N : Int)) (.int .i64 (N : Int))).run Tryz.prog w = .ok (.slice (some ⟨w.heap.size, 0, none⟩) N N) (w.alloc (.cells (u8s (List.replicate N 0)).toArray 5)) := by
  obtain ⟨i0, hi, hz0, hz1, hz2⟩ := info_parts u8_info
  have hmk := run_make (P := Tryz.prog) (t := 54) (e := 5) w i0 (.int .u8 0) Tryz.underlying54 hi hz0 .i64 .i64 (N : Int) (N : Int) (by omega) (by omega) (by rw [hz2]; omega) (by omega)
  rw [hmk, hz1]
  have hm0 : madeCells (Value.int .u8 0).cells ((N : Int).toNat * 1) = (u8s (List.replicate N 0)).toArray := by
    apply Array.toList_inj.1
    rw [Int.toNat_natCast]
    exact made_zero N
  rw [hm0]
  simp
end Go.Proofs.YtcgnaomffioldaaGreat

/-! Rows of bytes: a slice of slices of bytes that reads as a list of rows. -/
namespace Go.Proofs.YtcgnaomffioldaaGreat
open Go.RowKit

theorem one_of {v : Value} (h : v.oneCell' = true) : ∀ u ∈ [v], u.oneCell' = true := by
  intro u hu
  rw [List.mem_singleton.1 hu]
  exact h
/-- A SLICE OF ROWS OF BYTES READS AS ls; all of it lies in blocks of S. -/
structure Rws (w : World) (S : Nat → Prop) (A : Option Addr) (n c : Nat) (ls : List (List UInt8)) : Prop where
  len : ls.length = n
  cap : n ≤ c
  max : c ≤ maxLen
  row : 0 < n → ∃ b off, A = some ⟨b, off, none⟩ ∧ S b ∧ b < w.heap.size ∧ ∀ i, i < n → ∃ Ai ni ci, w.cell? ⟨b, off + i, none⟩ = some (.slice Ai ni ci) ∧ Byt w S Ai ni ci (ls[i]?.getD [])
section
variable {w w' : World} {S : Nat → Prop} {A : Option Addr} {n c : Nat} {ls : List (List UInt8)}
theorem Rws.below (h : Rws w S A n c ls) (hb : Below w.heap.size w w') : Rws w' S A n c ls :=
  ⟨h.len, h.cap, h.max, fun h0 => by
    obtain ⟨b, off, hA, hS, hlt, hc⟩ := h.row h0
    refine ⟨b, off, hA, hS, Nat.lt_of_lt_of_le hlt hb.size, fun i hi => ?_⟩
    obtain ⟨Ai, ni, ci, h1, h2⟩ := hc i hi
    exact ⟨Ai, ni, ci, (hb.cell (p := ⟨_, _, none⟩) hlt).trans h1, h2.below hb⟩⟩
theorem Rws.mono {T : Nat → Prop} (h : Rws w S A n c ls) (hT : ∀ b, b < w.heap.size → S b → T b) : Rws w T A n c ls :=
  ⟨h.len, h.cap, h.max, fun h0 => by
    obtain ⟨b, off, hA, hS, hlt, hc⟩ := h.row h0
    refine ⟨b, off, hA, hT b hlt hS, hlt, fun i hi => ?_⟩
    obtain ⟨Ai, ni, ci, h1, h2⟩ := hc i hi
    exact ⟨Ai, ni, ci, h1, h2.mono hT⟩⟩
theorem Rws.drewN (h : Rws w S A n c ls) (k : Nat) : Rws (w.drewN k) S A n c ls :=
  ⟨h.len, h.cap, h.max, fun h0 => by
    obtain ⟨b, off, hA, hS, hlt, hc⟩ := h.row h0
    refine ⟨b, off, hA, hS, hlt, fun i hi => ?_⟩
    obtain ⟨Ai, ni, ci, h1, h2⟩ := hc i hi
    exact ⟨Ai, ni, ci, h1, h2.drewN k⟩⟩
end

theorem own_rws {w : World} {S : Nat → Prop} {B : Nat} {e : TypeId} {v : Value} {n : Nat} {rs : List (Option Addr × Nat × Nat)} {ls : List (List UInt8)} (h : w.ownsRow B e 1 v n (rs.map fun r => Value.slice r.1 r.2.1 r.2.2)) (hl : ls.length = rs.length)
    (hb : ∀ (i : Nat) (r : Option Addr × Nat × Nat), rs[i]? = some r → Byt w S r.1 r.2.1 r.2.2 (ls[i]?.getD [])) : ∃ A c, v = .slice A n c ∧ Rws w (fun _ => True) A n c ls := by
  have hn : ls.length = n := by have := h.1; rw [List.length_map] at this; omega
  rcases h.2 with ⟨rfl, rfl⟩ | ⟨g, cap, cur, rfl, _, hg, hnc, hm, _, _⟩
  · exact ⟨none, 0, rfl, hn, Nat.le_refl _, Nat.zero_le _, fun h => absurd h (by omega)⟩
  · refine ⟨_, cap, rfl, hn, hnc, hm, fun _ => ⟨g, 0, rfl, trivial, (Array.getElem?_eq_some_iff.1 hg).1, fun i hi => ?_⟩⟩
    have hir : i < rs.length := by omega
    have := h.cells (g := g) rfl i (.slice rs[i].1 rs[i].2.1 rs[i].2.2) (by simp [List.getElem?_map, List.getElem?_eq_getElem hir])
    rw [add_plain] at this
    exact ⟨_, _, _, this, (hb i rs[i] (List.getElem?_eq_getElem hir)).mono fun _ _ _ => trivial⟩
theorem sl_info : (Tryz.prog.info? 54).map (fun i => (i.zero, i.size, i.bytes)) = some (some (.slice none 0 0), 1, 24) := by kernel_rfl
theorem Rws.turned {w w' : World} {S T : Nat → Prop} {A : Option Addr} {n c : Nat} {ls : List (List UInt8)} (h : Rws w S A n c ls) (ht : Turned T w w') (hd : ∀ b, b < w.heap.size → S b → ¬ T b) : Rws w' S A n c ls :=
  ⟨h.len, h.cap, h.max, fun h0 => by
    obtain ⟨b, off, hA, hS, hlt, hc⟩ := h.row h0
    refine ⟨b, off, hA, hS, Nat.lt_of_lt_of_le hlt ht.size, fun i hi => ?_⟩
    obtain ⟨Ai, ni, ci, h1, h2⟩ := hc i hi
    exact ⟨Ai, ni, ci, (World.cell?_of_block (w := w) (a := ⟨b, off + i, none⟩) (ht.block b hlt (hd b hlt hS))).trans h1, h2.turned ht hd⟩⟩
/-- The rows one by one. -/
theorem Rws.rows {w : World} {S : Nat → Prop} {A : Option Addr} {n c : Nat} {ls : List (List UInt8)} (h : Rws w S A n c ls) : ∃ rs : List (Option Addr × Nat × Nat), rs.length = n ∧ (∀ (i : Nat) (r : Option Addr × Nat × Nat), rs[i]? = some r → Byt w S r.1 r.2.1 r.2.2 (ls[i]?.getD [])) ∧
    ∀ ad, A = some ad → ∀ j u, (rs.map fun r => Value.slice r.1 r.2.1 r.2.2)[j]? = some u → w.cell? (ad.add j) = some u := by
  by_cases h0 : 0 < n
  · obtain ⟨b, off, rfl, hS, hlt, hc⟩ := h.row h0
    have one : ∀ i, ∃ r : Option Addr × Nat × Nat, i < n → w.cell? ⟨b, off + i, none⟩ = some (.slice r.1 r.2.1 r.2.2) ∧ Byt w S r.1 r.2.1 r.2.2 (ls[i]?.getD []) := fun i => by
      by_cases hi : i < n
      · obtain ⟨Ai, ni, ci, h1, h2⟩ := hc i hi
        exact ⟨(Ai, ni, ci), fun _ => ⟨h1, h2⟩⟩
      · exact ⟨(none, 0, 0), fun h => absurd h hi⟩
    obtain ⟨f, hf⟩ := Classical.skolem.1 one
    refine ⟨(List.range n).map f, by simp, fun i r hr => ?_, fun ad had j u hj => ?_⟩
    · have hi : i < n := by have := (List.getElem?_eq_some_iff.1 hr).1; simpa using this
      simp [hi] at hr
      subst hr
      exact (hf i hi).2
    · have hi : j < n := by have := (List.getElem?_eq_some_iff.1 hj).1; simpa using this
      obtain rfl : ad = ⟨b, off, none⟩ := by injection had with h; exact h.symm
      rw [add_plain]
      simp [hi] at hj
      subst hj
      exact (hf j hi).1
  · obtain rfl : n = 0 := by omega
    exact ⟨[], rfl, fun i r hr => by simp at hr, fun ad _ j u hj => by simp at hj⟩

theorem run_append_zero {P : Program} (w : World) (t ty e : TypeId) (i : TypeInfo) (ht : P.underlying t = some (.slice e)) (hi : P.info? e = some i) (A : Option Addr) (n c k : Nat) (hn : n ≤ c) :
    (Builtin.append_ #[t, t] ty #[.slice A n c, .slice none 0 k]).run P w = .ok (.slice A n c) w := by
  rcases A with _ | a <;> simp [Builtin.append_, run_underlying ht, sizeOf, typeInfo, hi, Builtin.lenOf, Builtin.firstCells, hn, storeCells]
theorem wpList_append_zero {P : Program} {w : World} {ops : Array Oper} {rest : List Oper} {o : Oper} {a : Act} {Q : Exit → Act → World → Prop} (hgd : o.guard = none) (s x : Operand) (t : TypeId)
    (ho : o.op = .call { callee := .builtin .append, args := #[s, x], argTypes := #[t, t] })
    (e : TypeId) (i : TypeInfo) (ht : P.underlying t = some (.slice e)) (hi : P.info? e = some i) (A : Option Addr) (n c k : Nat) (hn : n ≤ c) (hs : a.eval s = .slice A n c) (hx : a.eval x = .slice none 0 k)
    (h : wpList P ops Q rest (a.put o.dst (.slice A n c)) w) : wpList P ops Q (o :: rest) a w :=
  wpList_plain hgd fun _ hK => by
    unfold Oper.wp execOp
    simp only [ho, resolve, invoke, builtin, Sem.run_bind, Sem.run_pure, Result.andThen_ok, List.map_toArray, List.map_cons, List.map_nil, hs, hx, run_append_zero w t o.type e i ht hi A n c k hn]
    exact hK _ _ h
/-- s[l:h] -/
theorem run_lh {P : Program} (t e : TypeId) (ht : P.underlying t = some (.slice e)) (hz : ∀ w, (Go.sizeOf e).run P w = .ok 1 w) (A : Option Addr) (n c l h : Nat) (li hi : Int) (el : li = (l : Int)) (eh : hi = (h : Int)) (h1 : l ≤ h) (h2 : h ≤ c) (W : World) :
    (Instr.slice t (.slice A n c) (some (.int .i64 li)) (some (.int .i64 hi)) none).run P W = .ok (.slice (cutA A c l) (h - l) (c - l)) W := by
  have ht' : P.underlying t = some (.slice (P.elem t)) := by simp [Program.elem, ht]
  have he : P.elem t = e := by simp [Program.elem, ht]
  subst el eh
  rw [run_slice_lh W t A n c ht' .i64 .i64 (l : Int) (h : Int) (by omega) (by omega) (by omega), he, hz]
  simp [Result.andThen, sliced, cutA]
theorem flat_take (ls : List (List UInt8)) (k : Nat) (h : k < ls.length) : (ls.take (k + 1)).flatten = (ls.take k).flatten ++ (ls[k]?.getD []) := by
  rw [List.take_succ_eq_append_getElem h, List.flatten_append]; simp [List.getElem?_eq_getElem h]
theorem flat_le : ∀ (ls : List (List UInt8)) (k : Nat), (ls.take k).flatten.length ≤ ls.flatten.length
  | [], k => by simp
  | l :: ls, 0 => by simp
  | l :: ls, k + 1 => by have := flat_le ls k; simp at this ⊢; omega
end Go.Proofs.YtcgnaomffioldaaGreat
