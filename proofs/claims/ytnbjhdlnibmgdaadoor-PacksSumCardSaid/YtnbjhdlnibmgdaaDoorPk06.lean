/-
  codec.Reader: what each of its methods does, told of a reader that reads as a list of bytes with an error ('Rd').
  codec.Reader, its further methods; NewReader.
  codec.Writer: what each of its methods does, told of a writer that holds a list of bytes ('Wr').
  codec.Writer, its further methods.
  codec.Writer: Bytes, Bool, Out, NewWriter; a Writer and a Reader that are none.
-/
import Derived.Test.YtnbjhdlnibmgdaaDoorPk02
import Derived.Test.YtnbjhdlnibmgdaaDoorPk05
import Derived.Test.YtnbjhdlnibmgdaaDoorPk03
import Derived.Maps.AppendAt
/-! codec.Reader: what each of its methods does, told of a reader that reads as a list of bytes with an error ('Rd'). -/
namespace Go.Proofs.YtnbjhdlnibmgdaaDoor
open Go.RowKit Codec

/-- THE STRUCT AT BLOCK p IS A READER: the bytes l are left, its error is e; all its memory lies in blocks of S. -/
def Rd (w : World) (S : Nat → Prop) (p : Nat) (l : List UInt8) (e : Int) : Prop := S p ∧ ∃ A n c, w.heap[p]? = some (.cells #[.slice A n c, .int .i64 e] 75 (0, 0)) ∧ Byt w S A n c l

section
variable {w w' : World} {S : Nat → Prop} {p : Nat} {l : List UInt8} {e : Int}
theorem nou8_of_cells {A : Option Addr} {n c : Nat} {t : TypeId} {f : Nat × Nat} (h : w.heap[p]? = some (.cells #[.slice A n c, .int .i64 e] t f)) : ∀ o x, w.cell? ⟨p, o, none⟩ ≠ some (.int .u8 x) := by
  intro o x
  rw [cell_of_cells h]
  rcases o with _ | _ | o <;> simp

theorem Rd.lt (h : Rd w S p l e) : p < w.heap.size := by
  obtain ⟨_, A, n, c, hh, _⟩ := h
  exact lt_of_cells hh
theorem Rd.below (h : Rd w S p l e) (hb : Below w.heap.size w w') : Rd w' S p l e := by
  obtain ⟨hB, A, n, c, hh, hy⟩ := h
  exact ⟨hB, A, n, c, (hb.block p (lt_of_cells hh)).trans hh, hy.below hb⟩
end

theorem err_rd {w : World} {S : Nat → Prop} {p : Nat} {l : List UInt8} {e : Int} (h : Rd w S p l e) :
    Calls Tryd.prog 25 #[.pointer (some ⟨p, 0, none⟩)] w fun r w' => r = .returned (.int .i64 e) ∧ w = w' := by
  obtain ⟨hB, A, n, c, hh, hy⟩ := h
  have h0 := cell_of_cells hh 1
  simp only [List.getElem?_toArray, List.getElem?_cons_succ, List.getElem?_cons_zero] at h0
  clear hh hy
  go_enter Tryd.func25, Tryd.ntmps25
  go_wp2
  go_ret
  exact ⟨rfl, rfl⟩

theorem err_nil (w : World) :
    Calls Tryd.prog 25 #[.pointer none] w fun r w' => r = .returned (.int .i64 1) ∧ w = w' := by
  go_enter Tryd.func25, Tryd.ntmps25
  go_wp2
  go_ret
  exact ⟨rfl, rfl⟩

set_option maxHeartbeats 1000000 in
/-- Uint behind an error. -/
theorem uint_bad {w : World} {S : Nat → Prop} {p : Nat} {l : List UInt8} {e : Int} (h : Rd w S p l e) (he : (e == 0) = false) :
    Calls Tryd.prog 24 #[.pointer (some ⟨p, 0, none⟩)] w fun r w' => r = .returned (.int .u64 0) ∧ w = w' := by
  have he2 : (e != 0) = true := by simpa using he
  go_enter Tryd.func24, Tryd.ntmps24
  go_wp2_with (go_at_call 25; refine (err_rd h).mono ?_; rintro r w' ⟨rfl, rfl⟩)
  go_ret
  exact ⟨rfl, rfl⟩

set_option maxHeartbeats 1000000 in
/-- Uint. -/
theorem uint_ok {w : World} {S : Nat → Prop} {p : Nat} {l : List UInt8} (h : Rd w S p l 0) :
    Calls Tryd.prog 24 #[.pointer (some ⟨p, 0, none⟩)] w fun r w' => r = .returned (.int .u64 (rd 0 l).1) ∧ Rd w' S p (l.drop (rd 0 l).2.1) (rd 0 l).2.2 ∧ w.grownBy w' (some p) := by
  have h' := h
  obtain ⟨hB, A, n, c, hh, hy⟩ := h
  have h0 := cell_of_cells hh 0
  have h1 := cell_of_cells hh 1
  simp only [List.getElem?_toArray, List.getElem?_cons_succ, List.getElem?_cons_zero] at h0 h1
  have f0 := free_of_cells hh 0
  have f1 := free_of_cells hh 1
  have hk : (rd 0 l).2.1 ≤ n := by have := rd_le 0 l; have := hy.len; omega
  have hcut := run_cut (P := Tryd.prog) 24 5 Tryd.underlying24 u8_size A n c (rd 0 l).2.1 hk
  have hnum := number_byt hy
  generalize hr : rd 0 l = r at *
  have HR := Lib.hid hr
  clear hr
  obtain ⟨x, k, er⟩ := r
  go_enter Tryd.func24, Tryd.ntmps24
  go_wp2_with fail
  refine (err_rd h').mono ?_
  rintro _ _ ⟨rfl, rfl⟩
  go_wp2_with fail
  refine hnum.mono ?_
  rintro _ _ ⟨rfl, rfl⟩
  go_wp2_with fail
  go_ret
  refine ⟨rfl, ⟨hB, cutA A c k, n - k, c - k, ?_, ?_⟩, gr_set (gr_set (gr_refl _ _) _ _) _ _⟩
  · have e1 := set_of_cells hh 1 (.int .i64 er)
    have e2 := set_of_cells e1 0 (.slice (cutA A c k) (n - k) (c - k))
    simpa using e2
  · have e1 := set_of_cells hh 1 (.int .i64 er)
    exact ((hy.cut hk).far (nou8_of_cells hh) _).far (nou8_of_cells (by simpa using e1)) _

/-- The error behind a call that takes k bytes. -/
def tkE (l : List UInt8) (e k : Int) : Int := if e ≠ 0 then e else if k < 0 then 1 else if (l.length : Int) < k then 10 else 0

set_option maxHeartbeats 1000000 in
/-- take, told an error. -/
theorem ctake_bad {w : World} {S : Nat → Prop} {p : Nat} {l : List UInt8} {e k : Int} (h : Rd w S p l e) (hk : tkE l e k ≠ 0) :
    Calls Tryd.prog 51 #[.pointer (some ⟨p, 0, none⟩), .int .i64 k] w fun r w' => r = .returned (.slice none 0 0) ∧ Rd w' S p l (tkE l e k) ∧ w.grownBy w' (some p) := by
  have h' := h
  obtain ⟨hB, A, n, c, hh, hy⟩ := h
  have h0 := cell_of_cells hh 0
  have h1 := cell_of_cells hh 1
  simp only [List.getElem?_toArray, List.getElem?_cons_succ, List.getElem?_cons_zero] at h0 h1
  have f0 := free_of_cells hh 0
  have f1 := free_of_cells hh 1
  have hl := hy.len
  unfold tkE at hk ⊢
  have fin : ∀ er : Int, Rd (w.setCell ⟨p, 1, none⟩ (.int .i64 er)) S p l er := fun er =>
    ⟨hB, A, n, c, by simpa using set_of_cells hh 1 (.int .i64 er), hy.far (nou8_of_cells hh) _⟩
  by_cases he : e = 0
  · subst he
    by_cases hk0 : k < 0
    · simp only [ne_eq, not_true, if_false, if_pos hk0] at hk ⊢
      clear hh hy hl
      go_enter Tryd.func51, Tryd.ntmps51
      go_wp2_with (go_at_call 25; refine (err_rd h').mono ?_; rintro _ _ ⟨rfl, rfl⟩)
      go_ret
      exact ⟨rfl, fin 1, gr_set (gr_refl _ _) _ _⟩
    · by_cases hk1 : (l.length : Int) < k
      · simp only [ne_eq, not_true, if_false, if_neg hk0, if_pos hk1] at hk ⊢
        have hk2 : (n : Int) < k := by omega
        clear hh hy hl hk1
        go_enter Tryd.func51, Tryd.ntmps51
        go_wp2_with (go_at_call 25; refine (err_rd h').mono ?_; rintro _ _ ⟨rfl, rfl⟩)
        go_ret
        exact ⟨rfl, fin 10, gr_set (gr_refl _ _) _ _⟩
      · simp [hk0, hk1] at hk
  · simp only [ne_eq, he, not_false_iff, if_true] at hk ⊢
    have he2 : (e != 0) = true := by simpa using he
    clear hh hy hl he hk
    go_enter Tryd.func51, Tryd.ntmps51
    go_wp2_with (go_at_call 25; refine (err_rd h').mono ?_; rintro _ _ ⟨rfl, rfl⟩)
    go_ret
    exact ⟨rfl, h', gr_refl _ _⟩

set_option maxHeartbeats 1000000 in
/-- take, told m bytes. -/
theorem take_ok {w : World} {S : Nat → Prop} {p : Nat} {l : List UInt8} {m : Nat} (h : Rd w S p l 0) (hm : m ≤ l.length) :
    Calls Tryd.prog 51 #[.pointer (some ⟨p, 0, none⟩), .int .i64 m] w fun r w' => ∃ A, r = .returned (.slice A m m) ∧ Rd w' S p (l.drop m) 0 ∧ Byt w' S A m m (l.take m) ∧ w.grownBy w' (some p) := by
  have h' := h
  obtain ⟨hB, A, n, c, hh, hy⟩ := h
  have h0 := cell_of_cells hh 0
  have h1 := cell_of_cells hh 1
  simp only [List.getElem?_toArray, List.getElem?_cons_succ, List.getElem?_cons_zero] at h0 h1
  have f0 := free_of_cells hh 0
  have f1 := free_of_cells hh 1
  have hl := hy.len
  have hk : m ≤ n := by omega
  have hkc : m ≤ c := by have := hy.cap; omega
  have hk2 : ¬ (n : Int) < (m : Int) := by omega
  have hk3 : ¬ (m : Int) < 0 := by omega
  have hcut := run_cut (P := Tryd.prog) 24 5 Tryd.underlying24 u8_size A n c m hk
  have hfront := run_front (P := Tryd.prog) 24 5 Tryd.underlying24 u8_size A n c m hkc
  have fin : Rd (w.setCell ⟨p, 0, none⟩ (.slice (cutA A c m) (n - m) (c - m))) S p (l.drop m) 0 ∧ Byt (w.setCell ⟨p, 0, none⟩ (.slice (cutA A c m) (n - m) (c - m))) S A m m (l.take m) :=
    ⟨⟨hB, _, _, _, by simpa using set_of_cells hh 0 (.slice (cutA A c m) (n - m) (c - m)), (hy.cut hk).far (nou8_of_cells hh) _⟩, (hy.take hk).far (nou8_of_cells hh) _⟩
  clear hh hy hl
  go_enter Tryd.func51, Tryd.ntmps51
  go_wp2_with (go_at_call 25; refine (err_rd h').mono ?_; rintro _ _ ⟨rfl, rfl⟩)
  go_ret
  exact ⟨A, rfl, fin.1, fin.2, gr_set (gr_refl _ _) _ _⟩

/-- What Fixed gives, and what it leaves. -/
def fxB (l : List UInt8) (e k : Int) : List UInt8 := if tkE l e k = 0 then l.take k.toNat else []
def fxL (l : List UInt8) (e k : Int) : List UInt8 := if tkE l e k = 0 then l.drop k.toNat else l

theorem tkE_zero {l : List UInt8} {e k : Int} (h : tkE l e k = 0) : e = 0 ∧ 0 ≤ k ∧ k.toNat ≤ l.length := by
  unfold tkE at h
  by_cases he : e = 0
  · subst he
    by_cases h1 : k < 0
    · simp [h1] at h
    · by_cases h2 : (l.length : Int) < k
      · simp [h1, h2] at h
      · exact ⟨rfl, by omega, by omega⟩
  · simp [he] at h

/-- The post of Fixed and Bytes: a row b in new memory, the reader then. -/
def Got (w : World) (S : Nat → Prop) (p : Nat) (b l : List UInt8) (e : Int) (r : Ending) (w' : World) : Prop :=
  ∃ A n c, r = .returned (.slice A n c) ∧ Byt w' (w.heap.size ≤ ·) A n c b ∧ Rd w' S p l e ∧ w.grownBy w' (some p) ∧ FreeRow w' A

set_option maxHeartbeats 1000000 in
theorem fixed_any {w : World} {S : Nat → Prop} {p : Nat} {l : List UInt8} {e k : Int} (h : Rd w S p l e) (hl : l.length ≤ 140737488355328) :
    Calls Tryd.prog 40 #[.pointer (some ⟨p, 0, none⟩), .int .i64 k] w (Got w S p (fxB l e k) (fxL l e k) (tkE l e k)) := by
  unfold fxB fxL
  by_cases hk : tkE l e k = 0
  · obtain ⟨rfl, h0, h1⟩ := tkE_zero hk
    obtain ⟨m, rfl⟩ := Int.eq_ofNat_of_zero_le h0
    simp only [Int.toNat_natCast] at h1
    rw [if_pos hk, if_pos hk, hk, Int.toNat_natCast]
    clear hk
    go_enter Tryd.func40, Tryd.ntmps40
    go_wp2_with fail
    refine (take_ok h h1).mono ?_
    rintro _ w1 ⟨A, rfl, hR, hY, hb⟩
    go_wp2_with fail
    refine (clone_byt hY (by omega)).mono ?_
    rintro _ w2 ⟨A2, c2, rfl, hY2, hb2, _, hF2⟩
    go_wp2_with fail
    go_ret
    exact ⟨A2, m, c2, rfl, hY2.mono (fun _ _ h => Nat.le_trans hb.size h), hR.below hb2, gr_below hb hb2, hF2⟩
  · rw [if_neg hk, if_neg hk]
    go_enter Tryd.func40, Tryd.ntmps40
    go_wp2_with fail
    refine (ctake_bad h hk).mono ?_
    rintro _ w1 ⟨rfl, hR, hb⟩
    go_wp2_with fail
    refine (clone_byt (Byt.nil w1 (fun _ => True) none 0 (Nat.zero_le _)) (by omega)).mono ?_
    rintro _ w2 ⟨A2, c2, rfl, hY2, hb2, _, hF2⟩
    go_wp2_with fail
    go_ret
    exact ⟨A2, 0, c2, rfl, hY2.mono (fun _ _ h => Nat.le_trans hb.size h), hR.below hb2, gr_below hb hb2, hF2⟩

/-- End. -/
def endE (l : List UInt8) (e : Int) : Int := if e ≠ 0 then e else if l = [] then 0 else 12

set_option maxHeartbeats 1000000 in
theorem end_rd {w : World} {S : Nat → Prop} {p : Nat} {l : List UInt8} {e : Int} (h : Rd w S p l e) :
    Calls Tryd.prog 27 #[.pointer (some ⟨p, 0, none⟩)] w fun r w' => r = .returned (.int .i64 (endE l e)) ∧ w = w' := by
  have h' := h
  obtain ⟨hB, A, n, c, hh, hy⟩ := h
  have h0 := cell_of_cells hh 0
  simp only [List.getElem?_toArray, List.getElem?_cons_zero] at h0
  have hl := hy.len
  unfold endE
  by_cases he : e = 0
  · subst he
    by_cases hn : l = []
    · subst hn
      simp at hl
      subst hl
      clear hh hy
      go_enter Tryd.func27, Tryd.ntmps27
      go_wp2_with (go_at_call 25; refine (err_rd h').mono ?_; rintro _ _ ⟨rfl, rfl⟩)
      go_ret
      exact ⟨rfl, rfl⟩
    · have hp : 0 < n := by
        rcases Nat.eq_zero_or_pos n with hz | hz
        · exact absurd (List.eq_nil_of_length_eq_zero (hl.trans hz)) hn
        · exact hz
      simp only [ne_eq, not_true, if_false, if_neg hn]
      clear hh hy hl hn
      go_enter Tryd.func27, Tryd.ntmps27
      go_wp2_with (go_at_call 25; refine (err_rd h').mono ?_; rintro _ _ ⟨rfl, rfl⟩)
      go_ret
      exact ⟨rfl, rfl⟩
  · have he2 : (e != 0) = true := by simpa using he
    simp only [ne_eq, he, not_false_iff, if_true]
    clear hh hy hl he
    go_enter Tryd.func27, Tryd.ntmps27
    go_wp2_with (go_at_call 25; refine (err_rd h').mono ?_; rintro _ _ ⟨rfl, rfl⟩)
    go_ret
    exact ⟨rfl, rfl⟩

end Go.Proofs.YtnbjhdlnibmgdaaDoor

/-! codec.Reader, its further methods; NewReader. -/
namespace Go.Proofs.YtnbjhdlnibmgdaaDoor
open Go.RowKit Codec

/-- Uint: value, what is left, error. -/
def uiX (l : List UInt8) (e : Int) : Nat := if e = 0 then (rd 0 l).1 else 0
def uiL (l : List UInt8) (e : Int) : List UInt8 := if e = 0 then l.drop (rd 0 l).2.1 else l
def uiE (l : List UInt8) (e : Int) : Int := if e = 0 then (rd 0 l).2.2 else e

theorem uiX_lt (l : List UInt8) (e : Int) : uiX l e < 18446744073709551616 := by
  unfold uiX
  split
  · have := rd_bound 0 l (by omega); simp at this; omega
  · omega
theorem uiL_length (l : List UInt8) (e : Int) : (uiL l e).length ≤ l.length := by unfold uiL; split <;> simp

theorem uint_any {w : World} {S : Nat → Prop} {p : Nat} {l : List UInt8} {e : Int} (h : Rd w S p l e) :
    Calls Tryd.prog 24 #[.pointer (some ⟨p, 0, none⟩)] w fun r w' => r = .returned (.int .u64 (uiX l e)) ∧ Rd w' S p (uiL l e) (uiE l e) ∧ w.grownBy w' (some p) := by
  unfold uiX uiL uiE
  by_cases he : e = 0
  · subst he
    simp only [if_true]
    exact uint_ok h
  · simp only [he, if_false]
    exact (uint_bad h (by simpa using he)).mono (by rintro _ _ ⟨rfl, rfl⟩; exact ⟨rfl, h, gr_refl _ _⟩)

/-- Bytes: error, what is left, the bytes. -/
def byE (l : List UInt8) (e most : Int) : Int := if uiE l e ≠ 0 then uiE l e else if most < 0 ∨ most < (uiX l e : Int) then 13 else tkE (uiL l e) 0 (uiX l e)
def byL (l : List UInt8) (e most : Int) : List UInt8 := if uiE l e ≠ 0 then uiL l e else if most < 0 ∨ most < (uiX l e : Int) then uiL l e else fxL (uiL l e) 0 (uiX l e)
def byB (l : List UInt8) (e most : Int) : List UInt8 := if uiE l e ≠ 0 then [] else if most < 0 ∨ most < (uiX l e : Int) then [] else fxB (uiL l e) 0 (uiX l e)

theorem Rd.mono {w : World} {S T : Nat → Prop} {p : Nat} {l : List UInt8} {e : Int} (h : Rd w S p l e) (hS : ∀ b, b < w.heap.size → S b → T b) : Rd w T p l e := by
  have hlt := h.lt
  obtain ⟨hB, A, n, c, hh, hy⟩ := h
  exact ⟨hS _ hlt hB, A, n, c, hh, hy.mono hS⟩
/-- What a reader does not hold may turn. -/
theorem Rd.grown {w w' : World} {S : Nat → Prop} {p : Nat} {l : List UInt8} {e : Int} (h : Rd w S p l e) {row : Option Nat} (hg : w.grownBy w' row) (hr : ∀ g, row = some g → ¬ S g) : Rd w' S p l e := by
  have hlt := h.lt
  obtain ⟨hB, A, n, c, hh, hy⟩ := h
  exact ⟨hB, A, n, c, (hg.block p hlt (fun e => hr p e.symm hB)).trans hh, hy.grown hg fun g hgr => .inl (hr g hgr)⟩
theorem Rd.set_err {w : World} {S : Nat → Prop} {p : Nat} {l : List UInt8} {e : Int} (h : Rd w S p l e) (er : Int) : Rd (w.setCell ⟨p, 1, none⟩ (.int .i64 er)) S p l er := by
  obtain ⟨hB, A, n, c, hh, hy⟩ := h
  exact ⟨hB, A, n, c, by simpa using set_of_cells hh 1 (.int .i64 er), hy.far (nou8_of_cells hh) _⟩
theorem Rd.free {w : World} {S : Nat → Prop} {p : Nat} {l : List UInt8} {e : Int} (h : Rd w S p l e) : w.frozen? ⟨p, 1, none⟩ = false := by
  obtain ⟨_, A, n, c, hh, _⟩ := h
  exact free_of_cells hh 1
theorem Rd.cell1 {w : World} {S : Nat → Prop} {p : Nat} {l : List UInt8} {e : Int} (h : Rd w S p l e) : w.cell? ⟨p, 1, none⟩ = some (.int .i64 e) := by
  obtain ⟨_, A, n, c, hh, _⟩ := h
  rw [cell_of_cells hh 1]; rfl

set_option maxHeartbeats 1000000 in
theorem bytes_any {w : World} {S : Nat → Prop} {p : Nat} {l : List UInt8} {e most : Int} (h : Rd w S p l e) (hl : l.length ≤ 140737488355328) (hm : most ≤ 9223372036854775807) :
    Calls Tryd.prog 26 #[.pointer (some ⟨p, 0, none⟩), .int .i64 most] w (Got w S p (byB l e most) (byL l e most) (byE l e most)) := by
  have hx := uiX_lt l e
  have hul := uiL_length l e
  have hc := uint_any h
  unfold byB byL byE
  generalize uiX l e = x at *
  generalize uiL l e = l1 at *
  generalize uiE l e = e1 at *
  by_cases he : e1 = 0
  · subst he
    simp only [ne_eq, not_true, if_false]
    by_cases h0 : most < 0
    · simp only [h0, true_or, if_true]
      go_enter Tryd.func26, Tryd.ntmps26
      go_wp2_with fail
      refine hc.mono ?_
      rintro _ w1 ⟨rfl, hR, hb⟩
      have hf := hR.free
      have h1 := hR.cell1
      go_wp2_with fail
      refine (err_rd hR).mono ?_
      rintro _ _ ⟨rfl, rfl⟩
      go_wp2_with fail
      go_ret
      exact ⟨none, 0, 0, rfl, Byt.nil _ _ _ _ (Nat.zero_le _), hR.set_err 13, gr_set hb _ _, FreeRow.none_ _⟩
    · by_cases hx2 : most < (x : Int)
      · simp only [h0, hx2, false_or, if_true]
        go_enter Tryd.func26, Tryd.ntmps26
        go_wp2_with fail
        refine hc.mono ?_
        rintro _ w1 ⟨rfl, hR, hb⟩
        have hf := hR.free
        have h1 := hR.cell1
        go_wp2_with fail
        refine (err_rd hR).mono ?_
        rintro _ _ ⟨rfl, rfl⟩
        go_wp2_with fail
        go_ret
        exact ⟨none, 0, 0, rfl, Byt.nil _ _ _ _ (Nat.zero_le _), hR.set_err 13, gr_set hb _ _, FreeRow.none_ _⟩
      · simp only [h0, hx2, false_or, if_false]
        go_enter Tryd.func26, Tryd.ntmps26
        go_wp2_with fail
        refine hc.mono ?_
        rintro _ w1 ⟨rfl, hR, hb⟩
        go_wp2_with fail
        refine (err_rd hR).mono ?_
        rintro _ _ ⟨rfl, rfl⟩
        go_wp2_with fail
        refine (fixed_any hR (by omega)).mono ?_
        rintro _ w2 ⟨A, n, c, rfl, hY, hR2, hb2, hF2⟩
        go_wp2_with fail
        go_ret
        exact ⟨A, n, c, rfl, hY.mono (fun _ _ h => Nat.le_trans hb.size h), hR2, gr_trans hb hb2, hF2⟩
  · simp only [ne_eq, he, not_false_iff, if_true]
    have he2 : (e1 != 0) = true := by simpa using he
    clear he
    go_enter Tryd.func26, Tryd.ntmps26
    go_wp2_with fail
    refine hc.mono ?_
    rintro _ w1 ⟨rfl, hR, hb⟩
    go_wp2_with fail
    refine (err_rd hR).mono ?_
    rintro _ _ ⟨rfl, rfl⟩
    go_wp2_with fail
    go_ret
    exact ⟨none, 0, 0, rfl, Byt.nil _ _ _ _ (Nat.zero_le _), hR, hb, FreeRow.none_ _⟩

/-- Bool: error, what is left, the answer. -/
def boE (l : List UInt8) (e : Int) : Int := if tkE l e 1 ≠ 0 then tkE l e 1 else if 1 < (l[0]?.getD 0).toNat then 11 else 0
def boX (l : List UInt8) (e : Int) : Bool := if tkE l e 1 ≠ 0 then false else (l[0]?.getD 0).toNat == 1


set_option maxHeartbeats 1000000 in
theorem newReader {w : World} {S : Nat → Prop} {n c : Nat} {A : Option Addr} {l : List UInt8} (h : Byt w S A n c l) (hn : n ≤ 140737488355328) :
    Calls Tryd.prog 23 #[.slice A n c] w fun r w' => ∃ p, r = .returned (.pointer (some ⟨p, 0, none⟩)) ∧ Rd w' (w.heap.size ≤ ·) p l 0 ∧ Below w.heap.size w w' := by
  go_enter Tryd.func23, Tryd.ntmps23
  go_wp2_with fail
  refine (clone_byt h hn).mono ?_
  rintro _ w1 ⟨A2, c2, rfl, hY, hb, _⟩
  go_wp2
  go_ret
  exact ⟨w1.heap.size, rfl, ⟨hb.size, A2, n, c2, heap_alloc_new w1 _, hY.alloc _⟩, hb.alloc hb.size _⟩

end Go.Proofs.YtnbjhdlnibmgdaaDoor

/-! codec.Writer: what each of its methods does, told of a writer that holds a list of bytes ('Wr'). -/
namespace Go.Proofs.YtnbjhdlnibmgdaaDoor
open Go.RowKit Codec

/-- THE STRUCT AT BLOCK p IS A WRITER that holds the bytes l; all its memory lies in blocks of S. -/
def Wr (w : World) (S : Nat → Prop) (p : Nat) (l : List UInt8) : Prop :=
  S p ∧ ∃ A c, w.heap[p]? = some (.cells #[.slice A l.length c] 69 (0, 0)) ∧ w.ownsRow 0 5 1 (.slice A l.length c) l.length (u8s l) ∧ ∀ a, A = some a → S a.block

section
variable {w w' : World} {S : Nat → Prop} {p : Nat} {l : List UInt8}
theorem Wr.lt (h : Wr w S p l) : p < w.heap.size := by
  obtain ⟨_, A, c, hh, _⟩ := h
  exact lt_of_cells hh
theorem own_lt {base : Nat} {e : TypeId} {size : Nat} {A : Option Addr} {n c : Nat} {xs : List Value} (h : w.ownsRow base e size (.slice A n c) n xs) : ∀ a, A = some a → a.block < w.heap.size := by
  rintro a rfl
  exact (h.lt a.block rfl).2
theorem Wr.mono {T : Nat → Prop} (h : Wr w S p l) (hS : ∀ b, b < w.heap.size → S b → T b) : Wr w T p l := by
  have hlt := h.lt
  obtain ⟨hp, A, c, hh, ho, hs⟩ := h
  exact ⟨hS _ hlt hp, A, c, hh, ho, fun a ha => hS _ (own_lt ho a ha) (hs a ha)⟩
/-- What a writer does not hold may turn. -/
theorem Wr.turned {T : Nat → Prop} (h : Wr w S p l) (ht : Turned T w w') (hd : ∀ b, b < w.heap.size → S b → ¬ T b) : Wr w' S p l := by
  have hlt := h.lt
  obtain ⟨hp, A, c, hh, ho, hs⟩ := h
  refine ⟨hp, A, c, (ht.block p hlt (hd p hlt hp)).trans hh, ?_, hs⟩
  obtain ⟨h1, h2⟩ := ho
  refine ⟨h1, ?_⟩
  rcases h2 with h2 | ⟨g, cap, cur, hv, hg, hhg, r⟩
  · exact .inl h2
  · have hgl := lt_of_cells hhg
    have hsg : S g := hs ⟨g, 0, none⟩ (by injection hv)
    exact .inr ⟨g, cap, cur, hv, hg, (ht.block g hgl (hd g hgl hsg)).trans hhg, r⟩
theorem Rd.turned {e : Int} {T : Nat → Prop} (h : Rd w S p l e) (ht : Turned T w w') (hd : ∀ b, b < w.heap.size → S b → ¬ T b) : Rd w' S p l e := by
  have hlt := h.lt
  obtain ⟨hB, A, n, c, hh, hy⟩ := h
  exact ⟨hB, A, n, c, (ht.block p hlt (hd p hlt hB)).trans hh, hy.turned ht hd⟩

/-- The store behind an append: the writer then. -/
theorem Wr.put_back {w1 : World} {l m : List UInt8} {A A' : Option Addr} {c c' n : Nat} (hp : S p) (hh : w.heap[p]? = some (.cells #[.slice A l.length c] 69 (0, 0))) (ho : w.ownsRow 0 5 1 (.slice A l.length c) l.length (u8s l)) (hs : ∀ a, A = some a → S a.block)
    (hsz : w.heap.size ≤ w'.heap.size) (hw : ∀ k, k < w.heap.size → w'.heap[k]? = w.heap[k]?)
    (ho1 : w1.ownsRow 0 5 1 (.slice A' n c') n (u8s l ++ u8s m)) (hn : n = l.length + m.length) (hg : w'.grownBy w1 (Value.slice A l.length c).ownBlock)
    (hat : (Value.slice A' n c').ownBlock = (Value.slice A l.length c).ownBlock ∨ (Value.slice A' n c').ownBlock = some w'.heap.size) :
    Wr (w1.setCell ⟨p, 0, none⟩ (.slice A' n c')) (fun b => S b ∨ w.heap.size ≤ b) p (l ++ m) := by
  have hplt := lt_of_cells hh
  have hne : ∀ g, (Value.slice A l.length c).ownBlock = some g → g ≠ p := by
    rintro g hg rfl
    rcases ho.2 with ⟨hv, _⟩ | ⟨g', cap, cur, hv, _, hhg, _⟩
    · rw [hv] at hg; simp [Value.ownBlock] at hg
    · rw [hv] at hg
      simp [Value.ownBlock] at hg
      subst hg
      rw [hh] at hhg
      injection hhg with hhg
      injection hhg with _ ht _
      exact absurd ht (by decide)
  have hp1 : w1.heap[p]? = some (.cells #[.slice A l.length c] 69 (0, 0)) :=
    (hg.block p (by omega) (fun e => hne p e.symm rfl)).trans ((hw p hplt).trans hh)
  have hlen : n = (l ++ m).length := by rw [hn, List.length_append]
  subst hlen
  rw [← u8s_append] at ho1
  have hne1 : ∀ g, (Value.slice A' (l ++ m).length c').ownBlock = some g → g ≠ p := by
    intro g hg1
    rcases hat with e | e
    · rw [e] at hg1; exact hne g hg1
    · rw [e] at hg1; injection hg1; omega
  refine ⟨.inl hp, A', c', by simpa using set_of_cells hp1 0 _, ?_, ?_⟩
  · obtain ⟨h1, h2⟩ := ho1
    refine ⟨h1, ?_⟩
    rcases h2 with h2 | ⟨g, cap, cur, hv, hgb, hhg, r⟩
    · exact .inl h2
    · have : g ≠ p := hne1 g (by rw [hv]; rfl)
      exact .inr ⟨g, cap, cur, hv, hgb, (Below.heap_setCell _ _ _ _ this).trans hhg, r⟩
  · rintro a rfl
    rcases hat with e | e
    · rcases A with _ | a0
      · simp [Value.ownBlock] at e
      · simp [Value.ownBlock] at e
        exact .inl (by rw [e]; exact hs a0 rfl)
    · simp [Value.ownBlock] at e
      exact .inr (by omega)
end

theorem own_wr {S : Nat → Prop} {A : Option Addr} {n c : Nat} (hs : ∀ a, A = some a → S a.block) : ∀ g, (Value.slice A n c).ownBlock = some g → S g := by
  intro g hg
  rcases A with _ | a
  · simp [Value.ownBlock] at hg
  · simp [Value.ownBlock] at hg
    rw [← hg]; exact hs a rfl

/-- What the walk is told behind an append to a writer's bytes. -/
theorem Wr.app {w wx w1 : World} {S : Nat → Prop} {p : Nat} {l m : List UInt8} {A A' : Option Addr} {c c' n : Nat} (hp : S p) (hh : w.heap[p]? = some (.cells #[.slice A l.length c] 69 (0, 0))) (ho : w.ownsRow 0 5 1 (.slice A l.length c) l.length (u8s l)) (hs : ∀ a, A = some a → S a.block)
    (hx : Below w.heap.size w wx) (ho1 : w1.ownsRow 0 5 1 (.slice A' n c') n (u8s l ++ u8s m)) (hn : n = l.length + m.length) (hg : wx.grownBy w1 (Value.slice A l.length c).ownBlock)
    (hat : (Value.slice A' n c').ownBlock = (Value.slice A l.length c).ownBlock ∨ (Value.slice A' n c').ownBlock = some wx.heap.size) :
    w1.cell? ⟨p, 0, none⟩ = some (.slice A l.length c) ∧ w1.frozen? ⟨p, 0, none⟩ = false ∧
      Hid (Wr (w1.setCell ⟨p, 0, none⟩ (.slice A' n c')) (fun b => S b ∨ w.heap.size ≤ b) p (l ++ m) ∧ Turned S w (w1.setCell ⟨p, 0, none⟩ (.slice A' n c'))) := by
  have hplt := lt_of_cells hh
  have hne : (Value.slice A l.length c).ownBlock ≠ some p := by
    intro hg
    rcases ho.2 with ⟨hv, _⟩ | ⟨g', cap, cur, hv, _, hhg, _⟩
    · rw [hv] at hg; simp [Value.ownBlock] at hg
    · rw [hv] at hg
      simp [Value.ownBlock] at hg
      subst hg
      rw [hh] at hhg
      injection hhg with hhg
      injection hhg with _ ht _
      exact absurd ht (by decide)
  have hp1 : w1.heap[p]? = some (.cells #[.slice A l.length c] 69 (0, 0)) :=
    (hg.block p (Nat.lt_of_lt_of_le hplt hx.size) (fun e => hne e.symm)).trans ((hx.block p hplt).trans hh)
  refine ⟨by rw [cell_of_cells hp1 0]; rfl, free_of_cells hp1 0, ?_⟩
  refine ⟨Wr.put_back hp hh ho hs hx.size (fun k hk => hx.block k hk) ho1 hn hg hat, ?_⟩
  exact ((Turned.of_below hx).trans (Turned.of_gr hg (own_wr hs)) fun _ _ h => h).set hp _ _



theorem own_cap {w : World} {base : Nat} {e : TypeId} {size : Nat} {A : Option Addr} {n c : Nat} {xs : List Value} (h : w.ownsRow base e size (.slice A n c) n xs) : n ≤ c := by
  rcases h.2 with ⟨hv, rfl⟩ | ⟨g', cap, cur, hv, _, _, hn, _⟩
  · omega
  · injection hv with _ _ hc; omega

/-- The post of a writer's call. -/
def Put (w : World) (S : Nat → Prop) (p : Nat) (l : List UInt8) (e : Ending) (w' : World) : Prop := e = .returned (.tuple #[]) ∧ Wr w' (fun b => S b ∨ w.heap.size ≤ b) p l ∧ Turned S w w'

set_option maxHeartbeats 1000000 in
theorem wfixed {w : World} {S T : Nat → Prop} {p : Nat} {l m : List UInt8} {A : Option Addr} {n c : Nat} (h : Wr w S p l) (hm : Byt w T A n c m) (hb : l.length + n ≤ 140737488355328) :
    Calls Tryd.prog 35 #[.pointer (some ⟨p, 0, none⟩), .slice A n c] w (Put w S p (l ++ m)) := by
  obtain ⟨i0, hi, hz0, hz1, hz2⟩ := info_parts u8_info
  have hmax := hm.max
  have hcap := hm.cap
  have hmlen := hm.len
  have hW := Lib.hid h
  obtain ⟨hp, A0, c0, hh, ho, hs⟩ := h
  have h0 := cell_of_cells hh 0
  simp only [List.getElem?_toArray, List.getElem?_cons_zero] at h0
  have f0 := free_of_cells hh 0
  have hoc := own_cap ho
  have HH := Lib.hid hh
  have HO := Lib.hid ho
  have HL := Lib.hid hmlen
  rcases A with _ | ad
  · have hn0 : n = 0 := by
      rcases Nat.eq_zero_or_pos n with h0 | h0
      · exact h0
      · obtain ⟨_, _, hA, _⟩ := hm.row h0
        cases hA
    subst hn0
    obtain rfl : m = [] := List.eq_nil_of_length_eq_zero hmlen
    have fin : Put w S p (l ++ []) (.returned (.tuple #[])) (w.setCell ⟨p, 0, none⟩ (.slice A0 l.length c0)) := by
      rw [List.append_nil]
      refine ⟨rfl, ⟨.inl hp, A0, c0, by simpa using set_of_cells hh 0 (.slice A0 l.length c0), ?_, fun a ha => .inl (hs a ha)⟩, (Turned.refl _ _).set hp _ _⟩
      obtain ⟨h1, h2⟩ := ho
      refine ⟨h1, ?_⟩
      rcases h2 with h2 | ⟨g, cap, cur, hv, hgb, hhg, r⟩
      · exact .inl h2
      · have : g ≠ p := by
          rintro rfl
          rw [hh] at hhg
          injection hhg with hhg
          injection hhg with _ ht _
          exact absurd ht (by decide)
        exact .inr ⟨g, cap, cur, hv, hgb, (Below.heap_setCell _ _ _ _ this).trans hhg, r⟩
    clear hm hh ho hmlen
    go_enter Tryd.func35, Tryd.ntmps35
    go_wp2_with (at_builtin; refine wpList_append_zero (by rfl) _ _ 24 (by rfl) 5 i0 Tryd.underlying24 hi A0 l.length c0 c hoc (by rfl) (by rfl) ?_)
    go_end0
    exact fin
  · have hnews := byt_news hm
    have hlen := u8s_length m
    have hone := u8s_one m
    clear hm hh ho hmlen
    go_enter Tryd.func35, Tryd.ntmps35
    go_wp2_with (at_builtin; refine wpList_append_own_at _ rfl _ _ 24 rfl 0 5 i0 (.int .u8 0) 1 1 Tryd.underlying24 hi hz0 hz1 hz2 rfl (by decide) _ l.length (u8s l) rfl HO.out ad n c (u8s m) rfl ?qc1 hnews hone ?qc4 ?qc5 ?qc6 ?_)
    case qc1 => rw [hlen, HL.out]; omega
    case qc4 => unfold maxLen at *; omega
    case qc5 => omega
    case qc6 => simp
    intro v' w1 hown hgrow hnn hat
    obtain ⟨A', c', rfl, _⟩ := own_byt (l := l ++ m) (by rw [u8s_append]; exact hown)
    obtain ⟨g1, g2, g3⟩ := Wr.app hp HH.out HO.out hs (Below.refl _ _) hown (by rw [HL.out]) hgrow hat
    clear hown hgrow hnn hat h0 f0 hnews
    go_wp2
    go_end0
    exact ⟨rfl, g3.out⟩
end Go.Proofs.YtnbjhdlnibmgdaaDoor

/-! codec.Writer, its further methods. -/
namespace Go.Proofs.YtnbjhdlnibmgdaaDoor
open Go.RowKit Codec

theorem or128_all : ∀ a, a < 256 → a ||| 128 = a % 128 + 128 := by decide +kernel
theorem byte_more (x : Nat) : bits .or .u8 (IntKind.u8.wrap (x : Int)) 128 = ((UInt8.ofNat (x % 128 + 128)).toNat : Int) := by
  have e : IntKind.u8.wrap (x : Int) = ((x % 256 : Nat) : Int) := by simp [IntKind.wrap, IntKind.signed, IntKind.bits]
  rw [e, show (128 : Int) = ((128 : Nat) : Int) from rfl, u8_or_nat _ _ (by omega) (by omega), or128_all _ (by omega)]
  have : (UInt8.ofNat (x % 128 + 128)).toNat = x % 128 + 128 := by simp; omega
  rw [this]
  omega
theorem byte_last (x : Nat) : IntKind.u8.wrap (x : Int) = ((UInt8.ofNat x).toNat : Int) := by
  have e : IntKind.u8.wrap (x : Int) = ((x % 256 : Nat) : Int) := by simp [IntKind.wrap, IntKind.signed, IntKind.bits]
  rw [e]
  simp


set_option maxHeartbeats 1000000 in
set_option maxRecDepth 100000 in
theorem wuint {w : World} {S : Nat → Prop} {p : Nat} {l : List UInt8} {x : Nat} (h : Wr w S p l) (hx : x < 18446744073709551616) (hb : l.length + 10 ≤ 140737488355328) :
    Calls Tryd.prog 18 #[.pointer (some ⟨p, 0, none⟩), .int .u64 x] w (Put w S p (l ++ put x)) := by
  obtain ⟨i0, hi, hz0, hz1, hz2⟩ := info_parts u8_info
  go_enter Tryd.func18, Tryd.ntmps18
  go_wp2
  go_loopw [1] (fun s1 wr => ∃ (y : Nat) (d : List UInt8), y < 18446744073709551616 ∧ s1 = .int .u64 y ∧ Hid (l ++ put x = d ++ put y) ∧ Wr wr (fun b => S b ∨ w.heap.size ≤ b) p d ∧ Turned S w wr) (fun s1 _ => (intOf s1).toNat)
  case atStart => exact ⟨x, l, hx, rfl, rfl, h.mono fun _ _ hs => .inl hs, Turned.refl _ _⟩
  case round =>
    obtain ⟨y, d, hy, rfl, HD, hW, hT⟩ := hrel
    obtain ⟨hp, A0, c0, hh, ho, hs⟩ := hW
    have h0 := cell_of_cells hh 0
    simp only [List.getElem?_toArray, List.getElem?_cons_zero] at h0
    have f0 := free_of_cells hh 0
    have hdl : d.length + 1 ≤ l.length + 10 := by
      have e := congrArg List.length HD.out
      have := put_length_64 hx
      have := put_length_pos y
      simp at e
      omega
    have HH := Lib.hid hh
    have HO := Lib.hid ho
    clear hh ho
    have hq4 : d.length + 1 ≤ maxLen := by unfold maxLen; omega
    have hq5 : (d.length + 1) * 1 ≤ 140737488355328 := by omega
    by_cases hlt : y < 128
    · have hge : ¬ 128 ≤ y := by omega
      have hput := put_small hlt
      have HP := Lib.hid hput
      have hone : [Value.int .u8 (y : Int)] = u8s [UInt8.ofNat y] := by simp [u8s, Nat.mod_eq_of_lt (show y < 256 by omega)]
      have HV := Lib.hid hone
      clear hput hone
      go_wp2_with (at_builtin; refine wpList_append_own_at _ rfl _ _ 24 rfl 0 5 i0 (.int .u8 0) 1 1 Tryd.underlying24 hi hz0 hz1 hz2 rfl (by decide) _ d.length (u8s d) rfl (HO.out.alloc _) ⟨wr.heap.size, 0, none⟩ 1 1 [.int .u8 (y : Int)] rfl rfl (cell_one_new _ _ _) (one_of rfl) hq4 hq5 (Nat.zero_le _) ?_)
      intro v' w1 hown hgrow hnn hat
      rw [HV.out] at hown
      obtain ⟨A', c', rfl, _⟩ := own_byt (l := d ++ [UInt8.ofNat y]) (by rw [u8s_append]; exact hown)
      obtain ⟨g1, g2, g3⟩ := Wr.app (S := fun b => S b ∨ w.heap.size ≤ b) hp HH.out HO.out hs ((Below.refl _ _).alloc (Nat.le_refl _) _) hown rfl hgrow (hat.imp_right fun e => e.trans (by simp))
      have fin : Put w S p (l ++ put x) (.returned (.tuple #[])) (w1.setCell ⟨p, 0, none⟩ (.slice A' (d.length + 1) c')) := by
        rw [HD.out, HP.out]
        refine ⟨rfl, g3.out.1.mono fun b _ hs => ?_, hT.trans g3.out.2 fun i hi hs => ?_⟩
        · rcases hs with hs | hs
          · exact hs
          · exact .inr (Nat.le_trans hT.size hs)
        · rcases hs with hs | hs
          · exact hs
          · omega
      have HF := Lib.hid fin
      clear hown hgrow hnn hat h0 f0 fin
      go_wp2
      go_end0
      exact HF.out
    · have hone : [Value.int .u8 (bits .or .u8 (IntKind.u8.wrap (y : Int)) 128)] = u8s [UInt8.ofNat (y % 128 + 128)] := by rw [byte_more]; rfl
      have HV := Lib.hid hone
      have hput := put_big (x := y) (by omega)
      have HP := Lib.hid hput
      clear hput hone
      go_wp2_with (at_builtin; refine wpList_append_own_at _ rfl _ _ 24 rfl 0 5 i0 (.int .u8 0) 1 1 Tryd.underlying24 hi hz0 hz1 hz2 rfl (by decide) _ d.length (u8s d) rfl (HO.out.alloc _) ⟨wr.heap.size, 0, none⟩ 1 1 [.int .u8 (bits .or .u8 (IntKind.u8.wrap (y : Int)) 128)] rfl rfl (cell_one_new _ _ _) (one_of rfl) hq4 hq5 (Nat.zero_le _) ?_)
      intro v' w1 hown hgrow hnn hat
      rw [HV.out] at hown
      obtain ⟨A', c', rfl, _⟩ := own_byt (l := d ++ [UInt8.ofNat (y % 128 + 128)]) (by rw [u8s_append]; exact hown)
      obtain ⟨g1, g2, g3⟩ := Wr.app (S := fun b => S b ∨ w.heap.size ≤ b) hp HH.out HO.out hs ((Below.refl _ _).alloc (Nat.le_refl _) _) hown rfl hgrow (hat.imp_right fun e => e.trans (by simp))
      clear hown hgrow hnn hat h0 f0
      go_wp2
      go_roundw
      case rel =>
        refine ⟨y / 128, d ++ [UInt8.ofNat (y % 128 + 128)], by omega, ?_, ?_, g3.out.1.mono fun b _ hs => ?_, hT.trans g3.out.2 fun i hi hs => ?_⟩
        · go_num
        · show l ++ put x = _
          rw [HD.out, HP.out]; simp
        · rcases hs with hs | hs
          · exact hs
          · exact .inr (Nat.le_trans hT.size hs)
        · rcases hs with hs | hs
          · exact hs
          · omega
      case measure => simp [intOf]; omega
end Go.Proofs.YtnbjhdlnibmgdaaDoor

/-! codec.Writer: Bytes, Bool, Out, NewWriter; a Writer and a Reader that are none. -/
namespace Go.Proofs.YtnbjhdlnibmgdaaDoor
open Go.RowKit Codec

theorem Put.join {w w1 w2 : World} {S : Nat → Prop} {p : Nat} {l m : List UInt8} {e1 e2 : Ending} (h1 : Put w S p l e1 w1) (h2 : Put w1 (fun b => S b ∨ w.heap.size ≤ b) p m e2 w2) : Put w S p m (.returned (.tuple #[])) w2 :=
  ⟨rfl, h2.2.1.mono fun _ _ hs => by
    rcases hs with hs | hs
    · exact hs
    · exact .inr (Nat.le_trans h1.2.2.size hs),
   h1.2.2.trans h2.2.2 fun i hi hs => by
    rcases hs with hs | hs
    · exact hs
    · omega⟩
/-- Where all from B on is the writer's own. -/
theorem Put.from {w w' : World} {B p : Nat} {l : List UInt8} {e : Ending} (h : Put w (B ≤ ·) p l e w') (hB : B ≤ w.heap.size) : Wr w' (B ≤ ·) p l ∧ Below B w w' :=
  ⟨h.2.1.mono fun _ _ hs => by rcases hs with hs | hs <;> omega, h.2.2.below hB⟩

set_option maxHeartbeats 1000000 in
theorem wbytes {w : World} {S T : Nat → Prop} {p : Nat} {l m : List UInt8} {A : Option Addr} {n c : Nat} (h : Wr w S p l) (hm : Byt w T A n c m) (hd : ∀ b, b < w.heap.size → T b → ¬ S b) (hb : l.length + 10 + n ≤ 140737488355328) :
    Calls Tryd.prog 19 #[.pointer (some ⟨p, 0, none⟩), .slice A n c] w (Put w S p (l ++ (put m.length ++ m))) := by
  have hn : n < 18446744073709551616 := by omega
  have hml := hm.len
  have hput := put_length_64 (x := n) (by omega)
  have hu := wuint (x := n) h hn (by omega)
  have HB := Lib.hid hb
  have HM := Lib.hid hml
  clear hml
  go_enter Tryd.func19, Tryd.ntmps19
  go_wp2_with fail
  refine hu.mono ?_
  rintro _ w1 ⟨rfl, h1⟩
  go_wp2_with fail
  refine (wfixed h1.1 (hm.turned h1.2 hd) (by have := HB.out; simp; omega)).mono ?_
  rintro _ w2 ⟨rfl, h2⟩
  go_wp2
  go_end0
  have h3 := Put.join (e1 := .returned (.tuple #[])) (e2 := .returned (.tuple #[])) ⟨rfl, h1⟩ ⟨rfl, h2⟩
  rw [HM.out]
  rw [List.append_assoc] at h3
  exact h3


/-- What a writer holds, as bytes in its own row. -/
theorem wr_byt {w : World} {S : Nat → Prop} {p : Nat} {l : List UInt8} (h : Wr w S p l) : ∃ A c, w.cell? ⟨p, 0, none⟩ = some (.slice A l.length c) ∧ Byt w (fun _ => True) A l.length c l := by
  obtain ⟨_, A, c, hh, ho, _⟩ := h
  obtain ⟨A', c', hv, hb⟩ := own_byt ho
  injection hv with h1 _ h2
  subst h1 h2
  exact ⟨A, c, by rw [cell_of_cells hh 0]; rfl, hb.mono fun _ _ _ => trivial⟩

set_option maxHeartbeats 1000000 in
theorem wout {w : World} {S : Nat → Prop} {p : Nat} {l : List UInt8} (h : Wr w S p l) (hb : l.length ≤ 140737488355328) :
    Calls Tryd.prog 20 #[.pointer (some ⟨p, 0, none⟩)] w fun r w' => ∃ A c, r = .returned (.slice A l.length c) ∧ Byt w' (w.heap.size ≤ ·) A l.length c l ∧ Below w.heap.size w w' ∧ FreeRow w' A := by
  obtain ⟨A0, c0, h0, hY⟩ := wr_byt h
  go_enter Tryd.func20, Tryd.ntmps20
  go_wp2_with fail
  refine (clone_byt hY hb).mono ?_
  rintro _ w1 ⟨A, c, rfl, hY1, hb1, _, hF1⟩
  go_wp2
  go_ret
  exact ⟨A, c, rfl, hY1, hb1, hF1⟩

theorem newWriter (w : World) :
    Calls Tryd.prog 17 #[] w fun r w' => ∃ p, r = .returned (.pointer (some ⟨p, 0, none⟩)) ∧ Wr w' (w.heap.size ≤ ·) p [] ∧ Below w.heap.size w w' := by
  go_enter Tryd.func17, Tryd.ntmps17
  go_wp2
  go_ret
  exact ⟨w.heap.size, rfl, ⟨Nat.le_refl _, none, 0, heap_alloc_new w _, World.ownsRow_nil _ _ _ _, fun a h => by cases h⟩, (Below.refl _ _).alloc (Nat.le_refl _) _⟩

/-! None -/
theorem wuint_nil (w : World) (x : Int) : Calls Tryd.prog 18 #[.pointer none, .int .u64 x] w fun e w' => e = .returned (.tuple #[]) ∧ w = w' := by
  go_enter Tryd.func18, Tryd.ntmps18
  go_wp2
  refine bodyPost_ret (results_none rfl _ _ _) rfl ?_
  exact ⟨rfl, rfl⟩
theorem wfixed_nil (w : World) (A : Option Addr) (n c : Nat) : Calls Tryd.prog 35 #[.pointer none, .slice A n c] w fun e w' => e = .returned (.tuple #[]) ∧ w = w' := by
  go_enter Tryd.func35, Tryd.ntmps35
  go_wp2
  refine bodyPost_ret (results_none rfl _ _ _) rfl ?_
  exact ⟨rfl, rfl⟩
theorem wbytes_nil (w : World) (A : Option Addr) (n c : Nat) : Calls Tryd.prog 19 #[.pointer none, .slice A n c] w fun e w' => e = .returned (.tuple #[]) ∧ w = w' := by
  go_enter Tryd.func19, Tryd.ntmps19
  go_wp2_with fail
  refine (wuint_nil _ _).mono ?_
  rintro _ _ ⟨rfl, rfl⟩
  go_wp2_with fail
  refine (wfixed_nil _ _ _ _).mono ?_
  rintro _ _ ⟨rfl, rfl⟩
  go_wp2
  go_end0
  exact ⟨rfl, rfl⟩
theorem wout_nil (w : World) : Calls Tryd.prog 20 #[.pointer none] w fun r w' => r = .returned (.slice none 0 0) ∧ w = w' := by
  go_enter Tryd.func20, Tryd.ntmps20
  go_wp2
  go_ret
  exact ⟨rfl, rfl⟩

theorem uint_nil (w : World) : Calls Tryd.prog 24 #[.pointer none] w fun r w' => r = .returned (.int .u64 0) ∧ w = w' := by
  go_enter Tryd.func24, Tryd.ntmps24
  go_wp2_with (go_at_call 25; refine (err_nil _).mono ?_; rintro _ _ ⟨rfl, rfl⟩)
  go_ret
  exact ⟨rfl, rfl⟩
theorem take_nil (w : World) (k : Int) : Calls Tryd.prog 51 #[.pointer none, .int .i64 k] w fun r w' => r = .returned (.slice none 0 0) ∧ w = w' := by
  go_enter Tryd.func51, Tryd.ntmps51
  go_wp2_with (go_at_call 25; refine (err_nil _).mono ?_; rintro _ _ ⟨rfl, rfl⟩)
  go_ret
  exact ⟨rfl, rfl⟩
theorem fixed_nil (w : World) (k : Int) : Calls Tryd.prog 40 #[.pointer none, .int .i64 k] w fun r w' => r = .returned (.slice none 0 0) ∧ w = w' := by
  have hc := clone_nil
  go_enter Tryd.func40, Tryd.ntmps40
  go_wp2_with fail
  refine (take_nil _ _).mono ?_
  rintro _ _ ⟨rfl, rfl⟩
  go_wp2_with fail
  refine (hc _).mono ?_
  rintro _ _ ⟨rfl, rfl⟩
  go_wp2
  go_ret
  exact ⟨rfl, rfl⟩
theorem bytes_nil (w : World) (k : Int) : Calls Tryd.prog 26 #[.pointer none, .int .i64 k] w fun r w' => r = .returned (.slice none 0 0) ∧ w = w' := by
  go_enter Tryd.func26, Tryd.ntmps26
  go_wp2_with fail
  refine (uint_nil _).mono ?_
  rintro _ _ ⟨rfl, rfl⟩
  go_wp2_with fail
  refine (err_nil _).mono ?_
  rintro _ _ ⟨rfl, rfl⟩
  go_wp2
  go_ret
  exact ⟨rfl, rfl⟩
theorem end_nil (w : World) : Calls Tryd.prog 27 #[.pointer none] w fun r w' => r = .returned (.int .i64 1) ∧ w = w' := by
  go_enter Tryd.func27, Tryd.ntmps27
  go_wp2_with (go_at_call 25; refine (err_nil _).mono ?_; rintro _ _ ⟨rfl, rfl⟩)
  go_ret
  exact ⟨rfl, rfl⟩
end Go.Proofs.YtnbjhdlnibmgdaaDoor
