/-
  codec.Reader: what each of its methods does, told of a reader that reads as a list of bytes with an error ('Rd').
-/
import Derived.Test.YtbdondgonghooaaCodecNum
import Derived.Test.YtbdondgonghooaaCodecClone
namespace Go.Proofs.Ytbdondgonghooaa
open Go.RowKit Codec

/-- THE STRUCT AT BLOCK p IS A READER: the bytes l are left, its error is e; all its memory lies in blocks of S. -/
def Rd (w : World) (S : Nat → Prop) (p : Nat) (l : List UInt8) (e : Int) : Prop := S p ∧ ∃ A n c, w.heap[p]? = some (.cells #[.slice A n c, .int .i64 e] 70 (0, 0)) ∧ Byt w S A n c l

section
variable {w w' : World} {S : Nat → Prop} {p : Nat} {l : List UInt8} {e : Int}
theorem lt_of_cells {cs : Array Value} {t : TypeId} {f : Nat × Nat} (h : w.heap[p]? = some (.cells cs t f)) : p < w.heap.size := (Array.getElem?_eq_some_iff.1 h).1
theorem cell_of_cells {cs : Array Value} {t : TypeId} {f : Nat × Nat} (h : w.heap[p]? = some (.cells cs t f)) (i : Nat) : w.cell? ⟨p, i, none⟩ = cs[i]? := cell_of_row w p i cs t f h
theorem free_of_cells {cs : Array Value} {t : TypeId} (h : w.heap[p]? = some (.cells cs t (0, 0))) (i : Nat) : w.frozen? ⟨p, i, none⟩ = false := by simp [World.frozen?, h]
theorem set_of_cells {cs : Array Value} {t : TypeId} {f : Nat × Nat} (h : w.heap[p]? = some (.cells cs t f)) (i : Nat) (u : Value) : (w.setCell ⟨p, i, none⟩ u).heap[p]? = some (.cells (cs.setIfInBounds i u) t f) := by
  simp [World.setCell, Array.getElem?_modify, h]
theorem nou8_of_cells {A : Option Addr} {n c : Nat} {t : TypeId} {f : Nat × Nat} (h : w.heap[p]? = some (.cells #[.slice A n c, .int .i64 e] t f)) : ∀ o x, w.cell? ⟨p, o, none⟩ ≠ some (.int .u8 x) := by
  intro o x
  rw [cell_of_cells h]
  rcases o with _ | _ | o <;> simp

theorem Rd.lt (h : Rd w S p l e) : p < w.heap.size := by
  obtain ⟨_, A, n, c, hh, _⟩ := h
  exact lt_of_cells hh
theorem Rd.below (h : Rd w S p l e) (hb : Below w.heap.size w w') : Rd w' S p l e := by
  obtain ⟨hB, A, n, c, hh, hy⟩ := h
  exact ⟨hB, A, n, c, (hb.block p (lt_of_cells hh)).trans hh, hy.below hb⟩
end

theorem err_rd {w : World} {S : Nat → Prop} {p : Nat} {l : List UInt8} {e : Int} (h : Rd w S p l e) :
    Calls Try.prog 21 #[.pointer (some ⟨p, 0, none⟩)] w fun r w' => r = .returned (.int .i64 e) ∧ w = w' := by
  obtain ⟨hB, A, n, c, hh, hy⟩ := h
  have h0 := cell_of_cells hh 1
  simp only [List.getElem?_toArray, List.getElem?_cons_succ, List.getElem?_cons_zero] at h0
  clear hh hy
  go_enter Try.func21, Try.ntmps21
  go_wp2
  go_ret
  exact ⟨rfl, rfl⟩

theorem err_nil (w : World) :
    Calls Try.prog 21 #[.pointer none] w fun r w' => r = .returned (.int .i64 1) ∧ w = w' := by
  go_enter Try.func21, Try.ntmps21
  go_wp2
  go_ret
  exact ⟨rfl, rfl⟩

set_option maxHeartbeats 1000000 in
/-- Uint behind an error. -/
theorem uint_bad {w : World} {S : Nat → Prop} {p : Nat} {l : List UInt8} {e : Int} (h : Rd w S p l e) (he : (e == 0) = false) :
    Calls Try.prog 11 #[.pointer (some ⟨p, 0, none⟩)] w fun r w' => r = .returned (.int .u64 0) ∧ w = w' := by
  have he2 : (e != 0) = true := by simpa using he
  go_enter Try.func11, Try.ntmps11
  go_wp2_with (go_at_call 21; refine (err_rd h).mono ?_; rintro r w' ⟨rfl, rfl⟩)
  go_ret
  exact ⟨rfl, rfl⟩

set_option maxHeartbeats 1000000 in
/-- Uint. -/
theorem uint_ok {w : World} {S : Nat → Prop} {p : Nat} {l : List UInt8} (h : Rd w S p l 0) :
    Calls Try.prog 11 #[.pointer (some ⟨p, 0, none⟩)] w fun r w' => r = .returned (.int .u64 (rd 0 l).1) ∧ Rd w' S p (l.drop (rd 0 l).2.1) (rd 0 l).2.2 ∧ w.grownBy w' (some p) := by
  have h' := h
  obtain ⟨hB, A, n, c, hh, hy⟩ := h
  have h0 := cell_of_cells hh 0
  have h1 := cell_of_cells hh 1
  simp only [List.getElem?_toArray, List.getElem?_cons_succ, List.getElem?_cons_zero] at h0 h1
  have f0 := free_of_cells hh 0
  have f1 := free_of_cells hh 1
  have hk : (rd 0 l).2.1 ≤ n := by have := rd_le 0 l; have := hy.len; omega
  have hcut := run_cut (P := Try.prog) 22 5 Try.underlying22 u8_size A n c (rd 0 l).2.1 hk
  have hnum := number_byt hy
  generalize hr : rd 0 l = r at *
  have HR := Lib.hid hr
  clear hr
  obtain ⟨x, k, er⟩ := r
  go_enter Try.func11, Try.ntmps11
  go_wp2_with fail
  refine (err_rd h').mono ?_
  rintro _ _ ⟨rfl, rfl⟩
  go_wp2_with fail
  refine hnum.mono ?_
  rintro _ _ ⟨rfl, rfl⟩
  go_wp2_with fail
  go_ret
  refine ⟨rfl, ⟨hB, cutA A c k, n - k, c - k, ?_, ?_⟩, gr_set (gr_set (gr_refl _ _) _ _) _ _⟩
  · have e1 := set_of_cells hh 1 (.int .i64 er)
    have e2 := set_of_cells e1 0 (.slice (cutA A c k) (n - k) (c - k))
    simpa using e2
  · have e1 := set_of_cells hh 1 (.int .i64 er)
    exact ((hy.cut hk).far (nou8_of_cells hh) _).far (nou8_of_cells (by simpa using e1)) _

/-- The error behind a call that takes k bytes. -/
def tkE (l : List UInt8) (e k : Int) : Int := if e ≠ 0 then e else if k < 0 then 1 else if (l.length : Int) < k then 10 else 0

set_option maxHeartbeats 1000000 in
/-- take, told an error. -/
theorem take_bad {w : World} {S : Nat → Prop} {p : Nat} {l : List UInt8} {e k : Int} (h : Rd w S p l e) (hk : tkE l e k ≠ 0) :
    Calls Try.prog 34 #[.pointer (some ⟨p, 0, none⟩), .int .i64 k] w fun r w' => r = .returned (.slice none 0 0) ∧ Rd w' S p l (tkE l e k) ∧ w.grownBy w' (some p) := by
  have h' := h
  obtain ⟨hB, A, n, c, hh, hy⟩ := h
  have h0 := cell_of_cells hh 0
  have h1 := cell_of_cells hh 1
  simp only [List.getElem?_toArray, List.getElem?_cons_succ, List.getElem?_cons_zero] at h0 h1
  have f0 := free_of_cells hh 0
  have f1 := free_of_cells hh 1
  have hl := hy.len
  unfold tkE at hk ⊢
  have fin : ∀ er : Int, Rd (w.setCell ⟨p, 1, none⟩ (.int .i64 er)) S p l er := fun er =>
    ⟨hB, A, n, c, by simpa using set_of_cells hh 1 (.int .i64 er), hy.far (nou8_of_cells hh) _⟩
  by_cases he : e = 0
  · subst he
    by_cases hk0 : k < 0
    · simp only [ne_eq, not_true, if_false, if_pos hk0] at hk ⊢
      clear hh hy hl
      go_enter Try.func34, Try.ntmps34
      go_wp2_with (go_at_call 21; refine (err_rd h').mono ?_; rintro _ _ ⟨rfl, rfl⟩)
      go_ret
      exact ⟨rfl, fin 1, gr_set (gr_refl _ _) _ _⟩
    · by_cases hk1 : (l.length : Int) < k
      · simp only [ne_eq, not_true, if_false, if_neg hk0, if_pos hk1] at hk ⊢
        have hk2 : (n : Int) < k := by omega
        clear hh hy hl hk1
        go_enter Try.func34, Try.ntmps34
        go_wp2_with (go_at_call 21; refine (err_rd h').mono ?_; rintro _ _ ⟨rfl, rfl⟩)
        go_ret
        exact ⟨rfl, fin 10, gr_set (gr_refl _ _) _ _⟩
      · simp [hk0, hk1] at hk
  · simp only [ne_eq, he, not_false_iff, if_true] at hk ⊢
    have he2 : (e != 0) = true := by simpa using he
    clear hh hy hl he hk
    go_enter Try.func34, Try.ntmps34
    go_wp2_with (go_at_call 21; refine (err_rd h').mono ?_; rintro _ _ ⟨rfl, rfl⟩)
    go_ret
    exact ⟨rfl, h', gr_refl _ _⟩

set_option maxHeartbeats 1000000 in
/-- take, told m bytes. -/
theorem take_ok {w : World} {S : Nat → Prop} {p : Nat} {l : List UInt8} {m : Nat} (h : Rd w S p l 0) (hm : m ≤ l.length) :
    Calls Try.prog 34 #[.pointer (some ⟨p, 0, none⟩), .int .i64 m] w fun r w' => ∃ A, r = .returned (.slice A m m) ∧ Rd w' S p (l.drop m) 0 ∧ Byt w' S A m m (l.take m) ∧ w.grownBy w' (some p) := by
  have h' := h
  obtain ⟨hB, A, n, c, hh, hy⟩ := h
  have h0 := cell_of_cells hh 0
  have h1 := cell_of_cells hh 1
  simp only [List.getElem?_toArray, List.getElem?_cons_succ, List.getElem?_cons_zero] at h0 h1
  have f0 := free_of_cells hh 0
  have f1 := free_of_cells hh 1
  have hl := hy.len
  have hk : m ≤ n := by omega
  have hkc : m ≤ c := by have := hy.cap; omega
  have hk2 : ¬ (n : Int) < (m : Int) := by omega
  have hk3 : ¬ (m : Int) < 0 := by omega
  have hcut := run_cut (P := Try.prog) 22 5 Try.underlying22 u8_size A n c m hk
  have hfront := run_front (P := Try.prog) 22 5 Try.underlying22 u8_size A n c m hkc
  have fin : Rd (w.setCell ⟨p, 0, none⟩ (.slice (cutA A c m) (n - m) (c - m))) S p (l.drop m) 0 ∧ Byt (w.setCell ⟨p, 0, none⟩ (.slice (cutA A c m) (n - m) (c - m))) S A m m (l.take m) :=
    ⟨⟨hB, _, _, _, by simpa using set_of_cells hh 0 (.slice (cutA A c m) (n - m) (c - m)), (hy.cut hk).far (nou8_of_cells hh) _⟩, (hy.take hk).far (nou8_of_cells hh) _⟩
  clear hh hy hl
  go_enter Try.func34, Try.ntmps34
  go_wp2_with (go_at_call 21; refine (err_rd h').mono ?_; rintro _ _ ⟨rfl, rfl⟩)
  go_ret
  exact ⟨A, rfl, fin.1, fin.2, gr_set (gr_refl _ _) _ _⟩

/-- What Fixed gives, and what it leaves. -/
def fxB (l : List UInt8) (e k : Int) : List UInt8 := if tkE l e k = 0 then l.take k.toNat else []
def fxL (l : List UInt8) (e k : Int) : List UInt8 := if tkE l e k = 0 then l.drop k.toNat else l

theorem tkE_zero {l : List UInt8} {e k : Int} (h : tkE l e k = 0) : e = 0 ∧ 0 ≤ k ∧ k.toNat ≤ l.length := by
  unfold tkE at h
  by_cases he : e = 0
  · subst he
    by_cases h1 : k < 0
    · simp [h1] at h
    · by_cases h2 : (l.length : Int) < k
      · simp [h1, h2] at h
      · exact ⟨rfl, by omega, by omega⟩
  · simp [he] at h

/-- The post of Fixed and Bytes: a row b in new memory, the reader then. -/
def Got (w : World) (S : Nat → Prop) (p : Nat) (b l : List UInt8) (e : Int) (r : Ending) (w' : World) : Prop :=
  ∃ A n c, r = .returned (.slice A n c) ∧ Byt w' (w.heap.size ≤ ·) A n c b ∧ Rd w' S p l e ∧ w.grownBy w' (some p) ∧ FreeRow w' A

set_option maxHeartbeats 1000000 in
theorem fixed_any {w : World} {S : Nat → Prop} {p : Nat} {l : List UInt8} {e k : Int} (h : Rd w S p l e) (hl : l.length ≤ 140737488355328) :
    Calls Try.prog 15 #[.pointer (some ⟨p, 0, none⟩), .int .i64 k] w (Got w S p (fxB l e k) (fxL l e k) (tkE l e k)) := by
  unfold fxB fxL
  by_cases hk : tkE l e k = 0
  · obtain ⟨rfl, h0, h1⟩ := tkE_zero hk
    obtain ⟨m, rfl⟩ := Int.eq_ofNat_of_zero_le h0
    simp only [Int.toNat_natCast] at h1
    rw [if_pos hk, if_pos hk, hk, Int.toNat_natCast]
    clear hk
    go_enter Try.func15, Try.ntmps15
    go_wp2_with fail
    refine (take_ok h h1).mono ?_
    rintro _ w1 ⟨A, rfl, hR, hY, hb⟩
    go_wp2_with fail
    refine (clone_byt hY (by omega)).mono ?_
    rintro _ w2 ⟨A2, c2, rfl, hY2, hb2, _, hF2⟩
    go_wp2_with fail
    go_ret
    exact ⟨A2, m, c2, rfl, hY2.mono (fun _ _ h => Nat.le_trans hb.size h), hR.below hb2, gr_below hb hb2, hF2⟩
  · rw [if_neg hk, if_neg hk]
    go_enter Try.func15, Try.ntmps15
    go_wp2_with fail
    refine (take_bad h hk).mono ?_
    rintro _ w1 ⟨rfl, hR, hb⟩
    go_wp2_with fail
    refine (clone_byt (Byt.nil w1 (fun _ => True) none 0 (Nat.zero_le _)) (by omega)).mono ?_
    rintro _ w2 ⟨A2, c2, rfl, hY2, hb2, _, hF2⟩
    go_wp2_with fail
    go_ret
    exact ⟨A2, 0, c2, rfl, hY2.mono (fun _ _ h => Nat.le_trans hb.size h), hR.below hb2, gr_below hb hb2, hF2⟩

/-- End. -/
def endE (l : List UInt8) (e : Int) : Int := if e ≠ 0 then e else if l = [] then 0 else 12

set_option maxHeartbeats 1000000 in
theorem end_rd {w : World} {S : Nat → Prop} {p : Nat} {l : List UInt8} {e : Int} (h : Rd w S p l e) :
    Calls Try.prog 22 #[.pointer (some ⟨p, 0, none⟩)] w fun r w' => r = .returned (.int .i64 (endE l e)) ∧ w = w' := by
  have h' := h
  obtain ⟨hB, A, n, c, hh, hy⟩ := h
  have h0 := cell_of_cells hh 0
  simp only [List.getElem?_toArray, List.getElem?_cons_zero] at h0
  have hl := hy.len
  unfold endE
  by_cases he : e = 0
  · subst he
    by_cases hn : l = []
    · subst hn
      simp at hl
      subst hl
      clear hh hy
      go_enter Try.func22, Try.ntmps22
      go_wp2_with (go_at_call 21; refine (err_rd h').mono ?_; rintro _ _ ⟨rfl, rfl⟩)
      go_ret
      exact ⟨rfl, rfl⟩
    · have hp : 0 < n := by
        rcases Nat.eq_zero_or_pos n with hz | hz
        · exact absurd (List.eq_nil_of_length_eq_zero (hl.trans hz)) hn
        · exact hz
      simp only [ne_eq, not_true, if_false, if_neg hn]
      clear hh hy hl hn
      go_enter Try.func22, Try.ntmps22
      go_wp2_with (go_at_call 21; refine (err_rd h').mono ?_; rintro _ _ ⟨rfl, rfl⟩)
      go_ret
      exact ⟨rfl, rfl⟩
  · have he2 : (e != 0) = true := by simpa using he
    simp only [ne_eq, he, not_false_iff, if_true]
    clear hh hy hl he
    go_enter Try.func22, Try.ntmps22
    go_wp2_with (go_at_call 21; refine (err_rd h').mono ?_; rintro _ _ ⟨rfl, rfl⟩)
    go_ret
    exact ⟨rfl, rfl⟩

end Go.Proofs.Ytbdondgonghooaa
