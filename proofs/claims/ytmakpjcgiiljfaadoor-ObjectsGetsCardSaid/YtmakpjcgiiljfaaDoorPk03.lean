/-
  codec.number over the bytes of a slice: the walk.
  bytes.Clone: the bytes in new memory (at a seat that has no codec).
  bytes.Clone: see Clone.
  codec.Reader: what each of its methods does, told of a reader that reads as a list of bytes with an error ('Rd').
  codec.Reader, its further methods; NewReader.
  Cells, pure: changes, names with bytes in order, the records of them, how they are read again.
  Files, pure: a path's names, whether it may be; trees.
-/
import Derived.Test.YtmakpjcgiiljfaaDoorRows
import Derived.Test.YtmakpjcgiiljfaaDoorPk01
import Derived.Test.YtmakpjcgiiljfaaDoorPk02
import Derived.Lib.SliceRun
import Derived.Lib.Bytealg
/-! codec.number over the bytes of a slice: the walk. -/
namespace Go.Proofs.YtmakpjcgiiljfaaDoor
open Go.RowKit Codec

theorem or_shift {X c i : Nat} (hX : X < 128 ^ i) (hc : X + c * 128 ^ i < 18446744073709551616) : bits .or .u64 (X : Int) (IntKind.u64.wrap ((c : Int) * 2 ^ (7 * i))) = ((X + c * 128 ^ i : Nat) : Int) := by
  have e : (128 : Nat) ^ i = 2 ^ (7 * i) := by rw [Nat.pow_mul]
  have hc' : c * 2 ^ (7 * i) < 18446744073709551616 := by rw [← e]; omega
  have hw : IntKind.u64.wrap ((c : Int) * 2 ^ (7 * i)) = ((c * 2 ^ (7 * i) : Nat) : Int) := by
    rw [show ((c : Int) * 2 ^ (7 * i)) = ((c * 2 ^ (7 * i) : Nat) : Int) by simp]
    exact IntWalk.u64_in _ ⟨by omega, by omega⟩
  rw [hw, bits_or_u64_nat _ _ (by omega) hc', e]
  congr 1
  rw [Nat.or_comm, Nat.mul_comm c, ← Nat.two_pow_add_eq_or_of_lt (by rw [← e]; exact hX)]
  omega

theorem drop_at {l : List UInt8} {k : Nat} (h : k < l.length) : ∃ c, l.drop k = c :: l.drop (k + 1) ∧ l[k]?.getD 0 = c :=
  ⟨l[k], List.drop_eq_getElem_cons h, by simp [List.getElem?_eq_getElem h]⟩

theorem n_bad {k X : Nat} {c : UInt8} {l t : List UInt8} (H : rd 0 l = comb k X (rd k (c :: t))) (h : (k = 9 ∧ 1 < c.toNat) ∨ (0 < k ∧ c.toNat = 0)) : rd 0 l = (0, 0, 11) := by
  rw [H]; simp [rd, h, comb]
theorem n_end {k X : Nat} {c : UInt8} {l t : List UInt8} (H : rd 0 l = comb k X (rd k (c :: t))) (h : ¬ ((k = 9 ∧ 1 < c.toNat) ∨ (0 < k ∧ c.toNat = 0))) (h2 : c.toNat < 128) : rd 0 l = (X + c.toNat * 128 ^ k, k + 1, 0) := by
  rw [H]; simp only [rd, if_neg h, if_pos h2, comb, if_true, Nat.mul_comm (128 ^ k)]
theorem n_small {k X c : Nat} (hX : X < 128 ^ k) (hk : k ≤ 9) (hc : c < 128) (h9 : k = 9 → c ≤ 1) : X + c * 128 ^ k < 18446744073709551616 := by
  by_cases h : k = 9
  · subst h; have := h9 rfl; simp at hX ⊢; omega
  · have h1 : c * 128 ^ k ≤ 127 * 128 ^ k := Nat.mul_le_mul_right _ (by omega)
    have h2 : 128 ^ (k + 1) ≤ 128 ^ 9 := Nat.pow_le_pow_right (by omega) (by omega)
    rw [Nat.pow_succ] at h2
    simp at h2
    omega
theorem n_next {k X c : Nat} (hX : X < 128 ^ k) (hc : c < 128) : X + c * 128 ^ k < 128 ^ (k + 1) := by
  have h1 : c * 128 ^ k ≤ 127 * 128 ^ k := Nat.mul_le_mul_right _ (by omega)
  rw [Nat.pow_succ]
  omega

theorem or_step {X k d : Nat} (hX : X < 128 ^ k) (hk : k ≤ 9) (h9 : k = 9 → d % 128 ≤ 1) : bits .or .u64 (X : Int) (IntKind.u64.wrap ((d : Int) % 128 * 2 ^ (7 * k))) = ((X + (d % 128) * 128 ^ k : Nat) : Int) := by
  have := or_shift (c := d % 128) hX (n_small hX hk (by omega) h9)
  rw [← this]
  rfl
theorem ret3_of {k1 k2 k3 : IntKind} {a a' b b' c c' : Int} (h1 : a = a') (h2 : b = b') (h3 : c = c') : Ending.returned (.tuple #[.int k1 a, .int k2 b, .int k3 c]) = .returned (.tuple #[.int k1 a', .int k2 b', .int k3 c']) := by rw [h1, h2, h3]

set_option maxHeartbeats 1000000 in
set_option maxRecDepth 100000 in
theorem number_any (b off n c : Nat) (l : List UInt8) (w : World) (hl : Hid (l.length = n)) (hn : n ≤ maxLen)
    (hc : ∀ i, i < n → w.cell? ⟨b, off + i, none⟩ = some (.int .u8 ((l[i]?.getD 0).toNat : Int))) :
    Calls Tryd.prog 54 #[.slice (some ⟨b, off, none⟩) n c] w fun e w' => e = .returned (.tuple #[.int .u64 (rd 0 l).1, .int .i64 (rd 0 l).2.1, .int .i64 (rd 0 l).2.2]) ∧ w = w' := by
  unfold maxLen at hn
  go_enter Tryd.func54, Tryd.ntmps54
  go_wp2
  go_step3
  go_wp2
  go_step3
  go_wp2
  go_loop [5, 6, 7, 12] (fun x m e i => ∃ (k : Nat) (X : Nat), k ≤ n ∧ k ≤ 9 ∧ i = .int .i64 k ∧ m = .int .i64 0 ∧ e = .int .i64 10 ∧ x = .int .u64 X ∧ X < 128 ^ k ∧ Hid (rd 0 l = comb k X (rd k (l.drop k)))) (fun _ _ _ i => n - (intOf i).toNat)
  case atStart => exact ⟨0, 0, by omega, by omega, rfl, rfl, rfl, rfl, by simp, by rw [List.drop_zero, comb_zero _ (rd_err 0 l)]; exact rfl⟩
  case round =>
    obtain ⟨k, X, hk, hk9, rfl, rfl, rfl, rfl, hX, HD⟩ := hrel
    by_cases hlt : k < n
    · obtain ⟨d, hd, hdk⟩ := drop_at (l := l) (k := k) (by rw [hl.out]; exact hlt)
      have hcell := hc k hlt
      rw [hdk] at hcell
      have HD' := HD.out
      rw [hd] at HD'
      have H := Lib.hid HD'
      have hu := d.toNat_lt
      have HX := Lib.hid hX
      clear hc HD HD' hd hdk hl hX
      go_wp2
      · have h9 : (k : Int) = 9 := by assumption
        have h1 : 1 < (d.toNat : Int) := by assumption
        rw [n_bad H.out (Or.inl ⟨by omega, by omega⟩)]
        go_ret3
        exact ⟨rfl, rfl⟩
      · have h9 : (k : Int) = 9 := by assumption
        have h0 : ((d.toNat : Int) == 0) = true := by assumption
        have := WalkArith.int_eq h0
        rw [n_bad H.out (Or.inr ⟨by omega, by omega⟩)]
        go_ret3
        exact ⟨rfl, rfl⟩
      · have h9 : (k : Int) = 9 := by assumption
        have h1 : (d.toNat : Int) ≤ 1 := by assumption
        have h0 : ((d.toNat : Int) == 0) = false := by assumption
        have := WalkArith.int_ne h0
        have E := n_end H.out (by omega) (by omega)
        have E2 := or_step (d := d.toNat) HX.out hk9 (by omega)
        rw [E]
        go_ret3
        exact ⟨ret3_of (by rw [E2, Nat.mod_eq_of_lt (by omega)]) (by simp; omega) rfl, rfl⟩
      · have h9 : ¬ (k : Int) = 9 := by assumption
        have hp : 0 < k := by assumption
        have h0 : ((d.toNat : Int) == 0) = true := by assumption
        have := WalkArith.int_eq h0
        rw [n_bad H.out (Or.inr ⟨by omega, by omega⟩)]
        go_ret3
        exact ⟨rfl, rfl⟩
      · have h9 : ¬ (k : Int) = 9 := by assumption
        have hp : 0 < k := by assumption
        have h0 : ((d.toNat : Int) == 0) = false := by assumption
        have hs : (d.toNat : Int) < 128 := by assumption
        have := WalkArith.int_ne h0
        have E := n_end H.out (by omega) (by omega)
        have E2 := or_step (d := d.toNat) HX.out hk9 (by omega)
        rw [E]
        go_ret3
        exact ⟨ret3_of (by rw [E2, Nat.mod_eq_of_lt (by omega)]) (by simp) rfl, rfl⟩
      · have h9 : ¬ (k : Int) = 9 := by assumption
        have hs : 128 ≤ (d.toNat : Int) := by assumption
        have E := H.out
        rw [comb_step (by omega) (by omega)] at E
        have E2 := or_step (d := d.toNat) HX.out hk9 (by omega)
        have hX2 := n_next (c := d.toNat % 128) HX.out (by omega)
        go_round
        case rel => exact ⟨k + 1, _, by omega, by omega, by go_num, rfl, rfl, by rw [E2], hX2, by rw [show d.toNat % 128 = d.toNat - 128 by omega]; exact E⟩
        case measure => simp [intOf]; omega
      · have h9 : ¬ (k : Int) = 9 := by assumption
        have hp : ¬ 0 < k := by assumption
        have hs : (d.toNat : Int) < 128 := by assumption
        have E := n_end H.out (by omega) (by omega)
        have E2 := or_step (d := d.toNat) HX.out hk9 (by omega)
        rw [E]
        go_ret3
        exact ⟨ret3_of (by rw [E2, Nat.mod_eq_of_lt (by omega)]) (by simp) rfl, rfl⟩
      · have h9 : ¬ (k : Int) = 9 := by assumption
        have hs : 128 ≤ (d.toNat : Int) := by assumption
        have E := H.out
        rw [comb_step (by omega) (by omega)] at E
        have E2 := or_step (d := d.toNat) HX.out hk9 (by omega)
        have hX2 := n_next (c := d.toNat % 128) HX.out (by omega)
        go_round
        case rel => exact ⟨k + 1, _, by omega, by omega, by go_num, rfl, rfl, by rw [E2], hX2, by rw [show d.toNat % 128 = d.toNat - 128 by omega]; exact E⟩
        case measure => simp [intOf]; omega
    · have E : rd 0 l = (0, 0, 10) := by
        rw [HD.out, List.drop_eq_nil_of_le (by rw [hl.out]; omega)]; rfl
      have HE := Lib.hid E
      clear hc HD hl E
      go_wp2
      rw [HE.out]
      go_ret3
      exact ⟨rfl, rfl⟩

set_option maxRecDepth 100000 in
/-- A slice without bytes. -/
theorem number_none (A : Option Addr) (c : Nat) (w : World) :
    Calls Tryd.prog 54 #[.slice A 0 c] w fun e w' => e = .returned (.tuple #[.int .u64 0, .int .i64 0, .int .i64 10]) ∧ w = w' := by
  go_enter Tryd.func54, Tryd.ntmps54
  go_wp2
  go_step3
  go_wp2
  go_step3
  go_wp2
  go_loop [5, 6, 7, 12] (fun x m e i => i = .int .i64 0 ∧ m = .int .i64 0 ∧ e = .int .i64 10 ∧ x = .int .u64 0) (fun _ _ _ _ => 0)
  case atStart => exact ⟨rfl, rfl, rfl, rfl⟩
  case round =>
    obtain ⟨rfl, rfl, rfl, rfl⟩ := hrel
    go_wp2
    go_ret3
    exact ⟨rfl, rfl⟩

/-- A slice that reads as l. -/
theorem number_byt {w : World} {S : Nat → Prop} {n c : Nat} {A : Option Addr} {l : List UInt8} (h : Byt w S A n c l) :
    Calls Tryd.prog 54 #[.slice A n c] w fun e w' => e = .returned (.tuple #[.int .u64 (rd 0 l).1, .int .i64 (rd 0 l).2.1, .int .i64 (rd 0 l).2.2]) ∧ w = w' := by
  by_cases h0 : n = 0
  · subst h0
    have hl : l = [] := List.eq_nil_of_length_eq_zero h.len
    subst hl
    exact number_none A c w
  · obtain ⟨b, off, rfl, _, _, hc⟩ := h.row (by omega)
    exact number_any b off n c l w h.len (by have := h.cap; have := h.max; omega) hc
end Go.Proofs.YtmakpjcgiiljfaaDoor

/-! bytes.Clone: the bytes in new memory (at a seat that has no codec). -/
namespace Go.Proofs.YtmakpjcgiiljfaaDoor
open Go.RowKit

theorem clone_nil (w : World) : Calls Tryd.prog 39 #[.slice none 0 0] w fun r w' => r = .returned (.slice none 0 0) ∧ w = w' := by
  have hnil := fun (w : World) (a : Option Addr) (n c : Nat) => Lib.run_eql_slice_nil (P := Tryd.prog) w 22 5 a n c 0 0 Tryd.underlying22
  go_enter Tryd.func39, Tryd.ntmps39
  go_wp2
  go_ret
  exact ⟨rfl, rfl⟩

/-- bytes.Clone -/
theorem clone_byt {w : World} {S : Nat → Prop} {n c : Nat} {A : Option Addr} {l : List UInt8} (h : Byt w S A n c l) (hn : n ≤ 140737488355328) :
    Calls Tryd.prog 39 #[.slice A n c] w fun e w' => ∃ A' c', e = .returned (.slice A' n c') ∧ Byt w' (w.heap.size ≤ ·) A' n c' l ∧ Below w.heap.size w w' ∧ (A' = none ↔ A = none) ∧ FreeRow w' A' := by
  obtain ⟨i0, hi, hz0, hz1, hz2⟩ := info_parts u8_info
  have hnil := fun (w : World) (a : Option Addr) (n c : Nat) => Lib.run_eql_slice_nil (P := Tryd.prog) w 22 5 a n c 0 0 Tryd.underlying22
  have hmax := h.max
  have hcap := h.cap
  rcases A with _ | ad
  · have h0 : n = 0 := by
      rcases Nat.eq_zero_or_pos n with h0 | h0
      · exact h0
      · obtain ⟨_, _, hA, _⟩ := h.row h0
        cases hA
    subst h0
    have hl : l = [] := List.eq_nil_of_length_eq_zero h.len
    subst hl
    go_enter Tryd.func39, Tryd.ntmps39
    go_wp2
    go_ret
    exact ⟨none, 0, rfl, Byt.nil _ _ _ _ (Nat.zero_le _), Below.refl _ _, by simp, FreeRow.none_ _⟩
  · have hnews := byt_news (h.alloc (.cells #[] 5))
    have hlen := u8s_length l
    have hll := h.len
    have hone := u8s_one l
    clear h
    go_enter Tryd.func39, Tryd.ntmps39
    go_wp2_with (at_builtin; refine wpList_append_own _ rfl _ _ 22 rfl w.heap.size 5 i0 (.int .u8 0) 1 1 Tryd.underlying22 hi hz0 hz1 hz2 rfl (by decide) _ 0 [] rfl (World.ownsRow_made w #[] 0 (Nat.le_refl _) (Nat.zero_le _) rfl) ad n c (u8s l) rfl ?qc1 hnews hone ?qc4 ?qc5 ?qc6 ?_)
    case qc1 => omega
    case qc4 => unfold maxLen at *; omega
    case qc5 => omega
    case qc6 => simp
    intro v' w1 hown hgrow hnn
    go_wp2
    go_ret
    obtain ⟨A', c', rfl, hb⟩ := own_byt hown
    refine ⟨A', c', rfl, hb, ((Below.refl _ w).alloc (Nat.le_refl _) _).grown hgrow (by simp) (by intro k hk; simp [Value.ownBlock] at hk; omega), ?_, own_free hown⟩
    constructor
    · rintro rfl
      rcases hown.2 with ⟨h1, h2⟩ | ⟨g, cap, cur, h1, _⟩
      · exact absurd h1 hnn
      · cases h1
    · intro h1; cases h1
end Go.Proofs.YtmakpjcgiiljfaaDoor

/-! bytes.Clone: see Clone. -/


/-! codec.Reader: what each of its methods does, told of a reader that reads as a list of bytes with an error ('Rd'). -/
namespace Go.Proofs.YtmakpjcgiiljfaaDoor
open Go.RowKit Codec

/-- THE STRUCT AT BLOCK p IS A READER: the bytes l are left, its error is e; all its memory lies in blocks of S. -/
def Rd (w : World) (S : Nat → Prop) (p : Nat) (l : List UInt8) (e : Int) : Prop := S p ∧ ∃ A n c, w.heap[p]? = some (.cells #[.slice A n c, .int .i64 e] 91 (0, 0)) ∧ Byt w S A n c l

section
variable {w w' : World} {S : Nat → Prop} {p : Nat} {l : List UInt8} {e : Int}
theorem nou8_of_cells {A : Option Addr} {n c : Nat} {t : TypeId} {f : Nat × Nat} (h : w.heap[p]? = some (.cells #[.slice A n c, .int .i64 e] t f)) : ∀ o x, w.cell? ⟨p, o, none⟩ ≠ some (.int .u8 x) := by
  intro o x
  rw [cell_of_cells h]
  rcases o with _ | _ | o <;> simp

theorem Rd.lt (h : Rd w S p l e) : p < w.heap.size := by
  obtain ⟨_, A, n, c, hh, _⟩ := h
  exact lt_of_cells hh
theorem Rd.below (h : Rd w S p l e) (hb : Below w.heap.size w w') : Rd w' S p l e := by
  obtain ⟨hB, A, n, c, hh, hy⟩ := h
  exact ⟨hB, A, n, c, (hb.block p (lt_of_cells hh)).trans hh, hy.below hb⟩
end

theorem err_rd {w : World} {S : Nat → Prop} {p : Nat} {l : List UInt8} {e : Int} (h : Rd w S p l e) :
    Calls Tryd.prog 45 #[.pointer (some ⟨p, 0, none⟩)] w fun r w' => r = .returned (.int .i64 e) ∧ w = w' := by
  obtain ⟨hB, A, n, c, hh, hy⟩ := h
  have h0 := cell_of_cells hh 1
  simp only [List.getElem?_toArray, List.getElem?_cons_succ, List.getElem?_cons_zero] at h0
  clear hh hy
  go_enter Tryd.func45, Tryd.ntmps45
  go_wp2
  go_ret
  exact ⟨rfl, rfl⟩

theorem err_nil (w : World) :
    Calls Tryd.prog 45 #[.pointer none] w fun r w' => r = .returned (.int .i64 1) ∧ w = w' := by
  go_enter Tryd.func45, Tryd.ntmps45
  go_wp2
  go_ret
  exact ⟨rfl, rfl⟩

set_option maxHeartbeats 1000000 in
/-- Uint behind an error. -/
theorem uint_bad {w : World} {S : Nat → Prop} {p : Nat} {l : List UInt8} {e : Int} (h : Rd w S p l e) (he : (e == 0) = false) :
    Calls Tryd.prog 44 #[.pointer (some ⟨p, 0, none⟩)] w fun r w' => r = .returned (.int .u64 0) ∧ w = w' := by
  have he2 : (e != 0) = true := by simpa using he
  go_enter Tryd.func44, Tryd.ntmps44
  go_wp2_with (go_at_call 45; refine (err_rd h).mono ?_; rintro r w' ⟨rfl, rfl⟩)
  go_ret
  exact ⟨rfl, rfl⟩

set_option maxHeartbeats 1000000 in
/-- Uint. -/
theorem uint_ok {w : World} {S : Nat → Prop} {p : Nat} {l : List UInt8} (h : Rd w S p l 0) :
    Calls Tryd.prog 44 #[.pointer (some ⟨p, 0, none⟩)] w fun r w' => r = .returned (.int .u64 (rd 0 l).1) ∧ Rd w' S p (l.drop (rd 0 l).2.1) (rd 0 l).2.2 ∧ w.grownBy w' (some p) := by
  have h' := h
  obtain ⟨hB, A, n, c, hh, hy⟩ := h
  have h0 := cell_of_cells hh 0
  have h1 := cell_of_cells hh 1
  simp only [List.getElem?_toArray, List.getElem?_cons_succ, List.getElem?_cons_zero] at h0 h1
  have f0 := free_of_cells hh 0
  have f1 := free_of_cells hh 1
  have hk : (rd 0 l).2.1 ≤ n := by have := rd_le 0 l; have := hy.len; omega
  have hcut := run_cut (P := Tryd.prog) 22 5 Tryd.underlying22 u8_size A n c (rd 0 l).2.1 hk
  have hnum := number_byt hy
  generalize hr : rd 0 l = r at *
  have HR := Lib.hid hr
  clear hr
  obtain ⟨x, k, er⟩ := r
  go_enter Tryd.func44, Tryd.ntmps44
  go_wp2_with fail
  refine (err_rd h').mono ?_
  rintro _ _ ⟨rfl, rfl⟩
  go_wp2_with fail
  refine hnum.mono ?_
  rintro _ _ ⟨rfl, rfl⟩
  go_wp2_with fail
  go_ret
  refine ⟨rfl, ⟨hB, cutA A c k, n - k, c - k, ?_, ?_⟩, gr_set (gr_set (gr_refl _ _) _ _) _ _⟩
  · have e1 := set_of_cells hh 1 (.int .i64 er)
    have e2 := set_of_cells e1 0 (.slice (cutA A c k) (n - k) (c - k))
    simpa using e2
  · have e1 := set_of_cells hh 1 (.int .i64 er)
    exact ((hy.cut hk).far (nou8_of_cells hh) _).far (nou8_of_cells (by simpa using e1)) _

/-- The error behind a call that takes k bytes. -/
def tkE (l : List UInt8) (e k : Int) : Int := if e ≠ 0 then e else if k < 0 then 1 else if (l.length : Int) < k then 10 else 0

set_option maxHeartbeats 1000000 in
/-- take, told an error. -/
theorem ctake_bad {w : World} {S : Nat → Prop} {p : Nat} {l : List UInt8} {e k : Int} (h : Rd w S p l e) (hk : tkE l e k ≠ 0) :
    Calls Tryd.prog 56 #[.pointer (some ⟨p, 0, none⟩), .int .i64 k] w fun r w' => r = .returned (.slice none 0 0) ∧ Rd w' S p l (tkE l e k) ∧ w.grownBy w' (some p) := by
  have h' := h
  obtain ⟨hB, A, n, c, hh, hy⟩ := h
  have h0 := cell_of_cells hh 0
  have h1 := cell_of_cells hh 1
  simp only [List.getElem?_toArray, List.getElem?_cons_succ, List.getElem?_cons_zero] at h0 h1
  have f0 := free_of_cells hh 0
  have f1 := free_of_cells hh 1
  have hl := hy.len
  unfold tkE at hk ⊢
  have fin : ∀ er : Int, Rd (w.setCell ⟨p, 1, none⟩ (.int .i64 er)) S p l er := fun er =>
    ⟨hB, A, n, c, by simpa using set_of_cells hh 1 (.int .i64 er), hy.far (nou8_of_cells hh) _⟩
  by_cases he : e = 0
  · subst he
    by_cases hk0 : k < 0
    · simp only [ne_eq, not_true, if_false, if_pos hk0] at hk ⊢
      clear hh hy hl
      go_enter Tryd.func56, Tryd.ntmps56
      go_wp2_with (go_at_call 45; refine (err_rd h').mono ?_; rintro _ _ ⟨rfl, rfl⟩)
      go_ret
      exact ⟨rfl, fin 1, gr_set (gr_refl _ _) _ _⟩
    · by_cases hk1 : (l.length : Int) < k
      · simp only [ne_eq, not_true, if_false, if_neg hk0, if_pos hk1] at hk ⊢
        have hk2 : (n : Int) < k := by omega
        clear hh hy hl hk1
        go_enter Tryd.func56, Tryd.ntmps56
        go_wp2_with (go_at_call 45; refine (err_rd h').mono ?_; rintro _ _ ⟨rfl, rfl⟩)
        go_ret
        exact ⟨rfl, fin 10, gr_set (gr_refl _ _) _ _⟩
      · simp [hk0, hk1] at hk
  · simp only [ne_eq, he, not_false_iff, if_true] at hk ⊢
    have he2 : (e != 0) = true := by simpa using he
    clear hh hy hl he hk
    go_enter Tryd.func56, Tryd.ntmps56
    go_wp2_with (go_at_call 45; refine (err_rd h').mono ?_; rintro _ _ ⟨rfl, rfl⟩)
    go_ret
    exact ⟨rfl, h', gr_refl _ _⟩

set_option maxHeartbeats 1000000 in
/-- take, told m bytes. -/
theorem take_ok {w : World} {S : Nat → Prop} {p : Nat} {l : List UInt8} {m : Nat} (h : Rd w S p l 0) (hm : m ≤ l.length) :
    Calls Tryd.prog 56 #[.pointer (some ⟨p, 0, none⟩), .int .i64 m] w fun r w' => ∃ A, r = .returned (.slice A m m) ∧ Rd w' S p (l.drop m) 0 ∧ Byt w' S A m m (l.take m) ∧ w.grownBy w' (some p) := by
  have h' := h
  obtain ⟨hB, A, n, c, hh, hy⟩ := h
  have h0 := cell_of_cells hh 0
  have h1 := cell_of_cells hh 1
  simp only [List.getElem?_toArray, List.getElem?_cons_succ, List.getElem?_cons_zero] at h0 h1
  have f0 := free_of_cells hh 0
  have f1 := free_of_cells hh 1
  have hl := hy.len
  have hk : m ≤ n := by omega
  have hkc : m ≤ c := by have := hy.cap; omega
  have hk2 : ¬ (n : Int) < (m : Int) := by omega
  have hk3 : ¬ (m : Int) < 0 := by omega
  have hcut := run_cut (P := Tryd.prog) 22 5 Tryd.underlying22 u8_size A n c m hk
  have hfront := run_front (P := Tryd.prog) 22 5 Tryd.underlying22 u8_size A n c m hkc
  have fin : Rd (w.setCell ⟨p, 0, none⟩ (.slice (cutA A c m) (n - m) (c - m))) S p (l.drop m) 0 ∧ Byt (w.setCell ⟨p, 0, none⟩ (.slice (cutA A c m) (n - m) (c - m))) S A m m (l.take m) :=
    ⟨⟨hB, _, _, _, by simpa using set_of_cells hh 0 (.slice (cutA A c m) (n - m) (c - m)), (hy.cut hk).far (nou8_of_cells hh) _⟩, (hy.take hk).far (nou8_of_cells hh) _⟩
  clear hh hy hl
  go_enter Tryd.func56, Tryd.ntmps56
  go_wp2_with (go_at_call 45; refine (err_rd h').mono ?_; rintro _ _ ⟨rfl, rfl⟩)
  go_ret
  exact ⟨A, rfl, fin.1, fin.2, gr_set (gr_refl _ _) _ _⟩

/-- What Fixed gives, and what it leaves. -/
def fxB (l : List UInt8) (e k : Int) : List UInt8 := if tkE l e k = 0 then l.take k.toNat else []
def fxL (l : List UInt8) (e k : Int) : List UInt8 := if tkE l e k = 0 then l.drop k.toNat else l

theorem tkE_zero {l : List UInt8} {e k : Int} (h : tkE l e k = 0) : e = 0 ∧ 0 ≤ k ∧ k.toNat ≤ l.length := by
  unfold tkE at h
  by_cases he : e = 0
  · subst he
    by_cases h1 : k < 0
    · simp [h1] at h
    · by_cases h2 : (l.length : Int) < k
      · simp [h1, h2] at h
      · exact ⟨rfl, by omega, by omega⟩
  · simp [he] at h

/-- The post of Fixed and Bytes: a row b in new memory, the reader then. -/
def Got (w : World) (S : Nat → Prop) (p : Nat) (b l : List UInt8) (e : Int) (r : Ending) (w' : World) : Prop :=
  ∃ A n c, r = .returned (.slice A n c) ∧ Byt w' (w.heap.size ≤ ·) A n c b ∧ Rd w' S p l e ∧ w.grownBy w' (some p) ∧ FreeRow w' A

set_option maxHeartbeats 1000000 in
theorem fixed_any {w : World} {S : Nat → Prop} {p : Nat} {l : List UInt8} {e k : Int} (h : Rd w S p l e) (hl : l.length ≤ 140737488355328) :
    Calls Tryd.prog 55 #[.pointer (some ⟨p, 0, none⟩), .int .i64 k] w (Got w S p (fxB l e k) (fxL l e k) (tkE l e k)) := by
  unfold fxB fxL
  by_cases hk : tkE l e k = 0
  · obtain ⟨rfl, h0, h1⟩ := tkE_zero hk
    obtain ⟨m, rfl⟩ := Int.eq_ofNat_of_zero_le h0
    simp only [Int.toNat_natCast] at h1
    rw [if_pos hk, if_pos hk, hk, Int.toNat_natCast]
    clear hk
    go_enter Tryd.func55, Tryd.ntmps55
    go_wp2_with fail
    refine (take_ok h h1).mono ?_
    rintro _ w1 ⟨A, rfl, hR, hY, hb⟩
    go_wp2_with fail
    refine (clone_byt hY (by omega)).mono ?_
    rintro _ w2 ⟨A2, c2, rfl, hY2, hb2, _, hF2⟩
    go_wp2_with fail
    go_ret
    exact ⟨A2, m, c2, rfl, hY2.mono (fun _ _ h => Nat.le_trans hb.size h), hR.below hb2, gr_below hb hb2, hF2⟩
  · rw [if_neg hk, if_neg hk]
    go_enter Tryd.func55, Tryd.ntmps55
    go_wp2_with fail
    refine (ctake_bad h hk).mono ?_
    rintro _ w1 ⟨rfl, hR, hb⟩
    go_wp2_with fail
    refine (clone_byt (Byt.nil w1 (fun _ => True) none 0 (Nat.zero_le _)) (by omega)).mono ?_
    rintro _ w2 ⟨A2, c2, rfl, hY2, hb2, _, hF2⟩
    go_wp2_with fail
    go_ret
    exact ⟨A2, 0, c2, rfl, hY2.mono (fun _ _ h => Nat.le_trans hb.size h), hR.below hb2, gr_below hb hb2, hF2⟩

/-- End. -/
def endE (l : List UInt8) (e : Int) : Int := if e ≠ 0 then e else if l = [] then 0 else 12

set_option maxHeartbeats 1000000 in
theorem end_rd {w : World} {S : Nat → Prop} {p : Nat} {l : List UInt8} {e : Int} (h : Rd w S p l e) :
    Calls Tryd.prog 32 #[.pointer (some ⟨p, 0, none⟩)] w fun r w' => r = .returned (.int .i64 (endE l e)) ∧ w = w' := by
  have h' := h
  obtain ⟨hB, A, n, c, hh, hy⟩ := h
  have h0 := cell_of_cells hh 0
  simp only [List.getElem?_toArray, List.getElem?_cons_zero] at h0
  have hl := hy.len
  unfold endE
  by_cases he : e = 0
  · subst he
    by_cases hn : l = []
    · subst hn
      simp at hl
      subst hl
      clear hh hy
      go_enter Tryd.func32, Tryd.ntmps32
      go_wp2_with (go_at_call 45; refine (err_rd h').mono ?_; rintro _ _ ⟨rfl, rfl⟩)
      go_ret
      exact ⟨rfl, rfl⟩
    · have hp : 0 < n := by
        rcases Nat.eq_zero_or_pos n with hz | hz
        · exact absurd (List.eq_nil_of_length_eq_zero (hl.trans hz)) hn
        · exact hz
      simp only [ne_eq, not_true, if_false, if_neg hn]
      clear hh hy hl hn
      go_enter Tryd.func32, Tryd.ntmps32
      go_wp2_with (go_at_call 45; refine (err_rd h').mono ?_; rintro _ _ ⟨rfl, rfl⟩)
      go_ret
      exact ⟨rfl, rfl⟩
  · have he2 : (e != 0) = true := by simpa using he
    simp only [ne_eq, he, not_false_iff, if_true]
    clear hh hy hl he
    go_enter Tryd.func32, Tryd.ntmps32
    go_wp2_with (go_at_call 45; refine (err_rd h').mono ?_; rintro _ _ ⟨rfl, rfl⟩)
    go_ret
    exact ⟨rfl, rfl⟩

end Go.Proofs.YtmakpjcgiiljfaaDoor

/-! codec.Reader, its further methods; NewReader. -/
namespace Go.Proofs.YtmakpjcgiiljfaaDoor
open Go.RowKit Codec

/-- Uint: value, what is left, error. -/
def uiX (l : List UInt8) (e : Int) : Nat := if e = 0 then (rd 0 l).1 else 0
def uiL (l : List UInt8) (e : Int) : List UInt8 := if e = 0 then l.drop (rd 0 l).2.1 else l
def uiE (l : List UInt8) (e : Int) : Int := if e = 0 then (rd 0 l).2.2 else e

theorem uiX_lt (l : List UInt8) (e : Int) : uiX l e < 18446744073709551616 := by
  unfold uiX
  split
  · have := rd_bound 0 l (by omega); simp at this; omega
  · omega
theorem uiL_length (l : List UInt8) (e : Int) : (uiL l e).length ≤ l.length := by unfold uiL; split <;> simp

theorem uint_any {w : World} {S : Nat → Prop} {p : Nat} {l : List UInt8} {e : Int} (h : Rd w S p l e) :
    Calls Tryd.prog 44 #[.pointer (some ⟨p, 0, none⟩)] w fun r w' => r = .returned (.int .u64 (uiX l e)) ∧ Rd w' S p (uiL l e) (uiE l e) ∧ w.grownBy w' (some p) := by
  unfold uiX uiL uiE
  by_cases he : e = 0
  · subst he
    simp only [if_true]
    exact uint_ok h
  · simp only [he, if_false]
    exact (uint_bad h (by simpa using he)).mono (by rintro _ _ ⟨rfl, rfl⟩; exact ⟨rfl, h, gr_refl _ _⟩)

/-- Bytes: error, what is left, the bytes. -/
def byE (l : List UInt8) (e most : Int) : Int := if uiE l e ≠ 0 then uiE l e else if most < 0 ∨ most < (uiX l e : Int) then 13 else tkE (uiL l e) 0 (uiX l e)
def byL (l : List UInt8) (e most : Int) : List UInt8 := if uiE l e ≠ 0 then uiL l e else if most < 0 ∨ most < (uiX l e : Int) then uiL l e else fxL (uiL l e) 0 (uiX l e)
def byB (l : List UInt8) (e most : Int) : List UInt8 := if uiE l e ≠ 0 then [] else if most < 0 ∨ most < (uiX l e : Int) then [] else fxB (uiL l e) 0 (uiX l e)

theorem Rd.mono {w : World} {S T : Nat → Prop} {p : Nat} {l : List UInt8} {e : Int} (h : Rd w S p l e) (hS : ∀ b, b < w.heap.size → S b → T b) : Rd w T p l e := by
  have hlt := h.lt
  obtain ⟨hB, A, n, c, hh, hy⟩ := h
  exact ⟨hS _ hlt hB, A, n, c, hh, hy.mono hS⟩
/-- What a reader does not hold may turn. -/
theorem Rd.grown {w w' : World} {S : Nat → Prop} {p : Nat} {l : List UInt8} {e : Int} (h : Rd w S p l e) {row : Option Nat} (hg : w.grownBy w' row) (hr : ∀ g, row = some g → ¬ S g) : Rd w' S p l e := by
  have hlt := h.lt
  obtain ⟨hB, A, n, c, hh, hy⟩ := h
  exact ⟨hB, A, n, c, (hg.block p hlt (fun e => hr p e.symm hB)).trans hh, hy.grown hg fun g hgr => .inl (hr g hgr)⟩
theorem Rd.set_err {w : World} {S : Nat → Prop} {p : Nat} {l : List UInt8} {e : Int} (h : Rd w S p l e) (er : Int) : Rd (w.setCell ⟨p, 1, none⟩ (.int .i64 er)) S p l er := by
  obtain ⟨hB, A, n, c, hh, hy⟩ := h
  exact ⟨hB, A, n, c, by simpa using set_of_cells hh 1 (.int .i64 er), hy.far (nou8_of_cells hh) _⟩
theorem Rd.free {w : World} {S : Nat → Prop} {p : Nat} {l : List UInt8} {e : Int} (h : Rd w S p l e) : w.frozen? ⟨p, 1, none⟩ = false := by
  obtain ⟨_, A, n, c, hh, _⟩ := h
  exact free_of_cells hh 1
theorem Rd.cell1 {w : World} {S : Nat → Prop} {p : Nat} {l : List UInt8} {e : Int} (h : Rd w S p l e) : w.cell? ⟨p, 1, none⟩ = some (.int .i64 e) := by
  obtain ⟨_, A, n, c, hh, _⟩ := h
  rw [cell_of_cells hh 1]; rfl

set_option maxHeartbeats 1000000 in
theorem bytes_any {w : World} {S : Nat → Prop} {p : Nat} {l : List UInt8} {e most : Int} (h : Rd w S p l e) (hl : l.length ≤ 140737488355328) (hm : most ≤ 9223372036854775807) :
    Calls Tryd.prog 46 #[.pointer (some ⟨p, 0, none⟩), .int .i64 most] w (Got w S p (byB l e most) (byL l e most) (byE l e most)) := by
  have hx := uiX_lt l e
  have hul := uiL_length l e
  have hc := uint_any h
  unfold byB byL byE
  generalize uiX l e = x at *
  generalize uiL l e = l1 at *
  generalize uiE l e = e1 at *
  by_cases he : e1 = 0
  · subst he
    simp only [ne_eq, not_true, if_false]
    by_cases h0 : most < 0
    · simp only [h0, true_or, if_true]
      go_enter Tryd.func46, Tryd.ntmps46
      go_wp2_with fail
      refine hc.mono ?_
      rintro _ w1 ⟨rfl, hR, hb⟩
      have hf := hR.free
      have h1 := hR.cell1
      go_wp2_with fail
      refine (err_rd hR).mono ?_
      rintro _ _ ⟨rfl, rfl⟩
      go_wp2_with fail
      go_ret
      exact ⟨none, 0, 0, rfl, Byt.nil _ _ _ _ (Nat.zero_le _), hR.set_err 13, gr_set hb _ _, FreeRow.none_ _⟩
    · by_cases hx2 : most < (x : Int)
      · simp only [h0, hx2, false_or, if_true]
        go_enter Tryd.func46, Tryd.ntmps46
        go_wp2_with fail
        refine hc.mono ?_
        rintro _ w1 ⟨rfl, hR, hb⟩
        have hf := hR.free
        have h1 := hR.cell1
        go_wp2_with fail
        refine (err_rd hR).mono ?_
        rintro _ _ ⟨rfl, rfl⟩
        go_wp2_with fail
        go_ret
        exact ⟨none, 0, 0, rfl, Byt.nil _ _ _ _ (Nat.zero_le _), hR.set_err 13, gr_set hb _ _, FreeRow.none_ _⟩
      · simp only [h0, hx2, false_or, if_false]
        go_enter Tryd.func46, Tryd.ntmps46
        go_wp2_with fail
        refine hc.mono ?_
        rintro _ w1 ⟨rfl, hR, hb⟩
        go_wp2_with fail
        refine (err_rd hR).mono ?_
        rintro _ _ ⟨rfl, rfl⟩
        go_wp2_with fail
        refine (fixed_any hR (by omega)).mono ?_
        rintro _ w2 ⟨A, n, c, rfl, hY, hR2, hb2, hF2⟩
        go_wp2_with fail
        go_ret
        exact ⟨A, n, c, rfl, hY.mono (fun _ _ h => Nat.le_trans hb.size h), hR2, gr_trans hb hb2, hF2⟩
  · simp only [ne_eq, he, not_false_iff, if_true]
    have he2 : (e1 != 0) = true := by simpa using he
    clear he
    go_enter Tryd.func46, Tryd.ntmps46
    go_wp2_with fail
    refine hc.mono ?_
    rintro _ w1 ⟨rfl, hR, hb⟩
    go_wp2_with fail
    refine (err_rd hR).mono ?_
    rintro _ _ ⟨rfl, rfl⟩
    go_wp2_with fail
    go_ret
    exact ⟨none, 0, 0, rfl, Byt.nil _ _ _ _ (Nat.zero_le _), hR, hb, FreeRow.none_ _⟩

/-- Bool: error, what is left, the answer. -/
def boE (l : List UInt8) (e : Int) : Int := if tkE l e 1 ≠ 0 then tkE l e 1 else if 1 < (l[0]?.getD 0).toNat then 11 else 0
def boX (l : List UInt8) (e : Int) : Bool := if tkE l e 1 ≠ 0 then false else (l[0]?.getD 0).toNat == 1

set_option maxHeartbeats 1000000 in
theorem bool_any {w : World} {S : Nat → Prop} {p : Nat} {l : List UInt8} {e : Int} (h : Rd w S p l e) :
    Calls Tryd.prog 57 #[.pointer (some ⟨p, 0, none⟩)] w fun r w' => r = .returned (.bool (boX l e)) ∧ Rd w' S p (fxL l e 1) (boE l e) ∧ w.grownBy w' (some p) := by
  have hnil := fun (w : World) (a : Option Addr) (n c : Nat) => Lib.run_eql_slice_nil (P := Tryd.prog) w 22 5 a n c 0 0 Tryd.underlying22
  unfold boX boE fxL
  by_cases hk : tkE l e 1 = 0
  · obtain ⟨rfl, _, h1⟩ := tkE_zero hk
    simp only [hk, ne_eq, not_true, if_false, if_true]
    have ht := take_ok (m := 1) h (by simpa using h1)
    clear hk
    generalize hd : (l[0]?.getD 0).toNat = d at *
    have HD := Lib.hid hd
    clear hd
    by_cases hd1 : 1 < d
    · simp only [hd1, if_true]
      have hd2 : 1 < (d : Int) := by omega
      have hd3 : (d == 1) = false := by simp; omega
      rw [hd3]
      go_enter Tryd.func57, Tryd.ntmps57
      go_wp2_with fail
      refine ht.mono ?_
      rintro _ w1 ⟨A, rfl, hR, hY, hb⟩
      obtain ⟨bb, off, rfl, _, _, hcell⟩ := hY.row (by omega)
      have hc0 := hcell 0 (by omega)
      rw [List.getElem?_take_of_lt (by omega), HD.out, Nat.add_zero] at hc0
      have hf := hR.free
      have h1 := hR.cell1
      clear hcell hY
      go_wp2
      go_ret
      exact ⟨rfl, hR.set_err 11, gr_set hb _ _⟩
    · simp only [hd1, if_false]
      have hd2 : (d : Int) ≤ 1 := by omega
      go_enter Tryd.func57, Tryd.ntmps57
      go_wp2_with fail
      refine ht.mono ?_
      rintro _ w1 ⟨A, rfl, hR, hY, hb⟩
      obtain ⟨bb, off, rfl, _, _, hcell⟩ := hY.row (by omega)
      have hc0 := hcell 0 (by omega)
      rw [List.getElem?_take_of_lt (by omega), HD.out, Nat.add_zero] at hc0
      clear hcell hY
      go_wp2
      go_ret
      refine ⟨?_, hR, hb⟩
      have : ((d : Int) == 1) = (d == 1) := by rw [Bool.eq_iff_iff]; simp; omega
      simp [this]
  · simp only [hk, ne_eq, not_false_iff, if_true, if_false]
    have ht := ctake_bad h hk
    go_enter Tryd.func57, Tryd.ntmps57
    go_wp2_with fail
    refine ht.mono ?_
    rintro _ w1 ⟨rfl, hR, hb⟩
    go_wp2
    go_ret
    exact ⟨rfl, hR, hb⟩

set_option maxHeartbeats 1000000 in
theorem newReader {w : World} {S : Nat → Prop} {n c : Nat} {A : Option Addr} {l : List UInt8} (h : Byt w S A n c l) (hn : n ≤ 140737488355328) :
    Calls Tryd.prog 30 #[.slice A n c] w fun r w' => ∃ p, r = .returned (.pointer (some ⟨p, 0, none⟩)) ∧ Rd w' (w.heap.size ≤ ·) p l 0 ∧ Below w.heap.size w w' := by
  go_enter Tryd.func30, Tryd.ntmps30
  go_wp2_with fail
  refine (clone_byt h hn).mono ?_
  rintro _ w1 ⟨A2, c2, rfl, hY, hb, _⟩
  go_wp2
  go_ret
  exact ⟨w1.heap.size, rfl, ⟨hb.size, A2, n, c2, heap_alloc_new w1 _, hY.alloc _⟩, hb.alloc hb.size _⟩

end Go.Proofs.YtmakpjcgiiljfaaDoor

/-! Cells, pure: changes, names with bytes in order, the records of them, how they are read again. -/
namespace Go.Proofs.YtmakpjcgiiljfaaDoor
open Go.RowKit Codec

/-- A CHANGE. -/
structure Ch where
  k : List UInt8
  v : List UInt8
  g : Bool
/-- NAMES WITH BYTES. -/
abbrev Tb := List (List UInt8 × List UInt8)
/-- May a change be? -/
def mayC (c : Ch) : Bool := decide (1 ≤ c.k.length) && decide (c.k.length ≤ 64) && decide (c.v.length ≤ if c.g then 0 else 4096)
/-- In order, no name twice. -/
def Srt (t : Tb) : Prop := t.Pairwise fun a b => a.1 < b.1
/-- A name's bytes. -/
def getT (t : Tb) (k : List UInt8) : Option (List UInt8) := (t.find? fun p => p.1 == k).map (·.2)
/-- Names behind a change. -/
def doC (t : Tb) (c : Ch) : Tb := (t.filter fun p => decide (p.1 < c.k)) ++ (if c.g then [] else [(c.k, c.v)]) ++ (t.filter fun p => decide (c.k < p.1))
def doL (t : Tb) (l : List Ch) : Tb := l.foldl doC t

theorem bytes_less : ∀ a b : List UInt8, Op.bytesLess a b = decide (a < b)
  | _, [] => by
    rename_i a
    cases a <;> simp [Op.bytesLess]
  | [], b :: y => by simp [Op.bytesLess]
  | a :: x, b :: y => by
    rw [Op.bytesLess, bytes_less x y]
    simp only [List.cons_lt_cons_iff]
    by_cases h : a < b <;> by_cases h2 : a = b <;> simp [h, h2]
theorem kle_of_not {a b : List UInt8} (h : ¬ a < b) : b ≤ a := List.not_lt.1 h
theorem klt_irr (a : List UInt8) : ¬ a < a := List.lt_irrefl a
theorem klt_tr {a b c : List UInt8} (h : a < b) (h' : b < c) : a < c := List.lt_trans h h'
theorem klt_as {a b : List UInt8} (h : a < b) : ¬ b < a := List.lt_asymm h
theorem klt_tri {a b : List UInt8} (h : ¬ a < b) (h' : ¬ b < a) : a = b := List.le_antisymm (List.not_lt.1 h') (List.not_lt.1 h)
theorem klt_ne {a b : List UInt8} (h : a < b) : a ≠ b := fun e => klt_irr b (e ▸ h)

theorem Srt.nil : Srt [] := List.Pairwise.nil
theorem Srt.chg {t : Tb} (h : Srt t) (c : Ch) : Srt (doC t c) := by
  unfold Srt doC
  refine List.pairwise_append.2 ⟨List.pairwise_append.2 ⟨h.filter _, by split <;> simp, ?_⟩, h.filter _, ?_⟩
  · intro a ha b hb
    have h1 : a.1 < c.k := by simpa using (List.mem_filter.1 ha).2
    split at hb
    · simp at hb
    · simp only [List.mem_singleton] at hb
      rw [hb]
      exact h1
  · intro a ha b hb
    have h2 : c.k < b.1 := by simpa using (List.mem_filter.1 hb).2
    rcases List.mem_append.1 ha with ha | ha
    · exact klt_tr (by simpa using (List.mem_filter.1 ha).2) h2
    · split at ha
      · simp at ha
      · simp only [List.mem_singleton] at ha
        rw [ha]
        exact h2
theorem Srt.chs {t : Tb} (h : Srt t) (l : List Ch) : Srt (doL t l) := by
  unfold doL
  induction l generalizing t with
  | nil => exact h
  | cons c l ih => exact ih (h.chg c)
theorem getT_nil (k : List UInt8) : getT [] k = none := rfl
theorem getT_cons (p : List UInt8 × List UInt8) (t : Tb) (k : List UInt8) : getT (p :: t) k = if p.1 = k then some p.2 else getT t k := by
  unfold getT
  by_cases h : p.1 = k
  · simp [h]
  · simp [h]
theorem getT_app (t u : Tb) (k : List UInt8) : getT (t ++ u) k = (getT t k).or (getT u k) := by
  unfold getT
  rw [List.find?_append]
  cases t.find? (fun p => p.1 == k) <;> simp
theorem getT_filter_lt (t : Tb) (c k : List UInt8) (h : k < c) : getT (t.filter fun p => decide (p.1 < c)) k = getT t k := by
  induction t with
  | nil => rfl
  | cons p t ih =>
    by_cases hp : p.1 < c
    · rw [List.filter_cons_of_pos (by simpa using hp), getT_cons, getT_cons, ih]
    · rw [List.filter_cons_of_neg (by simpa using hp), getT_cons, ih, if_neg (fun e => hp (by rw [e]; exact h))]
theorem getT_filter_gt (t : Tb) (c k : List UInt8) (h : c < k) : getT (t.filter fun p => decide (c < p.1)) k = getT t k := by
  induction t with
  | nil => rfl
  | cons p t ih =>
    by_cases hp : c < p.1
    · rw [List.filter_cons_of_pos (by simpa using hp), getT_cons, getT_cons, ih]
    · rw [List.filter_cons_of_neg (by simpa using hp), getT_cons, ih, if_neg (fun e => hp (by rw [e]; exact h))]
theorem getT_none {t : Tb} {k : List UInt8} (h : ∀ p ∈ t, p.1 ≠ k) : getT t k = none := by
  unfold getT
  rw [List.find?_eq_none.2 (fun p hp => by simpa using h p hp)]
  rfl
theorem getT_doC (t : Tb) (c : Ch) (k : List UInt8) : getT (doC t c) k = if k = c.k then (if c.g then none else some c.v) else getT t k := by
  unfold doC
  rw [getT_app, getT_app]
  have hl : ¬ k < c.k → getT (t.filter fun p => decide (p.1 < c.k)) k = none := fun h => getT_none fun p hp e => h (by have := (List.mem_filter.1 hp).2; rw [← e]; simpa using this)
  have hg : ¬ c.k < k → getT (t.filter fun p => decide (c.k < p.1)) k = none := fun h => getT_none fun p hp e => h (by have := (List.mem_filter.1 hp).2; rw [← e]; simpa using this)
  by_cases he : k = c.k
  · rw [if_pos he, hl (he ▸ klt_irr c.k), hg (he ▸ klt_irr c.k)]
    by_cases hG : c.g = true
    · simp [hG, getT_nil]
    · simp [hG, getT_cons, he]
  · rw [if_neg he]
    have hm : getT (if c.g = true then [] else [(c.k, c.v)]) k = none := by
      split
      · rfl
      · rw [getT_cons, if_neg (fun e => he e.symm)]; rfl
    rw [hm]
    by_cases hlt : k < c.k
    · rw [getT_filter_lt _ _ _ hlt, hg (klt_as hlt)]
      simp
    · have hgt : c.k < k := Classical.byContradiction fun h => he (klt_tri hlt h)
      rw [hl hlt, getT_filter_gt _ _ _ hgt]
      simp
theorem getT_mem {t : Tb} (h : Srt t) {p : List UInt8 × List UInt8} (hp : p ∈ t) : getT t p.1 = some p.2 := by
  induction t with
  | nil => simp at hp
  | cons q t ih =>
    rw [getT_cons]
    obtain ⟨h1, h2⟩ := List.pairwise_cons.1 h
    rcases List.mem_cons.1 hp with rfl | hp
    · rw [if_pos rfl]
    · rw [if_neg (klt_ne (h1 p hp)), ih h2 hp]
theorem getT_some {t : Tb} {k v : List UInt8} (h : getT t k = some v) : (k, v) ∈ t := by
  unfold getT at h
  rcases hf : t.find? (fun p => p.1 == k) with _ | p
  · rw [hf] at h; simp at h
  · rw [hf] at h
    have h1 := List.mem_of_find?_eq_some hf
    have h2 := List.find?_some hf
    simp only [beq_iff_eq] at h2
    simp only [Option.map_some, Option.some.injEq] at h
    rw [← h, ← h2]
    exact h1
theorem getT_isSome {t : Tb} {k : List UInt8} : (getT t k).isSome = true ↔ k ∈ t.map (·.1) := by
  unfold getT
  rw [Option.isSome_map, List.find?_isSome]
  simp
theorem Srt.keys {t : Tb} (h : Srt t) : (t.map (·.1)).Pairwise (· < ·) := List.pairwise_map.2 h

/-! ### how much they are -/
/-- How many bytes names with bytes are at most, in a record. -/
def wtT : Tb → Nat
  | [] => 0
  | p :: t => p.1.length + p.2.length + 20 + wtT t
def wtC : List Ch → Nat
  | [] => 0
  | c :: l => c.k.length + c.v.length + 21 + wtC l
theorem wtT_app (t u : Tb) : wtT (t ++ u) = wtT t + wtT u := by
  induction t with
  | nil => simp [wtT]
  | cons p t ih => simp only [List.cons_append, wtT, ih]; omega
theorem wtT_len (t : Tb) : 20 * t.length ≤ wtT t := by
  induction t with
  | nil => simp [wtT]
  | cons p t ih => simp only [List.length_cons, wtT]; omega
theorem wtC_len (l : List Ch) : 21 * l.length ≤ wtC l := by
  induction l with
  | nil => simp [wtC]
  | cons p t ih => simp only [List.length_cons, wtC]; omega
theorem wtT_filter (t : Tb) (c : List UInt8) : wtT (t.filter fun p => decide (p.1 < c)) + wtT (t.filter fun p => decide (c < p.1)) ≤ wtT t := by
  induction t with
  | nil => simp [wtT]
  | cons p t ih =>
    by_cases h1 : p.1 < c
    · rw [List.filter_cons_of_pos (by simpa using h1), List.filter_cons_of_neg (by simpa using klt_as h1)]
      simp only [wtT]
      omega
    · rw [List.filter_cons_of_neg (by simpa using h1)]
      by_cases h2 : c < p.1
      · rw [List.filter_cons_of_pos (by simpa using h2)]
        simp only [wtT]
        omega
      · rw [List.filter_cons_of_neg (by simpa using h2)]
        simp only [wtT]
        omega
theorem wtT_doC (t : Tb) (c : Ch) : wtT (doC t c) ≤ wtT t + (c.k.length + c.v.length + 20) := by
  have h := wtT_filter t c.k
  unfold doC
  rw [wtT_app, wtT_app]
  split
  · simp only [wtT]; omega
  · simp only [wtT]; omega
theorem wtT_doL : ∀ (l : List Ch) (t : Tb), wtT (doL t l) ≤ wtT t + wtC l
  | [], t => by simp [doL, wtC]
  | c :: l, t => by
    have h1 := wtT_doL l (doC t c)
    have h2 := wtT_doC t c
    have e : doL t (c :: l) = doL (doC t c) l := rfl
    rw [e]
    simp only [wtC]
    omega
theorem doL_snoc (t : Tb) (l : List Ch) (c : Ch) : doL t (l ++ [c]) = doC (doL t l) c := by simp [doL]
theorem doL_app (t : Tb) (l m : List Ch) : doL t (l ++ m) = doL (doL t l) m := by simp [doL]

/-! ### records -/
def rowB (b : List UInt8) : List UInt8 := put b.length ++ b
def ofT (t : Tb) : List UInt8 := (t.map fun p => rowB p.1 ++ rowB p.2).flatten
def chgB (c : Ch) : List UInt8 := rowB c.k ++ ([if c.g then 1 else 0] ++ if c.g then [] else rowB c.v)
def ofC (l : List Ch) : List UInt8 := (l.map chgB).flatten
/-- The record of all. -/
def allB (t : Tb) : List UInt8 := put 1 ++ put t.length ++ ofT t
/-- The record of changes. -/
def chsB (l : List Ch) : List UInt8 := put 2 ++ put l.length ++ ofC l
theorem ofT_snoc (t : Tb) (p : List UInt8 × List UInt8) : ofT (t ++ [p]) = ofT t ++ (rowB p.1 ++ rowB p.2) := by simp [ofT]
theorem ofC_snoc (l : List Ch) (c : Ch) : ofC (l ++ [c]) = ofC l ++ chgB c := by simp [ofC]
theorem rowB_len (b : List UInt8) (h : b.length < 18446744073709551616) : (rowB b).length ≤ b.length + 10 := by
  have := put_length_64 h
  simp only [rowB, List.length_append]
  omega
theorem ofT_len : ∀ (t : Tb), wtT t < 18446744073709551616 → (ofT t).length ≤ wtT t
  | [], _ => by simp [ofT]
  | p :: t, h => by
    simp only [wtT] at h ⊢
    have h1 := ofT_len t (by omega)
    have h2 := rowB_len p.1 (by omega)
    have h3 := rowB_len p.2 (by omega)
    have e : ofT (p :: t) = (rowB p.1 ++ rowB p.2) ++ ofT t := by simp [ofT]
    rw [e, List.length_append, List.length_append]
    omega
theorem ofC_len : ∀ (l : List Ch), wtC l < 18446744073709551616 → (ofC l).length ≤ wtC l
  | [], _ => by simp [ofC]
  | c :: t, h => by
    simp only [wtC] at h ⊢
    have h1 := ofC_len t (by omega)
    have h2 := rowB_len c.k (by omega)
    have h3 := rowB_len c.v (by omega)
    have e : ofC (c :: t) = chgB c ++ ofC t := by simp [ofC]
    have h4 : (chgB c).length ≤ (rowB c.k).length + 1 + (rowB c.v).length := by
      unfold chgB
      simp only [List.length_append, List.length_singleton]
      split
      · simp
      · omega
    rw [e, List.length_append]
    omega
theorem allB_len (t : Tb) (h : wtT t < 1000000000) : (allB t).length ≤ wtT t + 20 := by
  have h1 := ofT_len t (by omega)
  have h2 := wtT_len t
  have h3 := put_length_64 (x := 1) (by omega)
  have h4 := put_length_64 (x := t.length) (by omega)
  simp only [allB, List.length_append]
  omega
theorem chsB_len (l : List Ch) (h : wtC l < 1000000000) : (chsB l).length ≤ wtC l + 20 := by
  have h1 := ofC_len l (by omega)
  have h2 := wtC_len l
  have h3 := put_length_64 (x := 2) (by omega)
  have h4 := put_length_64 (x := l.length) (by omega)
  simp only [chsB, List.length_append]
  omega

/-! ### read again -/
/-- The names of a record of all: so many are left; the names so far, the last one; what is left of the bytes, and the error. -/
def raGo : Nat → Tb → List UInt8 → List UInt8 → Int → Option (Tb × List UInt8 × Int)
  | 0, t, _, l, e => some (t, l, e)
  | n + 1, t, last, l, e =>
    if byB l e 64 ≤ last then none
    else raGo n (t ++ [(byB l e 64, byB (byL l e 64) (byE l e 64) 4096)]) (byB l e 64) (byL (byL l e 64) (byE l e 64) 4096) (byE (byL l e 64) (byE l e 64) 4096)
def raEnd : Option (Tb × List UInt8 × Int) → Option Tb
  | none => none
  | some (t, l, e) => if endE l e = 0 then some t else none
/-- What a record of all says. -/
def raM (b : List UInt8) : Option Tb := if uiX b 0 ≠ 1 then none else raEnd (raGo (uiX (uiL b 0) (uiE b 0)) [] [] (uiL (uiL b 0) (uiE b 0)) (uiE (uiL b 0) (uiE b 0)))
/-- One change, read; what is left, and the error. -/
def rc1 (l : List UInt8) (e : Int) : Ch × List UInt8 × Int :=
  if boX (byL l e 64) (byE l e 64) = true then (⟨byB l e 64, [], true⟩, fxL (byL l e 64) (byE l e 64) 1, boE (byL l e 64) (byE l e 64))
  else (⟨byB l e 64, byB (fxL (byL l e 64) (byE l e 64) 1) (boE (byL l e 64) (byE l e 64)) 4096, false⟩, byL (fxL (byL l e 64) (byE l e 64) 1) (boE (byL l e 64) (byE l e 64)) 4096, byE (fxL (byL l e 64) (byE l e 64) 1) (boE (byL l e 64) (byE l e 64)) 4096)
theorem rc1_k (l : List UInt8) (e : Int) : (rc1 l e).1.k = byB l e 64 := by
  unfold rc1
  split <;> rfl
def rcGo : Nat → List Ch → List UInt8 → Int → Option (List Ch × List UInt8 × Int)
  | 0, a, l, e => some (a, l, e)
  | n + 1, a, l, e => if mayC (rc1 l e).1 = false then none else rcGo n (a ++ [(rc1 l e).1]) (rc1 l e).2.1 (rc1 l e).2.2
def rcEnd : Option (List Ch × List UInt8 × Int) → Option (List Ch)
  | none => none
  | some (a, l, e) => if endE l e = 0 then some a else none
/-- What a record of changes says. -/
def rcM (b : List UInt8) : Option (List Ch) := if uiX b 0 ≠ 2 then none else rcEnd (rcGo (uiX (uiL b 0) (uiE b 0)) [] (uiL (uiL b 0) (uiE b 0)) (uiE (uiL b 0) (uiE b 0)))
end Go.Proofs.YtmakpjcgiiljfaaDoor

/-! Files, pure: a path's names, whether it may be; trees. -/
namespace Go.Proofs.YtmakpjcgiiljfaaDoor
open Go.RowKit Codec

/-- What stands between slashes. -/
def spl : List UInt8 → List (List UInt8)
  | [] => [[]]
  | c :: t => if c = 47 then [] :: spl t else match spl t with
    | [] => [[c]]
    | h :: r => (c :: h) :: r
theorem spl_ne : ∀ l, spl l ≠ []
  | [] => by simp [spl]
  | c :: t => by
    unfold spl
    split
    · simp
    · split <;> simp
theorem spl_slash (t : List UInt8) : spl (47 :: t) = [] :: spl t := by simp [spl]
theorem spl_cons {c : UInt8} (h : c ≠ 47) {t : List UInt8} {x : List UInt8} {r : List (List UInt8)} (e : spl t = x :: r) : spl (c :: t) = (c :: x) :: r := by
  rw [spl, if_neg h, e]
theorem spl_none : ∀ {l : List UInt8}, 47 ∉ l → spl l = [l]
  | [], _ => rfl
  | c :: t, h => by
    simp only [List.mem_cons, not_or] at h
    exact spl_cons (fun e => h.1 e.symm) (spl_none h.2)
theorem spl_at : ∀ {a : List UInt8} (b : List UInt8), 47 ∉ a → spl (a ++ 47 :: b) = a :: spl b
  | [], b, _ => spl_slash b
  | c :: t, b, h => by
    simp only [List.mem_cons, not_or] at h
    exact spl_cons (fun e => h.1 e.symm) (spl_at b h.2)
theorem spl_app : ∀ (a b : List UInt8), spl (a ++ 47 :: b) = spl a ++ spl b
  | [], b => by simp [spl]
  | c :: t, b => by
    by_cases h : c = 47
    · subst h
      rw [List.cons_append, spl_slash, spl_slash, spl_app t b, List.cons_append]
    · obtain ⟨x, r, e⟩ := List.exists_cons_of_ne_nil (spl_ne t)
      rw [List.cons_append, spl_cons h (x := x) (r := r ++ spl b) (by rw [spl_app t b, e, List.cons_append]), spl_cons h e, List.cons_append]
/-- A slash's place. -/
theorem ixb_none : ∀ {l : List UInt8}, Lib.indexByte l 47 = -1 → 47 ∉ l
  | [], _ => by simp
  | c :: t, h => by
    unfold Lib.indexByte at h
    have hge := Lib.indexByte_ge t 47
    split at h
    · cases h
    · rename_i hc
      split at h
      · rename_i h2
        simp only [List.mem_cons, not_or]
        exact ⟨fun e => hc (by simp [e]), ixb_none (by simpa using h2)⟩
      · rename_i h2
        have h2' : ¬ Lib.indexByte t 47 = -1 := by simpa using h2
        omega
theorem ixb_some : ∀ {l : List UInt8} {k : Nat}, Lib.indexByte l 47 = (k : Int) → k < l.length ∧ 47 ∉ l.take k ∧ l = l.take k ++ 47 :: l.drop (k + 1)
  | [], k, h => by simp [Lib.indexByte] at h
  | c :: t, k, h => by
    unfold Lib.indexByte at h
    have hge := Lib.indexByte_ge t 47
    split at h
    · rename_i hc
      obtain rfl : k = 0 := by omega
      have hc' : c = 47 := by simpa using hc
      subst hc'
      simp
    · rename_i hc
      split at h
      · omega
      · rename_i h2
        have h2' : ¬ Lib.indexByte t 47 = -1 := by simpa using h2
        obtain ⟨j, rfl⟩ : ∃ j, k = j + 1 := ⟨k - 1, by omega⟩
        obtain ⟨h1, h2, h3⟩ := ixb_some (l := t) (k := j) (by omega)
        refine ⟨by simp; omega, ?_, ?_⟩
        · rw [List.take_succ_cons]
          simp only [List.mem_cons, not_or]
          exact ⟨fun e => hc (by simp [← e]), h2⟩
        · rw [List.take_succ_cons, List.drop_succ_cons, List.cons_append, ← h3]
theorem ixb_cases (l : List UInt8) : Lib.indexByte l 47 = -1 ∨ ∃ k : Nat, Lib.indexByte l 47 = (k : Int) := by
  have h := Lib.indexByte_ge l 47
  by_cases h1 : Lib.indexByte l 47 = -1
  · exact .inl h1
  · exact .inr ⟨(Lib.indexByte l 47).toNat, by omega⟩

/-! ### what may be -/
def nmOk (n : List UInt8) : Bool := decide (n ≠ []) && decide (n ≠ [46]) && decide (n ≠ [46, 46]) && n.all fun c => decide (32 ≤ c.toNat)
/-- MAY A PATH BE? -/
def pathOk (l : List UInt8) : Bool := decide (l.length ≤ 255) && (spl l).all nmOk
theorem pathOk_len {l : List UInt8} (h : pathOk l = true) : l.length ≤ 255 := by
  unfold pathOk at h
  simp only [Bool.and_eq_true, decide_eq_true_eq] at h
  exact h.1
theorem pathOk_app (a b : List UInt8) : pathOk (a ++ 47 :: b) = (pathOk a && pathOk b && decide (a.length + b.length < 255)) := by
  unfold pathOk
  rw [spl_app, List.all_append]
  by_cases h : a.length + b.length < 255
  · have h1 : a.length ≤ 255 := by omega
    have h2 : b.length ≤ 255 := by omega
    rw [decide_eq_true (show (a ++ 47 :: b).length ≤ 255 by simp; omega), decide_eq_true h, decide_eq_true h1, decide_eq_true h2]
    simp
  · rw [decide_eq_false (show ¬ (a ++ 47 :: b).length ≤ 255 by simp; omega), decide_eq_false h]
    simp

/-! ### trees -/
/-- What ends at a slash, or at the end. -/
def fr : List UInt8 → List (List UInt8)
  | [] => [[]]
  | c :: t => if c = 47 then [] :: (fr t).map (c :: ·) else (fr t).map (c :: ·)
theorem mem_fr : ∀ {p q : List UInt8}, q ∈ fr p ↔ q = p ∨ ∃ r, p = q ++ 47 :: r
  | [], q => by
    simp [fr]
  | c :: t, q => by
    unfold fr
    constructor
    · intro h
      have hh : (q = [] ∧ c = 47) ∨ ∃ y ∈ fr t, c :: y = q := by
        split at h
        · rename_i hc
          rcases List.mem_cons.1 h with h | h
          · exact .inl ⟨h, hc⟩
          · exact .inr (List.mem_map.1 h)
        · exact .inr (List.mem_map.1 h)
      rcases hh with ⟨rfl, rfl⟩ | ⟨y, hy, rfl⟩
      · exact .inr ⟨t, rfl⟩
      · rcases mem_fr.1 hy with rfl | ⟨r, rfl⟩
        · exact .inl rfl
        · exact .inr ⟨r, rfl⟩
    · rintro (rfl | ⟨r, h⟩)
      · have : c :: t ∈ (fr t).map (c :: ·) := List.mem_map.2 ⟨t, mem_fr.2 (.inl rfl), rfl⟩
        split
        · exact List.mem_cons_of_mem _ this
        · exact this
      · cases q with
        | nil =>
          simp only [List.nil_append, List.cons.injEq] at h
          rw [if_pos h.1]
          exact List.mem_cons_self
        | cons d q =>
          simp only [List.cons_append, List.cons.injEq] at h
          obtain ⟨rfl, h⟩ := h
          have : c :: q ∈ (fr t).map (c :: ·) := List.mem_map.2 ⟨q, mem_fr.2 (.inr ⟨r, h⟩), rfl⟩
          split
          · exact List.mem_cons_of_mem _ this
          · exact this
theorem fr_length : ∀ p, (fr p).length = (spl p).length
  | [] => rfl
  | c :: t => by
    by_cases h : c = 47
    · subst h
      simp [fr, spl, fr_length t]
    · obtain ⟨x, r, e⟩ := List.exists_cons_of_ne_nil (spl_ne t)
      rw [spl_cons h e, fr, if_neg h, List.length_map, fr_length t, e]
      rfl
/-- Where name k begins. -/
def atN (p : List UInt8) (k : Nat) : Nat := (((spl p).take k).map (·.length + 1)).sum
theorem fr_get : ∀ (p : List UInt8) (k : Nat) (x : List UInt8), (spl p)[k]? = some x → atN p k + x.length ≤ p.length ∧ (fr p)[k]? = some (p.take (atN p k + x.length))
  | [], k, x, h => by
    cases k with
    | zero =>
      obtain rfl : [] = x := by simpa [spl] using h
      simp [atN, fr]
    | succ k => simp [spl] at h
  | c :: t, k, x, h => by
    by_cases hc : c = 47
    · subst hc
      rw [spl_slash] at h
      cases k with
      | zero =>
        obtain rfl : [] = x := by simpa using h
        simp [atN, fr]
      | succ k =>
        rw [List.getElem?_cons_succ] at h
        obtain ⟨h1, h2⟩ := fr_get t k x h
        have ha : atN (47 :: t) (k + 1) = atN t k + 1 := by
          unfold atN
          rw [spl_slash, List.take_succ_cons]
          simp
          omega
        rw [ha]
        refine ⟨by simp; omega, ?_⟩
        rw [fr, if_pos rfl, List.getElem?_cons_succ, List.getElem?_map, h2, show atN t k + 1 + x.length = (atN t k + x.length) + 1 by omega, List.take_succ_cons]
        rfl
    · obtain ⟨y, r, e⟩ := List.exists_cons_of_ne_nil (spl_ne t)
      rw [spl_cons hc e] at h
      cases k with
      | zero =>
        obtain rfl : c :: y = x := by simpa using h
        obtain ⟨h1, h2⟩ := fr_get t 0 y (by rw [e]; rfl)
        have h0 : ∀ p, atN p 0 = 0 := fun p => by simp [atN]
        rw [h0] at h1 h2 ⊢
        rw [Nat.zero_add] at h1 h2 ⊢
        refine ⟨by simp; omega, ?_⟩
        rw [fr, if_neg hc, List.getElem?_map, h2, List.length_cons, List.take_succ_cons]
        rfl
      | succ k =>
        rw [List.getElem?_cons_succ] at h
        obtain ⟨h1, h2⟩ := fr_get t (k + 1) x (by rw [e]; exact h)
        have ha : atN (c :: t) (k + 1) = atN t (k + 1) + 1 := by
          unfold atN
          rw [spl_cons hc e, e, List.take_succ_cons, List.take_succ_cons]
          simp
          omega
        rw [ha]
        refine ⟨by simp; omega, ?_⟩
        rw [fr, if_neg hc, List.getElem?_map, h2, show atN t (k + 1) + 1 + x.length = (atN t (k + 1) + x.length) + 1 by omega, List.take_succ_cons]
        rfl
theorem atN_succ (p : List UInt8) (k : Nat) (x : List UInt8) (h : (spl p)[k]? = some x) : atN p (k + 1) = atN p k + x.length + 1 := by
  unfold atN
  rw [List.take_add_one, h]
  simp
  omega

/-- EACH PATH MAY BE, AND IS ABOVE THE ONE AHEAD. -/
def riseB : Tb → Bool
  | [] => true
  | x :: t => pathOk x.1 && (match t with | [] => true | y :: _ => decide (x.1 < y.1)) && riseB t
theorem rise_snoc : ∀ (l : Tb) (x : List UInt8 × List UInt8), riseB (l ++ [x]) = (riseB l && pathOk x.1 && (match l.getLast? with | none => true | some y => decide (y.1 < x.1)))
  | [], x => by simp [riseB]
  | [y], x => by
    simp only [List.cons_append, List.nil_append, riseB, List.getLast?_singleton]
    cases pathOk y.1 <;> cases pathOk x.1 <;> simp
  | y :: z :: l, x => by
    have ih := rise_snoc (z :: l) x
    rw [List.cons_append] at ih
    rw [List.cons_append, List.cons_append, riseB, ih, riseB, List.getLast?_cons_cons]
    cases pathOk y.1 <;> simp [Bool.and_assoc]
theorem rise_front : ∀ (a b : Tb), riseB (a ++ b) = true → riseB a = true
  | [], _, _ => rfl
  | [x], b, h => by
    cases b <;> simp_all [riseB]
  | x :: y :: a, b, h => by
    rw [List.cons_append, List.cons_append, riseB] at h
    simp only [Bool.and_eq_true] at h
    rw [riseB]
    simp only [Bool.and_eq_true]
    exact ⟨h.1, rise_front (y :: a) b h.2⟩
theorem rise_take {l : Tb} (h : riseB l = true) (k : Nat) : riseB (l.take k) = true := rise_front _ (l.drop k) (by rwa [List.take_append_drop])
def clashB (l : Tb) : Bool := (List.range l.length).any fun i => (fr (l[i]?.getD ([], [])).1).any fun q => (l.take i).any fun y => y.1 == q
def allF (l : Tb) : Nat := (l.map fun x => x.2.length).sum
def tooB (l : Tb) : Bool := decide (65536 < l.length) || l.any (fun x => decide (1048576 < x.2.length)) || decide (16777216 < allF l)
def chkE (l : Tb) : Int := if riseB l = false ∨ clashB l = true then 1 else if tooB l = true then 13 else 0
def filE (x : List UInt8 × List UInt8) : List UInt8 := put x.1.length ++ x.1 ++ (put x.2.length ++ x.2)
/-- A TREE's BYTES. -/
def filB (l : Tb) : List UInt8 := put l.length ++ (l.map filE).flatten
end Go.Proofs.YtmakpjcgiiljfaaDoor
