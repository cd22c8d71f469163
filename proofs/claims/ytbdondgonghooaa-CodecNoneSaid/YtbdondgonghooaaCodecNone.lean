/-
  The statement CodecNone: its walk.
-/
import Derived.Test.YtbdondgonghooaaCodecAwake
namespace Go.Proofs.Ytbdondgonghooaa
open Go.RowKit Codec

theorem id_zero_lit : ∀ w, (Op.equalIn 10000 42 (.agg Z32) (.agg #[.int .u8 0, .int .u8 0, .int .u8 0, .int .u8 0, .int .u8 0, .int .u8 0, .int .u8 0, .int .u8 0, .int .u8 0, .int .u8 0, .int .u8 0, .int .u8 0, .int .u8 0, .int .u8 0, .int .u8 0, .int .u8 0, .int .u8 0, .int .u8 0, .int .u8 0, .int .u8 0, .int .u8 0, .int .u8 0, .int .u8 0, .int .u8 0, .int .u8 0, .int .u8 0, .int .u8 0, .int .u8 0, .int .u8 0, .int .u8 0, .int .u8 0, .int .u8 0])).run Try.prog w = .ok true w := by
  intro w
  unfold Z32
  rw [zeros32]
  kernel_rfl
theorem idC_bad {l : List UInt8} {e : Int} (h : tkE l e 32 ≠ 0) : idC l e = Z32 := by unfold idC idL Z32; rw [if_neg h]

theorem Rd.keep_e {l : List UInt8} {e : Int} (he : e ≠ 0) (k : Int) : tkE l e k = e ∧ fxL l e k = l ∧ fxB l e k = [] := by
  have h : tkE l e k = e := by unfold tkE; rw [if_pos he]
  exact ⟨h, by unfold fxL; rw [h, if_neg he], by unfold fxB; rw [h, if_neg he]⟩

set_option maxHeartbeats 2000000 in
set_option maxRecDepth 100000 in
theorem walk_none {w : World} {S : Nat → Prop} {A : Option Addr} {n c : Nat} {l : List UInt8} (h : Byt w S A n c l) {k : Int} (_hk : (Lit.int .i64 k).wf = true) :
    Calls Try.prog 6 #[.slice A n c, .int .i64 k] w fun e w' => e = .returned (.bool true) ∧ Below w.heap.size w w' := by
  have hzl := id_zero_lit
  by_cases hn : n ≤ 300
  · go_enter Try.func6, Try.ntmps6
    go_wp2_with fail
    refine (awake_true _).mono ?_
    rintro _ w1 ⟨rfl, hb1⟩
    go_wp2_with fail
    refine (wuint_nil _ _).mono ?_
    rintro _ _ ⟨rfl, rfl⟩
    go_wp2_with fail
    refine (wbytes_nil _ _ _ _).mono ?_
    rintro _ _ ⟨rfl, rfl⟩
    go_wp2_with fail
    refine (wbool_nil _ _).mono ?_
    rintro _ w2 ⟨rfl, hb2⟩
    have hb2 := hb1.trans (hb2.mono hb1.size)
    go_wp2_with (first
      | (go_at_call 11; refine (uint_nil _).mono ?_; rintro _ _ ⟨rfl, rfl⟩)
      | (go_at_call 15; refine (fixed_nil _ _).mono ?_; rintro _ _ ⟨rfl, rfl⟩)
      | (go_at_call 13; refine (bytes_nil _ _).mono ?_; rintro _ _ ⟨rfl, rfl⟩)
      | (go_at_call 17; refine (bool_nil _).mono ?_; rintro _ _ ⟨rfl, rfl⟩))
    refine (id_nil _).mono ?_
    rintro _ w3 ⟨rfl, hb3⟩
    have hb3 := hb2.trans (hb3.mono hb2.size)
    go_wp2_with (first
      | (go_at_call 21; refine (err_nil _).mono ?_; rintro _ _ ⟨rfl, rfl⟩)
      | (go_at_call 22; refine (end_nil _).mono ?_; rintro _ _ ⟨rfl, rfl⟩)
      | (go_at_call 31; refine (wout_nil _).mono ?_; rintro _ _ ⟨rfl, rfl⟩))
    refine (newReader (h.below hb3) (by omega)).mono ?_
    rintro _ w4 ⟨q, rfl, hR4, hb4⟩
    have hq : w.heap.size ≤ q := Nat.le_trans hb3.size hR4.1
    have hb4 := hb3.trans (hb4.mono hb3.size)
    have hl := h.len
    have e1 : tkE l 0 ((n : Int) + 1) = 10 := by unfold tkE; simp; omega
    have e2 : fxL l 0 ((n : Int) + 1) = l := by unfold fxL; rw [e1]; rfl
    have e3 : fxB l 0 ((n : Int) + 1) = [] := by unfold fxB; rw [e1]; rfl
    have hx := fixed_any (k := (n : Int) + 1) hR4 (by omega)
    rw [e1, e2, e3] at hx
    have HL := Lib.hid hl
    clear e1 e2 e3 hl
    go_wp2_with fail
    refine hx.mono ?_
    rintro _ w5 ⟨A5, n5, c5, rfl, hY5, hR5, hg5, _⟩
    have hn5 := hY5.len
    simp at hn5
    subst hn5
    have hb5 := hb4.trans (below_gr hg5 hq hb4.size)
    go_wp2_with fail
    obtain ⟨k1, k2, k3⟩ := Rd.keep_e (l := l) (e := 10) (by omega) 0
    have hy := fixed_any (k := 0) hR5 (by rw [HL.out]; omega)
    rw [k1, k2, k3] at hy
    clear k1 k2 k3
    refine hy.mono ?_
    rintro _ w6 ⟨A6, n6, c6, rfl, hY6, hR6, hg6, _⟩
    have hn6 := hY6.len
    simp at hn6
    subst hn6
    have hb6 := hb5.trans (below_gr hg6 hq hb5.size)
    go_wp2_with fail
    obtain ⟨k1, k2, k3⟩ := Rd.keep_e (l := l) (e := 10) (by omega) (-1)
    have hz := fixed_any (k := -1) hR6 (by rw [HL.out]; omega)
    rw [k1, k2, k3] at hz
    clear k1 k2 k3
    refine hz.mono ?_
    rintro _ w7 ⟨A7, n7, c7, rfl, hY7, hR7, hg7, _⟩
    have hb7 := hb6.trans (below_gr hg7 hq hb6.size)
    have hu := uint_any hR7
    have hbo := bool_any hR7
    have hend := end_rd hR7
    obtain ⟨k1, k2, _⟩ := Rd.keep_e (l := l) (e := 10) (by omega) 1
    have u1 : uiX l 10 = 0 := by unfold uiX; rfl
    have u2 : uiL l 10 = l := by unfold uiL; rfl
    have u3 : uiE l 10 = 10 := by unfold uiE; rfl
    rw [u1, u2, u3] at hu
    have v1 : endE l 10 = 10 := by unfold endE; rfl
    rw [v1] at hend
    clear hx hy hz hY5 hY6 hY7 u1 u2 u3 v1 k1 k2
    go_wp2_with (first
      | (go_at_call 21; refine (err_rd hR7).mono ?_; rintro _ _ ⟨rfl, rfl⟩)
      | (go_at_call 22; refine hend.mono ?_; rintro _ _ ⟨rfl, rfl⟩))
    refine hu.mono ?_
    rintro _ w8 ⟨rfl, hR8, hg8⟩
    have hb8 := hb7.trans (below_gr hg8 hq hb7.size)
    go_wp2_with fail
    have hbo := bool_any hR8
    obtain ⟨k1, k2, _⟩ := Rd.keep_e (l := l) (e := 10) (by omega) 1
    have w1' : boX l 10 = false := by unfold boX; rw [k1]; rfl
    have w2' : boE l 10 = 10 := by unfold boE; rw [k1]; rfl
    rw [w1', w2', k2] at hbo
    clear w1' w2' k1 k2
    refine hbo.mono ?_
    rintro _ w9 ⟨rfl, hR9, hg9⟩
    have hb9 := hb8.trans (below_gr hg9 hq hb8.size)
    go_wp2_with fail
    obtain ⟨k1, k2, _⟩ := Rd.keep_e (l := l) (e := 10) (by omega) 32
    have hid := id_any hR9
    rw [idC_bad (by rw [k1]; omega)] at hid
    clear k1 k2
    refine hid.mono ?_
    rintro _ w10 ⟨rfl, hR10, hg10⟩
    have hb10 := hb9.trans (below_gr hg10 hq hb9.size)
    go_wp2_with fail
    go_ret
    exact ⟨rfl, hb10⟩
  · go_enter Try.func6, Try.ntmps6
    go_wp2_with (go_at_call 9; refine (awake_true _).mono ?_; rintro _ w1 ⟨rfl, hb1⟩)
    go_ret
    exact ⟨rfl, hb1⟩
end Go.Proofs.Ytbdondgonghooaa
