/-
  The statement CodecOne: whatever its bytes, it returns true. Its walk.
-/
import Derived.Test.YtbdondgonghooaaCodecAwake
import Derived.Test.YtbdondgonghooaaRegion
import Derived.RegionTactic
namespace Go.Proofs.Ytbdondgonghooaa
open Go.RowKit Codec


theorem endE_zero {l : List UInt8} {e : Int} (h : endE l e = 0) : e = 0 ∧ l = [] := by
  unfold endE at h
  by_cases h1 : e = 0
  · subst h1
    by_cases h2 : l = []
    · exact ⟨rfl, h2⟩
    · rw [if_neg (by simp), if_neg h2] at h
      omega
  · rw [if_pos h1] at h
    exact absurd h h1
theorem one_fin {l : List UInt8} {x k er : Nat} (hr : rd 0 l = (x, k, er)) (he : endE (l.drop k) (er : Int) = 0) : er = 0 ∧ put x = l ∧ 1 ≤ l.length ∧ l.length ≤ 10 ∧ x < 18446744073709551616 := by
  obtain ⟨h0, hd⟩ := endE_zero he
  obtain rfl : er = 0 := by omega
  have hp := put_rd 0 l (by omega) (by rw [hr])
  have hb := rd_bound 0 l (by omega)
  have hle := rd_le 0 l
  have hkl := List.drop_eq_nil_iff.1 hd
  rw [hr] at hp hb hle
  simp only at hp hb hle
  refine ⟨rfl, ?_, by omega, by omega, by simpa using hb⟩
  rw [hp.1, List.take_of_length_le hkl]

set_option maxHeartbeats 2000000 in
set_option maxRecDepth 100000 in
theorem walk_one {w : World} {S : Nat → Prop} {A : Option Addr} {n c : Nat} {l : List UInt8} (h : Byt w S A n c l) :
    Calls Try.prog 5 #[.slice A n c] w fun e w' => e = .returned (.bool true) ∧ Below w.heap.size w w' := by
  by_cases hn : n ≤ 20
  · go_enter Try.func5, Try.ntmps5
    go_wp2_with fail
    refine (awake_true _).mono ?_
    rintro _ w1 ⟨rfl, hb1⟩
    go_wp2_with fail
    refine (newReader (h.below hb1) (by omega)).mono ?_
    rintro _ w2 ⟨q, rfl, hR2, hb2⟩
    have hb2 := hb1.trans (hb2.mono hb1.size)
    have hq : w.heap.size ≤ q := Nat.le_trans hb1.size hR2.1
    go_wp2_with fail
    have hu := uint_ok hR2
    generalize hrd : rd 0 l = r at *
    have HR := Lib.hid hrd
    clear hrd
    obtain ⟨x, k, er⟩ := r
    refine hu.mono ?_
    rintro _ w3 ⟨rfl, hR3, hg3⟩
    have hb3 := hb2.trans (below_gr hg3 hq hb2.size)
    have hend := end_rd hR3
    simp only at hend hR3
    by_cases he : endE (l.drop k) (er : Int) = 0
    · rw [he] at hend
      go_wp2_with (go_at_call 22; refine hend.mono ?_; rintro _ _ ⟨rfl, rfl⟩)
      refine (newWriter _).mono ?_
      rintro _ w4 ⟨p, rfl, hW4, hb4'⟩
      have hb4 := hb3.trans (hb4'.mono hb3.size)
      go_wp2_with fail
      have hfin := one_fin HR.out he
      have hnl := h.len
      rw [hnl] at hfin
      obtain ⟨rfl, hpx, hn1, hn10, hx⟩ := hfin
      have hwu := wuint (x := x) hW4 hx (by simp)
      rw [hpx, List.nil_append] at hwu
      clear hpx HR he hu
      refine hwu.mono ?_
      rintro _ w5 h5
      obtain ⟨rfl, _⟩ := h5.1
      obtain ⟨hW5, hb5'⟩ := (show Put w4 (w3.heap.size ≤ ·) p l (.returned (.tuple #[])) w5 from h5).from hb4'.size
      have hb5 := hb4.trans (hb5'.mono hb3.size)
      clear h5 hwu hend
      have HL := Lib.hid hnl
      clear hnl
      have hn1' : (1 : Int) ≤ (n : Int) := by omega
      have hn10' : (n : Int) ≤ 10 := by omega
      have hge : (n : Int) ≥ 1 := by omega
      have hbd : Below w.heap.size w w5.drew := hb5.drew
      have hcv : ∀ W, Below w.heap.size w W → (convert 22 9 (.slice A n c)).run Try.prog W = .ok (.string ⟨l.toArray⟩) W := fun W hW => byt_string (h.below hW)
      have hl : l.length ≤ 140737488355328 := by have := HL.out; omega
      have HW := Lib.hid hW5.drew
      have hsz := hb5.size
      clear hb1 hb2 hb3 hb4 hb5 hb5' hb4' hg3 hR2 hR3 hW4 hW5 hq h
      go_wp2_with fail
      have HWd := Lib.hid (HW.out)
      refine wp_region_plan (fun W => Below w.heap.size w W) [([0, 3, 4], 1)] [2, 5, 6, 7, 8, 9, 10, 11, 12, 13, 14, 15, 16] (by kernel_rfl) (by kernel_rfl) (fun _ _ d _ _ h => by cases d <;> exact h) hbd ?_
      refine plan_eff ?_
      refine seg_read ?v0 (by rfl) (by rfl) ?h0 ?_
      case h0 => intro W hW; go_simp; with_reducible rfl
      simp only [Act.put, List.setIfInBounds_toArray, List.set_cons_zero, List.set_cons_succ]
      refine seg_read ?v1 (by rfl) (by rfl) ?h1 ?_
      case h1 => intro W hW; go_simp; with_reducible rfl
      simp only [Act.put, List.setIfInBounds_toArray, List.set_cons_zero, List.set_cons_succ]
      refine seg_read ?v2 (by rfl) (by rfl) ?h2 ?_
      case h2 => intro W hW; have hcvW := hcv W hW; go_simp; with_reducible rfl
      simp only [Act.put, List.setIfInBounds_toArray, List.set_cons_zero, List.set_cons_succ]
      refine seg_nil ?_
      refine eff_step (by rfl) (fun K hK => ?_)
      go_simp
      refine (wout HW.out hl).mono ?_
      rintro _ w6 ⟨A6, c6, rfl, hY6, hb6, _⟩
      have hs6 := byt_string hY6
      have hb6' : Below w.heap.size w w6 := hbd.trans (hb6.mono hbd.size)
      clear hY6 hb6 hcv
      refine hK _ _ ⟨fun W => W = w6, rfl, fun W e => e ▸ hb6', ?_⟩
      clear hK K
      refine plan_last ?_
      repeat (refine seg_step (by rfl) (fun K hK => ?_); go_simp; refine hK _ ?_; clear hK K)
      refine seg_nil ?_
      go_wp2
      go_ret
      exact ⟨rfl, hb6'⟩
    · have he2 : (endE (l.drop k) (er : Int) != 0) = true := by simpa using he
      go_wp2_with (go_at_call 22; refine hend.mono ?_; rintro _ _ ⟨rfl, rfl⟩)
      go_ret
      exact ⟨rfl, hb3⟩
  · go_enter Try.func5, Try.ntmps5
    go_wp2_with (go_at_call 9; refine (awake_true _).mono ?_; rintro _ w1 ⟨rfl, hb1⟩)
    go_ret
    exact ⟨rfl, hb1⟩
end Go.Proofs.Ytbdondgonghooaa
