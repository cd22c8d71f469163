/-
  The document's example at the head of each statement of layer 1: it answers true, and writes nothing that was there.
-/
import Derived.Test.YtbdondgonghooaaCodecWrite3
import Derived.BigQuiet
import Derived.Lib.SlBytesConst
namespace Go.Proofs.Ytbdondgonghooaa
open Go.RowKit Codec

theorem Wr.drew {w : World} {S : Nat → Prop} {p : Nat} {l : List UInt8} (h : Wr w S p l) : Wr w.drew S p l := h.turned (T := fun _ => False) ((Turned.refl _ w).drew) (fun _ _ _ hf => hf)
theorem Rd.drew {w : World} {S : Nat → Prop} {p : Nat} {l : List UInt8} {e : Int} (h : Rd w S p l e) : Rd w.drew S p l e := h.turned (T := fun _ => False) ((Turned.refl _ w).drew) (fun _ _ _ hf => hf)
theorem Wr.drewN {w : World} {S : Nat → Prop} {p : Nat} {l : List UInt8} (h : Wr w S p l) (k : Nat) : Wr (w.drewN k) S p l := h.turned (T := fun _ => False) ((Turned.refl _ w).drewN k) (fun _ _ _ hf => hf)
theorem Rd.drewN {w : World} {S : Nat → Prop} {p : Nat} {l : List UInt8} {e : Int} (h : Rd w S p l e) (k : Nat) : Rd (w.drewN k) S p l e := h.turned (T := fun _ => False) ((Turned.refl _ w).drewN k) (fun _ _ _ hf => hf)
theorem below_drewN {B : Nat} {a w : World} (h : Below B a w) (k : Nat) : Below B a (w.drewN k) := ⟨h.os, h.tape, h.output, h.size, h.block⟩
theorem str_of (l : List UInt8) : strOfNums (l.map fun c => (c.toNat : Int)) = ⟨l.toArray⟩ := by
  unfold strOfNums
  congr 2
  rw [List.map_map]
  conv => rhs; rw [← List.map_id l]
  apply List.map_congr_left
  intro c _
  simp

/-- string(b) -/
theorem byt_string {w : World} {S : Nat → Prop} {A : Option Addr} {n c : Nat} {l : List UInt8} (h : Byt w S A n c l) : (convert 22 9 (.slice A n c)).run Try.prog w = .ok (.string ⟨l.toArray⟩) w := by
  have hl := h.len
  by_cases h0 : 0 < n
  · obtain ⟨b, off, rfl, _, _, hc⟩ := h.row h0
    have := run_convert_bytes_arg (P := Try.prog) w 22 5 Try.underlying22 Try.underlying5 b off n c (l.map fun c => (c.toNat : Int)) (by simp [hl]) (fun i hi => by
      rw [hc i hi]
      simp [List.getD, List.getElem?_map, List.getElem?_eq_getElem (show i < l.length by omega)]) 9 Try.underlying9
    rw [this, str_of]
  · have : n = 0 := by omega
    subst this
    have : l = [] := List.eq_nil_of_length_eq_zero hl
    subst this
    rcases A with _ | ad
    · rw [run_convert_bytes_nil w 22 5 Try.underlying22 Try.underlying5 0 c 9 Try.underlying9]
      rfl
    · rw [run_convert_bytes_string w 22 9 5 (some ad) 0 c Try.underlying22 Try.underlying5 Try.underlying9, run_bytesToString w ad 0 c [] (by simp [loadCells, loadCellsFrom])]
      rfl

theorem put300 : put 300 = [172, 2] := by rw [put_big (by omega), put_small (by omega)]; rfl
theorem put2 : put 2 = [2] := by rw [put_small (by omega)]; rfl

set_option maxHeartbeats 2000000 in
set_option maxRecDepth 100000 in
theorem awake_true (w : World) : Calls Try.prog 9 #[] w fun e w' => e = .returned (.bool true) ∧ Below w.heap.size w w' := by
  have kc := fun (w : World) (C : Array Value) (n c : Nat) => Lib.run_convert_bytes_const (P := Try.prog) w 22 5 C n c Try.underlying22 Try.underlying5
  go_enter Try.func9, Try.ntmps9
  go_wp2_with fail
  refine (newWriter _).mono ?_
  rintro _ w1 ⟨p, rfl, hW1, hb1⟩
  go_wp2_with fail
  refine (wuint (x := 300) hW1 (by omega) (by simp)).mono ?_
  rintro _ w2 h2
  obtain ⟨rfl, _⟩ := h2.1
  obtain ⟨hW2, hb2⟩ := h2.from hb1.size
  have hb2 := hb1.trans hb2
  go_wp2_with fail
  refine (wbool hW2 true (by rw [put300]; decide)).mono ?_
  rintro _ w3 h3
  obtain ⟨rfl, _⟩ := h3.1
  obtain ⟨hW3, hb3⟩ := h3.from hb2.size
  have hb3 := hb2.trans hb3
  go_wp2_with fail
  have hxy : Byt (w3.alloc (.cells #[.int .u8 120, .int .u8 121] 5 (2, 3))) (w3.heap.size ≤ ·) (some ⟨w3.heap.size, 0, none⟩) 2 2 [120, 121] :=
    ⟨rfl, Nat.le_refl _, by unfold maxLen; omega, fun _ => ⟨w3.heap.size, 0, rfl, Nat.le_refl _, by simp, fun i hi => by
      rw [cell_of_cells (heap_alloc_new w3 _)]
      match i, hi with
      | 0, _ => rfl
      | 1, _ => rfl⟩⟩
  have hW3' := (hW3.mono (T := fun b => w.heap.size ≤ b ∧ b < w3.heap.size) fun b hb hs => ⟨hs, hb⟩).turned (T := fun _ => False) ((Turned.refl _ w3).alloc (.cells #[.int .u8 120, .int .u8 121] 5 (2, 3))) (fun _ _ _ hf => hf)
  refine (wbytes hW3' hxy (fun b hb hs hs2 => by have := hs2.2; have := hs; omega) (by rw [put300]; decide)).mono ?_
  rintro _ w4 h4
  obtain ⟨rfl, _⟩ := h4.1
  have hW4 := h4.2.1
  have hb4 : Below w.heap.size w w4 := (hb3.alloc hb3.size _).trans ((h4.2.2.mono (T := (w.heap.size ≤ ·)) fun _ _ hs => hs.1).below (by have := hb3.size; simp; omega))
  have hW4' : Wr w4 (fun b => w.heap.size ≤ b) p [172, 2, 1, 2, 120, 121] := by
    have := hW4.mono (T := fun b => w.heap.size ≤ b) fun b _ hs => by
      have := hb3.size
      rcases hs with hs | hs
      · exact hs.1
      · simp at hs; omega
    rw [show put ([120, 121] : List UInt8).length = [2] from put2, put300] at this
    exact this
  go_wp2_with fail
  refine (wout hW4' (by decide)).mono ?_
  rintro _ w5 ⟨A, c, rfl, hY, hb5, _⟩
  have hb5 := hb4.trans (hb5.mono hb4.size)
  go_wp2_with fail
  refine (newReader hY (by decide)).mono ?_
  rintro _ w6 ⟨q, rfl, hR, hb6⟩
  have hq := hR.1
  have hb6' := hb5.trans (hb6.mono hb5.size)
  go_wp2_with fail
  have hu := uint_ok hR
  have e1 : rd 0 [172, 2, 1, 2, 120, 121] = (300, 2, 0) := by decide
  rw [e1] at hu
  refine hu.mono ?_
  rintro _ w7 ⟨rfl, hR7, hg7⟩
  have hb7 := hb6'.trans (below_gr hg7 (Nat.le_trans hb5.size hR.1) hb6'.size)
  go_wp2_with fail
  have hv := bool_any hR7
  simp only [List.drop, boX, boE, fxL, tkE] at hv
  simp at hv
  refine hv.mono ?_
  rintro _ w8 ⟨rfl, hR8, hg8⟩
  have hb8 := hb7.trans (below_gr hg8 (Nat.le_trans hb5.size hR.1) hb7.size)
  go_wp2_with fail
  have hby := bytes_any (most := 5) hR8 (by decide) (by omega)
  have eB : byB [2, 120, 121] 0 5 = [120, 121] := by decide
  have eL : byL [2, 120, 121] 0 5 = [] := by decide
  have eE : byE [2, 120, 121] 0 5 = 0 := by decide
  rw [eB, eL, eE] at hby
  refine hby.mono ?_
  rintro _ w9 ⟨A9, n9, c9, rfl, hY9, hR9, hg9, _⟩
  have hb9 := hb8.trans (below_gr hg9 (Nat.le_trans hb5.size hR.1) hb8.size)
  have h56 : Below w5.heap.size w5 w9 := ((hb6.trans (below_gr hg7 hq hb6.size)).trans (below_gr hg8 hq (Nat.le_trans hb6.size hg7.size))).trans (below_gr hg9 hq (Nat.le_trans (Nat.le_trans hb6.size hg7.size) hg8.size))
  have hYf := hY.below h56
  obtain ⟨b, off, rfl, _, _, hc⟩ := hYf.row (by simp)
  have c0 := hc 0 (by simp)
  have c1 := hc 1 (by simp)
  have hs := byt_string hY9
  have hn9 := hY9.len
  simp at c0 c1 hn9
  subst hn9
  clear hc hYf hY h56 hby eB eL eE hv hu e1 hW4' hW4 hW3' hxy hW3 hW2 hW1 h2 h3 h4
  have hend := end_rd hR9
  simp [endE] at hend
  go_wp2_with (first | (go_at_call 22; refine hend.mono ?_; rintro _ _ ⟨rfl, rfl⟩))
  have hone : Byt (w9.alloc (.cells #[.int .u8 1] 5)) (w9.heap.size ≤ ·) (some ⟨w9.heap.size, 0, none⟩) 1 1 [1] :=
    ⟨rfl, Nat.le_refl _, by unfold maxLen; omega, fun _ => ⟨w9.heap.size, 0, rfl, Nat.le_refl _, by simp, fun i hi => by
      obtain rfl : i = 0 := by omega
      rw [cell_of_cells (heap_alloc_new w9 _)]; rfl⟩⟩
  refine (newReader hone (by decide)).mono ?_
  rintro _ w10 ⟨q2, rfl, hR10, hb10⟩
  have hend2 := end_rd hR10
  simp [endE] at hend2
  go_wp2_with (go_at_call 22; refine hend2.mono ?_; rintro _ _ ⟨rfl, rfl⟩)
  go_ret
  exact ⟨rfl, (hb9.alloc hb9.size _).trans (hb10.mono (by have := hb9.size; simp; omega))⟩
end Go.Proofs.Ytbdondgonghooaa
