/-
  codec.Writer, its further methods.
-/
import Derived.Test.YtbdondgonghooaaCodecWrite
namespace Go.Proofs.Ytbdondgonghooaa
open Go.RowKit Codec

theorem or128_all : ∀ a, a < 256 → a ||| 128 = a % 128 + 128 := by decide +kernel
theorem byte_more (x : Nat) : bits .or .u8 (IntKind.u8.wrap (x : Int)) 128 = ((UInt8.ofNat (x % 128 + 128)).toNat : Int) := by
  have e : IntKind.u8.wrap (x : Int) = ((x % 256 : Nat) : Int) := by simp [IntKind.wrap, IntKind.signed, IntKind.bits]
  rw [e, show (128 : Int) = ((128 : Nat) : Int) from rfl, u8_or_nat _ _ (by omega) (by omega), or128_all _ (by omega)]
  have : (UInt8.ofNat (x % 128 + 128)).toNat = x % 128 + 128 := by simp; omega
  rw [this]
  omega
theorem byte_last (x : Nat) : IntKind.u8.wrap (x : Int) = ((UInt8.ofNat x).toNat : Int) := by
  have e : IntKind.u8.wrap (x : Int) = ((x % 256 : Nat) : Int) := by simp [IntKind.wrap, IntKind.signed, IntKind.bits]
  rw [e]
  simp

theorem one_of {v : Value} (h : v.oneCell' = true) : ∀ u ∈ [v], u.oneCell' = true := by
  intro u hu
  rw [List.mem_singleton.1 hu]
  exact h

set_option maxHeartbeats 1000000 in
set_option maxRecDepth 100000 in
theorem wuint {w : World} {S : Nat → Prop} {p : Nat} {l : List UInt8} {x : Nat} (h : Wr w S p l) (hx : x < 18446744073709551616) (hb : l.length + 10 ≤ 140737488355328) :
    Calls Try.prog 25 #[.pointer (some ⟨p, 0, none⟩), .int .u64 x] w (Put w S p (l ++ put x)) := by
  obtain ⟨i0, hi, hz0, hz1, hz2⟩ := info_parts u8_info
  go_enter Try.func25, Try.ntmps25
  go_wp2
  go_loopw [1] (fun s1 wr => ∃ (y : Nat) (d : List UInt8), y < 18446744073709551616 ∧ s1 = .int .u64 y ∧ Hid (l ++ put x = d ++ put y) ∧ Wr wr (fun b => S b ∨ w.heap.size ≤ b) p d ∧ Turned S w wr) (fun s1 _ => (intOf s1).toNat)
  case atStart => exact ⟨x, l, hx, rfl, rfl, h.mono fun _ _ hs => .inl hs, Turned.refl _ _⟩
  case round =>
    obtain ⟨y, d, hy, rfl, HD, hW, hT⟩ := hrel
    obtain ⟨hp, A0, c0, hh, ho, hs⟩ := hW
    have h0 := cell_of_cells hh 0
    simp only [List.getElem?_toArray, List.getElem?_cons_zero] at h0
    have f0 := free_of_cells hh 0
    have hdl : d.length + 1 ≤ l.length + 10 := by
      have e := congrArg List.length HD.out
      have := put_length_64 hx
      have := put_length_pos y
      simp at e
      omega
    have HH := Lib.hid hh
    have HO := Lib.hid ho
    clear hh ho
    have hq4 : d.length + 1 ≤ maxLen := by unfold maxLen; omega
    have hq5 : (d.length + 1) * 1 ≤ 140737488355328 := by omega
    by_cases hlt : y < 128
    · have hge : ¬ 128 ≤ y := by omega
      have hput := put_small hlt
      have HP := Lib.hid hput
      have hone : [Value.int .u8 (y : Int)] = u8s [UInt8.ofNat y] := by simp [u8s, Nat.mod_eq_of_lt (show y < 256 by omega)]
      have HV := Lib.hid hone
      clear hput hone
      go_wp2_with (at_builtin; refine wpList_append_own_at _ rfl _ _ 22 rfl 0 5 i0 (.int .u8 0) 1 1 Try.underlying22 hi hz0 hz1 hz2 rfl (by decide) _ d.length (u8s d) rfl (HO.out.alloc _) ⟨wr.heap.size, 0, none⟩ 1 1 [.int .u8 (y : Int)] rfl rfl (cell_one_new _ _ _) (one_of rfl) hq4 hq5 (Nat.zero_le _) ?_)
      intro v' w1 hown hgrow hnn hat
      rw [HV.out] at hown
      obtain ⟨A', c', rfl, _⟩ := own_byt (l := d ++ [UInt8.ofNat y]) (by rw [u8s_append]; exact hown)
      obtain ⟨g1, g2, g3⟩ := Wr.app (S := fun b => S b ∨ w.heap.size ≤ b) hp HH.out HO.out hs ((Below.refl _ _).alloc (Nat.le_refl _) _) hown rfl hgrow (hat.imp_right fun e => e.trans (by simp))
      have fin : Put w S p (l ++ put x) (.returned (.tuple #[])) (w1.setCell ⟨p, 0, none⟩ (.slice A' (d.length + 1) c')) := by
        rw [HD.out, HP.out]
        refine ⟨rfl, g3.out.1.mono fun b _ hs => ?_, hT.trans g3.out.2 fun i hi hs => ?_⟩
        · rcases hs with hs | hs
          · exact hs
          · exact .inr (Nat.le_trans hT.size hs)
        · rcases hs with hs | hs
          · exact hs
          · omega
      have HF := Lib.hid fin
      clear hown hgrow hnn hat h0 f0 fin
      go_wp2
      go_end0
      exact HF.out
    · have hone : [Value.int .u8 (bits .or .u8 (IntKind.u8.wrap (y : Int)) 128)] = u8s [UInt8.ofNat (y % 128 + 128)] := by rw [byte_more]; rfl
      have HV := Lib.hid hone
      have hput := put_big (x := y) (by omega)
      have HP := Lib.hid hput
      clear hput hone
      go_wp2_with (at_builtin; refine wpList_append_own_at _ rfl _ _ 22 rfl 0 5 i0 (.int .u8 0) 1 1 Try.underlying22 hi hz0 hz1 hz2 rfl (by decide) _ d.length (u8s d) rfl (HO.out.alloc _) ⟨wr.heap.size, 0, none⟩ 1 1 [.int .u8 (bits .or .u8 (IntKind.u8.wrap (y : Int)) 128)] rfl rfl (cell_one_new _ _ _) (one_of rfl) hq4 hq5 (Nat.zero_le _) ?_)
      intro v' w1 hown hgrow hnn hat
      rw [HV.out] at hown
      obtain ⟨A', c', rfl, _⟩ := own_byt (l := d ++ [UInt8.ofNat (y % 128 + 128)]) (by rw [u8s_append]; exact hown)
      obtain ⟨g1, g2, g3⟩ := Wr.app (S := fun b => S b ∨ w.heap.size ≤ b) hp HH.out HO.out hs ((Below.refl _ _).alloc (Nat.le_refl _) _) hown rfl hgrow (hat.imp_right fun e => e.trans (by simp))
      clear hown hgrow hnn hat h0 f0
      go_wp2
      go_roundw
      case rel =>
        refine ⟨y / 128, d ++ [UInt8.ofNat (y % 128 + 128)], by omega, ?_, ?_, g3.out.1.mono fun b _ hs => ?_, hT.trans g3.out.2 fun i hi hs => ?_⟩
        · go_num
        · show l ++ put x = _
          rw [HD.out, HP.out]; simp
        · rcases hs with hs | hs
          · exact hs
          · exact .inr (Nat.le_trans hT.size hs)
        · rcases hs with hs | hs
          · exact hs
          · omega
      case measure => simp [intOf]; omega
end Go.Proofs.Ytbdondgonghooaa
