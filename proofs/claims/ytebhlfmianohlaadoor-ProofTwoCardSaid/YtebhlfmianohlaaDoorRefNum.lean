/-
  The reference's number as eight bytes; strings put together.
-/
import Derived.Test.YtebhlfmianohlaaDoorLe8
import Derived.Test.YtebhlfmianohlaaDoorRefOf
namespace Go.Proofs.YtebhlfmianohlaaDoor
open Go.RowKit

theorem le8_digit (N j : Nat) : ((N / 2 ^ (8 * j) : Nat) : Int) % 256 = (((UInt8.ofNat (N / 2 ^ (8 * j))).toNat : Nat) : Int) := byte_mod N (8 * j)
def RNu (w1 : World) (N : Nat) (x v i : Value) (wr : World) : Prop := ∃ j : Nat, j ≤ 8 ∧ i = .int .i64 j ∧ x = .int .u64 ((N / 2 ^ (8 * j) : Nat) : Int) ∧ wr.ownsRow w1.heap.size 5 1 v j (u8s (le8 N j)) ∧ Below w1.heap.size w1 wr
set_option maxHeartbeats 8000000 in
set_option maxRecDepth 100000 in
theorem rnumber_any (N : Nat) (hN : N < 18446744073709551616) (w : World) :
    Calls Tryd.prog 47 #[.int .u64 (N : Int)] w fun e w' => e = .returned (.string (st (le8 N 8))) ∧ Below w.heap.size w w' := by
  obtain ⟨i0, hi, hz0, hz1, hz2⟩ := info_parts u8_info
  have HI := Lib.hid (And.intro hi (And.intro hz0 (And.intro hz1 hz2)))
  clear hi hz0 hz1 hz2
  go_enter Tryd.func47, Tryd.ntmps47
  go_wp2_with fail
  go_loopw [0, 3, 4] (fun x v i wr => RNu w N x v i wr) (fun _ _ i _ => 8 - (intOf i).toNat)
  case atStart => unfold RNu; exact ⟨0, Nat.zero_le _, rfl, by simp, World.ownsRow_nil _ _ _ _, Below.refl _ _⟩
  case round =>
    obtain ⟨j, hj, rfl, rfl, hown, hbr⟩ := hrel
    have HO := Lib.hid hown
    have HBR := Lib.hid hbr
    have hszr := hbr.size
    by_cases hlt : j < 8
    · have hE := Lib.hid (le8_succ N j)
      have hmb := le8_digit N j
      have hYle : N / 2 ^ (8 * j) ≤ N := Nat.div_le_self _ _
      have hds := Lib.hid (div_step N j)
      generalize N / 2 ^ (8 * j) = Y at *
      generalize UInt8.ofNat Y = b at *
      have hb256 : b.toNat < 256 := b.toNat_lt
      clear hown hbr
      go_wp2_with (at_builtin; refine wpList_append_own_at _ rfl _ _ 22 rfl w.heap.size 5 i0 (.int .u8 0) 1 1 Tryd.underlying22 HI.out.1 HI.out.2.1 HI.out.2.2.1 HI.out.2.2.2 rfl (by decide) _ j (u8s (le8 N j)) rfl (HO.out.alloc _) ⟨wr.heap.size, 0, none⟩ 1 1 _ rfl rfl (cell_one_new _ _ _) (one_of rfl) (by unfold maxLen; omega) (by omega) (by simp; omega) ?_)
      intro v' w2 hown2 hgrow _ _
      have hlt' := HO.out.lt
      have HB2 : Hid (Below w.heap.size w w2) := Lib.hid ((HBR.out.alloc hszr _).grown hgrow (by simp; omega) (fun b hb => (hlt' b hb).1))
      have HO2 : Hid (w2.ownsRow w.heap.size 5 1 v' (j + 1) (u8s (le8 N (j + 1)))) := Lib.hid (by rw [hE.out, u8s_append]; exact hown2)
      clear hown2 hgrow hlt'
      go_wp2_with fail
      go_roundw
      case rel => unfold RNu; exact ⟨j + 1, by omega, by go_num, by rw [← hds.out]; simp, HO2.out, HB2.out⟩
      case measure => simp [intOf]; omega
    · obtain rfl : j = 8 := by omega
      obtain ⟨A, c, rfl, hY⟩ := own_byt (l := le8 N 8) hown
      have hs : (convert 22 9 (.slice A 8 c)).run Tryd.prog wr = .ok (.string (st (le8 N 8))) wr := byt_string hY
      clear hown hY hlt hj hbr
      go_wp2_with fail
      go_ret
      exact ⟨rfl, HBR.out⟩
def St2 (a b c : List UInt8) : Prop := st a ++ st b = st c ∧ (st a).size = a.length ∧ (st b).size = b.length ∧ ¬ (9223372036854775807 : Int) < (a.length : Int) + (b.length : Int)
theorem st2 {a b : List UInt8} (h : a.length + b.length < 9223372036854775807) : St2 a b (a ++ b) := ⟨st_app a b, st_size a, st_size b, by omega⟩
theorem row8_rfl (l : List UInt8) : (u8s l).toArray = row8 l := rfl
end Go.Proofs.YtebhlfmianohlaaDoor
