/-
  The reference: a key's 64 bytes, a number's eight.
-/
import Derived.Test.YtckgibeiikhaaaaDoorMacDeriveFn
namespace Go.Proofs.YtckgibeiikhaaaaDoor
open Go.RowKit

theorem ovrA_get (b : List UInt8) (x : UInt8) : ∀ i j, (ovrA b x i)[j]? = if j < i then (b[j]?).map (· ^^^ x) else b[j]?
  | 0, j => by simp [ovrA]
  | i + 1, j => by
    rw [ovrA]
    by_cases h : i = j
    · subst h
      by_cases hb : i < b.length
      · rw [List.getElem?_set_self (by rw [ovrA_length]; exact hb), if_pos (by omega)]
        simp [List.getElem?_eq_getElem hb]
      · have h1 : b[i]? = none := List.getElem?_eq_none (by omega)
        rw [List.getElem?_eq_none (by rw [List.length_set, ovrA_length]; omega), h1]
        simp
    · rw [List.getElem?_set_ne h, ovrA_get b x i j]
      by_cases h2 : j < i
      · rw [if_pos h2, if_pos (by omega)]
      · rw [if_neg h2, if_neg (by omega)]
def ovB (k : List UInt8) (x : UInt8) (i : Nat) : List UInt8 := ((keyB k).take i).map (· ^^^ x)
theorem ovB_succ {k : List UInt8} (hk : k.length = 32) (x : UInt8) (i : Nat) (hi : i < 64) : ovB k x (i + 1) = ovB k x i ++ [((keyB k)[i]?.getD 0) ^^^ x] := by
  have hl := keyB_length hk
  unfold ovB
  rw [List.take_succ_eq_append_getElem (by omega), List.map_append]
  simp [List.getElem?_eq_getElem (show i < (keyB k).length by omega)]
theorem ovB_all {k : List UInt8} (hk : k.length = 32) (x : UInt8) : ovB k x 64 = ovr k x := by
  have hl := keyB_length hk
  unfold ovB ovr
  apply List.ext_getElem?
  intro j
  rw [ovrA_get, List.take_of_length_le (by omega), List.getElem?_map]
  by_cases h : j < 64
  · rw [if_pos h]
  · rw [if_neg h, List.getElem?_eq_none (by omega)]; rfl
theorem ovB_length {k : List UInt8} (hk : k.length = 32) (x : UInt8) (i : Nat) (hi : i ≤ 64) : (ovB k x i).length = i := by
  have hl := keyB_length hk
  simp [ovB]; omega
theorem keyB_at {k : List UInt8} (hk : k.length = 32) (i : Nat) : (keyB k)[i]?.getD 0 = if i < 32 then k[i]?.getD 0 else 0 := by
  unfold keyB
  by_cases h : i < 32
  · rw [if_pos h, List.getElem?_append_left (by omega)]
  · rw [if_neg h, List.getElem?_append_right (by omega), List.getElem?_replicate]
    split <;> rfl

def ROv (w1 : World) (k : List UInt8) (x : UInt8) (v i : Value) (wr : World) : Prop := ∃ j : Nat, j ≤ 64 ∧ i = .int .i64 j ∧ wr.ownsRow w1.heap.size 5 1 v j (u8s (ovB k x j)) ∧ Below w1.heap.size w1 wr

set_option maxHeartbeats 8000000 in
set_option maxRecDepth 100000 in
theorem rover_any (k : List UInt8) (hk : k.length = 32) (x : UInt8) (w : World) :
    Calls Tryd.prog 16 #[.agg (row8 k), .int .u8 (x.toNat : Int)] w fun e w' => e = .returned (.string (st (ovr k x))) ∧ Below w.heap.size w w' := by
  obtain ⟨KS, hKS⟩ : ∃ KS, KS = row8 k := ⟨_, rfl⟩
  rw [← hKS]
  obtain ⟨i0, hi, hz0, hz1, hz2⟩ := info_parts u8_info
  have HI := Lib.hid (And.intro hi (And.intro hz0 (And.intro hz1 hz2)))
  have HK := Lib.hid (And.intro hKS hk)
  have HK0 : Hid ((w.alloc (.cells KS 23)).heap[w.heap.size]? = some (.cells KS 23 (0, 0))) := Lib.hid (heap_alloc_new w _)
  have HB0 : Hid (Below w.heap.size w (w.alloc (.cells KS 23))) := Lib.hid ((Below.refl _ _).alloc (Nat.le_refl _) _)
  clear hKS hi hz0 hz1 hz2
  go_enter Tryd.func16, Tryd.ntmps16
  go_wp2_with fail
  generalize hw1 : w.alloc (.cells KS 23) = w1 at *
  clear hw1
  go_loopw [5, 6, 7] (fun v i _ wr => ROv w1 k x v i wr) (fun _ i _ _ => 64 - (intOf i).toNat)
  case atStart => unfold ROv; exact ⟨0, Nat.zero_le _, rfl, World.ownsRow_nil _ _ _ _, Below.refl _ _⟩
  case round =>
    obtain ⟨j, hj, rfl, hown, hbr⟩ := hrel
    have HO := Lib.hid hown
    have HBR := Lib.hid hbr
    have hszr := hbr.size
    by_cases hlt : j < 64
    · have hE := Lib.hid (ovB_succ hk x j hlt)
      have hat := keyB_at hk j
      obtain ⟨y, hy⟩ : ∃ y, y = (keyB k)[j]?.getD 0 := ⟨_, rfl⟩
      rw [← hy] at hE hat
      obtain ⟨v, hv⟩ : ∃ v, v = y ^^^ x := ⟨_, rfl⟩
      rw [← hv] at hE
      have hx := xor8 y x
      rw [← hv] at hx
      have HV := Lib.hid hv
      clear hy hv hown hbr
      by_cases h32 : j < 32
      · rw [if_pos h32] at hat
        have hcell : wr.cell? ⟨w.heap.size, j, none⟩ = some (.int .u8 (y.toNat : Int)) := by
          have h1 := (HBR.out.block _ (lt_of_cells HK0.out)).trans HK0.out
          rw [HK.out.1] at h1
          rw [hat]
          exact u8s_cell h1 j (by rw [HK.out.2]; exact h32)
        clear hat
        go_wp2_with (at_builtin; refine wpList_append_own_at _ rfl _ _ 26 rfl w1.heap.size 5 i0 (.int .u8 0) 1 1 Tryd.underlying26 HI.out.1 HI.out.2.1 HI.out.2.2.1 HI.out.2.2.2 rfl (by decide) _ j (u8s (ovB k x j)) rfl (HO.out.alloc _) ⟨wr.heap.size, 0, none⟩ 1 1 _ rfl rfl (cell_one_new _ _ _) (one_of rfl) (by unfold maxLen; omega) (by omega) (by simp; omega) ?_)
        intro v' w2 hown2 hgrow _ _
        have hlt' := HO.out.lt
        have HB2 : Hid (Below w1.heap.size w1 w2) := Lib.hid ((HBR.out.alloc hszr _).grown hgrow (by simp; omega) (fun b hb => (hlt' b hb).1))
        have HO2 : Hid (w2.ownsRow w1.heap.size 5 1 v' (j + 1) (u8s (ovB k x (j + 1)))) := Lib.hid (by rw [hE.out, u8s_append]; exact hown2)
        clear hown2 hgrow hlt'
        go_wp2_with fail
        go_roundw
        case rel => unfold ROv; exact ⟨j + 1, by omega, by go_num, HO2.out, HB2.out⟩
        case measure => simp [intOf]; omega
      · rw [if_neg h32] at hat
        have hx0 : bits .xor .u8 0 (x.toNat : Int) = (v.toNat : Int) := by rw [hat] at hx; simpa using hx
        clear hat hx
        go_wp2_with (at_builtin; refine wpList_append_own_at _ rfl _ _ 26 rfl w1.heap.size 5 i0 (.int .u8 0) 1 1 Tryd.underlying26 HI.out.1 HI.out.2.1 HI.out.2.2.1 HI.out.2.2.2 rfl (by decide) _ j (u8s (ovB k x j)) rfl (HO.out.alloc _) ⟨wr.heap.size, 0, none⟩ 1 1 _ rfl rfl (cell_one_new _ _ _) (one_of rfl) (by unfold maxLen; omega) (by omega) (by simp; omega) ?_)
        intro v' w2 hown2 hgrow _ _
        have hlt' := HO.out.lt
        have HB2 : Hid (Below w1.heap.size w1 w2) := Lib.hid ((HBR.out.alloc hszr _).grown hgrow (by simp; omega) (fun b hb => (hlt' b hb).1))
        have HO2 : Hid (w2.ownsRow w1.heap.size 5 1 v' (j + 1) (u8s (ovB k x (j + 1)))) := Lib.hid (by rw [hE.out, u8s_append]; exact hown2)
        clear hown2 hgrow hlt'
        go_wp2_with fail
        go_roundw
        case rel => unfold ROv; exact ⟨j + 1, by omega, by go_num, HO2.out, HB2.out⟩
        case measure => simp [intOf]; omega
    · obtain rfl : j = 64 := by omega
      obtain ⟨A, c, rfl, hY⟩ := own_byt (l := ovB k x 64) hown
      have hs : (convert 26 9 (.slice A 64 c)).run Tryd.prog wr = .ok (.string (st (ovr k x))) wr := by
        have h1 := byt_string hY
        rw [ovB_all hk x] at h1
        exact h1
      have HF : Hid (Below w.heap.size w wr) := Lib.hid (HB0.out.trans (HBR.out.mono HB0.out.size))
      clear hown hbr hY hlt hj
      go_wp2_with fail
      go_ret
      exact ⟨rfl, HF.out⟩

theorem le8_digit (N j : Nat) : ((N / 2 ^ (8 * j) : Nat) : Int) % 256 = (((UInt8.ofNat (N / 2 ^ (8 * j))).toNat : Nat) : Int) := byte_mod N (8 * j)
def RNu (w1 : World) (N : Nat) (x v i : Value) (wr : World) : Prop := ∃ j : Nat, j ≤ 8 ∧ i = .int .i64 j ∧ x = .int .u64 ((N / 2 ^ (8 * j) : Nat) : Int) ∧ wr.ownsRow w1.heap.size 5 1 v j (u8s (le8 N j)) ∧ Below w1.heap.size w1 wr

set_option maxHeartbeats 8000000 in
set_option maxRecDepth 100000 in
theorem rnumber_any (N : Nat) (hN : N < 18446744073709551616) (w : World) :
    Calls Tryd.prog 18 #[.int .u64 (N : Int)] w fun e w' => e = .returned (.string (st (le8 N 8))) ∧ Below w.heap.size w w' := by
  obtain ⟨i0, hi, hz0, hz1, hz2⟩ := info_parts u8_info
  have HI := Lib.hid (And.intro hi (And.intro hz0 (And.intro hz1 hz2)))
  clear hi hz0 hz1 hz2
  go_enter Tryd.func18, Tryd.ntmps18
  go_wp2_with fail
  go_loopw [0, 3, 4] (fun x v i wr => RNu w N x v i wr) (fun _ _ i _ => 8 - (intOf i).toNat)
  case atStart => unfold RNu; exact ⟨0, Nat.zero_le _, rfl, by simp, World.ownsRow_nil _ _ _ _, Below.refl _ _⟩
  case round =>
    obtain ⟨j, hj, rfl, rfl, hown, hbr⟩ := hrel
    have HO := Lib.hid hown
    have HBR := Lib.hid hbr
    have hszr := hbr.size
    by_cases hlt : j < 8
    · have hE := Lib.hid (le8_succ N j)
      have hmb := le8_digit N j
      have hYle : N / 2 ^ (8 * j) ≤ N := Nat.div_le_self _ _
      have hds := Lib.hid (div_step N j)
      generalize N / 2 ^ (8 * j) = Y at *
      generalize UInt8.ofNat Y = b at *
      have hb256 : b.toNat < 256 := b.toNat_lt
      clear hown hbr
      go_wp2_with (at_builtin; refine wpList_append_own_at _ rfl _ _ 26 rfl w.heap.size 5 i0 (.int .u8 0) 1 1 Tryd.underlying26 HI.out.1 HI.out.2.1 HI.out.2.2.1 HI.out.2.2.2 rfl (by decide) _ j (u8s (le8 N j)) rfl (HO.out.alloc _) ⟨wr.heap.size, 0, none⟩ 1 1 _ rfl rfl (cell_one_new _ _ _) (one_of rfl) (by unfold maxLen; omega) (by omega) (by simp; omega) ?_)
      intro v' w2 hown2 hgrow _ _
      have hlt' := HO.out.lt
      have HB2 : Hid (Below w.heap.size w w2) := Lib.hid ((HBR.out.alloc hszr _).grown hgrow (by simp; omega) (fun b hb => (hlt' b hb).1))
      have HO2 : Hid (w2.ownsRow w.heap.size 5 1 v' (j + 1) (u8s (le8 N (j + 1)))) := Lib.hid (by rw [hE.out, u8s_append]; exact hown2)
      clear hown2 hgrow hlt'
      go_wp2_with fail
      go_roundw
      case rel => unfold RNu; exact ⟨j + 1, by omega, by go_num, by rw [← hds.out]; simp, HO2.out, HB2.out⟩
      case measure => simp [intOf]; omega
    · obtain rfl : j = 8 := by omega
      obtain ⟨A, c, rfl, hY⟩ := own_byt (l := le8 N 8) hown
      have hs : (convert 26 9 (.slice A 8 c)).run Tryd.prog wr = .ok (.string (st (le8 N 8))) wr := byt_string hY
      clear hown hY hlt hj hbr
      go_wp2_with fail
      go_ret
      exact ⟨rfl, HBR.out⟩
end Go.Proofs.YtckgibeiikhaaaaDoor
