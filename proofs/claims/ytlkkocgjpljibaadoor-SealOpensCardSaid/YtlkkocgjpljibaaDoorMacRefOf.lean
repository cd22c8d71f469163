/-
  The reference: a key's 64 bytes, a number's eight.
  The reference: Of and Derive.
-/
import Derived.Test.YtlkkocgjpljibaaDoorMacOf
/-! The reference: a key's 64 bytes, a number's eight. -/
namespace Go.Proofs.YtlkkocgjpljibaaDoor
open Go.RowKit

theorem ovrA_get (b : List UInt8) (x : UInt8) : ∀ i j, (ovrA b x i)[j]? = if j < i then (b[j]?).map (· ^^^ x) else b[j]?
  | 0, j => by simp [ovrA]
  | i + 1, j => by
    rw [ovrA]
    by_cases h : i = j
    · subst h
      by_cases hb : i < b.length
      · rw [List.getElem?_set_self (by rw [ovrA_length]; exact hb), if_pos (by omega)]
        simp [List.getElem?_eq_getElem hb]
      · have h1 : b[i]? = none := List.getElem?_eq_none (by omega)
        rw [List.getElem?_eq_none (by rw [List.length_set, ovrA_length]; omega), h1]
        simp
    · rw [List.getElem?_set_ne h, ovrA_get b x i j]
      by_cases h2 : j < i
      · rw [if_pos h2, if_pos (by omega)]
      · rw [if_neg h2, if_neg (by omega)]
def ovB (k : List UInt8) (x : UInt8) (i : Nat) : List UInt8 := ((keyB k).take i).map (· ^^^ x)
theorem ovB_succ {k : List UInt8} (hk : k.length = 32) (x : UInt8) (i : Nat) (hi : i < 64) : ovB k x (i + 1) = ovB k x i ++ [((keyB k)[i]?.getD 0) ^^^ x] := by
  have hl := keyB_length hk
  unfold ovB
  rw [List.take_succ_eq_append_getElem (by omega), List.map_append]
  simp [List.getElem?_eq_getElem (show i < (keyB k).length by omega)]
theorem ovB_all {k : List UInt8} (hk : k.length = 32) (x : UInt8) : ovB k x 64 = ovr k x := by
  have hl := keyB_length hk
  unfold ovB ovr
  apply List.ext_getElem?
  intro j
  rw [ovrA_get, List.take_of_length_le (by omega), List.getElem?_map]
  by_cases h : j < 64
  · rw [if_pos h]
  · rw [if_neg h, List.getElem?_eq_none (by omega)]; rfl
theorem ovB_length {k : List UInt8} (hk : k.length = 32) (x : UInt8) (i : Nat) (hi : i ≤ 64) : (ovB k x i).length = i := by
  have hl := keyB_length hk
  simp [ovB]; omega
theorem keyB_at {k : List UInt8} (hk : k.length = 32) (i : Nat) : (keyB k)[i]?.getD 0 = if i < 32 then k[i]?.getD 0 else 0 := by
  unfold keyB
  by_cases h : i < 32
  · rw [if_pos h, List.getElem?_append_left (by omega)]
  · rw [if_neg h, List.getElem?_append_right (by omega), List.getElem?_replicate]
    split <;> rfl

def ROv (w1 : World) (k : List UInt8) (x : UInt8) (v i : Value) (wr : World) : Prop := ∃ j : Nat, j ≤ 64 ∧ i = .int .i64 j ∧ wr.ownsRow w1.heap.size 5 1 v j (u8s (ovB k x j)) ∧ Below w1.heap.size w1 wr

set_option maxHeartbeats 8000000 in
set_option maxRecDepth 100000 in
theorem rover_any (k : List UInt8) (hk : k.length = 32) (x : UInt8) (w : World) :
    Calls Tryd.prog 33 #[.agg (row8 k), .int .u8 (x.toNat : Int)] w fun e w' => e = .returned (.string (st (ovr k x))) ∧ Below w.heap.size w w' := by
  obtain ⟨KS, hKS⟩ : ∃ KS, KS = row8 k := ⟨_, rfl⟩
  rw [← hKS]
  obtain ⟨i0, hi, hz0, hz1, hz2⟩ := info_parts u8_info
  have HI := Lib.hid (And.intro hi (And.intro hz0 (And.intro hz1 hz2)))
  have HK := Lib.hid (And.intro hKS hk)
  have HK0 : Hid ((w.alloc (.cells KS 23)).heap[w.heap.size]? = some (.cells KS 23 (0, 0))) := Lib.hid (heap_alloc_new w _)
  have HB0 : Hid (Below w.heap.size w (w.alloc (.cells KS 23))) := Lib.hid ((Below.refl _ _).alloc (Nat.le_refl _) _)
  clear hKS hi hz0 hz1 hz2
  go_enter Tryd.func33, Tryd.ntmps33
  go_wp2_with fail
  generalize hw1 : w.alloc (.cells KS 23) = w1 at *
  clear hw1
  go_loopw [5, 6, 7] (fun v i _ wr => ROv w1 k x v i wr) (fun _ i _ _ => 64 - (intOf i).toNat)
  case atStart => unfold ROv; exact ⟨0, Nat.zero_le _, rfl, World.ownsRow_nil _ _ _ _, Below.refl _ _⟩
  case round =>
    obtain ⟨j, hj, rfl, hown, hbr⟩ := hrel
    have HO := Lib.hid hown
    have HBR := Lib.hid hbr
    have hszr := hbr.size
    by_cases hlt : j < 64
    · have hE := Lib.hid (ovB_succ hk x j hlt)
      have hat := keyB_at hk j
      obtain ⟨y, hy⟩ : ∃ y, y = (keyB k)[j]?.getD 0 := ⟨_, rfl⟩
      rw [← hy] at hE hat
      obtain ⟨v, hv⟩ : ∃ v, v = y ^^^ x := ⟨_, rfl⟩
      rw [← hv] at hE
      have hx := xor8 y x
      rw [← hv] at hx
      have HV := Lib.hid hv
      clear hy hv hown hbr
      by_cases h32 : j < 32
      · rw [if_pos h32] at hat
        have hcell : wr.cell? ⟨w.heap.size, j, none⟩ = some (.int .u8 (y.toNat : Int)) := by
          have h1 := (HBR.out.block _ (lt_of_cells HK0.out)).trans HK0.out
          rw [HK.out.1] at h1
          rw [hat]
          exact u8s_cell h1 j (by rw [HK.out.2]; exact h32)
        clear hat
        go_wp2_with (at_builtin; refine wpList_append_own_at _ rfl _ _ 25 rfl w1.heap.size 5 i0 (.int .u8 0) 1 1 Tryd.underlying25 HI.out.1 HI.out.2.1 HI.out.2.2.1 HI.out.2.2.2 rfl (by decide) _ j (u8s (ovB k x j)) rfl (HO.out.alloc _) ⟨wr.heap.size, 0, none⟩ 1 1 _ rfl rfl (cell_one_new _ _ _) (one_of rfl) (by unfold maxLen; omega) (by omega) (by simp; omega) ?_)
        intro v' w2 hown2 hgrow _ _
        have hlt' := HO.out.lt
        have HB2 : Hid (Below w1.heap.size w1 w2) := Lib.hid ((HBR.out.alloc hszr _).grown hgrow (by simp; omega) (fun b hb => (hlt' b hb).1))
        have HO2 : Hid (w2.ownsRow w1.heap.size 5 1 v' (j + 1) (u8s (ovB k x (j + 1)))) := Lib.hid (by rw [hE.out, u8s_append]; exact hown2)
        clear hown2 hgrow hlt'
        go_wp2_with fail
        go_roundw
        case rel => unfold ROv; exact ⟨j + 1, by omega, by go_num, HO2.out, HB2.out⟩
        case measure => simp [intOf]; omega
      · rw [if_neg h32] at hat
        have hx0 : bits .xor .u8 0 (x.toNat : Int) = (v.toNat : Int) := by rw [hat] at hx; simpa using hx
        clear hat hx
        go_wp2_with (at_builtin; refine wpList_append_own_at _ rfl _ _ 25 rfl w1.heap.size 5 i0 (.int .u8 0) 1 1 Tryd.underlying25 HI.out.1 HI.out.2.1 HI.out.2.2.1 HI.out.2.2.2 rfl (by decide) _ j (u8s (ovB k x j)) rfl (HO.out.alloc _) ⟨wr.heap.size, 0, none⟩ 1 1 _ rfl rfl (cell_one_new _ _ _) (one_of rfl) (by unfold maxLen; omega) (by omega) (by simp; omega) ?_)
        intro v' w2 hown2 hgrow _ _
        have hlt' := HO.out.lt
        have HB2 : Hid (Below w1.heap.size w1 w2) := Lib.hid ((HBR.out.alloc hszr _).grown hgrow (by simp; omega) (fun b hb => (hlt' b hb).1))
        have HO2 : Hid (w2.ownsRow w1.heap.size 5 1 v' (j + 1) (u8s (ovB k x (j + 1)))) := Lib.hid (by rw [hE.out, u8s_append]; exact hown2)
        clear hown2 hgrow hlt'
        go_wp2_with fail
        go_roundw
        case rel => unfold ROv; exact ⟨j + 1, by omega, by go_num, HO2.out, HB2.out⟩
        case measure => simp [intOf]; omega
    · obtain rfl : j = 64 := by omega
      obtain ⟨A, c, rfl, hY⟩ := own_byt (l := ovB k x 64) hown
      have hs : (convert 25 9 (.slice A 64 c)).run Tryd.prog wr = .ok (.string (st (ovr k x))) wr := by
        have h1 := byt_string hY
        rw [ovB_all hk x] at h1
        exact h1
      have HF : Hid (Below w.heap.size w wr) := Lib.hid (HB0.out.trans (HBR.out.mono HB0.out.size))
      clear hown hbr hY hlt hj
      go_wp2_with fail
      go_ret
      exact ⟨rfl, HF.out⟩

theorem le8_digit (N j : Nat) : ((N / 2 ^ (8 * j) : Nat) : Int) % 256 = (((UInt8.ofNat (N / 2 ^ (8 * j))).toNat : Nat) : Int) := byte_mod N (8 * j)
def RNu (w1 : World) (N : Nat) (x v i : Value) (wr : World) : Prop := ∃ j : Nat, j ≤ 8 ∧ i = .int .i64 j ∧ x = .int .u64 ((N / 2 ^ (8 * j) : Nat) : Int) ∧ wr.ownsRow w1.heap.size 5 1 v j (u8s (le8 N j)) ∧ Below w1.heap.size w1 wr

set_option maxHeartbeats 8000000 in
set_option maxRecDepth 100000 in
theorem rnumber_any (N : Nat) (hN : N < 18446744073709551616) (w : World) :
    Calls Tryd.prog 19 #[.int .u64 (N : Int)] w fun e w' => e = .returned (.string (st (le8 N 8))) ∧ Below w.heap.size w w' := by
  obtain ⟨i0, hi, hz0, hz1, hz2⟩ := info_parts u8_info
  have HI := Lib.hid (And.intro hi (And.intro hz0 (And.intro hz1 hz2)))
  clear hi hz0 hz1 hz2
  go_enter Tryd.func19, Tryd.ntmps19
  go_wp2_with fail
  go_loopw [0, 3, 4] (fun x v i wr => RNu w N x v i wr) (fun _ _ i _ => 8 - (intOf i).toNat)
  case atStart => unfold RNu; exact ⟨0, Nat.zero_le _, rfl, by simp, World.ownsRow_nil _ _ _ _, Below.refl _ _⟩
  case round =>
    obtain ⟨j, hj, rfl, rfl, hown, hbr⟩ := hrel
    have HO := Lib.hid hown
    have HBR := Lib.hid hbr
    have hszr := hbr.size
    by_cases hlt : j < 8
    · have hE := Lib.hid (le8_succ N j)
      have hmb := le8_digit N j
      have hYle : N / 2 ^ (8 * j) ≤ N := Nat.div_le_self _ _
      have hds := Lib.hid (div_step N j)
      generalize N / 2 ^ (8 * j) = Y at *
      generalize UInt8.ofNat Y = b at *
      have hb256 : b.toNat < 256 := b.toNat_lt
      clear hown hbr
      go_wp2_with (at_builtin; refine wpList_append_own_at _ rfl _ _ 25 rfl w.heap.size 5 i0 (.int .u8 0) 1 1 Tryd.underlying25 HI.out.1 HI.out.2.1 HI.out.2.2.1 HI.out.2.2.2 rfl (by decide) _ j (u8s (le8 N j)) rfl (HO.out.alloc _) ⟨wr.heap.size, 0, none⟩ 1 1 _ rfl rfl (cell_one_new _ _ _) (one_of rfl) (by unfold maxLen; omega) (by omega) (by simp; omega) ?_)
      intro v' w2 hown2 hgrow _ _
      have hlt' := HO.out.lt
      have HB2 : Hid (Below w.heap.size w w2) := Lib.hid ((HBR.out.alloc hszr _).grown hgrow (by simp; omega) (fun b hb => (hlt' b hb).1))
      have HO2 : Hid (w2.ownsRow w.heap.size 5 1 v' (j + 1) (u8s (le8 N (j + 1)))) := Lib.hid (by rw [hE.out, u8s_append]; exact hown2)
      clear hown2 hgrow hlt'
      go_wp2_with fail
      go_roundw
      case rel => unfold RNu; exact ⟨j + 1, by omega, by go_num, by rw [← hds.out]; simp, HO2.out, HB2.out⟩
      case measure => simp [intOf]; omega
    · obtain rfl : j = 8 := by omega
      obtain ⟨A, c, rfl, hY⟩ := own_byt (l := le8 N 8) hown
      have hs : (convert 25 9 (.slice A 8 c)).run Tryd.prog wr = .ok (.string (st (le8 N 8))) wr := byt_string hY
      clear hown hY hlt hj hbr
      go_wp2_with fail
      go_ret
      exact ⟨rfl, HBR.out⟩
end Go.Proofs.YtlkkocgjpljibaaDoor

/-! The reference: Of and Derive. -/
namespace Go.Proofs.YtlkkocgjpljibaaDoor
open Go.RowKit

def St2 (a b c : List UInt8) : Prop := st a ++ st b = st c ∧ (st a).size = a.length ∧ (st b).size = b.length ∧ ¬ (9223372036854775807 : Int) < (a.length : Int) + (b.length : Int)
theorem st2 {a b : List UInt8} (h : a.length + b.length < 9223372036854775807) : St2 a b (a ++ b) := ⟨st_app a b, st_size a, st_size b, by omega⟩
theorem row8_rfl (l : List UInt8) : (u8s l).toArray = row8 l := rfl

set_option maxHeartbeats 4000000 in
set_option maxRecDepth 100000 in
theorem rofm_any (k : List UInt8) (hk : k.length = 32) (m : List UInt8) (hm : m.length < 288230376151711744) (w : World) :
    Calls Tryd.prog 23 #[.agg (row8 k), .string (st m)] w fun e w' => e = .returned (.agg (row8 (macL k m))) ∧ Below w.heap.size w w' := by
  have hz := zero_id
  obtain ⟨O54, hO5⟩ : ∃ O54, O54 = ovr k 54 := ⟨_, rfl⟩
  obtain ⟨O92, hO9⟩ : ∃ O92, O92 = ovr k 92 := ⟨_, rfl⟩
  obtain ⟨M54, hM5⟩ : ∃ M54, M54 = O54 ++ m := ⟨_, rfl⟩
  obtain ⟨IN, hIN⟩ : ∃ IN, IN = shaL M54 := ⟨_, rfl⟩
  obtain ⟨M92, hM9⟩ : ∃ M92, M92 = O92 ++ IN := ⟨_, rfl⟩
  have hil : IN.length = 32 := by rw [hIN]; exact shaL_length _
  have hl5 : O54.length = 64 := by rw [hO5]; exact ovr_length hk _
  have hl9 : O92.length = 64 := by rw [hO9]; exact ovr_length hk _
  have HAP_a : Hid (st O54 ++ st m = st M54 ∧ (st O54).size = O54.length ∧ (st m).size = m.length ∧ ¬ (9223372036854775807 : Int) < (O54.length : Int) + (m.length : Int)) := Lib.hid (by rw [hM5]; exact st2 (by omega))
  have HAP_b : Hid (st O92 ++ st IN = st M92 ∧ (st O92).size = O92.length ∧ (st IN).size = IN.length ∧ ¬ (9223372036854775807 : Int) < (O92.length : Int) + (IN.length : Int)) := Lib.hid (by rw [hM9]; exact st2 (by omega))
  have HL5 : Hid (M54.length < 576460752303423488) := Lib.hid (by rw [hM5, List.length_append]; omega)
  have HL : Hid (M92.length < 576460752303423488) := Lib.hid (by rw [hM9, List.length_append]; omega)
  obtain ⟨KS, hKS⟩ : ∃ KS, KS = row8 k := ⟨_, rfl⟩
  rw [← hKS]
  have HKS : Hid (KS.size = 32) := Lib.hid (by rw [hKS, row8_size, hk])
  obtain ⟨RS, hRS⟩ : ∃ RS, RS = row8 (macL k m) := ⟨_, rfl⟩
  rw [← hRS]
  have HS : Hid (RS.size = 32 ∧ RS.all (·.oneCell') = true) := Lib.hid (by rw [hRS]; exact ⟨(row8_size _).trans (macL_length _ _), row8_one _⟩)
  have HRS : Hid (RS = row8 (shaL M92)) := Lib.hid (by rw [hRS, hM9, hO9, hIN, hM5, hO5]; rfl)
  have hov := rover_any k hk 54 
  rw [show ((54 : UInt8).toNat : Int) = 54 from rfl, ← hKS, ← hO5] at hov
  have hrf := rof_any M54 HL5.out
  obtain ⟨IS, hIS⟩ : ∃ IS, IS = row8 IN := ⟨_, rfl⟩
  rw [row8_rfl, ← hIN, ← hIS] at hrf
  have HIS : Hid (IS = row8 IN ∧ IS.size = 32 ∧ IS.all (·.oneCell') = true) := Lib.hid ⟨hIS, by rw [hIS, row8_size, hil], by rw [hIS]; exact row8_one _⟩
  have HKK := Lib.hid (And.intro hKS (And.intro hk (And.intro hO9 hil)))
  have ha1 := HAP_a.out.1
  have ha2 := HAP_a.out.2.1
  have ha3 := HAP_a.out.2.2.1
  have ha4 := HAP_a.out.2.2.2
  clear hO5 hO9 hM5 hIN hM9 hil hKS hRS hIS hk hm hl5 hl9
  have HK0 : Hid (((w.alloc (.cells KS 23)).alloc (.cells zerosId 34)).heap[w.heap.size]? = some (.cells KS 23 (0, 0))) := Lib.hid (by
    refine (Below.heap_alloc _ _ _ (by simp)).trans (heap_alloc_new w _))
  have HK1 : Hid (((w.alloc (.cells KS 23)).alloc (.cells zerosId 34)).heap[w.heap.size + 1]? = some (.cells zerosId 34 (0, 0))) := Lib.hid (by
    have := heap_alloc_new (w.alloc (.cells KS 23)) (.cells zerosId 34)
    simpa using this)
  have HB0 : Hid (Below w.heap.size w ((w.alloc (.cells KS 23)).alloc (.cells zerosId 34))) := Lib.hid (((Below.refl _ _).alloc (Nat.le_refl _) _).alloc (by simp) _)
  go_enter Tryd.func23, Tryd.ntmps23
  go_wp2_with (refine wpList_load_row (by rfl) 23 (.tmp 2) (by rfl) w.heap.size (by rfl) 23 KS (0, 0) _ HK0.out Tryd.underlying23 (by rfl) (by rw [HKS.out]; exact key_info) ?_)
  refine (hov _).mono ?_
  rintro _ w1 ⟨rfl, hb1⟩
  have HB1 : Hid (Below w.heap.size w w1) := Lib.hid (HB0.out.trans (hb1.mono HB0.out.size))
  have HR1 : Hid (w1.heap[w.heap.size]? = some (.cells KS 23 (0, 0)) ∧ w1.heap[w.heap.size + 1]? = some (.cells zerosId 34 (0, 0))) := Lib.hid ⟨(hb1.block _ (lt_of_cells HK0.out)).trans HK0.out, (hb1.block _ (lt_of_cells HK1.out)).trans HK1.out⟩
  clear hb1 hov
  go_wp2_with fail
  refine (hrf _).mono ?_
  rintro _ w2 ⟨rfl, hb2⟩
  have HB2 : Hid (Below w.heap.size w w2) := Lib.hid (HB1.out.trans (hb2.mono HB1.out.size))
  have HR2 : Hid (w2.heap[w.heap.size]? = some (.cells KS 23 (0, 0)) ∧ w2.heap[w.heap.size + 1]? = some (.cells zerosId 34 (0, 0))) := Lib.hid ⟨(hb2.block _ (lt_of_cells HR1.out.1)).trans HR1.out.1, (hb2.block _ (lt_of_cells HR1.out.2)).trans HR1.out.2⟩
  clear hb2 hrf ha1 ha2 ha3 ha4
  have HG3 := Lib.hid (heap_alloc_new w2 (.cells zerosId 34))
  go_wp2_with (refine wpList_store_row (by rfl) 34 (.tmp 5) (.tmp 10) (by rfl) w2.heap.size IS (by rfl) (by rfl) 34 _ HG3.out (by rw [HIS.out.2.1]; exact id_info) (by rw [HIS.out.2.1]; rfl) HIS.out.2.2 ?_)
  have e3 : ∀ b, b < w2.heap.size → ((w2.alloc (.cells zerosId 34)).setRow w2.heap.size IS).heap[b]? = w2.heap[b]? := fun b hb => by
    simp only [World.setRow, Array.getElem?_modify]
    rw [if_neg (by omega)]
    exact Below.heap_alloc _ _ _ hb
  have e4 := setRow_at (new := IS) HG3.out
  have HB3 : Hid (Below w.heap.size w ((w2.alloc (.cells zerosId 34)).setRow w2.heap.size IS)) := Lib.hid (below_setRow (HB2.out.alloc HB2.out.size _) HB2.out.size _)
  have h01 := (e3 _ (lt_of_cells HR2.out.1)).trans HR2.out.1
  have h02 := (e3 _ (lt_of_cells HR2.out.2)).trans HR2.out.2
  have hq5 : w.heap.size + 1 < w2.heap.size := lt_of_cells HR2.out.2
  clear e3 HG3 HR2 HB2 HR1 HB1
  generalize (w2.alloc (.cells zerosId 34)).setRow w2.heap.size IS = w3 at *
  generalize w2.heap.size = q5 at *
  rw [HIS.out.1] at e4
  have hy := byt_not (q := w.heap.size + 1) e4 (by rw [HKK.out.2.2.2]; omega) (by omega)
  rw [HKK.out.2.2.2] at hy
  have HY : Hid (w.heap.size + 1 < w3.drew.heap.size ∧ w3.drew.heap[w.heap.size]? = some (.cells KS 23 (0, 0)) ∧ Byt w3.drew (fun b => b ≠ w.heap.size + 1) (some ⟨q5, 0, none⟩) 32 32 IN) := Lib.hid ⟨lt_of_cells h02, h01, hy.drew⟩
  have HY1 : Hid (w3.drew.heap[w.heap.size + 1]? = some (.cells zerosId 34 (0, 0))) := Lib.hid h02
  clear e4 h01 h02 hy hz
  refine wp_region_grow (Sto (w.heap.size + 1) (.cells RS 34 (0, 0))) (Grow.nth [fun v _ => v = .agg KS, fun v _ => v = .string (st O92), fun v _ => v = .slice (some ⟨q5, 0, none⟩) 32 32, fun v _ => v = .string (st IN), fun v _ => v = .string (st M92), fun v _ => v = .agg RS, fun _ W => W.heap[w.heap.size + 1]? = some (.cells RS 34 (0, 0))]) 17 (by kernel_rfl) (by kernel_rfl) (by rfl) (Sto.refl _ _) (fun _ _ _ h1 h2 => h1.trans h2) (Grow.mono_nth ?gmono) ?gsteps ?gfin
  case gmono => exact ⟨fun _ _ _ h _ => h, fun _ _ _ h _ => h, fun _ _ _ h _ => h, fun _ _ _ h _ => h, fun _ _ _ h _ => h, fun _ _ _ h _ => h, fun _ _ _ h g => g.keeps h, trivial⟩
  case gsteps =>
    show Grow.allBelow _ 7
    refine And.intro ?_ ?s6
    refine And.intro ?_ ?s5
    refine And.intro ?_ ?s4
    refine And.intro ?_ ?s3
    refine And.intro ?_ ?s2
    refine And.intro ?_ ?s1
    refine And.intro ?_ ?s0
    exact trivial
    case s0 =>
      refine Grow.step_in (by rfl) (by rfl) ?_
      intro E W ec eg ef hG hd hu R HR
      have e2 : E (.tmp 2) = .pointer (some ⟨w.heap.size, 0, none⟩) := hu 2 (by kernel_rfl)
      clear hd hu
      exact runs_load 23 (.tmp 2) rfl (w.heap.size) e2 KS (0, 0) ((hG.turned.block _ (Nat.lt_of_succ_lt HY.out.1) (by omega)).trans HY.out.2.1) Tryd.underlying23 (by rw [HKS.out]; exact key_info) (HR.out _ _ (Sto.refl _ _ _) rfl)
    case s1 =>
      refine Grow.step_in (by rfl) (by rfl) ?_
      intro E W ec eg ef hG hd hu R HR
      have e11 : E (.tmp 11) = .agg KS := hd 0 11 (by kernel_rfl)
      clear hd hu
      have hb92 : ((92 : UInt8).toNat : Int) = 92 := rfl
      go_simp
      rw [HKK.out.1, ← hb92]
      refine (rover_any k HKK.out.2.1 92 _).mono ?_
      rintro _ w' ⟨rfl, hb⟩
      exact ⟨_, rfl, HR.out _ _ (Sto.of_below hb (hG.lt HY.out.1)) (show _ = _ by rw [HKK.out.2.2.1])⟩
    case s2 =>
      refine Grow.step_in (by rfl) (by rfl) ?_
      intro E W ec eg ef hG hd hu R HR
      have e5 : E (.tmp 5) = .pointer (some ⟨q5, 0, none⟩) := hu 5 (by kernel_rfl)
      clear hd hu
      go_simp
      exact HR.out _ _ (Sto.refl _ _ _) rfl
    case s3 =>
      refine Grow.step_in (by rfl) (by rfl) ?_
      intro E W ec eg ef hG hd hu R HR
      have e13 : E (.tmp 13) = .slice (some ⟨q5, 0, none⟩) 32 32 := hd 2 13 (by kernel_rfl)
      clear hd hu
      have hs := byt_string (HY.out.2.2.turned hG.turned fun _ _ h => h)
      go_simp
      exact HR.out _ _ (Sto.refl _ _ _) rfl
    case s4 =>
      refine Grow.step_in (by rfl) (by rfl) ?_
      intro E W ec eg ef hG hd hu R HR
      have e12 : E (.tmp 12) = .string (st O92) := hd 1 12 (by kernel_rfl)
      have e14 : E (.tmp 14) = .string (st IN) := hd 3 14 (by kernel_rfl)
      clear hd hu
      have ha := HAP_b.out.1
      have hs1 := HAP_b.out.2.1
      have hs2 := HAP_b.out.2.2.1
      have hs3 := HAP_b.out.2.2.2
      go_simp
      first | exact HR.out _ _ (Sto.refl _ _ _) rfl | (rw [if_neg (by omega)]; exact HR.out _ _ (Sto.refl _ _ _) rfl)
    case s5 =>
      refine Grow.step_in (by rfl) (by rfl) ?_
      intro E W ec eg ef hG hd hu R HR
      have e15 : E (.tmp 15) = .string (st M92) := hd 4 15 (by kernel_rfl)
      clear hd hu
      go_simp
      refine (rof_any M92 HL.out _).mono ?_
      rintro _ w' ⟨rfl, hb⟩
      exact ⟨_, rfl, HR.out _ _ (Sto.of_below hb (hG.lt HY.out.1)) (show _ = _ by rw [HRS.out]; rfl)⟩
    case s6 =>
      refine Grow.step_in (by rfl) (by rfl) ?_
      intro E W ec eg ef hG hd hu R HR
      have e4 : E (.tmp 4) = .pointer (some ⟨w.heap.size + 1, 0, none⟩) := hu 4 (by kernel_rfl)
      have e16 : E (.tmp 16) = .agg RS := hd 5 16 (by kernel_rfl)
      clear hd hu
      obtain ⟨ds, hds, hdo⟩ := hG.old HY1.out
      exact runs_store 34 (.tmp 4) (.tmp 16) rfl (w.heap.size + 1) RS e4 e16 34 ds hds (by rw [HS.out.1]; exact id_info) (by rcases hdo with rfl | rfl; exact HS.out.1.symm; rfl) HS.out.2 (HR.out _ _ (Sto.store hds) (setRow_at hds))
  case gfin =>
    intro W hG
    refine Grow.fin_dst (by rfl) ?_
    rintro _ rfl
    refine Grow.fin_dst (by rfl) ?_
    rintro _ rfl
    refine Grow.fin_dst (by rfl) ?_
    rintro _ rfl
    refine Grow.fin_dst (by rfl) ?_
    rintro _ rfl
    refine Grow.fin_dst (by rfl) ?_
    rintro _ rfl
    refine Grow.fin_dst (by rfl) ?_
    rintro _ rfl
    refine Grow.fin_told (by rfl) ?_
    rintro ⟨_, hK⟩
    simp only [Act.put, List.setIfInBounds_toArray, List.set_cons_zero, List.set_cons_succ]
    refine Grow.fin_end ?_
    have HG : Hid (Below w.heap.size w W) := Lib.hid (HB3.out.trans ((hG.of_drew.turned.mono (T := (w.heap.size ≤ ·)) fun b _ hb => by omega).below HB3.out.size))
    have HK := Lib.hid hK
    clear hG hK
    go_wp2_with fail
    exact bodyPost_ret (results_cell_row rfl _ _ (w.heap.size + 1) 34 RS (0, 0) _ rfl HK.out Tryd.underlying34 rfl (by rw [HS.out.1]; exact id_info)) rfl ⟨rfl, HG.out⟩

set_option maxHeartbeats 4000000 in
set_option maxRecDepth 100000 in
theorem rderive_any (k : List UInt8) (hk : k.length = 32) (l : List UInt8) (hl : l.length ≤ 1000000) (N : Nat) (hN : N < 18446744073709551616) (w : World) :
    Calls Tryd.prog 21 #[.agg (row8 k), .string (st l), .int .u64 (N : Int)] w fun e w' => e = .returned (.agg (row8 (macL k (l ++ [0] ++ le8 N 8)))) ∧ Below w.heap.size w w' := by
  have hz := zero_key
  obtain ⟨D, hD⟩ : ∃ D, D = le8 N 8 := ⟨_, rfl⟩
  obtain ⟨M1, hM1⟩ : ∃ M1, M1 = l ++ [0] := ⟨_, rfl⟩
  obtain ⟨M2, hM2⟩ : ∃ M2, M2 = M1 ++ D := ⟨_, rfl⟩
  have hdl : D.length = 8 := by rw [hD]; exact le8_length _ _
  have hl1 : M1.length = l.length + 1 := by rw [hM1]; simp
  have HAP_a : Hid (st l ++ { data := #[0] } = st M1 ∧ (st l).size = l.length ∧ ¬ (9223372036854775807 : Int) < (l.length : Int) + 1 ∧ True) := Lib.hid ⟨by rw [hM1]; exact st_0 l, st_size l, by omega, trivial⟩
  have HAP_b : Hid (st M1 ++ st D = st M2 ∧ (st M1).size = M1.length ∧ (st D).size = D.length ∧ ¬ (9223372036854775807 : Int) < (M1.length : Int) + (D.length : Int)) := Lib.hid (by rw [hM2]; exact st2 (by omega))
  have HL : Hid (M2.length < 288230376151711744) := Lib.hid (by rw [hM2, List.length_append]; omega)
  obtain ⟨KS, hKS⟩ : ∃ KS, KS = row8 k := ⟨_, rfl⟩
  rw [← hKS]
  have HKS : Hid (KS.size = 32) := Lib.hid (by rw [hKS, row8_size, hk])
  rw [← hD, ← hM1, ← hM2]
  obtain ⟨RS, hRS⟩ : ∃ RS, RS = row8 (macL k M2) := ⟨_, rfl⟩
  rw [← hRS]
  have HS : Hid (RS.size = 32 ∧ RS.all (·.oneCell') = true) := Lib.hid (by rw [hRS]; exact ⟨(row8_size _).trans (macL_length _ _), row8_one _⟩)
  have HRS := Lib.hid hRS
  have HKK := Lib.hid (And.intro hKS (And.intro hk (And.intro hD hN)))
  clear hD hM1 hM2 hdl hl1 hKS hRS hk hl hN
  have HY1 : Hid (((w.alloc (.cells KS 23)).alloc (.cells zerosId 23)).drew.heap[w.heap.size + 1]? = some (.cells zerosId 23 (0, 0))) := Lib.hid (by
    have := heap_alloc_new (w.alloc (.cells KS 23)) (.cells zerosId 23)
    rw [World.size_alloc] at this
    exact this)
  have HY : Hid (w.heap.size + 1 < ((w.alloc (.cells KS 23)).alloc (.cells zerosId 23)).drew.heap.size ∧ ((w.alloc (.cells KS 23)).alloc (.cells zerosId 23)).drew.heap[w.heap.size]? = some (.cells KS 23 (0, 0))) := Lib.hid ⟨lt_of_cells HY1.out, 
    (Below.heap_alloc _ _ _ (by simp)).trans (heap_alloc_new w _)⟩
  have HB3 : Hid (Below w.heap.size w ((w.alloc (.cells KS 23)).alloc (.cells zerosId 23))) := Lib.hid (((Below.refl _ _).alloc (Nat.le_refl _) _).alloc (by simp) _)
  go_enter Tryd.func21, Tryd.ntmps21
  go_wp2_with fail
  generalize (w.alloc (.cells KS 23)).alloc (.cells zerosId 23) = w3 at *
  clear hz
  refine wp_region_grow (Sto (w.heap.size + 1) (.cells RS 23 (0, 0))) (Grow.nth [fun v _ => v = .agg KS, fun v _ => v = .string (st l), fun v _ => v = .string (st M1), fun v _ => v = .int .u64 (N : Int), fun v _ => v = .string (st D), fun v _ => v = .string (st M2), fun v _ => v = .agg RS, fun _ W => W.heap[w.heap.size + 1]? = some (.cells RS 23 (0, 0))]) 14 (by kernel_rfl) (by kernel_rfl) (by rfl) (Sto.refl _ _) (fun _ _ _ h1 h2 => h1.trans h2) (Grow.mono_nth ?gmono) ?gsteps ?gfin
  case gmono => exact ⟨fun _ _ _ h _ => h, fun _ _ _ h _ => h, fun _ _ _ h _ => h, fun _ _ _ h _ => h, fun _ _ _ h _ => h, fun _ _ _ h _ => h, fun _ _ _ h _ => h, fun _ _ _ h g => g.keeps h, trivial⟩
  case gsteps =>
    show Grow.allBelow _ 8
    refine And.intro ?_ ?s7
    refine And.intro ?_ ?s6
    refine And.intro ?_ ?s5
    refine And.intro ?_ ?s4
    refine And.intro ?_ ?s3
    refine And.intro ?_ ?s2
    refine And.intro ?_ ?s1
    refine And.intro ?_ ?s0
    exact trivial
    case s0 =>
      refine Grow.step_in (by rfl) (by rfl) ?_
      intro E W ec eg ef hG hd hu R HR
      have e3 : E (.tmp 3) = .pointer (some ⟨w.heap.size, 0, none⟩) := hu 3 (by kernel_rfl)
      clear hd hu
      exact runs_load 23 (.tmp 3) rfl (w.heap.size) e3 KS (0, 0) ((hG.turned.block _ (Nat.lt_of_succ_lt HY.out.1) (by omega)).trans HY.out.2) Tryd.underlying23 (by rw [HKS.out]; exact key_info) (HR.out _ _ (Sto.refl _ _ _) rfl)
    case s1 =>
      refine Grow.step_in (by rfl) (by rfl) ?_
      intro E W ec eg ef hG hd hu R HR
      have e1 : E (.tmp 1) = .string (st l) := hu 1 (by kernel_rfl)
      clear hd hu
      go_simp
      exact HR.out _ _ (Sto.refl _ _ _) rfl
    case s2 =>
      refine Grow.step_in (by rfl) (by rfl) ?_
      intro E W ec eg ef hG hd hu R HR
      have e8 : E (.tmp 8) = .string (st l) := hd 1 8 (by kernel_rfl)
      clear hd hu
      have ha := HAP_a.out.1
      have hs1 := HAP_a.out.2.1
      have hs2 := HAP_a.out.2.2.1
      have hs3 := HAP_a.out.2.2.2
      go_simp
      first | exact HR.out _ _ (Sto.refl _ _ _) rfl | (rw [if_neg (by omega)]; exact HR.out _ _ (Sto.refl _ _ _) rfl)
    case s3 =>
      refine Grow.step_in (by rfl) (by rfl) ?_
      intro E W ec eg ef hG hd hu R HR
      have e2 : E (.tmp 2) = .int .u64 (N : Int) := hu 2 (by kernel_rfl)
      clear hd hu
      go_simp
      exact HR.out _ _ (Sto.refl _ _ _) rfl
    case s4 =>
      refine Grow.step_in (by rfl) (by rfl) ?_
      intro E W ec eg ef hG hd hu R HR
      have e10 : E (.tmp 10) = .int .u64 (N : Int) := hd 3 10 (by kernel_rfl)
      clear hd hu
      go_simp
      refine (rnumber_any N HKK.out.2.2.2 _).mono ?_
      rintro _ w' ⟨rfl, hb⟩
      exact ⟨_, rfl, HR.out _ _ (Sto.of_below hb (hG.lt HY.out.1)) (show _ = _ by rw [HKK.out.2.2.1])⟩
    case s5 =>
      refine Grow.step_in (by rfl) (by rfl) ?_
      intro E W ec eg ef hG hd hu R HR
      have e9 : E (.tmp 9) = .string (st M1) := hd 2 9 (by kernel_rfl)
      have e11 : E (.tmp 11) = .string (st D) := hd 4 11 (by kernel_rfl)
      clear hd hu
      have ha := HAP_b.out.1
      have hs1 := HAP_b.out.2.1
      have hs2 := HAP_b.out.2.2.1
      have hs3 := HAP_b.out.2.2.2
      go_simp
      first | exact HR.out _ _ (Sto.refl _ _ _) rfl | (rw [if_neg (by omega)]; exact HR.out _ _ (Sto.refl _ _ _) rfl)
    case s6 =>
      refine Grow.step_in (by rfl) (by rfl) ?_
      intro E W ec eg ef hG hd hu R HR
      have e7 : E (.tmp 7) = .agg KS := hd 0 7 (by kernel_rfl)
      have e12 : E (.tmp 12) = .string (st M2) := hd 5 12 (by kernel_rfl)
      clear hd hu
      go_simp
      rw [HKK.out.1]
      refine (rofm_any k HKK.out.2.1 M2 HL.out _).mono ?_
      rintro _ w' ⟨rfl, hb⟩
      exact ⟨_, rfl, HR.out _ _ (Sto.of_below hb (hG.lt HY.out.1)) (show _ = _ by rw [HRS.out])⟩
    case s7 =>
      refine Grow.step_in (by rfl) (by rfl) ?_
      intro E W ec eg ef hG hd hu R HR
      have e6 : E (.tmp 6) = .pointer (some ⟨w.heap.size + 1, 0, none⟩) := hu 6 (by kernel_rfl)
      have e13 : E (.tmp 13) = .agg RS := hd 6 13 (by kernel_rfl)
      clear hd hu
      obtain ⟨ds, hds, hdo⟩ := hG.old HY1.out
      exact runs_store 23 (.tmp 6) (.tmp 13) rfl (w.heap.size + 1) RS e6 e13 23 ds hds (by rw [HS.out.1]; exact key_info) (by rcases hdo with rfl | rfl; exact HS.out.1.symm; rfl) HS.out.2 (HR.out _ _ (Sto.store hds) (setRow_at hds))
  case gfin =>
    intro W hG
    refine Grow.fin_dst (by rfl) ?_
    rintro _ rfl
    refine Grow.fin_dst (by rfl) ?_
    rintro _ rfl
    refine Grow.fin_dst (by rfl) ?_
    rintro _ rfl
    refine Grow.fin_dst (by rfl) ?_
    rintro _ rfl
    refine Grow.fin_dst (by rfl) ?_
    rintro _ rfl
    refine Grow.fin_dst (by rfl) ?_
    rintro _ rfl
    refine Grow.fin_dst (by rfl) ?_
    rintro _ rfl
    refine Grow.fin_told (by rfl) ?_
    rintro ⟨_, hK⟩
    simp only [Act.put, List.setIfInBounds_toArray, List.set_cons_zero, List.set_cons_succ]
    refine Grow.fin_end ?_
    have HG : Hid (Below w.heap.size w W) := Lib.hid (HB3.out.trans ((hG.of_drew.turned.mono (T := (w.heap.size ≤ ·)) fun b _ hb => by omega).below HB3.out.size))
    have HK := Lib.hid hK
    clear hG hK
    go_wp2_with fail
    exact bodyPost_ret (results_cell_row rfl _ _ (w.heap.size + 1) 23 RS (0, 0) _ rfl HK.out Tryd.underlying23 rfl (by rw [HS.out.1]; exact key_info)) rfl ⟨rfl, HG.out⟩
end Go.Proofs.YtlkkocgjpljibaaDoor
