/-
  The statement SealHides: its walk.
-/
import Derived.Test.YtlkkocgjpljibaaDoorSealAwake
namespace Go.Proofs.YtlkkocgjpljibaaDoor
open Go.RowKit

set_option maxHeartbeats 8000000 in
set_option maxRecDepth 100000 in
theorem walk_hides {w : World} (k : List UInt8) (hk : k.length = 32) {kx : Int} (hkd0 : (Lit.int .u8 kx).wf = true) {nx : Int} (hnx0 : (Lit.int .u64 nx).wf = true) {S : Nat → Prop} {A : Option Addr} {n c : Nat} {l : List UInt8} (h : Byt w S A n c l) (ht : Tab w ∧ QTab w) :
    Calls Tryd.prog 6 #[.agg (row8 k), .int .u8 kx, .int .u64 nx, .slice A n c] w fun e w' => e = .returned (.bool true) ∧ Below w.heap.size w w' := by
  have hkd := bounds_u8 hkd0
  obtain ⟨kd, rfl⟩ : ∃ kd : UInt8, kx = (kd.toNat : Int) := ⟨UInt8.ofNat kx.toNat, by simp; omega⟩
  have hnx := bounds_u64 hnx0
  obtain ⟨N, rfl⟩ : ∃ N : Nat, nx = (N : Int) := ⟨nx.toNat, by omega⟩
  have HN64 : Hid (N < 18446744073709551616) := Lib.hid (by omega)
  clear hkd hnx hkd0 hnx0
  obtain ⟨KS, hKS⟩ : ∃ KS, KS = row8 k := ⟨_, rfl⟩
  rw [← hKS]
  have HZKS : Hid (KS.size = 32) := Lib.hid (by rw [hKS, row8_size, hk])
  have HBX : Hid (Below w.heap.size w (w.alloc (.cells KS 23)) ∧ (w.alloc (.cells KS 23)).heap[w.heap.size]? = some (.cells KS 23 (0, 0))) := Lib.hid ⟨(Below.refl _ _).alloc (Nat.le_refl _) _, heap_alloc_new w _⟩
  by_cases hn : n ≤ 300
  · have hl := h.len
    obtain ⟨BL, hBL⟩ : ∃ BL, BL = sealL k kd N l := ⟨_, rfl⟩
    have hbl : BL.length = n + 41 := by rw [hBL, sealL_length, hl]; omega
    obtain ⟨SP, hSP⟩ : ∃ SP, SP = st l := ⟨_, rfl⟩
    have HB0 : Hid (BL[0]?.getD 0 = kd) := Lib.hid (by rw [hBL]; exact kind_seal _ _ _ _)
    have HB8 : Hid (∀ i, i < 8 → BL[1 + i]?.getD 0 = UInt8.ofNat (N / 2 ^ (8 * i))) := Lib.hid fun i hi => by
      have h8 : (eightL BL)[i]?.getD 0 = (le8 N 8)[i]?.getD 0 := by rw [hBL, eight_seal]
      rw [eight_at hi, Nat.add_comm i 1] at h8
      rw [h8, le8, List.getElem?_map, List.getElem?_range hi]
      rfl
    have HSE : Hid (∀ W {S : Nat → Prop} {A : Option Addr} {c : Nat}, Byt W S A n c l → Tab W → QTab W → Calls Tryd.prog 9 #[.agg KS, .int .u8 (kd.toNat : Int), .int .u64 (N : Int), .slice A n c] W fun e w' => ∃ g, e = .returned (.tuple #[.slice (some ⟨g, 0, none⟩) (n + 41) (n + 41), .int .i64 0]) ∧ w'.ownsRow W.heap.size 5 1 (.slice (some ⟨g, 0, none⟩) (n + 41) (n + 41)) (n + 41) (u8s BL) ∧ Below W.heap.size W w') := Lib.hid fun W S A c h1 h2 h3 => by
      rw [hKS, hBL]
      exact sseal_any h1 h2 h3 k hk kd N (by omega)
    have HSS := Lib.hid hSP
    have HH := Lib.hid h
    clear hBL hSP hKS hk h hl hbl
    go_enter Tryd.func6, Tryd.ntmps6
    go_wp2_with fail
    refine (lawake_true (ht.1.below HBX.out.1) (ht.2.below HBX.out.1)).mono ?_
    rintro _ w1 ⟨rfl, hb1⟩
    have HB1 : Hid (Below w.heap.size w w1 ∧ w1.heap[w.heap.size]? = some (.cells KS 23 (0, 0))) := Lib.hid ⟨HBX.out.1.trans (hb1.mono HBX.out.1.size), (hb1.block _ (lt_of_cells HBX.out.2)).trans HBX.out.2⟩
    have HT := Lib.hid ht
    clear hb1 ht HBX
    have hcv1 := byt_string (HH.out.below HB1.out.1)
    rw [show (⟨l.toArray⟩ : ByteArray) = st l from rfl, ← HSS.out] at hcv1
    go_wp2_with (refine wpList_load_row (by rfl) 23 (.tmp 4) (by rfl) w.heap.size (by rfl) 23 KS (0, 0) _ HB1.out.2 Tryd.underlying23 (by rfl) (by rw [HZKS.out]; exact key_info) ?_)
    refine (HSE.out _ (HH.out.below HB1.out.1) (HT.out.1.below HB1.out.1) (HT.out.2.below HB1.out.1)).mono ?_
    rintro _ w2 ⟨g, rfl, hown2, hb2⟩
    have HB2 : Hid (Below w.heap.size w w2 ∧ w2.heap[w.heap.size]? = some (.cells KS 23 (0, 0))) := Lib.hid ⟨HB1.out.1.trans (hb2.mono HB1.out.1.size), (hb2.block _ (lt_of_cells HB1.out.2)).trans HB1.out.2⟩
    have HY2 := Lib.hid (own_byt_at hown2)
    have hcv2 := byt_string (HH.out.below HB2.out.1)
    rw [show (⟨l.toArray⟩ : ByteArray) = st l from rfl, ← HSS.out] at hcv2
    have HCE : Hid (∀ i, i < n + 41 → w2.cell? ⟨g, i, none⟩ = some (.int .u8 ((BL[i]?.getD 0).toNat : Int))) := Lib.hid fun i hi => by
      obtain ⟨b', o, hA, _, _, hc⟩ := HY2.out.row (by omega)
      injection hA with hA
      injection hA with e1 e2
      have := hc i hi
      rw [← e1, ← e2, Nat.zero_add] at this
      exact this
    have hc0 := HCE.out 0 (by omega)
    rw [HB0.out] at hc0
    have hlt0 : (0 : Int) < (n : Int) + 41 := by omega
    clear hown2 hb2 HB1 HSE hcv1
    go_wp2_with fail
    clear hcv2 hc0
    go_loopw [13, 14] (fun x i wr => ∃ j : Nat, j ≤ 8 ∧ i = .int .i64 j ∧ x = .int .u64 ((N / 2 ^ (8 * j) : Nat) : Int) ∧ wr = w2) (fun _ i _ => 8 - (intOf i).toNat)
    case atStart => exact ⟨0, Nat.zero_le _, rfl, by simp, rfl⟩
    case round =>
      obtain ⟨j, hj, rfl, rfl, rfl⟩ := hrel
      by_cases hlt : j < 8
      · have hcj := HCE.out (1 + j) (by omega)
        rw [HB8.out j hlt] at hcj
        have hbm := byte_mod N (8 * j)
        have HDV := Lib.hid (div_step N j)
        generalize UInt8.ofNat (N / 2 ^ (8 * j)) = ch at *
        generalize N / 2 ^ (8 * j) = X at *
        have hlj : 1 + (j : Int) < (n : Int) + 41 := by omega
        go_wp2
        exact ⟨⟨j + 1, by omega, by go_num, by rw [← HDV.out]; simp, trivial⟩, by simp [intOf]; omega⟩
      · obtain rfl : j = 8 := by omega
        go_wp2
        go_ret
        exact ⟨rfl, HB2.out.1⟩
  · clear hKS
    go_enter Tryd.func6, Tryd.ntmps6
    go_wp2_with (go_at_call 8; refine (lawake_true (ht.1.below HBX.out.1) (ht.2.below HBX.out.1)).mono ?_; rintro _ w1 ⟨rfl, hb1⟩)
    go_ret
    exact ⟨rfl, HBX.out.1.trans (hb1.mono HBX.out.1.size)⟩
end Go.Proofs.YtlkkocgjpljibaaDoor
