/-
  The statement SealRaw: its walk.
-/
import Derived.Test.YtlkkocgjpljibaaDoorSealAwake
namespace Go.Proofs.YtlkkocgjpljibaaDoor
open Go.RowKit

set_option maxHeartbeats 8000000 in
set_option maxRecDepth 100000 in
theorem walk_raw {w : World} (k : List UInt8) (hk : k.length = 32) {S : Nat → Prop} {A : Option Addr} {n c : Nat} {l : List UInt8} (h : Byt w S A n c l) (ht : Tab w ∧ QTab w) :
    Calls Tryd.prog 5 #[.agg (row8 k), .slice A n c] w fun e w' => e = .returned (.bool true) ∧ Below w.heap.size w w' := by
  obtain ⟨KS, hKS⟩ : ∃ KS, KS = row8 k := ⟨_, rfl⟩
  rw [← hKS]
  have HZKS : Hid (KS.size = 32) := Lib.hid (by rw [hKS, row8_size, hk])
  have HBX : Hid (Below w.heap.size w (w.alloc (.cells KS 23)) ∧ (w.alloc (.cells KS 23)).heap[w.heap.size]? = some (.cells KS 23 (0, 0))) := Lib.hid ⟨(Below.refl _ _).alloc (Nat.le_refl _) _, heap_alloc_new w _⟩
  by_cases hn : n ≤ 300
  · obtain ⟨P, hP⟩ : ∃ P, P = openP k l := ⟨_, rfl⟩
    obtain ⟨SP, hSP⟩ : ∃ SP, SP = st P := ⟨_, rfl⟩
    obtain ⟨KK, hKK⟩ : ∃ KK, KK = ((openK k l).toNat : Int) := ⟨_, rfl⟩
    obtain ⟨NN, hNN⟩ : ∃ NN, NN = (openN k l : Int) := ⟨_, rfl⟩
    obtain ⟨EE, hEE⟩ : ∃ EE, EE = (openE k l : Int) := ⟨_, rfl⟩
    have HOP : Hid (∀ W {S : Nat → Prop} {A : Option Addr} {c : Nat}, Byt W S A n c l → Tab W → QTab W → Calls Tryd.prog 11 #[.agg KS, .slice A n c] W fun e w' => ∃ A' c', e = .returned (.tuple #[.slice A' P.length c', .int .u8 KK, .int .u64 NN, .int .i64 EE]) ∧ Byt w' (W.heap.size ≤ ·) A' P.length c' P ∧ Below W.heap.size W w') := Lib.hid fun W S A c h1 h2 h3 => by
      rw [hKS, hP, hKK, hNN, hEE]
      exact sopen_any h1 h2 h3 k hk
    have HRO : Hid (∀ W, Calls Tryd.prog 14 #[.agg KS, .string (st l)] W fun e w' => e = .returned (.tuple #[.string SP, .int .u8 KK, .int .u64 NN, .int .i64 EE]) ∧ Below W.heap.size W w') := Lib.hid fun W => by
      rw [hKS, hSP, hP, hKK, hNN, hEE]
      exact rsopen_any (by rw [h.len]; omega) k hk
    have HSP := Lib.hid hSP
    have HH := Lib.hid h
    clear hP hSP hKK hNN hEE hKS hk h
    go_enter Tryd.func5, Tryd.ntmps5
    go_wp2_with fail
    refine (lawake_true (ht.1.below HBX.out.1) (ht.2.below HBX.out.1)).mono ?_
    rintro _ w1 ⟨rfl, hb1⟩
    have HB1 : Hid (Below w.heap.size w w1 ∧ w1.heap[w.heap.size]? = some (.cells KS 23 (0, 0))) := Lib.hid ⟨HBX.out.1.trans (hb1.mono HBX.out.1.size), (hb1.block _ (lt_of_cells HBX.out.2)).trans HBX.out.2⟩
    have HT := Lib.hid ht
    clear hb1 ht HBX
    go_wp2_with (refine wpList_load_row (by rfl) 23 (.tmp 2) (by rfl) w.heap.size (by rfl) 23 KS (0, 0) _ HB1.out.2 Tryd.underlying23 (by rfl) (by rw [HZKS.out]; exact key_info) ?_)
    refine (HOP.out _ (HH.out.below HB1.out.1) (HT.out.1.below HB1.out.1) (HT.out.2.below HB1.out.1)).mono ?_
    rintro _ w2 ⟨A2, c2, rfl, hY2, hb2⟩
    have HB2 : Hid (Below w.heap.size w w2 ∧ w2.heap[w.heap.size]? = some (.cells KS 23 (0, 0))) := Lib.hid ⟨HB1.out.1.trans (hb2.mono HB1.out.1.size), (hb2.block _ (lt_of_cells HB1.out.2)).trans HB1.out.2⟩
    have HY2 := Lib.hid hY2
    have hcv2 := byt_string (HH.out.below HB2.out.1)
    rw [show (⟨l.toArray⟩ : ByteArray) = st l from rfl] at hcv2
    clear hY2 hb2 HB1 HOP
    go_wp2_with (refine wpList_load_row (by rfl) 23 (.tmp 2) (by rfl) w.heap.size (by rfl) 23 KS (0, 0) _ HB2.out.2 Tryd.underlying23 (by rfl) (by rw [HZKS.out]; exact key_info) ?_)
    refine (HRO.out _).mono ?_
    rintro _ w3 ⟨rfl, hb3⟩
    have hcv3 := byt_string (HY2.out.below hb3)
    rw [show (⟨P.toArray⟩ : ByteArray) = st P from rfl, ← HSP.out] at hcv3
    have HB3 : Hid (Below w.heap.size w w3) := Lib.hid (HB2.out.1.trans (hb3.mono HB2.out.1.size))
    clear hb3 hcv2 HB2 HRO HY2
    go_wp2_with fail
    go_ret
    exact ⟨rfl, HB3.out⟩
  · clear hKS
    go_enter Tryd.func5, Tryd.ntmps5
    go_wp2_with (go_at_call 8; refine (lawake_true (ht.1.below HBX.out.1) (ht.2.below HBX.out.1)).mono ?_; rintro _ w1 ⟨rfl, hb1⟩)
    go_ret
    exact ⟨rfl, HBX.out.1.trans (hb1.mono HBX.out.1.size)⟩
end Go.Proofs.YtlkkocgjpljibaaDoor
