/-
  The document's example at the head of each statement.
-/
import Derived.Test.YtmgglcllfpikcaaDoorChaRefOver
namespace Go.Proofs.YtmgglcllfpikcaaDoor
open Go.RowKit

def zeros32k : Array Value := (u8s (List.replicate 32 0)).toArray
def zeros12k : Array Value := (u8s (List.replicate 12 0)).toArray
theorem zero32k : ∀ W, (zeroValue 23).run Tryd.prog W = .ok (.agg zeros32k) W := fun W => by unfold zeros32k; kernel_rfl
theorem zero12k : ∀ W, (zeroValue 24).run Tryd.prog W = .ok (.agg zeros12k) W := fun W => by unfold zeros12k; kernel_rfl
def k1 : List UInt8 := 1 :: List.replicate 31 0
def n2 : List UInt8 := 2 :: List.replicate 11 0
def k0 : List UInt8 := List.replicate 32 0
def n0 : List UInt8 := List.replicate 12 0
theorem build_k1 : (Tryd.prog.built 23 [(0, .int .u8 1)]) = some (row8 k1) := by unfold k1 row8; kernel_rfl
theorem build_n2 : (Tryd.prog.built 24 [(0, .int .u8 2)]) = some (row8 n2) := by unfold n2 row8; kernel_rfl
theorem build_k0 : (Tryd.prog.built 23 []) = some (row8 k0) := by unfold k0 row8; kernel_rfl
theorem build_n0 : (Tryd.prog.built 24 []) = some (row8 n0) := by unfold n0 row8; kernel_rfl
theorem over_some : overL k1 n2 [97, 98, 99] ≠ [97, 98, 99] := by decide +kernel
theorem part_some : (partL k0 n0 (BitVec.ofNat 32 0))[0]?.getD 0 = 118 ∧ (partL k0 n0 (BitVec.ofNat 32 0))[1]?.getD 0 = 184 ∧ (partL k0 n0 (BitVec.ofNat 32 0))[63]?.getD 0 = 134 := by decide +kernel
set_option maxHeartbeats 4000000 in
set_option maxRecDepth 100000 in
theorem awake_true {w : World} (ht : QTab w) : Calls Tryd.prog 8 #[] w fun e w' => e = .returned (.bool true) ∧ Below w.heap.size w w' := by
  have hz := zero32k
  have hz6 := zero64q
  obtain ⟨KS, hKS⟩ : ∃ KS, KS = row8 k1 := ⟨_, rfl⟩
  obtain ⟨NS, hNS⟩ : ∃ NS, NS = row8 n2 := ⟨_, rfl⟩
  obtain ⟨KZ, hKZ⟩ : ∃ KZ, KZ = row8 k0 := ⟨_, rfl⟩
  obtain ⟨NZ, hNZ⟩ : ∃ NZ, NZ = row8 n0 := ⟨_, rfl⟩
  obtain ⟨X1, hX1⟩ : ∃ X1, X1 = overL k1 n2 [97, 98, 99] := ⟨_, rfl⟩
  obtain ⟨PL, hPL⟩ : ∃ PL, PL = partL k0 n0 (BitVec.ofNat 32 0) := ⟨_, rfl⟩
  obtain ⟨PS, hPS⟩ : ∃ PS, PS = row8 PL := ⟨_, rfl⟩
  have hpl : PL.length = 64 := by rw [hPL]; exact partL_length _ _ _
  have HBU : Hid ((Tryd.prog.built 23 [(0, .int .u8 1)]) = some KS ∧ (Tryd.prog.built 24 [(0, .int .u8 2)]) = some NS ∧ (Tryd.prog.built 23 []) = some KZ ∧ (Tryd.prog.built 24 []) = some NZ) := Lib.hid (by
    rw [hKS, hNS, hKZ, hNZ]
    exact ⟨build_k1, build_n2, build_k0, build_n0⟩)
  have HKS : Hid (KS.size = 32 ∧ KS.all (·.oneCell') = true) := Lib.hid (by rw [hKS]; exact ⟨rfl, row8_one _⟩)
  have HPS : Hid (PS.size = 64 ∧ PS.all (·.oneCell') = true) := Lib.hid (by rw [hPS]; exact ⟨by rw [row8_size, hpl], row8_one _⟩)
  have HOV : Hid (∀ W {S : Nat → Prop} {A : Option Addr} {n c : Nat} {b : List UInt8}, Byt W S A n c b → QTab W → n ≤ 1000 → Calls Tryd.prog 11 #[.agg KS, .agg NS, .slice A n c] W fun e w' => ∃ A' c', e = .returned (.slice A' n c') ∧ Byt w' (W.heap.size ≤ ·) A' n c' (overL k1 n2 b) ∧ Below W.heap.size W w') := Lib.hid fun W S A n c b h1 h2 h3 => by
    rw [hKS, hNS]
    exact over_any h1 k1 n2 rfl rfl h2 (by omega)
  have HPA : Hid (∀ W, QTab W → Calls Tryd.prog 9 #[.agg KZ, .agg NZ, .int .u32 0] W fun e w' => e = .returned (.agg PS) ∧ Below W.heap.size W w') := Lib.hid fun W h => by
    rw [hKZ, hNZ, hPS, hPL]
    exact part_any k0 n0 rfl rfl (BitVec.ofNat 32 0) h
  have HX1 : Hid (Unit → overL k1 n2 [97, 98, 99] = X1 ∧ overL k1 n2 X1 = [97, 98, 99] ∧ X1 ≠ [97, 98, 99] ∧ X1.length = 3) := Lib.hid fun _ => ⟨hX1.symm, by rw [hX1, over_twice], by rw [hX1]; exact over_some, by rw [hX1, overL_length]; rfl⟩
  have HPP : Hid (Unit → PL[0]?.getD 0 = 118 ∧ PL[1]?.getD 0 = 184 ∧ PL[63]?.getD 0 = 134 ∧ PS = row8 PL ∧ PL.length = 64) := Lib.hid fun _ => ⟨by rw [hPL]; exact part_some.1, by rw [hPL]; exact part_some.2.1, by rw [hPL]; exact part_some.2.2, hPS, hpl⟩
  have HT := Lib.hid ht
  clear hKS hNS hKZ hNZ hX1 hPL hPS hpl ht
  have kc := fun (w : World) (C : Array Value) (n c : Nat) => Lib.run_convert_bytes_const (P := Tryd.prog) w 30 5 C n c Tryd.underlying30 Tryd.underlying5
  have HG1 := Lib.hid (heap_alloc_new w (.cells zeros32k 23))
  go_enter Tryd.func8, Tryd.ntmps8
  go_upto_region 2 with (first | (refine wpList_built (by rfl) 23 #[(0, .const (.int .u8 1))] (by rfl) [(0, .int .u8 1)] (by simp [Act.eval]) KS HBU.out.1 ?_) | (refine wpList_store_row (by rfl) 23 (.tmp 1) (.tmp 5) (by rfl) w.heap.size KS (by rfl) (by rfl) 23 _ HG1.out (by rw [HKS.out.1]; exact info32s) (by rw [HKS.out.1]; rfl) HKS.out.2 ?_))
  have hb1 : Below w.heap.size w ((w.alloc (.cells zeros32k 23)).setRow w.heap.size KS) := below_setRow ((Below.refl _ _).alloc (Nat.le_refl _) _) (Nat.le_refl _) _
  have HR1 : Hid (((w.alloc (.cells zeros32k 23)).setRow w.heap.size KS).heap[w.heap.size]? = some (.cells KS 23 (0, 0)) ∧ Below w.heap.size w ((w.alloc (.cells zeros32k 23)).setRow w.heap.size KS)) := Lib.hid ⟨setRow_at HG1.out, hb1⟩
  clear hb1 HG1
  generalize (w.alloc (.cells zeros32k 23)).setRow w.heap.size KS = w1 at *
  obtain ⟨g1, hg1⟩ : ∃ g1, g1 = w.heap.size := ⟨_, rfl⟩
  have HR1 : Hid (w1.heap[g1]? = some (.cells KS 23 (0, 0)) ∧ Below w.heap.size w w1) := Lib.hid ⟨by rw [hg1]; exact HR1.out.1, HR1.out.2⟩
  rw [← hg1]
  clear hg1
  go_upto_region 3 with (first | (refine wpList_load_row (by rfl) 23 (.tmp 1) (by rfl) g1 (by rfl) 23 KS (0, 0) _ HR1.out.1 Tryd.underlying23 (by rfl) (by rw [HKS.out.1]; exact info32s) ?_) | (refine wpList_built (by rfl) 24 #[(0, .const (.int .u8 2))] (by rfl) [(0, .int .u8 2)] (by simp [Act.eval]) NS HBU.out.2.1 ?_))
  have hb12 : Below w1.heap.size w1 (w1.alloc (.cells (u8s [97, 98, 99]).toArray 5 (3, 4))) := (Below.refl _ _).alloc (Nat.le_refl _) _
  refine (HOV.out _ (byt_new (w := w1) [97, 98, 99] 5 (3, 4) (by simp)) ((HT.out.below HR1.out.2).below hb12) (by simp)).mono ?_
  rintro _ w2 ⟨A2, c2, rfl, hy2, hb2⟩
  have hb2 : Below w1.heap.size w1 w2 := hb12.trans (hb2.mono hb12.size)
  rw [(HX1.out ()).1] at hy2
  have HR2 : Hid (w2.heap[g1]? = some (.cells KS 23 (0, 0)) ∧ Below w.heap.size w w2 ∧ Byt w2 (fun _ => True) A2 3 c2 X1) := Lib.hid ⟨(hb2.block _ (lt_of_cells HR1.out.1)).trans HR1.out.1, HR1.out.2.trans (hb2.mono HR1.out.2.size), hy2.mono fun _ _ _ => trivial⟩
  clear hb12 hb2 hy2 HR1 kc
  go_upto_region 4 with (first | (refine wpList_load_row (by rfl) 23 (.tmp 1) (by rfl) g1 (by rfl) 23 KS (0, 0) _ HR2.out.1 Tryd.underlying23 (by rfl) (by rw [HKS.out.1]; exact info32s) ?_) | (refine wpList_built (by rfl) 24 #[(0, .const (.int .u8 2))] (by rfl) [(0, .int .u8 2)] (by simp [Act.eval]) NS HBU.out.2.1 ?_) | (go_at_call 11; refine (HOV.out _ HR2.out.2.2 (HT.out.below HR2.out.2.1) (by omega)).mono ?_; rintro _ w3 ⟨A3, c3, rfl, hy3, hb3⟩))
  rw [(HX1.out ()).2.1] at hy3
  have HR3 : Hid (Below w.heap.size w w3 ∧ Byt w3 (fun _ => True) A2 3 c2 X1 ∧ Byt w3 (fun _ => True) A3 3 c3 [97, 98, 99]) := Lib.hid ⟨HR2.out.2.1.trans (hb3.mono HR2.out.2.1.size), HR2.out.2.2.below hb3, hy3.mono fun _ _ _ => trivial⟩
  clear hb3 hy3 HR2
  go_wp2_with (first | (refine wpList_built (by rfl) 23 #[] (by rfl) [] (by simp) KZ HBU.out.2.2.1 ?_) | (refine wpList_built (by rfl) 24 #[] (by rfl) [] (by simp) NZ HBU.out.2.2.2 ?_))
  refine (HPA.out _ (HT.out.below HR3.out.1)).mono ?_
  rintro _ w4 ⟨rfl, hb4⟩
  have HG4 := Lib.hid (heap_alloc_new w4 (.cells zeros64q 27))
  go_upto_region 5 with (refine wpList_store_row (by rfl) 27 (.tmp 4) (.tmp 17) (by rfl) w4.heap.size PS (by rfl) (by rfl) 27 _ HG4.out (by rw [HPS.out.1]; exact info64q) (by rw [HPS.out.1]; rfl) HPS.out.2 ?_)
  have hb5 : Below w3.heap.size w3 ((w4.alloc (.cells zeros64q 27)).setRow w4.heap.size PS) := hb4.trans ((below_setRow ((Below.refl _ _).alloc (Nat.le_refl _) _) (Nat.le_refl _) _ : Below w4.heap.size w4 _).mono hb4.size)
  have h5 := setRow_at (new := PS) HG4.out
  have HF : Hid (Below w.heap.size w ((w4.alloc (.cells zeros64q 27)).setRow w4.heap.size PS)) := Lib.hid (HR3.out.1.trans (hb5.mono HR3.out.1.size))
  have hy2 := HR3.out.2.1.below hb5
  have hy3 := HR3.out.2.2.below hb5
  clear hb4 hb5 HG4 HR3
  generalize (w4.alloc (.cells zeros64q 27)).setRow w4.heap.size PS = w5 at *
  generalize w4.heap.size = g5 at *
  have hcv2 := byt_string hy2
  have hcv3 := byt_string hy3
  rw [(HPP.out ()).2.2.2.1] at h5
  have p0 := u8s_cell h5 0 (by rw [(HPP.out ()).2.2.2.2]; omega)
  have p1 := u8s_cell h5 1 (by rw [(HPP.out ()).2.2.2.2]; omega)
  have p63 := u8s_cell h5 63 (by rw [(HPP.out ()).2.2.2.2]; omega)
  rw [(HPP.out ()).1] at p0
  rw [(HPP.out ()).2.1] at p1
  rw [(HPP.out ()).2.2.1] at p63
  clear h5 hy2 hy3
  have hne : (X1 == [97, 98, 99]) = false := beq_eq_false_iff_ne.2 (HX1.out ()).2.2.1
  go_wp2_with fail
  go_ret
  exact ⟨rfl, HF.out⟩
end Go.Proofs.YtmgglcllfpikcaaDoor
