/-
  seal: awake, the document's example at the head of each statement.
-/
import Derived.Test.YtlkkocgjpljibaaDoorSealRefOpen
import Derived.Test.YtlkkocgjpljibaaDoorSealName
import Derived.Test.YtlkkocgjpljibaaDoorSealSome
namespace Go.Proofs.YtlkkocgjpljibaaDoor
open Go.RowKit

/-- A load of a whole row by an operation whose guard says yes. -/
theorem wpList_load_row_on {P : Program} {ops : Array Oper} {rest : List Oper} {o : Oper} {a : Act} {w : World} {Q : Exit → Act → World → Prop} (hw : Region.wanted o (yielded ops a.tmps) = true) (ty : TypeId) (x : Operand) (ho : o.op = .load ty x)
    (g : Nat) (hx : a.eval x = .pointer (some ⟨g, 0, none⟩)) (t : TypeId) (cs : Array Value) (fr : Nat × Nat) (d : TypeDesc) (hg : w.heap[g]? = some (.cells cs t fr))
    (hu : P.underlying ty = some d) (hd : (match d with | .struct _ | .array _ _ => true | _ => false) = true) (hi : (P.info? ty).map (·.size) = some cs.size)
    (h : wpList P ops Q rest (a.put o.dst (.agg cs)) w) : wpList P ops Q (o :: rest) a w := by
  unfold wpList
  rw [if_pos hw]
  exact .inl (wp_load_row ty x ho g hx t cs fr d hg hu hd hi h)
/-- T{..}, its value by a closed fact, by an operation whose guard says yes. -/
theorem wpList_built_on {P : Program} {ops : Array Oper} {rest : List Oper} {o : Oper} {a : Act} {w : World} {Q : Exit → Act → World → Prop} (hw : Region.wanted o (yielded ops a.tmps) = true) (t : TypeId) (parts : Array (Nat × Operand)) (ho : o.op = .build t parts)
    (vs : List (Nat × Value)) (hv : (parts.map fun (i, x) => (i, a.eval x)).toList = vs) (Z : Array Value) (hb : P.built t vs = some Z) (h : wpList P ops Q rest (a.put o.dst (.agg Z)) w) : wpList P ops Q (o :: rest) a w := by
  unfold wpList
  rw [if_pos hw]
  refine .inl (wp_build t parts ho (by rw [hv, hb]; rfl) ?_)
  rw [hv, hb]
  exact h
theorem build_k3 : (Tryd.prog.built 23 [(0, .int .u8 3)]) = some (row8 k3) := by unfold k3 row8; kernel_rfl
theorem build_k4 : (Tryd.prog.built 23 [(0, .int .u8 4)]) = some (row8 k4) := by unfold k4 row8; kernel_rfl
theorem build_id0 : (Tryd.prog.built 34 []) = some zerosId := by unfold zerosId; kernel_rfl
def blob0 : List UInt8 := sealL k3 2 5 [97, 98, 99]
theorem blob0_length : blob0.length = 44 := by rw [blob0, sealL_length]; rfl
theorem openE_k4 : openE k4 blob0 = 20 := by
  rw [openE, if_neg (by rw [blob0_length]; omega), if_neg (by rw [blob0_length]; omega), if_neg (show ¬ Vouched k4 blob0 from k4_refuses)]

set_option maxHeartbeats 4000000 in
set_option maxRecDepth 100000 in
theorem lawake_true {w : World} (ht : Tab w) (hq : QTab w) : Calls Tryd.prog 8 #[] w fun e w' => e = .returned (.bool true) ∧ Below w.heap.size w w' := by
  have hz := zero_key
  have hz' := zero_id
  obtain ⟨KS, hKS⟩ : ∃ KS, KS = row8 k3 := ⟨_, rfl⟩
  obtain ⟨JS, hJS⟩ : ∃ JS, JS = row8 k4 := ⟨_, rfl⟩
  have hbk := build_k3
  rw [← hKS] at hbk
  have hbj := build_k4
  rw [← hJS] at hbj
  have HBK := Lib.hid (And.intro hbk (And.intro hbj build_id0))
  have HKS : Hid (KS.size = 32 ∧ KS.all (·.oneCell') = true) := Lib.hid ⟨by rw [hKS]; rfl, by rw [hKS]; exact row8_one _⟩
  obtain ⟨MS, hMS⟩ : ∃ MS, MS = row8 (macL (drvL k3 nameB 0) []) := ⟨_, rfl⟩
  have HQ : Hid (∀ w, (Op.equalIn 10000 34 (.agg MS) (.agg zerosId)).run Tryd.prog w = .ok false w) := Lib.hid fun w => by
    rw [hMS]
    exact (id_eql (macL (drvL k3 nameB 0) []) (List.replicate 32 0) (macL_length _ _) (by simp) w).trans (by rw [decide_eq_false k3_names])
  have HSE : Hid (∀ W {S : Nat → Prop} {A : Option Addr} {c : Nat}, Byt W S A 3 c [97, 98, 99] → Tab W → QTab W → Calls Tryd.prog 9 #[.agg KS, .int .u8 2, .int .u64 5, .slice A 3 c] W fun e w' => ∃ g, e = .returned (.tuple #[.slice (some ⟨g, 0, none⟩) 44 44, .int .i64 0]) ∧ Byt w' (W.heap.size ≤ ·) (some ⟨g, 0, none⟩) 44 44 blob0 ∧ Below W.heap.size W w') := Lib.hid fun W S A c h1 h2 h3 => by
    rw [hKS]
    refine (sseal_any h1 h2 h3 k3 rfl 2 5 (by omega)).mono ?_
    rintro _ w' ⟨g, rfl, hown, hb⟩
    exact ⟨g, rfl, own_byt_at hown, hb⟩
  have HOP : Hid (∀ W {S : Nat → Prop} {A : Option Addr} {c : Nat}, Byt W S A 44 c blob0 → Tab W → QTab W → Calls Tryd.prog 11 #[.agg KS, .slice A 44 c] W fun e w' => ∃ A' c', e = .returned (.tuple #[.slice A' 3 c', .int .u8 2, .int .u64 5, .int .i64 0]) ∧ Byt w' (W.heap.size ≤ ·) A' 3 c' [97, 98, 99] ∧ Below W.heap.size W w') := Lib.hid fun W S A c h1 h2 h3 => by
    rw [hKS]
    refine (sopen_any h1 h2 h3 k3 rfl).mono ?_
    rintro _ w' ⟨A', c', rfl, hY, hb⟩
    rw [blob0, openP_seal (by simp)] at hY
    exact ⟨A', c', by rw [blob0, openP_seal (by simp), openK_seal (by simp), openN_seal (by simp) (by omega), openE_seal (by simp)]; rfl, hY, hb⟩
  have HOJ : Hid (∀ W {S : Nat → Prop} {A : Option Addr} {c : Nat}, Byt W S A 44 c blob0 → Tab W → QTab W → Calls Tryd.prog 11 #[.agg JS, .slice A 44 c] W fun e w' => ∃ A' c', e = .returned (.tuple #[.slice A' 0 c', .int .u8 0, .int .u64 0, .int .i64 20]) ∧ Below W.heap.size W w') := Lib.hid fun W S A c h1 h2 h3 => by
    rw [hJS]
    refine (sopen_any h1 h2 h3 k4 rfl).mono ?_
    rintro _ w' ⟨A', c', rfl, _, hb⟩
    have h0 : openE k4 blob0 ≠ 0 := by rw [openE_k4]; decide
    exact ⟨A', c', by rw [openP_not h0, openK, if_neg h0, openN, if_neg h0, openE_k4]; rfl, hb⟩
  have HNA : Hid (∀ W, Tab W → Calls Tryd.prog 12 #[.agg KS, .slice none 0 0] W fun e w' => e = .returned (.agg MS) ∧ Below W.heap.size W w') := Lib.hid fun W h1 => by
    rw [hKS, hMS]
    exact sname_any (Byt.nil W (fun _ => True) none 0 (Nat.zero_le _)) h1 k3 rfl (by omega)
  have HT := Lib.hid (And.intro ht hq)
  clear hKS hJS hbk hbj hMS ht hq
  have HG1 := Lib.hid (heap_alloc_new w (.cells zerosId 23))
  go_enter Tryd.func8, Tryd.ntmps8
  go_upto_region 2 with (first | (refine wpList_built (by rfl) 23 #[(0, .const (.int .u8 3))] (by rfl) [(0, .int .u8 3)] (by simp [Act.eval]) KS HBK.out.1 ?_) | (refine wpList_store_row (by rfl) 23 (.tmp 1) (.tmp 12) (by rfl) w.heap.size KS (by rfl) (by rfl) 23 _ HG1.out (by rw [HKS.out.1]; exact key_info) (by rw [HKS.out.1]; rfl) HKS.out.2 ?_))
  have hb1 : Below w.heap.size w ((w.alloc (.cells zerosId 23)).setRow w.heap.size KS) := below_setRow ((Below.refl _ _).alloc (Nat.le_refl _) _) (Nat.le_refl _) _
  have hr1 := setRow_at (new := KS) HG1.out
  generalize (w.alloc (.cells zerosId 23)).setRow w.heap.size KS = w1 at *
  generalize hg1 : w.heap.size = g1 at hr1 ⊢
  have HR1 := Lib.hid (And.intro hr1 (And.intro hb1 hg1))
  clear hr1 hb1 hg1 HG1
  have kc := fun (w : World) (C : Array Value) (n c : Nat) => Lib.run_convert_bytes_const (P := Tryd.prog) w 25 5 C n c Tryd.underlying25 Tryd.underlying5
  go_wp2_with (refine wpList_load_row (by rfl) 23 (.tmp 1) (by rfl) g1 (by rfl) 23 KS (0, 0) _ HR1.out.1 Tryd.underlying23 (by rfl) (by rw [HKS.out.1]; exact key_info) ?_)
  have HY1 := Lib.hid (byt_new (w := w1) [97, 98, 99] 5 (3, 4) (by simp))
  have HB1 : Hid (Below w1.heap.size w1 (w1.alloc (.cells (u8s [97, 98, 99]).toArray 5 (3, 4)))) := Lib.hid ((Below.refl _ _).alloc (Nat.le_refl _) _)
  refine (HSE.out _ HY1.out ((HT.out.1.below HR1.out.2.1).below HB1.out) ((HT.out.2.below HR1.out.2.1).below HB1.out)).mono ?_
  rintro _ w2 ⟨g, rfl, hY2, hb2⟩
  have hb12 : Below w1.heap.size w1 w2 := HB1.out.trans (hb2.mono HB1.out.size)
  have HR2 : Hid (w2.heap[g1]? = some (.cells KS 23 (0, 0)) ∧ Below w.heap.size w w2 ∧ Byt w2 (fun _ => True) (some ⟨g, 0, none⟩) 44 44 blob0) := Lib.hid ⟨(hb12.block _ (lt_of_cells HR1.out.1)).trans HR1.out.1, HR1.out.2.1.trans (hb12.mono HR1.out.2.1.size), hY2.mono fun _ _ _ => trivial⟩
  clear hb2 hb12 hY2 HB1 HY1 HR1 HSE kc
  go_wp2_with (refine wpList_load_row (by rfl) 23 (.tmp 1) (by rfl) g1 (by rfl) 23 KS (0, 0) _ HR2.out.1 Tryd.underlying23 (by rfl) (by rw [HKS.out.1]; exact key_info) ?_)
  refine (HOP.out _ HR2.out.2.2 (HT.out.1.below HR2.out.2.1) (HT.out.2.below HR2.out.2.1)).mono ?_
  rintro _ w3 ⟨A3, c3, rfl, hY3, hb3⟩
  have HR3 : Hid (w3.heap[g1]? = some (.cells KS 23 (0, 0)) ∧ Below w.heap.size w w3 ∧ Byt w3 (fun _ => True) (some ⟨g, 0, none⟩) 44 44 blob0) := Lib.hid ⟨(hb3.block _ (lt_of_cells HR2.out.1)).trans HR2.out.1, HR2.out.2.1.trans (hb3.mono HR2.out.2.1.size), HR2.out.2.2.below hb3⟩
  have HY3 := Lib.hid hY3
  clear hb3 hY3 HR2 HOP
  go_wp2_with (refine wpList_built (by rfl) 23 #[(0, .const (.int .u8 4))] (by rfl) [(0, .int .u8 4)] (by simp [Act.eval]) JS HBK.out.2.1 ?_)
  refine (HOJ.out _ HR3.out.2.2 (HT.out.1.below HR3.out.2.1) (HT.out.2.below HR3.out.2.1)).mono ?_
  rintro _ w4 ⟨A4, c4, rfl, hb4⟩
  have HR4 : Hid (w4.heap[g1]? = some (.cells KS 23 (0, 0)) ∧ Below w.heap.size w w4) := Lib.hid ⟨(hb4.block _ (lt_of_cells HR3.out.1)).trans HR3.out.1, HR3.out.2.1.trans (hb4.mono HR3.out.2.1.size)⟩
  have hcv := byt_string (HY3.out.below hb4)
  have hs0 : ByteArray.toList ⟨#[97, 98, 99]⟩ = [97, 98, 99] := st_list [97, 98, 99]
  clear hb4 HR3 HOJ HY3
  go_wp2_with (refine wpList_load_row_on (by rfl) 23 (.tmp 1) (by rfl) g1 (by rfl) 23 KS (0, 0) _ HR4.out.1 Tryd.underlying23 (by rfl) (by rw [HKS.out.1]; exact key_info) ?_)
  refine (HNA.out _ (HT.out.1.below HR4.out.2)).mono ?_
  rintro _ w5 ⟨rfl, hb5⟩
  have HR5 : Hid (Below w.heap.size w w5) := Lib.hid (HR4.out.2.trans (hb5.mono HR4.out.2.size))
  clear hb5 HR4 hcv hs0 HNA hz hz'
  have hq := HQ.out
  go_wp2_with (refine wpList_built_on (by rfl) 34 #[] (by rfl) [] (by simp) zerosId HBK.out.2.2 ?_)
  go_ret
  exact ⟨rfl, HR5.out⟩
end Go.Proofs.YtlkkocgjpljibaaDoor
