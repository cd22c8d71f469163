/-
  seal.Name.
-/
import Derived.Test.YtlkkocgjpljibaaDoorSealKeys
namespace Go.Proofs.YtlkkocgjpljibaaDoor
open Go.RowKit

set_option maxHeartbeats 4000000 in
set_option maxRecDepth 100000 in
theorem sname_any {w : World} {S : Nat → Prop} {A : Option Addr} {n c : Nat} {p : List UInt8} (h : Byt w S A n c p) (ht : Tab w) (k : List UInt8) (hk : k.length = 32) (hn : n ≤ 1000000) :
    Calls Tryd.prog 12 #[.agg (row8 k), .slice A n c] w fun e w' => e = .returned (.agg (row8 (macL (drvL k nameB 0) p))) ∧ Below w.heap.size w w' := by
  have hzi := zero_id
  obtain ⟨KS, hKS⟩ : ∃ KS, KS = row8 k := ⟨_, rfl⟩
  obtain ⟨DS, hDS⟩ : ∃ DS, DS = row8 (drvL k nameB 0) := ⟨_, rfl⟩
  obtain ⟨MS, hMS⟩ : ∃ MS, MS = row8 (macL (drvL k nameB 0) p) := ⟨_, rfl⟩
  rw [← hKS, ← hMS]
  have HD : Hid (∀ W, Tab W → Calls Tryd.prog 26 #[.agg KS, .string { data := #[110, 97, 109, 101] }, .int .u64 0] W fun e w' => e = .returned (.agg DS) ∧ Below W.heap.size W w') := Lib.hid fun W hT => by
    rw [hKS, hDS]
    exact mderive_any hT k hk nameB (by decide) 0
  have HMO : Hid (∀ W {S : Nat → Prop} {A : Option Addr} {n c : Nat}, Rws W S A n c [p] → Tab W → n ≤ 1000 → Calls Tryd.prog 18 #[.agg DS, .slice A n c] W fun e w' => e = .returned (.agg MS) ∧ Below W.heap.size W w') := Lib.hid fun W S A n c h1 h2 h3 => by
    rw [hDS, hMS]
    have := mof_any h1 h2 (by omega) (by rw [List.flatten_cons, List.flatten_nil, List.append_nil, h.len]; omega) (drvL k nameB 0) (drvL_length _ _ _)
    simpa using this
  have HS : Hid (KS.size = 32 ∧ MS.size = 32 ∧ MS.all (·.oneCell') = true) := Lib.hid ⟨by rw [hKS, row8_size, hk], by rw [hMS, row8_size, macL_length], by rw [hMS]; exact row8_one _⟩
  have HH := Lib.hid (And.intro h ht)
  have HK0 : Hid (((w.alloc (.cells KS 23)).alloc (.cells zerosId 34)).heap[w.heap.size]? = some (.cells KS 23 (0, 0)) ∧ ((w.alloc (.cells KS 23)).alloc (.cells zerosId 34)).heap[w.heap.size + 1]? = some (.cells zerosId 34 (0, 0)) ∧ Below w.heap.size w ((w.alloc (.cells KS 23)).alloc (.cells zerosId 34))) := Lib.hid (by
    refine ⟨(Below.heap_alloc _ _ _ (by simp)).trans (heap_alloc_new w _), ?_, ((Below.refl _ _).alloc (Nat.le_refl _) _).alloc (by simp) _⟩
    have := heap_alloc_new (w.alloc (.cells KS 23)) (.cells zerosId 34)
    simpa using this)
  clear hKS hDS hMS h ht hk
  go_enter Tryd.func12, Tryd.ntmps12
  go_wp2_with (refine wpList_load_row (by rfl) 23 (.tmp 2) (by rfl) w.heap.size (by rfl) 23 KS (0, 0) _ HK0.out.1 Tryd.underlying23 (by rfl) (by rw [HS.out.1]; exact key_info) ?_)
  refine (HD.out _ (HH.out.2.below HK0.out.2.2)).mono ?_
  rintro _ w2 ⟨rfl, hb2⟩
  have HB2 : Hid (Below w.heap.size w w2 ∧ w2.heap[w.heap.size + 1]? = some (.cells zerosId 34 (0, 0))) := Lib.hid ⟨HK0.out.2.2.trans (hb2.mono HK0.out.2.2.size), (hb2.block _ (lt_of_cells HK0.out.2.1)).trans HK0.out.2.1⟩
  clear hb2 HK0 hzi
  have HA2 : Hid (Below w2.heap.size w2 (w2.alloc (.cells #[.slice A n c] 25))) := Lib.hid ((Below.refl _ _).alloc (Nat.le_refl _) _)
  go_wp2_with fail
  refine (HMO.out _ (rws_one (HH.out.1.below HB2.out.1)) ((HH.out.2.below HB2.out.1).below HA2.out) (by omega)).mono ?_
  rintro _ w3 ⟨rfl, hb3⟩
  have hb3 : Below w2.heap.size w2 w3 := HA2.out.trans (hb3.mono HA2.out.size)
  have HB3 : Hid (Below w.heap.size w w3 ∧ w3.heap[w.heap.size + 1]? = some (.cells zerosId 34 (0, 0))) := Lib.hid ⟨HB2.out.1.trans (hb3.mono HB2.out.1.size), (hb3.block _ (lt_of_cells HB2.out.2)).trans HB2.out.2⟩
  clear hb3 HA2 HB2
  go_wp2_with (refine wpList_store_row (by rfl) 34 (.tmp 4) (.tmp 9) (by rfl) (w.heap.size + 1) MS (by rfl) (by rfl) 34 _ HB3.out.2 (by rw [HS.out.2.1]; exact id_info) (by rw [HS.out.2.1]; rfl) HS.out.2.2 ?_)
  exact bodyPost_ret (results_cell_row rfl _ _ (w.heap.size + 1) 34 MS (0, 0) _ rfl (setRow_at HB3.out.2) Tryd.underlying34 rfl (by rw [HS.out.2.1]; exact id_info)) rfl ⟨rfl, below_setRow HB3.out.1 (by omega) _⟩
end Go.Proofs.YtlkkocgjpljibaaDoor
