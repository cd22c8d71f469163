/-
  seal.keys and what it answers; seal.Name.
-/
import Derived.Test.YtlkkocgjpljibaaDoorSealCut
namespace Go.Proofs.YtlkkocgjpljibaaDoor
open Go.RowKit

/-- The two variables that a kind's keys hang on. -/
structure KeyBox (p : Nat) (k : List UInt8) (kind : UInt8) (w : World) : Prop where
  key : w.heap[p]? = some (.cells (row8 k) 23 (0, 0))
  kind : w.heap[p + 1]? = some (.cells #[.int .u8 (kind.toNat : Int)] 5 (0, 0))
theorem KeyBox.below {p : Nat} {k : List UInt8} {kind : UInt8} {w w' : World} (h : KeyBox p k kind w) (hb : Below w.heap.size w w') : KeyBox p k kind w' :=
  ⟨(hb.block _ (lt_of_cells h.key)).trans h.key, (hb.block _ (lt_of_cells h.kind)).trans h.kind⟩
theorem KeyBox.drew {p : Nat} {k : List UInt8} {kind : UInt8} {w : World} (h : KeyBox p k kind w) : KeyBox p k kind w.drew := ⟨h.key, h.kind⟩
theorem KeyBox.turned {p : Nat} {k : List UInt8} {kind : UInt8} {w w' : World} {T : Nat → Prop} (h : KeyBox p k kind w) (ht : Turned T w w') (h0 : ¬ T p) (h1 : ¬ T (p + 1)) : KeyBox p k kind w' :=
  ⟨(ht.block _ (lt_of_cells h.key) h0).trans h.key, (ht.block _ (lt_of_cells h.kind) h1).trans h.kind⟩
def keyFn (p : Nat) : Value := .func (.func 27) #[] #[.pointer (some ⟨p, 0, none⟩), .pointer (some ⟨p + 1, 0, none⟩)]

set_option maxHeartbeats 4000000 in
set_option maxRecDepth 100000 in
theorem skeys_any (k : List UInt8) (kind : UInt8) (w : World) :
    Calls Tryd.prog 15 #[.agg (row8 k), .int .u8 (kind.toNat : Int)] w fun e w' => e = .returned (keyFn w.heap.size) ∧ KeyBox w.heap.size k kind w' ∧ Below w.heap.size w w' := by
  obtain ⟨KS, hKS⟩ : ∃ KS, KS = row8 k := ⟨_, rfl⟩
  rw [← hKS]
  have HK : Hid (KeyBox w.heap.size k kind ((w.alloc (.cells KS 23)).alloc (.cells #[.int .u8 (kind.toNat : Int)] 5)) ∧ Below w.heap.size w ((w.alloc (.cells KS 23)).alloc (.cells #[.int .u8 (kind.toNat : Int)] 5))) := Lib.hid (by
    refine ⟨⟨?_, ?_⟩, ((Below.refl _ _).alloc (Nat.le_refl _) _).alloc (by simp) _⟩
    · rw [← hKS]
      exact (Below.heap_alloc _ _ _ (by simp)).trans (heap_alloc_new w _)
    · have := heap_alloc_new (w.alloc (.cells KS 23)) (.cells #[.int .u8 (kind.toNat : Int)] 5)
      simpa using this)
  clear hKS
  have hmf : ∀ (fn : Fn) (first cap : Array Value) (w : World), (Instr.makeFunc fn first cap).run Tryd.prog w = .ok (.func fn first cap) w := fun _ _ _ _ => rfl
  go_enter Tryd.func15, Tryd.ntmps15
  go_wp2_with fail
  go_ret
  exact ⟨rfl, HK.out⟩

set_option maxHeartbeats 4000000 in
set_option maxRecDepth 100000 in
theorem skey_any {w : World} (ht : Tab w) {p : Nat} {k : List UInt8} {kind : UInt8} (h : KeyBox p k kind w) (hk : k.length = 32) (l : List UInt8) (hl : l.length ≤ 1000000) :
    Calls Tryd.prog 27 #[.string (st l), .pointer (some ⟨p, 0, none⟩), .pointer (some ⟨p + 1, 0, none⟩)] w fun e w' => e = .returned (.agg (row8 (drvL k l kind.toNat))) ∧ Below w.heap.size w w' := by
  have hz := zero_key
  have hd := fun W (hT : Tab W) => mderive_any hT k hk l hl kind.toNat
  obtain ⟨KS, hKS⟩ : ∃ KS, KS = row8 k := ⟨_, rfl⟩
  obtain ⟨RS, hRS⟩ : ∃ RS, RS = row8 (drvL k l kind.toNat) := ⟨_, rfl⟩
  rw [show macL k (l ++ [0] ++ le8 kind.toNat 8) = drvL k l kind.toNat from rfl, ← hKS, ← hRS] at hd
  rw [← hRS]
  have HD := Lib.hid hd
  have HS : Hid (RS.size = 32 ∧ RS.all (·.oneCell') = true ∧ KS.size = 32) := Lib.hid ⟨by rw [hRS, row8_size, drvL_length], by rw [hRS]; exact row8_one _, by rw [hKS, row8_size, hk]⟩
  have HB : Hid (Below w.heap.size w (w.alloc (.cells zerosId 23))) := Lib.hid ((Below.refl _ _).alloc (Nat.le_refl _) _)
  have HK : Hid ((w.alloc (.cells zerosId 23)).heap[p]? = some (.cells KS 23 (0, 0))) := Lib.hid (by rw [hKS]; exact (h.below HB.out).key)
  have hk1 := (h.below HB.out).kind
  have hc1 : (w.alloc (.cells zerosId 23)).cell? ⟨p + 1, 0, none⟩ = some (.int .u8 (kind.toNat : Int)) := by rw [cell_of_cells hk1]; rfl
  have HA : Hid ((w.alloc (.cells zerosId 23)).heap[w.heap.size]? = some (.cells zerosId 23 (0, 0))) := Lib.hid (heap_alloc_new w _)
  have HT : Hid (Tab (w.alloc (.cells zerosId 23))) := Lib.hid (ht.below HB.out)
  have hw : IntKind.u64.wrap (kind.toNat : Int) = (kind.toNat : Int) := by
    have := kind.toNat_lt
    rw [IntKind.wrap_u64]
    omega
  clear hKS hRS hd hk1 h hk hl ht
  go_enter Tryd.func27, Tryd.ntmps27
  go_wp2_with (refine wpList_load_row (by rfl) 23 (.tmp 1) (by rfl) p (by rfl) 23 KS (0, 0) _ HK.out Tryd.underlying23 (by rfl) (by rw [HS.out.2.2]; exact key_info) ?_)
  refine (HD.out _ HT.out).mono ?_
  rintro _ w2 ⟨rfl, hb2⟩
  have HA2 : Hid (w2.heap[w.heap.size]? = some (.cells zerosId 23 (0, 0))) := Lib.hid ((hb2.block _ (lt_of_cells HA.out)).trans HA.out)
  have HB2 : Hid (Below w.heap.size w w2) := Lib.hid (HB.out.trans (hb2.mono HB.out.size))
  clear hb2 HA HK HB HD HT hc1
  go_wp2_with (refine wpList_store_row (by rfl) 23 (.tmp 4) (.tmp 9) (by rfl) w.heap.size RS (by rfl) (by rfl) 23 _ HA2.out (by rw [HS.out.1]; exact key_info) (by rw [HS.out.1]; rfl) HS.out.2.1 ?_)
  exact bodyPost_ret (results_cell_row rfl _ _ w.heap.size 23 RS (0, 0) _ rfl (setRow_at HA2.out) Tryd.underlying23 rfl (by rw [HS.out.1]; exact key_info)) rfl ⟨rfl, below_setRow HB2.out (Nat.le_refl _) _⟩
end Go.Proofs.YtlkkocgjpljibaaDoor
