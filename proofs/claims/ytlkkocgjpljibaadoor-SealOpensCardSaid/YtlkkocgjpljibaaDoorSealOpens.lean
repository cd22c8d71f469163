/-
  The statement SealOpens: its walk.
-/
import Derived.Test.YtlkkocgjpljibaaDoorSealOpensB
namespace Go.Proofs.YtlkkocgjpljibaaDoor
open Go.RowKit

set_option maxHeartbeats 8000000 in
set_option maxRecDepth 100000 in
theorem walk_opens {w : World} (k : List UInt8) (hk : k.length = 32) (j : List UInt8) (hj : j.length = 32) {S : Nat → Prop} {A : Option Addr} {n c : Nat} {l : List UInt8} (h : Byt w S A n c l) {kx : Int} (hkd0 : (Lit.int .u8 kx).wf = true) {nx : Int} (hnx0 : (Lit.int .u64 nx).wf = true)
    {ax : Int} (hax0 : (Lit.int .u16 ax).wf = true) {xx : Int} (hxx0 : (Lit.int .u8 xx).wf = true) {cx : Int} (hcx0 : (Lit.int .u16 cx).wf = true) (same : Bool) (ht : Tab w ∧ QTab w) :
    Calls Tryd.prog 4 #[.agg (row8 k), .agg (row8 j), .slice A n c, .int .u8 kx, .int .u64 nx, .int .u16 ax, .int .u8 xx, .int .u16 cx, .bool same] w fun e w' => e = .returned (.bool true) ∧ Below w.heap.size w w' := by
  have hkd := bounds_u8 hkd0
  obtain ⟨kd, rfl⟩ : ∃ kd : UInt8, kx = (kd.toNat : Int) := ⟨UInt8.ofNat kx.toNat, by simp; omega⟩
  have hnx := bounds_u64 hnx0
  obtain ⟨N, rfl⟩ : ∃ N : Nat, nx = (N : Int) := ⟨nx.toNat, by omega⟩
  have HN64 : Hid (N < 18446744073709551616) := Lib.hid (by omega)
  have hax := bounds_u16 hax0
  obtain ⟨a, rfl⟩ : ∃ a : Nat, ax = (a : Int) := ⟨ax.toNat, by omega⟩
  have hxx := bounds_u8 hxx0
  obtain ⟨x, rfl⟩ : ∃ x : UInt8, xx = (x.toNat : Int) := ⟨UInt8.ofNat xx.toNat, by simp; omega⟩
  have hcx := bounds_u16 hcx0
  obtain ⟨ct, rfl⟩ : ∃ ct : Nat, cx = (ct : Int) := ⟨cx.toNat, by omega⟩
  have ha : a < 65536 := by omega
  have hct : ct < 65536 := by omega
  by_cases hn : n ≤ 300
  · by_cases hpar : ct % 2 = 1
    · cases same
      · by_cases hE : openE j (cutB ct (spoilt k kd N l a x)) = 0
        · exact opens_ody k hk j hj h hn kd N a ha x ct hct hpar hE ht
        · exact opens_odn k hk j hj h hn kd N a ha x ct hct hpar hE ht
      · by_cases hE : openE k (cutB ct (spoilt k kd N l a x)) = 0
        · exact opens_osy k hk j hj h hn kd N a ha x ct hct hpar hE ht
        · exact opens_osn k hk j hj h hn kd N a ha x ct hct hpar hE ht
    · have hpar : ct % 2 = 0 := by omega
      cases same
      · by_cases hE : openE j (cutB ct (spoilt k kd N l a x)) = 0
        · exact opens_edy k hk j hj h hn kd N a ha x ct hct hpar hE ht
        · exact opens_edn k hk j hj h hn kd N a ha x ct hct hpar hE ht
      · by_cases hE : openE k (cutB ct (spoilt k kd N l a x)) = 0
        · exact opens_esy k hk j hj h hn kd N a ha x ct hct hpar hE ht
        · exact opens_esn k hk j hj h hn kd N a ha x ct hct hpar hE ht
  · clear hkd hnx hkd0 hnx0 hax hax0 hxx hxx0 hcx hcx0 HN64 ha hct
    obtain ⟨KS, hKS⟩ : ∃ KS, KS = row8 k := ⟨_, rfl⟩
    rw [← hKS]
    have HZKS : Hid (KS.size = 32) := Lib.hid (by rw [hKS, row8_size, hk])
    obtain ⟨JS, hJS⟩ : ∃ JS, JS = row8 j := ⟨_, rfl⟩
    rw [← hJS]
    have HZJS : Hid (JS.size = 32) := Lib.hid (by rw [hJS, row8_size, hj])
    have HBX : Hid (Below w.heap.size w ((w.alloc (.cells KS 23)).alloc (.cells JS 23)) ∧ ((w.alloc (.cells KS 23)).alloc (.cells JS 23)).heap[w.heap.size]? = some (.cells KS 23 (0, 0)) ∧ ((w.alloc (.cells KS 23)).alloc (.cells JS 23)).heap[w.heap.size + 1]? = some (.cells JS 23 (0, 0))) := Lib.hid (by
      refine ⟨((Below.refl _ _).alloc (Nat.le_refl _) _).alloc (by simp) _, (Below.heap_alloc _ _ _ (by simp)).trans (heap_alloc_new w _), ?_⟩
      have := heap_alloc_new (w.alloc (.cells KS 23)) (.cells JS 23)
      simpa using this)
    clear hKS hJS HZKS HZJS
    go_enter Tryd.func4, Tryd.ntmps4
    go_wp2_with (go_at_call 8; refine (lawake_true (ht.1.below HBX.out.1) (ht.2.below HBX.out.1)).mono ?_; rintro _ w1 ⟨rfl, hb1⟩)
    go_ret
    exact ⟨rfl, HBX.out.1.trans (hb1.mono HBX.out.1.size)⟩
end Go.Proofs.YtlkkocgjpljibaaDoor
