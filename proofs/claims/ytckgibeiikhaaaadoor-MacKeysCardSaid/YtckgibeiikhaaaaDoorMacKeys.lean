/-
  The statement MacKeys: its walk.
-/
import Derived.Test.YtckgibeiikhaaaaDoorMacAwake
namespace Go.Proofs.YtckgibeiikhaaaaDoor
open Go.RowKit

theorem wpList_load_row_k {P : Program} {ops : Array Oper} {rest : List Oper} {o : Oper} {a : Act} {w : World} {Q : Exit → Act → World → Prop} (hgd : o.guard = none) (ty : TypeId) (x : Operand) (ho : o.op = .load ty x)
    (g : Nat) (hx : a.eval x = .pointer (some ⟨g, 0, none⟩)) (t : TypeId) (cs : Array Value) (hg : w.heap[g]? = some (.cells cs t (0, 0))) {n : Nat} {e : TypeId}
    (hu : P.underlying ty = some (.array n e)) (hi : (P.info? ty).map (·.size) = some n) (hs : cs.size = n)
    (h : wpList P ops Q rest (a.put o.dst (.agg cs)) w) : wpList P ops Q (o :: rest) a w := wpList_load_row hgd ty x ho g hx t cs (0, 0) _ hg hu rfl (by rw [hs]; exact hi) h

set_option maxHeartbeats 8000000 in
set_option maxRecDepth 100000 in
theorem walk_keys {w : World} {S : Nat → Prop} {A : Option Addr} {n c : Nat} {l : List UInt8} (k : List UInt8) (hk : k.length = 32) {at_ n0 : Int} (hat : (Lit.int .u8 at_).wf = true) (h : Byt w S A n c l) (hn0 : (Lit.int .u64 n0).wf = true) (ht : Tab w) :
    Calls Tryd.prog 7 #[.agg (row8 k), .int .u8 at_, .slice A n c, .int .u64 n0] w fun e w' => e = .returned (.bool true) ∧ Below w.heap.size w w' := by
  have hb8 := bounds_u8 hat
  have hb64 := bounds_u64 hn0
  have hzi := zero_id
  have hzk := zero_key
  obtain ⟨N, rfl⟩ : ∃ N : Nat, n0 = (N : Int) := ⟨n0.toNat, by omega⟩
  have HNB : Hid (N < 18446744073709551616) := Lib.hid (by omega)
  obtain ⟨i, hi⟩ : ∃ i : Nat, at_ / 8 % 32 = (i : Int) := ⟨(at_ / 8 % 32).toNat, by omega⟩
  have hi32 : i < 32 := by omega
  obtain ⟨e, he⟩ : ∃ e : Nat, at_ % 8 = (e : Int) := ⟨(at_ % 8).toNat, by omega⟩
  have he8 : e < 8 := by omega
  obtain ⟨x, hx⟩ : ∃ x : UInt8, (2 ^ e % 256 : Int) = (x.toNat : Int) := ⟨UInt8.ofNat (2 ^ e % 256), by simp⟩
  obtain ⟨v, hv⟩ : ∃ v, v = (k[i]?.getD 0) ^^^ x := ⟨_, rfl⟩
  obtain ⟨k2, hk2⟩ : ∃ k2, k2 = k.set i v := ⟨_, rfl⟩
  have hxv := xor8 (k[i]?.getD 0) x
  rw [← hv] at hxv
  obtain ⟨y, hy⟩ : ∃ y, y = k[i]?.getD 0 := ⟨_, rfl⟩
  rw [← hy] at hxv
  have hkl2 : k2.length = 32 := by rw [hk2, List.length_set, hk]
  have HYB := Lib.hid (And.intro hy hk2)
  obtain ⟨JS, hJS⟩ : ∃ JS, JS = row8 k2 := ⟨_, rfl⟩
  have HJS : Hid (JS.size = 32 ∧ JS = row8 k2 ∧ k2.length = 32) := Lib.hid ⟨by rw [hJS, row8_size, hkl2], hJS, hkl2⟩
  have HJA : Hid (JS.all (·.oneCell') = true) := Lib.hid (by rw [hJS]; exact row8_one _)
  have HKA : Hid ((row8 k).all (·.oneCell') = true) := Lib.hid (row8_one _)
  obtain ⟨KS, hKS⟩ : ∃ KS, KS = row8 k := ⟨_, rfl⟩
  rw [← hKS] at HKA ⊢
  have HKS : Hid (KS.size = 32 ∧ KS = row8 k ∧ k.length = 32) := Lib.hid ⟨by rw [hKS, row8_size, hk], hKS, hk⟩
  clear hKS hk hat hn0 hb64 hv hk2 hy hkl2 hJS
  by_cases hn : n ≤ 150
  · have hlen := h.len
    obtain ⟨XS, hXS⟩ : ∃ XS, XS = row8 (macL k l) := ⟨_, rfl⟩
    obtain ⟨YS, hYS⟩ : ∃ YS, YS = row8 (macL k2 l) := ⟨_, rfl⟩
    obtain ⟨DS, hDS⟩ : ∃ DS, DS = row8 (macL k2 (l ++ [0] ++ le8 N 8)) := ⟨_, rfl⟩
    obtain ⟨z, hz⟩ : ∃ z, z = decide (macL k l = macL k2 l) := ⟨_, rfl⟩
    have HXS : Hid (XS.size = 32 ∧ XS.all (·.oneCell') = true ∧ XS = row8 (macL k l)) := Lib.hid ⟨by rw [hXS, row8_size, macL_length], by rw [hXS]; exact row8_one _, hXS⟩
    have HYS : Hid (YS.size = 32 ∧ YS.all (·.oneCell') = true ∧ YS = row8 (macL k2 l)) := Lib.hid ⟨by rw [hYS, row8_size, macL_length], by rw [hYS]; exact row8_one _, hYS⟩
    have HDS := Lib.hid hDS
    have HQX : Hid (∀ w, (Op.equalIn 10000 27 (.agg XS) (.agg XS)).run Tryd.prog w = .ok true w) := Lib.hid fun w => by rw [hXS]; exact (id_eql _ _ (macL_length _ _) (macL_length _ _) w).trans (by simp)
    have HQY : Hid (∀ w, (Op.equalIn 10000 27 (.agg YS) (.agg YS)).run Tryd.prog w = .ok true w) := Lib.hid fun w => by rw [hYS]; exact (id_eql _ _ (macL_length _ _) (macL_length _ _) w).trans (by simp)
    have HQXY : Hid (∀ w, (Op.equalIn 10000 27 (.agg XS) (.agg YS)).run Tryd.prog w = .ok z w) := Lib.hid fun w => by rw [hXS, hYS, hz]; exact id_eql _ _ (macL_length _ _) (macL_length _ _) w
    have HQD : Hid (∀ w, (Op.equalIn 10000 23 (.agg DS) (.agg DS)).run Tryd.prog w = .ok true w) := Lib.hid fun w => by rw [hDS]; exact (key_eql _ _ (macL_length _ _) (macL_length _ _) w).trans (by simp)
    have HSM : Hid (∀ W, Calls Tryd.prog 13 #[.agg XS, .agg YS] W fun e w' => e = .returned (.bool z) ∧ Below W.heap.size W w') := Lib.hid fun W => by
      rw [hXS, hYS, hz]
      exact same_any _ _ (macL_length _ _) (macL_length _ _) W
    clear hXS hYS hDS hz
    have HBX : Hid (Below w.heap.size w (w.alloc (.cells KS 23)) ∧ (w.alloc (.cells KS 23)).heap[w.heap.size]? = some (.cells KS 23 (0, 0))) := Lib.hid ⟨(Below.refl _ _).alloc (Nat.le_refl _) _, heap_alloc_new w _⟩
    go_enter Tryd.func7, Tryd.ntmps7
    go_wp2_with fail
    refine (mawake_true (ht.below HBX.out.1)).mono ?_
    rintro _ w1 ⟨rfl, hb1⟩
    have HB1 : Hid (Below w.heap.size w w1 ∧ w1.heap[w.heap.size]? = some (.cells KS 23 (0, 0))) := Lib.hid ⟨HBX.out.1.trans (hb1.mono HBX.out.1.size), (hb1.block _ (lt_of_cells HBX.out.2)).trans HBX.out.2⟩
    have HG2 := Lib.hid (heap_alloc_new w1 (.cells zerosId 23))
    have hlt1 := lt_of_cells HB1.out.2
    have HA2 : Hid ((w1.alloc (.cells zerosId 23)).heap[w.heap.size]? = some (.cells KS 23 (0, 0))) := Lib.hid ((Below.heap_alloc _ _ _ hlt1).trans HB1.out.2)
    have HH := Lib.hid (And.intro (h.below HB1.out.1) (ht.below HB1.out.1))
    clear hb1 h ht HBX
    go_upto_region 7 with (first | (refine wpList_load_row_k (by rfl) 23 (.tmp 4) (by rfl) w.heap.size (by rfl) 23 KS HB1.out.2 Tryd.underlying23 key_info HKS.out.1 ?_) | (refine wpList_store_row (by rfl) 23 (.tmp 10) (.tmp 19) (by rfl) w1.heap.size KS (by rfl) (by rfl) 23 _ HG2.out (by rw [HKS.out.1]; exact key_info) (by rw [HKS.out.1]; rfl) HKA.out ?_))
    have h8 := setRow_at (new := KS) HG2.out
    have h0 : ((w1.alloc (.cells zerosId 23)).setRow w1.heap.size KS).heap[w.heap.size]? = some (.cells KS 23 (0, 0)) := by
      simp only [World.setRow, Array.getElem?_modify]
      rw [if_neg (by omega)]
      exact HA2.out
    have hbl2 : Below w1.heap.size w1 ((w1.alloc (.cells zerosId 23)).setRow w1.heap.size KS) := below_setRow ((Below.refl _ _).alloc (Nat.le_refl _) _) (Nat.le_refl _) _
    generalize (w1.alloc (.cells zerosId 23)).setRow w1.heap.size KS = w2 at *
    rw [HKS.out.2.1] at h8
    have hcell := u8s_cell h8 i (by rw [HKS.out.2.2]; exact hi32)
    rw [← HYB.out.1] at hcell
    have hfree := free_of_cells h8 i
    have h8' : (w2.setCell ⟨w1.heap.size, i, none⟩ (.int .u8 (v.toNat : Int))).heap[w1.heap.size]? = some (.cells JS 23 (0, 0)) := by
      rw [HJS.out.2.1, HYB.out.2]
      exact u8s_cells_set h8 i v
    have h0' : (w2.setCell ⟨w1.heap.size, i, none⟩ (.int .u8 (v.toNat : Int))).heap[w.heap.size]? = some (.cells KS 23 (0, 0)) := (Below.heap_setCell _ _ _ _ (by dsimp only; omega)).trans h0
    have HW : Hid (Below w1.heap.size w1 (w2.setCell ⟨w1.heap.size, i, none⟩ (.int .u8 (v.toNat : Int))) ∧ (w2.setCell ⟨w1.heap.size, i, none⟩ (.int .u8 (v.toNat : Int))).heap[w.heap.size]? = some (.cells KS 23 (0, 0)) ∧ (w2.setCell ⟨w1.heap.size, i, none⟩ (.int .u8 (v.toNat : Int))).heap[w1.heap.size]? = some (.cells JS 23 (0, 0))) := Lib.hid ⟨hbl2.setCell (by simp) _, h0', h8'⟩
    clear h8 h0 hbl2 h8' h0' HG2 HA2 hzk
    go_upto_region 8 with fail
    generalize w2.setCell ⟨w1.heap.size, i, none⟩ (.int .u8 (v.toNat : Int)) = w3 at *
    clear hcell hfree hxv hx
    obtain ⟨g10, hg10⟩ : ∃ g10, g10 = w1.heap.size := ⟨_, rfl⟩
    obtain ⟨q0, hq0⟩ : ∃ q0, q0 = w.heap.size := ⟨_, rfl⟩
    have HW3 : Hid (Below w.heap.size w w3 ∧ w3.heap[q0]? = some (.cells KS 23 (0, 0)) ∧ w3.heap[g10]? = some (.cells JS 23 (0, 0))) := Lib.hid (by rw [hq0, hg10]; exact ⟨HB1.out.1.trans (HW.out.1.mono HB1.out.1.size), HW.out.2⟩)
    have HH3 := Lib.hid (And.intro (HH.out.1.below HW.out.1) (HH.out.2.below HW.out.1))
    rw [← hq0, ← hg10]
    have HQ0 := Lib.hid (And.intro hq0 hlt1)
    clear hq0 hg10 hlt1
    clear HW HH
    have hb4 : Below w3.heap.size w3 (w3.alloc (.cells #[.slice A n c] 26)) := (Below.refl _ _).alloc (Nat.le_refl _) _
    have hof := mof_any (rws_one HH3.out.1) (HH3.out.2.below hb4) (by omega) (by simp; omega) k HKS.out.2.2
    rw [show ([l] : List (List UInt8)).flatten = l by simp, ← HXS.out.2.2, ← HKS.out.2.1] at hof
    have HB4 := Lib.hid hb4
    clear hb4
    go_wp2_with (refine wpList_load_row_k (by rfl) 23 (.tmp 4) (by rfl) q0 (by rfl) 23 KS HW3.out.2.1 Tryd.underlying23 key_info HKS.out.1 ?_)
    refine hof.mono ?_
    rintro _ w4 ⟨rfl, hb4⟩
    have hb4 := HB4.out.trans (hb4.mono HB4.out.size)
    have HW4 : Hid (Below w.heap.size w w4 ∧ w4.heap[q0]? = some (.cells KS 23 (0, 0)) ∧ w4.heap[g10]? = some (.cells JS 23 (0, 0))) := Lib.hid ⟨HW3.out.1.trans (hb4.mono HW3.out.1.size), (hb4.block _ (lt_of_cells HW3.out.2.1)).trans HW3.out.2.1, (hb4.block _ (lt_of_cells HW3.out.2.2)).trans HW3.out.2.2⟩
    have HH4 := Lib.hid (And.intro (HH3.out.1.below hb4) (HH3.out.2.below hb4))
    clear hb4 hof HB4
    have HG4 := Lib.hid (heap_alloc_new w4 (.cells zerosId 27))
    go_upto_region 9 with (refine wpList_store_row (by rfl) 27 (.tmp 11) (.tmp 35) (by rfl) w4.heap.size XS (by rfl) (by rfl) 27 _ HG4.out (by rw [HXS.out.1]; exact id_info) (by rw [HXS.out.1]; rfl) HXS.out.2.1 ?_)
    have hx5 := setRow_at (new := XS) HG4.out
    have e5 : ∀ b, b < w4.heap.size → ((w4.alloc (.cells zerosId 27)).setRow w4.heap.size XS).heap[b]? = w4.heap[b]? := fun b hb => by
      simp only [World.setRow, Array.getElem?_modify]
      rw [if_neg (by omega)]
      exact Below.heap_alloc _ _ _ hb
    have hb5 : Below w4.heap.size w4 ((w4.alloc (.cells zerosId 27)).setRow w4.heap.size XS) := below_setRow ((Below.refl _ _).alloc (Nat.le_refl _) _) (Nat.le_refl _) _
    generalize (w4.alloc (.cells zerosId 27)).setRow w4.heap.size XS = w5 at *
    have HW5 : Hid (Below w.heap.size w w5 ∧ w5.heap[q0]? = some (.cells KS 23 (0, 0)) ∧ w5.heap[g10]? = some (.cells JS 23 (0, 0))) := Lib.hid ⟨HW4.out.1.trans (hb5.mono HW4.out.1.size), (e5 _ (lt_of_cells HW4.out.2.1)).trans HW4.out.2.1, (e5 _ (lt_of_cells HW4.out.2.2)).trans HW4.out.2.2⟩
    have HH5 := Lib.hid (And.intro (HH4.out.1.below hb5) (HH4.out.2.below hb5))
    clear hb5 e5 HG4
    generalize w4.heap.size = g11 at *
    have HX5 := Lib.hid hx5
    clear hx5
    have hb6 : Below w5.heap.size w5 (w5.alloc (.cells #[.slice A n c] 26)) := (Below.refl _ _).alloc (Nat.le_refl _) _
    have hof := mof_any (rws_one HH5.out.1) (HH5.out.2.below hb6) (by omega) (by simp; omega) k2 HJS.out.2.2
    rw [show ([l] : List (List UInt8)).flatten = l by simp, ← HYS.out.2.2, ← HJS.out.2.1] at hof
    have HB6 := Lib.hid hb6
    clear hb6
    go_wp2_with (refine wpList_load_row_k (by rfl) 23 (.tmp 10) (by rfl) g10 (by rfl) 23 JS HW5.out.2.2 Tryd.underlying23 key_info HJS.out.1 ?_)
    refine hof.mono ?_
    rintro _ w6 ⟨rfl, hb6⟩
    have hb6 := HB6.out.trans (hb6.mono HB6.out.size)
    have HW6 : Hid (Below w.heap.size w w6 ∧ w6.heap[q0]? = some (.cells KS 23 (0, 0)) ∧ w6.heap[g10]? = some (.cells JS 23 (0, 0)) ∧ w6.heap[g11]? = some (.cells XS 27 (0, 0))) := Lib.hid ⟨HW5.out.1.trans (hb6.mono HW5.out.1.size), (hb6.block _ (lt_of_cells HW5.out.2.1)).trans HW5.out.2.1, (hb6.block _ (lt_of_cells HW5.out.2.2)).trans HW5.out.2.2, (hb6.block _ (lt_of_cells HX5.out)).trans HX5.out⟩
    have HH6 := Lib.hid (And.intro (HH5.out.1.below hb6) (HH5.out.2.below hb6))
    clear hb6 hof HB6
    have HG6 := Lib.hid (heap_alloc_new w6 (.cells zerosId 27))
    go_upto_region 10 with (refine wpList_store_row (by rfl) 27 (.tmp 12) (.tmp 39) (by rfl) w6.heap.size YS (by rfl) (by rfl) 27 _ HG6.out (by rw [HYS.out.1]; exact id_info) (by rw [HYS.out.1]; rfl) HYS.out.2.1 ?_)
    have hy7 := setRow_at (new := YS) HG6.out
    have e7 : ∀ b, b < w6.heap.size → ((w6.alloc (.cells zerosId 27)).setRow w6.heap.size YS).heap[b]? = w6.heap[b]? := fun b hb => by
      simp only [World.setRow, Array.getElem?_modify]
      rw [if_neg (by omega)]
      exact Below.heap_alloc _ _ _ hb
    have hb7 : Below w6.heap.size w6 ((w6.alloc (.cells zerosId 27)).setRow w6.heap.size YS) := below_setRow ((Below.refl _ _).alloc (Nat.le_refl _) _) (Nat.le_refl _) _
    generalize (w6.alloc (.cells zerosId 27)).setRow w6.heap.size YS = w7 at *
    have HW7 : Hid (Below w.heap.size w w7) := Lib.hid (HW6.out.1.trans (hb7.mono HW6.out.1.size))
    have h7 : w7.heap[q0]? = some (.cells KS 23 (0, 0)) ∧ w7.heap[g10]? = some (.cells JS 23 (0, 0)) ∧ w7.heap[g11]? = some (.cells XS 27 (0, 0)) := ⟨(e7 _ (lt_of_cells HW6.out.2.1)).trans HW6.out.2.1, (e7 _ (lt_of_cells HW6.out.2.2.1)).trans HW6.out.2.2.1, (e7 _ (lt_of_cells HW6.out.2.2.2)).trans HW6.out.2.2.2⟩
    have HBKS : Hid (q0 < w7.drew.heap.size ∧ w7.drew.heap[q0]? = some (.cells KS 23 (0, 0))) := Lib.hid ⟨lt_of_cells h7.1, h7.1⟩
    have HBJS : Hid (g10 < w7.drew.heap.size ∧ w7.drew.heap[g10]? = some (.cells JS 23 (0, 0))) := Lib.hid ⟨lt_of_cells h7.2.1, h7.2.1⟩
    have HBXS : Hid (g11 < w7.drew.heap.size ∧ w7.drew.heap[g11]? = some (.cells XS 27 (0, 0))) := Lib.hid ⟨lt_of_cells h7.2.2, h7.2.2⟩
    have HBYS : Hid (w6.heap.size < w7.drew.heap.size ∧ w7.drew.heap[w6.heap.size]? = some (.cells YS 27 (0, 0))) := Lib.hid ⟨lt_of_cells hy7, hy7⟩
    have HY : Hid (∀ W, Below w7.drew.heap.size w7.drew W → Byt W S A n c l ∧ Tab W) := Lib.hid fun W hW => ⟨(HH6.out.1.below hb7).below (Grow.below_of_drew hW), (HH6.out.2.below hb7).below (Grow.below_of_drew hW)⟩
    clear hy7 e7 hb7 h7 HG6
    generalize w6.heap.size = g12 at *
    clear hzi
    refine wp_region_grow (fun W W' => Below W.heap.size W W') (Grow.nth [fun v _ => v = .agg XS, fun v _ => v = .agg KS, fun v _ => v = .slice A n c, fun v _ => v = .string (st l), fun v _ => v = .agg XS, fun v _ => v = .bool true, fun v _ => v = .bool true, fun v _ => v = .agg YS, fun v _ => v = .agg JS, fun v _ => v = .slice A n c, fun v _ => v = .string (st l), fun v _ => v = .agg YS, fun v _ => v = .bool true, fun v _ => v = .bool true, fun v _ => v = .bool true, fun v _ => v = .agg JS, fun v _ => v = .slice A n c, fun v _ => v = .string (st l), fun v _ => v = .int .u64 (N : Int), fun v _ => v = .agg DS, fun v _ => v = .agg JS, fun v _ => v = .slice A n c, fun v _ => v = .string (st l), fun v _ => v = .int .u64 (N : Int), fun v _ => v = .agg DS, fun v _ => v = .bool true, fun v _ => v = .bool true, fun v _ => v = .bool true, fun v _ => v = .agg XS, fun v _ => v = .agg YS, fun v _ => v = .bool z, fun v _ => v = .agg XS, fun v _ => v = .agg YS, fun v _ => v = .bool z, fun v _ => v = .bool true, fun v _ => v = .bool true, fun v _ => v = .bool true]) 76 (by kernel_rfl) (by kernel_rfl) (by rfl) (fun W => Below.refl _ W) (fun _ _ _ h1 h2 => h1.trans (h2.mono h1.size)) (Grow.mono_nth ?gmono) ?gsteps ?gfin
    case gmono => exact ⟨fun _ _ _ h _ => h, fun _ _ _ h _ => h, fun _ _ _ h _ => h, fun _ _ _ h _ => h, fun _ _ _ h _ => h, fun _ _ _ h _ => h, fun _ _ _ h _ => h, fun _ _ _ h _ => h, fun _ _ _ h _ => h, fun _ _ _ h _ => h, fun _ _ _ h _ => h, fun _ _ _ h _ => h, fun _ _ _ h _ => h, fun _ _ _ h _ => h, fun _ _ _ h _ => h, fun _ _ _ h _ => h, fun _ _ _ h _ => h, fun _ _ _ h _ => h, fun _ _ _ h _ => h, fun _ _ _ h _ => h, fun _ _ _ h _ => h, fun _ _ _ h _ => h, fun _ _ _ h _ => h, fun _ _ _ h _ => h, fun _ _ _ h _ => h, fun _ _ _ h _ => h, fun _ _ _ h _ => h, fun _ _ _ h _ => h, fun _ _ _ h _ => h, fun _ _ _ h _ => h, fun _ _ _ h _ => h, fun _ _ _ h _ => h, fun _ _ _ h _ => h, fun _ _ _ h _ => h, fun _ _ _ h _ => h, fun _ _ _ h _ => h, fun _ _ _ h _ => h, trivial⟩
    case gsteps =>
      show Grow.allBelow _ 37
      refine And.intro ?_ ?s36
      refine And.intro ?_ ?s35
      refine And.intro ?_ ?s34
      refine And.intro ?_ ?s33
      refine And.intro ?_ ?s32
      refine And.intro ?_ ?s31
      refine And.intro ?_ ?s30
      refine And.intro ?_ ?s29
      refine And.intro ?_ ?s28
      refine And.intro ?_ ?s27
      refine And.intro ?_ ?s26
      refine And.intro ?_ ?s25
      refine And.intro ?_ ?s24
      refine And.intro ?_ ?s23
      refine And.intro ?_ ?s22
      refine And.intro ?_ ?s21
      refine And.intro ?_ ?s20
      refine And.intro ?_ ?s19
      refine And.intro ?_ ?s18
      refine And.intro ?_ ?s17
      refine And.intro ?_ ?s16
      refine And.intro ?_ ?s15
      refine And.intro ?_ ?s14
      refine And.intro ?_ ?s13
      refine And.intro ?_ ?s12
      refine And.intro ?_ ?s11
      refine And.intro ?_ ?s10
      refine And.intro ?_ ?s9
      refine And.intro ?_ ?s8
      refine And.intro ?_ ?s7
      refine And.intro ?_ ?s6
      refine And.intro ?_ ?s5
      refine And.intro ?_ ?s4
      refine And.intro ?_ ?s3
      refine And.intro ?_ ?s2
      refine And.intro ?_ ?s1
      refine And.intro ?_ ?s0
      exact trivial
      case s0 =>
        refine Grow.step_in (by rfl) (by rfl) ?_
        intro E W ec eg ef hG hd hu R HR
        have e11 : E (.tmp 11) = .pointer (some ⟨g11, 0, none⟩) := hu 11 (by kernel_rfl)
        clear hd hu
        exact runs_load 27 (.tmp 11) rfl (g11) e11 XS (0, 0) ((hG.block _ HBXS.out.1).trans HBXS.out.2) Tryd.underlying27 (by rw [HXS.out.1]; exact id_info) (HR.out _ _ (Below.refl _ _) rfl)
      case s1 =>
        refine Grow.step_in (by rfl) (by rfl) ?_
        intro E W ec eg ef hG hd hu R HR
        have e4 : E (.tmp 4) = .pointer (some ⟨q0, 0, none⟩) := hu 4 (by kernel_rfl)
        clear hd hu
        exact runs_load 23 (.tmp 4) rfl (q0) e4 KS (0, 0) ((hG.block _ HBKS.out.1).trans HBKS.out.2) Tryd.underlying23 (by rw [HKS.out.1]; exact key_info) (HR.out _ _ (Below.refl _ _) rfl)
      case s2 =>
        refine Grow.step_in (by rfl) (by rfl) ?_
        intro E W ec eg ef hG hd hu R HR
        have e2 : E (.tmp 2) = .slice A n c := hu 2 (by kernel_rfl)
        clear hd hu
        go_simp
        exact HR.out _ _ (Below.refl _ _) rfl
      case s3 =>
        refine Grow.step_in (by rfl) (by rfl) ?_
        intro E W ec eg ef hG hd hu R HR
        have e42 : E (.tmp 42) = .slice A n c := hd 2 42 (by kernel_rfl)
        clear hd hu
        have hs := byt_string (HY.out W hG).1
        go_simp
        exact HR.out _ _ (Below.refl _ _) rfl
      case s4 =>
        refine Grow.step_in (by rfl) (by rfl) ?_
        intro E W ec eg ef hG hd hu R HR
        have e41 : E (.tmp 41) = .agg KS := hd 1 41 (by kernel_rfl)
        have e43 : E (.tmp 43) = .string (st l) := hd 3 43 (by kernel_rfl)
        clear hd hu
        go_simp
        rw [HKS.out.2.1]
        refine (rofm_any k HKS.out.2.2 l (by omega) W).mono ?_
        rintro _ w' ⟨rfl, hb⟩
        exact ⟨_, rfl, HR.out _ _ hb (show _ = _ by rw [HXS.out.2.2])⟩
      case s5 =>
        refine Grow.step_in (by rfl) (by rfl) ?_
        intro E W ec eg ef hG hd hu R HR
        have e40 : E (.tmp 40) = .agg XS := hd 0 40 (by kernel_rfl)
        have e44 : E (.tmp 44) = .agg XS := hd 4 44 (by kernel_rfl)
        clear hd hu
        have hq := HQX.out
        go_simp
        exact HR.out _ _ (Below.refl _ _) rfl
      case s6 =>
        refine Grow.step_in (by rfl) (by rfl) ?_
        intro E W ec eg ef hG hd hu R HR
        have e45 : E (.tmp 45) = .bool true := hd 5 45 (by kernel_rfl)
        clear hd hu
        go_simp
        exact HR.out _ _ (Below.refl _ _) rfl
      case s7 =>
        refine Grow.step_on (g := 6) (b := true) (d := 46) (by rfl) (by rfl) (by rfl) (by kernel_rfl) (fun v W h => h) ?_
        intro E W ec eg ef hG hd hu R HR
        have e12 : E (.tmp 12) = .pointer (some ⟨g12, 0, none⟩) := hu 12 (by kernel_rfl)
        clear hd hu
        exact runs_load 27 (.tmp 12) rfl (g12) e12 YS (0, 0) ((hG.block _ HBYS.out.1).trans HBYS.out.2) Tryd.underlying27 (by rw [HYS.out.1]; exact id_info) (HR.out _ _ (Below.refl _ _) rfl)
      case s8 =>
        refine Grow.step_on (g := 6) (b := true) (d := 46) (by rfl) (by rfl) (by rfl) (by kernel_rfl) (fun v W h => h) ?_
        intro E W ec eg ef hG hd hu R HR
        have e10 : E (.tmp 10) = .pointer (some ⟨g10, 0, none⟩) := hu 10 (by kernel_rfl)
        clear hd hu
        exact runs_load 23 (.tmp 10) rfl (g10) e10 JS (0, 0) ((hG.block _ HBJS.out.1).trans HBJS.out.2) Tryd.underlying23 (by rw [HJS.out.1]; exact key_info) (HR.out _ _ (Below.refl _ _) rfl)
      case s9 =>
        refine Grow.step_on (g := 6) (b := true) (d := 46) (by rfl) (by rfl) (by rfl) (by kernel_rfl) (fun v W h => h) ?_
        intro E W ec eg ef hG hd hu R HR
        have e2 : E (.tmp 2) = .slice A n c := hu 2 (by kernel_rfl)
        clear hd hu
        go_simp
        exact HR.out _ _ (Below.refl _ _) rfl
      case s10 =>
        refine Grow.step_on (g := 6) (b := true) (d := 46) (by rfl) (by rfl) (by rfl) (by kernel_rfl) (fun v W h => h) ?_
        intro E W ec eg ef hG hd hu R HR
        have e49 : E (.tmp 49) = .slice A n c := hd 9 49 (by kernel_rfl)
        clear hd hu
        have hs := byt_string (HY.out W hG).1
        go_simp
        exact HR.out _ _ (Below.refl _ _) rfl
      case s11 =>
        refine Grow.step_on (g := 6) (b := true) (d := 46) (by rfl) (by rfl) (by rfl) (by kernel_rfl) (fun v W h => h) ?_
        intro E W ec eg ef hG hd hu R HR
        have e48 : E (.tmp 48) = .agg JS := hd 8 48 (by kernel_rfl)
        have e50 : E (.tmp 50) = .string (st l) := hd 10 50 (by kernel_rfl)
        clear hd hu
        go_simp
        rw [HJS.out.2.1]
        refine (rofm_any k2 HJS.out.2.2 l (by omega) W).mono ?_
        rintro _ w' ⟨rfl, hb⟩
        exact ⟨_, rfl, HR.out _ _ hb (show _ = _ by rw [HYS.out.2.2])⟩
      case s12 =>
        refine Grow.step_on (g := 6) (b := true) (d := 46) (by rfl) (by rfl) (by rfl) (by kernel_rfl) (fun v W h => h) ?_
        intro E W ec eg ef hG hd hu R HR
        have e47 : E (.tmp 47) = .agg YS := hd 7 47 (by kernel_rfl)
        have e51 : E (.tmp 51) = .agg YS := hd 11 51 (by kernel_rfl)
        clear hd hu
        have hq := HQY.out
        go_simp
        exact HR.out _ _ (Below.refl _ _) rfl
      case s13 =>
        refine Grow.step_in (by rfl) (by rfl) ?_
        intro E W ec eg ef hG hd hu R HR
        have e46 : E (.tmp 46) = .bool true := hd 6 46 (by kernel_rfl)
        have e52 : E (.tmp 52) = .bool true := hd 12 52 (by kernel_rfl)
        clear hd hu
        go_simp
        exact HR.out _ _ (Below.refl _ _) rfl
      case s14 =>
        refine Grow.step_in (by rfl) (by rfl) ?_
        intro E W ec eg ef hG hd hu R HR
        have e53 : E (.tmp 53) = .bool true := hd 13 53 (by kernel_rfl)
        clear hd hu
        go_simp
        exact HR.out _ _ (Below.refl _ _) rfl
      case s15 =>
        refine Grow.step_on (g := 14) (b := true) (d := 54) (by rfl) (by rfl) (by rfl) (by kernel_rfl) (fun v W h => h) ?_
        intro E W ec eg ef hG hd hu R HR
        have e10 : E (.tmp 10) = .pointer (some ⟨g10, 0, none⟩) := hu 10 (by kernel_rfl)
        clear hd hu
        exact runs_load 23 (.tmp 10) rfl (g10) e10 JS (0, 0) ((hG.block _ HBJS.out.1).trans HBJS.out.2) Tryd.underlying23 (by rw [HJS.out.1]; exact key_info) (HR.out _ _ (Below.refl _ _) rfl)
      case s16 =>
        refine Grow.step_on (g := 14) (b := true) (d := 54) (by rfl) (by rfl) (by rfl) (by kernel_rfl) (fun v W h => h) ?_
        intro E W ec eg ef hG hd hu R HR
        have e2 : E (.tmp 2) = .slice A n c := hu 2 (by kernel_rfl)
        clear hd hu
        go_simp
        exact HR.out _ _ (Below.refl _ _) rfl
      case s17 =>
        refine Grow.step_on (g := 14) (b := true) (d := 54) (by rfl) (by rfl) (by rfl) (by kernel_rfl) (fun v W h => h) ?_
        intro E W ec eg ef hG hd hu R HR
        have e56 : E (.tmp 56) = .slice A n c := hd 16 56 (by kernel_rfl)
        clear hd hu
        have hs := byt_string (HY.out W hG).1
        go_simp
        exact HR.out _ _ (Below.refl _ _) rfl
      case s18 =>
        refine Grow.step_on (g := 14) (b := true) (d := 54) (by rfl) (by rfl) (by rfl) (by kernel_rfl) (fun v W h => h) ?_
        intro E W ec eg ef hG hd hu R HR
        have e3 : E (.tmp 3) = .int .u64 (N : Int) := hu 3 (by kernel_rfl)
        clear hd hu
        go_simp
        exact HR.out _ _ (Below.refl _ _) rfl
      case s19 =>
        refine Grow.step_on (g := 14) (b := true) (d := 54) (by rfl) (by rfl) (by rfl) (by kernel_rfl) (fun v W h => h) ?_
        intro E W ec eg ef hG hd hu R HR
        have e55 : E (.tmp 55) = .agg JS := hd 15 55 (by kernel_rfl)
        have e57 : E (.tmp 57) = .string (st l) := hd 17 57 (by kernel_rfl)
        have e58 : E (.tmp 58) = .int .u64 (N : Int) := hd 18 58 (by kernel_rfl)
        clear hd hu
        go_simp
        rw [HJS.out.2.1]
        refine (mderive_any (HY.out W hG).2 k2 HJS.out.2.2 l (by omega) N).mono ?_
        rintro _ w' ⟨rfl, hb⟩
        exact ⟨_, rfl, HR.out _ _ hb (show _ = _ by rw [HDS.out])⟩
      case s20 =>
        refine Grow.step_on (g := 14) (b := true) (d := 54) (by rfl) (by rfl) (by rfl) (by kernel_rfl) (fun v W h => h) ?_
        intro E W ec eg ef hG hd hu R HR
        have e10 : E (.tmp 10) = .pointer (some ⟨g10, 0, none⟩) := hu 10 (by kernel_rfl)
        clear hd hu
        exact runs_load 23 (.tmp 10) rfl (g10) e10 JS (0, 0) ((hG.block _ HBJS.out.1).trans HBJS.out.2) Tryd.underlying23 (by rw [HJS.out.1]; exact key_info) (HR.out _ _ (Below.refl _ _) rfl)
      case s21 =>
        refine Grow.step_on (g := 14) (b := true) (d := 54) (by rfl) (by rfl) (by rfl) (by kernel_rfl) (fun v W h => h) ?_
        intro E W ec eg ef hG hd hu R HR
        have e2 : E (.tmp 2) = .slice A n c := hu 2 (by kernel_rfl)
        clear hd hu
        go_simp
        exact HR.out _ _ (Below.refl _ _) rfl
      case s22 =>
        refine Grow.step_on (g := 14) (b := true) (d := 54) (by rfl) (by rfl) (by rfl) (by kernel_rfl) (fun v W h => h) ?_
        intro E W ec eg ef hG hd hu R HR
        have e61 : E (.tmp 61) = .slice A n c := hd 21 61 (by kernel_rfl)
        clear hd hu
        have hs := byt_string (HY.out W hG).1
        go_simp
        exact HR.out _ _ (Below.refl _ _) rfl
      case s23 =>
        refine Grow.step_on (g := 14) (b := true) (d := 54) (by rfl) (by rfl) (by rfl) (by kernel_rfl) (fun v W h => h) ?_
        intro E W ec eg ef hG hd hu R HR
        have e3 : E (.tmp 3) = .int .u64 (N : Int) := hu 3 (by kernel_rfl)
        clear hd hu
        go_simp
        exact HR.out _ _ (Below.refl _ _) rfl
      case s24 =>
        refine Grow.step_on (g := 14) (b := true) (d := 54) (by rfl) (by rfl) (by rfl) (by kernel_rfl) (fun v W h => h) ?_
        intro E W ec eg ef hG hd hu R HR
        have e60 : E (.tmp 60) = .agg JS := hd 20 60 (by kernel_rfl)
        have e62 : E (.tmp 62) = .string (st l) := hd 22 62 (by kernel_rfl)
        have e63 : E (.tmp 63) = .int .u64 (N : Int) := hd 23 63 (by kernel_rfl)
        clear hd hu
        go_simp
        rw [HJS.out.2.1]
        refine (rderive_any k2 HJS.out.2.2 l (by omega) N HNB.out W).mono ?_
        rintro _ w' ⟨rfl, hb⟩
        exact ⟨_, rfl, HR.out _ _ hb (show _ = _ by rw [HDS.out])⟩
      case s25 =>
        refine Grow.step_on (g := 14) (b := true) (d := 54) (by rfl) (by rfl) (by rfl) (by kernel_rfl) (fun v W h => h) ?_
        intro E W ec eg ef hG hd hu R HR
        have e59 : E (.tmp 59) = .agg DS := hd 19 59 (by kernel_rfl)
        have e64 : E (.tmp 64) = .agg DS := hd 24 64 (by kernel_rfl)
        clear hd hu
        have hq := HQD.out
        go_simp
        exact HR.out _ _ (Below.refl _ _) rfl
      case s26 =>
        refine Grow.step_in (by rfl) (by rfl) ?_
        intro E W ec eg ef hG hd hu R HR
        have e54 : E (.tmp 54) = .bool true := hd 14 54 (by kernel_rfl)
        have e65 : E (.tmp 65) = .bool true := hd 25 65 (by kernel_rfl)
        clear hd hu
        go_simp
        exact HR.out _ _ (Below.refl _ _) rfl
      case s27 =>
        refine Grow.step_in (by rfl) (by rfl) ?_
        intro E W ec eg ef hG hd hu R HR
        have e66 : E (.tmp 66) = .bool true := hd 26 66 (by kernel_rfl)
        clear hd hu
        go_simp
        exact HR.out _ _ (Below.refl _ _) rfl
      case s28 =>
        refine Grow.step_on (g := 27) (b := true) (d := 67) (by rfl) (by rfl) (by rfl) (by kernel_rfl) (fun v W h => h) ?_
        intro E W ec eg ef hG hd hu R HR
        have e11 : E (.tmp 11) = .pointer (some ⟨g11, 0, none⟩) := hu 11 (by kernel_rfl)
        clear hd hu
        exact runs_load 27 (.tmp 11) rfl (g11) e11 XS (0, 0) ((hG.block _ HBXS.out.1).trans HBXS.out.2) Tryd.underlying27 (by rw [HXS.out.1]; exact id_info) (HR.out _ _ (Below.refl _ _) rfl)
      case s29 =>
        refine Grow.step_on (g := 27) (b := true) (d := 67) (by rfl) (by rfl) (by rfl) (by kernel_rfl) (fun v W h => h) ?_
        intro E W ec eg ef hG hd hu R HR
        have e12 : E (.tmp 12) = .pointer (some ⟨g12, 0, none⟩) := hu 12 (by kernel_rfl)
        clear hd hu
        exact runs_load 27 (.tmp 12) rfl (g12) e12 YS (0, 0) ((hG.block _ HBYS.out.1).trans HBYS.out.2) Tryd.underlying27 (by rw [HYS.out.1]; exact id_info) (HR.out _ _ (Below.refl _ _) rfl)
      case s30 =>
        refine Grow.step_on (g := 27) (b := true) (d := 67) (by rfl) (by rfl) (by rfl) (by kernel_rfl) (fun v W h => h) ?_
        intro E W ec eg ef hG hd hu R HR
        have e68 : E (.tmp 68) = .agg XS := hd 28 68 (by kernel_rfl)
        have e69 : E (.tmp 69) = .agg YS := hd 29 69 (by kernel_rfl)
        clear hd hu
        go_simp
        refine (HSM.out W).mono ?_
        rintro _ w' ⟨rfl, hb⟩
        exact ⟨_, rfl, HR.out _ _ hb (rfl)⟩
      case s31 =>
        refine Grow.step_on (g := 27) (b := true) (d := 67) (by rfl) (by rfl) (by rfl) (by kernel_rfl) (fun v W h => h) ?_
        intro E W ec eg ef hG hd hu R HR
        have e11 : E (.tmp 11) = .pointer (some ⟨g11, 0, none⟩) := hu 11 (by kernel_rfl)
        clear hd hu
        exact runs_load 27 (.tmp 11) rfl (g11) e11 XS (0, 0) ((hG.block _ HBXS.out.1).trans HBXS.out.2) Tryd.underlying27 (by rw [HXS.out.1]; exact id_info) (HR.out _ _ (Below.refl _ _) rfl)
      case s32 =>
        refine Grow.step_on (g := 27) (b := true) (d := 67) (by rfl) (by rfl) (by rfl) (by kernel_rfl) (fun v W h => h) ?_
        intro E W ec eg ef hG hd hu R HR
        have e12 : E (.tmp 12) = .pointer (some ⟨g12, 0, none⟩) := hu 12 (by kernel_rfl)
        clear hd hu
        exact runs_load 27 (.tmp 12) rfl (g12) e12 YS (0, 0) ((hG.block _ HBYS.out.1).trans HBYS.out.2) Tryd.underlying27 (by rw [HYS.out.1]; exact id_info) (HR.out _ _ (Below.refl _ _) rfl)
      case s33 =>
        refine Grow.step_on (g := 27) (b := true) (d := 67) (by rfl) (by rfl) (by rfl) (by kernel_rfl) (fun v W h => h) ?_
        intro E W ec eg ef hG hd hu R HR
        have e71 : E (.tmp 71) = .agg XS := hd 31 71 (by kernel_rfl)
        have e72 : E (.tmp 72) = .agg YS := hd 32 72 (by kernel_rfl)
        clear hd hu
        have hq := HQXY.out
        go_simp
        exact HR.out _ _ (Below.refl _ _) rfl
      case s34 =>
        refine Grow.step_on (g := 27) (b := true) (d := 67) (by rfl) (by rfl) (by rfl) (by kernel_rfl) (fun v W h => h) ?_
        intro E W ec eg ef hG hd hu R HR
        have e70 : E (.tmp 70) = .bool z := hd 30 70 (by kernel_rfl)
        have e73 : E (.tmp 73) = .bool z := hd 33 73 (by kernel_rfl)
        clear hd hu
        go_simp
        exact HR.out _ _ (Below.refl _ _) rfl
      case s35 =>
        refine Grow.step_in (by rfl) (by rfl) ?_
        intro E W ec eg ef hG hd hu R HR
        have e67 : E (.tmp 67) = .bool true := hd 27 67 (by kernel_rfl)
        have e74 : E (.tmp 74) = .bool true := hd 34 74 (by kernel_rfl)
        clear hd hu
        go_simp
        exact HR.out _ _ (Below.refl _ _) rfl
      case s36 =>
        refine Grow.step_in (by rfl) (by rfl) ?_
        intro E W ec eg ef hG hd hu R HR
        have e75 : E (.tmp 75) = .bool true := hd 35 75 (by kernel_rfl)
        clear hd hu
        go_simp
        exact HR.out _ _ (Below.refl _ _) rfl
    case gfin =>
      intro W hG
      refine Grow.fin_dst (by rfl) ?_
      rintro _ rfl
      refine Grow.fin_dst (by rfl) ?_
      rintro _ rfl
      refine Grow.fin_dst (by rfl) ?_
      rintro _ rfl
      refine Grow.fin_dst (by rfl) ?_
      rintro _ rfl
      refine Grow.fin_dst (by rfl) ?_
      rintro _ rfl
      refine Grow.fin_dst (by rfl) ?_
      rintro _ rfl
      refine Grow.fin_dst (by rfl) ?_
      rintro _ rfl
      refine Grow.fin_dst (by rfl) ?_
      rintro _ rfl
      refine Grow.fin_dst (by rfl) ?_
      rintro _ rfl
      refine Grow.fin_dst (by rfl) ?_
      rintro _ rfl
      refine Grow.fin_dst (by rfl) ?_
      rintro _ rfl
      refine Grow.fin_dst (by rfl) ?_
      rintro _ rfl
      refine Grow.fin_dst (by rfl) ?_
      rintro _ rfl
      refine Grow.fin_dst (by rfl) ?_
      rintro _ rfl
      refine Grow.fin_dst (by rfl) ?_
      rintro _ rfl
      refine Grow.fin_dst (by rfl) ?_
      rintro _ rfl
      refine Grow.fin_dst (by rfl) ?_
      rintro _ rfl
      refine Grow.fin_dst (by rfl) ?_
      rintro _ rfl
      refine Grow.fin_dst (by rfl) ?_
      rintro _ rfl
      refine Grow.fin_dst (by rfl) ?_
      rintro _ rfl
      refine Grow.fin_dst (by rfl) ?_
      rintro _ rfl
      refine Grow.fin_dst (by rfl) ?_
      rintro _ rfl
      refine Grow.fin_dst (by rfl) ?_
      rintro _ rfl
      refine Grow.fin_dst (by rfl) ?_
      rintro _ rfl
      refine Grow.fin_dst (by rfl) ?_
      rintro _ rfl
      refine Grow.fin_dst (by rfl) ?_
      rintro _ rfl
      refine Grow.fin_dst (by rfl) ?_
      rintro _ rfl
      refine Grow.fin_dst (by rfl) ?_
      rintro _ rfl
      refine Grow.fin_dst (by rfl) ?_
      rintro _ rfl
      refine Grow.fin_dst (by rfl) ?_
      rintro _ rfl
      refine Grow.fin_dst (by rfl) ?_
      rintro _ rfl
      refine Grow.fin_dst (by rfl) ?_
      rintro _ rfl
      refine Grow.fin_dst (by rfl) ?_
      rintro _ rfl
      refine Grow.fin_dst (by rfl) ?_
      rintro _ rfl
      refine Grow.fin_dst (by rfl) ?_
      rintro _ rfl
      refine Grow.fin_dst (by rfl) ?_
      rintro _ rfl
      refine Grow.fin_dst (by rfl) ?_
      rintro _ rfl
      simp only [Act.put, List.setIfInBounds_toArray, List.set_cons_zero, List.set_cons_succ]
      refine Grow.fin_end ?_
      have HBW := Lib.hid (HW7.out.trans ((Grow.below_of_drew hG).mono HW7.out.size))
      clear hG
      go_wp2_with fail
      go_ret
      exact ⟨rfl, HBW.out⟩
  · go_enter Tryd.func7, Tryd.ntmps7
    have HBX : Hid (Below w.heap.size w (w.alloc (.cells KS 23))) := Lib.hid ((Below.refl _ _).alloc (Nat.le_refl _) _)
    go_wp2_with (go_at_call 8; refine (mawake_true (ht.below HBX.out)).mono ?_; rintro _ w1 ⟨rfl, hb1⟩)
    go_ret
    exact ⟨rfl, HBX.out.trans (hb1.mono HBX.out.size)⟩
end Go.Proofs.YtckgibeiikhaaaaDoor
