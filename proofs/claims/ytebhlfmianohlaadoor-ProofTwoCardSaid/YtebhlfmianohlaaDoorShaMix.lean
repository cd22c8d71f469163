/-
  digest.sum.mix: the numbers go their rounds for a block.
-/
import Derived.Test.YtebhlfmianohlaaDoorCells
import Derived.Test.YtebhlfmianohlaaDoorSha
import Derived.StillTailTactics
import Derived.Deep.DeepCutAuto
namespace Go.Proofs.YtebhlfmianohlaaDoor
open Go.RowKit


/-- THE STRUCT AT BLOCK p IS A DIGEST UNDER WAY: its numbers, the bytes of its part, how many of them count, how many there were. -/
structure Sum (w : World) (p : Nat) (H : List (BitVec 32)) (b : List UInt8) (hv al : Nat) : Prop where
  cells : w.heap[p]? = some (.cells (u32s H ++ (u8s b ++ [Value.int .i64 hv, Value.int .u64 al])).toArray 83 (0, 0))
  eight : H.length = 8
  part : b.length = 64
section
variable {w w' : World} {p : Nat} {H : List (BitVec 32)} {b : List UInt8} {hv al : Nat}
theorem Sum.lt (h : Sum w p H b hv al) : p < w.heap.size := lt_of_cells h.cells
theorem Sum.free (h : Sum w p H b hv al) (i : Nat) : w.frozen? ⟨p, i, none⟩ = false := free_of_cells h.cells i
theorem Sum.word (h : Sum w p H b hv al) (i : Nat) (hi : i < 8) : w.cell? ⟨p, i, none⟩ = some (.int .u32 (nv (H[i]?.getD 0))) := by
  have h8 := h.eight
  rw [cell_of_cells h.cells, List.getElem?_toArray, List.getElem?_append_left (by rw [u32s_length]; omega), u32s_at H i (by omega)]
theorem Sum.byte (h : Sum w p H b hv al) (i : Nat) (hi : i < 64) : w.cell? ⟨p, 8 + i, none⟩ = some (.int .u8 ((b[i]?.getD 0).toNat : Int)) := by
  have h8 := h.eight
  have h9 := h.part
  rw [cell_of_cells h.cells, List.getElem?_toArray, List.getElem?_append_right (by rw [u32s_length]; omega), u32s_length, h8, Nat.add_sub_cancel_left, List.getElem?_append_left (by rw [u8s_length]; omega)]
  simp [u8s, List.getElem?_map, List.getElem?_eq_getElem (show i < b.length by omega)]
theorem Sum.range (h : Sum w p H b hv al) : w.rangeAt p 8 (u8s b) := fun j v hj => by
  have hjl : j < 64 := by
    have := (List.getElem?_eq_some_iff.1 hj).1
    rw [u8s_length, h.part] at this
    exact this
  rw [h.byte j hjl, ← hj]
  simp [u8s, List.getElem?_map, List.getElem?_eq_getElem (show j < b.length by rw [h.part]; exact hjl)]
theorem Sum.drewN (h : Sum w p H b hv al) (k : Nat) : Sum (w.drewN k) p H b hv al := ⟨h.cells, h.eight, h.part⟩
theorem Sum.drew (h : Sum w p H b hv al) : Sum w.drew p H b hv al := ⟨h.cells, h.eight, h.part⟩
theorem Sum.words8 (h : Sum w p H b hv al) : (∀ k, (w.drewN k).cell? ⟨p, 0, none⟩ = some (.int .u32 (nv (R8.of H).a))) ∧ (∀ k, (w.drewN k).cell? ⟨p, 1, none⟩ = some (.int .u32 (nv (R8.of H).b))) ∧ (∀ k, (w.drewN k).cell? ⟨p, 2, none⟩ = some (.int .u32 (nv (R8.of H).c))) ∧ (∀ k, (w.drewN k).cell? ⟨p, 3, none⟩ = some (.int .u32 (nv (R8.of H).d))) ∧ (∀ k, (w.drewN k).cell? ⟨p, 4, none⟩ = some (.int .u32 (nv (R8.of H).e))) ∧ (∀ k, (w.drewN k).cell? ⟨p, 5, none⟩ = some (.int .u32 (nv (R8.of H).f))) ∧ (∀ k, (w.drewN k).cell? ⟨p, 6, none⟩ = some (.int .u32 (nv (R8.of H).g))) ∧ (∀ k, (w.drewN k).cell? ⟨p, 7, none⟩ = some (.int .u32 (nv (R8.of H).h))) :=
  ⟨fun _ => h.word 0 (by omega), fun _ => h.word 1 (by omega), fun _ => h.word 2 (by omega), fun _ => h.word 3 (by omega), fun _ => h.word 4 (by omega), fun _ => h.word 5 (by omega), fun _ => h.word 6 (by omega), fun _ => h.word 7 (by omega)⟩
theorem Sum.have_ (h : Sum w p H b hv al) : w.cell? ⟨p, 72, none⟩ = some (.int .i64 hv) := by
  rw [cell_of_cells h.cells, List.getElem?_toArray, List.getElem?_append_right (by rw [u32s_length, h.eight]; omega), u32s_length, h.eight, List.getElem?_append_right (by rw [u8s_length, h.part]; omega), u8s_length, h.part]
  rfl
theorem Sum.all_ (h : Sum w p H b hv al) : w.cell? ⟨p, 73, none⟩ = some (.int .u64 al) := by
  rw [cell_of_cells h.cells, List.getElem?_toArray, List.getElem?_append_right (by rw [u32s_length, h.eight]; omega), u32s_length, h.eight, List.getElem?_append_right (by rw [u8s_length, h.part]; omega), u8s_length, h.part]
  rfl
theorem Sum.setWord (h : Sum w p H b hv al) (i : Nat) (hi : i < 8) (x : BitVec 32) : Sum (w.setCell ⟨p, i, none⟩ (.int .u32 (nv x))) p (H.set i x) b hv al := by
  refine ⟨?_, by simp [h.eight], h.part⟩
  rw [set_of_cells h.cells, ← u32s_set]
  congr 2
  rw [List.setIfInBounds_toArray, List.set_append_left _ _ (by rw [u32s_length, h.eight]; omega)]
theorem Sum.setHave (h : Sum w p H b hv al) (n : Nat) : Sum (w.setCell ⟨p, 72, none⟩ (.int .i64 n)) p H b n al := by
  refine ⟨?_, h.eight, h.part⟩
  rw [set_of_cells h.cells]
  congr 2
  rw [List.setIfInBounds_toArray, List.set_append_right _ _ (by rw [u32s_length, h.eight]; omega), u32s_length, h.eight, List.set_append_right _ _ (by rw [u8s_length, h.part]; omega), u8s_length, h.part]
  rfl
theorem Sum.setAll (h : Sum w p H b hv al) (n : Nat) : Sum (w.setCell ⟨p, 73, none⟩ (.int .u64 n)) p H b hv n := by
  refine ⟨?_, h.eight, h.part⟩
  rw [set_of_cells h.cells]
  congr 2
  rw [List.setIfInBounds_toArray, List.set_append_right _ _ (by rw [u32s_length, h.eight]; omega), u32s_length, h.eight, List.set_append_right _ _ (by rw [u8s_length, h.part]; omega), u8s_length, h.part]
  rfl
theorem Sum.below (h : Sum w p H b hv al) (hb : Below w.heap.size w w') : Sum w' p H b hv al := ⟨(hb.block p h.lt).trans h.cells, h.eight, h.part⟩
theorem Sum.turned {S : Nat → Prop} (h : Sum w p H b hv al) (ht : Turned S w w') (hS : ¬ S p) : Sum w' p H b hv al := ⟨(ht.block p h.lt hS).trans h.cells, h.eight, h.part⟩
end

/-- The two tables of the package. -/
structure Tab (w : World) : Prop where
  first : ∀ i, i < 8 → w.cell? ⟨0, i, none⟩ = some (.int .u32 (nv (hTab[i]?.getD 0)))
  round : ∀ i, i < 64 → w.cell? ⟨1, i, none⟩ = some (.int .u32 (nv (kTab[i]?.getD 0)))
section
variable {w w' : World}
theorem Tab.lt1 (h : Tab w) : 0 < w.heap.size := World.block_lt_of_cell? _ _ (h.first 0 (by omega))
theorem Tab.lt2 (h : Tab w) : 1 < w.heap.size := World.block_lt_of_cell? _ _ (h.round 0 (by omega))
theorem Tab.drewN (h : Tab w) (k : Nat) : Tab (w.drewN k) := ⟨h.first, h.round⟩
theorem Tab.drew (h : Tab w) : Tab w.drew := ⟨h.first, h.round⟩
theorem Tab.below (h : Tab w) (hb : Below w.heap.size w w') : Tab w' :=
  ⟨fun i hi => (hb.cell (p := ⟨_, i, none⟩) h.lt1).trans (h.first i hi), fun i hi => (hb.cell (p := ⟨_, i, none⟩) h.lt2).trans (h.round i hi)⟩
theorem Tab.turned {S : Nat → Prop} (h : Tab w) (ht : Turned S w w') (h1 : ¬ S 0) (h2 : ¬ S 1) : Tab w' :=
  ⟨fun i hi => (World.cell?_of_block (ht.block _ h.lt1 h1)).trans (h.first i hi), fun i hi => (World.cell?_of_block (ht.block _ h.lt2 h2)).trans (h.round i hi)⟩
end

/-- What holds all through a block's rounds. -/
structure MixSt (w0 : World) (p q : Nat) (H : List (BitVec 32)) (b : List UInt8) (hv al : Nat) (RS : Array Value) (w : World) : Prop where
  sum : Sum w p H b hv al
  tab : Tab w
  row : w.heap[q]? = some (.cells RS 91 (0, 0))
  below : Below w0.heap.size w0 w
theorem MixSt.drewN {w0 w w' : World} {p q : Nat} {H : List (BitVec 32)} {b : List UInt8} {hv al : Nat} {RS : Array Value} (h : MixSt w0 p q H b hv al RS w) {k : Nat} (e : w.drewN k = w') : MixSt w0 p q H b hv al RS w' := by
  subst e
  exact ⟨h.sum.drewN k, h.tab.drewN k, h.row, below_drewN h.below k⟩
theorem MixSt.drew {w0 w : World} {p q : Nat} {H : List (BitVec 32)} {b : List UInt8} {hv al : Nat} {RS : Array Value} (h : MixSt w0 p q H b hv al RS w) : MixSt w0 p q H b hv al RS w.drew := ⟨h.sum.drew, h.tab.drew, h.row, below_drew h.below⟩
theorem MixSt.set {w0 w : World} {p q : Nat} {H : List (BitVec 32)} {b : List UInt8} {hv al : Nat} {l : List (BitVec 32)} (h : MixSt w0 p q H b hv al (u32s l).toArray w) (hq : w0.heap.size ≤ q) (hp : p < w0.heap.size) (ht : Tab w0) (i : Nat) (x : BitVec 32) :
    MixSt w0 p q H b hv al (u32s (l.set i x)).toArray (w.setCell ⟨q, i, none⟩ (.int .u32 (nv x))) := by
  have h1 := ht.lt1
  have h2 := ht.lt2
  have htu : Turned (· = q) w (w.setCell ⟨q, i, none⟩ (.int .u32 (nv x))) := (Turned.refl (· = q) w).set (p := q) rfl _ _
  exact ⟨h.sum.turned htu (by omega), h.tab.turned htu (by omega) (by omega), u32s_cells_set h.row i x, h.below.setCell hq _⟩
theorem turn_still (x : BitVec 32) (k : Int) (h0 : 0 < k) (h : k < 32) (w : World) : Calls Tryd.prog 55 #[.int .u32 (nv x), .int .i64 k] w fun e w' => e = .returned (.int .u32 (nv (rotr x k.toNat))) ∧ w' = w :=
  (turn_any x k h0 h w).mono fun _ _ ⟨h1, h2⟩ => ⟨h1, h2.symm⟩
theorem low_still (x : BitVec 32) (w : World) : Calls Tryd.prog 53 #[.int .u32 (nv x)] w fun e w' => e = .returned (.int .u32 (nv (lowB x))) ∧ w' = w :=
  (low_any x w).mono fun _ _ ⟨h1, h2⟩ => ⟨h1, h2.symm⟩
theorem high_still (x : BitVec 32) (w : World) : Calls Tryd.prog 54 #[.int .u32 (nv x)] w fun e w' => e = .returned (.int .u32 (nv (highB x))) ∧ w' = w :=
  (high_any x w).mono fun _ _ ⟨h1, h2⟩ => ⟨h1, h2.symm⟩

set_option maxHeartbeats 4000000 in
set_option maxRecDepth 100000 in
theorem mix_any {w : World} {p : Nat} {H : List (BitVec 32)} {b : List UInt8} {hv al : Nat} (hs : Sum w p H b hv al) (ht : Tab w) :
    Calls Tryd.prog 51 #[.pointer (some ⟨p, 0, none⟩)] w fun e w' => e = .returned (.tuple #[]) ∧ Sum w' p (mixB H b) b hv al ∧ Turned (· = p) w w' := by
  have hp := hs.lt
  have HS := Lib.hid hs
  have HT := Lib.hid ht
  have hl := wacc_length b 64
  generalize hWs : wacc b 64 = Ws at *
  have hsz : (u32s Ws).toArray.size = 16 := by simp [u32s_length, hl]
  have hi16 : (Tryd.prog.info? 91).map (·.size) = some (u32s Ws).toArray.size := by rw [hsz]; kernel_rfl
  have HA := Lib.hid (And.intro hi16 (And.intro hsz (all_oneCell_toArray (u32s_one Ws))))
  obtain ⟨RS, hRS⟩ : ∃ RS, RS = (u32s Ws).toArray := ⟨_, rfl⟩
  rw [← hRS] at HA
  have HR := Lib.hid (And.intro hRS (And.intro hWs hl))
  have hwords := words_any hs.part hs.range hp
  rw [hWs, ← hRS] at hwords
  clear hs ht hl hWs hsz hi16 hRS
  go_enter Tryd.func51, Tryd.ntmps51
  go_wp2_with fail
  refine hwords.mono ?_
  rintro _ w1 ⟨rfl, hb1⟩
  have hg := heap_alloc_new w1 (.cells (u32s (List.replicate 16 0)).toArray 91)
  rw [← zeros16] at hg
  have HG := Lib.hid hg
  have HZ := Lib.hid (show (u32s (List.replicate 16 0)).toArray.size = 16 by rfl)
  rw [← zeros16] at HZ
  clear hg hwords
  have hz1 := hb1.size
  go_wp2_with (refine wpList_store_row (by rfl) 91 (.tmp 2) (.tmp 17) (by rfl) w1.heap.size RS (by rfl) (by rfl) 91 _ HG.out HA.out.1 (by rw [HA.out.2.1]; exact HZ.out) HA.out.2.2 ?_)
  rw [zeros16]
  have hb2 : Below w.heap.size w ((w1.alloc (.cells (u32s (List.replicate 16 0)).toArray 91)).setRow w1.heap.size RS) := below_setRow (hb1.alloc hz1 _) hz1 _
  have hq2 : ((w1.alloc (.cells (u32s (List.replicate 16 0)).toArray 91)).setRow w1.heap.size RS).heap[w1.heap.size]? = some (.cells RS 91 (0, 0)) := setRow_at (by have := HG.out; rw [zeros16] at this; exact this)
  generalize hq : w1.heap.size = q at *
  generalize (w1.alloc (.cells (u32s (List.replicate 16 0)).toArray 91)).setRow q RS = w2 at *
  clear HG HZ hb1 hq w1
  have HQ : Hid (MixSt w p q H b hv al RS w2) := Lib.hid ⟨HS.out.below hb2, HT.out.below hb2, hq2, hb2⟩
  clear hq2 hb2
  obtain ⟨c0, c1, c2, c3, c4, c5, c6, c7⟩ := HQ.out.sum.words8
  go_quiet (fail)
  clear c0 c1 c2 c3 c4 c5 c6 c7
  generalize hw3 : World.drewN w2 _ = w3
  have HQ3 := Lib.hid (HQ.out.drewN hw3)
  clear HQ hw3 w2
  go_wp2_with fail
  obtain ⟨c0, c1, c2, c3, c4, c5, c6, c7⟩ := HQ3.out.sum.words8
  go_quiet (fail)
  clear c0 c1 c2 c3 c4 c5 c6 c7
  generalize hw4 : World.drewN w3 _ = w4
  have HQ := Lib.hid (HQ3.out.drewN hw4)
  clear HQ3 hw4 w3
  go_wp2_with fail
  go_loopw [3, 4, 5, 6, 7, 8, 9, 10, 58] (fun xa xb xc xd xe xf xg xh i wr => ∃ k : Nat, k ≤ 64 ∧ i = .int .i64 k ∧ xa = .int .u32 (nv (rounds (R8.of H) Ws k).1.a) ∧ xb = .int .u32 (nv (rounds (R8.of H) Ws k).1.b) ∧ xc = .int .u32 (nv (rounds (R8.of H) Ws k).1.c) ∧ xd = .int .u32 (nv (rounds (R8.of H) Ws k).1.d) ∧ xe = .int .u32 (nv (rounds (R8.of H) Ws k).1.e) ∧ xf = .int .u32 (nv (rounds (R8.of H) Ws k).1.f) ∧ xg = .int .u32 (nv (rounds (R8.of H) Ws k).1.g) ∧ xh = .int .u32 (nv (rounds (R8.of H) Ws k).1.h)
      ∧ MixSt w p q H b hv al (u32s (rounds (R8.of H) Ws k).2).toArray wr)
    (fun _ _ _ _ _ _ _ _ i _ => 64 - (intOf i).toNat)
  case atStart => exact ⟨0, Nat.zero_le _, rfl, rfl, rfl, rfl, rfl, rfl, rfl, rfl, rfl, by show MixSt w p q H b hv al (u32s Ws).toArray w4; rw [← HR.out.1]; exact HQ.out⟩
  case round =>
    obtain ⟨k, hk, rfl, rfl, rfl, rfl, rfl, rfl, rfl, rfl, rfl, hM⟩ := hrel
    have HM := Lib.hid hM
    have hrl := rounds_length (R8.of H) Ws k
    by_cases hlt : k < 64
    · have HE0 := Lib.hid (show rounds (R8.of H) Ws (k + 1) = ((rounds (R8.of H) Ws k).1.next (kTab[k]?.getD 0) ((ring (rounds (R8.of H) Ws k).2 k)[k % 16]?.getD 0), ring (rounds (R8.of H) Ws k).2 k) from rfl)
      generalize hrk : rounds (R8.of H) Ws k = rk at *
      obtain ⟨⟨xa, xb, xc, xd, xe, xf, xg, xh⟩, l⟩ := rk
      have HE : Hid (rounds (R8.of H) Ws (k + 1) = ((R8.mk xa xb xc xd xe xf xg xh).next (kTab[k]?.getD 0) ((ring l k)[k % 16]?.getD 0), ring l k)) := Lib.hid HE0.out
      clear HE0
      rw [HR.out.2.2] at hrl
      have HL := Lib.hid hrl
      clear hrk hrl hM
      dsimp only at HM HL ⊢
      go_upto_if 62 with fail
      go_cut [] from 59 to 148 (fun wx => MixSt w p q H b hv al (u32s (ring l k)).toArray wx)
      case first =>
        by_cases h16 : k < 16
        · have HR1 := Lib.hid (show ring l k = l by unfold ring; rw [if_pos h16])
          go_wp2_with fail
          go_meet
          rw [HR1.out]; exact HM.out
        · have HR1 := Lib.hid (show ring l k = _ by unfold ring; rw [if_neg h16])
          go_wp2_with fail
          refine wp_region_still_tail 25 (by kernel_rfl) (by kernel_rfl) ?_
          simp only [List.take_succ_cons, List.take_zero, List.drop_succ_cons, List.drop_zero]
          show wpStill _ _ wr.drew (fun a' => wpList _ _ _ _ a' wr.drew) _ _
          have HD := Lib.hid HM.out.drew
          generalize wr.drew = wd at *
          have hx0 : (k : Int).tmod 16 = ((k % 16 : Nat) : Int) := by rw [Int.tmod_eq_emod_of_nonneg (by omega)]; omega
          have hx1 : ((k : Int) + 1).tmod 16 = (((k + 1) % 16 : Nat) : Int) := by rw [Int.tmod_eq_emod_of_nonneg (by omega)]; omega
          have hx9 : ((k : Int) + 9).tmod 16 = (((k + 9) % 16 : Nat) : Int) := by rw [Int.tmod_eq_emod_of_nonneg (by omega)]; omega
          have hx14 : ((k : Int) + 14).tmod 16 = (((k + 14) % 16 : Nat) : Int) := by rw [Int.tmod_eq_emod_of_nonneg (by omega)]; omega
          have hw1 := IntWalk.i64_in ((k : Int) + 1) (by omega)
          have hw9 := IntWalk.i64_in ((k : Int) + 9) (by omega)
          have hw14 := IntWalk.i64_in ((k : Int) + 14) (by omega)
          have hm0 : k % 16 < 16 := by omega
          have hm1 : (k + 1) % 16 < 16 := by omega
          have hm9 : (k + 9) % 16 < 16 := by omega
          have hm14 : (k + 14) % 16 < 16 := by omega
          generalize k % 16 = m0 at *
          generalize (k + 1) % 16 = m1 at *
          generalize (k + 9) % 16 = m9 at *
          generalize (k + 14) % 16 = m14 at *
          have d0 := u32s_cell HD.out.row m0 (by rw [HL.out]; omega)
          have d1 := u32s_cell HD.out.row m1 (by rw [HL.out]; omega)
          have d9 := u32s_cell HD.out.row m9 (by rw [HL.out]; omega)
          have d14 := u32s_cell HD.out.row m14 (by rw [HL.out]; omega)
          have f0 := free_of_cells HD.out.row m0
          generalize l[m0]?.getD 0 = y0 at *
          generalize l[m1]?.getD 0 = y1 at *
          generalize l[m9]?.getD 0 = y9 at *
          generalize l[m14]?.getD 0 = y14 at *
          have i0 : (m0 : Int) < 16 := by omega
          have i1 : (m1 : Int) < 16 := by omega
          have i9 : (m9 : Int) < 16 := by omega
          have i14 : (m14 : Int) < 16 := by omega
          have hadd := W32.addw
          clear hm0 hm1 hm9 hm14
          iterate 9 still_step
          refine wpStill_step (fun K hK => ?_)
          go_simp
          refine ⟨_, low_still _ _, hK _ ?_⟩
          clear hK K
          iterate 11 still_step
          refine wpStill_step (fun K hK => ?_)
          go_simp
          refine ⟨_, high_still _ _, hK _ ?_⟩
          clear hK K
          iterate 3 still_step
          refine wpStill_nil ?_
          go_wp2_with fail
          go_meet
          rw [HR1.out]
          exact HD.out.set hz1 hp HT.out m0 _
      case rest =>
        have HC := Lib.hid hcut
        have hrg : (ring l k).length = 16 := by rw [ring_length]; exact HL.out
        have hx0 : (k : Int).tmod 16 = ((k % 16 : Nat) : Int) := by rw [Int.tmod_eq_emod_of_nonneg (by omega)]; omega
        have hm0 : k % 16 < 16 := by omega
        generalize k % 16 = m0 at *
        have d0 : ∀ j, (wc.drewN j).cell? ⟨q, m0, none⟩ = _ := fun j => u32s_cell HC.out.row m0 (by rw [hrg]; omega)
        have dk : ∀ j, (wc.drewN j).cell? ⟨1, k, none⟩ = _ := fun j => HC.out.tab.round k hlt
        generalize (ring l k)[m0]?.getD 0 = y0 at *
        generalize kTab[k]?.getD 0 = z0 at *
        have i0 : (m0 : Int) < 16 := by omega
        have hadd := W32.addw
        have hxor := W32.xor_
        have hand := W32.and_
        have hnot := W32.notI
        have hadd2 := W32.add_
        clear hcut hm0 hrg
        go_wp2_with fail
        go_quiet ((go_at_call 55; exact Calls.quiet_of_same (turn_still _ _ (by omega) (by omega) _)))
        generalize hw5 : World.drewN wc _ = w5
        have HC5 := Lib.hid (HC.out.drewN hw5)
        clear hw5 d0 dk
        go_wp2_with (go_at_call 55; refine (turn_any _ _ (by omega) (by omega) _).mono ?_; rintro _ _ ⟨rfl, rfl⟩)
        go_roundw
        case rel =>
          refine ⟨k + 1, by omega, by go_num, ?_⟩
          rw [HE.out]
          exact ⟨rfl, rfl, rfl, rfl, rfl, rfl, rfl, rfl, HC5.out⟩
        case measure => simp [intOf]; omega
    · obtain rfl : k = 64 := by omega
      clear hrl hlt hk hM
      generalize hr : rounds (R8.of H) Ws 64 = rk at *
      obtain ⟨⟨xa, xb, xc, xd, xe, xf, xg, xh⟩, l⟩ := rk
      dsimp only at HM ⊢
      obtain ⟨M, hM⟩ : ∃ M, M = [xa, xb, xc, xd, xe, xf, xg, xh] := ⟨_, rfl⟩
      obtain ⟨CS, hCS⟩ : ∃ CS, CS = (u32s M).toArray := ⟨_, rfl⟩
      have hcs : #[Value.int .u32 (nv xa), .int .u32 (nv xb), .int .u32 (nv xc), .int .u32 (nv xd), .int .u32 (nv xe), .int .u32 (nv xf), .int .u32 (nv xg), .int .u32 (nv xh)] = CS := by rw [hCS, hM]; rfl
      have HF : Hid (addTo H M 8 = mixB H b) := Lib.hid (by unfold mixB; rw [HR.out.2.1, hr, hM]; rfl)
      have HML : Hid (M.length = 8) := Lib.hid (by rw [hM]; rfl)
      have HCS := Lib.hid hCS
      have HCS2 := Lib.hid hcs
      clear hr hM hCS hcs
      go_wp2_with fail
      rw [HCS2.out]
      go_loopw [14, 15, 158] (fun _ _ i wx => ∃ j : Nat, j ≤ 8 ∧ i = .int .i64 j ∧ Sum wx p (addTo H M j) b hv al ∧ Turned (· = p) w wx) (fun _ _ i _ => 8 - (intOf i).toNat)
      case atStart => exact ⟨0, Nat.zero_le _, rfl, HM.out.sum, Turned.of_below HM.out.below⟩
      case round =>
        obtain ⟨j, hj, rfl, hSj, hTj⟩ := hrel
        have HSJ := Lib.hid hSj
        by_cases hlt : j < 8
        · have hix := run_index_arr (P := Tryd.prog) Tryd.underlying72 Tryd.underlying71 u32_size CS j hlt _ (by rw [HCS.out, List.getElem?_toArray]; exact u32s_at M j (by rw [HML.out]; exact hlt))
          have HE := Lib.hid (show addTo H M (j + 1) = (addTo H M j).set j (((addTo H M j)[j]?.getD 0) + (M[j]?.getD 0)) from rfl)
          clear hSj
          go_wp2_with fail
          refine wp_region_still_tail 11 (by kernel_rfl) (by kernel_rfl) ?_
          simp only [List.take_succ_cons, List.take_zero, List.drop_succ_cons, List.drop_zero]
          show wpStill _ _ wr.drew (fun a' => wpList _ _ _ _ a' wr.drew) _ _
          have HD : Hid (Sum wr.drew p (addTo H M j) b hv al ∧ Turned (· = p) w wr.drew) := Lib.hid ⟨HSJ.out.drew, hTj.drew⟩
          clear hTj
          generalize wr.drew = wd at *
          have d0 := HD.out.1.word j hlt
          have f0 := HD.out.1.free j
          generalize (addTo H M j)[j]?.getD 0 = y0 at *
          generalize M[j]?.getD 0 = y1 at *
          have hadd := W32.addw
          have i0 : (j : Int) < 8 := by omega
          iterate 11 still_step
          refine wpStill_nil ?_
          go_wp2_with fail
          go_roundw
          case rel =>
            have h1 := HD.out.1.setWord j hlt (y0 + y1)
            rw [← HE.out] at h1
            have h2 := HD.out.2.set (p := p) rfl j (.int .u32 (nv (y0 + y1)))
            (repeat apply Exists.intro); exact ⟨⟨j + 1, by omega, by go_num, h1, h2⟩, rfl⟩
          case measure => simp [intOf]; omega
        · obtain rfl : j = 8 := by omega
          clear hSj hlt hj
          go_wp2_with fail
          go_end0
          exact ⟨rfl, by rw [← HF.out]; exact HSJ.out, hTj⟩
end Go.Proofs.YtebhlfmianohlaaDoor
