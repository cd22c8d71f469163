/-
  The document's example at the head of each statement.
-/
import Derived.Test.YtebhlfmianohlaaDoorProofProve
import Derived.Test.YtebhlfmianohlaaDoorProofCheck
import Derived.Test.YtebhlfmianohlaaDoorProofSome
import Derived.Test.YtebhlfmianohlaaDoorMade
import Derived.Test.YtebhlfmianohlaaDoorOwn
namespace Go.Proofs.YtebhlfmianohlaaDoor
open Go.RowKit

def z65 : List UInt8 := List.replicate 65 0
def z64 : List UInt8 := List.replicate 64 0
theorem z65_split : splitL z65 = [z64, [0]] := by
  rw [splitL_long (by simp [z65]), splitL_short (by simp [z65])]
  rfl
theorem z65_digs : digs z65 = [leafD z64, leafD [0]] := by rw [digs, z65_split]; rfl
theorem z65_root : rootL z65 = crownD 2 (nodeD (leafD z64) (leafD [0])) := by
  rw [rootL, z65_digs, z65_split, topL_more (by simp), topL_one (by rw [aboveL_length]; simp), aboveL]
  rfl
theorem z65_way : wayL (digs z65) 1 = [leafD z64] := by
  rw [z65_digs, wayL_more (by simp), if_pos (by decide), wayL_one (by rw [aboveL_length]; simp)]
  rfl
theorem z65_prove : proveErr z65 1 = 0 ∧ proveLeaf z65 1 = [0] ∧ proveWay z65 1 = [leafD z64] := by
  have h : (0 : Int) ≤ 1 ∧ (1 : Int) < ((splitL z65).length : Int) := by rw [z65_split]; simp
  refine ⟨by rw [proveErr, if_pos h], ?_, ?_⟩
  · rw [proveLeaf, if_pos h, z65_split]
    rfl
  · rw [proveWay, if_pos h]
    exact z65_way
theorem z65_check1 : checkL (rootL z65) 2 1 [0] [leafD z64] = 0 := by
  have h := check_proved z65 1 (by rw [z65_split]; simp)
  rw [z65_way, z65_split] at h
  exact h
theorem z65_check0 : checkL (rootL z65) 2 0 [0] [leafD z64] = 21 := by
  have h := checkL_in (root := rootL z65) (n := 2) (i := 0) (by omega) [0] [leafD z64]
  rw [show ((2 : Nat) : Int) = 2 from rfl, show ((0 : Nat) : Int) = 0 from rfl] at h
  rw [h]
  have hb : bes 2 0 0 = [(0, 1)] := by
    rw [bes_more (by omega), if_pos (by decide), bes_one (by omega)]
    rfl
  have ht : crownD 2 (topX 2 0 [0] [leafD z64]) ≠ rootL z65 := by
    have e : upX [(0, 1)] [leafD z64] (shaL (0 :: [0])) = nodeD (leafD [0]) (leafD z64) := by
      have h1 := pair_node 0 (leafD z64) (leafD [0])
      rw [if_neg (by omega)] at h1
      rw [← h1]
      rfl
    rw [topX, hb, e, z65_root]
    exact proof_swapped
  rw [if_neg ht]
  split <;> rfl

set_option maxHeartbeats 4000000 in
set_option maxRecDepth 100000 in
theorem pawake_true {w : World} (ht : Tab w) : Calls Tryd.prog 9 #[] w fun e w' => e = .returned (.bool true) ∧ Below w.heap.size w w' := by
  have hz := zero_id
  have hmk := make_bytes w 65 (by omega)
  rw [show u8s (List.replicate 65 0) = u8s z65 from rfl, show ((65 : Nat) : Int) = 65 from rfl] at hmk
  have hy0 := byt_new (w := w) z65 5 (0, 0) (by simp [z65])
  rw [show z65.length = 65 by simp [z65]] at hy0
  have hb0 : Below w.heap.size w (w.alloc (.cells (u8s z65).toArray 5)) := (Below.refl _ _).alloc (Nat.le_refl _) _
  obtain ⟨w0, hw0⟩ : ∃ w0, w.alloc (.cells (u8s z65).toArray 5) = w0 := ⟨_, rfl⟩
  rw [hw0] at hmk hy0 hb0
  have hpr := prove_any hy0 (by omega) (ht.below hb0) 1
  obtain ⟨RS, hRS⟩ : ∃ RS, RS = row8 (rootL z65) := ⟨_, rfl⟩
  have HRS : Hid (RS = row8 (rootL z65) ∧ RS.size = 32 ∧ RS.all (·.oneCell') = true) := Lib.hid ⟨hRS, by rw [hRS, row8_size]; exact crownD_length _ _, by rw [hRS]; exact row8_one _⟩
  have H0 := Lib.hid (And.intro hy0 (And.intro hb0 (ht.below hb0)))
  rw [z65_prove.1, z65_prove.2.1, z65_prove.2.2] at hpr
  clear hRS hy0 hb0 ht hw0
  go_enter Tryd.func9, Tryd.ntmps9
  go_wp2_with (go_at_call 10; refine hpr.mono ?_; clear hpr; rintro _ w1 ⟨A1, n1, c1, A2, n2, c2, rfl, hy1, hi1, hb1⟩)
  obtain rfl : n1 = 1 := hy1.len.symm
  obtain rfl : n2 = 1 := hi1.len.symm
  have hro := root_any (H0.out.1.below hb1) (by omega) (H0.out.2.2.below hb1)
  rw [← HRS.out.1] at hro
  have H1 := Lib.hid (And.intro hy1 (And.intro hi1 hb1))
  clear hy1 hi1 hb1 hmk
  go_wp2_with fail
  refine hro.mono ?_
  clear hro
  rintro _ w2 ⟨rfl, hb2⟩
  have HG := Lib.hid (heap_alloc_new w2 (.cells zerosId 31))
  have hb23 : Below w2.heap.size w2 ((w2.alloc (.cells zerosId 31)).setRow w2.heap.size RS) := below_setRow ((Below.refl _ _).alloc (Nat.le_refl _) _) (Nat.le_refl _) _
  have hb13 := hb2.trans (hb23.mono hb2.size)
  have hb03 := H1.out.2.2.trans (hb13.mono H1.out.2.2.size)
  have hset := setRow_at (new := RS) HG.out
  have H3 : Hid (((w2.alloc (.cells zerosId 31)).setRow w2.heap.size RS).heap[w2.heap.size]? = some (.cells RS 31 (0, 0)) ∧ Byt ((w2.alloc (.cells zerosId 31)).setRow w2.heap.size RS) (fun _ => True) (some ⟨w.heap.size, 0, none⟩) 65 65 z65 ∧ Byt ((w2.alloc (.cells zerosId 31)).setRow w2.heap.size RS) (w0.heap.size ≤ ·) A1 1 c1 [0] ∧ Ids ((w2.alloc (.cells zerosId 31)).setRow w2.heap.size RS) (w0.heap.size ≤ ·) A2 1 c2 [leafD z64] ∧ Tab ((w2.alloc (.cells zerosId 31)).setRow w2.heap.size RS) ∧ Below w.heap.size w ((w2.alloc (.cells zerosId 31)).setRow w2.heap.size RS)) := Lib.hid ⟨hset, H0.out.1.below hb03, H1.out.1.below hb13, H1.out.2.1.below hb13, H0.out.2.2.below hb03, H0.out.2.1.trans (hb03.mono H0.out.2.1.size)⟩
  clear hb2 hb23 hb13 hb03 hset
  have HC := Lib.hid (And.intro z65_check1 (And.intro z65_check0 (crownD_length 2 (nodeD (leafD z64) (leafD [0])))))
  go_wp2_with (first
    | (refine wpList_store_row (by rfl) 31 (.tmp 5) (.tmp 14) (by rfl) w2.heap.size RS (by rfl) (by rfl) 31 zerosId HG.out (by rw [HRS.out.2.1]; exact id_info) (by rw [HRS.out.2.1]; rfl) HRS.out.2.2 ?_
       generalize (w2.alloc (.cells zerosId 31)).setRow w2.heap.size RS = w3 at H3 ⊢
       have hlv := leaves_any H3.out.2.1
       rw [z65_split] at hlv
       have hck1 := check_any (rootL z65) (by rw [z65_root]; exact HC.out.2.2) 2 1 (by omega) H3.out.2.2.1 H3.out.2.2.2.1 H3.out.2.2.2.2.1
       rw [← HRS.out.1, HC.out.1] at hck1)
    | (go_at_call 14; refine hlv.mono ?_; clear hlv; rintro _ _ ⟨rfl, rfl⟩)
    | (refine wpList_load_row_on (by rfl) 31 (.tmp 5) (by rfl) w2.heap.size (by rfl) 31 RS (0, 0) _ H3.out.1 Tryd.underlying31 (by rfl) (by rw [HRS.out.2.1]; exact id_info) ?_)
    | (go_at_call 17; refine hck1.mono ?_; clear hck1; rintro _ w4 ⟨rfl, hb4⟩
       have H4 : Hid (w4.heap[w2.heap.size]? = some (.cells RS 31 (0, 0)) ∧ Below w.heap.size w w4) := Lib.hid ⟨(hb4.block _ (lt_of_cells H3.out.1)).trans H3.out.1, H3.out.2.2.2.2.2.trans (hb4.mono H3.out.2.2.2.2.2.size)⟩
       have hck0 := check_any (rootL z65) (by rw [z65_root]; exact HC.out.2.2) 2 0 (by omega) (H3.out.2.2.1.below hb4) (H3.out.2.2.2.1.below hb4) (H3.out.2.2.2.2.1.below hb4)
       rw [← HRS.out.1, HC.out.2.1] at hck0
       clear hb4 H3)
    | (refine wpList_load_row_on (by rfl) 31 (.tmp 5) (by rfl) w2.heap.size (by rfl) 31 RS (0, 0) _ H4.out.1 Tryd.underlying31 (by rfl) (by rw [HRS.out.2.1]; exact id_info) ?_)
    | (go_at_call 17; refine hck0.mono ?_; clear hck0; rintro _ w5 ⟨rfl, hb5⟩
       have H5 := Lib.hid (H4.out.2.trans (hb5.mono H4.out.2.size))
       have hl0 := leaves_any (Byt.nil w5 (fun _ => True) none 0 (Nat.zero_le _))
       rw [splitL_short (by simp)] at hl0
       clear hb5 H4)
    | (go_at_call 14; refine hl0.mono ?_; clear hl0; rintro _ _ ⟨rfl, rfl⟩))
  go_ret
  exact ⟨rfl, H5.out⟩
end Go.Proofs.YtebhlfmianohlaaDoor
