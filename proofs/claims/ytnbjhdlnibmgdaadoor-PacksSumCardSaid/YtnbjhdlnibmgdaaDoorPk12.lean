/-
  proof: how many leaves, half, within, a leaf; what digests are of.
  proof: the digests of leaves, and those above a row.
  proof.beside: the places beside the way up, and its iterator's promise.
  proof.rows: the rows of digests, from that of the leaves up, and its iterator's promise.
-/
import Derived.Test.YtnbjhdlnibmgdaaDoorPk09
import Derived.Test.YtnbjhdlnibmgdaaDoorPk11
import Derived.Test.YtnbjhdlnibmgdaaDoorPk10
import Derived.Deep.AppendLies
import Derived.Test.YtnbjhdlnibmgdaaDoorPk01
import Derived.Shelf.Abstract
import Derived.Shelf.RegionOpen
import Derived.WalkKit
import Derived.OwnWalkIn
import Derived.TacticsInMore
import Derived.LoopNIn
import Derived.LoopIn
/-! proof: how many leaves, half, within, a leaf; what digests are of. -/
namespace Go.Proofs.YtnbjhdlnibmgdaaDoor
open Go.RowKit

theorem leaves_at (b : List UInt8) : (splitL b).length = if b.length = 0 then 1 else (b.length - 1) / 64 + 1 := by
  rw [splitL_count]
  split
  · rfl
  · omega
theorem leaves_any {w : World} {S : Nat → Prop} {A : Option Addr} {n c : Nat} {b : List UInt8} (h : Byt w S A n c b) :
    Calls Tryd.prog 44 #[.slice A n c] w fun e w' => e = .returned (.int .i64 ((splitL b).length : Int)) ∧ w = w' := by
  have hl := leaves_at b
  rw [h.len] at hl
  have hm := h.cap
  have hm2 := h.max
  unfold maxLen at hm2
  have HL := Lib.hid hl
  by_cases h0 : n = 0
  · subst h0
    have HL : Hid ((splitL b).length = 1) := Lib.hid hl
    clear hl h
    go_enter Tryd.func44, Tryd.ntmps44
    go_wp2
    go_ret
    exact ⟨by rw [HL.out]; rfl, rfl⟩
  · have HN : Hid (((n : Int) - 1) / 64 + 1 = ((splitL b).length : Int)) := Lib.hid (by rw [hl, if_neg h0]; omega)
    clear hl h
    have h1 : ((n : Int) == 0) = false := by simpa using h0
    have hw := IntWalk.i64_in ((n : Int) - 1) (by omega)
    have hw2 := IntWalk.i64_in (((n : Int) - 1) / 64 + 1) (by omega)
    go_enter Tryd.func44, Tryd.ntmps44
    go_wp2
    go_ret
    exact ⟨by rw [HN.out]; rfl, rfl⟩
theorem half_any (m : Nat) (hm : m < 9223372036854775808) (w : World) :
    Calls Tryd.prog 65 #[.int .i64 (m : Int)] w fun e w' => e = .returned (.int .i64 (((m + 1) / 2 : Nat) : Int)) ∧ w = w' := by
  have HN : Hid ((m : Int) / 2 + (m : Int) % 2 = (((m + 1) / 2 : Nat) : Int)) := Lib.hid (by omega)
  have hw := IntWalk.i64_in ((m : Int) / 2 + (m : Int) % 2) (by omega)
  go_enter Tryd.func65, Tryd.ntmps65
  go_wp2
  go_ret
  exact ⟨by rw [HN.out]; rfl, rfl⟩

theorem leafOf_any {w : World} {S : Nat → Prop} {A : Option Addr} {n c : Nat} {b : List UInt8} (h : Byt w S A n c b) (hn : n ≤ 1000000) {i : Nat} (hi : i < (splitL b).length) :
    Calls Tryd.prog 64 #[.slice A n c, .int .i64 (i : Int)] w fun e w' => (∃ A' n' c', e = .returned (.slice A' n' c') ∧ Byt w S A' n' c' ((splitL b)[i]?.getD [])) ∧ w = w' := by
  have hl := leaves_at b
  rw [h.len] at hl
  have hcp := h.cap
  have hm2 := h.max
  unfold maxLen at hm2
  have hin : 64 * i ≤ n := by
    have hi2 := hi
    rw [hl] at hi2
    split at hi2 <;> omega
  have hsl := fun W => run_lh (P := Tryd.prog) 24 5 Tryd.underlying24 u8_size A n c (64 * i) (min (64 * i + 64) n) ((i : Int) * 64) (min ((i : Int) * 64 + 64) (n : Int)) (by omega) (by omega) (by omega) (by omega) W
  have HY : Hid (Byt w S (cutA A c (64 * i)) (min (64 * i + 64) n - 64 * i) (c - 64 * i) ((splitL b)[i]?.getD [])) := Lib.hid (by
    have h1 := (h.cut hin).to (k := min (64 * i + 64) n - 64 * i) (by omega)
    rw [splitL_at b i hi]
    have e : (b.drop (64 * i)).take (min (64 * i + 64) n - 64 * i) = (b.drop (64 * i)).take 64 := by
      rw [List.take_eq_take_iff, List.length_drop, h.len]
      omega
    rwa [e] at h1)
  have hw := IntWalk.i64_in ((i : Int) * 64) (by omega)
  have hw2 := IntWalk.i64_in ((i : Int) * 64 + 64) (by omega)
  clear h hl
  go_enter Tryd.func64, Tryd.ntmps64
  go_wp2
  go_ret
  exact ⟨⟨_, _, _, rfl, HY.out⟩, rfl⟩

/-- append of a slice that reads as bytes to a row of the call's own. -/
theorem append_bytes {W : World} {B g k cap : Nat} {xs : List Value} (hown : W.ownsRow B 5 1 (.slice (some ⟨g, 0, none⟩) k cap) k xs) (hk : 0 < k) {S : Nat → Prop} {A : Option Addr} {n c : Nat} {l : List UInt8} (h : Byt W S A n c l) (hb : k + n ≤ 100000000000000) (hB : B ≤ W.heap.size) (ty : TypeId) :
    ∃ g' cap' W', (Builtin.append_ #[24, 24] ty #[.slice (some ⟨g, 0, none⟩) k cap, .slice A n c]).run Tryd.prog W = .ok (.slice (some ⟨g', 0, none⟩) (k + n) cap') W' ∧ W'.ownsRow B 5 1 (.slice (some ⟨g', 0, none⟩) (k + n) cap') (k + n) (xs ++ u8s l) ∧ W.grownBy W' (some g) := by
  obtain ⟨i0, hi, hz0, hz1, hz2⟩ := info_parts u8_info
  rcases A with _ | ad
  · obtain rfl : n = 0 := by
      rcases Nat.eq_zero_or_pos n with h0 | h0
      · exact h0
      · obtain ⟨_, _, hA, _⟩ := h.row h0
        cases hA
    obtain rfl : l = [] := List.eq_nil_of_length_eq_zero h.len
    have hkc : k ≤ cap := by
      rcases hown.2 with ⟨hv, _⟩ | ⟨_, _, _, hv, _, _, hn, _⟩
      · cases hv
      · injection hv with _ _ h3
        omega
    exact ⟨g, cap, W, run_append_zero W 24 ty 5 i0 Tryd.underlying24 hi _ k cap c hkc, by simpa [u8s] using hown, World.grownBy.refl _ _⟩
  · obtain ⟨v', W', hrun, r1, r2, _⟩ := run_append_own (P := Tryd.prog) W B 24 ty 5 i0 (.int .u8 0) 1 1 Tryd.underlying24 hi hz0 hz1 hz2 rfl (by decide) _ k xs hown ad n c (u8s l) (by rw [u8s_length, h.len, Nat.mul_one]) (byt_news h) (u8s_one l) (by unfold maxLen; omega) (by omega) hB
    obtain ⟨g', cap', rfl, _⟩ := r1.form (by omega)
    exact ⟨g', cap', W', hrun, r1, r2⟩
theorem own_lit (w : World) (v : Int) (x : UInt8) (h : v = (x.toNat : Int)) : (w.alloc (.cells #[.int .u8 v] 5)).ownsRow w.heap.size 5 1 (.slice (some ⟨w.heap.size, 0, none⟩) 1 1) 1 (u8s [x]) := by
  subst h
  exact ⟨rfl, .inr ⟨w.heap.size, 1, _, rfl, Nat.le_refl _, heap_alloc_new w _, Nat.le_refl _, by unfold maxLen; omega, rfl, rfl⟩⟩

set_option maxHeartbeats 1000000 in
theorem ofLeaf_any {w : World} {S : Nat → Prop} {A : Option Addr} {n c : Nat} {l : List UInt8} (h : Byt w S A n c l) (hn : n ≤ 1000000) :
    Calls Tryd.prog 63 #[.slice A n c] w fun e w' => ∃ g c', e = .returned (.slice (some ⟨g, 0, none⟩) (1 + n) c') ∧ Byt w' (w.heap.size ≤ ·) (some ⟨g, 0, none⟩) (1 + n) c' (0 :: l) ∧ Below w.heap.size w w' := by
  obtain ⟨g', cap', W', hrun, hown, hgr⟩ := append_bytes (own_lit w 0 0 rfl) (by omega) (h.alloc _) (by omega) (by simp) 24
  have HX : Hid (Byt W' (w.heap.size ≤ ·) (some ⟨g', 0, none⟩) (1 + n) cap' (0 :: l) ∧ Below w.heap.size w W') := Lib.hid ⟨own_byt_at hown, below_of_gr ((Below.refl _ w).alloc (Nat.le_refl _) _) hgr (by simp)⟩
  clear hown hgr h
  go_enter Tryd.func63, Tryd.ntmps63
  go_wp2_with (at_builtin; refine wpList_app (by rfl) _ _ 24 (by rfl) (by rfl) (by rfl) hrun ?_)
  go_ret
  exact ⟨_, _, rfl, HX.out⟩

theorem byt_id {w : World} {g : Nat} {l : List UInt8} (h : w.heap[g]? = some (.cells (row8 l) 36 (0, 0))) (hl : l.length = 32) : Byt w (fun _ => True) (some ⟨g, 0, none⟩) 32 32 l := by
  have := byt_whole h (by omega)
  rwa [hl] at this
set_option maxHeartbeats 4000000 in
set_option maxRecDepth 100000 in
theorem ofPair_any (a b : List UInt8) (ha : a.length = 32) (hb : b.length = 32) (w : World) :
    Calls Tryd.prog 66 #[.agg (row8 a), .agg (row8 b)] w fun e w' => ∃ g c', e = .returned (.slice (some ⟨g, 0, none⟩) 65 c') ∧ Byt w' (w.heap.size ≤ ·) (some ⟨g, 0, none⟩) 65 c' (1 :: (a ++ b)) ∧ Below w.heap.size w w' := by
  obtain ⟨AS, hAS⟩ : ∃ AS, AS = row8 a := ⟨_, rfl⟩
  obtain ⟨BS, hBS⟩ : ∃ BS, BS = row8 b := ⟨_, rfl⟩
  rw [← hAS, ← hBS]
  have hg0 : ((w.alloc (.cells AS 36)).alloc (.cells BS 36)).heap[w.heap.size]? = some (.cells AS 36 (0, 0)) := (Below.heap_alloc _ _ _ (by simp)).trans (heap_alloc_new w _)
  have hg1 : ((w.alloc (.cells AS 36)).alloc (.cells BS 36)).heap[w.heap.size + 1]? = some (.cells BS 36 (0, 0)) := by
    have := heap_alloc_new (w.alloc (.cells AS 36)) (.cells BS 36)
    simpa using this
  have hb0 : Below w.heap.size w ((w.alloc (.cells AS 36)).alloc (.cells BS 36)) := ((Below.refl _ _).alloc (Nat.le_refl _) _).alloc (by simp) _
  have hsz : ((w.alloc (.cells AS 36)).alloc (.cells BS 36)).heap.size = w.heap.size + 2 := by simp
  obtain ⟨w1, hw1⟩ : ∃ w1, (w.alloc (.cells AS 36)).alloc (.cells BS 36) = w1 := ⟨_, rfl⟩
  rw [hw1] at hg0 hg1 hb0 hsz
  rw [hAS] at hg0
  rw [hBS] at hg1
  obtain ⟨g2, c2, w2, hrun2, hown2, hgr2⟩ := append_bytes (own_lit w1 1 1 rfl) (by omega) ((byt_id hg0 ha).alloc _) (by omega) (by simp) 24
  have hb2 : Below w1.heap.size w1 w2 := below_of_gr ((Below.refl _ w1).alloc (Nat.le_refl _) _) hgr2 (by simp)
  obtain ⟨g3, c3, w3, hrun3, hown3, hgr3⟩ := append_bytes hown2 (by omega) ((byt_id hg1 hb).below hb2) (by omega) hb2.size 24
  have hb3 : Below w1.heap.size w1 w3 := hb2.grown hgr3 hb2.size (fun k e => by injection e with e; rw [← e]; have := hown2.lt g2 rfl; exact this.1)
  have HX : Hid (Byt w3 (w.heap.size ≤ ·) (some ⟨g3, 0, none⟩) 65 c3 (1 :: (a ++ b)) ∧ Below w.heap.size w w3) := Lib.hid (by
    refine ⟨?_, hb0.trans (hb3.mono hb0.size)⟩
    have := (own_byt_at (l := 1 :: (a ++ b)) (by simpa [u8s] using hown3)).mono (T := (w.heap.size ≤ ·)) (fun b _ hb => by omega)
    exact this)
  rw [← hw1] at hrun2
  simp only [World.size_alloc] at hrun2
  simp only [Nat.reduceAdd] at hrun3
  have HRUN3 := Lib.hid hrun3
  clear hg0 hg1 hb0 hown2 hgr2 hown3 hgr3 hb2 hb3 hAS hBS hsz hw1 hrun3
  go_enter Tryd.func66, Tryd.ntmps66
  go_wp2_with (at_builtin; first | (refine wpList_app (by rfl) _ _ 24 (by rfl) (by rfl) (by rfl) hrun2 ?_; clear hrun2) | (refine wpList_app (by rfl) _ _ 24 (by rfl) (by rfl) (by rfl) HRUN3.out ?_))
  go_ret
  exact ⟨_, _, rfl, HX.out⟩

/-! ofRoot -/
def ORt (w : World) (n : Nat) (AS : Array Value) (v i : Value) (wr : World) : Prop :=
  ∃ j g' c', j ≤ 8 ∧ i = .int .i64 ((j : Nat) : Int) ∧ v = .slice (some ⟨g', 0, none⟩) (1 + j) c' ∧ wr.ownsRow (w.heap.size + 1) 5 1 (.slice (some ⟨g', 0, none⟩) (1 + j) c') (1 + j) (u8s (2 :: le8 n j)) ∧ wr.heap[w.heap.size]? = some (.cells AS 36 (0, 0)) ∧ Below w.heap.size w wr
set_option maxHeartbeats 4000000 in
set_option maxRecDepth 100000 in
theorem ofRoot_any (n : Nat) (hn : n < 9223372036854775808) (a : List UInt8) (ha : a.length = 32) (w : World) :
    Calls Tryd.prog 43 #[.int .i64 (n : Int), .agg (row8 a)] w fun e w' => ∃ g c', e = .returned (.slice (some ⟨g, 0, none⟩) 41 c') ∧ Byt w' (w.heap.size ≤ ·) (some ⟨g, 0, none⟩) 41 c' (2 :: (le8 n 8 ++ a)) ∧ Below w.heap.size w w' := by
  obtain ⟨i0, hi, hz0, hz1, hz2⟩ := info_parts u8_info
  have HI := Lib.hid (And.intro hi (And.intro hz0 (And.intro hz1 hz2)))
  clear hi hz0 hz1 hz2
  obtain ⟨AS, hAS⟩ : ∃ AS, AS = row8 a := ⟨_, rfl⟩
  rw [← hAS]
  have hg0 := heap_alloc_new w (.cells AS 36)
  have hb0 : Below w.heap.size w (w.alloc (.cells AS 36)) := (Below.refl _ _).alloc (Nat.le_refl _) _
  have hown := own_lit (w.alloc (.cells AS 36)) 2 2 rfl
  have hgl := (Below.heap_alloc (w.alloc (.cells AS 36)) (.cells #[.int .u8 2] 5) w.heap.size (by simp)).trans hg0
  have hb1 := hb0.alloc (by simp) (.cells #[.int .u8 2] 5)
  simp only [World.size_alloc] at hown
  have H0 := Lib.hid (And.intro hown (And.intro hgl hb1))
  have HAS := Lib.hid (And.intro hAS ha)
  clear hg0 hb0 hown hgl hb1 hAS ha
  have hw8 : IntKind.u64.wrap (n : Int) = (n : Int) := by
    rw [IntKind.wrap_u64]
    omega
  go_enter Tryd.func43, Tryd.ntmps43
  go_wp2_with fail
  generalize (w.alloc (.cells AS 36)).alloc (.cells #[.int .u8 2] 5) = w1 at *
  go_loopw [5, 8] (fun v i wr => ORt w n AS v i wr) (fun _ i _ => 8 - (intOf i).toNat)
  case atStart => unfold ORt; exact ⟨0, _, _, by omega, rfl, rfl, H0.out⟩
  case round =>
    obtain ⟨j, g', c', hj, rfl, rfl, ho, hrow, hb⟩ := hrel
    have HX := Lib.hid (And.intro ho (And.intro hrow hb))
    have hszr := hb.size
    have hgs : w.heap.size < wr.heap.size := lt_of_cells hrow
    by_cases hlt : j < 8
    · have hE := Lib.hid (le8_succ n j)
      have hmb := byte_mod n (8 * j)
      generalize UInt8.ofNat (n / 2 ^ (8 * j)) = y at *
      have hone : Hid ([Value.int .u8 ((n : Int) / 2 ^ (8 * j) % 256)] = u8s [y]) := Lib.hid (by
        rw [show ((n : Int) / 2 ^ (8 * j)) = ((n / 2 ^ (8 * j) : Nat) : Int) by simp, hmb]
        rfl)
      clear ho hrow hb H0 hmb
      go_wp2_with (at_builtin; refine wpList_append_own_at _ rfl _ _ 24 rfl (w.heap.size + 1) 5 i0 (.int .u8 0) 1 1 Tryd.underlying24 HI.out.1 HI.out.2.1 HI.out.2.2.1 HI.out.2.2.2 rfl (by decide) _ (1 + j) (u8s (2 :: le8 n j)) rfl (HX.out.1.alloc _) ⟨wr.heap.size, 0, none⟩ 1 1 _ rfl rfl (cell_one_new _ _ _) (one_of rfl) (by unfold maxLen; omega) (by omega) (by simp; omega) ?_)
      intro v' w2 hown2 hgrow _ _
      obtain ⟨g2, c2, rfl, hge, _⟩ := hown2.form (by omega)
      have hlt' := HX.out.1.lt
      have HB2 : Hid (Below w.heap.size w w2) := Lib.hid ((HX.out.2.2.alloc hszr _).grown hgrow (by simp; omega) (fun b hb => by have := (hlt' b hb).1; omega))
      have HR2 : Hid (w2.heap[w.heap.size]? = some (.cells AS 36 (0, 0))) := Lib.hid ((hgrow.block _ (by simp; omega) (fun e => by have := (hlt' _ e.symm).1; omega)).trans ((Below.heap_alloc _ _ _ hgs).trans HX.out.2.1))
      have HO2 : Hid (w2.ownsRow (w.heap.size + 1) 5 1 (.slice (some ⟨g2, 0, none⟩) (1 + (j + 1)) c2) (1 + (j + 1)) (u8s (2 :: le8 n (j + 1)))) := Lib.hid (by
        rw [hone.out, ← u8s_append, List.cons_append, ← hE.out] at hown2
        exact hown2)
      clear hown2 hgrow hlt' HX
      go_wp2_with fail
      go_roundw
      case rel => unfold ORt; exact ⟨j + 1, g2, c2, by omega, by go_num, rfl, HO2.out, HR2.out, HB2.out⟩
      case measure => simp [intOf]; omega
    · obtain rfl : j = 8 := by omega
      have hrow' := hrow
      rw [HAS.out.1] at hrow'
      obtain ⟨g3, c3, w3, hrun3, hown3, hgr3⟩ := append_bytes ho (by omega) (byt_id hrow' HAS.out.2) (by omega) (by omega) 24
      simp only [Nat.reduceAdd] at hrun3
      have HY : Hid (Byt w3 (w.heap.size ≤ ·) (some ⟨g3, 0, none⟩) 41 c3 (2 :: (le8 n 8 ++ a)) ∧ Below w.heap.size w w3) := Lib.hid (by
        refine ⟨?_, hb.grown hgr3 hb.size (fun k e => by injection e with e; rw [← e]; have := (ho.lt g' rfl).1; omega)⟩
        exact (own_byt_at (l := 2 :: (le8 n 8 ++ a)) (by rw [← u8s_append] at hown3; exact hown3)).mono (T := (w.heap.size ≤ ·)) (fun b _ hb => by omega))
      clear ho hrow hb hrow' hown3 hgr3 H0
      go_wp2_with (at_builtin; refine wpList_app (by rfl) _ _ 24 (by rfl) (by rfl) (by rfl) hrun3 ?_)
      go_ret
      exact ⟨_, _, rfl, HY.out⟩
end Go.Proofs.YtnbjhdlnibmgdaaDoor

/-! proof: the digests of leaves, and those above a row. -/
namespace Go.Proofs.YtnbjhdlnibmgdaaDoor
open Go.RowKit

/-- The first j of l, and noughts. -/
def fillL (l : List (List UInt8)) (n j : Nat) : List (List UInt8) := l.take j ++ List.replicate (n - j) (List.replicate 32 0)
theorem fillL_length {l : List (List UInt8)} {n j : Nat} (hl : l.length = n) (hj : j ≤ n) : (fillL l n j).length = n := by
  rw [fillL, List.length_append, List.length_take, List.length_replicate]
  omega
theorem fillL_set {l : List (List UInt8)} {n j : Nat} (hl : l.length = n) (hj : j < n) : (fillL l n j).set j (l[j]?.getD []) = fillL l n (j + 1) := by
  have h1 : (l.take j).length = j := by rw [List.length_take]; omega
  rw [fillL, fillL, List.set_append_right _ _ (by omega), h1, Nat.sub_self, show n - j = (n - (j + 1)) + 1 by omega, List.replicate_succ, List.set_cons_zero, List.take_succ_eq_append_getElem (by omega : j < l.length), List.getElem?_eq_getElem (by omega : j < l.length), Option.getD_some, List.append_assoc]
  rfl
theorem fillL_all {l : List (List UInt8)} {n : Nat} (hl : l.length = n) : fillL l n n = l := by
  rw [fillL, Nat.sub_self, List.take_of_length_le (by omega)]
  simp
def LwR (w : World) (g : Nat) (l : List (List UInt8)) (n : Nat) (i : Value) (wr : World) : Prop := ∃ j : Nat, j ≤ n ∧ i = .int .i64 (j : Int) ∧ IdBlk wr g (fillL l n j) ∧ Below w.heap.size w wr

set_option maxHeartbeats 4000000 in
set_option maxRecDepth 100000 in
theorem lowest_any {w : World} {S : Nat → Prop} {A : Option Addr} {n c : Nat} {b : List UInt8} (h : Byt w S A n c b) (hn : n ≤ 1000000) (ht : Tab w) :
    Calls Tryd.prog 53 #[.slice A n c] w fun e w' => ∃ g, e = .returned (.slice (some ⟨g, 0, none⟩) (splitL b).length (splitL b).length) ∧ w.heap.size ≤ g ∧ IdBlk w' g (digs b) ∧ Below w.heap.size w w' := by
  have hlv := leaves_any h
  have hct := leaves_at b
  rw [h.len] at hct
  obtain ⟨N, hN⟩ : ∃ N, N = (splitL b).length := ⟨_, rfl⟩
  rw [← hN] at hlv hct ⊢
  have hN6 : N ≤ 1000000 := by split at hct <;> omega
  obtain ⟨w1, hmk, hblk, hb1, hs1⟩ := make_ids w N hN6
  have hlo := fun (wr : World) (hb : Below w.heap.size w wr) (i : Nat) (hi : i < N) => leafOf_any ((h.mono (T := fun x => x < w.heap.size) (fun b hb _ => hb)).below hb) hn (i := i) (by omega)
  have HH := Lib.hid (And.intro h (And.intro hn (And.intro ht (And.intro hN hN6))))
  have HLO := Lib.hid hlo
  have HB := Lib.hid (And.intro hblk (And.intro hb1 hs1))
  clear h hn ht hct hblk hb1 hs1 hlo hN
  go_enter Tryd.func53, Tryd.ntmps53
  go_wp2_with (go_at_call 44; refine hlv.mono ?_; rintro _ _ ⟨rfl, rfl⟩)
  go_loopw [10] (fun i wr => LwR w w.heap.size (digs b) N i wr) (fun i _ => N - (intOf i).toNat)
  case atStart =>
    unfold LwR
    refine ⟨0, Nat.zero_le _, rfl, ?_, HB.out.2.1⟩
    have := HB.out.1
    rwa [fillL, List.take_zero, List.nil_append, Nat.sub_zero]
  case round =>
    obtain ⟨j, hj, rfl, hbl, hbr⟩ := hrel
    have HX := Lib.hid (And.intro hbl hbr)
    have hds : Hid ((digs b).length = N) := Lib.hid (by rw [digs_length, ← HH.out.2.2.2.1])
    by_cases hlt : j < N
    · have hlf := HLO.out wr hbr j hlt
      clear hbl hbr hlv hmk
      go_wp2_with (go_at_call 64; refine hlf.mono ?_; clear hlf; rintro _ _ ⟨⟨A2, n2, c2, rfl, hy2⟩, rfl⟩)
      have hn2 : n2 ≤ 64 := by
        rw [← hy2.len, List.getElem?_eq_getElem (by have := HH.out.2.2.2.1; omega)]
        exact splitL_le b _ (List.getElem_mem _)
      have hol := ofLeaf_any hy2 (by omega)
      have HN2 := Lib.hid hn2
      clear hn2 hy2
      refine hol.mono ?_
      rintro _ w3 ⟨g3, c3, rfl, hy3, hb3⟩
      have hw3 : Below w.heap.size w w3 := HX.out.2.trans (hb3.mono HX.out.2.size)
      have hb4 : Below w3.heap.size w3 (w3.alloc (.cells #[.slice (some ⟨g3, 0, none⟩) (1 + n2) c3] 24)) := (Below.refl _ _).alloc (Nat.le_refl _) _
      have hw4 := hw3.trans (hb4.mono hw3.size)
      have hof := of_any (rws_one hy3) (HH.out.2.2.1.below hw4) (by have h1 := hy3.len; have h2 := HN2.out; rw [List.flatten_cons, List.flatten_nil, List.append_nil, h1]; omega)
      simp only [List.flatten_cons, List.flatten_nil, List.append_nil] at hof
      rw [show shaL (0 :: (splitL b)[j]?.getD []) = leafD ((splitL b)[j]?.getD []) from rfl, ← digs_at (by have := HH.out.2.2.2.1; omega)] at hof
      have hd32 : ((digs b)[j]?.getD []).length = 32 := by
        rw [digs_at (by have := HH.out.2.2.2.1; omega)]
        exact leafD_length _
      obtain ⟨DS, hDS⟩ : ∃ DS, DS = (u8s ((digs b)[j]?.getD [])).toArray := ⟨_, rfl⟩
      rw [← hDS] at hof
      have H4 : Hid (IdBlk (w3.alloc (.cells #[.slice (some ⟨g3, 0, none⟩) (1 + n2) c3] 24)) w.heap.size (fillL (digs b) N j) ∧ Below w.heap.size w (w3.alloc (.cells #[.slice (some ⟨g3, 0, none⟩) (1 + n2) c3] 24))) := Lib.hid ⟨(HX.out.1.below hb3).below hb4, hw4⟩
      have HD := Lib.hid (And.intro hDS hd32)
      clear hw3 hb4 hw4 hDS hd32 hy3 hb3 hol HX
      go_wp2_with fail
      refine hof.mono ?_
      rintro _ w5 ⟨rfl, hb5⟩
      have H5 : Hid (IdBlk w5 w.heap.size (fillL (digs b) N j) ∧ Below w.heap.size w w5) := Lib.hid ⟨H4.out.1.below hb5, H4.out.2.trans (hb5.mono H4.out.2.size)⟩
      clear hb5 hof H4
      go_wp2_with (refine wpList_store_id (by rfl) (.tmp 21) (.tmp 20) (by rfl) H5.out.1 j (by rw [fillL_length hds.out (by omega)]; exact hlt) DS _ HD.out.1 HD.out.2 _ rfl (by rfl) (by rfl) ?_)
      intro w6 hb6 hg6
      have H6 : Hid (IdBlk w6 w.heap.size (fillL (digs b) N (j + 1)) ∧ Below w.heap.size w w6) := Lib.hid ⟨by rw [← fillL_set hds.out hlt]; exact hb6, H5.out.2.grown hg6 H5.out.2.size (fun k e => by injection e; omega)⟩
      clear hb6 hg6 H5
      go_wp2_with fail
      go_roundw
      case rel => unfold LwR; exact ⟨j + 1, by omega, by go_num, H6.out⟩
      case measure => simp [intOf]; omega
    · obtain rfl : j = N := by omega
      go_wp2
      go_ret
      refine ⟨_, rfl, Nat.le_refl _, ?_, HX.out.2⟩
      have := HX.out.1
      rwa [fillL_all hds.out] at this

/-! above -/
theorem wpList_load_id {ops : Array Oper} {rest : List Oper} {op : Oper} {a : Act} {W : World} {Q : Exit → Act → World → Prop} (hgd : op.guard = none) (x : Operand) (ho : op.op = .load 36 x)
    {S : Nat → Prop} {b off n c : Nat} {l : List (List UInt8)} (h : Ids W S (some ⟨b, off, none⟩) n c l) (i : Nat) (hi : i < n) (XS : Array Value) (hXS : XS = row8 (l[i]?.getD [])) (o : Nat) (hoo : o = off + i * 32) (hx : a.eval x = .pointer (some ⟨b, o, none⟩))
    (hK : wpList Tryd.prog ops Q rest (a.put op.dst (.agg XS)) W) : wpList Tryd.prog ops Q (op :: rest) a W :=
  wpList_plain hgd fun K hK' => by
    subst hXS hoo
    obtain ⟨b', off', hA, _, h32, hc⟩ := h.at_ hi
    injection hA with hA
    injection hA with e1 e2
    subst e1 e2
    unfold Oper.wp execOp
    simp only [ho, hx, Instr.loadAt, Instr.sureAddr, Sem.run_bind, Sem.run_pure, Result.andThen_ok, run_loadVar_at W ⟨b, off + i * 32, none⟩ 36 (row8 (l[i]?.getD [])) _ hc Tryd.underlying36 rfl (by rw [row8_size, h32]; exact id_info)]
    exact hK' _ _ hK
theorem aboveL_32 : ∀ {l : List (List UInt8)}, (∀ x ∈ l, x.length = 32) → ∀ x, x ∈ aboveL l → x.length = 32
  | a :: b :: r, h => fun x hx => by
    rw [aboveL] at hx
    rcases List.mem_cons.1 hx with h1 | h1
    · rw [h1]
      exact nodeD_length _ _
    · exact aboveL_32 (fun y hy => h y (by simp [hy])) x h1
  | [a], h => fun x hx => by
    rw [aboveL] at hx
    exact h x hx
  | [], _ => fun x hx => by
    rw [aboveL] at hx
    cases hx
theorem get32 {l : List (List UInt8)} (h : ∀ x ∈ l, x.length = 32) {i : Nat} (hi : i < l.length) : (l[i]?.getD []).length = 32 := by
  rw [List.getElem?_eq_getElem hi]
  exact h _ (List.getElem_mem hi)
theorem runs_load_id {R : Value → World → Prop} {E : Operand → Value} {op : Oper} {W : World} (x : Operand) (ho : op.op = .load 36 x)
    {S : Nat → Prop} {b off n c : Nat} {l : List (List UInt8)} (h : Ids W S (some ⟨b, off, none⟩) n c l) (i : Nat) (hi : i < n) (XS : Array Value) (hXS : XS = row8 (l[i]?.getD [])) (o : Nat) (hoo : o = off + i * 32) (hx : E x = .pointer (some ⟨b, o, none⟩)) (hK : R (.agg XS) W) : Grow.runsTo Tryd.prog R ((execOp E op).run Tryd.prog W) := by
  subst hXS hoo
  obtain ⟨b', off', hA, _, h32, hc⟩ := h.at_ hi
  injection hA with hA
  injection hA with e1 e2
  subst e1 e2
  exact runs_load_at 36 x ho ⟨b, off + i * 32, none⟩ hx (row8 (l[i]?.getD [])) hc Tryd.underlying36 (by rw [row8_size, h32]; exact id_info) hK
theorem runs_store_id {R : Value → World → Prop} {E : Operand → Value} {op : Oper} {W : World} (x y : Operand) (ho : op.op = .store 36 x y)
    {g : Nat} {l : List (List UInt8)} (h : IdBlk W g l) (i : Nat) (hi : i < l.length) (DS : Array Value) (d : List UInt8) (hDS : DS = row8 d) (hd : d.length = 32) (o : Nat) (hoo : o = i * 32)
    (hx : E x = .pointer (some ⟨g, o, none⟩)) (hy : E y = .agg DS) (hK : R undef (W.setRow g (row8 (l.set i d).flatten))) : Grow.runsTo Tryd.prog R ((execOp E op).run Tryd.prog W) := by
  obtain ⟨hr, _⟩ := run_store_id h i hi DS d hDS hd o hoo
  unfold execOp
  simp only [ho, hx, hy, Sem.run_bind, hr, Result.andThen_ok, Sem.run_pure]
  exact hK
/-- A slice of rows, of a row that lies in S. -/
theorem rws_made {w : World} {S T : Nat → Prop} {A : Option Addr} {n c : Nat} {l : List UInt8} (h : Byt w S A n c l) (hST : ∀ b, S b → T b) (hT : T w.heap.size) :
    Rws (w.alloc (.cells #[.slice A n c] 24)) T (some ⟨w.heap.size, 0, none⟩) 1 1 [l] := by
  refine ⟨rfl, Nat.le_refl _, by unfold maxLen; omega, fun _ => ⟨w.heap.size, 0, rfl, hT, by simp, fun i hi => ?_⟩⟩
  obtain rfl : i = 0 := by omega
  refine ⟨A, n, c, ?_, (h.mono fun b _ hb => hST b hb).below ((Below.refl _ _).alloc (Nat.le_refl _) _)⟩
  rw [cell_of_cells (heap_alloc_new w _)]
  rfl
set_option maxHeartbeats 4000000 in
set_option maxRecDepth 100000 in
theorem above_any {w : World} {S : Nat → Prop} {A : Option Addr} {n c : Nat} {l : List (List UInt8)} (h : Ids w S A n c l) (h0 : 0 < n) (hn : n ≤ 1000000) (ht : Tab w) :
    Calls Tryd.prog 54 #[.slice A n c] w fun e w' => ∃ g, e = .returned (.slice (some ⟨g, 0, none⟩) ((n + 1) / 2) ((n + 1) / 2)) ∧ w.heap.size ≤ g ∧ IdBlk w' g (aboveL l) ∧ Below w.heap.size w w' := by
  have hhf := half_any n (by omega) w
  obtain ⟨M, hM⟩ : ∃ M, M = (n + 1) / 2 := ⟨_, rfl⟩
  rw [← hM] at hhf ⊢
  have hM6 : M ≤ 1000000 := by omega
  obtain ⟨w1, hmk, hblk, hb1, hs1⟩ := make_ids w M hM6
  obtain ⟨b, off, rfl, _⟩ := h.row h0
  have HH := Lib.hid (And.intro (h.mono (T := fun x => x < w.heap.size) (fun b hb _ => hb)) (And.intro hn (And.intro ht (And.intro hM hM6))))
  have HB := Lib.hid (And.intro hblk (And.intro hb1 hs1))
  have hds : Hid ((aboveL l).length = M) := Lib.hid (by rw [aboveL_length, h.len, hM])
  have H32 := Lib.hid (aboveL_32 h.each)
  clear h hn ht hblk hb1 hs1 hM
  go_enter Tryd.func54, Tryd.ntmps54
  go_wp2_with (go_at_call 65; refine hhf.mono ?_; rintro _ _ ⟨rfl, rfl⟩)
  go_loopw [11] (fun i wr => LwR w w.heap.size (aboveL l) M i wr) (fun i _ => M - (intOf i).toNat)
  case atStart =>
    unfold LwR
    refine ⟨0, Nat.zero_le _, rfl, ?_, HB.out.2.1⟩
    have := HB.out.1
    rwa [fillL, List.take_zero, List.nil_append, Nat.sub_zero]
  case round =>
    obtain ⟨j, hj, rfl, hbl, hbr⟩ := hrel
    have HX := Lib.hid (And.intro hbl hbr)
    by_cases hlt : j < M
    · clear hbl hbr hhf hmk
      have hjn : 2 * j < n := by have := HH.out.2.2.2.1; omega
      have HI : Hid (Ids wr (fun x => x < w.heap.size) (some ⟨b, off, none⟩) n c l) := Lib.hid (HH.out.1.below HX.out.2)
      have hat := aboveL_at l (2 * j) (by rw [HI.out.len]; exact hjn)
      rw [show 2 * j / 2 = j by omega, if_neg (by omega), HI.out.len] at hat
      have HAT := Lib.hid hat
      clear hat
      obtain ⟨X, hX⟩ : ∃ X, X = l[2 * j]?.getD [] := ⟨_, rfl⟩
      obtain ⟨XS, hXS⟩ : ∃ XS, XS = row8 X := ⟨_, rfl⟩
      have HX1 : Hid (X = l[2 * j]?.getD []) := Lib.hid hX
      have HXS := Lib.hid (And.intro hXS (show X.length = 32 by rw [hX]; exact get32 HI.out.each (i := 2 * j) (by rw [HI.out.len]; exact hjn)))
      clear hXS hX
      go_wp2_with (first | refine wpList_load_id (by rfl) (.tmp 19) (by rfl) HI.out (2 * j) hjn XS (by rw [← HX1.out]; exact HXS.out.1) _ rfl (by rfl) ?_ | refine wpList_store_id (by rfl) (.tmp 21) (.tmp 20) (by rfl) HX.out.1 j (by rw [fillL_length hds.out (by omega)]; exact hlt) XS _ HXS.out.1 HXS.out.2 _ rfl (by rfl) (by rfl) ?_)
      intro w6 hb6 hg6
      have HL2 : Hid (((fillL (aboveL l) M j).set j X).length = M) := Lib.hid (by rw [List.length_set]; exact fillL_length hds.out (by omega))
      obtain ⟨L2, hL2⟩ : ∃ L2, L2 = (fillL (aboveL l) M j).set j X := ⟨_, rfl⟩
      rw [← hL2] at hb6 HL2
      have HE2 := Lib.hid hL2
      have HW6 : Hid (Below w.heap.size w w6 ∧ IdBlk w6 w.heap.size L2) := Lib.hid ⟨HX.out.2.grown hg6 HX.out.2.size (fun k e => by injection e; omega), hb6⟩
      clear hb6 hg6 hL2 HI
      by_cases hj2 : 2 * j + 1 < n
      · have hj2' : (2 * (j : Int) + 1) < (n : Int) := by omega
        have HTL : Hid (0 < w.heap.size ∧ 1 < w.heap.size) := Lib.hid ⟨HH.out.2.2.1.lt1, HH.out.2.2.1.lt2⟩
        have HD0 : Hid (IdBlk w6.drew w.heap.size L2 ∧ Tab w6.drew) := Lib.hid ⟨HW6.out.2, (HH.out.2.2.1.below HW6.out.1).drew⟩
        have HI2 : Hid (Ids w6.drew (fun x => x < w.heap.size) (some ⟨b, off, none⟩) n c l) := Lib.hid (HH.out.1.below HW6.out.1).drew
        obtain ⟨Y, hY⟩ : ∃ Y, Y = l[2 * j + 1]?.getD [] := ⟨_, rfl⟩
        obtain ⟨YS, hYS⟩ : ∃ YS, YS = row8 Y := ⟨_, rfl⟩
        have HY1 : Hid (Y = l[2 * j + 1]?.getD []) := Lib.hid hY
        have HYS := Lib.hid (And.intro hYS (show Y.length = 32 by rw [hY]; exact get32 HI2.out.each (by rw [HI2.out.len]; exact hj2)))
        obtain ⟨Z, hZ⟩ : ∃ Z, Z = nodeD X Y := ⟨_, rfl⟩
        obtain ⟨ZS, hZS⟩ : ∃ ZS, ZS = row8 Z := ⟨_, rfl⟩
        have HZ := Lib.hid (And.intro hZS (And.intro hZ (show Z.length = 32 by rw [hZ]; exact nodeD_length _ _)))
        clear hY hYS hZ hZS
        go_wp2_with fail
        refine wp_region_grow (Sto w.heap.size (.cells (row8 (L2.set j Z).flatten) 36 (0, 0))) (Grow.nth [fun v _ => v = .slice (some ⟨w.heap.size, 0, none⟩) M M, fun v _ => v = .int .i64 (j : Int), fun v _ => v = .slice (some ⟨b, off, none⟩) n c, fun v _ => v = .int .i64 (j : Int), fun v _ => v = .int .i64 (2 * (j : Int)), fun v _ => v = .pointer (some ⟨b, off + 2 * j * 32, none⟩), fun v _ => v = .agg XS, fun v _ => v = .slice (some ⟨b, off, none⟩) n c, fun v _ => v = .int .i64 (j : Int), fun v _ => v = .int .i64 (2 * (j : Int)), fun v _ => v = .int .i64 (2 * (j : Int) + 1), fun v _ => v = .pointer (some ⟨b, off + (2 * j + 1) * 32, none⟩), fun v _ => v = .agg YS, fun v W => ∃ q c', v = .slice (some ⟨q, 0, none⟩) 65 c' ∧ Byt W (fun b => b ≠ w.heap.size) (some ⟨q, 0, none⟩) 65 c' (1 :: (X ++ Y)), fun v W => ∃ q, v = .slice (some ⟨q, 0, none⟩) 1 1 ∧ Rws W (fun b => b ≠ w.heap.size) (some ⟨q, 0, none⟩) 1 1 [1 :: (X ++ Y)], fun v _ => v = .agg ZS, fun v _ => v = .pointer (some ⟨w.heap.size, j * 32, none⟩), fun _ W => W.heap[w.heap.size]? = some (.cells (row8 (L2.set j Z).flatten) 36 (0, 0))]) 47 (by kernel_rfl) (by kernel_rfl) (by rfl) (Sto.refl _ _) (fun _ _ _ h1 h2 => h1.trans h2) (Grow.mono_nth ?gmono) ?gsteps ?gfin
        case gmono => exact ⟨fun _ _ _ h _ => h, fun _ _ _ h _ => h, fun _ _ _ h _ => h, fun _ _ _ h _ => h, fun _ _ _ h _ => h, fun _ _ _ h _ => h, fun _ _ _ h _ => h, fun _ _ _ h _ => h, fun _ _ _ h _ => h, fun _ _ _ h _ => h, fun _ _ _ h _ => h, fun _ _ _ h _ => h, fun _ _ _ h _ => h, fun _ _ _ ⟨q, c', h1, h2⟩ hg => ⟨q, c', h1, h2.turned hg.turned fun _ _ h => h⟩, fun _ _ _ ⟨q, h1, h2⟩ hg => ⟨q, h1, h2.turned hg.turned fun _ _ h => h⟩, fun _ _ _ h _ => h, fun _ _ _ h _ => h, fun _ _ _ h g => g.keeps h, trivial⟩
        case gsteps =>
          show Grow.allBelow _ 18
          refine And.intro ?_ ?s17
          refine And.intro ?_ ?s16
          refine And.intro ?_ ?s15
          refine And.intro ?_ ?s14
          refine And.intro ?_ ?s13
          refine And.intro ?_ ?s12
          refine And.intro ?_ ?s11
          refine And.intro ?_ ?s10
          refine And.intro ?_ ?s9
          refine And.intro ?_ ?s8
          refine And.intro ?_ ?s7
          refine And.intro ?_ ?s6
          refine And.intro ?_ ?s5
          refine And.intro ?_ ?s4
          refine And.intro ?_ ?s3
          refine And.intro ?_ ?s2
          refine And.intro ?_ ?s1
          refine And.intro ?_ ?s0
          exact trivial
          case s0 =>
            refine Grow.step_in (by rfl) (by rfl) ?_
            intro E W ec eg ef hG hd hu R HR
            have e3 : E (.tmp 3) = .slice (some ⟨w.heap.size, 0, none⟩) M M := hu 3 (by kernel_rfl)
            clear hd hu
            go_simp
            exact HR.out _ _ (Sto.refl _ _ _) rfl
          case s1 =>
            refine Grow.step_in (by rfl) (by rfl) ?_
            intro E W ec eg ef hG hd hu R HR
            have e4 : E (.tmp 4) = .int .i64 (j : Int) := hu 4 (by kernel_rfl)
            clear hd hu
            go_simp
            exact HR.out _ _ (Sto.refl _ _ _) rfl
          case s2 =>
            refine Grow.step_in (by rfl) (by rfl) ?_
            intro E W ec eg ef hG hd hu R HR
            have e0 : E (.tmp 0) = .slice (some ⟨b, off, none⟩) n c := hu 0 (by kernel_rfl)
            clear hd hu
            go_simp
            exact HR.out _ _ (Sto.refl _ _ _) rfl
          case s3 =>
            refine Grow.step_in (by rfl) (by rfl) ?_
            intro E W ec eg ef hG hd hu R HR
            have e4 : E (.tmp 4) = .int .i64 (j : Int) := hu 4 (by kernel_rfl)
            clear hd hu
            go_simp
            exact HR.out _ _ (Sto.refl _ _ _) rfl
          case s4 =>
            refine Grow.step_in (by rfl) (by rfl) ?_
            intro E W ec eg ef hG hd hu R HR
            have e31 : E (.tmp 31) = .int .i64 (j : Int) := hd 3 31 (by kernel_rfl)
            clear hd hu
            go_simp
            rw [IntWalk.i64_in (2 * (j : Int)) (by omega)]
            exact HR.out _ _ (Sto.refl _ _ _) rfl
          case s5 =>
            refine Grow.step_in (by rfl) (by rfl) ?_
            intro E W ec eg ef hG hd hu R HR
            have e30 : E (.tmp 30) = .slice (some ⟨b, off, none⟩) n c := hd 2 30 (by kernel_rfl)
            have e32 : E (.tmp 32) = .int .i64 (2 * (j : Int)) := hd 4 32 (by kernel_rfl)
            clear hd hu
            go_simp
            rw [if_pos ⟨by omega, by omega⟩, show (2 * (j : Int)).toNat = 2 * j by omega]
            exact HR.out _ _ (Sto.refl _ _ _) rfl
          case s6 =>
            refine Grow.step_in (by rfl) (by rfl) ?_
            intro E W ec eg ef hG hd hu R HR
            have e33 : E (.tmp 33) = .pointer (some ⟨b, off + 2 * j * 32, none⟩) := hd 5 33 (by kernel_rfl)
            clear hd hu
            exact runs_load_id (.tmp 33) rfl (HI2.out.turned hG.turned (fun b _ hb => by omega)) (2 * j) hjn XS (by rw [← HX1.out]; exact HXS.out.1) _ rfl e33 (HR.out _ _ (Sto.refl _ _ _) rfl)
          case s7 =>
            refine Grow.step_in (by rfl) (by rfl) ?_
            intro E W ec eg ef hG hd hu R HR
            have e0 : E (.tmp 0) = .slice (some ⟨b, off, none⟩) n c := hu 0 (by kernel_rfl)
            clear hd hu
            go_simp
            exact HR.out _ _ (Sto.refl _ _ _) rfl
          case s8 =>
            refine Grow.step_in (by rfl) (by rfl) ?_
            intro E W ec eg ef hG hd hu R HR
            have e4 : E (.tmp 4) = .int .i64 (j : Int) := hu 4 (by kernel_rfl)
            clear hd hu
            go_simp
            exact HR.out _ _ (Sto.refl _ _ _) rfl
          case s9 =>
            refine Grow.step_in (by rfl) (by rfl) ?_
            intro E W ec eg ef hG hd hu R HR
            have e36 : E (.tmp 36) = .int .i64 (j : Int) := hd 8 36 (by kernel_rfl)
            clear hd hu
            go_simp
            rw [IntWalk.i64_in (2 * (j : Int)) (by omega)]
            exact HR.out _ _ (Sto.refl _ _ _) rfl
          case s10 =>
            refine Grow.step_in (by rfl) (by rfl) ?_
            intro E W ec eg ef hG hd hu R HR
            have e37 : E (.tmp 37) = .int .i64 (2 * (j : Int)) := hd 9 37 (by kernel_rfl)
            clear hd hu
            go_simp
            rw [IntWalk.i64_in (2 * (j : Int) + 1) (by omega)]
            exact HR.out _ _ (Sto.refl _ _ _) rfl
          case s11 =>
            refine Grow.step_in (by rfl) (by rfl) ?_
            intro E W ec eg ef hG hd hu R HR
            have e35 : E (.tmp 35) = .slice (some ⟨b, off, none⟩) n c := hd 7 35 (by kernel_rfl)
            have e38 : E (.tmp 38) = .int .i64 (2 * (j : Int) + 1) := hd 10 38 (by kernel_rfl)
            clear hd hu
            go_simp
            rw [if_pos (by omega), show (2 * (j : Int) + 1).toNat = 2 * j + 1 by omega]
            exact HR.out _ _ (Sto.refl _ _ _) rfl
          case s12 =>
            refine Grow.step_in (by rfl) (by rfl) ?_
            intro E W ec eg ef hG hd hu R HR
            have e39 : E (.tmp 39) = .pointer (some ⟨b, off + (2 * j + 1) * 32, none⟩) := hd 11 39 (by kernel_rfl)
            clear hd hu
            exact runs_load_id (.tmp 39) rfl (HI2.out.turned hG.turned (fun b _ hb => by omega)) (2 * j + 1) hj2 YS (by rw [← HY1.out]; exact HYS.out.1) _ rfl e39 (HR.out _ _ (Sto.refl _ _ _) rfl)
          case s13 =>
            refine Grow.step_in (by rfl) (by rfl) ?_
            intro E W ec eg ef hG hd hu R HR
            have e34 : E (.tmp 34) = .agg XS := hd 6 34 (by kernel_rfl)
            have e40 : E (.tmp 40) = .agg YS := hd 12 40 (by kernel_rfl)
            clear hd hu
            go_simp
            rw [HXS.out.1, HYS.out.1]
            refine (ofPair_any X Y HXS.out.2 HYS.out.2 W).mono ?_
            rintro _ w' ⟨q, c', rfl, hy, hb⟩
            have hlt := hG.lt HD0.out.1.lt
            exact ⟨_, rfl, HR.out _ _ (Sto.of_below hb hlt) ⟨q, c', rfl, hy.mono fun b _ hb => by omega⟩⟩
          case s14 =>
            refine Grow.step_in (by rfl) (by rfl) ?_
            intro E W ec eg ef hG hd hu R HR
            have h41 := hd 13 41 (by kernel_rfl)
            clear hd hu
            obtain ⟨q, c', e41, hY⟩ := h41
            go_simp
            have hlt := hG.lt HD0.out.1.lt
            exact HR.out _ _ (Sto.of_below ((Below.refl _ _).alloc (Nat.le_refl _) _) hlt) ⟨W.heap.size, rfl, rws_made hY (fun _ h => h) (show W.heap.size ≠ _ by omega)⟩
          case s15 =>
            refine Grow.step_in (by rfl) (by rfl) ?_
            intro E W ec eg ef hG hd hu R HR
            have h42 := hd 14 42 (by kernel_rfl)
            clear hd hu
            obtain ⟨q, e42, hR⟩ := h42
            go_simp
            refine (of_any hR (HD0.out.2.turned hG.turned (by have := HD0.out.2.lt1; have := HTL.out; omega) (by have := HTL.out; omega)) (by have h1 := HXS.out.2; have h2 := HYS.out.2; simp; omega)).mono ?_
            rintro _ w' ⟨rfl, hb⟩
            exact ⟨_, rfl, HR.out _ _ (Sto.of_below hb (hG.lt HD0.out.1.lt)) (show Value.agg _ = Value.agg ZS by rw [HZ.out.1, HZ.out.2.1]; simp [row8, nodeD])⟩
          case s16 =>
            refine Grow.step_in (by rfl) (by rfl) ?_
            intro E W ec eg ef hG hd hu R HR
            have e28 : E (.tmp 28) = .slice (some ⟨w.heap.size, 0, none⟩) M M := hd 0 28 (by kernel_rfl)
            have e29 : E (.tmp 29) = .int .i64 (j : Int) := hd 1 29 (by kernel_rfl)
            clear hd hu
            go_simp
            exact HR.out _ _ (Sto.refl _ _ _) rfl
          case s17 =>
            refine Grow.step_in (by rfl) (by rfl) ?_
            intro E W ec eg ef hG hd hu R HR
            have e44 : E (.tmp 44) = .pointer (some ⟨w.heap.size, j * 32, none⟩) := hd 16 44 (by kernel_rfl)
            have e43 : E (.tmp 43) = .agg ZS := hd 15 43 (by kernel_rfl)
            clear hd hu
            have hblk : ∃ l, IdBlk W w.heap.size l ∧ l.length = M ∧ l.set j Z = L2.set j Z := by
              rcases hG.at_ with h1 | h1
              · exact ⟨L2, ⟨h1.trans HD0.out.1.1, HD0.out.1.2⟩, HL2.out, rfl⟩
              · exact ⟨L2.set j Z, ⟨h1, set_len32 HD0.out.1.2 j HZ.out.2.2⟩, by rw [List.length_set]; exact HL2.out, List.set_set _⟩
            obtain ⟨l2, hl2, hl3, hl4⟩ := hblk
            exact runs_store_id (.tmp 44) (.tmp 43) rfl hl2 j (by rw [hl3]; exact hlt) ZS Z HZ.out.1 HZ.out.2.2 _ rfl e44 e43 (by rw [hl4]; exact HR.out _ _ (Sto.store hl2.1) (setRow_at hl2.1))
        case gfin =>
          intro W hG
          refine Grow.fin_dst (by rfl) ?_
          rintro _ rfl
          refine Grow.fin_dst (by rfl) ?_
          rintro _ rfl
          refine Grow.fin_dst (by rfl) ?_
          rintro _ rfl
          refine Grow.fin_dst (by rfl) ?_
          rintro _ rfl
          refine Grow.fin_dst (by rfl) ?_
          rintro _ rfl
          refine Grow.fin_dst (by rfl) ?_
          rintro _ rfl
          refine Grow.fin_dst (by rfl) ?_
          rintro _ rfl
          refine Grow.fin_dst (by rfl) ?_
          rintro _ rfl
          refine Grow.fin_dst (by rfl) ?_
          rintro _ rfl
          refine Grow.fin_dst (by rfl) ?_
          rintro _ rfl
          refine Grow.fin_dst (by rfl) ?_
          rintro _ rfl
          refine Grow.fin_dst (by rfl) ?_
          rintro _ rfl
          refine Grow.fin_dst (by rfl) ?_
          rintro _ rfl
          refine Grow.fin_dst (by rfl) ?_
          rintro _ ⟨_, _, rfl, _⟩
          refine Grow.fin_dst (by rfl) ?_
          rintro _ ⟨_, rfl, _⟩
          refine Grow.fin_dst (by rfl) ?_
          rintro _ rfl
          refine Grow.fin_dst (by rfl) ?_
          rintro _ rfl
          refine Grow.fin_told (by rfl) ?_
          rintro ⟨_, hK⟩
          simp only [Act.put, List.setIfInBounds_toArray, List.set_cons_zero, List.set_cons_succ]
          refine Grow.fin_end ?_
          have H7 : Hid (Below w.heap.size w W ∧ IdBlk W w.heap.size (fillL (aboveL l) M (j + 1))) := Lib.hid (by
            refine ⟨HW6.out.1.trans ((hG.of_drew.turned.mono (T := (w.heap.size ≤ ·)) fun b _ hb => by omega).below HW6.out.1.size), ?_⟩
            have e : L2.set j Z = fillL (aboveL l) M (j + 1) := by
              have h1 := HAT.out
              rw [if_pos hj2, ← HX1.out, ← HY1.out, ← HZ.out.2.1] at h1
              rw [HE2.out, List.set_set, ← fillL_set hds.out hlt, h1]
            rw [← e]
            exact ⟨hK, set_len32 HD0.out.1.2 j HZ.out.2.2⟩)
          clear hG hK HD0 HW6 HI2
          go_wp2_with fail
          go_roundw
          case rel => unfold LwR; exact ⟨j + 1, by omega, by go_num, H7.out.2, H7.out.1⟩
          case measure => simp [intOf]; omega
      · have hj2' : ¬ (2 * (j : Int) + 1) < (n : Int) := by omega
        have H7 : Hid (Below w.heap.size w w6 ∧ IdBlk w6 w.heap.size (fillL (aboveL l) M (j + 1))) := Lib.hid (by
          refine ⟨HW6.out.1, ?_⟩
          have e : L2 = fillL (aboveL l) M (j + 1) := by
            have h1 := HAT.out
            rw [if_neg hj2, ← HX1.out] at h1
            rw [HE2.out, ← fillL_set hds.out hlt, h1]
          rw [← e]
          exact HW6.out.2)
        clear HW6
        go_wp2_with fail
        go_roundw
        case rel => unfold LwR; exact ⟨j + 1, by omega, by go_num, H7.out.2, H7.out.1⟩
        case measure => simp [intOf]; omega
    · obtain rfl : j = M := by omega
      go_wp2
      go_ret
      refine ⟨_, rfl, Nat.le_refl _, ?_, HX.out.2⟩
      have := HX.out.1
      rwa [fillL_all hds.out] at this
end Go.Proofs.YtnbjhdlnibmgdaaDoor

/-! proof.beside: the places beside the way up, and its iterator's promise. -/
namespace Go.Proofs.YtnbjhdlnibmgdaaDoor
open Go.RowKit Go.Shelf
attribute [local go_sem] Oper.semAt_some

def nx (a : Nat) : Nat := if a % 2 = 1 then a - 1 else a + 1
theorem nx_eq (a : Nat) : a ^^^ 1 = nx a := by
  have h1 : (a ^^^ 1) / 2 = a / 2 := by rw [Nat.xor_div_two]; simp
  have h2 : (a ^^^ 1) % 2 = (a + 1) % 2 := by
    have h3 := Nat.xor_mod_two_pow (a := a) (b := 1) (n := 1)
    simp only [Nat.pow_one] at h3
    rcases Nat.mod_two_eq_zero_or_one a with h | h
    · rw [h] at h3
      rw [h3]
      simp
      omega
    · rw [h] at h3
      rw [h3]
      simp
      omega
  unfold nx
  split <;> omega
theorem i64_xor1 (a : Nat) (ha : a < 9223372036854775807) : bits .xor .i64 (a : Int) 1 = (nx a : Int) := by
  have hx : (nx a : Int) ≤ 9223372036854775807 := by
    unfold nx
    split <;> omega
  show IntKind.i64.wrap ((BitVec.ofInt 64 (a : Int) ^^^ BitVec.ofInt 64 1).toNat : Int) = _
  have e1 : (BitVec.ofInt 64 (a : Int)).toNat = a := by rw [BitVec.ofInt_natCast, BitVec.toNat_ofNat]; omega
  have e2 : (BitVec.ofInt 64 1).toNat = 1 := rfl
  rw [BitVec.toNat_xor, e1, e2, nx_eq]
  exact IntWalk.i64_in _ (by omega)
/-- The row and the place of each digest beside the way up from place a of m. -/
def bes (m h a : Nat) : List (Nat × Nat) := if 1 < m then (if nx a < m then [(h, nx a)] else []) ++ bes ((m + 1) / 2) (h + 1) (a / 2) else []
termination_by m
theorem bes_more {m : Nat} (hm : 1 < m) (h a : Nat) : bes m h a = (if nx a < m then [(h, nx a)] else []) ++ bes ((m + 1) / 2) (h + 1) (a / 2) := by
  conv => lhs; unfold bes
  rw [if_pos hm]
theorem bes_one {m : Nat} (hm : ¬ 1 < m) (h a : Nat) : bes m h a = [] := by
  unfold bes
  rw [if_neg hm]
def besE (x : Nat × Nat) : Array Value := #[.int .i64 (x.1 : Int), .int .i64 (x.2 : Int)]
def besX (n i : Nat) (pre : List (Nat × Nat)) : Prop := ∃ r, pre ++ r = bes n 0 i


end Go.Proofs.YtnbjhdlnibmgdaaDoor

/-! proof.rows: the rows of digests, from that of the leaves up, and its iterator's promise. -/
namespace Go.Proofs.YtnbjhdlnibmgdaaDoor
open Go.RowKit Go.Shelf
attribute [local go_sem] Oper.semAt_some

/-- All rows, from the lowest up. -/
def rowsOf (l : List (List UInt8)) : List (List (List UInt8)) := if 1 < l.length then l :: rowsOf (aboveL l) else [l]
termination_by l.length
decreasing_by rw [aboveL_length]; omega
theorem rowsOf_more {l : List (List UInt8)} (h : 1 < l.length) : rowsOf l = l :: rowsOf (aboveL l) := by rw [rowsOf, if_pos h]
theorem rowsOf_one {l : List (List UInt8)} (h : ¬ 1 < l.length) : rowsOf l = [l] := by rw [rowsOf, if_neg h]
theorem rowsOf_short : ∀ (l : List (List UInt8)), (rowsOf l).length ≤ l.length + 1 := by
  refine rows_rec (fun l h => ?_) (fun l h ih => ?_)
  · rw [rowsOf_one h]; simp
  · rw [aboveL_length] at ih
    rw [rowsOf_more h, List.length_cons]
    omega
abbrev SlV := Option Addr × Nat × Nat
def slE (x : SlV) : Array Value := #[.slice x.1 x.2.1 x.2.2]
def tabK (b : Nat) : Prop := b = 0 ∨ b = 1
theorem Tab.kept {B : Nat} {D K : Nat → Prop} {W W' : World} (h : Tab W) (hk : Kept B D K W W') (hK : ∀ b, tabK b → K b) : Tab W' := h.turned hk.turned (fun h => h (.inr (hK _ (.inl rfl)))) (fun h => h (.inr (hK _ (.inr rfl))))
def rowsX (R : List (List (List UInt8))) (D : Nat → Prop) (pre : List SlV) (W : World) : Prop := pre.length ≤ R.length ∧ ∀ (k : Nat) (x : SlV), pre[k]? = some x → Ids W D x.1 x.2.1 x.2.2 (R[k]?.getD []) ∧ 0 < x.2.1
section
variable {R : List (List (List UInt8))} {D D' K : Nat → Prop} {pre : List SlV} {W W' : World}
theorem rowsX_kept (h : rowsX R D pre W) (ht : Turned (fun b => ¬ (D b ∨ K b)) W W') : rowsX R D pre W' := ⟨h.1, fun k x hx => ⟨(h.2 k x hx).1.turned ht fun _ _ hd hn => hn (.inl hd), (h.2 k x hx).2⟩⟩
theorem rowsX_grow (h : rowsX R D pre W) (hb : Below W.heap.size W W') (hD : ∀ b, D b → D' b) : rowsX R D' pre W' := ⟨h.1, fun k x hx => ⟨((h.2 k x hx).1.mono fun b _ hb => hD b hb).below hb, (h.2 k x hx).2⟩⟩
theorem rowsX_snoc (h : rowsX R D pre W) {x : SlV} (hl : pre.length < R.length) (hx : Ids W D x.1 x.2.1 x.2.2 (R[pre.length]?.getD [])) (h0 : 0 < x.2.1) : rowsX R D (pre ++ [x]) W := by
  refine ⟨by rw [List.length_append]; simp; omega, fun k y hy => ?_⟩
  rcases Nat.lt_trichotomy k pre.length with hk | hk | hk
  · rw [List.getElem?_append_left hk] at hy
    exact h.2 k y hy
  · subst hk
    simp at hy
    subst hy
    exact ⟨hx, h0⟩
  · rw [List.getElem?_eq_none (by rw [List.length_append]; simp; omega)] at hy
    cases hy
end
def lenV : Value → Nat | .slice _ n _ => n | _ => 0
def rowsFn (p : Nat) : Value := .func (.func 52) #[] #[.pointer (some ⟨p, 0, none⟩)]
set_option maxHeartbeats 2000000 in
theorem prows_any (A : Option Addr) (n c : Nat) (w : World) :
    Calls Tryd.prog 41 #[.slice A n c] w fun e w' => e = .returned (rowsFn w.heap.size) ∧ w' = w.alloc (.cells #[.slice A n c] 24) := by
  have hmf : ∀ (fn : Fn) (first cap : Array Value) (w : World), (Instr.makeFunc fn first cap).run Tryd.prog w = .ok (.func fn first cap) w := fun _ _ _ _ => rfl
  go_enter Tryd.func41, Tryd.ntmps41
  go_wp2_with fail
  go_ret
  exact ⟨rfl, rfl⟩
structure RwS (B : Nat) (J : (Nat → Prop) → List SlV → World → Prop) (R : List (List (List UInt8))) (A : Option Addr) (n c : Nat) (l : List (List UInt8)) (D : Nat → Prop) (pre : List SlV) (W : World) : Prop where
  ids : Ids W D A n c l
  pos : 0 < n
  le : n ≤ 1000000
  bnd : Bounds B D W
  j : J D pre W
  x : rowsX R D pre W
  rest : R.drop pre.length = rowsOf l
  tab : Tab W
theorem drop_head {α : Type} {R r : List α} {k : Nat} {a : α} (h : R.drop k = a :: r) : k < R.length ∧ R[k]? = some a ∧ R.drop (k + 1) = r := by
  have hk : k < R.length := by
    rcases Nat.lt_or_ge k R.length with h1 | h1
    · exact h1
    · rw [List.drop_eq_nil_of_le h1] at h
      cases h
  rw [List.drop_eq_getElem_cons hk] at h
  injection h with h1 h2
  exact ⟨hk, by rw [List.getElem?_eq_getElem hk, h1], h2⟩
theorem RwS.next {B : Nat} {J : (Nat → Prop) → List SlV → World → Prop} {R : List (List (List UInt8))} {A : Option Addr} {n c : Nat} {l : List (List UInt8)} {D : Nat → Prop} {pre : List SlV} {W : World} (h : RwS B J R A n c l D pre W) : rowsX R D (pre ++ [(A, n, c)]) W := by
  have hr := h.rest
  have : ∃ r, rowsOf l = l :: r := by
    by_cases hl : 1 < l.length
    · exact ⟨_, rowsOf_more hl⟩
    · exact ⟨_, rowsOf_one hl⟩
  obtain ⟨r, e⟩ := this
  rw [e] at hr
  obtain ⟨h1, h2, _⟩ := drop_head hr
  exact rowsX_snoc h.x h1 (by rw [h2]; exact h.ids) h.pos

set_option maxHeartbeats 4000000 in
set_option maxRecDepth 100000 in
theorem rows1_any {S : Nat → Prop} {A : Option Addr} {n c : Nat} {b : List UInt8} {W : World} (h : Byt W S A n c b) (hn : n ≤ 1000000) (ht : Tab W) (p : Nat) (l : Nat) (J Jx : (Nat → Prop) → List SlV → World → Prop) (hJ : Still W.heap.size J)
    (h1 : W.heap[p]? = some (.cells #[.slice A n c] 24 (0, 0)))
    (hY : ∀ D pre x W1, Bounds W.heap.size D W1 → J D pre W1 → rowsX (rowsOf (digs b)) D (pre ++ [x]) W1 → YieldAt Fence.wide 2 Tryd.prog l (slE x) W1 fun e W' =>
      (e = .returned (.bool true) ∧ J D (pre ++ [x]) W' ∧ Kept W.heap.size D tabK W1 W') ∨ (e = .returned (.bool false) ∧ Jx D (pre ++ [x]) W' ∧ Kept W.heap.size D tabK W1 W'))
    (h0 : J (fun _ => False) [] W) :
    CallsIn Fence.wide 3 Tryd.prog 52 #[.func (.yield l) #[] #[], .pointer (some ⟨p, 0, none⟩)] W fun e W' => (∃ v, e = .returned v) ∧ ∃ D, Bounds W.heap.size D W' ∧
      ((∃ xs : List SlV, xs.length = (rowsOf (digs b)).length ∧ rowsX (rowsOf (digs b)) D xs W' ∧ J D xs W') ∨ (∃ pre, rowsX (rowsOf (digs b)) D pre W' ∧ Jx D pre W')) := by
  have HY := Lib.hid hY
  have HJ := Lib.hid hJ
  have hc1 := cell_of_cells h1 0
  simp only [List.getElem?_toArray, List.getElem?_cons_zero] at hc1
  have hlo := lowest_any h hn ht
  have hlv := leaves_at b
  rw [h.len] at hlv
  have hN6 : (splitL b).length ≤ 1000000 := by split at hlv <;> omega
  have HH := Lib.hid (And.intro ht (And.intro h0 (And.intro (splitL_pos b) hN6)))
  clear hY hJ h1 h ht h0 hlv hN6
  refine callsIn_of_wp Tryd.func52 rfl trivial ?_ rfl
  simp only [Tryd.ntmps52, List.size_toArray, List.length_cons, List.length_nil, Nat.reduceAdd, Nat.reduceSub, Array.replicate_succ, Array.replicate_zero, List.push_toArray, List.append_toArray, List.nil_append, List.cons_append]
  gi_wp2_with (refine ⟨trivial, ?_⟩; gi_at_call 53; refine (callsIn_wide.2 hlo).mono ?_; clear hlo; rintro _ w1 ⟨g1, rfl, hg1, hbk, hb1⟩)
  have H1 : Hid (∃ D pre, RwS W.heap.size J (rowsOf (digs b)) (some ⟨g1, 0, none⟩) (splitL b).length (splitL b).length (digs b) D pre w1) := Lib.hid ⟨fun x => W.heap.size ≤ x ∧ x < w1.heap.size, [],
    ⟨hbk.ids ⟨hg1, hbk.lt⟩ _ (digs_length b) HH.out.2.2.2, HH.out.2.2.1, HH.out.2.2.2, fun _ h => h, HJ.out _ _ _ _ _ (Bounds.none_ _ _) HH.out.2.1 (Steps.of_below hb1) (fun x hx => .inr hx), ⟨by simp, fun k x hx => by simp at hx⟩, by simp, HH.out.1.below hb1⟩⟩
  clear hg1 hbk hb1 hc1
  gi_loopw [3] (fun v wr => ∃ A n c l D pre, v = .slice A n c ∧ RwS W.heap.size J (rowsOf (digs b)) A n c l D pre wr) (fun v _ => lenV v)
  case atStart =>
    obtain ⟨D, pre, h⟩ := H1.out
    exact ⟨_, _, _, _, D, pre, rfl, h⟩
  case round =>
    obtain ⟨A1, n1, c1, l1, D, pre, rfl, hs⟩ := hrel
    have HS := Lib.hid hs
    have hlen := hs.ids.len
    obtain ⟨fn, tmps, assign, body, hy, hR⟩ := HY.out D pre (A1, n1, c1) wr hs.bnd hs.j hs.next
    have HR := Lib.hid hR
    simp only [slE] at hy
    clear hR hs H1
    by_cases hlt : 1 < n1
    · have hlt' : (1 : Int) < (n1 : Int) := by omega
      have hmo := rowsOf_more (l := l1) (by omega)
      have HMO := Lib.hid hmo
      clear hmo
      gi_wp2
      refine HR.out.mono ?_
      rintro e W3 (⟨rfl, hJ3, hk3⟩ | ⟨rfl, hJx3, hk3⟩)
      · have hids3 := HS.out.ids.turned hk3.turned (fun _ _ hd hn => hn (.inl hd))
        have htab3 := HS.out.tab.kept hk3 (fun _ h => h)
        have hab := above_any hids3 HS.out.pos HS.out.le htab3
        have hX3 := rowsX_kept HS.out.next hk3.turned
        have H3 := Lib.hid (And.intro hJ3 (And.intro hk3 (And.intro htab3 hX3)))
        clear hJ3 hk3 hids3 htab3 hX3 hy HR
        gi_wp2_with (refine ⟨trivial, ?_⟩; gi_at_call 54; refine (callsIn_wide.2 hab).mono ?_; clear hab; rintro _ w5 ⟨g5, rfl, hg5, hbk5, hb5⟩)
        have H5 : Hid (RwS W.heap.size J (rowsOf (digs b)) (some ⟨g5, 0, none⟩) ((n1 + 1) / 2) ((n1 + 1) / 2) (aboveL l1) (fun x => D x ∨ (W3.heap.size ≤ x ∧ x < w5.heap.size)) (pre ++ [(A1, n1, c1)]) w5) := Lib.hid (by
          have hB3 := HS.out.bnd.grow H3.out.2.1.turned.size
          have hle : W.heap.size ≤ W3.heap.size := by
            by_cases hd : ∃ x, D x
            · obtain ⟨x, hx⟩ := hd
              have := hB3 x hx
              omega
            · obtain ⟨b', off, _, hS, _⟩ := HS.out.ids.row HS.out.pos
              exact absurd ⟨b', hS⟩ hd
          have hr := HS.out.rest
          rw [HMO.out] at hr
          refine ⟨hbk5.ids (.inr ⟨hg5, hbk5.lt⟩) _ (by rw [aboveL_length, HS.out.ids.len]) (by have := HS.out.le; omega), by have := HS.out.pos; omega, by have := HS.out.le; omega, ?_, ?_, rowsX_grow H3.out.2.2.2 hb5 (fun _ h => .inl h), ?_, H3.out.2.2.1.below hb5⟩
          · rintro x (hx | hx)
            · exact (hB3.grow hb5.size) x hx
            · exact ⟨by omega, hx.2⟩
          · exact HJ.out _ _ _ _ _ hB3 H3.out.1 (Steps.of_below hb5) (fun x hx => hx)
          · rw [List.length_append]
            exact (drop_head hr).2.2)
        clear H3 hg5 hbk5 hb5
        gi_wp2
        go_roundw
        case rel => exact ⟨_, _, _, _, _, _, rfl, H5.out⟩
        case measure => simp [lenV]; omega
      · have HX : Hid ((∃ v, Ending.returned v = Ending.returned v) ∧ ∃ D, Bounds W.heap.size D W3 ∧ ∃ pre, rowsX (rowsOf (digs b)) D pre W3 ∧ Jx D pre W3) := Lib.hid ⟨⟨undef, rfl⟩, D, HS.out.bnd.grow hk3.turned.size, _, rowsX_kept HS.out.next hk3.turned, hJx3⟩
        clear hJx3 hk3 hy HR
        gi_wp2
        refine bodyPost_ret (results_none rfl _ _ _) rfl ?_
        obtain ⟨_, D, hB, hx⟩ := HX.out
        exact ⟨⟨_, rfl⟩, D, hB, .inr hx⟩
    · have hlt' : ¬ (1 : Int) < (n1 : Int) := by omega
      have HMO := Lib.hid (rowsOf_one (l := l1) (by omega))
      gi_wp2
      refine HR.out.mono ?_
      rintro e W3 (⟨rfl, hJ3, hk3⟩ | ⟨rfl, hJx3, hk3⟩)
      · have HX : Hid (∃ D, Bounds W.heap.size D W3 ∧ ∃ xs : List SlV, xs.length = (rowsOf (digs b)).length ∧ rowsX (rowsOf (digs b)) D xs W3 ∧ J D xs W3) := Lib.hid ⟨D, HS.out.bnd.grow hk3.turned.size, _, by
          have hr := HS.out.rest
          rw [HMO.out] at hr
          have h1 := congrArg List.length hr
          have h2 := (drop_head hr).1
          simp at h1 ⊢
          omega, rowsX_kept HS.out.next hk3.turned, hJ3⟩
        clear hJ3 hk3 hy HR
        gi_wp2
        go_end0
        obtain ⟨D, hB, hx⟩ := HX.out
        exact ⟨⟨_, rfl⟩, D, hB, .inl hx⟩
      · have HX : Hid (∃ D, Bounds W.heap.size D W3 ∧ ∃ pre, rowsX (rowsOf (digs b)) D pre W3 ∧ Jx D pre W3) := Lib.hid ⟨D, HS.out.bnd.grow hk3.turned.size, _, rowsX_kept HS.out.next hk3.turned, hJx3⟩
        clear hJx3 hk3 hy HR
        gi_wp2
        go_end0
        obtain ⟨D, hB, hx⟩ := HX.out
        exact ⟨⟨_, rfl⟩, D, hB, .inr hx⟩

/-- ITS PROMISE. -/
theorem rows_iter {S : Nat → Prop} {A : Option Addr} {n c : Nat} {b : List UInt8} {w : World} (h : Byt w S A n c b) (hn : n ≤ 1000000) (ht : Tab w) (p : Nat) (h1 : w.heap[p]? = some (.cells #[.slice A n c] 24 (0, 0))) :
    Iter Tryd.prog 52 #[.pointer (some ⟨p, 0, none⟩)] slE tabK (rowsX (rowsOf (digs b))) (fun xs => xs.length = (rowsOf (digs b)).length) w := by
  refine ⟨fun _ _ _ _ h ht => rowsX_kept h ht, fun l J Jx W hW hJ hJx hY h0 => ?_⟩
  have h1' := (hW.block _ (lt_of_cells h1)).trans h1
  refine callsIn_wide.1 ((rows1_any (h.below hW) hn (ht.below hW) p l J Jx hJ h1' (fun D pre x W1 hB hj hx => ?_) h0).mono ?_)
  · obtain ⟨fn, tmps, assign, body, hy, hR⟩ := hY D pre x W1 hB hj hx
    exact ⟨fn, tmps, assign, body, hy, RoundIn.wide hR⟩
  · rintro e W' ⟨hv, D, hB, hh⟩
    exact ⟨hv, D, hB, hh⟩
end Go.Proofs.YtnbjhdlnibmgdaaDoor
