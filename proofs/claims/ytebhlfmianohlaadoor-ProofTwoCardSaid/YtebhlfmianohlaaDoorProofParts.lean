/-
  proof: how many leaves, half, within, a leaf; what digests are of.
-/
import Derived.Test.YtebhlfmianohlaaDoorIds
import Derived.Test.YtebhlfmianohlaaDoorProofPure
import Derived.Test.YtebhlfmianohlaaDoorLe8
import Derived.Deep.AppendLies
namespace Go.Proofs.YtebhlfmianohlaaDoor
open Go.RowKit

theorem leaves_at (b : List UInt8) : (splitL b).length = if b.length = 0 then 1 else (b.length - 1) / 64 + 1 := by
  rw [splitL_count]
  split
  · rfl
  · omega
theorem leaves_any {w : World} {S : Nat → Prop} {A : Option Addr} {n c : Nat} {b : List UInt8} (h : Byt w S A n c b) :
    Calls Tryd.prog 14 #[.slice A n c] w fun e w' => e = .returned (.int .i64 ((splitL b).length : Int)) ∧ w = w' := by
  have hl := leaves_at b
  rw [h.len] at hl
  have hm := h.cap
  have hm2 := h.max
  unfold maxLen at hm2
  have HL := Lib.hid hl
  by_cases h0 : n = 0
  · subst h0
    have HL : Hid ((splitL b).length = 1) := Lib.hid hl
    clear hl h
    go_enter Tryd.func14, Tryd.ntmps14
    go_wp2
    go_ret
    exact ⟨by rw [HL.out]; rfl, rfl⟩
  · have HN : Hid (((n : Int) - 1) / 64 + 1 = ((splitL b).length : Int)) := Lib.hid (by rw [hl, if_neg h0]; omega)
    clear hl h
    have h1 : ((n : Int) == 0) = false := by simpa using h0
    have hw := IntWalk.i64_in ((n : Int) - 1) (by omega)
    have hw2 := IntWalk.i64_in (((n : Int) - 1) / 64 + 1) (by omega)
    go_enter Tryd.func14, Tryd.ntmps14
    go_wp2
    go_ret
    exact ⟨by rw [HN.out]; rfl, rfl⟩
theorem within_any (n i : Int) (w : World) :
    Calls Tryd.prog 21 #[.int .i64 n, .int .i64 i] w fun e w' => e = .returned (.bool (decide (0 ≤ i ∧ i < n))) ∧ w = w' := by
  by_cases h : 0 ≤ i
  · by_cases h2 : i < n
    · go_enter Tryd.func21, Tryd.ntmps21
      go_wp2
      go_ret
      exact ⟨by simp [h, h2], rfl⟩
    · go_enter Tryd.func21, Tryd.ntmps21
      go_wp2
      go_ret
      exact ⟨by simp [h2], rfl⟩
  · go_enter Tryd.func21, Tryd.ntmps21
    go_wp2
    go_ret
    exact ⟨by rw [show decide (0 ≤ i) = false from decide_eq_false (by omega)]; rfl, rfl⟩
theorem half_any (m : Nat) (hm : m < 9223372036854775808) (w : World) :
    Calls Tryd.prog 43 #[.int .i64 (m : Int)] w fun e w' => e = .returned (.int .i64 (((m + 1) / 2 : Nat) : Int)) ∧ w = w' := by
  have HN : Hid ((m : Int) / 2 + (m : Int) % 2 = (((m + 1) / 2 : Nat) : Int)) := Lib.hid (by omega)
  have hw := IntWalk.i64_in ((m : Int) / 2 + (m : Int) % 2) (by omega)
  go_enter Tryd.func43, Tryd.ntmps43
  go_wp2
  go_ret
  exact ⟨by rw [HN.out]; rfl, rfl⟩

/-- s[l:h] -/
theorem run_lh {P : Program} (t e : TypeId) (ht : P.underlying t = some (.slice e)) (hz : ∀ w, (Go.sizeOf e).run P w = .ok 1 w) (A : Option Addr) (n c l h : Nat) (li hi : Int) (el : li = (l : Int)) (eh : hi = (h : Int)) (h1 : l ≤ h) (h2 : h ≤ c) (W : World) :
    (Instr.slice t (.slice A n c) (some (.int .i64 li)) (some (.int .i64 hi)) none).run P W = .ok (.slice (cutA A c l) (h - l) (c - l)) W := by
  have ht' : P.underlying t = some (.slice (P.elem t)) := by simp [Program.elem, ht]
  have he : P.elem t = e := by simp [Program.elem, ht]
  subst el eh
  rw [run_slice_lh W t A n c ht' .i64 .i64 (l : Int) (h : Int) (by omega) (by omega) (by omega), he, hz]
  simp [Result.andThen, sliced, cutA]
theorem leafOf_any {w : World} {S : Nat → Prop} {A : Option Addr} {n c : Nat} {b : List UInt8} (h : Byt w S A n c b) (hn : n ≤ 1000000) {i : Nat} (hi : i < (splitL b).length) :
    Calls Tryd.prog 25 #[.slice A n c, .int .i64 (i : Int)] w fun e w' => (∃ A' n' c', e = .returned (.slice A' n' c') ∧ Byt w S A' n' c' ((splitL b)[i]?.getD [])) ∧ w = w' := by
  have hl := leaves_at b
  rw [h.len] at hl
  have hcp := h.cap
  have hm2 := h.max
  unfold maxLen at hm2
  have hin : 64 * i ≤ n := by
    have hi2 := hi
    rw [hl] at hi2
    split at hi2 <;> omega
  have hsl := fun W => run_lh (P := Tryd.prog) 22 5 Tryd.underlying22 u8_size A n c (64 * i) (min (64 * i + 64) n) ((i : Int) * 64) (min ((i : Int) * 64 + 64) (n : Int)) (by omega) (by omega) (by omega) (by omega) W
  have HY : Hid (Byt w S (cutA A c (64 * i)) (min (64 * i + 64) n - 64 * i) (c - 64 * i) ((splitL b)[i]?.getD [])) := Lib.hid (by
    have h1 := (h.cut hin).to (k := min (64 * i + 64) n - 64 * i) (by omega)
    rw [splitL_at b i hi]
    have e : (b.drop (64 * i)).take (min (64 * i + 64) n - 64 * i) = (b.drop (64 * i)).take 64 := by
      rw [List.take_eq_take_iff, List.length_drop, h.len]
      omega
    rwa [e] at h1)
  have hw := IntWalk.i64_in ((i : Int) * 64) (by omega)
  have hw2 := IntWalk.i64_in ((i : Int) * 64 + 64) (by omega)
  clear h hl
  go_enter Tryd.func25, Tryd.ntmps25
  go_wp2
  go_ret
  exact ⟨⟨_, _, _, rfl, HY.out⟩, rfl⟩

/-- append of a slice that reads as bytes to a row of the call's own. -/
theorem append_bytes {W : World} {B g k cap : Nat} {xs : List Value} (hown : W.ownsRow B 5 1 (.slice (some ⟨g, 0, none⟩) k cap) k xs) (hk : 0 < k) {S : Nat → Prop} {A : Option Addr} {n c : Nat} {l : List UInt8} (h : Byt W S A n c l) (hb : k + n ≤ 100000000000000) (hB : B ≤ W.heap.size) (ty : TypeId) :
    ∃ g' cap' W', (Builtin.append_ #[22, 22] ty #[.slice (some ⟨g, 0, none⟩) k cap, .slice A n c]).run Tryd.prog W = .ok (.slice (some ⟨g', 0, none⟩) (k + n) cap') W' ∧ W'.ownsRow B 5 1 (.slice (some ⟨g', 0, none⟩) (k + n) cap') (k + n) (xs ++ u8s l) ∧ W.grownBy W' (some g) := by
  obtain ⟨i0, hi, hz0, hz1, hz2⟩ := info_parts u8_info
  rcases A with _ | ad
  · obtain rfl : n = 0 := by
      rcases Nat.eq_zero_or_pos n with h0 | h0
      · exact h0
      · obtain ⟨_, _, hA, _⟩ := h.row h0
        cases hA
    obtain rfl : l = [] := List.eq_nil_of_length_eq_zero h.len
    have hkc : k ≤ cap := by
      rcases hown.2 with ⟨hv, _⟩ | ⟨_, _, _, hv, _, _, hn, _⟩
      · cases hv
      · injection hv with _ _ h3
        omega
    exact ⟨g, cap, W, run_append_zero W 22 ty 5 i0 Tryd.underlying22 hi _ k cap c hkc, by simpa [u8s] using hown, World.grownBy.refl _ _⟩
  · obtain ⟨v', W', hrun, r1, r2, _⟩ := run_append_own (P := Tryd.prog) W B 22 ty 5 i0 (.int .u8 0) 1 1 Tryd.underlying22 hi hz0 hz1 hz2 rfl (by decide) _ k xs hown ad n c (u8s l) (by rw [u8s_length, h.len, Nat.mul_one]) (byt_news h) (u8s_one l) (by unfold maxLen; omega) (by omega) hB
    obtain ⟨g', cap', rfl, _⟩ := r1.form (by omega)
    exact ⟨g', cap', W', hrun, r1, r2⟩
theorem own_lit (w : World) (v : Int) (x : UInt8) (h : v = (x.toNat : Int)) : (w.alloc (.cells #[.int .u8 v] 5)).ownsRow w.heap.size 5 1 (.slice (some ⟨w.heap.size, 0, none⟩) 1 1) 1 (u8s [x]) := by
  subst h
  exact ⟨rfl, .inr ⟨w.heap.size, 1, _, rfl, Nat.le_refl _, heap_alloc_new w _, Nat.le_refl _, by unfold maxLen; omega, rfl, rfl⟩⟩

set_option maxHeartbeats 1000000 in
theorem ofLeaf_any {w : World} {S : Nat → Prop} {A : Option Addr} {n c : Nat} {l : List UInt8} (h : Byt w S A n c l) (hn : n ≤ 1000000) :
    Calls Tryd.prog 49 #[.slice A n c] w fun e w' => ∃ g c', e = .returned (.slice (some ⟨g, 0, none⟩) (1 + n) c') ∧ Byt w' (w.heap.size ≤ ·) (some ⟨g, 0, none⟩) (1 + n) c' (0 :: l) ∧ Below w.heap.size w w' := by
  obtain ⟨g', cap', W', hrun, hown, hgr⟩ := append_bytes (own_lit w 0 0 rfl) (by omega) (h.alloc _) (by omega) (by simp) 22
  have HX : Hid (Byt W' (w.heap.size ≤ ·) (some ⟨g', 0, none⟩) (1 + n) cap' (0 :: l) ∧ Below w.heap.size w W') := Lib.hid ⟨own_byt_at hown, below_of_gr ((Below.refl _ w).alloc (Nat.le_refl _) _) hgr (by simp)⟩
  clear hown hgr h
  go_enter Tryd.func49, Tryd.ntmps49
  go_wp2_with (at_builtin; refine wpList_app (by rfl) _ _ 22 (by rfl) (by rfl) (by rfl) hrun ?_)
  go_ret
  exact ⟨_, _, rfl, HX.out⟩

theorem byt_id {w : World} {g : Nat} {l : List UInt8} (h : w.heap[g]? = some (.cells (row8 l) 31 (0, 0))) (hl : l.length = 32) : Byt w (fun _ => True) (some ⟨g, 0, none⟩) 32 32 l := by
  have := byt_whole h (by omega)
  rwa [hl] at this
set_option maxHeartbeats 4000000 in
set_option maxRecDepth 100000 in
theorem ofPair_any (a b : List UInt8) (ha : a.length = 32) (hb : b.length = 32) (w : World) :
    Calls Tryd.prog 50 #[.agg (row8 a), .agg (row8 b)] w fun e w' => ∃ g c', e = .returned (.slice (some ⟨g, 0, none⟩) 65 c') ∧ Byt w' (w.heap.size ≤ ·) (some ⟨g, 0, none⟩) 65 c' (1 :: (a ++ b)) ∧ Below w.heap.size w w' := by
  obtain ⟨AS, hAS⟩ : ∃ AS, AS = row8 a := ⟨_, rfl⟩
  obtain ⟨BS, hBS⟩ : ∃ BS, BS = row8 b := ⟨_, rfl⟩
  rw [← hAS, ← hBS]
  have hg0 : ((w.alloc (.cells AS 31)).alloc (.cells BS 31)).heap[w.heap.size]? = some (.cells AS 31 (0, 0)) := (Below.heap_alloc _ _ _ (by simp)).trans (heap_alloc_new w _)
  have hg1 : ((w.alloc (.cells AS 31)).alloc (.cells BS 31)).heap[w.heap.size + 1]? = some (.cells BS 31 (0, 0)) := by
    have := heap_alloc_new (w.alloc (.cells AS 31)) (.cells BS 31)
    simpa using this
  have hb0 : Below w.heap.size w ((w.alloc (.cells AS 31)).alloc (.cells BS 31)) := ((Below.refl _ _).alloc (Nat.le_refl _) _).alloc (by simp) _
  have hsz : ((w.alloc (.cells AS 31)).alloc (.cells BS 31)).heap.size = w.heap.size + 2 := by simp
  obtain ⟨w1, hw1⟩ : ∃ w1, (w.alloc (.cells AS 31)).alloc (.cells BS 31) = w1 := ⟨_, rfl⟩
  rw [hw1] at hg0 hg1 hb0 hsz
  rw [hAS] at hg0
  rw [hBS] at hg1
  obtain ⟨g2, c2, w2, hrun2, hown2, hgr2⟩ := append_bytes (own_lit w1 1 1 rfl) (by omega) ((byt_id hg0 ha).alloc _) (by omega) (by simp) 22
  have hb2 : Below w1.heap.size w1 w2 := below_of_gr ((Below.refl _ w1).alloc (Nat.le_refl _) _) hgr2 (by simp)
  obtain ⟨g3, c3, w3, hrun3, hown3, hgr3⟩ := append_bytes hown2 (by omega) ((byt_id hg1 hb).below hb2) (by omega) hb2.size 22
  have hb3 : Below w1.heap.size w1 w3 := hb2.grown hgr3 hb2.size (fun k e => by injection e with e; rw [← e]; have := hown2.lt g2 rfl; exact this.1)
  have HX : Hid (Byt w3 (w.heap.size ≤ ·) (some ⟨g3, 0, none⟩) 65 c3 (1 :: (a ++ b)) ∧ Below w.heap.size w w3) := Lib.hid (by
    refine ⟨?_, hb0.trans (hb3.mono hb0.size)⟩
    have := (own_byt_at (l := 1 :: (a ++ b)) (by simpa [u8s] using hown3)).mono (T := (w.heap.size ≤ ·)) (fun b _ hb => by omega)
    exact this)
  rw [← hw1] at hrun2
  simp only [World.size_alloc] at hrun2
  simp only [Nat.reduceAdd] at hrun3
  have HRUN3 := Lib.hid hrun3
  clear hg0 hg1 hb0 hown2 hgr2 hown3 hgr3 hb2 hb3 hAS hBS hsz hw1 hrun3
  go_enter Tryd.func50, Tryd.ntmps50
  go_wp2_with (at_builtin; first | (refine wpList_app (by rfl) _ _ 22 (by rfl) (by rfl) (by rfl) hrun2 ?_; clear hrun2) | (refine wpList_app (by rfl) _ _ 22 (by rfl) (by rfl) (by rfl) HRUN3.out ?_))
  go_ret
  exact ⟨_, _, rfl, HX.out⟩

/-! ofRoot -/
def ORt (w : World) (n : Nat) (AS : Array Value) (v i : Value) (wr : World) : Prop :=
  ∃ j g' c', j ≤ 8 ∧ i = .int .i64 ((j : Nat) : Int) ∧ v = .slice (some ⟨g', 0, none⟩) (1 + j) c' ∧ wr.ownsRow (w.heap.size + 1) 5 1 (.slice (some ⟨g', 0, none⟩) (1 + j) c') (1 + j) (u8s (2 :: le8 n j)) ∧ wr.heap[w.heap.size]? = some (.cells AS 31 (0, 0)) ∧ Below w.heap.size w wr
set_option maxHeartbeats 4000000 in
set_option maxRecDepth 100000 in
theorem ofRoot_any (n : Nat) (hn : n < 9223372036854775808) (a : List UInt8) (ha : a.length = 32) (w : World) :
    Calls Tryd.prog 29 #[.int .i64 (n : Int), .agg (row8 a)] w fun e w' => ∃ g c', e = .returned (.slice (some ⟨g, 0, none⟩) 41 c') ∧ Byt w' (w.heap.size ≤ ·) (some ⟨g, 0, none⟩) 41 c' (2 :: (le8 n 8 ++ a)) ∧ Below w.heap.size w w' := by
  obtain ⟨i0, hi, hz0, hz1, hz2⟩ := info_parts u8_info
  have HI := Lib.hid (And.intro hi (And.intro hz0 (And.intro hz1 hz2)))
  clear hi hz0 hz1 hz2
  obtain ⟨AS, hAS⟩ : ∃ AS, AS = row8 a := ⟨_, rfl⟩
  rw [← hAS]
  have hg0 := heap_alloc_new w (.cells AS 31)
  have hb0 : Below w.heap.size w (w.alloc (.cells AS 31)) := (Below.refl _ _).alloc (Nat.le_refl _) _
  have hown := own_lit (w.alloc (.cells AS 31)) 2 2 rfl
  have hgl := (Below.heap_alloc (w.alloc (.cells AS 31)) (.cells #[.int .u8 2] 5) w.heap.size (by simp)).trans hg0
  have hb1 := hb0.alloc (by simp) (.cells #[.int .u8 2] 5)
  simp only [World.size_alloc] at hown
  have H0 := Lib.hid (And.intro hown (And.intro hgl hb1))
  have HAS := Lib.hid (And.intro hAS ha)
  clear hg0 hb0 hown hgl hb1 hAS ha
  have hw8 : IntKind.u64.wrap (n : Int) = (n : Int) := by
    rw [IntKind.wrap_u64]
    omega
  go_enter Tryd.func29, Tryd.ntmps29
  go_wp2_with fail
  generalize (w.alloc (.cells AS 31)).alloc (.cells #[.int .u8 2] 5) = w1 at *
  go_loopw [5, 8] (fun v i wr => ORt w n AS v i wr) (fun _ i _ => 8 - (intOf i).toNat)
  case atStart => unfold ORt; exact ⟨0, _, _, by omega, rfl, rfl, H0.out⟩
  case round =>
    obtain ⟨j, g', c', hj, rfl, rfl, ho, hrow, hb⟩ := hrel
    have HX := Lib.hid (And.intro ho (And.intro hrow hb))
    have hszr := hb.size
    have hgs : w.heap.size < wr.heap.size := lt_of_cells hrow
    by_cases hlt : j < 8
    · have hE := Lib.hid (le8_succ n j)
      have hmb := byte_mod n (8 * j)
      generalize UInt8.ofNat (n / 2 ^ (8 * j)) = y at *
      have hone : Hid ([Value.int .u8 ((n : Int) / 2 ^ (8 * j) % 256)] = u8s [y]) := Lib.hid (by
        rw [show ((n : Int) / 2 ^ (8 * j)) = ((n / 2 ^ (8 * j) : Nat) : Int) by simp, hmb]
        rfl)
      clear ho hrow hb H0 hmb
      go_wp2_with (at_builtin; refine wpList_append_own_at _ rfl _ _ 22 rfl (w.heap.size + 1) 5 i0 (.int .u8 0) 1 1 Tryd.underlying22 HI.out.1 HI.out.2.1 HI.out.2.2.1 HI.out.2.2.2 rfl (by decide) _ (1 + j) (u8s (2 :: le8 n j)) rfl (HX.out.1.alloc _) ⟨wr.heap.size, 0, none⟩ 1 1 _ rfl rfl (cell_one_new _ _ _) (one_of rfl) (by unfold maxLen; omega) (by omega) (by simp; omega) ?_)
      intro v' w2 hown2 hgrow _ _
      obtain ⟨g2, c2, rfl, hge, _⟩ := hown2.form (by omega)
      have hlt' := HX.out.1.lt
      have HB2 : Hid (Below w.heap.size w w2) := Lib.hid ((HX.out.2.2.alloc hszr _).grown hgrow (by simp; omega) (fun b hb => by have := (hlt' b hb).1; omega))
      have HR2 : Hid (w2.heap[w.heap.size]? = some (.cells AS 31 (0, 0))) := Lib.hid ((hgrow.block _ (by simp; omega) (fun e => by have := (hlt' _ e.symm).1; omega)).trans ((Below.heap_alloc _ _ _ hgs).trans HX.out.2.1))
      have HO2 : Hid (w2.ownsRow (w.heap.size + 1) 5 1 (.slice (some ⟨g2, 0, none⟩) (1 + (j + 1)) c2) (1 + (j + 1)) (u8s (2 :: le8 n (j + 1)))) := Lib.hid (by
        rw [hone.out, ← u8s_append, List.cons_append, ← hE.out] at hown2
        exact hown2)
      clear hown2 hgrow hlt' HX
      go_wp2_with fail
      go_roundw
      case rel => unfold ORt; exact ⟨j + 1, g2, c2, by omega, by go_num, rfl, HO2.out, HR2.out, HB2.out⟩
      case measure => simp [intOf]; omega
    · obtain rfl : j = 8 := by omega
      have hrow' := hrow
      rw [HAS.out.1] at hrow'
      obtain ⟨g3, c3, w3, hrun3, hown3, hgr3⟩ := append_bytes ho (by omega) (byt_id hrow' HAS.out.2) (by omega) (by omega) 22
      simp only [Nat.reduceAdd] at hrun3
      have HY : Hid (Byt w3 (w.heap.size ≤ ·) (some ⟨g3, 0, none⟩) 41 c3 (2 :: (le8 n 8 ++ a)) ∧ Below w.heap.size w w3) := Lib.hid (by
        refine ⟨?_, hb.grown hgr3 hb.size (fun k e => by injection e with e; rw [← e]; have := (ho.lt g' rfl).1; omega)⟩
        exact (own_byt_at (l := 2 :: (le8 n 8 ++ a)) (by rw [← u8s_append] at hown3; exact hown3)).mono (T := (w.heap.size ≤ ·)) (fun b _ hb => by omega))
      clear ho hrow hb hrow' hown3 hgr3 H0
      go_wp2_with (at_builtin; refine wpList_app (by rfl) _ _ 22 (by rfl) (by rfl) (by rfl) hrun3 ?_)
      go_ret
      exact ⟨_, _, rfl, HY.out⟩
end Go.Proofs.YtebhlfmianohlaaDoor
