/-
  A region that draws its order where, at one place, either of two operations may come up first: the plan is a tree.
  The document's answers that the codec's statements use: how a number is put (by calling itself), and a row with its length.
  What was put is read as it was: the pure part (for CodecBack).
  The document's answers for the reader, by value: End, Fixed, Bytes, Bool.
  The document's reading of a number, by value.
  The document's reading of a row with its length, by value.
  The document's reading of an Id, by value.
  Objects: an entry that is read.
-/
import Derived.Test.YtmmibldchfmleaaPk02
import Derived.Test.YtmmibldchfmleaaPk05
import Derived.Lib.Strings
import Derived.Test.YtmmibldchfmleaaPk04
/-! A region that draws its order where, at one place, either of two operations may come up first: the plan is a tree. -/
namespace Go.Proofs.Ytmmibldchfmleaa
open Go.RowKit
inductive Tree where
  | last (q : List Nat)
  | one (q : List Nat) (e : Nat) (t : Tree)
  | two (q : List Nat) (e1 : Nat) (t1 : Tree) (e2 : Nat) (t2 : Tree)
namespace Tree
def size : Tree → Nat
  | last q => q.length
  | one q _ t => q.length + (t.size + 1)
  | two q _ t1 _ _ => q.length + (t1.size + 1)
end Tree
section
variable {P : Program} {ops : Array Oper} {Q : Exit → Act → World → Prop} {md : Region.Mode}
def wpTree (P : Program) (ops : Array Oper) (Q : Exit → Act → World → Prop) : (World → Prop) → Tree → Act → World → Prop
  | C, .last q, a, w => wpSeg P ops C (fun a' => Q .normal a' w) q a
  | C, .one q e t, a, w => wpSeg P ops C (fun a1 => wpOp P ops Q e (fun a2 w2 => ∃ C' : World → Prop, C' w2 ∧ (∀ W, C' W → C W) ∧ wpTree P ops Q C' t a2 w2) a1 w) q a
  | C, .two q e1 t1 e2 t2, a, w => wpSeg P ops C (fun a1 => wpOp P ops Q e1 (fun a2 w2 => ∃ C' : World → Prop, C' w2 ∧ (∀ W, C' W → C W) ∧ wpTree P ops Q C' t1 a2 w2) a1 w ∧
      wpOp P ops Q e2 (fun a2 w2 => ∃ C' : World → Prop, C' w2 ∧ (∀ W, C' W → C W) ∧ wpTree P ops Q C' t2 a2 w2) a1 w) q a
def treeB (md : Region.Mode) (ops : Array Oper) : Array Bool → Tree → Bool
  | listed, .last q => segB md ops listed q && (Region.ready md ops (listedBy listed q)).isEmpty
  | listed, .one q e t => segB md ops listed q && (Region.ready md ops (listedBy listed q) == [e]) && treeB md ops ((listedBy listed q).setIfInBounds e true) t
  | listed, .two q e1 t1 e2 t2 => segB md ops listed q && (Region.ready md ops (listedBy listed q) == [e1, e2]) && (treeB md ops ((listedBy listed q).setIfInBounds e1 true) t1 && (treeB md ops ((listedBy listed q).setIfInBounds e2 true) t2 && (t1.size == t2.size)))

theorem wpAnyH_tree (hs : Region.noSelect ops = true) (hQ : ∀ c a d v w, Q (.panic c) (Act.put a d v) w → Q (.panic c) a w) :
    ∀ (t : Tree) (C : World → Prop) (listed : Array Bool) (a : Act) (w : World), C w → treeB md ops listed t = true → wpTree P ops Q C t a w → wpAnyH P md ops Q C t.size listed a w
  | .last q, C, listed, a, w, hC, hB, h => by
    simp only [treeB, Bool.and_eq_true] at hB
    have := wpAnyH_seg (fuel := 0) hs hQ hC q listed a hB.1 h fun a' h' => wpAnyH_done (by simpa using hB.2) h' 0
    simpa [Tree.size] using this
  | .one q e t, C, listed, a, w, hC, hB, h => by
    simp only [treeB, Bool.and_eq_true, beq_iff_eq] at hB
    obtain ⟨⟨hB1, hB2⟩, hB3⟩ := hB
    have := wpAnyH_seg (fuel := t.size + 1) hs hQ hC q listed a hB1 h fun a' h' => by
      refine wpAnyH_all hB2 (by simp) fun i hi => ?_
      rw [List.mem_singleton.1 hi]
      refine wpOp_mono ?_ h'
      rintro a2 w2 ⟨C', hC', hsub, hp⟩
      exact ⟨hsub _ hC', wpAnyH_mono hsub _ _ _ _ (wpAnyH_tree hs hQ t C' _ a2 w2 hC' hB3 hp)⟩
    simpa [Tree.size, Nat.add_comm, Nat.add_left_comm] using this
  | .two q e1 t1 e2 t2, C, listed, a, w, hC, hB, h => by
    simp only [treeB, Bool.and_eq_true, beq_iff_eq] at hB
    obtain ⟨⟨hB1, hB2⟩, hB3, hB4, hB5⟩ := hB
    have := wpAnyH_seg (fuel := t1.size + 1) hs hQ hC q listed a hB1 h fun a' h' => by
      refine wpAnyH_all hB2 (by simp) fun i hi => ?_
      simp only [List.mem_cons, List.not_mem_nil, or_false] at hi
      rcases hi with rfl | rfl
      · refine wpOp_mono ?_ h'.1
        rintro a2 w2 ⟨C', hC', hsub, hp⟩
        exact ⟨hsub _ hC', wpAnyH_mono hsub _ _ _ _ (wpAnyH_tree hs hQ t1 C' _ a2 w2 hC' hB3 hp)⟩
      · refine wpOp_mono ?_ h'.2
        rintro a2 w2 ⟨C', hC', hsub, hp⟩
        rw [hB5]
        exact ⟨hsub _ hC', wpAnyH_mono hsub _ _ _ _ (wpAnyH_tree hs hQ t2 C' _ a2 w2 hC' hB4 hp)⟩
    simpa [Tree.size, Nat.add_comm, Nat.add_left_comm] using this

/-- THE LAW. -/
theorem wp_region_tree {id : Nat} {a : Act} {w : World} (C : World → Prop) (t : Tree) (hm : P.follows .mixedOrders = true)
    (hB : (Region.noSelect ops && treeB .any ops (Array.replicate ops.size false) t && (t.size == ops.size)) = true)
    (hQ : ∀ c a d v w, Q (.panic c) (Act.put a d v) w → Q (.panic c) a w) (hC : C w.drew) (h : wpTree P ops Q C t a w.drew) : (Code.region id ops true).wp P Q a w := by
  simp only [Bool.and_eq_true, beq_iff_eq] at hB
  obtain ⟨⟨h1, h2⟩, h3⟩ := hB
  have hf := wpAnyH_tree (md := .any) h1 hQ t C _ a _ hC h2 h
  rw [h3] at hf
  exact wp_region_held hm hf
theorem tree_last {C : World → Prop} {q : List Nat} {a : Act} {w : World} (h : wpSeg P ops C (fun a' => Q .normal a' w) q a) : wpTree P ops Q C (.last q) a w := h
theorem tree_one {C : World → Prop} {q : List Nat} {e : Nat} {t : Tree} {a : Act} {w : World}
    (h : wpSeg P ops C (fun a1 => wpOp P ops Q e (fun a2 w2 => ∃ C' : World → Prop, C' w2 ∧ (∀ W, C' W → C W) ∧ wpTree P ops Q C' t a2 w2) a1 w) q a) : wpTree P ops Q C (.one q e t) a w := h
theorem tree_two {C : World → Prop} {q : List Nat} {e1 e2 : Nat} {t1 t2 : Tree} {a : Act} {w : World}
    (h : wpSeg P ops C (fun a1 => wpOp P ops Q e1 (fun a2 w2 => ∃ C' : World → Prop, C' w2 ∧ (∀ W, C' W → C W) ∧ wpTree P ops Q C' t1 a2 w2) a1 w ∧
      wpOp P ops Q e2 (fun a2 w2 => ∃ C' : World → Prop, C' w2 ∧ (∀ W, C' W → C W) ∧ wpTree P ops Q C' t2 a2 w2) a1 w) q a) : wpTree P ops Q C (.two q e1 t1 e2 t2) a w := h
end
end Go.Proofs.Ytmmibldchfmleaa

/-! The document's answers that the codec's statements use: how a number is put (by calling itself), and a row with its length. -/
namespace Go.Proofs.Ytmmibldchfmleaa
open Go.RowKit Codec

def strB (l : List UInt8) : ByteArray := ⟨l.toArray⟩
theorem strB_append (l m : List UInt8) : strB l ++ strB m = strB (l ++ m) := by
  apply ByteArray.ext; simp [strB]

/-- One byte in a slice of its own. -/
theorem byt_one (w : World) (v : UInt8) : Byt (w.alloc (.cells #[.int .u8 (v.toNat : Int)] 5)) (w.heap.size ≤ ·) (some ⟨w.heap.size, 0, none⟩) 1 1 [v] :=
  ⟨rfl, Nat.le_refl _, by unfold maxLen; omega, fun _ => ⟨w.heap.size, 0, rfl, Nat.le_refl _, by simp, fun i hi => by
    obtain rfl : i = 0 := by omega
    rw [cell_of_cells (heap_alloc_new w _)]; rfl⟩⟩
/-- 'string([]byte{v})'. -/
theorem str_one (w : World) (v : UInt8) : (convert 49 9 (.slice (some ⟨w.heap.size, 0, none⟩) 1 1)).run Try.prog (w.alloc (.cells #[.int .u8 (v.toNat : Int)] 5)) = .ok (.string (strB [v])) (w.alloc (.cells #[.int .u8 (v.toNat : Int)] 5)) :=
  byt_string (byt_one w v)
theorem u8_small {x : Nat} (h : x < 256) : ((UInt8.ofNat x).toNat : Int) = (x : Int) := by simp; omega

theorem wrap_quo (x : Nat) (hx : x < 18446744073709551616) : IntKind.u64.wrap ((x : Int) / 128) = ((x / 128 : Nat) : Int) := by
  have : ((x : Int) / 128) = ((x / 128 : Nat) : Int) := by omega
  rw [this]; unfold IntKind.wrap; simp [IntKind.signed, IntKind.bits]; omega
theorem wrap_byte (x : Nat) : IntKind.u8.wrap (IntKind.u64.wrap ((x : Int).tmod 128 + 128)) = ((UInt8.ofNat (x % 128 + 128)).toNat : Int) := by
  have e : (x : Int).tmod 128 = ((x % 128 : Nat) : Int) := by
    rw [Int.tmod_eq_emod_of_nonneg (by omega)]; omega
  have h2 : x % 128 < 128 := Nat.mod_lt _ (by omega)
  rw [e, u8_small (by omega)]
  have e2 : IntKind.u64.wrap (((x % 128 : Nat) : Int) + 128) = ((x % 128 + 128 : Nat) : Int) := by unfold IntKind.wrap; simp [IntKind.signed, IntKind.bits]; omega
  rw [e2]; unfold IntKind.wrap; simp [IntKind.signed, IntKind.bits]; omega

set_option maxHeartbeats 2000000 in
set_option maxRecDepth 100000 in
theorem ref_put_small (x : Nat) (w : World) (h : x < 128) : Calls Try.prog 41 #[.int .u64 x] w fun e w' => e = .returned (.string (strB (put x))) ∧ Below w.heap.size w w' := by
  rw [put_small h]
  have hcv := str_one w (UInt8.ofNat x)
  rw [u8_small (by omega)] at hcv
  go_enter Try.func41, Try.ntmps41
  go_wp2_with fail
  go_ret
  exact ⟨rfl, (Below.refl _ _).alloc (Nat.le_refl _) _⟩

set_option maxHeartbeats 2000000 in
set_option maxRecDepth 100000 in
theorem ref_put : ∀ (k x : Nat) (w : World), x < 128 ^ k → x < 18446744073709551616 → Calls Try.prog 41 #[.int .u64 x] w fun e w' => e = .returned (.string (strB (put x))) ∧ Below w.heap.size w w' := by
  intro k
  induction k with
  | zero =>
    intro x w hx hx2
    have hx : x < 1 := by simpa using hx
    exact ref_put_small x w (by omega)
  | succ k ih =>
    intro x w hx hx2
    by_cases h : x < 128
    · exact ref_put_small x w h
    · rw [put_big (by omega)]
      have hq : x / 128 < 128 ^ k := by
        rw [Nat.pow_succ] at hx; exact Nat.div_lt_of_lt_mul (by omega)
      have hq2 : x / 128 < 18446744073709551616 := by omega
      have WQ := Lib.hid (wrap_quo x hx2)
      have WB := Lib.hid (wrap_byte x)
      have IH := fun w => ih (x / 128) w hq hq2
      clear ih
      obtain ⟨v, hv⟩ : ∃ v, UInt8.ofNat (x % 128 + 128) = v := ⟨_, rfl⟩
      obtain ⟨y, hy⟩ : ∃ y, x / 128 = y := ⟨_, rfl⟩
      have HS := Lib.hid (strB_append [v] (put y))
      rw [hv] at WB ⊢
      rw [hy] at WQ IH ⊢
      have HZ : Hid (¬ 9223372036854775807 < 1 + (strB (put y)).size) := Lib.hid (by
        have := put_length_64 (x := y) (by omega)
        rw [show (strB (put y)).size = (put y).length by simp [strB, ByteArray.size]]; omega)
      clear hv hy hq hq2
      go_enter Try.func41, Try.ntmps41
      go_wp2_with fail
      refine wp_region_tree (fun W => Below w.heap.size w W) (.two [0, 1, 2, 3, 6, 7] 4 (.one [5] 8 (.last [9, 10])) 8 (.one [] 4 (.last [5, 9, 10]))) (by kernel_rfl) (by kernel_rfl) (fun _ _ d _ _ h => by cases d <;> exact h) ((Below.refl _ _).drew) ?_
      refine tree_two ?_
      refine seg_read ?v1 (by rfl) (by rfl) ?h1 ?_
      case h1 => intro W hW; go_simp; with_reducible rfl
      try simp only [Act.put, List.setIfInBounds_toArray, List.set_cons_zero, List.set_cons_succ]
      refine seg_read ?v2 (by rfl) (by rfl) ?h2 ?_
      case h2 => intro W hW; go_simp; with_reducible rfl
      try simp only [Act.put, List.setIfInBounds_toArray, List.set_cons_zero, List.set_cons_succ]
      refine seg_read ?v3 (by rfl) (by rfl) ?h3 ?_
      case h3 => intro W hW; go_simp; with_reducible rfl
      try simp only [Act.put, List.setIfInBounds_toArray, List.set_cons_zero, List.set_cons_succ]
      refine seg_read ?v4 (by rfl) (by rfl) ?h4 ?_
      case h4 => intro W hW; go_simp; with_reducible rfl
      try simp only [Act.put, List.setIfInBounds_toArray, List.set_cons_zero, List.set_cons_succ]
      refine seg_read ?v5 (by rfl) (by rfl) ?h5 ?_
      case h5 => intro W hW; go_simp; with_reducible rfl
      try simp only [Act.put, List.setIfInBounds_toArray, List.set_cons_zero, List.set_cons_succ]
      refine seg_read ?v6 (by rfl) (by rfl) ?h6 ?_
      case h6 => intro W hW; go_simp; with_reducible rfl
      try simp only [Act.put, List.setIfInBounds_toArray, List.set_cons_zero, List.set_cons_succ]
      rw [WQ.out, WB.out]
      refine seg_nil ⟨?_, ?_⟩
      · refine eff_step (by rfl) (fun K hK => ?_)
        go_simp
        obtain ⟨w1, hw1⟩ : ∃ w1, w1 = (w.alloc (.cells #[.int .u8 (v.toNat : Int)] 5)).drew := ⟨_, rfl⟩
        have hb1 : Below w.heap.size w w1 := by rw [hw1]; exact ((Below.refl _ _).alloc (Nat.le_refl _) _).drew
        have hY : Byt w1 (w.heap.size ≤ ·) (some ⟨w.heap.size, 0, none⟩) 1 1 [v] := by
          rw [hw1]; exact (byt_one w _).below ((Below.refl _ _).drew)
        rw [← hw1]
        clear hw1
        refine hK _ _ ⟨fun W => Below w1.heap.size w1 W, Below.refl _ _, fun W h => hb1.trans (h.mono hb1.size), ?_⟩
        clear hK K
        refine tree_one ?_
        refine seg_read ?v7 (by rfl) (by rfl) ?h7 ?_
        case h7 => intro W hW; have hcv := byt_string (hY.below hW); go_simp; with_reducible rfl
        try simp only [Act.put, List.setIfInBounds_toArray, List.set_cons_zero, List.set_cons_succ]
        refine seg_nil ?_
        refine eff_step (by rfl) (fun K hK => ?_)
        go_simp
        refine (IH _).mono ?_
        rintro _ w2 ⟨rfl, hb2⟩
        refine hK _ _ ⟨fun W => W = w2, rfl, fun W e => e ▸ hb2, ?_⟩
        clear hK K
        refine tree_last ?_
        refine seg_step (by rfl) (fun K hK => ?_)
        go_simp
        refine ⟨_, if_neg HZ.out, ?_⟩
        refine hK _ ?_
        clear hK K
        refine seg_step (by rfl) (fun K hK => ?_)
        go_simp
        refine hK _ ?_
        clear hK K
        refine seg_nil ?_
        go_wp2
        go_ret
        exact ⟨by rw [show (⟨[v].toArray⟩ : ByteArray) = strB [v] from rfl, HS.out]; rfl, hb1.trans (hb2.mono hb1.size)⟩
      · refine eff_step (by rfl) (fun K hK => ?_)
        go_simp
        refine (IH _).mono ?_
        rintro _ w2 ⟨rfl, hb2⟩
        have hb2 : Below w.heap.size w w2 := ((Below.refl _ w).drew).trans hb2
        refine hK _ _ ⟨fun W => Below w2.heap.size w2 W, Below.refl _ _, fun W h => hb2.trans (h.mono hb2.size), ?_⟩
        clear hK K
        refine tree_one ?_
        refine seg_nil ?_
        refine eff_step (by rfl) (fun K hK => ?_)
        go_simp
        obtain ⟨w3, hw3⟩ : ∃ w3, w3 = (w2.alloc (.cells #[.int .u8 (v.toNat : Int)] 5)) := ⟨_, rfl⟩
        have hb3 : Below w2.heap.size w2 w3 := by rw [hw3]; exact ((Below.refl _ _).alloc (Nat.le_refl _) _)
        have hY := byt_string (byt_one w2 v)
        rw [← hw3] at hY ⊢
        clear hw3
        refine hK _ _ ⟨fun W => W = w3, rfl, fun W e => e ▸ hb3, ?_⟩
        clear hK K
        refine tree_last ?_
        refine seg_step (by rfl) (fun K hK => ?_)
        go_simp
        refine hK _ ?_
        clear hK K
        refine seg_step (by rfl) (fun K hK => ?_)
        go_simp
        refine ⟨_, if_neg HZ.out, ?_⟩
        refine hK _ ?_
        clear hK K
        refine seg_step (by rfl) (fun K hK => ?_)
        go_simp
        refine hK _ ?_
        clear hK K
        refine seg_nil ?_
        go_wp2
        go_ret
        exact ⟨by rw [show (⟨[v].toArray⟩ : ByteArray) = strB [v] from rfl, HS.out]; rfl, hb2.trans (hb3.mono hb2.size)⟩

theorem strB_size (l : List UInt8) : (strB l).size = l.length := by simp [strB, ByteArray.size]

end Go.Proofs.Ytmmibldchfmleaa

/-! What was put is read as it was: the pure part (for CodecBack). -/
namespace Go.Proofs.Ytmmibldchfmleaa
open Go.RowKit Codec
theorem fixed_back (b R : List UInt8) (n : Nat) (h : b.length = n) : tkE (b ++ R) 0 (n : Int) = 0 ∧ fxL (b ++ R) 0 (n : Int) = R ∧ fxB (b ++ R) 0 (n : Int) = b := by
  have e : tkE (b ++ R) 0 (n : Int) = 0 := by
    unfold tkE
    rw [if_neg (by simp), if_neg (by omega), if_neg (by simp; omega)]
  refine ⟨e, ?_, ?_⟩
  · unfold fxL; rw [if_pos e]; simp [← h]
  · unfold fxB; rw [if_pos e]; simp [← h]
theorem uint_back (x : Nat) (R : List UInt8) (hx : x < 18446744073709551616) : (rd 0 (put x ++ R)).1 = x ∧ (put x ++ R).drop (rd 0 (put x ++ R)).2.1 = R ∧ (rd 0 (put x ++ R)).2.2 = 0 := by
  rw [rd_put0 hx]
  exact ⟨rfl, List.drop_left, rfl⟩
theorem bytes_back (b R : List UInt8) (h : b.length ≤ 200) : byE ((put b.length ++ b) ++ R) 0 200 = 0 ∧ byL ((put b.length ++ b) ++ R) 0 200 = R ∧ byB ((put b.length ++ b) ++ R) 0 200 = b := by
  obtain ⟨h1, h2, h3⟩ := uint_back b.length (b ++ R) (by omega)
  rw [List.append_assoc]
  have e1 : uiX (put b.length ++ (b ++ R)) 0 = b.length := by unfold uiX; rw [if_pos rfl, h1]
  have e2 : uiL (put b.length ++ (b ++ R)) 0 = b ++ R := by unfold uiL; rw [if_pos rfl, h2]
  have e3 : uiE (put b.length ++ (b ++ R)) 0 = 0 := by unfold uiE; rw [if_pos rfl, h3]; rfl
  obtain ⟨f1, f2, f3⟩ := fixed_back b R b.length rfl
  unfold byE byL byB
  rw [e1, e2, e3]
  have hn : ¬ ((200 : Int) < 0 ∨ (200 : Int) < (b.length : Int)) := by omega
  rw [if_neg (by simp), if_neg hn, if_neg (by simp), if_neg hn, if_neg (by simp), if_neg hn]
  exact ⟨f1, f2, f3⟩
theorem bool_back (v : UInt8) (R : List UInt8) (hv : v.toNat ≤ 1) : boE (v :: R) 0 = 0 ∧ fxL (v :: R) 0 1 = R ∧ boX (v :: R) 0 = (v.toNat == 1) := by
  have e : tkE (v :: R) 0 1 = 0 := by
    unfold tkE
    rw [if_neg (by simp), if_neg (by omega), if_neg (by simp; omega)]
  refine ⟨?_, ?_, ?_⟩
  · unfold boE; rw [e, if_neg (by simp), if_neg (by simp; omega)]
  · unfold fxL; rw [if_pos e]; rfl
  · unfold boX; rw [e, if_neg (by simp)]; rfl
end Go.Proofs.Ytmmibldchfmleaa

/-! The document's answers for the reader, by value: End, Fixed, Bytes, Bool. -/
namespace Go.Proofs.Ytmmibldchfmleaa
open Go.RowKit Codec

/-- A reader by value. -/
def RV (l : List UInt8) (e : Int) : Value := .agg #[.string (strB l), .int .i64 e]
theorem strB_empty (l : List UInt8) : (strB l).toList.isEmpty = l.isEmpty := by rw [strB, ByteArray.toList_mk]
theorem strB_to (l : List UInt8) (k : Nat) : (strB l).extract 0 k = strB (l.take k) := by
  apply ByteArray.ext; apply Array.toList_inj.1
  rw [Lib.extract_data]; simp [strB]
theorem strB_from (l : List UInt8) (k : Nat) : (strB l).extract k (strB l).size = strB (l.drop k) := by
  apply ByteArray.ext; apply Array.toList_inj.1
  rw [Lib.extract_data, strB_size, List.take_of_length_le (by simp [strB])]; simp [strB]
theorem below2 (w : World) (o1 o2 : Obj) : Below w.heap.size w ((w.alloc o1).alloc o2) := ((Below.refl _ _).alloc (Nat.le_refl _) _).alloc (by simp) _
theorem endE_bad {l : List UInt8} {e : Int} (h : ¬ e = 0) : endE l e = e := by unfold endE; rw [if_pos h]

set_option maxHeartbeats 1000000 in
theorem ref_end (l : List UInt8) (e : Int) (w : World) : Calls Try.prog 37 #[RV l e] w fun r w' => r = .returned (.int .i64 (endE l e)) ∧ Below w.heap.size w w' := by
  have b1 := fun o => (Below.refl w.heap.size w).alloc (Nat.le_refl _) o
  by_cases he : e = 0
  · subst he
    cases l with
    | nil =>
      rw [show endE [] 0 = 0 from rfl]
      unfold RV
      have hE : (strB []).toList.isEmpty = true := strB_empty []
      go_enter Try.func37, Try.ntmps37
      go_wp2_with fail
      go_ret
      exact ⟨rfl, b1 _⟩
    | cons c t =>
      rw [show endE (c :: t) 0 = 12 by simp [endE]]
      unfold RV
      have hE : (strB (c :: t)).toList.isEmpty = false := strB_empty (c :: t)
      go_enter Try.func37, Try.ntmps37
      go_wp2_with fail
      go_ret
      exact ⟨rfl, b1 _⟩
  · rw [endE_bad he]
    have he' : (e != 0) = true := by simpa using he
    unfold RV
    clear he
    go_enter Try.func37, Try.ntmps37
    go_wp2_with fail
    go_ret
    exact ⟨rfl, b1 _⟩

set_option maxHeartbeats 1000000 in
theorem ref_fixed (l : List UInt8) (e k : Int) (w : World) : Calls Try.prog 46 #[RV l e, .int .i64 k] w fun r w' => r = .returned (.tuple #[RV (fxL l e k) (tkE l e k), .string (strB (fxB l e k))]) ∧ Below w.heap.size w w' := by
  have b2 := below2 w
  by_cases he : e = 0
  · subst he
    by_cases hk : k < 0
    · have e1 : tkE l 0 k = 1 := by unfold tkE; rw [if_neg (by simp), if_pos hk]
      have e2 : fxL l 0 k = l := by unfold fxL; rw [e1]; rfl
      have e3 : fxB l 0 k = [] := by unfold fxB; rw [e1]; rfl
      rw [e1, e2, e3]
      unfold RV
      clear e1 e2 e3
      go_enter Try.func46, Try.ntmps46
      go_wp2_with fail
      refine bodyPost_ret (v := .tuple #[.agg #[.string (strB l), .int .i64 1], .string (strB [])]) (by simp [results, Try.results46, go_sem]; rfl) rfl ⟨rfl, b2 _ _⟩
    · by_cases hl : (l.length : Int) < k
      · have e1 : tkE l 0 k = 10 := by unfold tkE; rw [if_neg (by simp), if_neg hk, if_pos hl]
        have e2 : fxL l 0 k = l := by unfold fxL; rw [e1]; rfl
        have e3 : fxB l 0 k = [] := by unfold fxB; rw [e1]; rfl
        rw [e1, e2, e3]
        unfold RV
        have hl' : ((strB l).size : Int) < k := by rw [strB_size]; exact hl
        clear e1 e2 e3 hl
        go_enter Try.func46, Try.ntmps46
        go_wp2_with fail
        refine bodyPost_ret (v := .tuple #[.agg #[.string (strB l), .int .i64 10], .string (strB [])]) (by simp [results, Try.results46, go_sem]; rfl) rfl ⟨rfl, b2 _ _⟩
      · have e1 : tkE l 0 k = 0 := by unfold tkE; rw [if_neg (by simp), if_neg hk, if_neg hl]
        have e2 : fxL l 0 k = l.drop k.toNat := by unfold fxL; rw [if_pos e1]
        have e3 : fxB l 0 k = l.take k.toNat := by unfold fxB; rw [if_pos e1]
        rw [e1, e2, e3]
        unfold RV
        have hl' : k ≤ ((strB l).size : Int) := by rw [strB_size]; omega
        have E1 := Lib.hid (strB_to l k.toNat)
        have E2 := Lib.hid (strB_from l k.toNat)
        clear e1 e2 e3 hl
        go_enter Try.func46, Try.ntmps46
        go_wp2_with fail
        rw [E1.out, E2.out]
        refine bodyPost_ret (v := .tuple #[.agg #[.string (strB (l.drop k.toNat)), .int .i64 0], .string (strB (l.take k.toNat))]) (by simp [results, Try.results46, go_sem]) rfl ⟨rfl, b2 _ _⟩
  · have e1 : tkE l e k = e := by unfold tkE; rw [if_pos he]
    have e2 : fxL l e k = l := by unfold fxL; rw [e1, if_neg he]
    have e3 : fxB l e k = [] := by unfold fxB; rw [e1, if_neg he]
    rw [e1, e2, e3]
    have he' : (e != 0) = true := by simpa using he
    unfold RV
    clear he e1 e2 e3
    go_enter Try.func46, Try.ntmps46
    go_wp2_with fail
    refine bodyPost_ret (v := .tuple #[.agg #[.string (strB l), .int .i64 e], .string (strB [])]) (by simp [results, Try.results46, go_sem]; rfl) rfl ⟨rfl, b2 _ _⟩
end Go.Proofs.Ytmmibldchfmleaa

/-! The document's reading of a number, by value. -/
namespace Go.Proofs.Ytmmibldchfmleaa
open Go.RowKit Codec

theorem strB_head (d : UInt8) (t : List UInt8) (h : 0 < (strB (d :: t)).size) : (strB (d :: t))[0] = d := rfl
theorem pow_small {k : Nat} (hk : k ≤ 9) : 128 ^ k ≤ 9223372036854775808 := by
  have h := Nat.pow_le_pow_right (show 0 < 128 by omega) hk
  simpa using h
theorem u64_in {z : Int} (h0 : 0 ≤ z) (h1 : z < 18446744073709551616) : IntKind.u64.wrap z = z := by unfold IntKind.wrap; simp [IntKind.signed, IntKind.bits]; omega
theorem wrap_mul {k X d : Nat} (hX : X < 128 ^ k) (hk : k ≤ 9) (h9 : k = 9 → d % 128 ≤ 1) : IntKind.u64.wrap ((X : Int) + IntKind.u64.wrap (128 ^ k * ((d : Int) % 128))) = ((X + d % 128 * 128 ^ k : Nat) : Int) := by
  have hs := n_small (c := d % 128) hX hk (by omega) h9
  have e : (128 : Int) ^ k * ((d : Int) % 128) = ((d % 128 * 128 ^ k : Nat) : Int) := by
    rw [Nat.mul_comm]; push_cast; rfl
  rw [e, u64_in (Int.natCast_nonneg _) (by omega), u64_in (by omega) (by omega)]
  push_cast; rfl
theorem wrap_pow {k : Nat} (hk : k < 9) : IntKind.u64.wrap ((128 : Int) ^ k * 128) = ((128 ^ (k + 1) : Nat) : Int) := by
  have h := pow_small (k := k + 1) (by omega)
  have e : (128 : Int) ^ k * 128 = ((128 ^ (k + 1) : Nat) : Int) := by rw [Nat.pow_succ]; push_cast; rfl
  rw [e, u64_in (Int.natCast_nonneg _) (by omega)]

set_option maxHeartbeats 2000000 in
set_option maxRecDepth 100000 in
theorem ref_uint0 (l : List UInt8) (w : World) : Calls Try.prog 35 #[RV l 0] w fun r w' => ∃ m : List UInt8, r = .returned (.tuple #[RV m (rd 0 l).2.2, .int .u64 (rd 0 l).1]) ∧ ((rd 0 l).2.2 = 0 → m = l.drop (rd 0 l).2.1) ∧ Below w.heap.size w w' := by
  have b2 := below2 w
  unfold RV
  go_enter Try.func35, Try.ntmps35
  go_wp2_with fail
  go_loopw [4, 5, 6, 7] (fun x m i c wr => ∃ (k X : Nat), k ≤ 9 ∧ i = .int .i64 k ∧ m = .int .u64 ((128 ^ k : Nat) : Int) ∧ x = .int .u64 X ∧ X < 128 ^ k ∧ Hid (rd 0 l = comb k X (rd k (l.drop k))) ∧
    wr = (w.alloc (.cells #[.string (strB (l.drop k)), .int .i64 0] 82)).alloc (.cells #[.string ByteArray.empty, .int .i64 0] 82)) (fun _ _ i _ _ => 10 - (intOf i).toNat)
  case atStart => exact ⟨0, 0, by omega, rfl, rfl, rfl, by simp, by rw [List.drop_zero, comb_zero _ (rd_err 0 l)]; exact rfl, rfl⟩
  case round =>
    obtain ⟨k, X, hk9, rfl, rfl, rfl, hX, HD, rfl⟩ := hrel
    generalize hR : l.drop k = R at *
    cases R with
    | nil =>
      have hE : (strB []).toList.isEmpty = true := strB_empty []
      have E : rd 0 l = (0, 0, 10) := by rw [HD.out]; rfl
      clear HD
      have HE := Lib.hid E
      clear E
      go_wp2_with fail
      refine bodyPost_ret (v := .tuple #[.agg #[.string (strB []), .int .i64 10], .int .u64 0]) (by simp [results, Try.results35, go_sem]) rfl ⟨[], ?_, ?_, b2 _ _⟩
      · rw [HE.out]; rfl
      · rw [HE.out]; intro h; cases h
    | cons d t =>
      have hE : (strB (d :: t)).toList.isEmpty = false := strB_empty (d :: t)
      have hsz : (strB (d :: t)).size = t.length + 1 := by rw [strB_size]; rfl
      have hd0 := strB_head d t
      have EX := Lib.hid (strB_from (d :: t) 1)
      have ht : l.drop (k + 1) = t := by rw [← List.drop_drop, hR]; rfl
      have HT := Lib.hid ht
      have HX := Lib.hid hX
      have hu := d.toNat_lt
      clear hR ht hX
      rw [hsz] at EX
      go_wp2_with fail
      · have h9 : (k : Int) = 9 := by assumption
        have h1 : 1 < (d.toNat : Int) ∨ ((d.toNat : Int) == 0) = true := by assumption
        simp only [beq_iff_eq] at h1
        have E := n_bad HD.out (by omega)
        rw [EX.out]
        refine bodyPost_ret (v := .tuple #[.agg #[.string (strB t), .int .i64 11], .int .u64 0]) (by simp [results, Try.results35, go_sem]) rfl ⟨t, ?_, ?_, b2 _ _⟩
        · rw [E]; rfl
        · rw [E]; intro h; cases h
      · have h9 : (k : Int) = 9 := by assumption
        have h1 : (d.toNat : Int) ≤ 1 ∧ ((d.toNat : Int) == 0) = false := by assumption
        have := WalkArith.int_ne h1.2
        have E := n_end HD.out (by omega) (by omega)
        have W := wrap_mul (d := d.toNat) HX.out hk9 (by omega)
        rw [EX.out, W]
        refine bodyPost_ret (v := .tuple #[.agg #[.string (strB t), .int .i64 0], .int .u64 ((X + d.toNat % 128 * 128 ^ k : Nat) : Int)]) (by simp [results, Try.results35, go_sem]) rfl ⟨t, ?_, ?_, b2 _ _⟩
        · rw [E, Nat.mod_eq_of_lt (by omega)]; rfl
        · rw [E]; intro _; exact HT.out.symm
      · have h9 : (k : Int) = 9 := by assumption
        have h1 : 1 < (d.toNat : Int) := by assumption
        have E := n_bad HD.out (by omega)
        rw [EX.out]
        refine bodyPost_ret (v := .tuple #[.agg #[.string (strB t), .int .i64 11], .int .u64 0]) (by simp [results, Try.results35, go_sem]) rfl ⟨t, ?_, ?_, b2 _ _⟩
        · rw [E]; rfl
        · rw [E]; intro h; cases h
      · have hp : 0 < k := by assumption
        have h0 : ((d.toNat : Int) == 0) = true := by assumption
        have := WalkArith.int_eq h0
        have E := n_bad HD.out (by omega)
        rw [EX.out]
        refine bodyPost_ret (v := .tuple #[.agg #[.string (strB t), .int .i64 11], .int .u64 0]) (by simp [results, Try.results35, go_sem]) rfl ⟨t, ?_, ?_, b2 _ _⟩
        · rw [E]; rfl
        · rw [E]; intro h; cases h
      · have h9 : ¬ (k : Int) = 9 := by assumption
        have h0 : ((d.toNat : Int) == 0) = false := by assumption
        have hs : (d.toNat : Int) < 128 := by assumption
        have := WalkArith.int_ne h0
        have E := n_end HD.out (by omega) (by omega)
        have W := wrap_mul (d := d.toNat) HX.out hk9 (by omega)
        rw [EX.out, W]
        refine bodyPost_ret (v := .tuple #[.agg #[.string (strB t), .int .i64 0], .int .u64 ((X + d.toNat % 128 * 128 ^ k : Nat) : Int)]) (by simp [results, Try.results35, go_sem]) rfl ⟨t, ?_, ?_, b2 _ _⟩
        · rw [E, Nat.mod_eq_of_lt (by omega)]; rfl
        · rw [E]; intro _; exact HT.out.symm
      · have h9 : ¬ (k : Int) = 9 := by assumption
        have hs : 128 ≤ (d.toNat : Int) := by assumption
        have E := HD.out
        rw [comb_step (by omega) (by omega)] at E
        have W := wrap_mul (d := d.toNat) HX.out hk9 (by omega)
        have W2 := wrap_pow (k := k) (by omega)
        have hX2 := n_next (c := d.toNat % 128) HX.out (by omega)
        go_roundw
        case rel => exact ⟨k + 1, _, by omega, by go_num, by rw [W2], by rw [W], hX2, by rw [HT.out, show d.toNat % 128 = d.toNat - 128 by omega]; exact E, by rw [EX.out, HT.out]; rfl⟩
        case measure => simp [intOf]; omega
      · have h9 : ¬ (k : Int) = 9 := by assumption
        have hp : ¬ 0 < k := by assumption
        have hs : (d.toNat : Int) < 128 := by assumption
        have E := n_end HD.out (by omega) (by omega)
        have W := wrap_mul (d := d.toNat) HX.out hk9 (by omega)
        rw [EX.out, W]
        refine bodyPost_ret (v := .tuple #[.agg #[.string (strB t), .int .i64 0], .int .u64 ((X + d.toNat % 128 * 128 ^ k : Nat) : Int)]) (by simp [results, Try.results35, go_sem]) rfl ⟨t, ?_, ?_, b2 _ _⟩
        · rw [E, Nat.mod_eq_of_lt (by omega)]; rfl
        · rw [E]; intro _; exact HT.out.symm
      · have h9 : ¬ (k : Int) = 9 := by assumption
        have hs : 128 ≤ (d.toNat : Int) := by assumption
        have E := HD.out
        rw [comb_step (by omega) (by omega)] at E
        have W := wrap_mul (d := d.toNat) HX.out hk9 (by omega)
        have W2 := wrap_pow (k := k) (by omega)
        have hX2 := n_next (c := d.toNat % 128) HX.out (by omega)
        go_roundw
        case rel => exact ⟨k + 1, _, by omega, by go_num, by rw [W2], by rw [W], hX2, by rw [HT.out, show d.toNat % 128 = d.toNat - 128 by omega]; exact E, by rw [EX.out, HT.out]; rfl⟩
        case measure => simp [intOf]; omega

/-- The post of a reading by value: a reader with error e, that has l left where e is none; the value v. -/
def RGot (w : World) (e : Int) (l : List UInt8) (v : Value) (r : Ending) (w' : World) : Prop := ∃ m : List UInt8, r = .returned (.tuple #[RV m e, v]) ∧ (e = 0 → m = l) ∧ Below w.heap.size w w'

set_option maxHeartbeats 1000000 in
theorem ref_uint (l : List UInt8) (e : Int) (w : World) : Calls Try.prog 35 #[RV l e] w (RGot w (uiE l e) (uiL l e) (.int .u64 (uiX l e))) := by
  by_cases he : e = 0
  · subst he
    refine (ref_uint0 l w).mono ?_
    rintro _ w1 ⟨m, rfl, h1, h2⟩
    unfold uiE uiX uiL
    rw [if_pos rfl, if_pos rfl, if_pos rfl]
    exact ⟨m, rfl, fun h => h1 (by omega), h2⟩
  · have e1 : uiE l e = e := by unfold uiE; rw [if_neg he]
    have e2 : uiX l e = 0 := by unfold uiX; rw [if_neg he]
    rw [e1, e2]
    have b2 := below2 w
    have HE := Lib.hid he
    have he' : (e != 0) = true := by simpa using he
    unfold RV
    clear he e1 e2
    go_enter Try.func35, Try.ntmps35
    go_wp2_with fail
    refine bodyPost_ret (v := .tuple #[.agg #[.string (strB l), .int .i64 e], .int .u64 0]) (by simp [results, Try.results35, go_sem]) rfl ⟨l, rfl, fun h => absurd h HE.out, b2 _ _⟩
end Go.Proofs.Ytmmibldchfmleaa

/-! The document's reading of a row with its length, by value. -/
namespace Go.Proofs.Ytmmibldchfmleaa
open Go.RowKit Codec

/-- Two variables of readers that a call has made, in a later world. -/
theorem two_kept {w w1 : World} {a b c d : Value} {t : TypeId} (h : Below ((w.alloc (.cells #[a, b] t)).alloc (.cells #[c, d] t)).heap.size ((w.alloc (.cells #[a, b] t)).alloc (.cells #[c, d] t)) w1) :
    (w1.cell? ⟨w.heap.size, 0, none⟩ = some a ∧ w1.cell? ⟨w.heap.size, 1, none⟩ = some b ∧ w1.cell? ⟨w.heap.size + 1, 0, none⟩ = some c ∧ w1.cell? ⟨w.heap.size + 1, 1, none⟩ = some d) ∧
    (w1.frozen? ⟨w.heap.size, 0, none⟩ = false ∧ w1.frozen? ⟨w.heap.size, 1, none⟩ = false ∧ w1.frozen? ⟨w.heap.size + 1, 0, none⟩ = false ∧ w1.frozen? ⟨w.heap.size + 1, 1, none⟩ = false) ∧ Below w.heap.size w w1 := by
  have h2 : ((w.alloc (.cells #[a, b] t)).alloc (.cells #[c, d] t)).heap[w.heap.size + 1]? = some (.cells #[c, d] t (0, 0)) := by
    have := heap_alloc_new (w.alloc (.cells #[a, b] t)) (.cells #[c, d] t)
    simpa using this
  have h1 : ((w.alloc (.cells #[a, b] t)).alloc (.cells #[c, d] t)).heap[w.heap.size]? = some (.cells #[a, b] t (0, 0)) := by
    have := heap_alloc_new w (.cells #[a, b] t)
    rw [((Below.refl _ (w.alloc (.cells #[a, b] t))).alloc (Nat.le_refl _) (.cells #[c, d] t)).block w.heap.size (by simp)]
    exact this
  have k1 := (h.block w.heap.size (by simp; omega)).trans h1
  have k2 := (h.block (w.heap.size + 1) (by simp)).trans h2
  refine ⟨⟨?_, ?_, ?_, ?_⟩, ⟨?_, ?_, ?_, ?_⟩, (below2 w _ _).trans (h.mono (by simp; omega))⟩
  · rw [cell_of_cells k1]; rfl
  · rw [cell_of_cells k1]; rfl
  · rw [cell_of_cells k2]; rfl
  · rw [cell_of_cells k2]; rfl
  all_goals (simp [World.frozen?, k1, k2])

/-- What is written last stands there. -/
theorem set_set (w : World) (a : Addr) (u v : Value) : (w.setCell a u).setCell a v = w.setCell a v := by
  unfold World.setCell
  congr 1
  apply Array.ext_getElem?
  intro i
  simp only [Array.getElem?_modify]
  split
  · cases w.heap[i]? with
    | none => rfl
    | some o =>
      cases o with
      | cells c e f => by_cases h : a.spot.isSome <;> simp [h]
      | _ => rfl
  · rfl

theorem later {w1 w2 : World} {g g' : Nat} {u v : Value} (hne : g' ≠ g) (hlt : g' < w1.heap.size) (h : Below ((w1.setCell ⟨g, 0, none⟩ u).setCell ⟨g, 1, none⟩ v).heap.size ((w1.setCell ⟨g, 0, none⟩ u).setCell ⟨g, 1, none⟩ v) w2) (o : Nat) :
    w2.cell? ⟨g', o, none⟩ = w1.cell? ⟨g', o, none⟩ ∧ w2.frozen? ⟨g', o, none⟩ = w1.frozen? ⟨g', o, none⟩ := by
  have e : w2.heap[g']? = w1.heap[g']? := (h.block g' (by simp [World.setCell]; exact hlt)).trans ((Below.heap_setCell _ _ _ _ hne).trans (Below.heap_setCell _ _ _ _ hne))
  exact ⟨World.cell?_of_block (w := w1) (a := ⟨g', o, none⟩) e, by simp [World.frozen?, e]⟩
theorem below_four {w w1 : World} (h : Below w.heap.size w w1) (u1 u2 u3 u4 : Value) : Below w.heap.size w ((((w1.setCell ⟨w.heap.size, 0, none⟩ u1).setCell ⟨w.heap.size, 1, none⟩ u2).setCell ⟨w.heap.size + 1, 0, none⟩ u3).setCell ⟨w.heap.size + 1, 1, none⟩ u4) :=
  (((h.setCell (p := ⟨w.heap.size, 0, none⟩) (Nat.le_refl _) u1).setCell (p := ⟨w.heap.size, 1, none⟩) (Nat.le_refl _) u2).setCell (p := ⟨w.heap.size + 1, 0, none⟩) (Nat.le_succ _) u3).setCell (p := ⟨w.heap.size + 1, 1, none⟩) (Nat.le_succ _) u4

end Go.Proofs.Ytmmibldchfmleaa

/-! The document's reading of an Id, by value. -/
namespace Go.Proofs.Ytmmibldchfmleaa
open Go.RowKit Codec

/-- The first k bytes, noughts behind. -/
def pad (s : List UInt8) (k : Nat) : List UInt8 := s.take k ++ List.replicate (32 - k) 0
theorem pad_length (s : List UInt8) (k : Nat) (h : k ≤ s.length) (h2 : s.length ≤ 32) : (pad s k).length = 32 := by unfold pad; simp; omega
theorem pad_step (s : List UInt8) (k : Nat) (h : k < s.length) (h2 : s.length ≤ 32) : (u8s (pad s k)).toArray.setIfInBounds k (.int .u8 (((s[k]?.getD 0).toNat : Nat) : Int)) = (u8s (pad s (k + 1))).toArray := by
  have e1 : pad s k = s.take k ++ 0 :: List.replicate (31 - k) 0 := by
    unfold pad; rw [show 32 - k = (31 - k) + 1 by omega, List.replicate_succ]
  have e2 : pad s (k + 1) = s.take k ++ s[k]?.getD 0 :: List.replicate (31 - k) 0 := by
    unfold pad
    rw [show 32 - (k + 1) = 31 - k by omega, List.take_succ_eq_append_getElem h, List.append_assoc, List.getElem?_eq_getElem h]
    rfl
  have hl : (u8s (s.take k)).length = k := by rw [u8s_length, List.length_take]; omega
  rw [e1, e2, List.setIfInBounds_toArray]
  congr 1
  rw [u8s_append, List.set_append_right _ _ (by omega), hl, Nat.sub_self, u8s_append]
  rfl
theorem pad_zero (s : List UInt8) : (u8s (pad s 0)).toArray = Z32 := by simp [pad, Z32]
theorem pad_id (l : List UInt8) (e : Int) : pad (fxB l e 32) (fxB l e 32).length = idL l e ∧ (fxB l e 32).length ≤ 32 := by
  unfold fxB idL pad
  split
  · rename_i h
    obtain ⟨_, _, h1⟩ := tkE_zero h
    have h2 : (32 : Int).toNat = 32 := rfl
    rw [h2] at h1 ⊢
    rw [List.take_of_length_le (Nat.le_refl _), List.length_take, Nat.min_eq_left h1]
    simp
  · simp

theorem three_kept {w w1 : World} {a b c d : Value} {t : TypeId} {o : Obj} (h : Below (((w.alloc (.cells #[a, b] t)).alloc (.cells #[c, d] t)).alloc o).heap.size (((w.alloc (.cells #[a, b] t)).alloc (.cells #[c, d] t)).alloc o) w1) :
    (w1.cell? ⟨w.heap.size, 0, none⟩ = some a ∧ w1.cell? ⟨w.heap.size, 1, none⟩ = some b ∧ w1.cell? ⟨w.heap.size + 1, 0, none⟩ = some c ∧ w1.cell? ⟨w.heap.size + 1, 1, none⟩ = some d) ∧
    (w1.frozen? ⟨w.heap.size, 0, none⟩ = false ∧ w1.frozen? ⟨w.heap.size, 1, none⟩ = false ∧ w1.frozen? ⟨w.heap.size + 1, 0, none⟩ = false ∧ w1.frozen? ⟨w.heap.size + 1, 1, none⟩ = false) ∧
    w1.heap[w.heap.size + 2]? = some o ∧ w1.heap[w.heap.size + 1]? = some (.cells #[c, d] t (0, 0)) ∧ w.heap.size + 2 < w1.heap.size ∧ Below w.heap.size w w1 := by
  have hs : ((w.alloc (.cells #[a, b] t)).alloc (.cells #[c, d] t)).heap.size = w.heap.size + 2 := by simp
  have h3 := heap_alloc_new ((w.alloc (.cells #[a, b] t)).alloc (.cells #[c, d] t)) o
  rw [hs] at h3
  have hb : Below ((w.alloc (.cells #[a, b] t)).alloc (.cells #[c, d] t)).heap.size ((w.alloc (.cells #[a, b] t)).alloc (.cells #[c, d] t)) w1 := ((Below.refl _ _).alloc (Nat.le_refl _) o).trans (h.mono (by simp))
  obtain ⟨k1, k2, k3⟩ := two_kept hb
  have hz := h.size
  simp at hz
  have h4 := heap_alloc_new (w.alloc (.cells #[a, b] t)) (.cells #[c, d] t)
  rw [show (w.alloc (.cells #[a, b] t)).heap.size = w.heap.size + 1 by simp] at h4
  exact ⟨k1, k2, (h.block (w.heap.size + 2) (by simp)).trans h3, (hb.block (w.heap.size + 1) (by simp)).trans h4, by omega, k3⟩

theorem rangeAt_heap {w w' : World} {b o : Nat} {cs : List Value} (e : w'.heap[b]? = w.heap[b]?) (h : w.rangeAt b o cs) : w'.rangeAt b o cs := fun j v hj => (World.cell?_of_block (w := w) (w' := w') (a := ⟨b, o + j, none⟩) e).trans (h j v hj)
theorem heap_setRow {w : World} {g : Nat} {cs : Array Value} {i : Nat} (h : i ≠ g) : (w.setRow g cs).heap[i]? = w.heap[i]? := by
  simp only [World.setRow, Array.getElem?_modify]
  rw [if_neg (fun e => h e.symm)]
theorem seg_yield {P : Program} {ops : Array Oper} {C : World → Prop} {Q' : Act → Prop} {i : Nat} {r : List Nat} {a : Act} {o : Oper} (v : Value) (ho : ops.toList[i]? = some o) (hy : YieldsIf P ops C o v a) (h : wpSeg P ops C Q' r (a.put o.dst v)) : wpSeg P ops C Q' (i :: r) a :=
  ⟨o, v, by rw [← ho, Array.getElem?_toList], hy, h⟩
/-- A function's two results that live in variables. -/
theorem results_two {P : Program} {fn : Func} {p q : Tmp} {ty uy : TypeId} (h : fn.results = #[.cell p ty, .cell q uy]) (tmps : Array Value) (w : World) (A B : Addr) (v u : Value)
    (hp : tmps.getD p undef = .pointer (some A)) (hq : tmps.getD q undef = .pointer (some B)) (hv : (loadVar ty A).run P w = .ok v w) (hu : (loadVar uy B).run P w = .ok u w) :
    (results fn tmps).run P w = .ok (.tuple #[v, u]) w := by
  have hp' : tmps[p]?.getD undef = .pointer (some A) := by simpa using hp
  have hq' : tmps[q]?.getD undef = .pointer (some B) := by simpa using hq
  simp [results, h, hp', hq', asAddr, hv, hu]
theorem strB_at (s : List UInt8) (k : Nat) (h : k < (strB s).size) : (strB s)[k] = s[k]?.getD 0 := by
  have h2 : k < s.length := by rw [strB_size] at h; exact h
  rw [List.getElem?_eq_getElem h2]; rfl

set_option linter.unusedSimpArgs false
set_option maxHeartbeats 1000000 in
set_option maxRecDepth 100000 in
theorem ref_id (l : List UInt8) (e : Int) (w : World) : Calls Try.prog 36 #[RV l e] w fun r w' => r = .returned (.tuple #[RV (fxL l e 32) (tkE l e 32), .agg (idC l e)]) ∧ Below w.heap.size w w' := by
  have hu := fun w => ref_fixed l e 32 w
  unfold idC
  rw [← (pad_id l e).1]
  have h32 := (pad_id l e).2
  generalize tkE l e 32 = e1 at *
  generalize fxL l e 32 = m at *
  generalize fxB l e 32 = s at *
  unfold RV at *
  go_enter Try.func36, Try.ntmps36
  go_wp2_with fail
  refine (hu _).mono ?_
  rintro _ w1 ⟨rfl, h2⟩
  obtain ⟨⟨c1, c2, c3, c4⟩, ⟨f1, f2, f3, f4⟩, hh, hh1, hsz, hb1⟩ := three_kept h2
  have HH := Lib.hid hh
  have HH1 := Lib.hid hh1
  have HSZ := Lib.hid hsz
  have HB := Lib.hid hb1
  clear h2 hu hh hh1 hsz hb1
  go_wp2_with fail
  generalize hW2 : World.alloc (World.setCell (World.setCell w1 _ _) _ _) _ = W2
  have hs2 : ((w1.setCell ⟨w.heap.size, 0, none⟩ (.string (strB m))).setCell ⟨w.heap.size, 1, none⟩ (.int .i64 e1)).heap.size = w1.heap.size := by simp [World.setCell]
  have hg : W2.heap[w1.heap.size]? = some (.cells Z32 31 (0, 0)) := by
    rw [← hW2]
    have := heap_alloc_new ((w1.setCell ⟨w.heap.size, 0, none⟩ (.string (strB m))).setCell ⟨w.heap.size, 1, none⟩ (.int .i64 e1)) (.cells Z32 31)
    rw [hs2] at this
    exact this
  have hT : Turned (fun b => b = w.heap.size) w1 W2 := by
    rw [← hW2]
    exact (((Turned.refl (fun b => b = w.heap.size) w1).set rfl 0 _).set rfl 1 _).alloc _
  have d1 : W2.cell? ⟨w.heap.size, 0, none⟩ = some (.string (strB m)) := by
    rw [← hW2]
    refine (((Below.refl ((w1.setCell ⟨w.heap.size, 0, none⟩ (.string (strB m))).setCell ⟨w.heap.size, 1, none⟩ (.int .i64 e1)).heap.size _).alloc (Nat.le_refl _) _).cell (p := ⟨w.heap.size, 0, none⟩) (by rw [hs2]; have := HSZ.out; show w.heap.size < _; omega)).trans ?_
    simp [go_sem, c1, c2]
  have d2 : W2.cell? ⟨w.heap.size, 1, none⟩ = some (.int .i64 e1) := by
    rw [← hW2]
    refine (((Below.refl ((w1.setCell ⟨w.heap.size, 0, none⟩ (.string (strB m))).setCell ⟨w.heap.size, 1, none⟩ (.int .i64 e1)).heap.size _).alloc (Nat.le_refl _) _).cell (p := ⟨w.heap.size, 1, none⟩) (by rw [hs2]; have := HSZ.out; show w.heap.size < _; omega)).trans ?_
    simp [go_sem, c1, c2]
  have hg1 : W2.heap[w.heap.size + 1]? = w1.heap[w.heap.size + 1]? := hT.block _ (by have := HSZ.out; omega) (by omega)
  have hg2 : W2.heap[w.heap.size + 2]? = w1.heap[w.heap.size + 2]? := hT.block _ HSZ.out (by omega)
  have hb2 : Below w.heap.size w W2 := by
    rw [← hW2]
    exact ((HB.out.setCell (p := ⟨w.heap.size, 0, none⟩) (Nat.le_refl _) _).setCell (p := ⟨w.heap.size, 1, none⟩) (Nat.le_refl _) _).alloc (by rw [hs2]; exact HB.out.size) _
  have hsz2 : w1.heap.size < W2.heap.size := by rw [← hW2]; simp [World.setCell]
  clear hW2 hs2 hT
  have HS := Lib.hid (strB_size s)
  go_loopw [6] (fun i wr => ∃ k : Nat, k ≤ s.length ∧ i = .int .i64 k ∧ wr.heap[w1.heap.size]? = some (.cells (u8s (pad s k)).toArray 31 (0, 0)) ∧ Turned (fun b => b = w1.heap.size) W2 wr) (fun i _ => s.length - (intOf i).toNat)
  case atStart => exact ⟨0, Nat.zero_le _, rfl, by rw [pad_zero]; exact hg, Turned.refl _ _⟩
  case round =>
    obtain ⟨k, hk, rfl, hgk, hTk⟩ := hrel
    have hsz := HS.out
    by_cases hlt : k < s.length
    · have hc := cell_of_cells hgk k
      have hpl := pad_length s k hk h32
      have hck : wr.cell? ⟨w1.heap.size, k, none⟩ = some (.int .u8 (((pad s k)[k]?.getD 0).toNat : Int)) := by
        rw [hc]
        have hkp : k < (pad s k).length := by omega
        simp [u8s, List.getElem?_eq_getElem hkp]
      have hfk : wr.frozen? ⟨w1.heap.size, k, none⟩ = false := by simp [World.frozen?, hgk]
      have hix := strB_at s k
      have hk32 : k < 32 := by omega
      have HG := Lib.hid hgk
      clear hc hgk hpl
      go_wp2_with fail
      go_roundw
      case rel => exact ⟨k + 1, by omega, by go_num, by rw [← pad_step s k hlt h32, List.getElem?_eq_getElem hlt]; exact set_of_cells HG.out k _, hTk.set rfl k _⟩
      case measure => simp [intOf]; omega
    · have hkl : k = s.length := by omega
      subst hkl
      have hsw := HSZ.out
      have k0 : wr.heap[w.heap.size]? = W2.heap[w.heap.size]? := hTk.block _ (by omega) (by omega)
      have k1 : wr.heap[w.heap.size + 1]? = w1.heap[w.heap.size + 1]? := (hTk.block _ (by omega) (by omega)).trans hg1
      have k2 : wr.heap[w.heap.size + 2]? = w1.heap[w.heap.size + 2]? := (hTk.block _ (by omega) (by omega)).trans hg2
      have d1 := (World.cell?_of_block (w := W2) (w' := wr) (a := ⟨w.heap.size, 0, none⟩) k0).trans d1
      have d2 := (World.cell?_of_block (w := W2) (w' := wr) (a := ⟨w.heap.size, 1, none⟩) k0).trans d2
      have d3 := (World.cell?_of_block (w := w1) (w' := wr) (a := ⟨w.heap.size + 1, 0, none⟩) k1).trans c3
      have d4 := (World.cell?_of_block (w := w1) (w' := wr) (a := ⟨w.heap.size + 1, 1, none⟩) k1).trans c4
      have g3 : wr.frozen? ⟨w.heap.size + 1, 0, none⟩ = false := by rw [← f3]; simp only [World.frozen?, k1]
      have g4 : wr.frozen? ⟨w.heap.size + 1, 1, none⟩ = false := by rw [← f4]; simp only [World.frozen?, k1]
      have HK2 := Lib.hid (k2.trans HH.out)
      have HK1 := Lib.hid (k1.trans HH1.out)
      have hbr := hb2.trans ((hTk.mono (T := (w.heap.size ≤ ·)) (fun b _ e => by have e : b = w1.heap.size := e; show w.heap.size ≤ b; omega)).below hb2.size)
      have hpl := pad_length s s.length (Nat.le_refl _) h32
      have hrg : wr.rangeAt w1.heap.size 0 (u8s (pad s s.length)) := by
        have := World.rangeAt_of_block hgk 0 32
        rwa [show ((u8s (pad s s.length)).toArray.extract 0 (0 + 32)).toList = u8s (pad s s.length) by rw [List.extract_toArray, List.toList_toArray, List.extract_eq_take_drop, List.drop_zero, Nat.zero_add, Nat.sub_zero, List.take_of_length_le (by rw [u8s_length, hpl]; omega)]] at this
      have hi32 : (Try.prog.info? 31).map (·.size) = some (u8s (pad s s.length)).length := by rw [u8s_length, hpl]; exact id_info
      have HI := Lib.hid hi32
      have HRG := Lib.hid hrg
      have HBR := Lib.hid hbr
      have hne1 : w1.heap.size ≠ w.heap.size + 1 := by omega
      clear k0 k1 k2 hgk hTk hpl hi32 hrg hbr c1 c2 c3 c4 f1 f2 f3 f4 hg hg1 hg2 hb2
      generalize hcs : u8s (pad s s.length) = cs at *
      go_wp2_with fail
      refine wp_region_plan (fun W => W.cell? ⟨w.heap.size, 0, none⟩ = some (.string (strB m)) ∧ W.cell? ⟨w.heap.size, 1, none⟩ = some (.int .i64 e1) ∧ W.rangeAt w1.heap.size 0 cs) [([0, 1], 2), ([], 3)] [] (by kernel_rfl) (by kernel_rfl) (fun _ _ d _ _ h => by cases d <;> exact h) ⟨by simp [go_sem, d1], by simp [go_sem, d2], by simpa using HRG.out⟩ ?_
      refine plan_eff ?_
      refine seg_read ?v1 (by rfl) (by rfl) ?h1 ?_
      case h1 => intro W hW; obtain ⟨e1, e2, _⟩ := hW; go_simp; with_reducible rfl
      try simp only [Act.put, List.setIfInBounds_toArray, List.set_cons_zero, List.set_cons_succ]
      refine seg_yield (.agg cs.toArray) (by rfl) (yieldsIf_load_mid (by rfl) 31 (.tmp 5) (by rfl) w1.heap.size 0 (by rfl) cs _ (fun W hW => hW.2.2) Try.underlying31 (by rfl) HI.out) ?_
      try simp only [Act.put, List.setIfInBounds_toArray, List.set_cons_zero, List.set_cons_succ]
      refine seg_nil ?_
      refine eff_step (by rfl) (fun K hK => ?_)
      go_simp
      obtain ⟨WA, hWA⟩ : ∃ WA, WA = ((wr.setCell ⟨w.heap.size + 1, 0, none⟩ (.string (strB m))).setCell ⟨w.heap.size + 1, 1, none⟩ (.int .i64 e1)).drew := ⟨_, rfl⟩
      have oth : ∀ i, i ≠ w.heap.size + 1 → WA.heap[i]? = wr.heap[i]? := fun i hi => by
        rw [hWA]; exact (Below.heap_setCell _ _ _ _ hi).trans (Below.heap_setCell _ _ _ _ hi)
      have a0 : WA.cell? ⟨w.heap.size, 0, none⟩ = some (.string (strB m)) := (World.cell?_of_block (w := wr) (w' := WA) (a := ⟨w.heap.size, 0, none⟩) (oth w.heap.size (by omega))).trans d1
      have a1 : WA.cell? ⟨w.heap.size, 1, none⟩ = some (.int .i64 e1) := (World.cell?_of_block (w := wr) (w' := WA) (a := ⟨w.heap.size, 1, none⟩) (oth w.heap.size (by omega))).trans d2
      have a2 : WA.rangeAt w1.heap.size 0 cs := rangeAt_heap (oth _ hne1) HRG.out
      have a3 := (oth (w.heap.size + 2) (by omega)).trans HK2.out
      have a4 : WA.heap[w.heap.size + 1]? = some (.cells #[.string (strB m), .int .i64 e1] 82 (0, 0)) := by
        rw [hWA]
        have := set_of_cells (set_of_cells HK1.out 0 (.string (strB m))) 1 (.int .i64 e1)
        show ((wr.setCell ⟨w.heap.size + 1, 0, none⟩ (.string (strB m))).setCell ⟨w.heap.size + 1, 1, none⟩ (.int .i64 e1)).heap[w.heap.size + 1]? = _
        simpa using this
      have a5 : Below w.heap.size w WA := by
        rw [hWA]; exact ((HBR.out.setCell (p := ⟨w.heap.size + 1, 0, none⟩) (Nat.le_succ _) _).setCell (p := ⟨w.heap.size + 1, 1, none⟩) (Nat.le_succ _) _).drew
      rw [← hWA]
      clear hWA oth d1 d2 d3 d4 g3 g4
      refine hK _ _ ⟨fun W => W.cell? ⟨w.heap.size, 0, none⟩ = some (.string (strB m)) ∧ W.cell? ⟨w.heap.size, 1, none⟩ = some (.int .i64 e1) ∧ W.rangeAt w1.heap.size 0 cs, ⟨a0, a1, a2⟩, fun W e => e, ?_⟩
      clear hK K
      refine plan_eff ?_
      refine seg_nil ?_
      refine eff_step (by rfl) (fun K hK => ?_)
      rw [if_pos (by rfl)]
      refine wp_store_row 31 (.tmp 3) (.tmp 24) (by rfl) (w.heap.size + 2) cs.toArray (by rfl) (by rfl) 31 _ a3 (by simpa using HI.out) ?_ ?_ ?_
      · rw [← hcs]; simp [u8s, pad_length s s.length (Nat.le_refl _) h32]
      · rw [← hcs]; exact u8s_allc _
      have oth : ∀ i, i ≠ w.heap.size + 2 → (WA.setRow (w.heap.size + 2) cs.toArray).heap[i]? = WA.heap[i]? := fun i hi => heap_setRow hi
      have b0 := (World.cell?_of_block (w := WA) (w' := WA.setRow (w.heap.size + 2) cs.toArray) (a := ⟨w.heap.size, 0, none⟩) (oth w.heap.size (by omega))).trans a0
      have b1 := (World.cell?_of_block (w := WA) (w' := WA.setRow (w.heap.size + 2) cs.toArray) (a := ⟨w.heap.size, 1, none⟩) (oth w.heap.size (by omega))).trans a1
      have b2 : (WA.setRow (w.heap.size + 2) cs.toArray).rangeAt w1.heap.size 0 cs := rangeAt_heap (oth _ (by omega)) a2
      have b3 := setRow_at (new := cs.toArray) a3
      have b4 := (oth (w.heap.size + 1) (by omega)).trans a4
      have b5 : Below w.heap.size w (WA.setRow (w.heap.size + 2) cs.toArray) := ⟨a5.os, a5.tape, a5.output, by simpa [World.setRow] using a5.size, fun i hi => (oth i (by omega)).trans (a5.block i hi)⟩
      generalize WA.setRow (w.heap.size + 2) cs.toArray = WB at *
      refine hK _ _ ⟨fun W => W = WB, rfl, fun W e => e ▸ ⟨b0, b1, b2⟩, ?_⟩
      clear hK K
      refine plan_last ?_
      refine seg_nil ?_
      go_wp2_with fail
      refine bodyPost_ret (results_two rfl _ _ ⟨w.heap.size + 1, 0, none⟩ ⟨w.heap.size + 2, 0, none⟩ (.agg #[.string (strB m), .int .i64 e1]) (.agg cs.toArray) rfl rfl (run_loadVar_row _ _ _ _ _ _ _ b4 Try.underlying82 rfl (by kernel_rfl)) (run_loadVar_row _ _ _ _ _ _ _ b3 Try.underlying31 rfl (by simpa using HI.out))) rfl ⟨by rw [hcs], b5⟩
end Go.Proofs.Ytmmibldchfmleaa

/-! Objects: an entry that is read. -/
namespace Go.Proofs.Ytmmibldchfmleaa
open Go.RowKit Codec

theorem results_ca {P : Program} {fn : Func} {p : Tmp} {ty : TypeId} (h : fn.results = #[.cell p ty]) (tmps : Array Value) (w : World) (A : Addr) (v : Value)
    (hp : tmps.getD p undef = .pointer (some A)) (hv : (loadVar ty A).run P w = .ok v w) : (results fn tmps).run P w = .ok v w := by
  have hp' : tmps[p]?.getD undef = .pointer (some A) := by simpa using hp
  simp [results, h, hp', asAddr, hv]
theorem results_ct {P : Program} {fn : Func} {p q : Tmp} {ty : TypeId} (h : fn.results = #[.cell p ty, .tmp q]) (tmps : Array Value) (w : World) (A : Addr) (v u : Value)
    (hp : tmps.getD p undef = .pointer (some A)) (hq : tmps.getD q undef = u) (hv : (loadVar ty A).run P w = .ok v w) : (results fn tmps).run P w = .ok (.tuple #[v, u]) w := by
  have hp' : tmps[p]?.getD undef = .pointer (some A) := by simpa using hp
  have hq' : tmps[q]?.getD undef = u := by simpa using hq
  simp [results, h, hp', hq', asAddr, hv]
/-- A part of a block is stored. -/
theorem run_store_part {w : World} {g : Nat} {t : TypeId} {cs : Array Value} (h : w.heap[g]? = some (.cells cs t (0, 0))) (ty : TypeId) (DS : List Value) (o : Nat) (hsz : o + DS.length ≤ cs.size) (h1 : ∀ u ∈ DS, u.oneCell' = true) (hi : (Try.prog.info? ty).map (·.size) = some DS.length) :
    (Instr.storeAt ty (.pointer (some ⟨g, o, none⟩)) (.agg DS.toArray)).run Try.prog w = .ok () (w.setRow g (cs.toList.take o ++ DS ++ cs.toList.drop (o + DS.length)).toArray) := by
  have hst := run_storeCells_at (P := Try.prog) g o t DS 0 cs w h (by omega) h1
  rw [Nat.add_zero] at hst
  cases hi2 : Try.prog.info? ty with
  | none => simp [hi2] at hi
  | some inf =>
    have hs2 : inf.size = DS.length := by simpa [hi2] using hi
    simp [Instr.storeAt, Instr.sureAddr, Sem.run_bind, storeVar, sizeOf, typeInfo, hi2, hs2, Value.cells, hst, Result.andThen]
theorem wpList_store_part {ops : Array Oper} {rest : List Oper} {op : Oper} {a : Act} {w : World} {Q : Exit → Act → World → Prop} (hgd : op.guard = none) (ty : TypeId) (x y : Operand) (ho : op.op = .store ty x y)
    {g : Nat} {t : TypeId} {cs : Array Value} (h : w.heap[g]? = some (.cells cs t (0, 0))) (DS : List Value) (o : Nat) (hsz : o + DS.length ≤ cs.size) (h1 : ∀ u ∈ DS, u.oneCell' = true) (hi : (Try.prog.info? ty).map (·.size) = some DS.length)
    (NS : Array Value) (hNS : (cs.toList.take o ++ DS ++ cs.toList.drop (o + DS.length)).toArray = NS)
    (hx : a.eval x = .pointer (some ⟨g, o, none⟩)) (hy : a.eval y = .agg DS.toArray)
    (hK : wpList Try.prog ops Q rest (a.put op.dst undef) (w.setRow g NS)) : wpList Try.prog ops Q (op :: rest) a w :=
  wpList_plain hgd fun K hK' => by
    subst hNS
    have hr := run_store_part h ty DS o hsz h1 hi
    unfold Oper.wp execOp
    simp only [ho, hx, hy, Sem.run_bind, hr, Result.andThen_ok, Sem.run_pure]
    exact hK' _ _ hK
theorem enV_set0 (y : En) (s : List UInt8) : (enV y).setIfInBounds 0 (.string (st s)) = enV (s, y.2) := by
  unfold enV
  apply Array.toList_inj.1
  simp
theorem enV_set1 (y : En) (b : Bool) : (enV y).setIfInBounds 1 (.bool b) = enV (y.1, b, y.2.2) := by
  unfold enV
  apply Array.toList_inj.1
  simp
theorem enV_setI (y : En) (i : List UInt8) (h : y.2.2.length = 32) (hi : i.length = 32) : ((enV y).toList.take 2 ++ u8s i ++ (enV y).toList.drop (2 + (u8s i).length)).toArray = enV (y.1, y.2.1, i) := by
  apply Array.toList_inj.1
  rw [enV_list, enV_list, u8s_length, hi]
  simp [u8s_length, h]
section
variable {S : Nat → Prop} {w W W' : World} {p : Nat} {l l' : List UInt8} {e e' : Int} {y : En}
end
end Go.Proofs.Ytmmibldchfmleaa
