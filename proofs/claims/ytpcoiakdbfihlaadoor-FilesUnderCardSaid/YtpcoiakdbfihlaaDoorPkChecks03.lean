/-
  codec.Reader.Id.
  codec.Reader.Id of a reader that is none.
  The document's example at the head of each statement of layer 1: it answers true, and writes nothing that was there.
  A region that draws its order where, at one place, either of two operations may come up first: the plan is a tree.
  The document's answers that the codec's statements use: how a number is put (by calling itself), and a row with its length.
  The reference's Put.
  The law of drawn regions (Grow) where the last two operations stand behind all others: a call, and what keeps its result.
-/
import Derived.Test.YtpcoiakdbfihlaaDoorPk01
import Derived.Test.YtpcoiakdbfihlaaDoorPk02
import Derived.Deep.MidRow
import Derived.Test.YtpcoiakdbfihlaaDoorPk09
import Derived.BigQuiet
import Derived.Lib.SlBytesConst
import Derived.Test.YtpcoiakdbfihlaaDoorPk04
import Derived.Test.YtpcoiakdbfihlaaDoorPkChecks02
import Derived.Test.YtpcoiakdbfihlaaDoorPk07
/-! codec.Reader.Id. -/
namespace Go.Proofs.YtpcoiakdbfihlaaDoor
open Go.RowKit Codec

/-- The cells of the digest that is told. -/
def idL (l : List UInt8) (e : Int) : List UInt8 := if tkE l e 32 = 0 then l.take 32 else List.replicate 32 0
def idC (l : List UInt8) (e : Int) : Array Value := (u8s (idL l e)).toArray
theorem idL_length (l : List UInt8) (e : Int) : (idL l e).length = 32 := by
  unfold idL
  split
  · rename_i h
    obtain ⟨_, _, h1⟩ := tkE_zero h
    rw [List.length_take]
    have : (32 : Int).toNat = 32 := rfl
    omega
  · simp

theorem u8s_allc (l : List UInt8) : (u8s l).toArray.all (·.oneCell') = true := all_oneCell_toArray (u8s_one l)
theorem zeros32 : (u8s (List.replicate 32 0)).toArray = #[.int .u8 0, .int .u8 0, .int .u8 0, .int .u8 0, .int .u8 0, .int .u8 0, .int .u8 0, .int .u8 0, .int .u8 0, .int .u8 0, .int .u8 0, .int .u8 0, .int .u8 0, .int .u8 0, .int .u8 0, .int .u8 0,
    .int .u8 0, .int .u8 0, .int .u8 0, .int .u8 0, .int .u8 0, .int .u8 0, .int .u8 0, .int .u8 0, .int .u8 0, .int .u8 0, .int .u8 0, .int .u8 0, .int .u8 0, .int .u8 0, .int .u8 0, .int .u8 0] := by rfl
theorem gr_setRow {a w : World} {row : Option Nat} (h : a.grownBy w row) {g : Nat} (hg : a.heap.size ≤ g) (cs : Array Value) : a.grownBy (w.setRow g cs) row :=
  ⟨h.os, h.tape, h.output, by simpa [World.setRow] using h.size, fun i hi hne => by
    rw [← h.block i hi hne]
    simp only [World.setRow, Array.getElem?_modify]
    rw [if_neg (by omega)]⟩
theorem gr_of_alloc {w w1 : World} {o : Obj} {row : Option Nat} (h : (w.alloc o).grownBy w1 row) : w.grownBy w1 row := gr_trans (gr_alloc (gr_refl w row) o) h
theorem gr_row (w : World) (g : Nat) (cs : Array Value) : w.grownBy (w.setRow g cs) (some g) :=
  ⟨rfl, rfl, rfl, by simp [World.setRow], fun i hi hne => by
    simp only [World.setRow, Array.getElem?_modify]
    rw [if_neg (fun e => hne (by rw [e]))]⟩

theorem run_storeAt_row {P : Program} (w : World) (g : Nat) (ty : TypeId) (cells : List Value) (old : Array Value) {t : TypeId} (hg : w.heap[g]? = some (.cells old t (0, 0))) (hi : (P.info? ty).map (·.size) = some cells.toArray.size)
    (ho : old.size = cells.toArray.size) (h1 : cells.toArray.all (·.oneCell') = true) :
    (Instr.storeAt ty (.pointer (some ⟨g, 0, none⟩)) (.agg cells.toArray)).run P w = .ok () (w.setRow g cells.toArray) := by
  simp only [Instr.storeAt, Instr.sureAddr, Sem.run_bind, Sem.run_pure, Result.andThen_ok]
  exact run_storeVar_row w g t ty old cells.toArray hg hi ho h1

theorem run_arrayAt {P : Program} (w : World) (t : TypeId) (n : Nat) (e : TypeId) (hu : P.underlying t = some (.array n e)) (A : Option Addr) (len c : Nat) (hn : n ≤ len) :
    (Instr.arrayAt t (.slice A len c)).run P w = .ok (.pointer A) w := by
  simp [Instr.arrayAt, Sem.run_bind, run_underlying hu]
  omega

def Z32 : Array Value := (u8s (List.replicate 32 0)).toArray

/-- An operation 'T{}' of a struct or an array, its value by a closed fact. -/
theorem wpList_build0 {P : Program} {ops : Array Oper} {rest : List Oper} {op : Oper} {a : Act} {w : World} {Q : Exit → Act → World → Prop} (hgd : op.guard = none) (t : TypeId) (ho : op.op = .build t #[]) (v : Value)
    (hb : ∀ w, (Instr.build t #[]).run P w = .ok v w) (h : wpList P ops Q rest (a.put op.dst v) w) : wpList P ops Q (op :: rest) a w :=
  wpList_plain hgd fun _ hK => by
    unfold Oper.wp execOp
    simp only [ho, List.map_toArray, List.map_nil, hb, Sem.run_bind, Sem.run_pure, Result.andThen_ok]
    exact hK _ _ h

end Go.Proofs.YtpcoiakdbfihlaaDoor

/-! codec.Reader.Id of a reader that is none. -/
namespace Go.Proofs.YtpcoiakdbfihlaaDoor
open Go.RowKit Codec

end Go.Proofs.YtpcoiakdbfihlaaDoor

/-! The document's example at the head of each statement of layer 1: it answers true, and writes nothing that was there. -/
namespace Go.Proofs.YtpcoiakdbfihlaaDoor
open Go.RowKit Codec

theorem Wr.drew {w : World} {S : Nat → Prop} {p : Nat} {l : List UInt8} (h : Wr w S p l) : Wr w.drew S p l := h.turned (T := fun _ => False) ((Turned.refl _ w).drew) (fun _ _ _ hf => hf)
theorem Rd.drew {w : World} {S : Nat → Prop} {p : Nat} {l : List UInt8} {e : Int} (h : Rd w S p l e) : Rd w.drew S p l e := h.turned (T := fun _ => False) ((Turned.refl _ w).drew) (fun _ _ _ hf => hf)
theorem Wr.drewN {w : World} {S : Nat → Prop} {p : Nat} {l : List UInt8} (h : Wr w S p l) (k : Nat) : Wr (w.drewN k) S p l := h.turned (T := fun _ => False) ((Turned.refl _ w).drewN k) (fun _ _ _ hf => hf)
theorem Rd.drewN {w : World} {S : Nat → Prop} {p : Nat} {l : List UInt8} {e : Int} (h : Rd w S p l e) (k : Nat) : Rd (w.drewN k) S p l e := h.turned (T := fun _ => False) ((Turned.refl _ w).drewN k) (fun _ _ _ hf => hf)


theorem put300 : put 300 = [172, 2] := by rw [put_big (by omega), put_small (by omega)]; rfl
theorem put2 : put 2 = [2] := by rw [put_small (by omega)]; rfl

end Go.Proofs.YtpcoiakdbfihlaaDoor

/-! A region that draws its order where, at one place, either of two operations may come up first: the plan is a tree. -/
namespace Go.Proofs.YtpcoiakdbfihlaaDoor
open Go.RowKit
inductive Tree where
  | last (q : List Nat)
  | one (q : List Nat) (e : Nat) (t : Tree)
  | two (q : List Nat) (e1 : Nat) (t1 : Tree) (e2 : Nat) (t2 : Tree)
namespace Tree
def size : Tree → Nat
  | last q => q.length
  | one q _ t => q.length + (t.size + 1)
  | two q _ t1 _ _ => q.length + (t1.size + 1)
end Tree
section
variable {P : Program} {ops : Array Oper} {Q : Exit → Act → World → Prop} {md : Region.Mode}
def wpTree (P : Program) (ops : Array Oper) (Q : Exit → Act → World → Prop) : (World → Prop) → Tree → Act → World → Prop
  | C, .last q, a, w => wpSeg P ops C (fun a' => Q .normal a' w) q a
  | C, .one q e t, a, w => wpSeg P ops C (fun a1 => wpOp P ops Q e (fun a2 w2 => ∃ C' : World → Prop, C' w2 ∧ (∀ W, C' W → C W) ∧ wpTree P ops Q C' t a2 w2) a1 w) q a
  | C, .two q e1 t1 e2 t2, a, w => wpSeg P ops C (fun a1 => wpOp P ops Q e1 (fun a2 w2 => ∃ C' : World → Prop, C' w2 ∧ (∀ W, C' W → C W) ∧ wpTree P ops Q C' t1 a2 w2) a1 w ∧
      wpOp P ops Q e2 (fun a2 w2 => ∃ C' : World → Prop, C' w2 ∧ (∀ W, C' W → C W) ∧ wpTree P ops Q C' t2 a2 w2) a1 w) q a
def treeB (md : Region.Mode) (ops : Array Oper) : Array Bool → Tree → Bool
  | listed, .last q => segB md ops listed q && (Region.ready md ops (listedBy listed q)).isEmpty
  | listed, .one q e t => segB md ops listed q && (Region.ready md ops (listedBy listed q) == [e]) && treeB md ops ((listedBy listed q).setIfInBounds e true) t
  | listed, .two q e1 t1 e2 t2 => segB md ops listed q && (Region.ready md ops (listedBy listed q) == [e1, e2]) && (treeB md ops ((listedBy listed q).setIfInBounds e1 true) t1 && (treeB md ops ((listedBy listed q).setIfInBounds e2 true) t2 && (t1.size == t2.size)))

theorem wpAnyH_tree (hs : Region.noSelect ops = true) (hQ : ∀ c a d v w, Q (.panic c) (Act.put a d v) w → Q (.panic c) a w) :
    ∀ (t : Tree) (C : World → Prop) (listed : Array Bool) (a : Act) (w : World), C w → treeB md ops listed t = true → wpTree P ops Q C t a w → wpAnyH P md ops Q C t.size listed a w
  | .last q, C, listed, a, w, hC, hB, h => by
    simp only [treeB, Bool.and_eq_true] at hB
    have := wpAnyH_seg (fuel := 0) hs hQ hC q listed a hB.1 h fun a' h' => wpAnyH_done (by simpa using hB.2) h' 0
    simpa [Tree.size] using this
  | .one q e t, C, listed, a, w, hC, hB, h => by
    simp only [treeB, Bool.and_eq_true, beq_iff_eq] at hB
    obtain ⟨⟨hB1, hB2⟩, hB3⟩ := hB
    have := wpAnyH_seg (fuel := t.size + 1) hs hQ hC q listed a hB1 h fun a' h' => by
      refine wpAnyH_all hB2 (by simp) fun i hi => ?_
      rw [List.mem_singleton.1 hi]
      refine wpOp_mono ?_ h'
      rintro a2 w2 ⟨C', hC', hsub, hp⟩
      exact ⟨hsub _ hC', wpAnyH_mono hsub _ _ _ _ (wpAnyH_tree hs hQ t C' _ a2 w2 hC' hB3 hp)⟩
    simpa [Tree.size, Nat.add_comm, Nat.add_left_comm] using this
  | .two q e1 t1 e2 t2, C, listed, a, w, hC, hB, h => by
    simp only [treeB, Bool.and_eq_true, beq_iff_eq] at hB
    obtain ⟨⟨hB1, hB2⟩, hB3, hB4, hB5⟩ := hB
    have := wpAnyH_seg (fuel := t1.size + 1) hs hQ hC q listed a hB1 h fun a' h' => by
      refine wpAnyH_all hB2 (by simp) fun i hi => ?_
      simp only [List.mem_cons, List.not_mem_nil, or_false] at hi
      rcases hi with rfl | rfl
      · refine wpOp_mono ?_ h'.1
        rintro a2 w2 ⟨C', hC', hsub, hp⟩
        exact ⟨hsub _ hC', wpAnyH_mono hsub _ _ _ _ (wpAnyH_tree hs hQ t1 C' _ a2 w2 hC' hB3 hp)⟩
      · refine wpOp_mono ?_ h'.2
        rintro a2 w2 ⟨C', hC', hsub, hp⟩
        rw [hB5]
        exact ⟨hsub _ hC', wpAnyH_mono hsub _ _ _ _ (wpAnyH_tree hs hQ t2 C' _ a2 w2 hC' hB4 hp)⟩
    simpa [Tree.size, Nat.add_comm, Nat.add_left_comm] using this

/-- THE LAW. -/
theorem wp_region_tree {id : Nat} {a : Act} {w : World} (C : World → Prop) (t : Tree) (hm : P.follows .mixedOrders = true)
    (hB : (Region.noSelect ops && treeB .any ops (Array.replicate ops.size false) t && (t.size == ops.size)) = true)
    (hQ : ∀ c a d v w, Q (.panic c) (Act.put a d v) w → Q (.panic c) a w) (hC : C w.drew) (h : wpTree P ops Q C t a w.drew) : (Code.region id ops true).wp P Q a w := by
  simp only [Bool.and_eq_true, beq_iff_eq] at hB
  obtain ⟨⟨h1, h2⟩, h3⟩ := hB
  have hf := wpAnyH_tree (md := .any) h1 hQ t C _ a _ hC h2 h
  rw [h3] at hf
  exact wp_region_held hm hf
theorem tree_last {C : World → Prop} {q : List Nat} {a : Act} {w : World} (h : wpSeg P ops C (fun a' => Q .normal a' w) q a) : wpTree P ops Q C (.last q) a w := h
theorem tree_one {C : World → Prop} {q : List Nat} {e : Nat} {t : Tree} {a : Act} {w : World}
    (h : wpSeg P ops C (fun a1 => wpOp P ops Q e (fun a2 w2 => ∃ C' : World → Prop, C' w2 ∧ (∀ W, C' W → C W) ∧ wpTree P ops Q C' t a2 w2) a1 w) q a) : wpTree P ops Q C (.one q e t) a w := h
theorem tree_two {C : World → Prop} {q : List Nat} {e1 e2 : Nat} {t1 t2 : Tree} {a : Act} {w : World}
    (h : wpSeg P ops C (fun a1 => wpOp P ops Q e1 (fun a2 w2 => ∃ C' : World → Prop, C' w2 ∧ (∀ W, C' W → C W) ∧ wpTree P ops Q C' t1 a2 w2) a1 w ∧
      wpOp P ops Q e2 (fun a2 w2 => ∃ C' : World → Prop, C' w2 ∧ (∀ W, C' W → C W) ∧ wpTree P ops Q C' t2 a2 w2) a1 w) q a) : wpTree P ops Q C (.two q e1 t1 e2 t2) a w := h
end
end Go.Proofs.YtpcoiakdbfihlaaDoor

/-! The document's answers that the codec's statements use: how a number is put (by calling itself), and a row with its length. -/
namespace Go.Proofs.YtpcoiakdbfihlaaDoor
open Go.RowKit Codec

def strB (l : List UInt8) : ByteArray := ⟨l.toArray⟩
theorem strB_append (l m : List UInt8) : strB l ++ strB m = strB (l ++ m) := by
  apply ByteArray.ext; simp [strB]

/-- One byte in a slice of its own. -/
theorem byt_one (w : World) (v : UInt8) : Byt (w.alloc (.cells #[.int .u8 (v.toNat : Int)] 5)) (w.heap.size ≤ ·) (some ⟨w.heap.size, 0, none⟩) 1 1 [v] :=
  ⟨rfl, Nat.le_refl _, by unfold maxLen; omega, fun _ => ⟨w.heap.size, 0, rfl, Nat.le_refl _, by simp, fun i hi => by
    obtain rfl : i = 0 := by omega
    rw [cell_of_cells (heap_alloc_new w _)]; rfl⟩⟩
/-- 'string([]byte{v})'. -/
theorem str_one (w : World) (v : UInt8) : (convert 27 9 (.slice (some ⟨w.heap.size, 0, none⟩) 1 1)).run Tryd.prog (w.alloc (.cells #[.int .u8 (v.toNat : Int)] 5)) = .ok (.string (strB [v])) (w.alloc (.cells #[.int .u8 (v.toNat : Int)] 5)) :=
  byt_string (byt_one w v)
theorem u8_small {x : Nat} (h : x < 256) : ((UInt8.ofNat x).toNat : Int) = (x : Int) := by simp; omega

theorem wrap_quo (x : Nat) (hx : x < 18446744073709551616) : IntKind.u64.wrap ((x : Int) / 128) = ((x / 128 : Nat) : Int) := by
  have : ((x : Int) / 128) = ((x / 128 : Nat) : Int) := by omega
  rw [this]; unfold IntKind.wrap; simp [IntKind.signed, IntKind.bits]; omega
theorem wrap_byte (x : Nat) : IntKind.u8.wrap (IntKind.u64.wrap ((x : Int).tmod 128 + 128)) = ((UInt8.ofNat (x % 128 + 128)).toNat : Int) := by
  have e : (x : Int).tmod 128 = ((x % 128 : Nat) : Int) := by
    rw [Int.tmod_eq_emod_of_nonneg (by omega)]; omega
  have h2 : x % 128 < 128 := Nat.mod_lt _ (by omega)
  rw [e, u8_small (by omega)]
  have e2 : IntKind.u64.wrap (((x % 128 : Nat) : Int) + 128) = ((x % 128 + 128 : Nat) : Int) := by unfold IntKind.wrap; simp [IntKind.signed, IntKind.bits]; omega
  rw [e2]; unfold IntKind.wrap; simp [IntKind.signed, IntKind.bits]; omega

set_option maxHeartbeats 2000000 in
set_option maxRecDepth 100000 in
theorem ref_put_small (x : Nat) (w : World) (h : x < 128) : Calls Tryd.prog 28 #[.int .u64 x] w fun e w' => e = .returned (.string (strB (put x))) ∧ Below w.heap.size w w' := by
  rw [put_small h]
  have hcv := str_one w (UInt8.ofNat x)
  rw [u8_small (by omega)] at hcv
  go_enter Tryd.func28, Tryd.ntmps28
  go_wp2_with fail
  go_ret
  exact ⟨rfl, (Below.refl _ _).alloc (Nat.le_refl _) _⟩

set_option maxHeartbeats 2000000 in
set_option maxRecDepth 100000 in
theorem ref_put : ∀ (k x : Nat) (w : World), x < 128 ^ k → x < 18446744073709551616 → Calls Tryd.prog 28 #[.int .u64 x] w fun e w' => e = .returned (.string (strB (put x))) ∧ Below w.heap.size w w' := by
  intro k
  induction k with
  | zero =>
    intro x w hx hx2
    have hx : x < 1 := by simpa using hx
    exact ref_put_small x w (by omega)
  | succ k ih =>
    intro x w hx hx2
    by_cases h : x < 128
    · exact ref_put_small x w h
    · rw [put_big (by omega)]
      have hq : x / 128 < 128 ^ k := by
        rw [Nat.pow_succ] at hx; exact Nat.div_lt_of_lt_mul (by omega)
      have hq2 : x / 128 < 18446744073709551616 := by omega
      have WQ := Lib.hid (wrap_quo x hx2)
      have WB := Lib.hid (wrap_byte x)
      have IH := fun w => ih (x / 128) w hq hq2
      clear ih
      obtain ⟨v, hv⟩ : ∃ v, UInt8.ofNat (x % 128 + 128) = v := ⟨_, rfl⟩
      obtain ⟨y, hy⟩ : ∃ y, x / 128 = y := ⟨_, rfl⟩
      have HS := Lib.hid (strB_append [v] (put y))
      rw [hv] at WB ⊢
      rw [hy] at WQ IH ⊢
      have HZ : Hid (¬ 9223372036854775807 < 1 + (strB (put y)).size) := Lib.hid (by
        have := put_length_64 (x := y) (by omega)
        rw [show (strB (put y)).size = (put y).length by simp [strB, ByteArray.size]]; omega)
      clear hv hy hq hq2
      go_enter Tryd.func28, Tryd.ntmps28
      go_wp2_with fail
      refine wp_region_tree (fun W => Below w.heap.size w W) (.two [0, 1, 2, 3, 6, 7] 4 (.one [5] 8 (.last [9, 10])) 8 (.one [] 4 (.last [5, 9, 10]))) (by kernel_rfl) (by kernel_rfl) (fun _ _ d _ _ h => by cases d <;> exact h) ((Below.refl _ _).drew) ?_
      refine tree_two ?_
      refine seg_read ?v1 (by rfl) (by rfl) ?h1 ?_
      case h1 => intro W hW; go_simp; with_reducible rfl
      try simp only [Act.put, List.setIfInBounds_toArray, List.set_cons_zero, List.set_cons_succ]
      refine seg_read ?v2 (by rfl) (by rfl) ?h2 ?_
      case h2 => intro W hW; go_simp; with_reducible rfl
      try simp only [Act.put, List.setIfInBounds_toArray, List.set_cons_zero, List.set_cons_succ]
      refine seg_read ?v3 (by rfl) (by rfl) ?h3 ?_
      case h3 => intro W hW; go_simp; with_reducible rfl
      try simp only [Act.put, List.setIfInBounds_toArray, List.set_cons_zero, List.set_cons_succ]
      refine seg_read ?v4 (by rfl) (by rfl) ?h4 ?_
      case h4 => intro W hW; go_simp; with_reducible rfl
      try simp only [Act.put, List.setIfInBounds_toArray, List.set_cons_zero, List.set_cons_succ]
      refine seg_read ?v5 (by rfl) (by rfl) ?h5 ?_
      case h5 => intro W hW; go_simp; with_reducible rfl
      try simp only [Act.put, List.setIfInBounds_toArray, List.set_cons_zero, List.set_cons_succ]
      refine seg_read ?v6 (by rfl) (by rfl) ?h6 ?_
      case h6 => intro W hW; go_simp; with_reducible rfl
      try simp only [Act.put, List.setIfInBounds_toArray, List.set_cons_zero, List.set_cons_succ]
      rw [WQ.out, WB.out]
      refine seg_nil ⟨?_, ?_⟩
      · refine eff_step (by rfl) (fun K hK => ?_)
        go_simp
        obtain ⟨w1, hw1⟩ : ∃ w1, w1 = (w.alloc (.cells #[.int .u8 (v.toNat : Int)] 5)).drew := ⟨_, rfl⟩
        have hb1 : Below w.heap.size w w1 := by rw [hw1]; exact ((Below.refl _ _).alloc (Nat.le_refl _) _).drew
        have hY : Byt w1 (w.heap.size ≤ ·) (some ⟨w.heap.size, 0, none⟩) 1 1 [v] := by
          rw [hw1]; exact (byt_one w _).below ((Below.refl _ _).drew)
        rw [← hw1]
        clear hw1
        refine hK _ _ ⟨fun W => Below w1.heap.size w1 W, Below.refl _ _, fun W h => hb1.trans (h.mono hb1.size), ?_⟩
        clear hK K
        refine tree_one ?_
        refine seg_read ?v7 (by rfl) (by rfl) ?h7 ?_
        case h7 => intro W hW; have hcv := byt_string (hY.below hW); go_simp; with_reducible rfl
        try simp only [Act.put, List.setIfInBounds_toArray, List.set_cons_zero, List.set_cons_succ]
        refine seg_nil ?_
        refine eff_step (by rfl) (fun K hK => ?_)
        go_simp
        refine (IH _).mono ?_
        rintro _ w2 ⟨rfl, hb2⟩
        refine hK _ _ ⟨fun W => W = w2, rfl, fun W e => e ▸ hb2, ?_⟩
        clear hK K
        refine tree_last ?_
        refine seg_step (by rfl) (fun K hK => ?_)
        go_simp
        refine ⟨_, if_neg HZ.out, ?_⟩
        refine hK _ ?_
        clear hK K
        refine seg_step (by rfl) (fun K hK => ?_)
        go_simp
        refine hK _ ?_
        clear hK K
        refine seg_nil ?_
        go_wp2
        go_ret
        exact ⟨by rw [show (⟨[v].toArray⟩ : ByteArray) = strB [v] from rfl, HS.out]; rfl, hb1.trans (hb2.mono hb1.size)⟩
      · refine eff_step (by rfl) (fun K hK => ?_)
        go_simp
        refine (IH _).mono ?_
        rintro _ w2 ⟨rfl, hb2⟩
        have hb2 : Below w.heap.size w w2 := ((Below.refl _ w).drew).trans hb2
        refine hK _ _ ⟨fun W => Below w2.heap.size w2 W, Below.refl _ _, fun W h => hb2.trans (h.mono hb2.size), ?_⟩
        clear hK K
        refine tree_one ?_
        refine seg_nil ?_
        refine eff_step (by rfl) (fun K hK => ?_)
        go_simp
        obtain ⟨w3, hw3⟩ : ∃ w3, w3 = (w2.alloc (.cells #[.int .u8 (v.toNat : Int)] 5)) := ⟨_, rfl⟩
        have hb3 : Below w2.heap.size w2 w3 := by rw [hw3]; exact ((Below.refl _ _).alloc (Nat.le_refl _) _)
        have hY := byt_string (byt_one w2 v)
        rw [← hw3] at hY ⊢
        clear hw3
        refine hK _ _ ⟨fun W => W = w3, rfl, fun W e => e ▸ hb3, ?_⟩
        clear hK K
        refine tree_last ?_
        refine seg_step (by rfl) (fun K hK => ?_)
        go_simp
        refine hK _ ?_
        clear hK K
        refine seg_step (by rfl) (fun K hK => ?_)
        go_simp
        refine ⟨_, if_neg HZ.out, ?_⟩
        refine hK _ ?_
        clear hK K
        refine seg_step (by rfl) (fun K hK => ?_)
        go_simp
        refine hK _ ?_
        clear hK K
        refine seg_nil ?_
        go_wp2
        go_ret
        exact ⟨by rw [show (⟨[v].toArray⟩ : ByteArray) = strB [v] from rfl, HS.out]; rfl, hb2.trans (hb3.mono hb2.size)⟩

theorem strB_size (l : List UInt8) : (strB l).size = l.length := by simp [strB, ByteArray.size]

set_option maxHeartbeats 2000000 in
set_option maxRecDepth 100000 in
theorem ref_with (l : List UInt8) (w : World) (hl : l.length ≤ 140737488355328) : Calls Tryd.prog 29 #[.string (strB l)] w fun e w' => e = .returned (.string (strB (put l.length ++ l))) ∧ Below w.heap.size w w' := by
  have hp := fun w => ref_put 10 l.length w (by omega) (by omega)
  have HS := Lib.hid (strB_append (put l.length) l)
  have HL := Lib.hid (strB_size l)
  have h10 := put_length_64 (x := l.length) (by omega)
  have hsz : ¬ 9223372036854775807 < (strB (put l.length)).size + (strB l).size := by rw [strB_size, strB_size]; omega
  have HZ := Lib.hid hsz
  clear hsz h10
  go_enter Tryd.func29, Tryd.ntmps29
  go_wp2_with fail
  rw [HL.out, show IntKind.u64.wrap (l.length : Int) = (l.length : Int) by unfold IntKind.wrap; simp [IntKind.signed, IntKind.bits]; omega]
  refine (hp _).mono ?_
  rintro _ w1 ⟨rfl, hb⟩
  have hsz := HZ.out
  go_wp2_with fail
  go_ret
  exact ⟨rfl, hb⟩
end Go.Proofs.YtpcoiakdbfihlaaDoor

/-! The reference's Put. -/
namespace Go.Proofs.YtpcoiakdbfihlaaDoor
open Go.RowKit Codec

theorem strB_st (l : List UInt8) : strB l = st l := rfl
/-- While they are put. -/
def RpR (w : World) (l : Tb) (v i : Value) (wr : World) : Prop :=
  ∃ j : Nat, j ≤ l.length ∧ i = .int .i64 (j : Int) ∧ v = .string (st (put l.length ++ filEs (l.take j))) ∧ Below w.heap.size w wr
set_option maxHeartbeats 8000000 in
set_option maxRecDepth 100000 in
theorem rfput_any {w : World} {S : Nat → Prop} {A : Option Addr} {n c : Nat} {l : Tb} (hl : Fms w S A n c l) (hn : n ≤ 100000000) :
    Calls Tryd.prog 13 #[.slice A n c] w fun e w' => e = .returned (.tuple #[.string (st (fpB l)), .int .i64 (chkE l)]) ∧ Below w.heap.size w w' := by
  have hck := rcheck_any hl hn
  have HL := Lib.hid (And.intro hl hl.len)
  clear hl
  by_cases h0 : chkE l = 0
  · have HO := Lib.hid (And.intro (fi_ok h0) h0)
    have HE : Hid (fpB l = put l.length ++ filEs l) := Lib.hid (by unfold fpB; rw [if_pos h0]; rfl)
    rw [h0] at hck ⊢
    have hcv := IntWalk.u64_in (n : Int) (by omega)
    have hpu := fun W => ref_put 10 n W (by have := HO.out.1.few; have := HL.out.2; have : (128 : Nat) ^ 10 = 1180591620717411303424 := by decide
                                            omega) (by omega)
    clear h0
    go_enter Tryd.func13, Tryd.ntmps13
    go_upto_region 4 with (go_at_call 17; refine hck.mono ?_; clear hck; rintro _ w0 ⟨rfl, hb0⟩)
    have HB0 := Lib.hid hb0
    have hpu0 := hpu w0
    clear hb0 hpu
    go_upto_region 5 with (go_at_call 28; refine hpu0.mono ?_; clear hpu0; rintro _ w1 ⟨rfl, hb1⟩)
    have HB1 := Lib.hid (HB0.out.trans (hb1.mono HB0.out.size))
    obtain ⟨PRE, hPRE⟩ : ∃ PRE, PRE = put n := ⟨_, rfl⟩
    rw [← hPRE]
    have HP : Hid (PRE = put n ∧ PRE.length ≤ 20) := Lib.hid ⟨hPRE, by rw [hPRE]; have h2 := put_length_64 (x := n) (by omega); omega⟩
    have H0 : Hid (RpR w l (.string (st PRE)) (.int .i64 0) w1) := Lib.hid ⟨0, Nat.zero_le _, rfl, by rw [hPRE, HL.out.2]; simp [filEs], HB1.out⟩
    rw [strB_st]
    clear hb1 hPRE hcv
    go_wp2_with fail
    go_loopw [5, 6] (fun v i wr => RpR w l v i wr) (fun _ i _ => n - (intOf i).toNat)
    case atStart => exact H0.out
    case round =>
      obtain ⟨j, hj, rfl, rfl, hb⟩ := hrel
      clear H0
      obtain ⟨T, hT⟩ : ∃ T, T = put l.length ++ filEs (l.take j) := ⟨_, rfl⟩
      rw [← hT]
      have HT : Hid (T = put l.length ++ filEs (l.take j) ∧ T.length ≤ 40000020) := Lib.hid ⟨hT, by
        rw [hT, List.length_append]
        have h1 := HO.out.1.take j
        have h2 := HP.out
        rw [h2.1, ← HL.out.2] at h2
        omega⟩
      have HB := Lib.hid hb
      clear hT hb
      by_cases hlt : j < n
      · have hlt' : (j : Int) < (n : Int) := by omega
        have hadd := IntWalk.i64_in ((j : Int) + 1) (by omega)
        obtain ⟨q, off, x, rfl, _, hqlt, hx, hc0, hc1⟩ := HL.out.1.at_ hlt
        have hxl : x.1.length ≤ 255 ∧ x.2.length ≤ 1048576 := ⟨HO.out.1.path x (List.mem_of_getElem? hx), HO.out.1.one x (List.mem_of_getElem? hx)⟩
        obtain ⟨P1, hP1⟩ : ∃ P1, P1 = put x.1.length ++ x.1 := ⟨_, rfl⟩
        obtain ⟨P2, hP2⟩ : ∃ P2, P2 = put x.2.length ++ x.2 := ⟨_, rfl⟩
        have HLEN : Hid (P1.length ≤ 275 ∧ P2.length ≤ 1048596) := Lib.hid ⟨by rw [hP1, List.length_append]; have := put_length_64 (x := x.1.length) (by omega); omega, by rw [hP2, List.length_append]; have := put_length_64 (x := x.2.length) (by omega); omega⟩
        have HC : Hid (∀ W, Below wr.drew.heap.size wr.drew W → W.cell? ⟨q, off + j * 2, none⟩ = some (.string (st x.1)) ∧ W.cell? ⟨q, off + j * 2 + 1, none⟩ = some (.string (st x.2))) := Lib.hid fun W hW => by
          have h1 := HB.out.trans ((Grow.below_of_drew hW).mono HB.out.size)
          exact ⟨(h1.cell (p := ⟨_, _, none⟩) hqlt).trans hc0, (h1.cell (p := ⟨_, _, none⟩) hqlt).trans hc1⟩
        have HW1 : Hid (∀ W, Calls Tryd.prog 29 #[.string (st x.1)] W fun e w' => e = .returned (.string (st P1)) ∧ Below W.heap.size W w') := Lib.hid fun W => by rw [hP1]; exact ref_with x.1 W (by omega)
        have HW2 : Hid (∀ W, Calls Tryd.prog 29 #[.string (st x.2)] W fun e w' => e = .returned (.string (st P2)) ∧ Below W.heap.size W w') := Lib.hid fun W => by rw [hP2]; exact ref_with x.2 W (by omega)
        have HNX : Hid (T ++ (P1 ++ P2) = put l.length ++ filEs (l.take (j + 1))) := Lib.hid (by
          rw [HT.out.1, hP1, hP2, List.take_add_one, hx]
          simp [filEs, filE])
        clear hqlt hx hc0 hc1 hxl hP1 hP2 hj
        go_upto_region 8 with fail
        refine wp_region_grow (fun W W' => Below W.heap.size W W') (Grow.nth [fun v _ => v = .string (st T), fun v _ => v = .slice (some ⟨q, off, none⟩) n c, fun v _ => v = .int .i64 (j : Int), fun v _ => v = .pointer (some ⟨q, off + j * 2, none⟩), fun v _ => v = .pointer (some ⟨q, off + j * 2, none⟩), fun v _ => v = .string (st x.1), fun v _ => v = .string (st P1), fun v _ => v = .slice (some ⟨q, off, none⟩) n c, fun v _ => v = .int .i64 (j : Int), fun v _ => v = .pointer (some ⟨q, off + j * 2, none⟩), fun v _ => v = .pointer (some ⟨q, off + j * 2 + 1, none⟩), fun v _ => v = .string (st x.2), fun v _ => v = .string (st P2), fun v _ => v = .string (st (P1 ++ P2)), fun v _ => v = .string (st (T ++ (P1 ++ P2))), fun v _ => v = .string (st (T ++ (P1 ++ P2)))]) 38 (by kernel_rfl) (by kernel_rfl) (by rfl) (fun W => Below.refl _ W) (fun _ _ _ h1 h2 => h1.trans (h2.mono h1.size)) (Grow.mono_nth ?gmono) ?gsteps ?gfin
        case gmono => exact ⟨fun _ _ _ h _ => h, fun _ _ _ h _ => h, fun _ _ _ h _ => h, fun _ _ _ h _ => h, fun _ _ _ h _ => h, fun _ _ _ h _ => h, fun _ _ _ h _ => h, fun _ _ _ h _ => h, fun _ _ _ h _ => h, fun _ _ _ h _ => h, fun _ _ _ h _ => h, fun _ _ _ h _ => h, fun _ _ _ h _ => h, fun _ _ _ h _ => h, fun _ _ _ h _ => h, fun _ _ _ h _ => h, trivial⟩
        case gsteps =>
          show Grow.allBelow _ 16
          refine And.intro ?_ ?s15
          refine And.intro ?_ ?s14
          refine And.intro ?_ ?s13
          refine And.intro ?_ ?s12
          refine And.intro ?_ ?s11
          refine And.intro ?_ ?s10
          refine And.intro ?_ ?s9
          refine And.intro ?_ ?s8
          refine And.intro ?_ ?s7
          refine And.intro ?_ ?s6
          refine And.intro ?_ ?s5
          refine And.intro ?_ ?s4
          refine And.intro ?_ ?s3
          refine And.intro ?_ ?s2
          refine And.intro ?_ ?s1
          refine And.intro ?_ ?s0
          exact trivial
          case s0 =>
            refine Grow.step_in (by rfl) (by rfl) ?_
            intro E W ec eg ef hG hd hu R HR
            have e5 : E (.tmp 5) = .string (st T) := hu 5 (by kernel_rfl)
            clear hd hu
            go_simp
            exact HR.out _ _ (Below.refl _ _) rfl
          case s1 =>
            refine Grow.step_in (by rfl) (by rfl) ?_
            intro E W ec eg ef hG hd hu R HR
            have e0 : E (.tmp 0) = .slice (some ⟨q, off, none⟩) n c := hu 0 (by kernel_rfl)
            clear hd hu
            go_simp
            exact HR.out _ _ (Below.refl _ _) rfl
          case s2 =>
            refine Grow.step_in (by rfl) (by rfl) ?_
            intro E W ec eg ef hG hd hu R HR
            have e6 : E (.tmp 6) = .int .i64 (j : Int) := hu 6 (by kernel_rfl)
            clear hd hu
            go_simp
            exact HR.out _ _ (Below.refl _ _) rfl
          case s3 =>
            refine Grow.step_in (by rfl) (by rfl) ?_
            intro E W ec eg ef hG hd hu R HR
            have e23 : E (.tmp 23) = .slice (some ⟨q, off, none⟩) n c := hd 1 23 (by kernel_rfl)
            have e24 : E (.tmp 24) = .int .i64 (j : Int) := hd 2 24 (by kernel_rfl)
            clear hd hu
            have hjl := hlt'
            go_simp
            first | exact HR.out _ _ (Below.refl _ _) rfl | (rw [if_pos ⟨by omega, by omega⟩]; exact HR.out _ _ (Below.refl _ _) rfl)
          case s4 =>
            refine Grow.step_in (by rfl) (by rfl) ?_
            intro E W ec eg ef hG hd hu R HR
            have e25 : E (.tmp 25) = .pointer (some ⟨q, off + j * 2, none⟩) := hd 3 25 (by kernel_rfl)
            clear hd hu
            go_simp
            exact HR.out _ _ (Below.refl _ _) rfl
          case s5 =>
            refine Grow.step_in (by rfl) (by rfl) ?_
            intro E W ec eg ef hG hd hu R HR
            have e26 : E (.tmp 26) = .pointer (some ⟨q, off + j * 2, none⟩) := hd 4 26 (by kernel_rfl)
            clear hd hu
            obtain ⟨k1, _⟩ := HC.out W hG
            go_simp
            exact HR.out _ _ (Below.refl _ _) rfl
          case s6 =>
            refine Grow.step_in (by rfl) (by rfl) ?_
            intro E W ec eg ef hG hd hu R HR
            have e27 : E (.tmp 27) = .string (st x.1) := hd 5 27 (by kernel_rfl)
            clear hd hu
            have hcc := HW1.out W
            go_simp
            refine hcc.mono ?_
            rintro _ _ ⟨rfl, hbb⟩
            exact ⟨_, rfl, HR.out _ _ hbb rfl⟩
          case s7 =>
            refine Grow.step_in (by rfl) (by rfl) ?_
            intro E W ec eg ef hG hd hu R HR
            have e0 : E (.tmp 0) = .slice (some ⟨q, off, none⟩) n c := hu 0 (by kernel_rfl)
            clear hd hu
            go_simp
            exact HR.out _ _ (Below.refl _ _) rfl
          case s8 =>
            refine Grow.step_in (by rfl) (by rfl) ?_
            intro E W ec eg ef hG hd hu R HR
            have e6 : E (.tmp 6) = .int .i64 (j : Int) := hu 6 (by kernel_rfl)
            clear hd hu
            go_simp
            exact HR.out _ _ (Below.refl _ _) rfl
          case s9 =>
            refine Grow.step_in (by rfl) (by rfl) ?_
            intro E W ec eg ef hG hd hu R HR
            have e29 : E (.tmp 29) = .slice (some ⟨q, off, none⟩) n c := hd 7 29 (by kernel_rfl)
            have e30 : E (.tmp 30) = .int .i64 (j : Int) := hd 8 30 (by kernel_rfl)
            clear hd hu
            have hjl := hlt'
            go_simp
            first | exact HR.out _ _ (Below.refl _ _) rfl | (rw [if_pos ⟨by omega, by omega⟩]; exact HR.out _ _ (Below.refl _ _) rfl)
          case s10 =>
            refine Grow.step_in (by rfl) (by rfl) ?_
            intro E W ec eg ef hG hd hu R HR
            have e31 : E (.tmp 31) = .pointer (some ⟨q, off + j * 2, none⟩) := hd 9 31 (by kernel_rfl)
            clear hd hu
            go_simp
            exact HR.out _ _ (Below.refl _ _) rfl
          case s11 =>
            refine Grow.step_in (by rfl) (by rfl) ?_
            intro E W ec eg ef hG hd hu R HR
            have e32 : E (.tmp 32) = .pointer (some ⟨q, off + j * 2 + 1, none⟩) := hd 10 32 (by kernel_rfl)
            clear hd hu
            obtain ⟨_, k1⟩ := HC.out W hG
            go_simp
            exact HR.out _ _ (Below.refl _ _) rfl
          case s12 =>
            refine Grow.step_in (by rfl) (by rfl) ?_
            intro E W ec eg ef hG hd hu R HR
            have e33 : E (.tmp 33) = .string (st x.2) := hd 11 33 (by kernel_rfl)
            clear hd hu
            have hcc := HW2.out W
            go_simp
            refine hcc.mono ?_
            rintro _ _ ⟨rfl, hbb⟩
            exact ⟨_, rfl, HR.out _ _ hbb rfl⟩
          case s13 =>
            refine Grow.step_in (by rfl) (by rfl) ?_
            intro E W ec eg ef hG hd hu R HR
            have e28 : E (.tmp 28) = .string (st P1) := hd 6 28 (by kernel_rfl)
            have e34 : E (.tmp 34) = .string (st P2) := hd 12 34 (by kernel_rfl)
            clear hd hu
            have s1 := st_size P1
            have s2 := st_size P2
            have s3 := st_size T
            have l1 := HLEN.out.1
            have l2 := HLEN.out.2
            have l3 := HT.out.2
            have s4 := st_size (P1 ++ P2)
            rw [List.length_append] at s4
            have n1 : ¬ ((((st P1).size + (st P2).size : Nat)) : Int) > 9223372036854775807 := by omega
            have n2 : ¬ ((((st T).size + (st (P1 ++ P2)).size : Nat)) : Int) > 9223372036854775807 := by omega
            go_simp
            rw [if_neg (by omega), st_app]
            exact HR.out _ _ (Below.refl _ _) rfl
          case s14 =>
            refine Grow.step_in (by rfl) (by rfl) ?_
            intro E W ec eg ef hG hd hu R HR
            have e22 : E (.tmp 22) = .string (st T) := hd 0 22 (by kernel_rfl)
            have e35 : E (.tmp 35) = .string (st (P1 ++ P2)) := hd 13 35 (by kernel_rfl)
            clear hd hu
            have s1 := st_size P1
            have s2 := st_size P2
            have s3 := st_size T
            have l1 := HLEN.out.1
            have l2 := HLEN.out.2
            have l3 := HT.out.2
            have s4 := st_size (P1 ++ P2)
            rw [List.length_append] at s4
            have n1 : ¬ ((((st P1).size + (st P2).size : Nat)) : Int) > 9223372036854775807 := by omega
            have n2 : ¬ ((((st T).size + (st (P1 ++ P2)).size : Nat)) : Int) > 9223372036854775807 := by omega
            go_simp
            rw [if_neg (by omega), st_app]
            exact HR.out _ _ (Below.refl _ _) rfl
          case s15 =>
            refine Grow.step_in (by rfl) (by rfl) ?_
            intro E W ec eg ef hG hd hu R HR
            have e36 : E (.tmp 36) = .string (st (T ++ (P1 ++ P2))) := hd 14 36 (by kernel_rfl)
            clear hd hu
            go_simp
            exact HR.out _ _ (Below.refl _ _) rfl
        case gfin =>
          intro W hG
          refine Grow.fin_dst (by rfl) ?_
          rintro _ rfl
          refine Grow.fin_dst (by rfl) ?_
          rintro _ rfl
          refine Grow.fin_dst (by rfl) ?_
          rintro _ rfl
          refine Grow.fin_dst (by rfl) ?_
          rintro _ rfl
          refine Grow.fin_dst (by rfl) ?_
          rintro _ rfl
          refine Grow.fin_dst (by rfl) ?_
          rintro _ rfl
          refine Grow.fin_dst (by rfl) ?_
          rintro _ rfl
          refine Grow.fin_dst (by rfl) ?_
          rintro _ rfl
          refine Grow.fin_dst (by rfl) ?_
          rintro _ rfl
          refine Grow.fin_dst (by rfl) ?_
          rintro _ rfl
          refine Grow.fin_dst (by rfl) ?_
          rintro _ rfl
          refine Grow.fin_dst (by rfl) ?_
          rintro _ rfl
          refine Grow.fin_dst (by rfl) ?_
          rintro _ rfl
          refine Grow.fin_dst (by rfl) ?_
          rintro _ rfl
          refine Grow.fin_dst (by rfl) ?_
          rintro _ rfl
          refine Grow.fin_dst (by rfl) ?_
          rintro _ rfl
          simp only [Act.put, List.setIfInBounds_toArray, List.set_cons_zero, List.set_cons_succ]
          refine Grow.fin_end ?_
          have HB2 : Hid (Below w.heap.size w W) := Lib.hid (HB.out.trans ((Grow.below_of_drew hG).mono HB.out.size))
          clear hG
          go_wp2_with fail
          go_roundw
          case rel => exact ⟨j + 1, by have := HL.out.2; omega, by simp, by rw [HNX.out], HB2.out⟩
          case measure => simp only [intOf]; omega
      · have hlt' : ¬ (j : Int) < (n : Int) := by omega
        have hfull : l.take j = l := List.take_of_length_le (by have := HL.out.2; omega)
        have HF : Hid (T = fpB l) := Lib.hid (by rw [HT.out.1, HE.out, hfull])
        clear hlt hfull hj
        go_wp2_with fail
        go_ret2
        exact ⟨by rw [HF.out]; rfl, HB.out⟩
  · have hne : (chkE l != 0) = true := by simpa using h0
    have HE : Hid (fpB l = []) := Lib.hid (by unfold fpB; rw [if_neg h0])
    obtain ⟨E, hE⟩ : ∃ E, E = chkE l := ⟨_, rfl⟩
    rw [← hE] at hck hne ⊢
    clear h0 hE
    go_enter Tryd.func13, Tryd.ntmps13
    go_wp2_with (go_at_call 17; refine hck.mono ?_; clear hck; rintro _ w0 ⟨rfl, hb0⟩)
    go_ret2
    exact ⟨by rw [HE.out]; rfl, hb0⟩
end Go.Proofs.YtpcoiakdbfihlaaDoor

/-! The law of drawn regions (Grow) where the last two operations stand behind all others: a call, and what keeps its result. -/
namespace Go.Proofs.YtpcoiakdbfihlaaDoor
open Go.RowKit
namespace Grow
/-- Each but the last two is waited for by a later one that is not the last; the last one waits for that ahead of it. -/
def pairB (ops : Array Oper) : Bool := ((List.range (ops.size - 2)).all fun j => (List.range (ops.size - 1)).any fun k => decide (j < k) && waitsB ops k j) && waitsB ops (ops.size - 1) (ops.size - 2)
theorem pairB_spec {ops : Array Oper} (h : pairB ops = true) : (∀ j, j < ops.size - 2 → ∃ k, j < k ∧ k < ops.size - 1 ∧ waitsB ops k j = true) ∧ waitsB ops (ops.size - 1) (ops.size - 2) = true := by
  unfold pairB at h
  rw [Bool.and_eq_true] at h
  refine ⟨fun j hj => ?_, h.2⟩
  obtain ⟨k, hk, hkb⟩ := List.any_eq_true.1 (List.all_eq_true.1 h.1 j (List.mem_range.2 hj))
  simp only [Bool.and_eq_true, decide_eq_true_eq] at hkb
  exact ⟨k, hkb.1, List.mem_range.1 hk, hkb.2⟩
theorem waitsB_spec {ops : Array Oper} {k j : Nat} {o : Oper} (h : waitsB ops k j = true) (ho : ops[k]? = some o) : ∃ e ∈ o.after, Region.binds .any e = true ∧ e.on = j := by
  unfold waitsB at h
  rw [ho] at h
  obtain ⟨e, he, hb⟩ := Array.any_eq_true'.1 h
  simp only [Bool.and_eq_true, beq_iff_eq] at hb
  exact ⟨e, he, hb.1, hb.2⟩
section
variable {P : Program} {ops : Array Oper} {Q : Exit → Act → World → Prop} {G : World → World → Prop} {Φ : Nat → Value → World → Prop} {a0 : Act} {w0 : World} {F : Fence} {nr : Nat}
theorem any_of_invP (hF : Open F nr P) {n : Nat} (hnd : noDefer ops = true) (hB : growB ops n = true) (hL : pairB ops = true) (hn : a0.tmps.size = n) (htr : ∀ A B C, G A B → G B C → G A C) (hmono : ∀ j v W W', Φ j v W → G W W' → Φ j v W') (hrefl : ∀ W, G W W)
    {front : List Oper} {oy oz : Oper} (hsp : ops.toList = front ++ [oy, oz]) (hgy : oy.guard = none) (hgz : oz.guard = none)
    (hs : ∀ i, i < front.length → GStep P ops G Φ a0 w0 i) (hfin : ∀ W, G w0 W → fin Φ (fun _ a w => oy.wpIn F nr P a w (fun a' w' => oz.wpIn F nr P a' w' (fun a'' w'' => Q .normal a'' w'') Q) Q) W front 0 a0) :
    ∀ (fuel : Nat) (listed : Array Bool) (a : Act) (w : World), Inv ops G Φ a0 w0 listed a w → listed.getD front.length true = false → listed.toList.count false ≤ fuel → wpAnyIn F nr P .any ops Q fuel listed a w := by
  have hsz : ops.size = front.length + 2 := by
    rw [← Array.length_toList, hsp]
    simp
  have hoy : ops[front.length]? = some oy := by
    rw [← Array.getElem?_toList, hsp]
    simp
  have hoz : ops[front.length + 1]? = some oz := by
    rw [← Array.getElem?_toList, hsp, List.getElem?_append_right (by omega)]
    simp
  obtain ⟨hL1, hL2⟩ := pairB_spec hL
  have e1 : ops.size - 1 = front.length + 1 := by omega
  have e2 : ops.size - 2 = front.length := by omega
  rw [e1, e2] at hL2
  rw [e1, e2] at hL1
  intro fuel
  induction fuel with
  | zero =>
    intro listed a w hI hz hc
    have := count_set hz
    omega
  | succ fuel ih =>
    intro listed a w hI hz hc
    refine ⟨fun hr => ?_, fun i hi => ?_⟩
    · have hall := all_of_ready hB hI.lsize hr front.length (by omega)
      obtain ⟨h1, _⟩ := getD_both' hz
      rw [hall] at h1
      cases h1
    obtain ⟨h1, o, ho, hall⟩ := mem_ready.1 hi
    have hz1 := (getD_both' hz).1
    have hlast : listed.getD (front.length + 1) false = false := by
      cases hq : listed.getD (front.length + 1) false with
      | false => rfl
      | true =>
        obtain ⟨e, he, hb, hon⟩ := waitsB_spec hL2 hoz
        have := hI.closed _ oz hoz hq e he hb
        rw [hon, hz1] at this
        cases this
    by_cases hiz : i = front.length
    · subst hiz
      have hlt : ∀ d j, j < front.length → front.length - j ≤ d → listed.getD j false = true := by
        intro d
        induction d with
        | zero => intro j hj hd; omega
        | succ d ihd =>
          intro j hj hd
          obtain ⟨k, hjk, hk, hw⟩ := hL1 j hj
          by_cases hkz : k = front.length
          · subst hkz
            obtain ⟨e, he, hb, hon⟩ := waitsB_spec hw hoy
            obtain rfl : o = oy := by rw [ho] at hoy; exact Option.some.inj hoy
            exact hon ▸ hall e he hb
          · have hkl := ihd k (by omega) (by omega)
            cases hok : ops[k]? with
            | none => unfold waitsB at hw; rw [hok] at hw; cases hw
            | some ok =>
              obtain ⟨e, he, hb, hon⟩ := waitsB_spec hw hok
              exact hon ▸ hI.closed k ok hok hkl e he hb
      have hq := front_done (Q := fun _ a w => oy.wpIn F nr P a w (fun a' w' => oz.wpIn F nr P a' w' (fun a'' w'' => Q .normal a'' w'') Q) Q) (m := front.length) hB hn hI hsp rfl (fun j hj => hlt _ j hj (Nat.le_refl _)) (fun j hj => by
        rcases Nat.lt_or_ge j ops.size with h | h
        · by_cases hj2 : j = front.length
          · subst hj2; exact hz1
          · obtain rfl : j = front.length + 1 := by omega
            exact hlast
        · rw [Array.getD_eq_getD_getElem?, Array.getElem?_eq_none (by rw [hI.lsize]; exact h)]
          rfl) (hfin w hI.grow)
      have hop : wpOpIn F nr P ops Q front.length (fun a' w' => oz.wpIn F nr P a' w' (fun a'' w'' => Q .normal a'' w'') Q) a w := by
        unfold wpOpIn
        rw [hoy]
        show if Region.wanted oy (yielded ops a.tmps) = true then _ else _
        rw [if_pos (by unfold Region.wanted; rw [hgy])]
        exact hq
      refine wpOpIn_mono ?_ hop
      intro a' w' hQ
      have hsz2 : (listed.setIfInBounds front.length true).size = ops.size := by simpa using hI.lsize
      have hz2 : (listed.setIfInBounds front.length true).getD (front.length + 1) false = false := by rw [getD_set_ne' (by omega)]; exact hlast
      cases fuel with
      | zero =>
        have h2 := count_set h1
        have h3 : (listed.setIfInBounds front.length true).getD (front.length + 1) true = false := by
          rw [Array.getD_eq_getD_getElem?, Array.getElem?_eq_getElem (by rw [hsz2]; omega)] at hz2 ⊢
          exact hz2
        have := count_set h3
        omega
      | succ fuel =>
        refine ⟨fun hr => ?_, fun k hk => ?_⟩
        · have := all_of_ready hB hsz2 hr (front.length + 1) (by omega)
          rw [hz2] at this
          cases this
        · obtain ⟨hun, ok, hok, _⟩ := mem_ready.1 hk
          obtain ⟨hun, hkl⟩ := getD_both' hun
          have hks := (Array.getElem?_eq_some_iff.1 hok).1
          have hkz : k = front.length + 1 := by
            by_cases hkf : k = front.length
            · subst hkf
              rw [getD_set_same (by rw [hI.lsize]; omega)] at hun
              cases hun
            · by_cases hkl : k < front.length
              · rw [getD_set_ne' (fun e => hkf e.symm), hlt _ k hkl (Nat.le_refl _)] at hun
                cases hun
              · omega
          subst hkz
          have hop2 : wpOpIn F nr P ops Q (front.length + 1) (fun a' w' => Q .normal a' w') a' w' := by
            unfold wpOpIn
            rw [hoz]
            show if Region.wanted oz (yielded ops a'.tmps) = true then _ else _
            rw [if_pos (by unfold Region.wanted; rw [hgz])]
            exact hQ
          refine wpOpIn_mono ?_ hop2
          intro a'' w'' hQ2
          have hr : Region.ready .any ops ((listed.setIfInBounds front.length true).setIfInBounds (front.length + 1) true) = [] := by
            rw [List.eq_nil_iff_forall_not_mem]
            intro k hk
            obtain ⟨hun, ok, hok, _⟩ := mem_ready.1 hk
            obtain ⟨hun, hkl⟩ := getD_both' hun
            have hks := (Array.getElem?_eq_some_iff.1 hok).1
            by_cases hkz : k = front.length + 1
            · subst hkz
              rw [getD_set_same (by rw [hsz2]; omega)] at hun
              cases hun
            · rw [getD_set_ne' (fun e => hkz e.symm)] at hun
              by_cases hkf : k = front.length
              · subst hkf
                rw [getD_set_same (by rw [hI.lsize]; omega)] at hun
                cases hun
              · rw [getD_set_ne' (fun e => hkf e.symm), hlt _ k (by omega) (Nat.le_refl _)] at hun
                cases hun
          cases fuel with
          | zero => exact ⟨hr, hQ2⟩
          | succ fuel => exact ⟨fun _ => hQ2, fun k hk => by rw [hr] at hk; cases hk⟩
    · have hlt : i < front.length := by
        have h5 := (Array.getElem?_eq_some_iff.1 ho).1
        by_cases h6 : i = front.length + 1
        · subst h6
          obtain ⟨e, he, hb, hon⟩ := waitsB_spec hL2 ho
          have := hall e he hb
          rw [hon, hz1] at this
          cases this
        · omega
      refine wpOpIn_mono ?_ (step_invF hF hnd hB hn htr hmono hrefl hI hi (hs i hlt))
      intro a' w' hI'
      refine ih _ a' w' hI' ?_ (by have := count_set h1; omega)
      rw [Array.getD_eq_getD_getElem?, Array.getElem?_setIfInBounds_ne hiz, ← Array.getD_eq_getD_getElem?]
      exact hz
end
end Grow
section
variable {P : Program} {ops : Array Oper} {Q : Exit → Act → World → Prop} {F : Fence} {nr id : Nat} {a : Act} {w : World}
/-- THE LAW, where the last two are walked by themselves. -/
theorem wpIn_region_growP (hF : Grow.Open F nr P) (G : World → World → Prop) (Φ : Nat → Value → World → Prop) (n : Nat) (hm : P.follows .mixedOrders = true) (hnd : Grow.noDefer ops = true)
    (hB : Grow.growB ops n = true) (hL : Grow.pairB ops = true) (hn : a.tmps.size = n) (hrefl : ∀ W, G W W) (htr : ∀ A B C, G A B → G B C → G A C) (hmono : ∀ j v W W', Φ j v W → G W W' → Φ j v W')
    (k : Nat) {oy oz : Oper} (hsz : ops.size = k + 2) (hoy : ops.toList[k]? = some oy) (hoz : ops.toList[k + 1]? = some oz) (hgy : oy.guard = none) (hgz : oz.guard = none)
    (hs : Grow.allBelow (Grow.GStep P ops G Φ a w.drew) k) (hfin : ∀ W, G w.drew W → Grow.fin Φ (fun _ a w => oy.wpIn F nr P a w (fun a' w' => oz.wpIn F nr P a' w' (fun a'' w'' => Q .normal a'' w'') Q) Q) W (ops.toList.take k) 0 a) : (Code.region id ops true).wpIn F nr P Q a w := by
  obtain ⟨hk, he⟩ := List.getElem?_eq_some_iff.1 hoy
  obtain ⟨hk2, he2⟩ := List.getElem?_eq_some_iff.1 hoz
  have hsp : ops.toList = ops.toList.take k ++ [oy, oz] := by
    apply List.ext_getElem?
    intro i
    have hl : (ops.toList.take k).length = k := by rw [List.length_take, Array.length_toList]; omega
    by_cases h1 : i < k
    · rw [List.getElem?_append_left (by omega), List.getElem?_take_of_lt h1]
    · rw [List.getElem?_append_right (by omega), hl]
      by_cases h2 : i = k
      · subst h2; rw [hoy]; simp
      · by_cases h3 : i = k + 1
        · subst h3; rw [hoz]; simp
        · rw [List.getElem?_eq_none (by rw [Array.length_toList]; omega), List.getElem?_eq_none (by simp; omega)]
  have hfl : (ops.toList.take k).length = k := by rw [List.length_take, Array.length_toList]; omega
  rw [← hfl] at hs
  exact wpIn_region_any hm (Grow.any_of_invP hF hnd hB hL hn htr hmono hrefl hsp hgy hgz (Grow.allBelow_at hs) hfin ops.size _ a _ (inv_start (hrefl _)) (by rw [hfl]; simp [hsz]) (by simp))
end
/-- The append that ends a drawn region. -/
theorem operIn_app {F : Fence} {n : Nat} {P : Program} {o : Oper} {a : Act} {K : Act → World → Prop} {Q : Exit → Act → World → Prop} {w w' : World} (s x : Operand) (t : TypeId)
    (hop : o.op = .call { callee := .builtin .append, args := #[s, x], argTypes := #[t, t] }) {v u v' : Value} (hs : a.eval s = v) (hx : a.eval x = u)
    (hrun : (Builtin.append_ #[t, t] o.type #[v, u]).run P w = .ok v' w') (h : K (a.put o.dst v') w') : o.wpIn F n P a w K Q := by
  unfold Oper.wpIn
  refine ⟨?_, ?_⟩
  · simp [Oper.about, hop, resolve, Target.leads, Sem.run_pure]
  · rw [Oper.semAt_plain F _ _ (by rw [hop]; intro c hc; cases hc)]
    unfold execOp
    simp only [hop, resolve, invoke, builtin, Sem.run_bind, Sem.run_pure, Result.andThen_ok, List.map_toArray, List.map_cons, List.map_nil, hs, hx, hrun]
    exact h
end Go.Proofs.YtpcoiakdbfihlaaDoor
