/-
  Cells: the names of a map, in order.
-/
import Derived.Test.YtmioifcbkhpdaaaGreatPkPl03
import Derived.Test.YtmioifcbkhpdaaaGreatPkPl01
import Derived.Test.YtmioifcbkhpdaaaGreatPkPl02
import Derived.Deep.MidRow
import Derived.BigQuiet
import Derived.Lib.SlBytesConst
import Derived.Shelf.SlIter.Nil
import Derived.Shelf.SortM.Plain
import Derived.Shelf.SortM.SortNone
import Derived.Shelf.SlMaps.Clone
import Derived.Ground.GgzProg
import Derived.Ground.SlgmProg
import Derived.Ground.SlmcProg
import Derived.Test.YtmioifcbkhpdaaaGreatProg
import Derived.Deep.AppendLies
namespace Go.Proofs.YtmioifcbkhpdaaaGreat
set_option maxHeartbeats 16000000
set_option maxRecDepth 100000
open Go.RowKit Codec
theorem Put.join {w w1 w2 : World} {S : Nat → Prop} {p : Nat} {l m : List UInt8} {e1 e2 : Ending} (h1 : Put w S p l e1 w1) (h2 : Put w1 (fun b => S b ∨ w.heap.size ≤ b) p m e2 w2) : Put w S p m (.returned (.tuple #[])) w2 :=
 ⟨rfl, h2.2.1.mono fun _ _ hs => by
   rcases hs with hs | hs
   ·exact hs
   ·exact .inr (Nat.le_trans h1.2.2.size hs),
  h1.2.2.trans h2.2.2 fun i hi hs => by
   rcases hs with hs | hs
   ·exact hs
   ·omega⟩
theorem Put.from {w w' : World} {B p : Nat} {l : List UInt8} {e : Ending} (h : Put w (B ≤ ·) p l e w') (hB : B ≤ w.heap.size) : Wr w' (B ≤ ·) p l ∧ Below B w w' :=
 ⟨h.2.1.mono fun _ _ hs => by rcases hs with hs | hs <;> omega, h.2.2.below hB⟩
theorem wbytes {w : World} {S T : Nat → Prop} {p : Nat} {l m : List UInt8} {A : Option Addr} {n c : Nat} (h : Wr w S p l) (hm : Byt w T A n c m) (hd : ∀ b, b < w.heap.size → T b → ¬ S b) (hb : l.length + 10 + n ≤ 140737488355328) :
    Calls Tryz.prog 87 #[.pointer (some ⟨p, 0, none⟩), .slice A n c] w (Put w S p (l ++ (put m.length ++ m))) := by
 have hn : n < 18446744073709551616 := by omega
 have hml := hm.len;have hput := zX (x := n) (by omega);have hu := wuint (x := n) h hn (by omega);have HB := Lib.hid hb;have HM := Lib.hid hml;clear hml
 go_enter Tryz.func87, Tryz.ntmps87
 go_wp2_with fail
 refine hu.mono ?_;rintro _ w1 ⟨rfl, h1⟩
 go_wp2_with fail
 refine (wfixed h1.1 (hm.turned h1.2 hd) (by have := HB.out; simp; omega)).mono ?_;rintro _ w2 ⟨rfl, h2⟩
 go_wp2
 go_end0
 have h3 := Put.join (e1 := .returned (.tuple #[])) (e2 := .returned (.tuple #[])) ⟨rfl, h1⟩ ⟨rfl, h2⟩;rw [HM.out];rw [List.append_assoc] at h3;exact h3
theorem wbool {w : World} {S : Nat → Prop} {p : Nat} {l : List UInt8} (h : Wr w S p l) (x : Bool) (hb : l.length + 1 ≤ 140737488355328) :
    Calls Tryz.prog 88 #[.pointer (some ⟨p, 0, none⟩), .bool x] w (Put w S p (l ++ [if x then 1 else 0])) := by
 have one : ∀ v : UInt8, Byt (w.alloc (.cells #[.int .u8 (v.toNat : Int)] 5)) (w.heap.size ≤ ·) (some ⟨w.heap.size, 0, none⟩) 1 1 [v] := fun v =>
  ⟨rfl, Nat.le_refl _, by unfold maxLen; omega, fun _ => ⟨w.heap.size, 0, rfl, Nat.le_refl _, by simp, fun i hi => by
    (obtain rfl : i = 0 := by omega);rw [zA (heap_alloc_new w _)]; rfl⟩⟩
 have hT : ∀ o, Turned S w (w.alloc o) := fun o => (Turned.refl S w).alloc o
 have hW : ∀ o, Wr (w.alloc o) S p l := fun o => h.turned (T := fun _ => False) ((Turned.refl _ w).alloc o) (fun _ _ _ hf => hf)
 have fin : ∀ (o : Obj) (m : List UInt8) (e : Ending) (w2 : World), Put (w.alloc o) S p m e w2 → Put w S p m e w2 := fun o m e w2 h2 =>
  ⟨h2.1, h2.2.1.mono fun b _ hs => by
    rcases hs with hs | hs
    ·exact .inl hs
    ·simp at hs; exact .inr (by omega), (hT o).trans h2.2.2 fun _ _ hs => hs⟩
 cases x
 ·have h0 := one 0;simp only [show ((0 : UInt8).toNat : Int) = 0 from rfl] at h0
  go_enter Tryz.func88, Tryz.ntmps88
  go_wp2_with fail
  refine (wfixed (hW _) h0 hb).mono ?_;rintro _ w2 ⟨rfl, h2⟩
  go_wp2
  go_end0
  exact fin _ _ _ _ ⟨rfl, h2⟩
 ·have h0 := one 1;simp only [show ((1 : UInt8).toNat : Int) = 1 from rfl] at h0
  go_enter Tryz.func88, Tryz.ntmps88
  go_wp2_with fail
  refine (wfixed (hW _) h0 hb).mono ?_;rintro _ w2 ⟨rfl, h2⟩
  go_wp2
  refine bodyPost_ret (results_none rfl _ _ _) rfl ?_;exact fin _ _ _ _ ⟨rfl, h2⟩
theorem wr_byt {w : World} {S : Nat → Prop} {p : Nat} {l : List UInt8} (h : Wr w S p l) : ∃ A c, w.cell? ⟨p, 0, none⟩ = some (.slice A l.length c) ∧ Byt w (fun _ => True) A l.length c l := by
 obtain ⟨_, A, c, hh, ho, _⟩ := h;obtain ⟨A', c', hv, hb⟩ := own_byt ho;injection hv with h1 _ h2
 subst h1 h2;exact ⟨A, c, by rw [zA hh 0]; rfl, hb.mono fun _ _ _ => trivial⟩
theorem wout {w : World} {S : Nat → Prop} {p : Nat} {l : List UInt8} (h : Wr w S p l) (hb : l.length ≤ 140737488355328) :
    Calls Tryz.prog 89 #[.pointer (some ⟨p, 0, none⟩)] w fun r w' => ∃ A c, r = .returned (.slice A l.length c) ∧ Byt w' (w.heap.size ≤ ·) A l.length c l ∧ Below w.heap.size w w' ∧ xO w' A := by
 obtain ⟨A0, c0, h0, hY⟩ := wr_byt h
 go_enter Tryz.func89, Tryz.ntmps89
 go_wp2_with fail
 refine (clone_byt hY hb).mono ?_;rintro _ w1 ⟨A, c, rfl, hY1, hb1, _, hF1⟩
 go_wp2
 go_ret
 exact ⟨A, c, rfl, hY1, hb1, hF1⟩
theorem newWriter (w : World) :
    Calls Tryz.prog 85 #[] w fun r w' => ∃ p, r = .returned (.pointer (some ⟨p, 0, none⟩)) ∧ Wr w' (w.heap.size ≤ ·) p [] ∧ Below w.heap.size w w' := by
 go_enter Tryz.func85, Tryz.ntmps85
 go_wp2
 go_ret
 exact ⟨w.heap.size, rfl, ⟨Nat.le_refl _, none, 0, heap_alloc_new w _, World.ownsRow_nil _ _ _ _, fun a h => by cases h⟩, (Below.refl _ _).alloc (Nat.le_refl _) _⟩
/-! None -/
end Go.Proofs.YtmioifcbkhpdaaaGreat
set_option maxHeartbeats 16000000
set_option maxRecDepth 100000
namespace Go.Proofs.YtmioifcbkhpdaaaGreat
open Go.RowKit
inductive Tree where
 | last (q : List Nat)
 | one (q : List Nat) (e : Nat) (t : Tree)
 | two (q : List Nat) (e1 : Nat) (t1 : Tree) (e2 : Nat) (t2 : Tree)
namespace Tree
def size : Tree → Nat
 | last q => q.length
 | one q _ t => q.length + (t.size + 1)
 | two q _ t1 _ _ => q.length + (t1.size + 1)
end Tree
section
variable {P : Program} {ops : Array Oper} {Q : Exit → Act → World → Prop} {md : Region.Mode}
def wpTree (P : Program) (ops : Array Oper) (Q : Exit → Act → World → Prop) : (World → Prop) → Tree → Act → World → Prop
 | C, .last q, a, w => wpSeg P ops C (fun a' => Q .normal a' w) q a
 | C, .one q e t, a, w => wpSeg P ops C (fun a1 => wpOp P ops Q e (fun a2 w2 => ∃ C' : World → Prop, C' w2 ∧ (∀ W, C' W → C W) ∧ wpTree P ops Q C' t a2 w2) a1 w) q a
 | C, .two q e1 t1 e2 t2, a, w => wpSeg P ops C (fun a1 => wpOp P ops Q e1 (fun a2 w2 => ∃ C' : World → Prop, C' w2 ∧ (∀ W, C' W → C W) ∧ wpTree P ops Q C' t1 a2 w2) a1 w ∧
     wpOp P ops Q e2 (fun a2 w2 => ∃ C' : World → Prop, C' w2 ∧ (∀ W, C' W → C W) ∧ wpTree P ops Q C' t2 a2 w2) a1 w) q a
def treeB (md : Region.Mode) (ops : Array Oper) : Array Bool → Tree → Bool
 | listed, .last q => segB md ops listed q && (Region.ready md ops (ya listed q)).isEmpty
 | listed, .one q e t => segB md ops listed q && (Region.ready md ops (ya listed q) == [e]) && treeB md ops ((ya listed q).setIfInBounds e true) t
 | listed, .two q e1 t1 e2 t2 => segB md ops listed q && (Region.ready md ops (ya listed q) == [e1, e2]) && (treeB md ops ((ya listed q).setIfInBounds e1 true) t1 && (treeB md ops ((ya listed q).setIfInBounds e2 true) t2 && (t1.size == t2.size)))
theorem wpAnyH_tree (hs : Region.noSelect ops = true) (hQ : ∀ c a d v w, Q (.panic c) (Act.put a d v) w → Q (.panic c) a w) :
    ∀ (t : Tree) (C : World → Prop) (listed : Array Bool) (a : Act) (w : World), C w → treeB md ops listed t = true → wpTree P ops Q C t a w → wpAnyH P md ops Q C t.size listed a w
 | .last q, C, listed, a, w, hC, hB, h => by
   simp only [treeB, Bool.and_eq_true] at hB;have := wpAnyH_seg (fuel := 0) hs hQ hC q listed a hB.1 h fun a' h' => wpAnyH_done (by simpa using hB.2) h' 0
   simpa [Tree.size] using this
 | .one q e t, C, listed, a, w, hC, hB, h => by
   simp only [treeB, Bool.and_eq_true, beq_iff_eq] at hB;obtain ⟨⟨hB1, hB2⟩, hB3⟩ := hB
   have := wpAnyH_seg (fuel := t.size + 1) hs hQ hC q listed a hB1 h fun a' h' => by
    refine wpAnyH_all hB2 (by simp) fun i hi => ?_
    rw [List.mem_singleton.1 hi];refine wpOp_mono ?_ h';rintro a2 w2 ⟨C', hC', hsub, hp⟩;exact ⟨hsub _ hC', wpAnyH_mono hsub _ _ _ _ (wpAnyH_tree hs hQ t C' _ a2 w2 hC' hB3 hp)⟩
   simpa [Tree.size, Nat.add_comm, Nat.add_left_comm] using this
 | .two q e1 t1 e2 t2, C, listed, a, w, hC, hB, h => by
   simp only [treeB, Bool.and_eq_true, beq_iff_eq] at hB;obtain ⟨⟨hB1, hB2⟩, hB3, hB4, hB5⟩ := hB
   have := wpAnyH_seg (fuel := t1.size + 1) hs hQ hC q listed a hB1 h fun a' h' => by
    refine wpAnyH_all hB2 (by simp) fun i hi => ?_
    simp only [List.mem_cons, List.not_mem_nil, or_false] at hi;rcases hi with rfl | rfl
    ·refine wpOp_mono ?_ h'.1;rintro a2 w2 ⟨C', hC', hsub, hp⟩;exact ⟨hsub _ hC', wpAnyH_mono hsub _ _ _ _ (wpAnyH_tree hs hQ t1 C' _ a2 w2 hC' hB3 hp)⟩
    ·refine wpOp_mono ?_ h'.2;rintro a2 w2 ⟨C', hC', hsub, hp⟩;rw [hB5];exact ⟨hsub _ hC', wpAnyH_mono hsub _ _ _ _ (wpAnyH_tree hs hQ t2 C' _ a2 w2 hC' hB4 hp)⟩
   simpa [Tree.size, Nat.add_comm, Nat.add_left_comm] using this
theorem wp_region_tree {id : Nat} {a : Act} {w : World} (C : World → Prop) (t : Tree) (hm : P.follows .mixedOrders = true)
    (hB : (Region.noSelect ops && treeB .any ops (Array.replicate ops.size false) t && (t.size == ops.size)) = true)
    (hQ : ∀ c a d v w, Q (.panic c) (Act.put a d v) w → Q (.panic c) a w) (hC : C w.drew) (h : wpTree P ops Q C t a w.drew) : (Code.region id ops true).wp P Q a w := by
 simp only [Bool.and_eq_true, beq_iff_eq] at hB;obtain ⟨⟨h1, h2⟩, h3⟩ := hB;have hf := wpAnyH_tree (md := .any) h1 hQ t C _ a _ hC h2 h;rw [h3] at hf;exact wp_region_held hm hf
theorem tree_last {C : World → Prop} {q : List Nat} {a : Act} {w : World} (h : wpSeg P ops C (fun a' => Q .normal a' w) q a) : wpTree P ops Q C (.last q) a w := h
theorem yp {C : World → Prop} {q : List Nat} {e : Nat} {t : Tree} {a : Act} {w : World}
    (h : wpSeg P ops C (fun a1 => wpOp P ops Q e (fun a2 w2 => ∃ C' : World → Prop, C' w2 ∧ (∀ W, C' W → C W) ∧ wpTree P ops Q C' t a2 w2) a1 w) q a) : wpTree P ops Q C (.one q e t) a w := h
theorem tree_two {C : World → Prop} {q : List Nat} {e1 e2 : Nat} {t1 t2 : Tree} {a : Act} {w : World}
    (h : wpSeg P ops C (fun a1 => wpOp P ops Q e1 (fun a2 w2 => ∃ C' : World → Prop, C' w2 ∧ (∀ W, C' W → C W) ∧ wpTree P ops Q C' t1 a2 w2) a1 w ∧
      wpOp P ops Q e2 (fun a2 w2 => ∃ C' : World → Prop, C' w2 ∧ (∀ W, C' W → C W) ∧ wpTree P ops Q C' t2 a2 w2) a1 w) q a) : wpTree P ops Q C (.two q e1 t1 e2 t2) a w := h
end
end Go.Proofs.YtmioifcbkhpdaaaGreat
namespace Go.Proofs.YtmioifcbkhpdaaaGreat
set_option maxHeartbeats 16000000
set_option maxRecDepth 100000
open Go.RowKit Codec
def zu (l : List UInt8) : ByteArray := ⟨l.toArray⟩
theorem strB_append (l m : List UInt8) : zu l ++ zu m = zu (l ++ m) := by
 apply ByteArray.ext; simp [zu]
theorem byt_one (w : World) (v : UInt8) : Byt (w.alloc (.cells #[.int .u8 (v.toNat : Int)] 5)) (w.heap.size ≤ ·) (some ⟨w.heap.size, 0, none⟩) 1 1 [v] :=
 ⟨rfl, Nat.le_refl _, by unfold maxLen; omega, fun _ => ⟨w.heap.size, 0, rfl, Nat.le_refl _, by simp, fun i hi => by
   (obtain rfl : i = 0 := by omega);rw [zA (heap_alloc_new w _)]; rfl⟩⟩
theorem str_one (w : World) (v : UInt8) : (convert 54 9 (.slice (some ⟨w.heap.size, 0, none⟩) 1 1)).run Tryz.prog (w.alloc (.cells #[.int .u8 (v.toNat : Int)] 5)) = .ok (.string (zu [v])) (w.alloc (.cells #[.int .u8 (v.toNat : Int)] 5)) :=
 yM (byt_one w v)
theorem u8_small {x : Nat} (h : x < 256) : ((UInt8.ofNat x).toNat : Int) = (x : Int) := by simp; omega
theorem wrap_quo (x : Nat) (hx : x < 18446744073709551616) : IntKind.u64.wrap ((x : Int) / 128) = ((x / 128 : Nat) : Int) := by
 have : ((x : Int) / 128) = ((x / 128 : Nat) : Int) := by omega
 rw [this]; unfold IntKind.wrap; simp [IntKind.signed, IntKind.bits]; omega
theorem wrap_byte (x : Nat) : IntKind.u8.wrap (IntKind.u64.wrap ((x : Int).tmod 128 + 128)) = ((UInt8.ofNat (x % 128 + 128)).toNat : Int) := by
 have e : (x : Int).tmod 128 = ((x % 128 : Nat) : Int) := by
  rw [Int.tmod_eq_emod_of_nonneg (by omega)]; omega
 have h2 : x % 128 < 128 := Nat.mod_lt _ (by omega);rw [e, u8_small (by omega)];have e2 : IntKind.u64.wrap (((x % 128 : Nat) : Int) + 128) = ((x % 128 + 128 : Nat) : Int) := by unfold IntKind.wrap; simp [IntKind.signed, IntKind.bits]; omega
 rw [e2]; unfold IntKind.wrap; simp [IntKind.signed, IntKind.bits]; omega
theorem ref_put_small (x : Nat) (w : World) (h : x < 128) : Calls Tryz.prog 70 #[.int .u64 x] w fun e w' => e = .returned (.string (zu (put x))) ∧ Below w.heap.size w w' := by
 rw [put_small h];have hcv := str_one w (UInt8.ofNat x);rw [u8_small (by omega)] at hcv
 go_enter Tryz.func70, Tryz.ntmps70
 go_wp2_with fail
 go_ret
 exact ⟨rfl, (Below.refl _ _).alloc (Nat.le_refl _) _⟩
theorem ref_put : ∀ (k x : Nat) (w : World), x < 128 ^ k → x < 18446744073709551616 → Calls Tryz.prog 70 #[.int .u64 x] w fun e w' => e = .returned (.string (zu (put x))) ∧ Below w.heap.size w w' := by
 intro k
 induction k with
 | zero =>
   intro x w hx hx2;(have hx : x < 1 := by simpa using hx);exact ref_put_small x w (by omega)
 | succ k ih =>
   intro x w hx hx2
   by_cases h : x < 128
   ·exact ref_put_small x w h
   ·rw [put_big (by omega)]
    have hq : x / 128 < 128 ^ k := by
     rw [Nat.pow_succ] at hx; exact Nat.div_lt_of_lt_mul (by omega)
    (have hq2 : x / 128 < 18446744073709551616 := by omega);have WQ := Lib.hid (wrap_quo x hx2);have WB := Lib.hid (wrap_byte x);(have IH := fun w => ih (x / 128) w hq hq2);clear ih;(obtain ⟨v, hv⟩ : ∃ v, UInt8.ofNat (x % 128 + 128) = v := ⟨_, rfl⟩);(obtain ⟨y, hy⟩ : ∃ y, x / 128 = y := ⟨_, rfl⟩);have HS := Lib.hid (strB_append [v] (put y));rw [hv] at WB ⊢;rw [hy] at WQ IH ⊢
    have HZ : Hid (¬ 9223372036854775807 < 1 + (zu (put y)).size) := Lib.hid (by
     have := zX (x := y) (by omega);rw [show (zu (put y)).size = (put y).length by simp [zu, ByteArray.size]]; omega)
    clear hv hy hq hq2
    go_enter Tryz.func70, Tryz.ntmps70
    go_wp2_with fail
    refine wp_region_tree (fun W => Below w.heap.size w W) (.two [0, 1, 2, 3, 6, 7] 4 (.one [5] 8 (.last [9, 10])) 8 (.one [] 4 (.last [5, 9, 10]))) (by kernel_rfl) (by kernel_rfl) (fun _ _ d _ _ h => by cases d <;> exact h) ((Below.refl _ _).drew) ?_;refine tree_two ?_;refine sqr ?_
    try simp only [Act.put, sqp]
    refine sqr ?_
    try simp only [Act.put, sqp]
    refine sqr ?_
    try simp only [Act.put, sqp]
    refine sqr ?_
    try simp only [Act.put, sqp]
    refine sqr ?_
    try simp only [Act.put, sqp]
    refine sqr ?_
    try simp only [Act.put, sqp]
    rw [WQ.out, WB.out];refine zH ⟨?_, ?_⟩
    ·refine zr (by rfl) (fun K hK => ?_);go_simp;obtain ⟨w1, hw1⟩ := sqz ((w.alloc (.cells #[.int .u8 (v.toNat : Int)] 5)).drew);(have hb1 : Below w.heap.size w w1 := by rw [hw1]; exact ((Below.refl _ _).alloc (Nat.le_refl _) _).drew)
     have hY : Byt w1 (w.heap.size ≤ ·) (some ⟨w.heap.size, 0, none⟩) 1 1 [v] := by
      rw [hw1]; exact (byt_one w _).below ((Below.refl _ _).drew)
     rw [← hw1];clear hw1;refine hK _ _ ⟨fun W => Below w1.heap.size w1 W, Below.refl _ _, fun W h => hb1.trans (h.mono hb1.size), ?_⟩;clear hK K;refine yp ?_;refine zE ?v7 (by rfl) (by rfl) ?h7 ?_
     case h7 => intro W hW; have hcv := yM (hY.below hW); go_simp; with_reducible rfl
     try simp only [Act.put, sqp]
     refine zH ?_;refine zr (by rfl) (fun K hK => ?_);go_simp;refine (IH _).mono ?_;rintro _ w2 ⟨rfl, hb2⟩;refine hK _ _ ⟨fun W => W = w2, rfl, fun W e => e ▸ hb2, ?_⟩;clear hK K;refine tree_last ?_;refine zb (by rfl) (fun K hK => ?_);go_simp;refine ⟨_, if_neg HZ.out, ?_⟩;refine hK _ ?_;clear hK K;refine zb (by rfl) (fun K hK => ?_);go_simp;refine hK _ ?_;clear hK K;refine zH ?_
     go_wp2
     go_ret
     exact ⟨by rw [show (⟨[v].toArray⟩ : ByteArray) = zu [v] from rfl, HS.out]; rfl, hb1.trans (hb2.mono hb1.size)⟩
    ·refine zr (by rfl) (fun K hK => ?_);go_simp;refine (IH _).mono ?_;rintro _ w2 ⟨rfl, hb2⟩;have hb2 : Below w.heap.size w w2 := ((Below.refl _ w).drew).trans hb2;refine hK _ _ ⟨fun W => Below w2.heap.size w2 W, Below.refl _ _, fun W h => hb2.trans (h.mono hb2.size), ?_⟩;clear hK K;refine yp ?_;refine zH ?_;refine zr (by rfl) (fun K hK => ?_);go_simp;obtain ⟨w3, hw3⟩ := sqz ((w2.alloc (.cells #[.int .u8 (v.toNat : Int)] 5)));(have hb3 : Below w2.heap.size w2 w3 := by rw [hw3]; exact ((Below.refl _ _).alloc (Nat.le_refl _) _));have hY := yM (byt_one w2 v);rw [← hw3] at hY ⊢;clear hw3;refine hK _ _ ⟨fun W => W = w3, rfl, fun W e => e ▸ hb3, ?_⟩;clear hK K;refine tree_last ?_;refine zb (by rfl) (fun K hK => ?_);go_simp;refine hK _ ?_;clear hK K;refine zb (by rfl) (fun K hK => ?_);go_simp;refine ⟨_, if_neg HZ.out, ?_⟩;refine hK _ ?_;clear hK K;refine zb (by rfl) (fun K hK => ?_);go_simp;refine hK _ ?_;clear hK K;refine zH ?_
     go_wp2
     go_ret
     exact ⟨by rw [show (⟨[v].toArray⟩ : ByteArray) = zu [v] from rfl, HS.out]; rfl, hb2.trans (hb3.mono hb2.size)⟩
theorem strB_size (l : List UInt8) : (zu l).size = l.length := by simp [zu, ByteArray.size]
theorem ref_with (l : List UInt8) (w : World) (hl : l.length ≤ 140737488355328) : Calls Tryz.prog 71 #[.string (zu l)] w fun e w' => e = .returned (.string (zu (put l.length ++ l))) ∧ Below w.heap.size w w' := by
 have hp := fun w => ref_put 10 l.length w (by omega) (by omega)
 have HS := Lib.hid (strB_append (put l.length) l);have HL := Lib.hid (strB_size l);have h10 := zX (x := l.length) (by omega);have hsz : ¬ 9223372036854775807 < (zu (put l.length)).size + (zu l).size := by rw [strB_size, strB_size]; omega
 have HZ := Lib.hid hsz;clear hsz h10
 go_enter Tryz.func71, Tryz.ntmps71
 go_wp2_with fail
 rw [HL.out, show IntKind.u64.wrap (l.length : Int) = (l.length : Int) by unfold IntKind.wrap; simp [IntKind.signed, IntKind.bits]; omega];refine (hp _).mono ?_;rintro _ w1 ⟨rfl, hb⟩;have hsz := HZ.out
 go_wp2_with fail
 go_ret
 exact ⟨rfl, hb⟩
theorem xN : (Tryz.prog.info? 95).map (·.size) = some 3 := by kernel_rfl
theorem mayC_eq (k v : List UInt8) (g : Bool) : zq ⟨k, v, g⟩ = (!k.isEmpty && decide ((k.length : Int) ≤ 64) && decide ((v.length : Int) ≤ 4096) && (!g || v.isEmpty)) := by
 have e1 : decide ((k.length : Int) ≤ 64) = decide (k.length ≤ 64) := decide_eq_decide.2 (by omega);have e2 : decide ((v.length : Int) ≤ 4096) = decide (v.length ≤ 4096) := decide_eq_decide.2 (by omega);rw [e1, e2]
 cases g <;> cases k <;> cases v <;> simp [zq]
theorem xG (x : Ch) (w : World) :
    Calls Tryz.prog 38 #[.agg (cmV x)] w fun e w' => e = .returned (.bool (zq x)) ∧ Below w.heap.size w w' := by
 obtain ⟨k, v, g⟩ := x;have hk := zN k;have hv := zN v;have HM : Hid (zq ⟨k, v, g⟩ = (!k.isEmpty && decide ((k.length : Int) ≤ 64) && decide ((v.length : Int) ≤ 4096) && (!g || v.isEmpty))) := Lib.hid (mayC_eq k v g);have hke := congrArg List.isEmpty (st_list k);have hve := congrArg List.isEmpty (st_list v);have HP : Hid (Below w.heap.size w (w.alloc (.cells (cmV ⟨k, v, g⟩) 95))) := Lib.hid ((Below.refl _ _).alloc (Nat.le_refl _) _);obtain ⟨M, hM⟩ := sqz (zq ⟨k, v, g⟩);rw [← hM] at HM ⊢;clear hM;unfold cmV at HP ⊢
 generalize hKE : k.isEmpty = KE at *
 generalize hVE : v.isEmpty = VE at *
 generalize k.length = kn at *
 generalize v.length = vn at *
 clear hKE hVE
 by_cases h1 : (kn : Int) ≤ 64
 ·by_cases h2 : (vn : Int) ≤ 4096
  ·rw [decide_eq_true h1, decide_eq_true h2] at HM
   cases KE <;> cases g <;> cases VE <;>
    (go_enter Tryz.func38, Tryz.ntmps38
     go_wp2_with fail
     go_ret
     exact ⟨by rw [HM.out]; rfl, HP.out⟩)
  ·rw [decide_eq_true h1, decide_eq_false h2] at HM
   cases KE <;>
    (go_enter Tryz.func38, Tryz.ntmps38
     go_wp2_with fail
     go_ret
     exact ⟨by rw [HM.out]; cases g <;> cases VE <;> rfl, HP.out⟩)
 ·rw [decide_eq_false h1] at HM
  cases KE <;>
   (go_enter Tryz.func38, Tryz.ntmps38
    go_wp2_with fail
    go_ret
    exact ⟨by rw [HM.out]; simp, HP.out⟩)
def RsoR (w : World) (l : List Ch) (v i : Value) (wr : World) : Prop :=
 ∃ j : Nat, j ≤ l.length ∧ i = .int .i64 (j : Int) ∧ v = .string (st (put 2 ++ put l.length ++ ofC (l.take j))) ∧ Below w.heap.size w wr
theorem cr_wtC_mem {l : List Ch} {x : Ch} (h : x ∈ l) : x.k.length + x.v.length + 21 ≤ wtC l := by
 induction l with
 | nil => cases h
 | cons y l ih =>
   simp only [wtC];rcases List.mem_cons.1 h with rfl | h
   ·omega
   ·have := ih h; omega
theorem cr_wtC_take (l : List Ch) (j : Nat) : wtC (l.take j) ≤ wtC l := by
 induction l generalizing j with
 | nil => simp
 | cons y l ih =>
   cases j with
   | zero => simp [wtC]
   | succ j =>
     have := ih j;simp only [List.take_succ_cons, wtC];omega
theorem cr_take {α : Type} {l : List α} {j : Nat} {x : α} (h : l[j]? = some x) : l.take (j + 1) = l.take j ++ [x] := by rw [List.take_add_one, h]; rfl
theorem rcsome_any {w : World} {S : Nat → Prop} {A : Option Addr} {n c : Nat} {l : List Ch} (h : Cms w S A n c l) (hb : wtC l ≤ 900000) :
    Calls Tryz.prog 39 #[.slice A n c] w fun e w' => e = .returned (.string (st (chsB l))) ∧ Below w.heap.size w w' := by
 have hln := wtC_len l;have hnl := h.len;have hp1 : Calls Tryz.prog 70 #[.int .u64 2] w fun e w' => e = .returned (.string (st (put 2))) ∧ Below w.heap.size w w' := ref_put 10 2 w (by decide) (by decide)
 have hp2 : ∀ W, Calls Tryz.prog 70 #[.int .u64 (n : Int)] W fun e w' => e = .returned (.string (st (put n))) ∧ Below W.heap.size W w' := fun W => ref_put 10 n W (Nat.lt_of_lt_of_le (show n < 1000000 by omega) (by decide)) (by omega)
 have hcv := IntWalk.u64_in (n : Int) (by omega);obtain ⟨P1, hP1⟩ := sqz (put 2);obtain ⟨P2, hP2⟩ := sqz (put n);rw [← hP1] at hp1;rw [← hP2] at hp2;have l1 : P1.length ≤ 10 := by rw [hP1]; exact zX (by omega)
 have l2 : P2.length ≤ 10 := by rw [hP2]; exact zX (by omega)
 have hs12 : ¬ (((st P1).size + (st P2).size : Nat) : Int) > 9223372036854775807 := by rw [zN, zN]; omega
 have hs12' : ¬ 9223372036854775807 < (st P1).size + (st P2).size := by rw [zN, zN]; omega
 have HPRE : Hid (st P1 ++ st P2 = st (put 2 ++ put l.length ++ ofC (l.take 0)) ∧ (put 2 ++ put l.length).length ≤ 20) := Lib.hid ⟨by rw [xA, hP1, hP2, hnl]; simp [ofC], by rw [hnl, ← hP1, ← hP2, List.length_append]; omega⟩;have HL := sq4 h hnl hb (show n ≤ 100000 by omega);have HP2 := Lib.hid hp2
 generalize st P1 = SP1 at *
 generalize st P2 = SP2 at *
 clear h hb hln hnl hP1 hP2 l1 l2 hp2
 go_enter Tryz.func39, Tryz.ntmps39
 go_upto_region 2 with (first
  | (go_at_call 70; refine hp1.mono ?_; clear hp1; rintro _ w1 ⟨rfl, hb1⟩; have H1 := Lib.hid hb1; have hp3 := HP2.out w1; clear hb1)
  | (go_at_call 70; refine hp3.mono ?_; clear hp3; rintro _ w2 ⟨rfl, hb2⟩; have H2 := Lib.hid (H1.out.trans (hb2.mono H1.out.size)); clear hb2))
 clear hcv hs12 hs12';have H0 : Hid (RsoR w l (.string (SP1 ++ SP2)) (.int .i64 0) w2) := Lib.hid ⟨0, Nat.zero_le _, rfl, by rw [HPRE.out.1], H2.out⟩;clear H1 H2
 generalize SP1 ++ SP2 = S0 at *
 go_wp2_with fail
 go_loopw [3, 4] (fun v i wr => RsoR w l v i wr) (fun _ i _ => n - (intOf i).toNat)
 case atStart => exact H0.out
 case round =>
  obtain ⟨j, hj, rfl, rfl, hbel⟩ := hrel;clear H0
  by_cases hlt : j < n
  ·(have hlt' : (j : Int) < (n : Int) := by omega);have hadd := IntWalk.i64_in ((j : Int) + 1) (by have := HL.out.2.2.2; omega);obtain ⟨b, off, x, rfl, _, hbl, hx, hc0, hc1, hc2⟩ := HL.out.1.at_ hlt;have hk0 := (hbel.cell (p := ⟨b, off + j * 3, none⟩) hbl).trans hc0;have hk2 := (hbel.cell (p := ⟨b, off + j * 3 + 2, none⟩) hbl).trans hc2;have hxw := cr_wtC_mem (List.mem_of_getElem? hx);have hw3 := HL.out.2.2.1;(have hwi : Calls Tryz.prog 71 #[.string (st x.k)] wr fun e w' => e = .returned (.string (st (rowB x.k))) ∧ Below wr.heap.size wr w' := ref_with x.k wr (by omega));(have hwv : ∀ W, Calls Tryz.prog 71 #[.string (st x.v)] W fun e w' => e = .returned (.string (st (rowB x.v))) ∧ Below W.heap.size W w' := fun W => ref_with x.v W (by omega));obtain ⟨T, hT⟩ := sqz (put 2 ++ put l.length ++ ofC (l.take j))
   have hTl : T.length ≤ 900020 := by
    have h1 := ofC_len (l.take j) (by have := cr_wtC_take l j; omega);have h2 := cr_wtC_take l j;have h3 := HPRE.out.2;rw [hT, List.length_append];omega
   rw [← hT];obtain ⟨R1, hR1⟩ := sqz (rowB x.k);obtain ⟨R2, hR2⟩ := sqz (rowB x.v);(have hr1 : R1.length ≤ 900020 := by have := rowB_len x.k (by omega); rw [hR1]; omega);(have hr2 : R2.length ≤ 900020 := by have := rowB_len x.v (by omega); rw [hR2]; omega);(have hnx : put 2 ++ put l.length ++ ofC (l.take (j + 1)) = T ++ R1 ++ ([if x.g then 1 else 0] ++ if x.g then [] else R2) := by rw [cr_take hx, ofC_snoc, hT, hR1, hR2, chgB]; simp);rw [← hR1] at hwi;rw [← hR2] at hwv;(have q1 : ¬ (((st T).size + (st R1).size : Nat) : Int) > 9223372036854775807 := by rw [zN, zN]; omega);have e1 := xA T R1;have HTL := sq4 hTl hr1 hr2 e1;have HB := sq4 hbel hlt hbl hc1;have HV := Lib.hid hwv;have HNX := Lib.hid hnx
   generalize st x.k = SK at *
   generalize st x.v = SV at *
   generalize st R1 = SR1 at *
   (generalize hST : st T = ST at *);have HST := Lib.hid hST;clear hTl hr1 hr2 e1 hbel hlt hbl hc0 hc1 hc2 hx hxw hw3 hT hR1 hR2 hj hwv hnx hST
   cases hg : x.g with
   | true =>
     rw [hg] at hk2;have hsz := congrArg ByteArray.size HTL.out.2.2.2;rw [zN, List.length_append, ByteArray.size_append] at hsz;(have q2 : ¬ 9223372036854775807 < ST.size + SR1.size + 1 := by have := HTL.out.1; have := HTL.out.2.1; omega);clear hsz;have HE : Hid (ST ++ SR1 ++ ⟨#[1]⟩ = st (put 2 ++ put l.length ++ ofC (l.take (j + 1)))) := Lib.hid (by rw [HTL.out.2.2.2, HNX.out, hg]; exact xA _ [1]);have HGt := Lib.hid hg;clear hg
     go_wp2_with (go_at_call 71; refine hwi.mono ?_; clear hwi; rintro _ w2 ⟨rfl, hb2⟩; have HB2 := Lib.hid hb2; have hk3 := (hb2.cell (p := ⟨b, off + j * 3 + 2, none⟩) (Nat.lt_of_lt_of_le HB.out.2.2.1 HB.out.1.size)).trans hk2; clear hb2)
     go_roundw
     case rel => exact ⟨j + 1, by have h1 := HB.out.2.1; have h2 := HL.out.2.1; omega, by simp, by rw [HE.out], HB.out.1.trans (HB2.out.mono HB.out.1.size)⟩
     case measure => have := HB.out.2.1; simp only [intOf]; omega
   | false =>
     rw [hg] at hk2;have z1 : (⟨#[0]⟩ : ByteArray) ++ st R2 = st ([0] ++ R2) := xA [0] R2;(have q3 : ¬ (((1 : Nat) + (st R2).size : Nat) : Int) > 9223372036854775807 := by rw [zN]; have := HTL.out.2.2.1; omega);(have q4 : ¬ (((ST ++ SR1).size + ((⟨#[0]⟩ : ByteArray) ++ st R2).size : Nat) : Int) > 9223372036854775807 := by rw [HTL.out.2.2.2, z1, zN, zN, List.length_append, List.length_append]; have := HTL.out.1; have := HTL.out.2.1; have := HTL.out.2.2.1; simp; omega);have HE : Hid (ST ++ SR1 ++ ((⟨#[0]⟩ : ByteArray) ++ st R2) = st (put 2 ++ put l.length ++ ofC (l.take (j + 1)))) := Lib.hid (by rw [HTL.out.2.2.2, z1, HNX.out, hg]; exact xA _ _);clear z1 hg
     generalize st R2 = SR2 at *
     go_wp2_with (first
      | (go_at_call 71; refine hwi.mono ?_; clear hwi; rintro _ w2 ⟨rfl, hb2⟩; have HB2 := Lib.hid hb2; have hk3 := (hb2.cell (p := ⟨b, off + j * 3 + 2, none⟩) (Nat.lt_of_lt_of_le HB.out.2.2.1 HB.out.1.size)).trans hk2; have hk4 := ((HB.out.1.trans (hb2.mono HB.out.1.size)).cell (p := ⟨b, off + j * 3 + 1, none⟩) HB.out.2.2.1).trans HB.out.2.2.2; have hwv2 := HV.out w2; clear hb2)
      | (go_at_call 71; refine hwv2.mono ?_; clear hwv2; rintro _ w3 ⟨rfl, hb3⟩; have HB3 := Lib.hid (HB2.out.trans (hb3.mono HB2.out.size)); clear hb3))
     go_roundw
     case rel => exact ⟨j + 1, by have h1 := HB.out.2.1; have h2 := HL.out.2.1; omega, by simp, by rw [HE.out], HB.out.1.trans (HB3.out.mono HB.out.1.size)⟩
     case measure => have := HB.out.2.1; simp only [intOf]; omega
  ·(have hlt' : ¬ (j : Int) < (n : Int) := by omega);have HF : Hid (put 2 ++ put l.length ++ ofC (l.take j) = chsB l) := Lib.hid (by rw [List.take_of_length_le (by have := HL.out.2.1; omega)]; rfl);have HB := Lib.hid hbel
   (generalize put 2 ++ put l.length ++ ofC (l.take j) = T at *);clear hlt hj hbel
   go_wp2_with fail
   go_ret
   exact ⟨by rw [HF.out]; rfl, HB.out⟩
def RwhR (w : World) (l : Tb) (v i : Value) (wr : World) : Prop :=
 ∃ j : Nat, j ≤ l.length ∧ i = .int .i64 (j : Int) ∧ v = .string (st (put 1 ++ put l.length ++ ofT (l.take j))) ∧ Below w.heap.size w wr
theorem cr_wtT_mem {l : Tb} {x : List UInt8 × List UInt8} (h : x ∈ l) : x.1.length + x.2.length + 20 ≤ wtT l := by
 induction l with
 | nil => cases h
 | cons y l ih =>
   simp only [wtT];rcases List.mem_cons.1 h with rfl | h
   ·omega
   ·have := ih h; omega
theorem cr_wtT_take (l : Tb) (j : Nat) : wtT (l.take j) ≤ wtT l := by
 induction l generalizing j with
 | nil => simp
 | cons y l ih =>
   cases j with
   | zero => simp [wtT]
   | succ j =>
     have := ih j;simp only [List.take_succ_cons, wtT];omega
theorem tb2_at {t : Tb} {j : Nat} {x : Ch} (h : (tb2 t)[j]? = some x) : t[j]? = some (x.k, x.v) := by
 unfold tb2 at h;rw [List.getElem?_map] at h;obtain ⟨p, hp, rfl⟩ := Option.map_eq_some_iff.1 h;exact hp
theorem rcwhole_any {w : World} {S : Nat → Prop} {A : Option Addr} {n c : Nat} {l : Tb} (h : Cms w S A n c (tb2 l)) (hb : wtT l ≤ 900000) :
    Calls Tryz.prog 42 #[.slice A n c] w fun e w' => e = .returned (.string (st (allB l))) ∧ Below w.heap.size w w' := by
 have hln := wtT_len l;have hnl : l.length = n := by rw [← h.len]; simp [tb2]
 have hp1 : Calls Tryz.prog 70 #[.int .u64 1] w fun e w' => e = .returned (.string (st (put 1))) ∧ Below w.heap.size w w' := ref_put 10 1 w (by decide) (by decide)
 have hp2 : ∀ W, Calls Tryz.prog 70 #[.int .u64 (n : Int)] W fun e w' => e = .returned (.string (st (put n))) ∧ Below W.heap.size W w' := fun W => ref_put 10 n W (Nat.lt_of_lt_of_le (show n < 1000000 by omega) (by decide)) (by omega)
 have hcv := IntWalk.u64_in (n : Int) (by omega);obtain ⟨P1, hP1⟩ := sqz (put 1);obtain ⟨P2, hP2⟩ := sqz (put n);rw [← hP1] at hp1;rw [← hP2] at hp2;have l1 : P1.length ≤ 10 := by rw [hP1]; exact zX (by omega)
 have l2 : P2.length ≤ 10 := by rw [hP2]; exact zX (by omega)
 have hs12 : ¬ (((st P1).size + (st P2).size : Nat) : Int) > 9223372036854775807 := by rw [zN, zN]; omega
 have hs12' : ¬ 9223372036854775807 < (st P1).size + (st P2).size := by rw [zN, zN]; omega
 have HPRE : Hid (st P1 ++ st P2 = st (put 1 ++ put l.length ++ ofT (l.take 0)) ∧ (put 1 ++ put l.length).length ≤ 20) := Lib.hid ⟨by rw [xA, hP1, hP2, hnl]; simp [ofT], by rw [hnl, ← hP1, ← hP2, List.length_append]; omega⟩;have HL := sq4 h hnl hb (show n ≤ 100000 by omega);have HP2 := Lib.hid hp2
 generalize st P1 = SP1 at *
 generalize st P2 = SP2 at *
 clear h hb hln hnl hP1 hP2 l1 l2 hp2
 go_enter Tryz.func42, Tryz.ntmps42
 go_upto_region 2 with (first
  | (go_at_call 70; refine hp1.mono ?_; clear hp1; rintro _ w1 ⟨rfl, hb1⟩; have H1 := Lib.hid hb1; have hp3 := HP2.out w1; clear hb1)
  | (go_at_call 70; refine hp3.mono ?_; clear hp3; rintro _ w2 ⟨rfl, hb2⟩; have H2 := Lib.hid (H1.out.trans (hb2.mono H1.out.size)); clear hb2))
 clear hcv hs12 hs12';have H0 : Hid (RwhR w l (.string (SP1 ++ SP2)) (.int .i64 0) w2) := Lib.hid ⟨0, Nat.zero_le _, rfl, by rw [HPRE.out.1], H2.out⟩;clear H1 H2
 generalize SP1 ++ SP2 = S0 at *
 go_wp2_with fail
 go_loopw [3, 4] (fun v i wr => RwhR w l v i wr) (fun _ i _ => n - (intOf i).toNat)
 case atStart => exact H0.out
 case round =>
  obtain ⟨j, hj, rfl, rfl, hb⟩ := hrel;clear H0;obtain ⟨T, hT⟩ := sqz (put 1 ++ put l.length ++ ofT (l.take j));rw [← hT]
  have HT : Hid (T = put 1 ++ put l.length ++ ofT (l.take j) ∧ T.length ≤ 900020) := Lib.hid ⟨hT, by
   have h0 := HL.out.2.2.1;have h1 := ofT_len (l.take j) (by have := cr_wtT_take l j; omega);have h2 := cr_wtT_take l j;have h3 := HPRE.out.2;rw [hT, List.length_append];omega⟩
  have HB := Lib.hid hb;clear hT hb
  by_cases hlt : j < n
  ·(have hlt' : (j : Int) < (n : Int) := by omega);have hadd := IntWalk.i64_in ((j : Int) + 1) (by have := HL.out.2.2.2; omega);obtain ⟨q, off, x, rfl, _, hqlt, hx0, hc0, hc1, _⟩ := HL.out.1.at_ hlt;have hx := tb2_at hx0;have hxw := cr_wtT_mem (List.mem_of_getElem? hx);simp only at hxw;have hw3 := HL.out.2.2.1;obtain ⟨P1, hP1⟩ := sqz (rowB x.k);obtain ⟨P2, hP2⟩ := sqz (rowB x.v);have HLEN : Hid (P1.length ≤ 900020 ∧ P2.length ≤ 900020) := Lib.hid ⟨by rw [hP1]; have := rowB_len x.k (by omega); omega, by rw [hP2]; have := rowB_len x.v (by omega); omega⟩
   have HC : Hid (∀ W, Below wr.drew.heap.size wr.drew W → W.cell? ⟨q, off + j * 3, none⟩ = some (.string (st x.k)) ∧ W.cell? ⟨q, off + j * 3 + 1, none⟩ = some (.string (st x.v))) := Lib.hid fun W hW => by
    have h1 := HB.out.trans ((Grow.below_of_drew hW).mono HB.out.size);exact ⟨(h1.cell (p := ⟨_, _, none⟩) hqlt).trans hc0, (h1.cell (p := ⟨_, _, none⟩) hqlt).trans hc1⟩
   (have HW1 : Hid (∀ W, Calls Tryz.prog 71 #[.string (st x.k)] W fun e w' => e = .returned (.string (st P1)) ∧ Below W.heap.size W w') := Lib.hid fun W => by rw [hP1]; exact ref_with x.k W (by omega));(have HW2 : Hid (∀ W, Calls Tryz.prog 71 #[.string (st x.v)] W fun e w' => e = .returned (.string (st P2)) ∧ Below W.heap.size W w') := Lib.hid fun W => by rw [hP2]; exact ref_with x.v W (by omega));have HNX : Hid (T ++ (P1 ++ P2) = put 1 ++ put l.length ++ ofT (l.take (j + 1))) := Lib.hid (by rw [HT.out.1, hP1, hP2, cr_take hx, ofT_snoc, List.append_assoc (put 1 ++ put l.length)]);clear hqlt hx0 hx hc0 hc1 hxw hw3 hP1 hP2 hj
   go_upto_region 5 with fail
   refine sqg [sqv (.string (st T)), sqv (.slice (some ⟨q, off, none⟩) n c), sqv (.int .i64 (j : Int)), sqv (.pointer (some ⟨q, off + j * 3, none⟩)), sqv (.pointer (some ⟨q, off + j * 3, none⟩)), sqv (.string (st x.k)), sqv (.string (st P1)), sqv (.slice (some ⟨q, off, none⟩) n c), sqv (.int .i64 (j : Int)), sqv (.pointer (some ⟨q, off + j * 3, none⟩)), sqv (.pointer (some ⟨q, off + j * 3 + 1, none⟩)), sqv (.string (st x.v)), sqv (.string (st P2)), sqv (.string (st (P1 ++ P2))), sqv (.string (st (T ++ (P1 ++ P2)))), sqv (.string (st (T ++ (P1 ++ P2))))] 33 ?gmono ?gsteps ?gfin
   case gmono => (iterate 16 refine ⟨sqm, ?_⟩); trivial
   case gsteps =>
    show Grow.allBelow _ 16
    iterate 16 refine And.intro ?_ ?_
    exact trivial
    ·exact squ 3
    ·exact squ 0
    ·exact squ 4
    ·refine sqi ?_;intro E W ec eg ef hG hd hu R HR;have e18 := sqe (hd 1 18);have e19 := sqe (hd 2 19);clear hd hu;have hjl := hlt';go_simp
     first | exact sqh HR | (rw [if_pos ⟨by omega, by omega⟩]; exact sqh HR)
    ·refine sqi ?_;intro E W ec eg ef hG hd hu R HR;have e20 := sqe (hd 3 20);clear hd hu;go_simp;exact sqh HR
    ·refine sqi ?_;intro E W ec eg ef hG hd hu R HR;have e21 := sqe (hd 4 21);clear hd hu;obtain ⟨k1, _⟩ := HC.out W hG;go_simp;exact sqh HR
    ·refine sqi ?_;intro E W ec eg ef hG hd hu R HR;have e22 := sqe (hd 5 22);clear hd hu;have hcc := HW1.out W;go_simp;refine hcc.mono ?_;rintro _ _ ⟨rfl, hbb⟩;exact ⟨_, rfl, HR.out _ _ hbb rfl⟩
    ·exact squ 0
    ·exact squ 4
    ·refine sqi ?_;intro E W ec eg ef hG hd hu R HR;have e24 := sqe (hd 7 24);have e25 := sqe (hd 8 25);clear hd hu;have hjl := hlt';go_simp
     first | exact sqh HR | (rw [if_pos ⟨by omega, by omega⟩]; exact sqh HR)
    ·refine sqi ?_;intro E W ec eg ef hG hd hu R HR;have e26 := sqe (hd 9 26);clear hd hu;go_simp;exact sqh HR
    ·refine sqi ?_;intro E W ec eg ef hG hd hu R HR;have e27 := sqe (hd 10 27);clear hd hu;obtain ⟨_, k1⟩ := HC.out W hG;go_simp;exact sqh HR
    ·refine sqi ?_;intro E W ec eg ef hG hd hu R HR;have e28 := sqe (hd 11 28);clear hd hu;have hcc := HW2.out W;go_simp;refine hcc.mono ?_;rintro _ _ ⟨rfl, hbb⟩;exact ⟨_, rfl, HR.out _ _ hbb rfl⟩
    ·refine sqi ?_;intro E W ec eg ef hG hd hu R HR;have e23 := sqe (hd 6 23);have e29 := sqe (hd 12 29);clear hd hu;have s1 := zN P1;have s2 := zN P2;have s3 := zN T;have l1 := HLEN.out.1;have l2 := HLEN.out.2;have l3 := HT.out.2;have s4 := zN (P1 ++ P2);rw [List.length_append] at s4;(have n1 : ¬ ((((st P1).size + (st P2).size : Nat)) : Int) > 9223372036854775807 := by omega);(have n2 : ¬ ((((st T).size + (st (P1 ++ P2)).size : Nat)) : Int) > 9223372036854775807 := by omega);go_simp;rw [if_neg (by omega), xA];exact sqh HR
    ·refine sqi ?_;intro E W ec eg ef hG hd hu R HR;have e17 := sqe (hd 0 17);have e30 := sqe (hd 13 30);clear hd hu;have s1 := zN P1;have s2 := zN P2;have s3 := zN T;have l1 := HLEN.out.1;have l2 := HLEN.out.2;have l3 := HT.out.2;have s4 := zN (P1 ++ P2);rw [List.length_append] at s4;(have n1 : ¬ ((((st P1).size + (st P2).size : Nat)) : Int) > 9223372036854775807 := by omega);(have n2 : ¬ ((((st T).size + (st (P1 ++ P2)).size : Nat)) : Int) > 9223372036854775807 := by omega);go_simp;rw [if_neg (by omega), xA];exact sqh HR
    ·exact sqd 14 31
   case gfin =>
    intro W hG
    iterate 16 (refine Grow.fin_dst (by rfl) ?_; rintro _ rfl)
    simp only [Act.put, sqp];refine Grow.fin_end ?_;have HB2 : Hid (Below w.heap.size w W) := Lib.hid (HB.out.trans ((Grow.below_of_drew hG).mono HB.out.size));clear hG
    go_wp2_with fail
    go_roundw
    case rel => exact ⟨j + 1, by have := HL.out.2.1; omega, by simp, by rw [HNX.out], HB2.out⟩
    case measure => simp only [intOf]; omega
  ·(have hlt' : ¬ (j : Int) < (n : Int) := by omega);have HF : Hid (T = allB l) := Lib.hid (by rw [HT.out.1, List.take_of_length_le (by have := HL.out.2.1; omega)]; rfl);clear hlt hj
   go_wp2_with fail
   go_ret
   exact ⟨by rw [HF.out]; rfl, HB.out⟩
end Go.Proofs.YtmioifcbkhpdaaaGreat
namespace Go.Proofs
set_option maxHeartbeats 16000000
set_option maxRecDepth 100000
open Go.Shelf
def Tryz.keysL_ren : Go.Shelf.Ren := ⟨fun | 7 => 50 | 10 => 75 | n => n, fun | 23 => 73 | 26 => 9 | 3 => 54 | 28 => 110 | 0 => 0 | 27 => 109 | 33 => 140 | 4 => 4 | n => n, fun | n => n⟩
theorem Tryz.keysL : Go.Proofs.SlLaysZ.n7 Tryz.prog Tryz.keysL_ren := {
 mixed := by kernel_rfl
 f7 := ⟨Tryz.f50.name, by decide, Tryz.func50.trans (congrArg some (by kernel_rfl))⟩
 f10 := ⟨Tryz.f75.name, by decide, Tryz.func75.trans (congrArg some (by kernel_rfl))⟩
 t0 := Tryz.underlying0
 a0 := Tryz.isAgg0
 z0 := Tryz.sizeOf0
 v0 := Tryz.zeroValue0
 t4 := Tryz.underlying4
 a4 := Tryz.isAgg4
 z4 := Tryz.sizeOf4
 v4 := Tryz.zeroValue4
 t23 := Tryz.underlying73
 a23 := Tryz.isAgg73
 z23 := Tryz.sizeOf73
 v23 := Tryz.zeroValue73
 t26 := Tryz.underlying9
 a26 := Tryz.isAgg9
 z26 := Tryz.sizeOf9
 v26 := Tryz.zeroValue9
 t27 := Tryz.underlying109
 a27 := Tryz.isAgg109
 z27 := Tryz.sizeOf109
 v27 := Tryz.zeroValue109
 t28 := Tryz.underlying110
 a28 := Tryz.isAgg110
 z28 := Tryz.sizeOf110
 v28 := Tryz.zeroValue110
 t33 := Tryz.underlying140
 a33 := Tryz.isAgg140
 z33 := Tryz.sizeOf140
 v33 := Tryz.zeroValue140 }
def Tryz.sortedL_ren : Go.Shelf.Ren := ⟨fun | 6 => 49 | 8 => 73 | 9 => 74 | 11 => 99 | 13 => 101 | 12 => 100 | 23 => 123 | 24 => 124 | 14 => 114 | 15 => 115 | 16 => 116 | 17 => 117 | 18 => 118 | 19 => 119 | 20 => 120 | 21 => 121 | 22 => 122 | 25 => 125 | 26 => 126 | 27 => 127 | 28 => 128 | 29 => 129 | 30 => 130 | 31 => 131 | n => n, fun | 26 => 9 | 28 => 110 | 24 => 28 | 0 => 0 | 3 => 3 | 37 => 167 | 48 => 191 | 50 => 37 | 4 => 4 | 40 => 183 | 39 => 182 | 45 => 188 | 5 => 5 | 9 => 9 | 51 => 193 | 55 => 196 | 57 => 198 | 58 => 199 | 33 => 140 | n => n, fun | n => n⟩
theorem Tryz.sortedL : Go.Proofs.SlLaysZ.n6 Tryz.prog Tryz.sortedL_ren := {
 mixed := by kernel_rfl
 f6 := ⟨Tryz.f49.name, by decide, Tryz.func49.trans (congrArg some (by kernel_rfl))⟩
 f8 := ⟨Tryz.f73.name, by decide, Tryz.func73.trans (congrArg some (by kernel_rfl))⟩
 f11 := ⟨Tryz.f99.name, by decide, Tryz.func99.trans (congrArg some (by kernel_rfl))⟩
 t0 := Tryz.underlying0
 a0 := Tryz.isAgg0
 z0 := Tryz.sizeOf0
 v0 := Tryz.zeroValue0
 t24 := Tryz.underlying28
 a24 := Tryz.isAgg28
 z24 := Tryz.sizeOf28
 v24 := Tryz.zeroValue28
 t26 := Tryz.underlying9
 a26 := Tryz.isAgg9
 z26 := Tryz.sizeOf9
 v26 := Tryz.zeroValue9
 t28 := Tryz.underlying110
 a28 := Tryz.isAgg110
 z28 := Tryz.sizeOf110
 v28 := Tryz.zeroValue110
 i26 := by kernel_rfl }
def Tryz.sortL_ren : Go.Shelf.Ren := ⟨fun | 6 => 74 | 8 => 101 | 9 => 100 | 19 => 123 | 20 => 124 | 21 => 114 | 22 => 115 | 23 => 116 | 24 => 117 | 25 => 118 | 26 => 119 | 27 => 120 | 28 => 121 | 29 => 122 | 36 => 125 | 31 => 126 | 32 => 127 | 37 => 128 | 38 => 129 | 39 => 130 | 41 => 131 | n => n, fun | 27 => 28 | 29 => 9 | 3 => 3 | 32 => 167 | 26 => 28 | 0 => 0 | 44 => 191 | 46 => 37 | 4 => 4 | 36 => 183 | 35 => 182 | 41 => 188 | 5 => 5 | 9 => 9 | 53 => 193 | 57 => 196 | 63 => 198 | 64 => 199 | n => n, fun | n => n⟩
theorem Tryz.sortL : Go.Proofs.SlLaysM.n6 Tryz.prog Tryz.sortL_ren := {
 mixed := by kernel_rfl
 f6 := ⟨Tryz.f74.name, by decide, Tryz.func74.trans (congrArg some (by kernel_rfl))⟩
 f8 := Tryz.func101.trans (congrArg some (by kernel_rfl))
 f9 := ⟨Tryz.f100.name, by decide, Tryz.func100.trans (congrArg some (by kernel_rfl))⟩
 f19 := Tryz.func123.trans (congrArg some (by kernel_rfl))
 f20 := Tryz.func124.trans (congrArg some (by kernel_rfl))
 f21 := ⟨Tryz.f114.name, by decide, Tryz.func114.trans (congrArg some (by kernel_rfl))⟩
 f22 := ⟨Tryz.f115.name, by decide, Tryz.func115.trans (congrArg some (by kernel_rfl))⟩
 f23 := ⟨Tryz.f116.name, by decide, Tryz.func116.trans (congrArg some (by kernel_rfl))⟩
 f24 := ⟨Tryz.f117.name, by decide, Tryz.func117.trans (congrArg some (by kernel_rfl))⟩
 f25 := ⟨Tryz.f118.name, by decide, Tryz.func118.trans (congrArg some (by kernel_rfl))⟩
 f26 := ⟨Tryz.f119.name, by decide, Tryz.func119.trans (congrArg some (by kernel_rfl))⟩
 f27 := ⟨Tryz.f120.name, by decide, Tryz.func120.trans (congrArg some (by kernel_rfl))⟩
 f28 := ⟨Tryz.f121.name, by decide, Tryz.func121.trans (congrArg some (by kernel_rfl))⟩
 f29 := ⟨Tryz.f122.name, by decide, Tryz.func122.trans (congrArg some (by kernel_rfl))⟩
 f31 := Tryz.func126.trans (congrArg some (by kernel_rfl))
 f32 := Tryz.func127.trans (congrArg some (by kernel_rfl))
 f36 := ⟨Tryz.f125.name, by decide, Tryz.func125.trans (congrArg some (by kernel_rfl))⟩
 f37 := ⟨Tryz.f128.name, by decide, Tryz.func128.trans (congrArg some (by kernel_rfl))⟩
 f38 := ⟨Tryz.f129.name, by decide, Tryz.func129.trans (congrArg some (by kernel_rfl))⟩
 f39 := ⟨Tryz.f130.name, by decide, Tryz.func130.trans (congrArg some (by kernel_rfl))⟩
 f41 := ⟨Tryz.f131.name, by decide, Tryz.func131.trans (congrArg some (by kernel_rfl))⟩
 t0 := Tryz.underlying0
 a0 := Tryz.isAgg0
 z0 := Tryz.sizeOf0
 v0 := Tryz.zeroValue0
 t3 := Tryz.underlying3
 a3 := Tryz.isAgg3
 z3 := Tryz.sizeOf3
 v3 := Tryz.zeroValue3
 t4 := Tryz.underlying4
 a4 := Tryz.isAgg4
 z4 := Tryz.sizeOf4
 v4 := Tryz.zeroValue4
 t5 := Tryz.underlying5
 a5 := Tryz.isAgg5
 z5 := Tryz.sizeOf5
 v5 := Tryz.zeroValue5
 t9 := Tryz.underlying9
 a9 := Tryz.isAgg9
 z9 := Tryz.sizeOf9
 v9 := Tryz.zeroValue9
 t26 := Tryz.underlying28
 a26 := Tryz.isAgg28
 z26 := Tryz.sizeOf28
 v26 := Tryz.zeroValue28
 t27 := Tryz.underlying28
 a27 := Tryz.isAgg28
 z27 := Tryz.sizeOf28
 v27 := Tryz.zeroValue28
 t29 := Tryz.underlying9
 a29 := Tryz.isAgg9
 z29 := Tryz.sizeOf9
 v29 := Tryz.zeroValue9
 t32 := Tryz.underlying167
 a32 := Tryz.isAgg167
 z32 := Tryz.sizeOf167
 v32 := Tryz.zeroValue167
 t35 := Tryz.underlying182
 a35 := Tryz.isAgg182
 z35 := Tryz.sizeOf182
 v35 := Tryz.zeroValue182
 t36 := Tryz.underlying183
 a36 := Tryz.isAgg183
 z36 := Tryz.sizeOf183
 v36 := Tryz.zeroValue183
 t41 := Tryz.underlying188
 a41 := Tryz.isAgg188
 z41 := Tryz.sizeOf188
 v41 := Tryz.zeroValue188
 t44 := Tryz.underlying191
 a44 := Tryz.isAgg191
 z44 := Tryz.sizeOf191
 v44 := Tryz.zeroValue191
 t46 := Tryz.underlying37
 a46 := Tryz.isAgg37
 z46 := Tryz.sizeOf37
 v46 := Tryz.zeroValue37
 t53 := Tryz.underlying193
 a53 := Tryz.isAgg193
 z53 := Tryz.sizeOf193
 v53 := Tryz.zeroValue193
 t57 := Tryz.underlying196
 a57 := Tryz.isAgg196
 z57 := Tryz.sizeOf196
 v57 := Tryz.zeroValue196
 t63 := Tryz.underlying198
 a63 := Tryz.isAgg198
 z63 := Tryz.sizeOf198
 v63 := Tryz.zeroValue198
 t64 := Tryz.underlying199
 a64 := Tryz.isAgg199
 z64 := Tryz.sizeOf199
 v64 := Tryz.zeroValue199 }
def Tryz.cloneL_ren : Go.Shelf.Ren := ⟨fun | 5 => 95 | 7 => 113 | n => n, fun | 23 => 73 | 25 => 9 | 3 => 54 | 4 => 4 | 20 => 20 | n => n, fun | n => n⟩
theorem Tryz.cloneL : Go.Proofs.SlLaysW.n5 Tryz.prog Tryz.cloneL_ren := {
 mixed := by kernel_rfl
 f5 := ⟨Tryz.f95.name, by decide, Tryz.func95.trans (congrArg some (by kernel_rfl))⟩
 f7 := Tryz.func113.trans (congrArg some (by kernel_rfl))
 t4 := Tryz.underlying4
 a4 := Tryz.isAgg4
 z4 := Tryz.sizeOf4
 v4 := Tryz.zeroValue4
 t20 := Tryz.underlying20
 a20 := Tryz.isAgg20
 z20 := Tryz.sizeOf20
 v20 := Tryz.zeroValue20
 t23 := Tryz.underlying73
 a23 := Tryz.isAgg73
 z23 := Tryz.sizeOf73
 v23 := Tryz.zeroValue73 }
end Go.Proofs
namespace Go.Proofs.YtmioifcbkhpdaaaGreat
set_option maxHeartbeats 16000000
set_option maxRecDepth 100000
open Go.RowKit
section
variable {P : Program} (t : TypeId) (h : P.underlying t = some .string) (l : List UInt8) (W : World)
include h
theorem sti_at (i : Nat) (hi : i < l.length) : (Instr.index t (.string (st l)) (.int .i64 (i : Int))).run P W = .ok (.int .u8 ((l[i]?.getD 0).toNat : Int)) W := by
 rw [run_index_string W t (st l) .i64 (i : Int) h, dif_pos ⟨by omega, by rw [zN]; omega⟩]
 congr 4
 rw [List.getElem?_eq_getElem hi, Option.getD_some];rfl
theorem st_index (i : Nat) (ii : Int) (e : ii = (i : Int)) (hi : i < l.length) : (Instr.index t (.string (st l)) (.int .i64 ii)).run P W = .ok (.int .u8 ((l[i]?.getD 0).toNat : Int)) W := by
 subst e;exact sti_at t h l W i hi
theorem st_to (k : Nat) (kk : Int) (e : kk = (k : Int)) (hk : k ≤ l.length) : (Instr.slice t (.string (st l)) none (some (.int .i64 kk)) none).run P W = .ok (.string (st (l.take k))) W := by
 subst e;rw [run_slice_string_h W t (st l) h .i64 (k : Int) (by omega) (by rw [zN]; omega), st_extract];simp
theorem st_from (k : Nat) (kk : Int) (e : kk = (k : Int)) (hk : k ≤ l.length) : (Instr.slice t (.string (st l)) (some (.int .i64 kk)) none none).run P W = .ok (.string (st (l.drop k))) W := by
 subst e;rw [run_slice_string_l W t (st l) h .i64 (k : Int) (by omega) (by rw [zN]; omega), st_extract, zN, List.take_of_length_le (by simp)];simp
theorem st_mid (j k : Nat) (jj kk : Int) (ej : jj = (j : Int)) (e : kk = (k : Int)) (hj : j ≤ k) (hk : k ≤ l.length) : (Instr.slice t (.string (st l)) (some (.int .i64 jj)) (some (.int .i64 kk)) none).run P W = .ok (.string (st ((l.drop j).take (k - j)))) W := by
 subst e ej;rw [run_slice_string_if, if_pos ⟨by omega, by rw [zN]; omega⟩, if_pos ⟨by omega, by omega⟩, st_extract]
 ·simp
 ·exact h
end
theorem st_beq (a b : List UInt8) : ((st a).toList == (st b).toList) = decide (a = b) := by
 rw [st_list, st_list]
 by_cases h : a = b <;> simp [h]
structure Strs (w : World) (S : Nat → Prop) (A : Option Addr) (n c : Nat) (l : List (List UInt8)) : Prop where
 len : l.length = n
 cap : n ≤ c
 max : c ≤ maxLen
 row : 0 < n → ∃ b off, A = some ⟨b, off, none⟩ ∧ S b ∧ b < w.heap.size ∧ ∀ i, i < n → w.cell? ⟨b, off + i, none⟩ = some (.string (st (l[i]?.getD [])))
section
variable {w w' : World} {S T : Nat → Prop} {A : Option Addr} {n c : Nat} {l : List (List UInt8)}
theorem Strs.below (h : Strs w S A n c l) (hb : Below w.heap.size w w') : Strs w' S A n c l :=
 ⟨h.len, h.cap, h.max, fun h0 => by
   obtain ⟨b, off, hA, hS, hlt, hc⟩ := h.row h0;exact ⟨b, off, hA, hS, Nat.lt_of_lt_of_le hlt hb.size, fun i hi => (hb.cell (p := ⟨_, _, none⟩) hlt).trans (hc i hi)⟩⟩
theorem Strs.turned (h : Strs w S A n c l) (ht : Turned T w w') (hd : ∀ b, b < w.heap.size → S b → ¬ T b) : Strs w' S A n c l :=
 ⟨h.len, h.cap, h.max, fun h0 => by
   obtain ⟨b, off, hA, hS, hlt, hc⟩ := h.row h0;exact ⟨b, off, hA, hS, Nat.lt_of_lt_of_le hlt ht.size, fun i hi => (World.cell?_of_block (w := w) (a := ⟨b, off + i, none⟩) (ht.block b hlt (hd b hlt hS))).trans (hc i hi)⟩⟩
theorem Strs.mono (h : Strs w S A n c l) (hT : ∀ b, b < w.heap.size → S b → T b) : Strs w T A n c l :=
 ⟨h.len, h.cap, h.max, fun h0 => by
   obtain ⟨b, off, hA, hS, hlt, hc⟩ := h.row h0;exact ⟨b, off, hA, hT b hlt hS, hlt, hc⟩⟩
theorem Strs.drew (h : Strs w S A n c l) : Strs w.drew S A n c l := ⟨h.len, h.cap, h.max, h.row⟩
theorem Strs.nil (w : World) (S : Nat → Prop) (A : Option Addr) (c : Nat) (hc : c ≤ maxLen) : Strs w S A 0 c [] := ⟨rfl, Nat.zero_le _, hc, fun h => absurd h (by omega)⟩
end
def yq (l : List (List UInt8)) : List Value := l.map fun x => .string (st x)
theorem strs_length (l : List (List UInt8)) : (yq l).length = l.length := by simp [yq]
theorem own_strs {w : World} {B : Nat} {e : TypeId} {v : Value} {n : Nat} {l : List (List UInt8)} (h : w.ownsRow B e 1 v n (yq l)) : ∃ A c, v = .slice A n c ∧ Strs w (B ≤ ·) A n c l := by
 have hl : l.length = n := by have := h.1; rw [strs_length] at this; omega
 rcases h.2 with ⟨rfl, h2⟩ | ⟨g, cap, cur, rfl, hb, hg, hnc, hm, _, _⟩
 ·subst h2;obtain rfl : l = [] := List.eq_nil_of_length_eq_zero hl;exact ⟨none, 0, rfl, Strs.nil _ _ _ _ (Nat.zero_le _)⟩
 ·refine ⟨_, cap, rfl, hl, hnc, hm, fun _ => ⟨g, 0, rfl, hb, (Array.getElem?_eq_some_iff.1 hg).1, fun i hi => ?_⟩⟩;have hil : i < l.length := by omega
  have := h.cells (g := g) rfl i (.string (st (l[i]?.getD []))) (by simp [yq, List.getElem?_map, List.getElem?_eq_getElem hil]);rw [zK] at this
  simpa using this
theorem strs_one (l : List (List UInt8)) : ∀ u ∈ yq l, u.oneCell' = true := by
 intro u hu;obtain ⟨x, _, rfl⟩ := List.mem_map.1 hu;rfl
theorem Strs.news {w : World} {S : Nat → Prop} {b off n c : Nat} {l : List (List UInt8)} (h : Strs w S (some ⟨b, off, none⟩) n c l) (h0 : 0 < n) : ∀ j u, (yq l)[j]? = some u → w.cell? ((⟨b, off, none⟩ : Addr).add j) = some u := by
 intro j u hj;obtain ⟨b', off', hA, _, _, hc⟩ := h.row h0;injection hA with hA
 injection hA with e1 e2
 subst e1 e2;have hjl : j < l.length := by have := (List.getElem?_eq_some_iff.1 hj).1; rwa [strs_length] at this
 rw [zK, hc j (by rw [← h.len]; exact hjl), ← hj, yq, List.getElem?_map, List.getElem?_eq_getElem hjl];rfl
theorem str_info2 : (Tryz.prog.info? 9).map (fun i => (i.zero, i.size, i.bytes)) = some (some (.string ByteArray.empty), 1, 16) := by kernel_rfl
theorem append_strs {W : World} {S : Nat → Prop} {A : Option Addr} {n c : Nat} {l : List (List UInt8)} (h : Strs W S A n c l) (h0 : 0 < n) (hn : n ≤ 1000000) (ty : TypeId) :
    ∃ g c' W', (Builtin.append_ #[28, 28] ty #[.slice none 0 0, .slice A n c]).run Tryz.prog W = .ok (.slice (some ⟨g, 0, none⟩) n c') W' ∧ W'.ownsRow W.heap.size 9 1 (.slice (some ⟨g, 0, none⟩) n c') n (yq l) ∧ Below W.heap.size W W' := by
 obtain ⟨i0, hi, hz0, hz1, hz2⟩ := info_parts str_info2;obtain ⟨b, off, rfl, _, _, _⟩ := h.row h0;obtain ⟨v', W', hrun, r1, r2, _⟩ := run_append_own (P := Tryz.prog) W W.heap.size 28 ty 9 i0 (.string ByteArray.empty) 1 16 Tryz.underlying28 hi hz0 hz1 hz2 rfl (by decide) (.slice none 0 0) 0 [] (World.ownsRow_nil _ _ _ _) ⟨b, off, none⟩ n c (yq l) (by rw [strs_length, h.len, Nat.mul_one]) (h.news h0) (strs_one l) (by unfold maxLen; omega) (by omega) (Nat.le_refl _);rw [List.nil_append, Nat.zero_add] at r1;obtain ⟨g, c', rfl, _⟩ := r1.form h0;exact ⟨g, c', W', hrun, r1, (Below.refl _ W).grown r2 (Nat.le_refl _) (by intro k hk; simp [Value.ownBlock] at hk)⟩
theorem strs_set (l : List (List UInt8)) (i : Nat) (x : List UInt8) : (yq l).set i (.string (st x)) = yq (l.set i x) := by simp [yq, List.map_set]
open Go.Maps Go.Sort Go.Shelf Codec
theorem sorts_wide (m : Nat) : AnyZ.SortsIn Tryz.prog Tryz.sortedL_ren Fence.wide m :=
 ⟨fun blk off cap ss W hH hblk hsz => callsIn_wide.2 (AnyM.slices_Sort_string Tryz.sortL blk off cap ss W hH hblk hsz),
  fun p cap W => callsIn_wide.2 (AnyM.slices_Sort_string_none Tryz.sortL p cap W)⟩
theorem keys_func (mb : Option Nat) (W : World) : Calls Tryz.prog 50 #[.map mb] W fun e w' => e = .returned (.func (.func 75) #[] #[.pointer (some ⟨W.heap.size, 0, none⟩)]) ∧ w' = W.alloc (.cells #[.map mb] 73) :=
 callsIn_wide.1 (AnyZ.keys_in Tryz.keysL Fence.wide 5 trivial rfl mb W)
theorem keys_sorted {w : World} {S : Nat → Prop} {b : Nat} {t : Tb} (h : Nms w S b t) (hf : t.length ≤ 100000000) :
    Calls Tryz.prog 49 #[.func (.func 75) #[] #[.pointer (some ⟨w.heap.size, 0, none⟩)]] (w.alloc (.cells #[.map (some b)] 73)) fun e w' => ∃ A n c, e = .returned (.slice A n c) ∧ Strs w' (w.heap.size ≤ ·) A n c (t.map (·.1)) ∧ Below w.heap.size w w' := by
 obtain ⟨_, D, hown, ha⟩ := h;have hbl := hown.lt;have hsz : Maps.size D ≤ 100000000 := by rw [ha.size]; exact hf
 have hseq : SeqGives Fence.wide 2 Tryz.prog 75 #[.pointer (some ⟨w.heap.size, 0, none⟩)] encStr (fun ss => ss.Perm (strKeys D)) (Maps.size D) (w.alloc (.cells #[.map (some b)] 73)) :=
  AnyZ.keys_gives (ρ := Tryz.keysL_ren) { Tryz.keysL with } Fence.wide _ trivial rfl (by omega) w.heap.size b t.length D _ (by simp) (by simp) (by
   obtain ⟨es, clock, hb, Ft, hs, hD⟩ := hown;exact ⟨es, clock, (Below.heap_alloc _ _ b hbl).trans hb, Ft, hs, hD⟩)
 have hS := AnyZ.sorted_in Tryz.sortedL Fence.wide 5 trivial trivial trivial trivial rfl (by omega) (sorts_wide _) (enters_of Tryz.func74 (by kernel_rfl) rfl) 75 #[.pointer (some ⟨w.heap.size, 0, none⟩)] trivial (enters_of Tryz.func75 (by kernel_rfl) rfl) _ _ (by unfold maxLen; omega) (by omega) _ hseq;refine (callsIn_wide.1 hS).mono ?_;rintro e w' ⟨v, ss, rfl, hperm, hrow, _, hb⟩;have hk := ha.keys hown hperm;rw [hk] at hrow;have hlen : ss.length = (t.map (·.1)).length := by rw [← hk, List.length_mergeSort]
 rw [hlen] at hrow;obtain ⟨A, c, rfl, hs⟩ := own_strs (l := t.map (·.1)) hrow;have hb0 : Below w.heap.size w (w.alloc (.cells #[.map (some b)] 73)) := (Below.refl _ _).alloc (Nat.le_refl _) _;exact ⟨A, _, c, rfl, hs.mono fun k _ hk => by have h1 : (w.alloc (.cells #[.map (some b)] 73)).heap.size ≤ k := hk; simp at h1; show w.heap.size ≤ k; omega, hb0.trans (hb.mono (by simp))⟩
end Go.Proofs.YtmioifcbkhpdaaaGreat
