/-
  A slice of strings that reads as a list of rows of bytes.
  Packs, the laws' words: texts, same.
  A digest (32 bytes): its size, its zero value.
  codec.Reader.Id.
  codec.Reader.Id of a reader that is none.
  The document's example at the head of each statement of layer 1: it answers true, and writes nothing that was there.
  The document's answers that the codec's statements use: how a number is put (by calling itself), and a row with its length.
  Packs, the reference: may, how many bytes a pack of blobs of sizes has.
  Packs: the reference's Put.
  How arguments are opened for my walks.
  How an array of bytes that came in is opened for my walks.
  A slice of digests (arrays of 32 bytes) that reads as a list of rows of bytes; how one that came in is opened.
-/
import Derived.Test.YtnbjhdlnibmgdaaDoorPk08
import Derived.Test.YtnbjhdlnibmgdaaDoorPk03
import Derived.Deep.AppendLies
import Derived.Test.YtnbjhdlnibmgdaaDoorPk02
import Derived.BigQuiet
import Derived.Test.YtnbjhdlnibmgdaaDoorPk06
import Derived.Deep.MidRow
import Derived.Lib.SlBytesConst
import Derived.Test.YtnbjhdlnibmgdaaDoorPk07
import Derived.Test.YtnbjhdlnibmgdaaDoorRows
import Derived.Test.YtnbjhdlnibmgdaaDoorPk01
import Derived.ProofKit
import Derived.OpenShut
import Derived.ShutString
import Derived.ChangeOld
import Derived.Deep.Strs
/-! A slice of strings that reads as a list of rows of bytes. -/
namespace Go.Proofs.YtnbjhdlnibmgdaaDoor
open Go.RowKit

/-- THE SLICE VALUE '.slice A n c' OF STRINGS READS AS l; its row, if it has any, lies in a block of S. -/
structure Strs (w : World) (S : Nat → Prop) (A : Option Addr) (n c : Nat) (l : List (List UInt8)) : Prop where
  len : l.length = n
  cap : n ≤ c
  max : c ≤ maxLen
  row : 0 < n → ∃ b off, A = some ⟨b, off, none⟩ ∧ S b ∧ b < w.heap.size ∧ ∀ i, i < n → w.cell? ⟨b, off + i, none⟩ = some (.string (st (l[i]?.getD [])))
section
variable {w w' : World} {S T : Nat → Prop} {A : Option Addr} {n c : Nat} {l : List (List UInt8)}
theorem Strs.below (h : Strs w S A n c l) (hb : Below w.heap.size w w') : Strs w' S A n c l :=
  ⟨h.len, h.cap, h.max, fun h0 => by
    obtain ⟨b, off, hA, hS, hlt, hc⟩ := h.row h0
    exact ⟨b, off, hA, hS, Nat.lt_of_lt_of_le hlt hb.size, fun i hi => (hb.cell (p := ⟨_, _, none⟩) hlt).trans (hc i hi)⟩⟩
theorem Strs.turned (h : Strs w S A n c l) (ht : Turned T w w') (hd : ∀ b, b < w.heap.size → S b → ¬ T b) : Strs w' S A n c l :=
  ⟨h.len, h.cap, h.max, fun h0 => by
    obtain ⟨b, off, hA, hS, hlt, hc⟩ := h.row h0
    exact ⟨b, off, hA, hS, Nat.lt_of_lt_of_le hlt ht.size, fun i hi => (World.cell?_of_block (w := w) (a := ⟨b, off + i, none⟩) (ht.block b hlt (hd b hlt hS))).trans (hc i hi)⟩⟩
theorem Strs.mono (h : Strs w S A n c l) (hT : ∀ b, b < w.heap.size → S b → T b) : Strs w T A n c l :=
  ⟨h.len, h.cap, h.max, fun h0 => by
    obtain ⟨b, off, hA, hS, hlt, hc⟩ := h.row h0
    exact ⟨b, off, hA, hT b hlt hS, hlt, hc⟩⟩
theorem Strs.drew (h : Strs w S A n c l) : Strs w.drew S A n c l := ⟨h.len, h.cap, h.max, h.row⟩
theorem Strs.drewN (h : Strs w S A n c l) (k : Nat) : Strs (w.drewN k) S A n c l := ⟨h.len, h.cap, h.max, h.row⟩
theorem Strs.nil (w : World) (S : Nat → Prop) (A : Option Addr) (c : Nat) (hc : c ≤ maxLen) : Strs w S A 0 c [] := ⟨rfl, Nat.zero_le _, hc, fun h => absurd h (by omega)⟩
end
def strs (l : List (List UInt8)) : List Value := l.map fun x => .string (st x)
theorem strs_length (l : List (List UInt8)) : (strs l).length = l.length := by simp [strs]
/-- A row of the call's own. -/
theorem own_strs {w : World} {B : Nat} {e : TypeId} {v : Value} {n : Nat} {l : List (List UInt8)} (h : w.ownsRow B e 1 v n (strs l)) : ∃ A c, v = .slice A n c ∧ Strs w (B ≤ ·) A n c l := by
  have hl : l.length = n := by have := h.1; rw [strs_length] at this; omega
  rcases h.2 with ⟨rfl, h2⟩ | ⟨g, cap, cur, rfl, hb, hg, hnc, hm, _, _⟩
  · subst h2
    obtain rfl : l = [] := List.eq_nil_of_length_eq_zero hl
    exact ⟨none, 0, rfl, Strs.nil _ _ _ _ (Nat.zero_le _)⟩
  · refine ⟨_, cap, rfl, hl, hnc, hm, fun _ => ⟨g, 0, rfl, hb, (Array.getElem?_eq_some_iff.1 hg).1, fun i hi => ?_⟩⟩
    have hil : i < l.length := by omega
    have := h.cells (g := g) rfl i (.string (st (l[i]?.getD []))) (by simp [strs, List.getElem?_map, List.getElem?_eq_getElem hil])
    rw [add_plain] at this
    simpa using this
theorem strs_one (l : List (List UInt8)) : ∀ u ∈ strs l, u.oneCell' = true := by
  intro u hu
  obtain ⟨x, _, rfl⟩ := List.mem_map.1 hu
  rfl
/-- What stands in the row that is read, for an append. -/
theorem Strs.news {w : World} {S : Nat → Prop} {b off n c : Nat} {l : List (List UInt8)} (h : Strs w S (some ⟨b, off, none⟩) n c l) (h0 : 0 < n) : ∀ j u, (strs l)[j]? = some u → w.cell? ((⟨b, off, none⟩ : Addr).add j) = some u := by
  intro j u hj
  obtain ⟨b', off', hA, _, _, hc⟩ := h.row h0
  injection hA with hA
  injection hA with e1 e2
  subst e1 e2
  have hjl : j < l.length := by have := (List.getElem?_eq_some_iff.1 hj).1; rwa [strs_length] at this
  rw [add_plain, hc j (by rw [← h.len]; exact hjl), ← hj, strs, List.getElem?_map, List.getElem?_eq_getElem hjl]
  rfl
theorem str_info2 : (Tryd.prog.info? 9).map (fun i => (i.zero, i.size, i.bytes)) = some (some (.string ByteArray.empty), 1, 16) := by kernel_rfl
/-- append of strings to no slice. -/
theorem append_strs {W : World} {S : Nat → Prop} {A : Option Addr} {n c : Nat} {l : List (List UInt8)} (h : Strs W S A n c l) (h0 : 0 < n) (hn : n ≤ 1000000) (ty : TypeId) :
    ∃ g c' W', (Builtin.append_ #[30, 30] ty #[.slice none 0 0, .slice A n c]).run Tryd.prog W = .ok (.slice (some ⟨g, 0, none⟩) n c') W' ∧ W'.ownsRow W.heap.size 9 1 (.slice (some ⟨g, 0, none⟩) n c') n (strs l) ∧ Below W.heap.size W W' := by
  obtain ⟨i0, hi, hz0, hz1, hz2⟩ := info_parts str_info2
  obtain ⟨b, off, rfl, _, _, _⟩ := h.row h0
  obtain ⟨v', W', hrun, r1, r2, _⟩ := run_append_own (P := Tryd.prog) W W.heap.size 30 ty 9 i0 (.string ByteArray.empty) 1 16 Tryd.underlying30 hi hz0 hz1 hz2 rfl (by decide) (.slice none 0 0) 0 [] (World.ownsRow_nil _ _ _ _) ⟨b, off, none⟩ n c (strs l) (by rw [strs_length, h.len, Nat.mul_one]) (h.news h0) (strs_one l) (by unfold maxLen; omega) (by omega) (Nat.le_refl _)
  rw [List.nil_append, Nat.zero_add] at r1
  obtain ⟨g, c', rfl, _⟩ := r1.form h0
  exact ⟨g, c', W', hrun, r1, (Below.refl _ W).grown r2 (Nat.le_refl _) (by intro k hk; simp [Value.ownBlock] at hk)⟩
theorem strs_set (l : List (List UInt8)) (i : Nat) (x : List UInt8) : (strs l).set i (.string (st x)) = strs (l.set i x) := by simp [strs, List.map_set]
end Go.Proofs.YtnbjhdlnibmgdaaDoor

/-! Packs, the laws' words: texts, same. -/
namespace Go.Proofs.YtnbjhdlnibmgdaaDoor
open Go.RowKit

/-- One string more. -/
theorem strs_push {W : World} {B : Nat} {v : Value} {l : List (List UInt8)} (h : W.ownsRow B 9 1 v l.length (strs l)) (x : List UInt8) (hB : B ≤ W.heap.size) (hn : l.length ≤ 1000000) :
    ∃ A' c' W1, (Builtin.append_ #[30, 30] 30 #[v, .slice (some ⟨W.heap.size, 0, none⟩) 1 1]).run Tryd.prog (W.alloc (.cells #[.string (st x)] 9)) = .ok (.slice A' (l.length + 1) c') W1 ∧
      W1.ownsRow B 9 1 (.slice A' (l.length + 1) c') (l.length + 1) (strs (l ++ [x])) ∧ Below B W W1 := by
  obtain ⟨i1, hi, hz0, hz1, hz2⟩ := info_parts str_info2
  have h2 : (W.alloc (.cells #[.string (st x)] 9)).ownsRow B 9 1 v l.length (strs l) := pk_keep h fun q hq => Below.heap_alloc _ _ _ (h.lt q hq).2
  obtain ⟨v', W1, hrun, g1, g2, _, _⟩ := run_append_own_at (P := Tryd.prog) (W.alloc (.cells #[.string (st x)] 9)) B 30 30 9 i1 (.string ByteArray.empty) 1 16 Tryd.underlying30 hi hz0 hz1 hz2 rfl (by decide) v _ _ h2 ⟨W.heap.size, 0, none⟩ 1 1 [.string (st x)] rfl
      (fun j u hj => by
        match j, hj with
        | 0, hj =>
          rw [add_plain, cell_of_cells (heap_alloc_new W _)]
          simpa using hj) (one_of rfl) (by unfold maxLen; omega) (by omega) (by simp; omega)
  obtain ⟨A', c', rfl⟩ := pk_slice g1
  refine ⟨A', c', W1, hrun, ?_, ((Below.refl B W).alloc hB _).grown g2 (by simp; omega) fun k hk => (h.lt k hk).1⟩
  rw [show strs (l ++ [x]) = strs l ++ [.string (st x)] by simp [strs]]
  exact g1
def TxR (w : World) (l : List (List UInt8)) (v i : Value) (wr : World) : Prop :=
  ∃ j : Nat, j ≤ l.length ∧ i = .int .i64 (j : Int) ∧ wr.ownsRow w.heap.size 9 1 v (l.take j).length (strs (l.take j)) ∧ Below w.heap.size w wr
set_option maxHeartbeats 4000000 in
set_option maxRecDepth 100000 in
theorem texts_any {w : World} {S : Nat → Prop} {A : Option Addr} {n c : Nat} {l : List (List UInt8)} (h : Rws w S A n c l) (hn : n ≤ 1000000) :
    Calls Tryd.prog 8 #[.slice A n c] w fun e w' => ∃ A' c', e = .returned (.slice A' l.length c') ∧ Strs w' (w.heap.size ≤ ·) A' l.length c' l ∧ Below w.heap.size w w' := by
  have HL := Lib.hid (And.intro h (And.intro h.len hn))
  clear h hn
  go_enter Tryd.func8, Tryd.ntmps8
  go_upto_region 3 with fail
  go_loopw [3, 4] (fun v i wr => TxR w l v i wr) (fun _ i _ => n - (intOf i).toNat)
  case atStart => exact ⟨0, Nat.zero_le _, rfl, by simpa [strs] using World.ownsRow_nil _ _ _ _, Below.refl _ _⟩
  case round =>
    obtain ⟨j, hj, rfl, hown, hb⟩ := hrel
    obtain ⟨Av, cv, rfl⟩ := pk_slice hown
    by_cases hlt : j < n
    · have hlt' : (j : Int) < (n : Int) := by omega
      obtain ⟨q, off, x, Ai, ci, rfl, _, hql, hx, hc, hy⟩ := HL.out.1.at_ hlt
      have hc0 := (hb.cell (p := ⟨q, off + j, none⟩) hql).trans hc
      have hyr := (hy.mono (T := fun k => k < w.heap.size) fun k hk _ => hk).below hb
      have hcs : (convert 24 9 (.slice Ai x.length ci)).run Tryd.prog wr = .ok (.string (st x)) wr := byt_string hyr
      have hadd := IntWalk.i64_in ((j : Int) + 1) (by have := HL.out.2.2; omega)
      have htl : (l.take j).length = j := by rw [List.length_take]; have := HL.out.2.1; omega
      obtain ⟨A', c', W1, hrun, hown1, hb1⟩ := strs_push hown x hb.size (by have := HL.out.2.2; omega)
      have H : Hid (W1.ownsRow w.heap.size 9 1 (.slice A' ((l.take j).length + 1) c') (l.take (j + 1)).length (strs (l.take (j + 1))) ∧ Below w.heap.size w W1 ∧ j < n) := Lib.hid ⟨by
        rw [take_snoc hx, List.length_append]
        exact hown1, hb.trans hb1, hlt⟩
      generalize (l.take j).length = m at *
      clear hown hb hx hc hy hyr hown1 hb1 htl hj hlt hql
      go_wp2_with (at_builtin; refine wpList_app (by rfl) _ _ 30 (by rfl) (by rfl) (by rfl) hrun ?_)
      go_roundw
      case rel => exact ⟨j + 1, by have h1 := H.out.2.2; have h2 := HL.out.2.1; omega, by simp, H.out.1, H.out.2.1⟩
      case measure => have := H.out.2.2; simp only [intOf]; omega
    · have hlt' : ¬ (j : Int) < (n : Int) := by omega
      have hfull : l.take j = l := List.take_of_length_le (by have := HL.out.2.1; omega)
      rw [hfull] at hown ⊢
      obtain ⟨A2, c2, e, hs⟩ := own_strs hown
      injection e with e1 _ e2
      subst e1 e2
      have H := Lib.hid (And.intro hs hb)
      obtain ⟨m, hm⟩ : ∃ m, m = l.length := ⟨_, rfl⟩
      rw [← hm] at H ⊢
      have HMM := Lib.hid hm
      clear hown hb hfull hlt hs hm hj
      go_wp2
      go_ret
      have hm := HMM.out
      subst hm
      exact ⟨Av, cv, rfl, H.out.1, H.out.2⟩
theorem Strs.at_ {w : World} {S : Nat → Prop} {A : Option Addr} {n c : Nat} {l : List (List UInt8)} (h : Strs w S A n c l) {j : Nat} (hj : j < n) : ∃ b off x, A = some ⟨b, off, none⟩ ∧ l[j]? = some x ∧ w.cell? ⟨b, off + j, none⟩ = some (.string (st x)) := by
  obtain ⟨b, off, hA, _, _, hc⟩ := h.row (by omega)
  exact ⟨b, off, _, hA, by rw [List.getElem?_eq_getElem (by have := h.len; omega)]; rfl, hc j hj⟩
def SmR (w : World) (n : Nat) (i : Value) (wr : World) : Prop := ∃ (j k : Nat), j ≤ n ∧ i = .int .i64 (j : Int) ∧ wr = w.drewN k
/-- Of two that are the same. -/
def SaPost (w : World) (B : Bool) (e : Ending) (w' : World) : Prop := e = .returned (.bool B) ∧ ∃ k, w' = w.drewN k
set_option maxHeartbeats 4000000 in
set_option maxRecDepth 100000 in
theorem psame_any {w : World} {S S2 : Nat → Prop} {A A2 : Option Addr} {n c n2 c2 : Nat} {l : List (List UInt8)} (h : Strs w S A n c l) (h2 : Strs w S2 A2 n2 c2 l) (hn : n ≤ 1000000) :
    Calls Tryd.prog 10 #[.slice A n c, .slice A2 n2 c2] w fun e w' => SaPost w true e w' := by
  obtain rfl : n = n2 := h.len.symm.trans h2.len
  have HL := Lib.hid (And.intro h (And.intro h2 hn))
  clear h h2 hn
  have hnn : ((n : Int) != (n : Int)) = false := by simp
  go_enter Tryd.func10, Tryd.ntmps10
  go_upto_region 4 with fail
  clear hnn
  go_loopw [5] (fun i wr => SmR w n i wr) (fun i _ => n - (intOf i).toNat)
  case atStart => exact ⟨0, 0, Nat.zero_le _, rfl, rfl⟩
  case round =>
    obtain ⟨j, k, hj, rfl, rfl⟩ := hrel
    by_cases hlt : j < n
    · have hlt' : (j : Int) < (n : Int) := by omega
      obtain ⟨b, off, x, rfl, hx, hc⟩ := HL.out.1.at_ hlt
      obtain ⟨b2, off2, x2, rfl, hx2, hc2⟩ := HL.out.2.1.at_ hlt
      obtain rfl : x = x2 := by rw [hx] at hx2; exact Option.some.inj hx2
      have hd1 : ∀ k, (w.drewN k).cell? ⟨b, off + j, none⟩ = some (.string (st x)) := fun _ => hc
      have hd2 : ∀ k, (w.drewN k).cell? ⟨b2, off2 + j, none⟩ = some (.string (st x)) := fun _ => hc2
      have hadd := IntWalk.i64_in ((j : Int) + 1) (by have := HL.out.2.2; omega)
      have HJ := Lib.hid hlt
      clear hx hx2 hc hc2 hj hlt
      go_wp2_with fail
      go_quiet (fail)
      go_wp2_with fail
      exact ⟨⟨j + 1, _, by have := HJ.out; omega, by simp, rfl⟩, by have := HJ.out; simp only [intOf]; omega⟩
    · have hlt' : ¬ (j : Int) < (n : Int) := by omega
      go_wp2
      go_ret
      exact ⟨rfl, k, rfl⟩
end Go.Proofs.YtnbjhdlnibmgdaaDoor

/-! A digest (32 bytes): its size, its zero value. -/
namespace Go.Proofs.YtnbjhdlnibmgdaaDoor
open Go.RowKit

theorem id_info : (Tryd.prog.info? 36).map (·.size) = some 32 := by kernel_rfl
def zerosId : Array Value := (u8s (List.replicate 32 0)).toArray
theorem zero_id : ∀ W, (zeroValue 36).run Tryd.prog W = .ok (.agg zerosId) W := fun W => by unfold zerosId; kernel_rfl
end Go.Proofs.YtnbjhdlnibmgdaaDoor

/-! codec.Reader.Id. -/
namespace Go.Proofs.YtnbjhdlnibmgdaaDoor
open Go.RowKit Codec

/-- The cells of the digest that is told. -/
def idL (l : List UInt8) (e : Int) : List UInt8 := if tkE l e 32 = 0 then l.take 32 else List.replicate 32 0
def idC (l : List UInt8) (e : Int) : Array Value := (u8s (idL l e)).toArray
theorem idL_length (l : List UInt8) (e : Int) : (idL l e).length = 32 := by
  unfold idL
  split
  · rename_i h
    obtain ⟨_, _, h1⟩ := tkE_zero h
    rw [List.length_take]
    have : (32 : Int).toNat = 32 := rfl
    omega
  · simp

theorem u8s_allc (l : List UInt8) : (u8s l).toArray.all (·.oneCell') = true := all_oneCell_toArray (u8s_one l)
theorem zeros32c : (u8s (List.replicate 32 0)).toArray = #[.int .u8 0, .int .u8 0, .int .u8 0, .int .u8 0, .int .u8 0, .int .u8 0, .int .u8 0, .int .u8 0, .int .u8 0, .int .u8 0, .int .u8 0, .int .u8 0, .int .u8 0, .int .u8 0, .int .u8 0, .int .u8 0,
    .int .u8 0, .int .u8 0, .int .u8 0, .int .u8 0, .int .u8 0, .int .u8 0, .int .u8 0, .int .u8 0, .int .u8 0, .int .u8 0, .int .u8 0, .int .u8 0, .int .u8 0, .int .u8 0, .int .u8 0, .int .u8 0] := by rfl
theorem gr_setRow {a w : World} {row : Option Nat} (h : a.grownBy w row) {g : Nat} (hg : a.heap.size ≤ g) (cs : Array Value) : a.grownBy (w.setRow g cs) row :=
  ⟨h.os, h.tape, h.output, by simpa [World.setRow] using h.size, fun i hi hne => by
    rw [← h.block i hi hne]
    simp only [World.setRow, Array.getElem?_modify]
    rw [if_neg (by omega)]⟩
theorem gr_of_alloc {w w1 : World} {o : Obj} {row : Option Nat} (h : (w.alloc o).grownBy w1 row) : w.grownBy w1 row := gr_trans (gr_alloc (gr_refl w row) o) h
theorem gr_row (w : World) (g : Nat) (cs : Array Value) : w.grownBy (w.setRow g cs) (some g) :=
  ⟨rfl, rfl, rfl, by simp [World.setRow], fun i hi hne => by
    simp only [World.setRow, Array.getElem?_modify]
    rw [if_neg (fun e => hne (by rw [e]))]⟩

theorem run_storeAt_row {P : Program} (w : World) (g : Nat) (ty : TypeId) (cells : List Value) (old : Array Value) {t : TypeId} (hg : w.heap[g]? = some (.cells old t (0, 0))) (hi : (P.info? ty).map (·.size) = some cells.toArray.size)
    (ho : old.size = cells.toArray.size) (h1 : cells.toArray.all (·.oneCell') = true) :
    (Instr.storeAt ty (.pointer (some ⟨g, 0, none⟩)) (.agg cells.toArray)).run P w = .ok () (w.setRow g cells.toArray) := by
  simp only [Instr.storeAt, Instr.sureAddr, Sem.run_bind, Sem.run_pure, Result.andThen_ok]
  exact run_storeVar_row w g t ty old cells.toArray hg hi ho h1

theorem run_arrayAt {P : Program} (w : World) (t : TypeId) (n : Nat) (e : TypeId) (hu : P.underlying t = some (.array n e)) (A : Option Addr) (len c : Nat) (hn : n ≤ len) :
    (Instr.arrayAt t (.slice A len c)).run P w = .ok (.pointer A) w := by
  simp [Instr.arrayAt, Sem.run_bind, run_underlying hu]
  omega

def Z32 : Array Value := (u8s (List.replicate 32 0)).toArray
theorem build_id : ∀ w, (Instr.build 36 #[]).run Tryd.prog w = .ok (.agg Z32) w := by
  intro w
  unfold Z32
  rw [zeros32c]
  kernel_rfl

/-- An operation 'T{}' of a struct or an array, its value by a closed fact. -/
theorem wpList_build0 {P : Program} {ops : Array Oper} {rest : List Oper} {op : Oper} {a : Act} {w : World} {Q : Exit → Act → World → Prop} (hgd : op.guard = none) (t : TypeId) (ho : op.op = .build t #[]) (v : Value)
    (hb : ∀ w, (Instr.build t #[]).run P w = .ok v w) (h : wpList P ops Q rest (a.put op.dst v) w) : wpList P ops Q (op :: rest) a w :=
  wpList_plain hgd fun _ hK => by
    unfold Oper.wp execOp
    simp only [ho, List.map_toArray, List.map_nil, hb, Sem.run_bind, Sem.run_pure, Result.andThen_ok]
    exact hK _ _ h

end Go.Proofs.YtnbjhdlnibmgdaaDoor

/-! codec.Reader.Id of a reader that is none. -/
namespace Go.Proofs.YtnbjhdlnibmgdaaDoor
open Go.RowKit Codec

end Go.Proofs.YtnbjhdlnibmgdaaDoor

/-! The document's example at the head of each statement of layer 1: it answers true, and writes nothing that was there. -/
namespace Go.Proofs.YtnbjhdlnibmgdaaDoor
open Go.RowKit Codec

theorem Wr.drew {w : World} {S : Nat → Prop} {p : Nat} {l : List UInt8} (h : Wr w S p l) : Wr w.drew S p l := h.turned (T := fun _ => False) ((Turned.refl _ w).drew) (fun _ _ _ hf => hf)
theorem Rd.drew {w : World} {S : Nat → Prop} {p : Nat} {l : List UInt8} {e : Int} (h : Rd w S p l e) : Rd w.drew S p l e := h.turned (T := fun _ => False) ((Turned.refl _ w).drew) (fun _ _ _ hf => hf)
theorem Wr.drewN {w : World} {S : Nat → Prop} {p : Nat} {l : List UInt8} (h : Wr w S p l) (k : Nat) : Wr (w.drewN k) S p l := h.turned (T := fun _ => False) ((Turned.refl _ w).drewN k) (fun _ _ _ hf => hf)
theorem Rd.drewN {w : World} {S : Nat → Prop} {p : Nat} {l : List UInt8} {e : Int} (h : Rd w S p l e) (k : Nat) : Rd (w.drewN k) S p l e := h.turned (T := fun _ => False) ((Turned.refl _ w).drewN k) (fun _ _ _ hf => hf)


theorem put300 : put 300 = [172, 2] := by rw [put_big (by omega), put_small (by omega)]; rfl
theorem put2 : put 2 = [2] := by rw [put_small (by omega)]; rfl

end Go.Proofs.YtnbjhdlnibmgdaaDoor

/-! The document's answers that the codec's statements use: how a number is put (by calling itself), and a row with its length. -/
namespace Go.Proofs.YtnbjhdlnibmgdaaDoor
open Go.RowKit Codec

def strB (l : List UInt8) : ByteArray := ⟨l.toArray⟩
theorem strB_append (l m : List UInt8) : strB l ++ strB m = strB (l ++ m) := by
  apply ByteArray.ext; simp [strB]

/-- One byte in a slice of its own. -/
theorem byt_one (w : World) (v : UInt8) : Byt (w.alloc (.cells #[.int .u8 (v.toNat : Int)] 5)) (w.heap.size ≤ ·) (some ⟨w.heap.size, 0, none⟩) 1 1 [v] :=
  ⟨rfl, Nat.le_refl _, by unfold maxLen; omega, fun _ => ⟨w.heap.size, 0, rfl, Nat.le_refl _, by simp, fun i hi => by
    obtain rfl : i = 0 := by omega
    rw [cell_of_cells (heap_alloc_new w _)]; rfl⟩⟩
/-- 'string([]byte{v})'. -/
theorem str_one (w : World) (v : UInt8) : (convert 24 9 (.slice (some ⟨w.heap.size, 0, none⟩) 1 1)).run Tryd.prog (w.alloc (.cells #[.int .u8 (v.toNat : Int)] 5)) = .ok (.string (strB [v])) (w.alloc (.cells #[.int .u8 (v.toNat : Int)] 5)) :=
  byt_string (byt_one w v)
theorem u8_small {x : Nat} (h : x < 256) : ((UInt8.ofNat x).toNat : Int) = (x : Int) := by simp; omega

theorem wrap_quo (x : Nat) (hx : x < 18446744073709551616) : IntKind.u64.wrap ((x : Int) / 128) = ((x / 128 : Nat) : Int) := by
  have : ((x : Int) / 128) = ((x / 128 : Nat) : Int) := by omega
  rw [this]; unfold IntKind.wrap; simp [IntKind.signed, IntKind.bits]; omega
theorem wrap_byte (x : Nat) : IntKind.u8.wrap (IntKind.u64.wrap ((x : Int).tmod 128 + 128)) = ((UInt8.ofNat (x % 128 + 128)).toNat : Int) := by
  have e : (x : Int).tmod 128 = ((x % 128 : Nat) : Int) := by
    rw [Int.tmod_eq_emod_of_nonneg (by omega)]; omega
  have h2 : x % 128 < 128 := Nat.mod_lt _ (by omega)
  rw [e, u8_small (by omega)]
  have e2 : IntKind.u64.wrap (((x % 128 : Nat) : Int) + 128) = ((x % 128 + 128 : Nat) : Int) := by unfold IntKind.wrap; simp [IntKind.signed, IntKind.bits]; omega
  rw [e2]; unfold IntKind.wrap; simp [IntKind.signed, IntKind.bits]; omega

set_option maxHeartbeats 2000000 in
set_option maxRecDepth 100000 in
theorem ref_put_small (x : Nat) (w : World) (h : x < 128) : Calls Tryd.prog 37 #[.int .u64 x] w fun e w' => e = .returned (.string (strB (put x))) ∧ Below w.heap.size w w' := by
  rw [put_small h]
  have hcv := str_one w (UInt8.ofNat x)
  rw [u8_small (by omega)] at hcv
  go_enter Tryd.func37, Tryd.ntmps37
  go_wp2_with fail
  go_ret
  exact ⟨rfl, (Below.refl _ _).alloc (Nat.le_refl _) _⟩

set_option maxHeartbeats 2000000 in
set_option maxRecDepth 100000 in
theorem ref_put : ∀ (k x : Nat) (w : World), x < 128 ^ k → x < 18446744073709551616 → Calls Tryd.prog 37 #[.int .u64 x] w fun e w' => e = .returned (.string (strB (put x))) ∧ Below w.heap.size w w' := by
  intro k
  induction k with
  | zero =>
    intro x w hx hx2
    have hx : x < 1 := by simpa using hx
    exact ref_put_small x w (by omega)
  | succ k ih =>
    intro x w hx hx2
    by_cases h : x < 128
    · exact ref_put_small x w h
    · rw [put_big (by omega)]
      have hq : x / 128 < 128 ^ k := by
        rw [Nat.pow_succ] at hx; exact Nat.div_lt_of_lt_mul (by omega)
      have hq2 : x / 128 < 18446744073709551616 := by omega
      have WQ := Lib.hid (wrap_quo x hx2)
      have WB := Lib.hid (wrap_byte x)
      have IH := fun w => ih (x / 128) w hq hq2
      clear ih
      obtain ⟨v, hv⟩ : ∃ v, UInt8.ofNat (x % 128 + 128) = v := ⟨_, rfl⟩
      obtain ⟨y, hy⟩ : ∃ y, x / 128 = y := ⟨_, rfl⟩
      have HS := Lib.hid (strB_append [v] (put y))
      rw [hv] at WB ⊢
      rw [hy] at WQ IH ⊢
      have HZ : Hid (¬ 9223372036854775807 < 1 + (strB (put y)).size) := Lib.hid (by
        have := put_length_64 (x := y) (by omega)
        rw [show (strB (put y)).size = (put y).length by simp [strB, ByteArray.size]]; omega)
      clear hv hy hq hq2
      go_enter Tryd.func37, Tryd.ntmps37
      go_wp2_with fail
      refine wp_region_tree (fun W => Below w.heap.size w W) (.two [0, 1, 2, 3, 6, 7] 4 (.one [5] 8 (.last [9, 10])) 8 (.one [] 4 (.last [5, 9, 10]))) (by kernel_rfl) (by kernel_rfl) (fun _ _ d _ _ h => by cases d <;> exact h) ((Below.refl _ _).drew) ?_
      refine tree_two ?_
      refine seg_read ?v1 (by rfl) (by rfl) ?h1 ?_
      case h1 => intro W hW; go_simp; with_reducible rfl
      try simp only [Act.put, List.setIfInBounds_toArray, List.set_cons_zero, List.set_cons_succ]
      refine seg_read ?v2 (by rfl) (by rfl) ?h2 ?_
      case h2 => intro W hW; go_simp; with_reducible rfl
      try simp only [Act.put, List.setIfInBounds_toArray, List.set_cons_zero, List.set_cons_succ]
      refine seg_read ?v3 (by rfl) (by rfl) ?h3 ?_
      case h3 => intro W hW; go_simp; with_reducible rfl
      try simp only [Act.put, List.setIfInBounds_toArray, List.set_cons_zero, List.set_cons_succ]
      refine seg_read ?v4 (by rfl) (by rfl) ?h4 ?_
      case h4 => intro W hW; go_simp; with_reducible rfl
      try simp only [Act.put, List.setIfInBounds_toArray, List.set_cons_zero, List.set_cons_succ]
      refine seg_read ?v5 (by rfl) (by rfl) ?h5 ?_
      case h5 => intro W hW; go_simp; with_reducible rfl
      try simp only [Act.put, List.setIfInBounds_toArray, List.set_cons_zero, List.set_cons_succ]
      refine seg_read ?v6 (by rfl) (by rfl) ?h6 ?_
      case h6 => intro W hW; go_simp; with_reducible rfl
      try simp only [Act.put, List.setIfInBounds_toArray, List.set_cons_zero, List.set_cons_succ]
      rw [WQ.out, WB.out]
      refine seg_nil ⟨?_, ?_⟩
      · refine eff_step (by rfl) (fun K hK => ?_)
        go_simp
        obtain ⟨w1, hw1⟩ : ∃ w1, w1 = (w.alloc (.cells #[.int .u8 (v.toNat : Int)] 5)).drew := ⟨_, rfl⟩
        have hb1 : Below w.heap.size w w1 := by rw [hw1]; exact ((Below.refl _ _).alloc (Nat.le_refl _) _).drew
        have hY : Byt w1 (w.heap.size ≤ ·) (some ⟨w.heap.size, 0, none⟩) 1 1 [v] := by
          rw [hw1]; exact (byt_one w _).below ((Below.refl _ _).drew)
        rw [← hw1]
        clear hw1
        refine hK _ _ ⟨fun W => Below w1.heap.size w1 W, Below.refl _ _, fun W h => hb1.trans (h.mono hb1.size), ?_⟩
        clear hK K
        refine tree_one ?_
        refine seg_read ?v7 (by rfl) (by rfl) ?h7 ?_
        case h7 => intro W hW; have hcv := byt_string (hY.below hW); go_simp; with_reducible rfl
        try simp only [Act.put, List.setIfInBounds_toArray, List.set_cons_zero, List.set_cons_succ]
        refine seg_nil ?_
        refine eff_step (by rfl) (fun K hK => ?_)
        go_simp
        refine (IH _).mono ?_
        rintro _ w2 ⟨rfl, hb2⟩
        refine hK _ _ ⟨fun W => W = w2, rfl, fun W e => e ▸ hb2, ?_⟩
        clear hK K
        refine tree_last ?_
        refine seg_step (by rfl) (fun K hK => ?_)
        go_simp
        refine ⟨_, if_neg HZ.out, ?_⟩
        refine hK _ ?_
        clear hK K
        refine seg_step (by rfl) (fun K hK => ?_)
        go_simp
        refine hK _ ?_
        clear hK K
        refine seg_nil ?_
        go_wp2
        go_ret
        exact ⟨by rw [show (⟨[v].toArray⟩ : ByteArray) = strB [v] from rfl, HS.out]; rfl, hb1.trans (hb2.mono hb1.size)⟩
      · refine eff_step (by rfl) (fun K hK => ?_)
        go_simp
        refine (IH _).mono ?_
        rintro _ w2 ⟨rfl, hb2⟩
        have hb2 : Below w.heap.size w w2 := ((Below.refl _ w).drew).trans hb2
        refine hK _ _ ⟨fun W => Below w2.heap.size w2 W, Below.refl _ _, fun W h => hb2.trans (h.mono hb2.size), ?_⟩
        clear hK K
        refine tree_one ?_
        refine seg_nil ?_
        refine eff_step (by rfl) (fun K hK => ?_)
        go_simp
        obtain ⟨w3, hw3⟩ : ∃ w3, w3 = (w2.alloc (.cells #[.int .u8 (v.toNat : Int)] 5)) := ⟨_, rfl⟩
        have hb3 : Below w2.heap.size w2 w3 := by rw [hw3]; exact ((Below.refl _ _).alloc (Nat.le_refl _) _)
        have hY := byt_string (byt_one w2 v)
        rw [← hw3] at hY ⊢
        clear hw3
        refine hK _ _ ⟨fun W => W = w3, rfl, fun W e => e ▸ hb3, ?_⟩
        clear hK K
        refine tree_last ?_
        refine seg_step (by rfl) (fun K hK => ?_)
        go_simp
        refine hK _ ?_
        clear hK K
        refine seg_step (by rfl) (fun K hK => ?_)
        go_simp
        refine ⟨_, if_neg HZ.out, ?_⟩
        refine hK _ ?_
        clear hK K
        refine seg_step (by rfl) (fun K hK => ?_)
        go_simp
        refine hK _ ?_
        clear hK K
        refine seg_nil ?_
        go_wp2
        go_ret
        exact ⟨by rw [show (⟨[v].toArray⟩ : ByteArray) = strB [v] from rfl, HS.out]; rfl, hb2.trans (hb3.mono hb2.size)⟩

theorem strB_size (l : List UInt8) : (strB l).size = l.length := by simp [strB, ByteArray.size]

set_option maxHeartbeats 2000000 in
set_option maxRecDepth 100000 in
theorem ref_with (l : List UInt8) (w : World) (hl : l.length ≤ 140737488355328) : Calls Tryd.prog 38 #[.string (strB l)] w fun e w' => e = .returned (.string (strB (put l.length ++ l))) ∧ Below w.heap.size w w' := by
  have hp := fun w => ref_put 10 l.length w (by omega) (by omega)
  have HS := Lib.hid (strB_append (put l.length) l)
  have HL := Lib.hid (strB_size l)
  have h10 := put_length_64 (x := l.length) (by omega)
  have hsz : ¬ 9223372036854775807 < (strB (put l.length)).size + (strB l).size := by rw [strB_size, strB_size]; omega
  have HZ := Lib.hid hsz
  clear hsz h10
  go_enter Tryd.func38, Tryd.ntmps38
  go_wp2_with fail
  rw [HL.out, show IntKind.u64.wrap (l.length : Int) = (l.length : Int) by unfold IntKind.wrap; simp [IntKind.signed, IntKind.bits]; omega]
  refine (hp _).mono ?_
  rintro _ w1 ⟨rfl, hb⟩
  have hsz := HZ.out
  go_wp2_with fail
  go_ret
  exact ⟨rfl, hb⟩
end Go.Proofs.YtnbjhdlnibmgdaaDoor

/-! Packs, the reference: may, how many bytes a pack of blobs of sizes has. -/
namespace Go.Proofs.YtnbjhdlnibmgdaaDoor
open Go.RowKit Codec

theorem prmay_any (s : Int) (w : World) : Calls Tryd.prog 21 #[.int .i64 s] w fun e w' => e = .returned (.bool (pkMay s)) ∧ w = w' := by
  unfold pkMay
  by_cases h1 : 41 ≤ s
  · by_cases h2 : s ≤ 65577
    · go_enter Tryd.func21, Tryd.ntmps21
      go_wp2
      go_ret
      simp [h1, h2]
    · go_enter Tryd.func21, Tryd.ntmps21
      go_wp2
      go_ret
      simp [h2]
  · go_enter Tryd.func21, Tryd.ntmps21
    go_wp2
    go_ret
    simp; omega
theorem prput_num (n : Nat) (hn : n < 18446744073709551616) (W : World) : Calls Tryd.prog 37 #[.int .u64 (n : Int)] W fun e w' => e = .returned (.string (st (put n))) ∧ Below W.heap.size W w' :=
  ref_put 10 n W (Nat.lt_of_lt_of_le hn (by decide)) hn
def sumE (l : List Nat) : Nat := (l.map pkE).sum
theorem sumE_snoc (l : List Nat) (s : Nat) : sumE (l ++ [s]) = sumE l + pkE s := by simp [sumE]
theorem sumE_le : ∀ (l : List Nat), (∀ s ∈ l, s ≤ 65577) → sumE l ≤ 65580 * l.length
  | [], _ => by simp [sumE]
  | s :: l, h => by
    have ih := sumE_le l fun x hx => h x (List.mem_cons_of_mem _ hx)
    have h1 := h s List.mem_cons_self
    have h2 := lnN_3 (x := s) (by omega)
    have e : sumE (s :: l) = pkE s + sumE l := by simp [sumE]
    rw [e, List.length_cons]
    simp only [pkE]
    omega
def szN (l : List Nat) : Nat := lnN l.length + sumE l
theorem natI_at {l : List Nat} {j : Nat} (h : j < l.length) : (natI l)[j]?.getD 0 = ((l[j]?.getD 0 : Nat) : Int) := by
  unfold natI
  rw [List.getElem?_map, List.getElem?_eq_getElem h]
  rfl
def SzR (w : World) (l : List Nat) (v i : Value) (wr : World) : Prop := ∃ j : Nat, j ≤ l.length ∧ i = .int .i64 (j : Int) ∧ v = .int .i64 ((lnN l.length + sumE (l.take j) : Nat) : Int) ∧ Below w.heap.size w wr
end Go.Proofs.YtnbjhdlnibmgdaaDoor

/-! Packs: the reference's Put. -/
namespace Go.Proofs.YtnbjhdlnibmgdaaDoor
open Go.RowKit Codec

def RbR (w : World) (l : List (List UInt8)) (s i : Value) (wr : World) : Prop := ∃ j : Nat, j ≤ l.length ∧ i = .int .i64 (j : Int) ∧ s = .string (st (put l.length ++ pkBs (l.take j))) ∧ Below w.heap.size w wr
set_option maxHeartbeats 4000000 in
set_option maxRecDepth 100000 in
theorem prbytes_any {w : World} {S : Nat → Prop} {A : Option Addr} {n c : Nat} {l : List (List UInt8)} (h : Strs w S A n c l) (hn : n ≤ 1024) (hl : ∀ b ∈ l, b.length ≤ 65577) :
    Calls Tryd.prog 22 #[.slice A n c] w fun e w' => e = .returned (.string (st (pkB l))) ∧ Below w.heap.size w w' := by
  have hpu := prput_num n (by omega) w
  have hcv := IntWalk.u64_in (n : Int) (by omega)
  have HL := Lib.hid (And.intro h (And.intro h.len (And.intro hn hl)))
  obtain ⟨PS, hPS⟩ : ∃ PS, PS = st (put n) := ⟨_, rfl⟩
  rw [← hPS] at hpu
  have HP : Hid (PS = st (put l.length ++ pkBs (l.take 0))) := Lib.hid (by rw [hPS, h.len]; simp [pkBs])
  clear h hn hl hPS
  go_enter Tryd.func22, Tryd.ntmps22
  go_upto_region 3 with (go_at_call 37; refine hpu.mono ?_; clear hpu; rintro _ w1 ⟨rfl, hb1⟩; have HB1 := Lib.hid hb1; clear hb1)
  clear hcv
  go_loopw [3, 4] (fun s i wr => RbR w l s i wr) (fun _ i _ => n - (intOf i).toNat)
  case atStart => exact ⟨0, Nat.zero_le _, rfl, by rw [HP.out], HB1.out⟩
  case round =>
    obtain ⟨j, hj, rfl, rfl, hb⟩ := hrel
    clear HB1 HP
    by_cases hlt : j < n
    · have hlt' : (j : Int) < (n : Int) := by omega
      obtain ⟨b, off, x, rfl, hx, hc⟩ := HL.out.1.at_ hlt
      have hc0 := (hb.cell (p := ⟨b, off + j, none⟩) (World.block_lt_of_cell? _ _ hc)).trans hc
      have hxl := HL.out.2.2.2 x (List.mem_of_getElem? hx)
      have hwi : Calls Tryd.prog 38 #[.string (st x)] wr fun e w' => e = .returned (.string (st (put x.length ++ x))) ∧ Below wr.heap.size wr w' := ref_with x wr (by omega)
      have hadd := IntWalk.i64_in ((j : Int) + 1) (by have := HL.out.2.2.1; omega)
      have hs1 := pkSum_le (l.take j) fun y hy => HL.out.2.2.2 y (List.mem_of_mem_take hy)
      have htl : (l.take j).length ≤ 1024 := by rw [List.length_take]; have := HL.out.2.2.1; omega
      have hpl := put_length_64 (x := l.length) (by have h1 := HL.out.2.1; have h2 := HL.out.2.2.1; omega)
      have hpx := put_length_64 (x := x.length) (by omega)
      obtain ⟨SA, hSA⟩ : ∃ SA, SA = st (put l.length ++ pkBs (l.take j)) := ⟨_, rfl⟩
      obtain ⟨SX, hSX⟩ : ∃ SX, SX = st (put x.length ++ x) := ⟨_, rfl⟩
      have hsz : ¬ 9223372036854775807 < SA.size + SX.size := by
        rw [hSA, hSX, st_size, st_size, List.length_append, List.length_append, pkBs_len]
        omega
      have HS : Hid (SA ++ SX = st (put l.length ++ pkBs (l.take (j + 1)))) := Lib.hid (by rw [hSA, hSX, st_app, take_snoc hx, pkBs_snoc, List.append_assoc])
      rw [← hSX] at hwi
      rw [← hSA]
      have HB := Lib.hid (And.intro hb hlt)
      clear hc hx hxl hs1 htl hpl hpx hSA hSX hb hj hlt
      go_wp2_with (go_at_call 38; refine hwi.mono ?_; clear hwi; rintro _ w2 ⟨rfl, hb2⟩; have HB2 := Lib.hid hb2; clear hb2)
      go_roundw
      case rel => exact ⟨j + 1, by have h1 := HB.out.2; have h2 := HL.out.2.1; omega, by simp, by rw [HS.out], HB.out.1.trans (HB2.out.mono HB.out.1.size)⟩
      case measure => have := HB.out.2; simp only [intOf]; omega
    · have hlt' : ¬ (j : Int) < (n : Int) := by omega
      have HS : Hid (st (put l.length ++ pkBs (l.take j)) = st (pkB l)) := Lib.hid (by rw [List.take_of_length_le (by have := HL.out.2.1; omega)]; rfl)
      obtain ⟨SA, hSA⟩ : ∃ SA, SA = st (put l.length ++ pkBs (l.take j)) := ⟨_, rfl⟩
      rw [← hSA] at HS ⊢
      have HB := Lib.hid hb
      clear hSA hb hj hlt
      go_wp2
      go_ret
      exact ⟨by rw [← HS.out]; rfl, HB.out⟩
def RpR (w : World) (l : List (List UInt8)) (i : Value) (wr : World) : Prop := ∃ j : Nat, j ≤ l.length ∧ i = .int .i64 (j : Int) ∧ (l.take j).all (fun b => pkMay b.length) = true ∧ wr = w
theorem putPB_no {l : List (List UInt8)} {E : Int} (h : putPE l = E) (h0 : E ≠ 0) : putPB l = [] := by unfold putPB; rw [if_neg (by rw [h]; exact h0)]
set_option maxHeartbeats 4000000 in
set_option maxRecDepth 100000 in
theorem prput_any {w : World} {S : Nat → Prop} {A : Option Addr} {n c : Nat} {l : List (List UInt8)} (h : Strs w S A n c l) :
    Calls Tryd.prog 7 #[.slice A n c] w fun e w' => e = .returned (.tuple #[.string (st (putPB l)), .int .i64 (putPE l)]) ∧ Below w.heap.size w w' := by
  have HL := Lib.hid (And.intro h h.len)
  clear h
  by_cases h1 : n < 1
  · have h1' : (n : Int) < 1 := by omega
    have HE : Hid (putPE l = 1) := Lib.hid (by unfold putPE; rw [if_pos (.inl (by have := HL.out.2; omega))])
    clear h1
    go_enter Tryd.func7, Tryd.ntmps7
    go_wp2
    go_ret2
    exact ⟨by rw [HE.out, putPB_no HE.out (by decide)]; rfl, Below.refl _ _⟩
  have h1' : ¬ (n : Int) < 1 := by omega
  by_cases h2 : 1024 < n
  · have h2' : (n : Int) > 1024 := by omega
    have HE : Hid (putPE l = 1) := Lib.hid (by unfold putPE; rw [if_pos (.inr (by have := HL.out.2; omega))])
    clear h1 h2
    go_enter Tryd.func7, Tryd.ntmps7
    go_wp2
    go_ret2
    exact ⟨by rw [HE.out, putPB_no HE.out (by decide)]; rfl, Below.refl _ _⟩
  have h2' : ¬ (n : Int) > 1024 := by omega
  have HN : Hid (n ≤ 1024 ∧ ¬ n < 1) := Lib.hid ⟨by omega, h1⟩
  have HE : Hid (putPE l = if l.all (fun b => pkMay b.length) = false then 1 else if 1048576 < lnN l.length + pkSum l then 13 else 0) := Lib.hid (by unfold putPE; rw [if_neg (by have := HL.out.2; omega)])
  clear h1 h2
  go_enter Tryd.func7, Tryd.ntmps7
  go_upto_region 4 with fail
  go_loopw [4, 5] (fun i _ wr => RpR w l i wr) (fun i _ _ => n - (intOf i).toNat)
  case atStart => exact ⟨0, Nat.zero_le _, rfl, rfl, rfl⟩
  case round =>
    obtain ⟨j, hj, rfl, hall, hww⟩ := hrel
    have hww := hww.symm
    subst hww
    clear hww
    have HA := Lib.hid hall
    clear hall
    by_cases hlt : j < n
    · have hlt' : (j : Int) < (n : Int) := by omega
      obtain ⟨b, off, x, rfl, hx, hc⟩ := HL.out.1.at_ hlt
      have hxs := st_size x
      obtain ⟨xn, hxn⟩ : ∃ xn, xn = x.length := ⟨_, rfl⟩
      rw [← hxn] at hxs
      obtain ⟨SX, hSX⟩ : ∃ SX, SX = st x := ⟨_, rfl⟩
      rw [← hSX] at hc hxs
      have hmy := prmay_any (xn : Int) w
      have hadd := IntWalk.i64_in ((j : Int) + 1) (by have := HN.out.1; omega)
      obtain ⟨Y, hY⟩ : ∃ Y, Y = pkMay (xn : Int) := ⟨_, rfl⟩
      rw [← hY] at hmy
      have HX := Lib.hid (And.intro hx (And.intro (hY.trans (by rw [hxn])) hlt))
      clear hx hY hlt hj hxn hSX
      cases hYc : Y with
      | false =>
        subst hYc
        go_wp2_with (go_at_call 21; refine hmy.mono ?_; clear hmy; rintro _ _ ⟨rfl, rfl⟩)
        go_ret2
        have e : putPE l = 1 := by
          rw [HE.out, if_pos]
          rw [Bool.eq_false_iff]
          intro h
          have := List.all_eq_true.1 h x (List.mem_of_getElem? HX.out.1)
          rw [← HX.out.2.1] at this
          cases this
        exact ⟨by rw [e, putPB_no e (by decide)]; rfl, Below.refl _ _⟩
      | true =>
        subst hYc
        go_wp2_with (go_at_call 21; refine hmy.mono ?_; clear hmy; rintro _ _ ⟨rfl, rfl⟩)
        go_roundw
        case rel => exact ⟨j + 1, by have h1 := HX.out.2.2; have h2 := HL.out.2; omega, by simp, by rw [may_take HX.out.1, HA.out, ← HX.out.2.1]; rfl, rfl⟩
        case measure => have := HX.out.2.2; simp only [intOf]; omega
    · have hlt' : ¬ (j : Int) < (n : Int) := by omega
      have hall : l.all (fun b => pkMay b.length) = true := by have h1 := HA.out; rw [List.take_of_length_le (by have := HL.out.2; omega)] at h1; exact h1
      have hby := prbytes_any HL.out.1 HN.out.1 (may_le hall)
      have hln := pkB_len l
      have hss := st_size (pkB l)
      have HE2 : Hid (putPE l = if 1048576 < lnN l.length + pkSum l then 13 else 0) := Lib.hid (by rw [HE.out, if_neg (by rw [hall]; simp)])
      obtain ⟨P, hP⟩ : ∃ P, P = (pkB l).length := ⟨_, rfl⟩
      rw [← hP] at hln hss
      rw [← hln] at HE2
      obtain ⟨SB, hSB⟩ : ∃ SB, SB = st (pkB l) := ⟨_, rfl⟩
      rw [← hSB] at hby hss
      have HSB := Lib.hid hSB
      clear hall hln hP hSB HE HA hj hlt
      by_cases h3 : 1048576 < P
      · have h3' : (P : Int) > 1048576 := by omega
        have e : Hid (putPE l = 13) := Lib.hid (by rw [HE2.out, if_pos h3])
        clear h3
        go_wp2_with (go_at_call 22; refine hby.mono ?_; clear hby; rintro _ w2 ⟨rfl, hb2⟩)
        go_ret2
        exact ⟨by rw [e.out, putPB_no e.out (by decide)]; rfl, hb2⟩
      · have h3' : ¬ (P : Int) > 1048576 := by omega
        have e : Hid (putPE l = 0) := Lib.hid (by rw [HE2.out, if_neg h3])
        clear h3
        go_wp2_with (go_at_call 22; refine hby.mono ?_; clear hby; rintro _ w2 ⟨rfl, hb2⟩)
        go_ret2
        exact ⟨by rw [e.out, show putPB l = pkB l by unfold putPB; rw [if_pos e.out], ← HSB.out]; rfl, hb2⟩
end Go.Proofs.YtnbjhdlnibmgdaaDoor

/-! How arguments are opened for my walks. -/
namespace Go.Proofs.YtnbjhdlnibmgdaaDoor
open Go.ChangeShapes Go.WideShapes Go.ChangeAt Go.RowKit

theorem own_knob : ownKnob Tryd.prog.godebug = none := by kernel_rfl
theorem laid_out : laidOutB Tryd.prog = true := by kernel_rfl

theorem u8_bounds {z : Int} (h : (Lit.int .u8 z).wf = true) : 0 ≤ z ∧ z < 256 := by
  have := bounds_u8 h
  omega

/-- A row of numbers of bytes that came in. -/
theorem byt_of_ints {w : World} {x : Addr} {len cap : Nat} {zs : List Int} (hl : len ≤ cap) (hm : cap ≤ maxLen) (hz : zs.length = cap) (hcell : ∀ i, i < zs.length → w.cell? (x.add i) = some (.int .u8 (zs.getD i 0)))
    (hwz : ∀ n ∈ zs, (Lit.int .u8 n).wf = true) : Byt w (fun _ => True) (some x) len cap ((zs.take len).map fun z => UInt8.ofNat z.toNat) := by
  refine ⟨by simp; omega, hl, hm, fun h0 => ?_⟩
  obtain ⟨b, off, spot⟩ := x
  have hc0 := hcell 0 (by omega)
  have hspot : spot = none := by simpa [Addr.add] using World.cell?_spot hc0
  subst hspot
  have hlt := World.block_lt_of_cell? _ _ hc0
  rw [add_plain] at hlt
  refine ⟨b, off, rfl, trivial, hlt, fun i hi => ?_⟩
  have hc := hcell i (by omega)
  rw [add_plain] at hc
  rw [hc]
  have hi2 : i < zs.length := by omega
  have hb := u8_bounds (hwz zs[i] (List.getElem_mem hi2))
  simp only [List.getD, List.getElem?_eq_getElem hi2, Option.getD_some, List.getElem?_map, List.getElem?_take_of_lt hi, Option.map_some]
  congr 2
  simp
  omega

theorem bytes_in {w : World} {H : Type} {enc : TypeId × Value → H} {base : Nat} {spare : Nat → Bool} {held : Bool} {a : Option Addr} {len cap : Nat} {d : DataW H} {p : List MemPlace}
    (hs : spare = fun _ => true) (h : DataW.Trod enc Tryd.prog w base spare held 24 (.slice a len cap) d p) : ∃ l, Byt w (fun _ => True) a len cap l := by
  subst hs
  obtain ⟨fuel, hf⟩ := h
  rcases open_ints Tryd.underlying24 Tryd.underlying5 (by kernel_rfl) hf with ⟨hcs, _⟩ | ⟨x, l, c, zs, hcs, _, hl, hm, hz, _, hcell, hwz⟩
  · simp [Value.cells] at hcs
    obtain ⟨rfl, rfl, rfl⟩ := hcs
    exact ⟨[], Byt.nil _ _ _ _ (Nat.zero_le _)⟩
  · simp [Value.cells] at hcs
    obtain ⟨rfl, rfl, rfl⟩ := hcs
    exact ⟨_, byt_of_ints hl hm (by simpa using hz) hcell hwz⟩

theorem trod_lt {w : World} {H : Type} {enc : TypeId × Value → H} {base : Nat} {spare : Nat → Bool} {held : Bool} {t : TypeId} {v : Value} {d : DataW H} {p : List MemPlace}
    (h : DataW.Trod enc Tryd.prog w base spare held t v d p) : ∀ x ∈ p, x.block < w.heap.size := by
  obtain ⟨m, hm⟩ := h
  exact DataW.trod_lt m _ _ _ hm
end Go.Proofs.YtnbjhdlnibmgdaaDoor

/-! How an array of bytes that came in is opened for my walks. -/
namespace Go.Proofs.YtnbjhdlnibmgdaaDoor
open Go.ChangeShapes Go.WideShapes Go.ChangeAt Go.RowKit

theorem okWide_arr {P : Program} {w : World} {r : Reach} {base n : Nat} {t e : TypeId} {v : Value} (ht : P.underlying t = some (.array n e)) (h : Value.okWide P w r base t v) : ∃ cs, v = .agg cs ∧ cs.size = P.cellsOf t := by
  unfold Value.okWide at h
  simp only [ht] at h
  obtain ⟨cs, h1, h2, _⟩ := h
  exact ⟨cs, h1, h2⟩

theorem arr_in {P : Program} {w : World} {H : Type} {enc : TypeId × Value → H} {base n : Nat} {spare : Nat → Bool} {held : Bool} {t e : TypeId} {cs : Array Value} {d : DataW H} {p : List MemPlace}
    (ht : P.underlying t = some (.array n e)) (he : P.underlying e = some (.int .u8)) (hc : P.cellsOf e = 1) (hn : P.cellsOf t = n) (h : DataW.Trod enc P w base spare held t (.agg cs) d p) : ∃ l : List UInt8, cs = row8 l ∧ l.length = n := by
  obtain ⟨fuel, hf⟩ := h
  obtain ⟨xs, m, rfl, _, hl, hxl, hel⟩ := DataW.trod_array ht hf
  rw [hn] at hl
  have hl : cs.toList.length = n := by simpa [Value.cells] using hl
  have one : ∀ i, ∃ z : UInt8, i < n → cs.toList[i]? = some (.int .u8 (z.toNat : Int)) := fun i => by
    by_cases hi : i < n
    · have h1 := hel i hi
      rw [hc, Nat.mul_one, List.getElem?_eq_getElem (show i < xs.length by omega)] at h1
      obtain ⟨z, e1, _, hw⟩ := DataW.trod_int he h1
      have hb := u8_bounds hw
      refine ⟨UInt8.ofNat z.toNat, fun _ => ?_⟩
      have h2 := congrArg (fun l => l[0]?) e1
      have h3 : cs.toList[i]? = some (.int .u8 z) := by simpa [List.getElem?_take, List.getElem?_drop, Value.cells] using h2
      rw [h3]
      congr 2
      simp
      omega
    · exact ⟨0, fun h => absurd h hi⟩
  obtain ⟨f, hf⟩ := Classical.skolem.1 one
  refine ⟨(List.range n).map f, ?_, by simp⟩
  apply Array.toList_inj.1
  apply List.ext_getElem?
  intro i
  by_cases hi : i < n
  · rw [hf i hi]
    simp [row8, u8s, hi]
  · rw [List.getElem?_eq_none (by omega)]
    simp [row8, u8s, hi]
end Go.Proofs.YtnbjhdlnibmgdaaDoor

/-! A slice of digests (arrays of 32 bytes) that reads as a list of rows of bytes; how one that came in is opened. -/
namespace Go.Proofs.YtnbjhdlnibmgdaaDoor
open Go.ChangeShapes Go.WideShapes Go.ChangeAt Go.RowKit Go.Deep

/-- THE SLICE VALUE '.slice A n c' OF DIGESTS READS AS l; its row, if it has any, lies in a block of S. -/
structure Ids (w : World) (S : Nat → Prop) (A : Option Addr) (n c : Nat) (l : List (List UInt8)) : Prop where
  len : l.length = n
  each : ∀ x ∈ l, x.length = 32
  cap : n ≤ c
  max : c ≤ maxLen
  row : 0 < n → ∃ b off, A = some ⟨b, off, none⟩ ∧ S b ∧ b < w.heap.size ∧ ∀ i j, i < n → j < 32 → w.cell? ⟨b, off + (i * 32 + j), none⟩ = some (.int .u8 (((l[i]?.getD [])[j]?.getD 0).toNat : Int))
section
variable {w w' : World} {S T : Nat → Prop} {A : Option Addr} {n c : Nat} {l : List (List UInt8)}
theorem Ids.below (h : Ids w S A n c l) (hb : Below w.heap.size w w') : Ids w' S A n c l :=
  ⟨h.len, h.each, h.cap, h.max, fun h0 => by
    obtain ⟨b, off, hA, hS, hlt, hc⟩ := h.row h0
    exact ⟨b, off, hA, hS, Nat.lt_of_lt_of_le hlt hb.size, fun i j hi hj => (hb.cell (p := ⟨_, _, none⟩) hlt).trans (hc i j hi hj)⟩⟩
theorem Ids.turned (h : Ids w S A n c l) (ht : Turned T w w') (hd : ∀ b, b < w.heap.size → S b → ¬ T b) : Ids w' S A n c l :=
  ⟨h.len, h.each, h.cap, h.max, fun h0 => by
    obtain ⟨b, off, hA, hS, hlt, hc⟩ := h.row h0
    exact ⟨b, off, hA, hS, Nat.lt_of_lt_of_le hlt ht.size, fun i j hi hj => (World.cell?_of_block (w := w) (a := ⟨b, off + (i * 32 + j), none⟩) (ht.block b hlt (hd b hlt hS))).trans (hc i j hi hj)⟩⟩
theorem Ids.mono (h : Ids w S A n c l) (hT : ∀ b, b < w.heap.size → S b → T b) : Ids w T A n c l :=
  ⟨h.len, h.each, h.cap, h.max, fun h0 => by
    obtain ⟨b, off, hA, hS, hlt, hc⟩ := h.row h0
    exact ⟨b, off, hA, hT b hlt hS, hlt, hc⟩⟩
theorem Ids.drew (h : Ids w S A n c l) : Ids w.drew S A n c l := ⟨h.len, h.each, h.cap, h.max, h.row⟩
theorem Ids.drewN (h : Ids w S A n c l) (k : Nat) : Ids (w.drewN k) S A n c l := ⟨h.len, h.each, h.cap, h.max, h.row⟩
theorem Ids.nil (w : World) (S : Nat → Prop) (A : Option Addr) (c : Nat) (hc : c ≤ maxLen) : Ids w S A 0 c [] := ⟨rfl, by simp, Nat.zero_le _, hc, fun h => absurd h (by omega)⟩
/-- One of them, as a row of bytes. -/
theorem Ids.at_ (h : Ids w S A n c l) {i : Nat} (hi : i < n) : ∃ b off, A = some ⟨b, off, none⟩ ∧ b < w.heap.size ∧ (l[i]?.getD []).length = 32 ∧ ∀ j v, (row8 (l[i]?.getD []))[j]? = some v → w.cell? ((⟨b, off + i * 32, none⟩ : Addr).add j) = some v := by
  obtain ⟨b, off, hA, _, hlt, hc⟩ := h.row (by omega)
  have hil : i < l.length := by rw [h.len]; exact hi
  have h32 : (l[i]?.getD []).length = 32 := by
    rw [List.getElem?_eq_getElem hil]
    exact h.each _ (List.getElem_mem hil)
  refine ⟨b, off, hA, hlt, h32, fun j v hj => ?_⟩
  have hjl : j < 32 := by
    have := (Array.getElem?_eq_some_iff.1 hj).1
    rwa [row8_size, h32] at this
  rw [add_plain, Nat.add_assoc, hc i j hi hjl, ← hj, row8, List.getElem?_toArray]
  generalize l[i]?.getD [] = x at *
  simp [u8s, show j < x.length by omega]
end
/-- Digests one behind the other, as cells. -/
def idsC (l : List (List UInt8)) : List Value := u8s l.flatten
theorem flatten_length32 : ∀ {l : List (List UInt8)}, (∀ x ∈ l, x.length = 32) → l.flatten.length = l.length * 32
  | [], _ => rfl
  | a :: l, h => by
    rw [List.flatten_cons, List.length_append, h a (by simp), flatten_length32 (fun x hx => h x (by simp [hx])), List.length_cons]
    omega
theorem flatten_at32 : ∀ {l : List (List UInt8)}, (∀ x ∈ l, x.length = 32) → ∀ i j, i < l.length → j < 32 → l.flatten[i * 32 + j]? = (l[i]?.getD [])[j]?
  | [], _, _, _, h, _ => absurd h (by simp)
  | a :: l, h, i, j, hi, hj => by
    have ha := h a (by simp)
    have hl : ∀ x ∈ l, x.length = 32 := fun x hx => h x (by simp [hx])
    rw [List.flatten_cons]
    cases i with
    | zero => rw [List.getElem?_append_left (by omega)]; simp
    | succ i =>
      rw [List.getElem?_append_right (by omega), show (i + 1) * 32 + j - a.length = i * 32 + j by omega, flatten_at32 hl i j (by simpa using hi) hj]
      simp
/-- A row of the call's own reads as digests. -/
theorem own_ids {w : World} {B : Nat} {e : TypeId} {v : Value} {n : Nat} {l : List (List UInt8)} (h : w.ownsRow B e 32 v n (idsC l)) (hl : ∀ x ∈ l, x.length = 32) : ∃ A c, v = .slice A n c ∧ Ids w (B ≤ ·) A n c l := by
  have hn : l.length = n := by
    have := h.1
    rw [idsC, u8s_length, flatten_length32 hl] at this
    omega
  rcases h.2 with ⟨rfl, h2⟩ | ⟨g, cap, cur, rfl, hb, hg, hnc, hm, _, _⟩
  · have : n = 0 := by
      have := h.1
      rw [h2] at this
      simp at this
      omega
    subst this
    obtain rfl : l = [] := List.eq_nil_of_length_eq_zero hn
    exact ⟨none, 0, rfl, Ids.nil _ _ _ _ (Nat.zero_le _)⟩
  · refine ⟨_, cap, rfl, hn, hl, hnc, hm, fun _ => ⟨g, 0, rfl, hb, (Array.getElem?_eq_some_iff.1 hg).1, fun i j hi hj => ?_⟩⟩
    have hil : i < l.length := by omega
    have hx : (l[i]?.getD []).length = 32 := by
      rw [List.getElem?_eq_getElem hil]
      exact hl _ (List.getElem_mem hil)
    have hf := flatten_at32 hl i j hil hj
    have := h.cells (g := g) rfl (i * 32 + j) (.int .u8 (((l[i]?.getD [])[j]?.getD 0).toNat : Int)) (by
      rw [idsC, u8s, List.getElem?_map, hf]
      generalize l[i]?.getD [] = x at *
      simp [show j < x.length by omega])
    rw [add_plain] at this
    exact this
/-- Digests that came in. -/
theorem ids_in {P : Program} {w : World} {H : Type} {enc : TypeId × Value → H} {base : Nat} {spare : Nat → Bool} {held : Bool} {t e b8 : TypeId} {a : Option Addr} {len cap : Nat} {d : DataW H} {p : List MemPlace}
    (ht : P.underlying t = some (.slice e)) (he : P.underlying e = some (.array 32 b8)) (hb : P.underlying b8 = some (.int .u8)) (hc1 : P.cellsOf b8 = 1) (hce : P.cellsOf e = 32)
    (hs : spare = fun _ => true) (h : DataW.Trod enc P w base spare held t (.slice a len cap) d p) : ∃ l, Ids w (fun _ => True) a len cap l := by
  subst hs
  obtain ⟨fuel, hf⟩ := h
  rcases open_slice ht hf with ⟨hcs, _⟩ | ⟨x, l, c, m, n, D, Pl, hcs, _, hl, hm, hmm, _, hi⟩
  · simp [Value.cells] at hcs
    obtain ⟨rfl, rfl, rfl⟩ := hcs
    exact ⟨[], Ids.nil _ _ _ _ (Nat.zero_le _)⟩
  · simp [Value.cells] at hcs
    obtain ⟨rfl, rfl, rfl⟩ := hcs
    rw [hce] at hi
    simp only [if_true] at hmm
    have one : ∀ i, ∃ q : List UInt8, i < len → q.length = 32 ∧ ∀ j, j < 32 → w.cell? ((x.add (i * 32)).add j) = some (.int .u8 ((q[j]?.getD 0).toNat : Int)) := fun i => by
      by_cases him : i < len
      · obtain ⟨cs', hc, htr⟩ := hi i (by omega)
        obtain ⟨_, hcl, hat⟩ := World.cells?_some hc
        obtain ⟨q, hq, hql⟩ := arr_in (P := P) (w := w) (enc := enc) (base := base) (held := held) (cs := cs'.toArray) he hb hc1 hce ⟨_, by simpa [Value.cells] using htr⟩
        refine ⟨q, fun _ => ⟨hql, fun j hj => ?_⟩⟩
        have hcj := hat j (by omega)
        have he2 : cs' = u8s q := by
          have := congrArg Array.toList hq
          simpa [row8] using this
        rw [hcj]
        subst he2
        simp [u8s, show j < q.length by omega]
      · exact ⟨[], fun h => absurd h him⟩
    obtain ⟨f, hf⟩ := Classical.skolem.1 one
    refine ⟨(List.range len).map f, by simp, fun y hy => ?_, hl, hm, fun h0 => ?_⟩
    · obtain ⟨i, hi, rfl⟩ := List.mem_map.1 hy
      exact (hf i (List.mem_range.1 hi)).1
    · obtain ⟨b, off, spot⟩ := x
      have hc0 := (hf 0 h0).2 0 (by omega)
      have hspot : spot = none := by simpa [Addr.add] using World.cell?_spot hc0
      subst hspot
      have hlt := World.block_lt_of_cell? _ _ hc0
      rw [add_plain, add_plain] at hlt
      refine ⟨b, off, rfl, trivial, hlt, fun i j hil hj => ?_⟩
      have h1 := (hf i hil).2 j hj
      rw [add_plain, add_plain, Nat.add_assoc] at h1
      rw [h1]
      simp [hil]
end Go.Proofs.YtnbjhdlnibmgdaaDoor
