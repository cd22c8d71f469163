/-
  The string of a row of bytes.
  Strings of bytes: read, cut, held against each other.
  A slice of strings that reads as a list of rows of bytes.
  Packs, the laws' words: texts, same.
  A digest (32 bytes): its size, its zero value.
  codec.Reader.Id.
  codec.Reader.Id of a reader that is none.
  The document's example at the head of each statement of layer 1: it answers true, and writes nothing that was there.
  The document's answers that the codec's statements use: how a number is put (by calling itself), and a row with its length.
  The document's answers for the reader, by value: End, Fixed, Bytes, Bool.
  The document's reading of a number, by value.
  The document's reading of a row with its length, by value.
-/
import Derived.Test.YtnbjhdlnibmgdaaPk02
import Derived.Test.YtnbjhdlnibmgdaaPk03
import Derived.Deep.AppendLies
import Derived.Test.YtnbjhdlnibmgdaaPk08
import Derived.BigQuiet
import Derived.Test.YtnbjhdlnibmgdaaPk06
import Derived.Deep.MidRow
import Derived.Lib.SlBytesConst
import Derived.Lib.Strings
/-! The string of a row of bytes. -/
namespace Go.Proofs.Ytnbjhdlnibmgdaa
open Go.RowKit

theorem st_list (l : List UInt8) : (st l).toList = l := by simp [st]
theorem st_app (l m : List UInt8) : st l ++ st m = st (l ++ m) := by
  unfold st
  apply ByteArray.ext
  simp
theorem st_extract (l : List UInt8) (a b : Nat) : (st l).extract a b = st ((l.drop a).take (b - a)) := by
  apply ByteArray.ext
  unfold st
  simp
end Go.Proofs.Ytnbjhdlnibmgdaa

/-! Strings of bytes: read, cut, held against each other. -/
namespace Go.Proofs.Ytnbjhdlnibmgdaa
open Go.RowKit

section
variable {P : Program} (t : TypeId) (h : P.underlying t = some .string) (l : List UInt8) (W : World)
include h
theorem sti_at (i : Nat) (hi : i < l.length) : (Instr.index t (.string (st l)) (.int .i64 (i : Int))).run P W = .ok (.int .u8 ((l[i]?.getD 0).toNat : Int)) W := by
  rw [run_index_string W t (st l) .i64 (i : Int) h, dif_pos ⟨by omega, by rw [st_size]; omega⟩]
  congr 4
  rw [List.getElem?_eq_getElem hi, Option.getD_some]
  rfl
theorem st_index (i : Nat) (ii : Int) (e : ii = (i : Int)) (hi : i < l.length) : (Instr.index t (.string (st l)) (.int .i64 ii)).run P W = .ok (.int .u8 ((l[i]?.getD 0).toNat : Int)) W := by
  subst e
  exact sti_at t h l W i hi
theorem st_to (k : Nat) (kk : Int) (e : kk = (k : Int)) (hk : k ≤ l.length) : (Instr.slice t (.string (st l)) none (some (.int .i64 kk)) none).run P W = .ok (.string (st (l.take k))) W := by
  subst e
  rw [run_slice_string_h W t (st l) h .i64 (k : Int) (by omega) (by rw [st_size]; omega), st_extract]
  simp
theorem st_from (k : Nat) (kk : Int) (e : kk = (k : Int)) (hk : k ≤ l.length) : (Instr.slice t (.string (st l)) (some (.int .i64 kk)) none none).run P W = .ok (.string (st (l.drop k))) W := by
  subst e
  rw [run_slice_string_l W t (st l) h .i64 (k : Int) (by omega) (by rw [st_size]; omega), st_extract, st_size, List.take_of_length_le (by simp)]
  simp
theorem st_mid (j k : Nat) (jj kk : Int) (ej : jj = (j : Int)) (e : kk = (k : Int)) (hj : j ≤ k) (hk : k ≤ l.length) : (Instr.slice t (.string (st l)) (some (.int .i64 jj)) (some (.int .i64 kk)) none).run P W = .ok (.string (st ((l.drop j).take (k - j)))) W := by
  subst e ej
  rw [run_slice_string_if, if_pos ⟨by omega, by rw [st_size]; omega⟩, if_pos ⟨by omega, by omega⟩, st_extract]
  · simp
  · exact h
end
theorem st_inj {a b : List UInt8} : st a = st b ↔ a = b := by
  constructor
  · intro h
    have := congrArg ByteArray.toList h
    rwa [st_list, st_list] at this
  · rintro rfl
    rfl
theorem st_beq (a b : List UInt8) : ((st a).toList == (st b).toList) = decide (a = b) := by
  rw [st_list, st_list]
  by_cases h : a = b <;> simp [h]
end Go.Proofs.Ytnbjhdlnibmgdaa

/-! A slice of strings that reads as a list of rows of bytes. -/
namespace Go.Proofs.Ytnbjhdlnibmgdaa
open Go.RowKit

/-- THE SLICE VALUE '.slice A n c' OF STRINGS READS AS l; its row, if it has any, lies in a block of S. -/
structure Strs (w : World) (S : Nat → Prop) (A : Option Addr) (n c : Nat) (l : List (List UInt8)) : Prop where
  len : l.length = n
  cap : n ≤ c
  max : c ≤ maxLen
  row : 0 < n → ∃ b off, A = some ⟨b, off, none⟩ ∧ S b ∧ b < w.heap.size ∧ ∀ i, i < n → w.cell? ⟨b, off + i, none⟩ = some (.string (st (l[i]?.getD [])))
section
variable {w w' : World} {S T : Nat → Prop} {A : Option Addr} {n c : Nat} {l : List (List UInt8)}
theorem Strs.below (h : Strs w S A n c l) (hb : Below w.heap.size w w') : Strs w' S A n c l :=
  ⟨h.len, h.cap, h.max, fun h0 => by
    obtain ⟨b, off, hA, hS, hlt, hc⟩ := h.row h0
    exact ⟨b, off, hA, hS, Nat.lt_of_lt_of_le hlt hb.size, fun i hi => (hb.cell (p := ⟨_, _, none⟩) hlt).trans (hc i hi)⟩⟩
theorem Strs.turned (h : Strs w S A n c l) (ht : Turned T w w') (hd : ∀ b, b < w.heap.size → S b → ¬ T b) : Strs w' S A n c l :=
  ⟨h.len, h.cap, h.max, fun h0 => by
    obtain ⟨b, off, hA, hS, hlt, hc⟩ := h.row h0
    exact ⟨b, off, hA, hS, Nat.lt_of_lt_of_le hlt ht.size, fun i hi => (World.cell?_of_block (w := w) (a := ⟨b, off + i, none⟩) (ht.block b hlt (hd b hlt hS))).trans (hc i hi)⟩⟩
theorem Strs.mono (h : Strs w S A n c l) (hT : ∀ b, b < w.heap.size → S b → T b) : Strs w T A n c l :=
  ⟨h.len, h.cap, h.max, fun h0 => by
    obtain ⟨b, off, hA, hS, hlt, hc⟩ := h.row h0
    exact ⟨b, off, hA, hT b hlt hS, hlt, hc⟩⟩
theorem Strs.drew (h : Strs w S A n c l) : Strs w.drew S A n c l := ⟨h.len, h.cap, h.max, h.row⟩
theorem Strs.drewN (h : Strs w S A n c l) (k : Nat) : Strs (w.drewN k) S A n c l := ⟨h.len, h.cap, h.max, h.row⟩
theorem Strs.nil (w : World) (S : Nat → Prop) (A : Option Addr) (c : Nat) (hc : c ≤ maxLen) : Strs w S A 0 c [] := ⟨rfl, Nat.zero_le _, hc, fun h => absurd h (by omega)⟩
end
def strs (l : List (List UInt8)) : List Value := l.map fun x => .string (st x)
theorem strs_length (l : List (List UInt8)) : (strs l).length = l.length := by simp [strs]
/-- A row of the call's own. -/
theorem own_strs {w : World} {B : Nat} {e : TypeId} {v : Value} {n : Nat} {l : List (List UInt8)} (h : w.ownsRow B e 1 v n (strs l)) : ∃ A c, v = .slice A n c ∧ Strs w (B ≤ ·) A n c l := by
  have hl : l.length = n := by have := h.1; rw [strs_length] at this; omega
  rcases h.2 with ⟨rfl, h2⟩ | ⟨g, cap, cur, rfl, hb, hg, hnc, hm, _, _⟩
  · subst h2
    obtain rfl : l = [] := List.eq_nil_of_length_eq_zero hl
    exact ⟨none, 0, rfl, Strs.nil _ _ _ _ (Nat.zero_le _)⟩
  · refine ⟨_, cap, rfl, hl, hnc, hm, fun _ => ⟨g, 0, rfl, hb, (Array.getElem?_eq_some_iff.1 hg).1, fun i hi => ?_⟩⟩
    have hil : i < l.length := by omega
    have := h.cells (g := g) rfl i (.string (st (l[i]?.getD []))) (by simp [strs, List.getElem?_map, List.getElem?_eq_getElem hil])
    rw [add_plain] at this
    simpa using this
theorem strs_one (l : List (List UInt8)) : ∀ u ∈ strs l, u.oneCell' = true := by
  intro u hu
  obtain ⟨x, _, rfl⟩ := List.mem_map.1 hu
  rfl
/-- What stands in the row that is read, for an append. -/
theorem Strs.news {w : World} {S : Nat → Prop} {b off n c : Nat} {l : List (List UInt8)} (h : Strs w S (some ⟨b, off, none⟩) n c l) (h0 : 0 < n) : ∀ j u, (strs l)[j]? = some u → w.cell? ((⟨b, off, none⟩ : Addr).add j) = some u := by
  intro j u hj
  obtain ⟨b', off', hA, _, _, hc⟩ := h.row h0
  injection hA with hA
  injection hA with e1 e2
  subst e1 e2
  have hjl : j < l.length := by have := (List.getElem?_eq_some_iff.1 hj).1; rwa [strs_length] at this
  rw [add_plain, hc j (by rw [← h.len]; exact hjl), ← hj, strs, List.getElem?_map, List.getElem?_eq_getElem hjl]
  rfl
theorem str_info2 : (Try.prog.info? 9).map (fun i => (i.zero, i.size, i.bytes)) = some (some (.string ByteArray.empty), 1, 16) := by kernel_rfl
/-- append of strings to no slice. -/
theorem append_strs {W : World} {S : Nat → Prop} {A : Option Addr} {n c : Nat} {l : List (List UInt8)} (h : Strs W S A n c l) (h0 : 0 < n) (hn : n ≤ 1000000) (ty : TypeId) :
    ∃ g c' W', (Builtin.append_ #[28, 28] ty #[.slice none 0 0, .slice A n c]).run Try.prog W = .ok (.slice (some ⟨g, 0, none⟩) n c') W' ∧ W'.ownsRow W.heap.size 9 1 (.slice (some ⟨g, 0, none⟩) n c') n (strs l) ∧ Below W.heap.size W W' := by
  obtain ⟨i0, hi, hz0, hz1, hz2⟩ := info_parts str_info2
  obtain ⟨b, off, rfl, _, _, _⟩ := h.row h0
  obtain ⟨v', W', hrun, r1, r2, _⟩ := run_append_own (P := Try.prog) W W.heap.size 28 ty 9 i0 (.string ByteArray.empty) 1 16 Try.underlying28 hi hz0 hz1 hz2 rfl (by decide) (.slice none 0 0) 0 [] (World.ownsRow_nil _ _ _ _) ⟨b, off, none⟩ n c (strs l) (by rw [strs_length, h.len, Nat.mul_one]) (h.news h0) (strs_one l) (by unfold maxLen; omega) (by omega) (Nat.le_refl _)
  rw [List.nil_append, Nat.zero_add] at r1
  obtain ⟨g, c', rfl, _⟩ := r1.form h0
  exact ⟨g, c', W', hrun, r1, (Below.refl _ W).grown r2 (Nat.le_refl _) (by intro k hk; simp [Value.ownBlock] at hk)⟩
theorem strs_set (l : List (List UInt8)) (i : Nat) (x : List UInt8) : (strs l).set i (.string (st x)) = strs (l.set i x) := by simp [strs, List.map_set]
end Go.Proofs.Ytnbjhdlnibmgdaa

/-! Packs, the laws' words: texts, same. -/
namespace Go.Proofs.Ytnbjhdlnibmgdaa
open Go.RowKit

/-- One string more. -/
theorem strs_push {W : World} {B : Nat} {v : Value} {l : List (List UInt8)} (h : W.ownsRow B 9 1 v l.length (strs l)) (x : List UInt8) (hB : B ≤ W.heap.size) (hn : l.length ≤ 1000000) :
    ∃ A' c' W1, (Builtin.append_ #[28, 28] 28 #[v, .slice (some ⟨W.heap.size, 0, none⟩) 1 1]).run Try.prog (W.alloc (.cells #[.string (st x)] 9)) = .ok (.slice A' (l.length + 1) c') W1 ∧
      W1.ownsRow B 9 1 (.slice A' (l.length + 1) c') (l.length + 1) (strs (l ++ [x])) ∧ Below B W W1 := by
  obtain ⟨i1, hi, hz0, hz1, hz2⟩ := info_parts str_info2
  have h2 : (W.alloc (.cells #[.string (st x)] 9)).ownsRow B 9 1 v l.length (strs l) := pk_keep h fun q hq => Below.heap_alloc _ _ _ (h.lt q hq).2
  obtain ⟨v', W1, hrun, g1, g2, _, _⟩ := run_append_own_at (P := Try.prog) (W.alloc (.cells #[.string (st x)] 9)) B 28 28 9 i1 (.string ByteArray.empty) 1 16 Try.underlying28 hi hz0 hz1 hz2 rfl (by decide) v _ _ h2 ⟨W.heap.size, 0, none⟩ 1 1 [.string (st x)] rfl
      (fun j u hj => by
        match j, hj with
        | 0, hj =>
          rw [add_plain, cell_of_cells (heap_alloc_new W _)]
          simpa using hj) (one_of rfl) (by unfold maxLen; omega) (by omega) (by simp; omega)
  obtain ⟨A', c', rfl⟩ := pk_slice g1
  refine ⟨A', c', W1, hrun, ?_, ((Below.refl B W).alloc hB _).grown g2 (by simp; omega) fun k hk => (h.lt k hk).1⟩
  rw [show strs (l ++ [x]) = strs l ++ [.string (st x)] by simp [strs]]
  exact g1
def TxR (w : World) (l : List (List UInt8)) (v i : Value) (wr : World) : Prop :=
  ∃ j : Nat, j ≤ l.length ∧ i = .int .i64 (j : Int) ∧ wr.ownsRow w.heap.size 9 1 v (l.take j).length (strs (l.take j)) ∧ Below w.heap.size w wr
set_option maxHeartbeats 4000000 in
set_option maxRecDepth 100000 in
theorem texts_any {w : World} {S : Nat → Prop} {A : Option Addr} {n c : Nat} {l : List (List UInt8)} (h : Rws w S A n c l) (hn : n ≤ 1000000) :
    Calls Try.prog 10 #[.slice A n c] w fun e w' => ∃ A' c', e = .returned (.slice A' l.length c') ∧ Strs w' (w.heap.size ≤ ·) A' l.length c' l ∧ Below w.heap.size w w' := by
  have HL := Lib.hid (And.intro h (And.intro h.len hn))
  clear h hn
  go_enter Try.func10, Try.ntmps10
  go_upto_region 3 with fail
  go_loopw [3, 4] (fun v i wr => TxR w l v i wr) (fun _ i _ => n - (intOf i).toNat)
  case atStart => exact ⟨0, Nat.zero_le _, rfl, by simpa [strs] using World.ownsRow_nil _ _ _ _, Below.refl _ _⟩
  case round =>
    obtain ⟨j, hj, rfl, hown, hb⟩ := hrel
    obtain ⟨Av, cv, rfl⟩ := pk_slice hown
    by_cases hlt : j < n
    · have hlt' : (j : Int) < (n : Int) := by omega
      obtain ⟨q, off, x, Ai, ci, rfl, _, hql, hx, hc, hy⟩ := HL.out.1.at_ hlt
      have hc0 := (hb.cell (p := ⟨q, off + j, none⟩) hql).trans hc
      have hyr := (hy.mono (T := fun k => k < w.heap.size) fun k hk _ => hk).below hb
      have hcs : (convert 22 9 (.slice Ai x.length ci)).run Try.prog wr = .ok (.string (st x)) wr := byt_string hyr
      have hadd := IntWalk.i64_in ((j : Int) + 1) (by have := HL.out.2.2; omega)
      have htl : (l.take j).length = j := by rw [List.length_take]; have := HL.out.2.1; omega
      obtain ⟨A', c', W1, hrun, hown1, hb1⟩ := strs_push hown x hb.size (by have := HL.out.2.2; omega)
      have H : Hid (W1.ownsRow w.heap.size 9 1 (.slice A' ((l.take j).length + 1) c') (l.take (j + 1)).length (strs (l.take (j + 1))) ∧ Below w.heap.size w W1 ∧ j < n) := Lib.hid ⟨by
        rw [take_snoc hx, List.length_append]
        exact hown1, hb.trans hb1, hlt⟩
      generalize (l.take j).length = m at *
      clear hown hb hx hc hy hyr hown1 hb1 htl hj hlt hql
      go_wp2_with (at_builtin; refine wpList_app (by rfl) _ _ 28 (by rfl) (by rfl) (by rfl) hrun ?_)
      go_roundw
      case rel => exact ⟨j + 1, by have h1 := H.out.2.2; have h2 := HL.out.2.1; omega, by simp, H.out.1, H.out.2.1⟩
      case measure => have := H.out.2.2; simp only [intOf]; omega
    · have hlt' : ¬ (j : Int) < (n : Int) := by omega
      have hfull : l.take j = l := List.take_of_length_le (by have := HL.out.2.1; omega)
      rw [hfull] at hown ⊢
      obtain ⟨A2, c2, e, hs⟩ := own_strs hown
      injection e with e1 _ e2
      subst e1 e2
      have H := Lib.hid (And.intro hs hb)
      obtain ⟨m, hm⟩ : ∃ m, m = l.length := ⟨_, rfl⟩
      rw [← hm] at H ⊢
      have HMM := Lib.hid hm
      clear hown hb hfull hlt hs hm hj
      go_wp2
      go_ret
      have hm := HMM.out
      subst hm
      exact ⟨Av, cv, rfl, H.out.1, H.out.2⟩
theorem Strs.at_ {w : World} {S : Nat → Prop} {A : Option Addr} {n c : Nat} {l : List (List UInt8)} (h : Strs w S A n c l) {j : Nat} (hj : j < n) : ∃ b off x, A = some ⟨b, off, none⟩ ∧ l[j]? = some x ∧ w.cell? ⟨b, off + j, none⟩ = some (.string (st x)) := by
  obtain ⟨b, off, hA, _, _, hc⟩ := h.row (by omega)
  exact ⟨b, off, _, hA, by rw [List.getElem?_eq_getElem (by have := h.len; omega)]; rfl, hc j hj⟩
def SmR (w : World) (n : Nat) (i : Value) (wr : World) : Prop := ∃ (j k : Nat), j ≤ n ∧ i = .int .i64 (j : Int) ∧ wr = w.drewN k
/-- Of two that are the same. -/
def SaPost (w : World) (B : Bool) (e : Ending) (w' : World) : Prop := e = .returned (.bool B) ∧ ∃ k, w' = w.drewN k
set_option maxHeartbeats 4000000 in
set_option maxRecDepth 100000 in
theorem psame_any {w : World} {S S2 : Nat → Prop} {A A2 : Option Addr} {n c n2 c2 : Nat} {l : List (List UInt8)} (h : Strs w S A n c l) (h2 : Strs w S2 A2 n2 c2 l) (hn : n ≤ 1000000) :
    Calls Try.prog 9 #[.slice A n c, .slice A2 n2 c2] w fun e w' => SaPost w true e w' := by
  obtain rfl : n = n2 := h.len.symm.trans h2.len
  have HL := Lib.hid (And.intro h (And.intro h2 hn))
  clear h h2 hn
  have hnn : ((n : Int) != (n : Int)) = false := by simp
  go_enter Try.func9, Try.ntmps9
  go_upto_region 4 with fail
  clear hnn
  go_loopw [5] (fun i wr => SmR w n i wr) (fun i _ => n - (intOf i).toNat)
  case atStart => exact ⟨0, 0, Nat.zero_le _, rfl, rfl⟩
  case round =>
    obtain ⟨j, k, hj, rfl, rfl⟩ := hrel
    by_cases hlt : j < n
    · have hlt' : (j : Int) < (n : Int) := by omega
      obtain ⟨b, off, x, rfl, hx, hc⟩ := HL.out.1.at_ hlt
      obtain ⟨b2, off2, x2, rfl, hx2, hc2⟩ := HL.out.2.1.at_ hlt
      obtain rfl : x = x2 := by rw [hx] at hx2; exact Option.some.inj hx2
      have hd1 : ∀ k, (w.drewN k).cell? ⟨b, off + j, none⟩ = some (.string (st x)) := fun _ => hc
      have hd2 : ∀ k, (w.drewN k).cell? ⟨b2, off2 + j, none⟩ = some (.string (st x)) := fun _ => hc2
      have hadd := IntWalk.i64_in ((j : Int) + 1) (by have := HL.out.2.2; omega)
      have HJ := Lib.hid hlt
      clear hx hx2 hc hc2 hj hlt
      go_wp2_with fail
      go_quiet (fail)
      go_wp2_with fail
      exact ⟨⟨j + 1, _, by have := HJ.out; omega, by simp, rfl⟩, by have := HJ.out; simp only [intOf]; omega⟩
    · have hlt' : ¬ (j : Int) < (n : Int) := by omega
      go_wp2
      go_ret
      exact ⟨rfl, k, rfl⟩
end Go.Proofs.Ytnbjhdlnibmgdaa

/-! A digest (32 bytes): its size, its zero value. -/
namespace Go.Proofs.Ytnbjhdlnibmgdaa
open Go.RowKit

def zerosId : Array Value := (u8s (List.replicate 32 0)).toArray
end Go.Proofs.Ytnbjhdlnibmgdaa

/-! codec.Reader.Id. -/
namespace Go.Proofs.Ytnbjhdlnibmgdaa
open Go.RowKit Codec

/-- The cells of the digest that is told. -/
def idL (l : List UInt8) (e : Int) : List UInt8 := if tkE l e 32 = 0 then l.take 32 else List.replicate 32 0
def idC (l : List UInt8) (e : Int) : Array Value := (u8s (idL l e)).toArray
theorem idL_length (l : List UInt8) (e : Int) : (idL l e).length = 32 := by
  unfold idL
  split
  · rename_i h
    obtain ⟨_, _, h1⟩ := tkE_zero h
    rw [List.length_take]
    have : (32 : Int).toNat = 32 := rfl
    omega
  · simp

theorem u8s_allc (l : List UInt8) : (u8s l).toArray.all (·.oneCell') = true := all_oneCell_toArray (u8s_one l)
theorem zeros32 : (u8s (List.replicate 32 0)).toArray = #[.int .u8 0, .int .u8 0, .int .u8 0, .int .u8 0, .int .u8 0, .int .u8 0, .int .u8 0, .int .u8 0, .int .u8 0, .int .u8 0, .int .u8 0, .int .u8 0, .int .u8 0, .int .u8 0, .int .u8 0, .int .u8 0,
    .int .u8 0, .int .u8 0, .int .u8 0, .int .u8 0, .int .u8 0, .int .u8 0, .int .u8 0, .int .u8 0, .int .u8 0, .int .u8 0, .int .u8 0, .int .u8 0, .int .u8 0, .int .u8 0, .int .u8 0, .int .u8 0] := by rfl
theorem gr_setRow {a w : World} {row : Option Nat} (h : a.grownBy w row) {g : Nat} (hg : a.heap.size ≤ g) (cs : Array Value) : a.grownBy (w.setRow g cs) row :=
  ⟨h.os, h.tape, h.output, by simpa [World.setRow] using h.size, fun i hi hne => by
    rw [← h.block i hi hne]
    simp only [World.setRow, Array.getElem?_modify]
    rw [if_neg (by omega)]⟩
theorem gr_of_alloc {w w1 : World} {o : Obj} {row : Option Nat} (h : (w.alloc o).grownBy w1 row) : w.grownBy w1 row := gr_trans (gr_alloc (gr_refl w row) o) h
theorem gr_row (w : World) (g : Nat) (cs : Array Value) : w.grownBy (w.setRow g cs) (some g) :=
  ⟨rfl, rfl, rfl, by simp [World.setRow], fun i hi hne => by
    simp only [World.setRow, Array.getElem?_modify]
    rw [if_neg (fun e => hne (by rw [e]))]⟩

theorem run_storeAt_row {P : Program} (w : World) (g : Nat) (ty : TypeId) (cells : List Value) (old : Array Value) {t : TypeId} (hg : w.heap[g]? = some (.cells old t (0, 0))) (hi : (P.info? ty).map (·.size) = some cells.toArray.size)
    (ho : old.size = cells.toArray.size) (h1 : cells.toArray.all (·.oneCell') = true) :
    (Instr.storeAt ty (.pointer (some ⟨g, 0, none⟩)) (.agg cells.toArray)).run P w = .ok () (w.setRow g cells.toArray) := by
  simp only [Instr.storeAt, Instr.sureAddr, Sem.run_bind, Sem.run_pure, Result.andThen_ok]
  exact run_storeVar_row w g t ty old cells.toArray hg hi ho h1

theorem run_arrayAt {P : Program} (w : World) (t : TypeId) (n : Nat) (e : TypeId) (hu : P.underlying t = some (.array n e)) (A : Option Addr) (len c : Nat) (hn : n ≤ len) :
    (Instr.arrayAt t (.slice A len c)).run P w = .ok (.pointer A) w := by
  simp [Instr.arrayAt, Sem.run_bind, run_underlying hu]
  omega

def Z32 : Array Value := (u8s (List.replicate 32 0)).toArray

/-- An operation 'T{}' of a struct or an array, its value by a closed fact. -/
theorem wpList_build0 {P : Program} {ops : Array Oper} {rest : List Oper} {op : Oper} {a : Act} {w : World} {Q : Exit → Act → World → Prop} (hgd : op.guard = none) (t : TypeId) (ho : op.op = .build t #[]) (v : Value)
    (hb : ∀ w, (Instr.build t #[]).run P w = .ok v w) (h : wpList P ops Q rest (a.put op.dst v) w) : wpList P ops Q (op :: rest) a w :=
  wpList_plain hgd fun _ hK => by
    unfold Oper.wp execOp
    simp only [ho, List.map_toArray, List.map_nil, hb, Sem.run_bind, Sem.run_pure, Result.andThen_ok]
    exact hK _ _ h

end Go.Proofs.Ytnbjhdlnibmgdaa

/-! codec.Reader.Id of a reader that is none. -/
namespace Go.Proofs.Ytnbjhdlnibmgdaa
open Go.RowKit Codec

end Go.Proofs.Ytnbjhdlnibmgdaa

/-! The document's example at the head of each statement of layer 1: it answers true, and writes nothing that was there. -/
namespace Go.Proofs.Ytnbjhdlnibmgdaa
open Go.RowKit Codec

theorem Wr.drew {w : World} {S : Nat → Prop} {p : Nat} {l : List UInt8} (h : Wr w S p l) : Wr w.drew S p l := h.turned (T := fun _ => False) ((Turned.refl _ w).drew) (fun _ _ _ hf => hf)
theorem Rd.drew {w : World} {S : Nat → Prop} {p : Nat} {l : List UInt8} {e : Int} (h : Rd w S p l e) : Rd w.drew S p l e := h.turned (T := fun _ => False) ((Turned.refl _ w).drew) (fun _ _ _ hf => hf)
theorem Wr.drewN {w : World} {S : Nat → Prop} {p : Nat} {l : List UInt8} (h : Wr w S p l) (k : Nat) : Wr (w.drewN k) S p l := h.turned (T := fun _ => False) ((Turned.refl _ w).drewN k) (fun _ _ _ hf => hf)
theorem Rd.drewN {w : World} {S : Nat → Prop} {p : Nat} {l : List UInt8} {e : Int} (h : Rd w S p l e) (k : Nat) : Rd (w.drewN k) S p l e := h.turned (T := fun _ => False) ((Turned.refl _ w).drewN k) (fun _ _ _ hf => hf)


theorem put300 : put 300 = [172, 2] := by rw [put_big (by omega), put_small (by omega)]; rfl
theorem put2 : put 2 = [2] := by rw [put_small (by omega)]; rfl

end Go.Proofs.Ytnbjhdlnibmgdaa

/-! The document's answers that the codec's statements use: how a number is put (by calling itself), and a row with its length. -/
namespace Go.Proofs.Ytnbjhdlnibmgdaa
open Go.RowKit Codec

def strB (l : List UInt8) : ByteArray := ⟨l.toArray⟩
theorem strB_append (l m : List UInt8) : strB l ++ strB m = strB (l ++ m) := by
  apply ByteArray.ext; simp [strB]

/-- One byte in a slice of its own. -/
theorem byt_one (w : World) (v : UInt8) : Byt (w.alloc (.cells #[.int .u8 (v.toNat : Int)] 5)) (w.heap.size ≤ ·) (some ⟨w.heap.size, 0, none⟩) 1 1 [v] :=
  ⟨rfl, Nat.le_refl _, by unfold maxLen; omega, fun _ => ⟨w.heap.size, 0, rfl, Nat.le_refl _, by simp, fun i hi => by
    obtain rfl : i = 0 := by omega
    rw [cell_of_cells (heap_alloc_new w _)]; rfl⟩⟩
/-- 'string([]byte{v})'. -/
theorem str_one (w : World) (v : UInt8) : (convert 22 9 (.slice (some ⟨w.heap.size, 0, none⟩) 1 1)).run Try.prog (w.alloc (.cells #[.int .u8 (v.toNat : Int)] 5)) = .ok (.string (strB [v])) (w.alloc (.cells #[.int .u8 (v.toNat : Int)] 5)) :=
  byt_string (byt_one w v)
theorem u8_small {x : Nat} (h : x < 256) : ((UInt8.ofNat x).toNat : Int) = (x : Int) := by simp; omega

theorem wrap_quo (x : Nat) (hx : x < 18446744073709551616) : IntKind.u64.wrap ((x : Int) / 128) = ((x / 128 : Nat) : Int) := by
  have : ((x : Int) / 128) = ((x / 128 : Nat) : Int) := by omega
  rw [this]; unfold IntKind.wrap; simp [IntKind.signed, IntKind.bits]; omega
theorem wrap_byte (x : Nat) : IntKind.u8.wrap (IntKind.u64.wrap ((x : Int).tmod 128 + 128)) = ((UInt8.ofNat (x % 128 + 128)).toNat : Int) := by
  have e : (x : Int).tmod 128 = ((x % 128 : Nat) : Int) := by
    rw [Int.tmod_eq_emod_of_nonneg (by omega)]; omega
  have h2 : x % 128 < 128 := Nat.mod_lt _ (by omega)
  rw [e, u8_small (by omega)]
  have e2 : IntKind.u64.wrap (((x % 128 : Nat) : Int) + 128) = ((x % 128 + 128 : Nat) : Int) := by unfold IntKind.wrap; simp [IntKind.signed, IntKind.bits]; omega
  rw [e2]; unfold IntKind.wrap; simp [IntKind.signed, IntKind.bits]; omega

set_option maxHeartbeats 2000000 in
set_option maxRecDepth 100000 in
theorem ref_put_small (x : Nat) (w : World) (h : x < 128) : Calls Try.prog 44 #[.int .u64 x] w fun e w' => e = .returned (.string (strB (put x))) ∧ Below w.heap.size w w' := by
  rw [put_small h]
  have hcv := str_one w (UInt8.ofNat x)
  rw [u8_small (by omega)] at hcv
  go_enter Try.func44, Try.ntmps44
  go_wp2_with fail
  go_ret
  exact ⟨rfl, (Below.refl _ _).alloc (Nat.le_refl _) _⟩

set_option maxHeartbeats 2000000 in
set_option maxRecDepth 100000 in
theorem ref_put : ∀ (k x : Nat) (w : World), x < 128 ^ k → x < 18446744073709551616 → Calls Try.prog 44 #[.int .u64 x] w fun e w' => e = .returned (.string (strB (put x))) ∧ Below w.heap.size w w' := by
  intro k
  induction k with
  | zero =>
    intro x w hx hx2
    have hx : x < 1 := by simpa using hx
    exact ref_put_small x w (by omega)
  | succ k ih =>
    intro x w hx hx2
    by_cases h : x < 128
    · exact ref_put_small x w h
    · rw [put_big (by omega)]
      have hq : x / 128 < 128 ^ k := by
        rw [Nat.pow_succ] at hx; exact Nat.div_lt_of_lt_mul (by omega)
      have hq2 : x / 128 < 18446744073709551616 := by omega
      have WQ := Lib.hid (wrap_quo x hx2)
      have WB := Lib.hid (wrap_byte x)
      have IH := fun w => ih (x / 128) w hq hq2
      clear ih
      obtain ⟨v, hv⟩ : ∃ v, UInt8.ofNat (x % 128 + 128) = v := ⟨_, rfl⟩
      obtain ⟨y, hy⟩ : ∃ y, x / 128 = y := ⟨_, rfl⟩
      have HS := Lib.hid (strB_append [v] (put y))
      rw [hv] at WB ⊢
      rw [hy] at WQ IH ⊢
      have HZ : Hid (¬ 9223372036854775807 < 1 + (strB (put y)).size) := Lib.hid (by
        have := put_length_64 (x := y) (by omega)
        rw [show (strB (put y)).size = (put y).length by simp [strB, ByteArray.size]]; omega)
      clear hv hy hq hq2
      go_enter Try.func44, Try.ntmps44
      go_wp2_with fail
      refine wp_region_tree (fun W => Below w.heap.size w W) (.two [0, 1, 2, 3, 6, 7] 4 (.one [5] 8 (.last [9, 10])) 8 (.one [] 4 (.last [5, 9, 10]))) (by kernel_rfl) (by kernel_rfl) (fun _ _ d _ _ h => by cases d <;> exact h) ((Below.refl _ _).drew) ?_
      refine tree_two ?_
      refine seg_read ?v1 (by rfl) (by rfl) ?h1 ?_
      case h1 => intro W hW; go_simp; with_reducible rfl
      try simp only [Act.put, List.setIfInBounds_toArray, List.set_cons_zero, List.set_cons_succ]
      refine seg_read ?v2 (by rfl) (by rfl) ?h2 ?_
      case h2 => intro W hW; go_simp; with_reducible rfl
      try simp only [Act.put, List.setIfInBounds_toArray, List.set_cons_zero, List.set_cons_succ]
      refine seg_read ?v3 (by rfl) (by rfl) ?h3 ?_
      case h3 => intro W hW; go_simp; with_reducible rfl
      try simp only [Act.put, List.setIfInBounds_toArray, List.set_cons_zero, List.set_cons_succ]
      refine seg_read ?v4 (by rfl) (by rfl) ?h4 ?_
      case h4 => intro W hW; go_simp; with_reducible rfl
      try simp only [Act.put, List.setIfInBounds_toArray, List.set_cons_zero, List.set_cons_succ]
      refine seg_read ?v5 (by rfl) (by rfl) ?h5 ?_
      case h5 => intro W hW; go_simp; with_reducible rfl
      try simp only [Act.put, List.setIfInBounds_toArray, List.set_cons_zero, List.set_cons_succ]
      refine seg_read ?v6 (by rfl) (by rfl) ?h6 ?_
      case h6 => intro W hW; go_simp; with_reducible rfl
      try simp only [Act.put, List.setIfInBounds_toArray, List.set_cons_zero, List.set_cons_succ]
      rw [WQ.out, WB.out]
      refine seg_nil ⟨?_, ?_⟩
      · refine eff_step (by rfl) (fun K hK => ?_)
        go_simp
        obtain ⟨w1, hw1⟩ : ∃ w1, w1 = (w.alloc (.cells #[.int .u8 (v.toNat : Int)] 5)).drew := ⟨_, rfl⟩
        have hb1 : Below w.heap.size w w1 := by rw [hw1]; exact ((Below.refl _ _).alloc (Nat.le_refl _) _).drew
        have hY : Byt w1 (w.heap.size ≤ ·) (some ⟨w.heap.size, 0, none⟩) 1 1 [v] := by
          rw [hw1]; exact (byt_one w _).below ((Below.refl _ _).drew)
        rw [← hw1]
        clear hw1
        refine hK _ _ ⟨fun W => Below w1.heap.size w1 W, Below.refl _ _, fun W h => hb1.trans (h.mono hb1.size), ?_⟩
        clear hK K
        refine tree_one ?_
        refine seg_read ?v7 (by rfl) (by rfl) ?h7 ?_
        case h7 => intro W hW; have hcv := byt_string (hY.below hW); go_simp; with_reducible rfl
        try simp only [Act.put, List.setIfInBounds_toArray, List.set_cons_zero, List.set_cons_succ]
        refine seg_nil ?_
        refine eff_step (by rfl) (fun K hK => ?_)
        go_simp
        refine (IH _).mono ?_
        rintro _ w2 ⟨rfl, hb2⟩
        refine hK _ _ ⟨fun W => W = w2, rfl, fun W e => e ▸ hb2, ?_⟩
        clear hK K
        refine tree_last ?_
        refine seg_step (by rfl) (fun K hK => ?_)
        go_simp
        refine ⟨_, if_neg HZ.out, ?_⟩
        refine hK _ ?_
        clear hK K
        refine seg_step (by rfl) (fun K hK => ?_)
        go_simp
        refine hK _ ?_
        clear hK K
        refine seg_nil ?_
        go_wp2
        go_ret
        exact ⟨by rw [show (⟨[v].toArray⟩ : ByteArray) = strB [v] from rfl, HS.out]; rfl, hb1.trans (hb2.mono hb1.size)⟩
      · refine eff_step (by rfl) (fun K hK => ?_)
        go_simp
        refine (IH _).mono ?_
        rintro _ w2 ⟨rfl, hb2⟩
        have hb2 : Below w.heap.size w w2 := ((Below.refl _ w).drew).trans hb2
        refine hK _ _ ⟨fun W => Below w2.heap.size w2 W, Below.refl _ _, fun W h => hb2.trans (h.mono hb2.size), ?_⟩
        clear hK K
        refine tree_one ?_
        refine seg_nil ?_
        refine eff_step (by rfl) (fun K hK => ?_)
        go_simp
        obtain ⟨w3, hw3⟩ : ∃ w3, w3 = (w2.alloc (.cells #[.int .u8 (v.toNat : Int)] 5)) := ⟨_, rfl⟩
        have hb3 : Below w2.heap.size w2 w3 := by rw [hw3]; exact ((Below.refl _ _).alloc (Nat.le_refl _) _)
        have hY := byt_string (byt_one w2 v)
        rw [← hw3] at hY ⊢
        clear hw3
        refine hK _ _ ⟨fun W => W = w3, rfl, fun W e => e ▸ hb3, ?_⟩
        clear hK K
        refine tree_last ?_
        refine seg_step (by rfl) (fun K hK => ?_)
        go_simp
        refine hK _ ?_
        clear hK K
        refine seg_step (by rfl) (fun K hK => ?_)
        go_simp
        refine ⟨_, if_neg HZ.out, ?_⟩
        refine hK _ ?_
        clear hK K
        refine seg_step (by rfl) (fun K hK => ?_)
        go_simp
        refine hK _ ?_
        clear hK K
        refine seg_nil ?_
        go_wp2
        go_ret
        exact ⟨by rw [show (⟨[v].toArray⟩ : ByteArray) = strB [v] from rfl, HS.out]; rfl, hb2.trans (hb3.mono hb2.size)⟩

theorem strB_size (l : List UInt8) : (strB l).size = l.length := by simp [strB, ByteArray.size]

end Go.Proofs.Ytnbjhdlnibmgdaa

/-! The document's answers for the reader, by value: End, Fixed, Bytes, Bool. -/
namespace Go.Proofs.Ytnbjhdlnibmgdaa
open Go.RowKit Codec

/-- A reader by value. -/
def RV (l : List UInt8) (e : Int) : Value := .agg #[.string (strB l), .int .i64 e]
theorem strB_empty (l : List UInt8) : (strB l).toList.isEmpty = l.isEmpty := by rw [strB, ByteArray.toList_mk]
theorem strB_to (l : List UInt8) (k : Nat) : (strB l).extract 0 k = strB (l.take k) := by
  apply ByteArray.ext; apply Array.toList_inj.1
  rw [Lib.extract_data]; simp [strB]
theorem strB_from (l : List UInt8) (k : Nat) : (strB l).extract k (strB l).size = strB (l.drop k) := by
  apply ByteArray.ext; apply Array.toList_inj.1
  rw [Lib.extract_data, strB_size, List.take_of_length_le (by simp [strB])]; simp [strB]
theorem below2 (w : World) (o1 o2 : Obj) : Below w.heap.size w ((w.alloc o1).alloc o2) := ((Below.refl _ _).alloc (Nat.le_refl _) _).alloc (by simp) _
theorem endE_bad {l : List UInt8} {e : Int} (h : ¬ e = 0) : endE l e = e := by unfold endE; rw [if_pos h]

set_option maxHeartbeats 1000000 in
theorem ref_end (l : List UInt8) (e : Int) (w : World) : Calls Try.prog 22 #[RV l e] w fun r w' => r = .returned (.int .i64 (endE l e)) ∧ Below w.heap.size w w' := by
  have b1 := fun o => (Below.refl w.heap.size w).alloc (Nat.le_refl _) o
  by_cases he : e = 0
  · subst he
    cases l with
    | nil =>
      rw [show endE [] 0 = 0 from rfl]
      unfold RV
      have hE : (strB []).toList.isEmpty = true := strB_empty []
      go_enter Try.func22, Try.ntmps22
      go_wp2_with fail
      go_ret
      exact ⟨rfl, b1 _⟩
    | cons c t =>
      rw [show endE (c :: t) 0 = 12 by simp [endE]]
      unfold RV
      have hE : (strB (c :: t)).toList.isEmpty = false := strB_empty (c :: t)
      go_enter Try.func22, Try.ntmps22
      go_wp2_with fail
      go_ret
      exact ⟨rfl, b1 _⟩
  · rw [endE_bad he]
    have he' : (e != 0) = true := by simpa using he
    unfold RV
    clear he
    go_enter Try.func22, Try.ntmps22
    go_wp2_with fail
    go_ret
    exact ⟨rfl, b1 _⟩

set_option maxHeartbeats 1000000 in
theorem ref_fixed (l : List UInt8) (e k : Int) (w : World) : Calls Try.prog 38 #[RV l e, .int .i64 k] w fun r w' => r = .returned (.tuple #[RV (fxL l e k) (tkE l e k), .string (strB (fxB l e k))]) ∧ Below w.heap.size w w' := by
  have b2 := below2 w
  by_cases he : e = 0
  · subst he
    by_cases hk : k < 0
    · have e1 : tkE l 0 k = 1 := by unfold tkE; rw [if_neg (by simp), if_pos hk]
      have e2 : fxL l 0 k = l := by unfold fxL; rw [e1]; rfl
      have e3 : fxB l 0 k = [] := by unfold fxB; rw [e1]; rfl
      rw [e1, e2, e3]
      unfold RV
      clear e1 e2 e3
      go_enter Try.func38, Try.ntmps38
      go_wp2_with fail
      refine bodyPost_ret (v := .tuple #[.agg #[.string (strB l), .int .i64 1], .string (strB [])]) (by simp [results, Try.results38, go_sem]; rfl) rfl ⟨rfl, b2 _ _⟩
    · by_cases hl : (l.length : Int) < k
      · have e1 : tkE l 0 k = 10 := by unfold tkE; rw [if_neg (by simp), if_neg hk, if_pos hl]
        have e2 : fxL l 0 k = l := by unfold fxL; rw [e1]; rfl
        have e3 : fxB l 0 k = [] := by unfold fxB; rw [e1]; rfl
        rw [e1, e2, e3]
        unfold RV
        have hl' : ((strB l).size : Int) < k := by rw [strB_size]; exact hl
        clear e1 e2 e3 hl
        go_enter Try.func38, Try.ntmps38
        go_wp2_with fail
        refine bodyPost_ret (v := .tuple #[.agg #[.string (strB l), .int .i64 10], .string (strB [])]) (by simp [results, Try.results38, go_sem]; rfl) rfl ⟨rfl, b2 _ _⟩
      · have e1 : tkE l 0 k = 0 := by unfold tkE; rw [if_neg (by simp), if_neg hk, if_neg hl]
        have e2 : fxL l 0 k = l.drop k.toNat := by unfold fxL; rw [if_pos e1]
        have e3 : fxB l 0 k = l.take k.toNat := by unfold fxB; rw [if_pos e1]
        rw [e1, e2, e3]
        unfold RV
        have hl' : k ≤ ((strB l).size : Int) := by rw [strB_size]; omega
        have E1 := Lib.hid (strB_to l k.toNat)
        have E2 := Lib.hid (strB_from l k.toNat)
        clear e1 e2 e3 hl
        go_enter Try.func38, Try.ntmps38
        go_wp2_with fail
        rw [E1.out, E2.out]
        refine bodyPost_ret (v := .tuple #[.agg #[.string (strB (l.drop k.toNat)), .int .i64 0], .string (strB (l.take k.toNat))]) (by simp [results, Try.results38, go_sem]) rfl ⟨rfl, b2 _ _⟩
  · have e1 : tkE l e k = e := by unfold tkE; rw [if_pos he]
    have e2 : fxL l e k = l := by unfold fxL; rw [e1, if_neg he]
    have e3 : fxB l e k = [] := by unfold fxB; rw [e1, if_neg he]
    rw [e1, e2, e3]
    have he' : (e != 0) = true := by simpa using he
    unfold RV
    clear he e1 e2 e3
    go_enter Try.func38, Try.ntmps38
    go_wp2_with fail
    refine bodyPost_ret (v := .tuple #[.agg #[.string (strB l), .int .i64 e], .string (strB [])]) (by simp [results, Try.results38, go_sem]; rfl) rfl ⟨rfl, b2 _ _⟩
end Go.Proofs.Ytnbjhdlnibmgdaa

/-! The document's reading of a number, by value. -/
namespace Go.Proofs.Ytnbjhdlnibmgdaa
open Go.RowKit Codec

theorem strB_head (d : UInt8) (t : List UInt8) (h : 0 < (strB (d :: t)).size) : (strB (d :: t))[0] = d := rfl
theorem pow_small {k : Nat} (hk : k ≤ 9) : 128 ^ k ≤ 9223372036854775808 := by
  have h := Nat.pow_le_pow_right (show 0 < 128 by omega) hk
  simpa using h
theorem u64_in {z : Int} (h0 : 0 ≤ z) (h1 : z < 18446744073709551616) : IntKind.u64.wrap z = z := by unfold IntKind.wrap; simp [IntKind.signed, IntKind.bits]; omega
theorem wrap_mul {k X d : Nat} (hX : X < 128 ^ k) (hk : k ≤ 9) (h9 : k = 9 → d % 128 ≤ 1) : IntKind.u64.wrap ((X : Int) + IntKind.u64.wrap (128 ^ k * ((d : Int) % 128))) = ((X + d % 128 * 128 ^ k : Nat) : Int) := by
  have hs := n_small (c := d % 128) hX hk (by omega) h9
  have e : (128 : Int) ^ k * ((d : Int) % 128) = ((d % 128 * 128 ^ k : Nat) : Int) := by
    rw [Nat.mul_comm]; push_cast; rfl
  rw [e, u64_in (Int.natCast_nonneg _) (by omega), u64_in (by omega) (by omega)]
  push_cast; rfl
theorem wrap_pow {k : Nat} (hk : k < 9) : IntKind.u64.wrap ((128 : Int) ^ k * 128) = ((128 ^ (k + 1) : Nat) : Int) := by
  have h := pow_small (k := k + 1) (by omega)
  have e : (128 : Int) ^ k * 128 = ((128 ^ (k + 1) : Nat) : Int) := by rw [Nat.pow_succ]; push_cast; rfl
  rw [e, u64_in (Int.natCast_nonneg _) (by omega)]

set_option maxHeartbeats 2000000 in
set_option maxRecDepth 100000 in
theorem ref_uint0 (l : List UInt8) (w : World) : Calls Try.prog 20 #[RV l 0] w fun r w' => ∃ m : List UInt8, r = .returned (.tuple #[RV m (rd 0 l).2.2, .int .u64 (rd 0 l).1]) ∧ ((rd 0 l).2.2 = 0 → m = l.drop (rd 0 l).2.1) ∧ Below w.heap.size w w' := by
  have b2 := below2 w
  unfold RV
  go_enter Try.func20, Try.ntmps20
  go_wp2_with fail
  go_loopw [4, 5, 6, 7] (fun x m i c wr => ∃ (k X : Nat), k ≤ 9 ∧ i = .int .i64 k ∧ m = .int .u64 ((128 ^ k : Nat) : Int) ∧ x = .int .u64 X ∧ X < 128 ^ k ∧ Hid (rd 0 l = comb k X (rd k (l.drop k))) ∧
    wr = (w.alloc (.cells #[.string (strB (l.drop k)), .int .i64 0] 51)).alloc (.cells #[.string ByteArray.empty, .int .i64 0] 51)) (fun _ _ i _ _ => 10 - (intOf i).toNat)
  case atStart => exact ⟨0, 0, by omega, rfl, rfl, rfl, by simp, by rw [List.drop_zero, comb_zero _ (rd_err 0 l)]; exact rfl, rfl⟩
  case round =>
    obtain ⟨k, X, hk9, rfl, rfl, rfl, hX, HD, rfl⟩ := hrel
    generalize hR : l.drop k = R at *
    cases R with
    | nil =>
      have hE : (strB []).toList.isEmpty = true := strB_empty []
      have E : rd 0 l = (0, 0, 10) := by rw [HD.out]; rfl
      clear HD
      have HE := Lib.hid E
      clear E
      go_wp2_with fail
      refine bodyPost_ret (v := .tuple #[.agg #[.string (strB []), .int .i64 10], .int .u64 0]) (by simp [results, Try.results20, go_sem]) rfl ⟨[], ?_, ?_, b2 _ _⟩
      · rw [HE.out]; rfl
      · rw [HE.out]; intro h; cases h
    | cons d t =>
      have hE : (strB (d :: t)).toList.isEmpty = false := strB_empty (d :: t)
      have hsz : (strB (d :: t)).size = t.length + 1 := by rw [strB_size]; rfl
      have hd0 := strB_head d t
      have EX := Lib.hid (strB_from (d :: t) 1)
      have ht : l.drop (k + 1) = t := by rw [← List.drop_drop, hR]; rfl
      have HT := Lib.hid ht
      have HX := Lib.hid hX
      have hu := d.toNat_lt
      clear hR ht hX
      rw [hsz] at EX
      go_wp2_with fail
      · have h9 : (k : Int) = 9 := by assumption
        have h1 : 1 < (d.toNat : Int) ∨ ((d.toNat : Int) == 0) = true := by assumption
        simp only [beq_iff_eq] at h1
        have E := n_bad HD.out (by omega)
        rw [EX.out]
        refine bodyPost_ret (v := .tuple #[.agg #[.string (strB t), .int .i64 11], .int .u64 0]) (by simp [results, Try.results20, go_sem]) rfl ⟨t, ?_, ?_, b2 _ _⟩
        · rw [E]; rfl
        · rw [E]; intro h; cases h
      · have h9 : (k : Int) = 9 := by assumption
        have h1 : (d.toNat : Int) ≤ 1 ∧ ((d.toNat : Int) == 0) = false := by assumption
        have := WalkArith.int_ne h1.2
        have E := n_end HD.out (by omega) (by omega)
        have W := wrap_mul (d := d.toNat) HX.out hk9 (by omega)
        rw [EX.out, W]
        refine bodyPost_ret (v := .tuple #[.agg #[.string (strB t), .int .i64 0], .int .u64 ((X + d.toNat % 128 * 128 ^ k : Nat) : Int)]) (by simp [results, Try.results20, go_sem]) rfl ⟨t, ?_, ?_, b2 _ _⟩
        · rw [E, Nat.mod_eq_of_lt (by omega)]; rfl
        · rw [E]; intro _; exact HT.out.symm
      · have h9 : (k : Int) = 9 := by assumption
        have h1 : 1 < (d.toNat : Int) := by assumption
        have E := n_bad HD.out (by omega)
        rw [EX.out]
        refine bodyPost_ret (v := .tuple #[.agg #[.string (strB t), .int .i64 11], .int .u64 0]) (by simp [results, Try.results20, go_sem]) rfl ⟨t, ?_, ?_, b2 _ _⟩
        · rw [E]; rfl
        · rw [E]; intro h; cases h
      · have hp : 0 < k := by assumption
        have h0 : ((d.toNat : Int) == 0) = true := by assumption
        have := WalkArith.int_eq h0
        have E := n_bad HD.out (by omega)
        rw [EX.out]
        refine bodyPost_ret (v := .tuple #[.agg #[.string (strB t), .int .i64 11], .int .u64 0]) (by simp [results, Try.results20, go_sem]) rfl ⟨t, ?_, ?_, b2 _ _⟩
        · rw [E]; rfl
        · rw [E]; intro h; cases h
      · have h9 : ¬ (k : Int) = 9 := by assumption
        have h0 : ((d.toNat : Int) == 0) = false := by assumption
        have hs : (d.toNat : Int) < 128 := by assumption
        have := WalkArith.int_ne h0
        have E := n_end HD.out (by omega) (by omega)
        have W := wrap_mul (d := d.toNat) HX.out hk9 (by omega)
        rw [EX.out, W]
        refine bodyPost_ret (v := .tuple #[.agg #[.string (strB t), .int .i64 0], .int .u64 ((X + d.toNat % 128 * 128 ^ k : Nat) : Int)]) (by simp [results, Try.results20, go_sem]) rfl ⟨t, ?_, ?_, b2 _ _⟩
        · rw [E, Nat.mod_eq_of_lt (by omega)]; rfl
        · rw [E]; intro _; exact HT.out.symm
      · have h9 : ¬ (k : Int) = 9 := by assumption
        have hs : 128 ≤ (d.toNat : Int) := by assumption
        have E := HD.out
        rw [comb_step (by omega) (by omega)] at E
        have W := wrap_mul (d := d.toNat) HX.out hk9 (by omega)
        have W2 := wrap_pow (k := k) (by omega)
        have hX2 := n_next (c := d.toNat % 128) HX.out (by omega)
        go_roundw
        case rel => exact ⟨k + 1, _, by omega, by go_num, by rw [W2], by rw [W], hX2, by rw [HT.out, show d.toNat % 128 = d.toNat - 128 by omega]; exact E, by rw [EX.out, HT.out]; rfl⟩
        case measure => simp [intOf]; omega
      · have h9 : ¬ (k : Int) = 9 := by assumption
        have hp : ¬ 0 < k := by assumption
        have hs : (d.toNat : Int) < 128 := by assumption
        have E := n_end HD.out (by omega) (by omega)
        have W := wrap_mul (d := d.toNat) HX.out hk9 (by omega)
        rw [EX.out, W]
        refine bodyPost_ret (v := .tuple #[.agg #[.string (strB t), .int .i64 0], .int .u64 ((X + d.toNat % 128 * 128 ^ k : Nat) : Int)]) (by simp [results, Try.results20, go_sem]) rfl ⟨t, ?_, ?_, b2 _ _⟩
        · rw [E, Nat.mod_eq_of_lt (by omega)]; rfl
        · rw [E]; intro _; exact HT.out.symm
      · have h9 : ¬ (k : Int) = 9 := by assumption
        have hs : 128 ≤ (d.toNat : Int) := by assumption
        have E := HD.out
        rw [comb_step (by omega) (by omega)] at E
        have W := wrap_mul (d := d.toNat) HX.out hk9 (by omega)
        have W2 := wrap_pow (k := k) (by omega)
        have hX2 := n_next (c := d.toNat % 128) HX.out (by omega)
        go_roundw
        case rel => exact ⟨k + 1, _, by omega, by go_num, by rw [W2], by rw [W], hX2, by rw [HT.out, show d.toNat % 128 = d.toNat - 128 by omega]; exact E, by rw [EX.out, HT.out]; rfl⟩
        case measure => simp [intOf]; omega

/-- The post of a reading by value: a reader with error e, that has l left where e is none; the value v. -/
def RGot (w : World) (e : Int) (l : List UInt8) (v : Value) (r : Ending) (w' : World) : Prop := ∃ m : List UInt8, r = .returned (.tuple #[RV m e, v]) ∧ (e = 0 → m = l) ∧ Below w.heap.size w w'

set_option maxHeartbeats 1000000 in
theorem ref_uint (l : List UInt8) (e : Int) (w : World) : Calls Try.prog 20 #[RV l e] w (RGot w (uiE l e) (uiL l e) (.int .u64 (uiX l e))) := by
  by_cases he : e = 0
  · subst he
    refine (ref_uint0 l w).mono ?_
    rintro _ w1 ⟨m, rfl, h1, h2⟩
    unfold uiE uiX uiL
    rw [if_pos rfl, if_pos rfl, if_pos rfl]
    exact ⟨m, rfl, fun h => h1 (by omega), h2⟩
  · have e1 : uiE l e = e := by unfold uiE; rw [if_neg he]
    have e2 : uiX l e = 0 := by unfold uiX; rw [if_neg he]
    rw [e1, e2]
    have b2 := below2 w
    have HE := Lib.hid he
    have he' : (e != 0) = true := by simpa using he
    unfold RV
    clear he e1 e2
    go_enter Try.func20, Try.ntmps20
    go_wp2_with fail
    refine bodyPost_ret (v := .tuple #[.agg #[.string (strB l), .int .i64 e], .int .u64 0]) (by simp [results, Try.results20, go_sem]) rfl ⟨l, rfl, fun h => absurd h HE.out, b2 _ _⟩
end Go.Proofs.Ytnbjhdlnibmgdaa

/-! The document's reading of a row with its length, by value. -/
namespace Go.Proofs.Ytnbjhdlnibmgdaa
open Go.RowKit Codec

/-- Two variables of readers that a call has made, in a later world. -/
theorem two_kept {w w1 : World} {a b c d : Value} {t : TypeId} (h : Below ((w.alloc (.cells #[a, b] t)).alloc (.cells #[c, d] t)).heap.size ((w.alloc (.cells #[a, b] t)).alloc (.cells #[c, d] t)) w1) :
    (w1.cell? ⟨w.heap.size, 0, none⟩ = some a ∧ w1.cell? ⟨w.heap.size, 1, none⟩ = some b ∧ w1.cell? ⟨w.heap.size + 1, 0, none⟩ = some c ∧ w1.cell? ⟨w.heap.size + 1, 1, none⟩ = some d) ∧
    (w1.frozen? ⟨w.heap.size, 0, none⟩ = false ∧ w1.frozen? ⟨w.heap.size, 1, none⟩ = false ∧ w1.frozen? ⟨w.heap.size + 1, 0, none⟩ = false ∧ w1.frozen? ⟨w.heap.size + 1, 1, none⟩ = false) ∧ Below w.heap.size w w1 := by
  have h2 : ((w.alloc (.cells #[a, b] t)).alloc (.cells #[c, d] t)).heap[w.heap.size + 1]? = some (.cells #[c, d] t (0, 0)) := by
    have := heap_alloc_new (w.alloc (.cells #[a, b] t)) (.cells #[c, d] t)
    simpa using this
  have h1 : ((w.alloc (.cells #[a, b] t)).alloc (.cells #[c, d] t)).heap[w.heap.size]? = some (.cells #[a, b] t (0, 0)) := by
    have := heap_alloc_new w (.cells #[a, b] t)
    rw [((Below.refl _ (w.alloc (.cells #[a, b] t))).alloc (Nat.le_refl _) (.cells #[c, d] t)).block w.heap.size (by simp)]
    exact this
  have k1 := (h.block w.heap.size (by simp; omega)).trans h1
  have k2 := (h.block (w.heap.size + 1) (by simp)).trans h2
  refine ⟨⟨?_, ?_, ?_, ?_⟩, ⟨?_, ?_, ?_, ?_⟩, (below2 w _ _).trans (h.mono (by simp; omega))⟩
  · rw [cell_of_cells k1]; rfl
  · rw [cell_of_cells k1]; rfl
  · rw [cell_of_cells k2]; rfl
  · rw [cell_of_cells k2]; rfl
  all_goals (simp [World.frozen?, k1, k2])

/-- What is written last stands there. -/
theorem set_set (w : World) (a : Addr) (u v : Value) : (w.setCell a u).setCell a v = w.setCell a v := by
  unfold World.setCell
  congr 1
  apply Array.ext_getElem?
  intro i
  simp only [Array.getElem?_modify]
  split
  · cases w.heap[i]? with
    | none => rfl
    | some o =>
      cases o with
      | cells c e f => by_cases h : a.spot.isSome <;> simp [h]
      | _ => rfl
  · rfl

theorem later {w1 w2 : World} {g g' : Nat} {u v : Value} (hne : g' ≠ g) (hlt : g' < w1.heap.size) (h : Below ((w1.setCell ⟨g, 0, none⟩ u).setCell ⟨g, 1, none⟩ v).heap.size ((w1.setCell ⟨g, 0, none⟩ u).setCell ⟨g, 1, none⟩ v) w2) (o : Nat) :
    w2.cell? ⟨g', o, none⟩ = w1.cell? ⟨g', o, none⟩ ∧ w2.frozen? ⟨g', o, none⟩ = w1.frozen? ⟨g', o, none⟩ := by
  have e : w2.heap[g']? = w1.heap[g']? := (h.block g' (by simp [World.setCell]; exact hlt)).trans ((Below.heap_setCell _ _ _ _ hne).trans (Below.heap_setCell _ _ _ _ hne))
  exact ⟨World.cell?_of_block (w := w1) (a := ⟨g', o, none⟩) e, by simp [World.frozen?, e]⟩
theorem below_four {w w1 : World} (h : Below w.heap.size w w1) (u1 u2 u3 u4 : Value) : Below w.heap.size w ((((w1.setCell ⟨w.heap.size, 0, none⟩ u1).setCell ⟨w.heap.size, 1, none⟩ u2).setCell ⟨w.heap.size + 1, 0, none⟩ u3).setCell ⟨w.heap.size + 1, 1, none⟩ u4) :=
  (((h.setCell (p := ⟨w.heap.size, 0, none⟩) (Nat.le_refl _) u1).setCell (p := ⟨w.heap.size, 1, none⟩) (Nat.le_refl _) u2).setCell (p := ⟨w.heap.size + 1, 0, none⟩) (Nat.le_succ _) u3).setCell (p := ⟨w.heap.size + 1, 1, none⟩) (Nat.le_succ _) u4

set_option maxHeartbeats 1000000 in
theorem ref_bytes (l : List UInt8) (e most : Int) (w : World) (hm : (Lit.int .i64 most).wf = true) : Calls Try.prog 21 #[RV l e, .int .i64 most] w (RGot w (byE l e most) (byL l e most) (.string (strB (byB l e most)))) := by
  have hu := fun w => ref_uint l e w
  unfold byE byB byL
  generalize uiE l e = e1 at *
  generalize hx : uiX l e = x at *
  have hx2 : x < 18446744073709551616 := by rw [← hx]; exact uiX_lt l e
  generalize uiL l e = l1 at *
  have hmb := bounds_i64 hm
  clear hx hm
  unfold RV at *
  by_cases he : e1 = 0
  · subst he
    have hz : ¬ ((0 : Int) ≠ 0) := by simp
    rw [if_neg hz, if_neg hz, if_neg hz]
    clear hz
    by_cases hb : most < 0 ∨ most < (x : Int)
    · rw [if_pos hb, if_pos hb, if_pos hb]
      go_enter Try.func21, Try.ntmps21
      go_wp2_with fail
      refine (hu _).mono ?_
      rintro _ w1 ⟨m, rfl, h1, h2⟩
      unfold RV
      obtain ⟨⟨c1, c2, c3, c4⟩, ⟨f1, f2, f3, f4⟩, hb1⟩ := two_kept h2
      have hbs := below_four hb1
      have hss := set_set
      clear h1 h2 hu
      go_wp2_with fail
      all_goals (refine bodyPost_ret (v := .tuple #[.agg #[.string (strB m), .int .i64 13], .string (strB [])]) (by simp [results, Try.results21, go_sem, c3, c4]; rfl) rfl ⟨m, rfl, (fun h => by cases h), hbs _ _ _ _⟩)
    · rw [if_neg hb, if_neg hb, if_neg hb]
      have hb1 : 0 ≤ most := by omega
      have hb2 : (x : Int) ≤ most := by omega
      clear hb
      go_enter Try.func21, Try.ntmps21
      go_wp2_with fail
      refine (hu _).mono ?_
      rintro _ w1 ⟨m, rfl, h1, h2⟩
      unfold RV
      obtain ⟨⟨c1, c2, c3, c4⟩, ⟨f1, f2, f3, f4⟩, hb1⟩ := two_kept h2
      have hsz : w.heap.size + 1 < w1.heap.size := by have := h2.size; simp at this; omega
      obtain rfl : m = l1 := h1 rfl
      have hbs := below_four hb1
      have hss := set_set
      have HB1 := Lib.hid hb1
      have HSZ := Lib.hid hsz
      clear h1 h2 hu hb1 hsz
      go_wp2_with fail
      refine (ref_fixed m 0 x _).mono ?_
      rintro _ w2 ⟨rfl, hb3⟩
      unfold RV
      obtain ⟨a1, a2⟩ := later (g' := w.heap.size + 1) (by omega) HSZ.out hb3 0
      obtain ⟨a3, a4⟩ := later (g' := w.heap.size + 1) (by omega) HSZ.out hb3 1
      rw [c3] at a1
      rw [f3] at a2
      rw [c4] at a3
      rw [f4] at a4
      have hb4 := ((HB1.out.setCell (p := ⟨w.heap.size, 0, none⟩) (Nat.le_refl _) (.string (strB m))).setCell (p := ⟨w.heap.size, 1, none⟩) (Nat.le_refl _) (.int .i64 0))
      have hb5 := hb4.trans (hb3.mono hb4.size)
      have hbt := fun u v => (hb5.setCell (p := ⟨w.heap.size + 1, 0, none⟩) (Nat.le_succ _) u).setCell (p := ⟨w.heap.size + 1, 1, none⟩) (Nat.le_succ _) v
      generalize fxL m 0 x = m2 at *
      generalize tkE m 0 x = e2 at *
      clear hbs hb3 hb4 hb5 c1 c2 c3 c4 f1 f2 f3 f4
      go_wp2_with fail
      refine bodyPost_ret (v := .tuple #[.agg #[.string (strB m2), .int .i64 e2], .string (strB (fxB m 0 x))]) (by simp [results, Try.results21, go_sem, a1, a3]) rfl ⟨m2, rfl, fun _ => rfl, hbt _ _⟩
  · have HE := Lib.hid he
    rw [if_pos he, if_pos he, if_pos he]
    have he' : (e1 != 0) = true := by simpa using he
    clear he
    go_enter Try.func21, Try.ntmps21
    go_wp2_with fail
    refine (hu _).mono ?_
    rintro _ w1 ⟨m, rfl, h1, h2⟩
    unfold RV
    obtain ⟨⟨c1, c2, c3, c4⟩, ⟨f1, f2, f3, f4⟩, hb1⟩ := two_kept h2
    have hbs := below_four hb1
    have hss := set_set
    clear h1 h2 hu
    go_wp2_with fail
    refine bodyPost_ret (v := .tuple #[.agg #[.string (strB m), .int .i64 e1], .string (strB [])]) (by simp [results, Try.results21, go_sem, c3, c4]; rfl) rfl ⟨m, rfl, fun h => absurd h HE.out, hbs _ _ _ _⟩
end Go.Proofs.Ytnbjhdlnibmgdaa
