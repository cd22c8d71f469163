/-
  Objects, pure: what may be, kind by kind.
  a >= b, of strings, under a guard that holds.
  Files: those of a tree whose paths begin so.
  A slice of strings that reads as a list of rows of bytes.
  Files: the names that stand in a directory.
  The reference's front: one text, with a slash behind it, ahead of another one.
  The reference's Names.
  The reference's Path.
-/
import Derived.Test.YtmakpjcgiiljfaaDoorPk04
import Derived.Test.YtmakpjcgiiljfaaDoorPk01
import Derived.Test.YtmakpjcgiiljfaaDoorPk06
import Derived.Test.YtmakpjcgiiljfaaDoorPk02
import Derived.Deep.AppendLies
import Derived.Test.YtmakpjcgiiljfaaDoorPk07
import Derived.BigQuiet
import Derived.Test.YtmakpjcgiiljfaaDoorPk03
/-! Objects, pure: what may be, kind by kind. -/
namespace Go.Proofs.YtmakpjcgiiljfaaDoor
open Go.RowKit Codec

variable {b : List UInt8} {z : Nat} {ids : List (List UInt8)} {es : List En} {lb : List UInt8}
theorem chk_one {x : Ob} (h : mayO x = true → False) : chkO x = 1 := by
  unfold chkO
  rw [if_neg h]
theorem rise_nil : riseE [] = true := rfl
theorem chk_piece (h : ¬ (b.length ≤ 32768 ∧ z = 0 ∧ ids = [] ∧ es = [] ∧ lb = [])) : chkO ⟨1, b, z, ids, es, lb⟩ = 1 := chk_one fun hm => by
  rcases may_cases hm with h1 | h1 | h1 | h1
  · exact h h1.2
  · exact absurd h1.1 (by simp)
  · exact absurd h1.1 (by simp)
  · exact absurd h1.1 (by simp)
theorem chk_list (h : ¬ (ids.length ≤ 1000 ∧ z ≤ 1048576 ∧ (ids.length = 0 ↔ z = 0) ∧ b = [] ∧ es = [] ∧ lb = [])) : chkO ⟨2, b, z, ids, es, lb⟩ = 1 := chk_one fun hm => by
  rcases may_cases hm with h1 | h1 | h1 | h1
  · exact absurd h1.1 (by simp)
  · exact h h1.2
  · exact absurd h1.1 (by simp)
  · exact absurd h1.1 (by simp)
theorem chk_dir (h : ¬ (es.length ≤ 500 ∧ b = [] ∧ z = 0 ∧ ids = [] ∧ lb = [])) : chkO ⟨3, b, z, ids, es, lb⟩ = 1 := chk_one fun hm => by
  rcases may_cases hm with h1 | h1 | h1 | h1
  · exact absurd h1.1 (by simp)
  · exact absurd h1.1 (by simp)
  · exact h ⟨h1.2.1, h1.2.2.2⟩
  · exact absurd h1.1 (by simp)
theorem chk_snap (h : ¬ (ids.length = 1 ∧ lb.length ≤ 255 ∧ b = [] ∧ es = [])) : chkO ⟨4, b, z, ids, es, lb⟩ = 1 := chk_one fun hm => by
  rcases may_cases hm with h1 | h1 | h1 | h1
  · exact absurd h1.1 (by simp)
  · exact absurd h1.1 (by simp)
  · exact absurd h1.1 (by simp)
  · exact h h1.2
theorem chk_piece_yes (h : b.length ≤ 32768) : chkO ⟨1, b, 0, [], [], []⟩ = if riseE ([] : List En) = true then 0 else 1 := by
  rw [if_pos rise_nil]
  unfold chkO mayO Ob.piece Ob.none
  simp [h]
theorem chk_list_yes (h1 : ids.length ≤ 1000) (h2 : z ≤ 1048576) (h3 : ids.length = 0 ↔ z = 0) : chkO ⟨2, [], z, ids, [], []⟩ = if riseE ([] : List En) = true then 0 else 1 := by
  rw [if_pos rise_nil]
  unfold chkO mayO Ob.list Ob.none
  have h4 : (decide (ids.length = 0) == decide (z = 0)) = true := by rw [beq_iff_eq]; exact decide_eq_decide.2 h3
  simp only [h4]
  simp [h1, h2]
theorem chk_dir_yes (h : es.length ≤ 500) : chkO ⟨3, [], 0, [], es, []⟩ = if riseE es = true then 0 else 1 := by
  unfold chkO mayO Ob.dir Ob.none
  simp [h]
theorem chk_snap_yes (h1 : ids.length = 1) (h2 : lb.length ≤ 255) : chkO ⟨4, [], z, ids, [], lb⟩ = if riseE ([] : List En) = true then 0 else 1 := by
  rw [if_pos rise_nil]
  unfold chkO mayO Ob.snap Ob.none
  simp [h1, h2]
end Go.Proofs.YtmakpjcgiiljfaaDoor

/-! a >= b, of strings, under a guard that holds. -/
namespace Go.Proofs.YtmakpjcgiiljfaaDoor
open Go.RowKit

theorem run_geq_string {P : Program} (ty : TypeId) (a b : ByteArray) (w : World) : (binOp .geq ty (.string a) (.string b)).run P w = .ok (.bool (!Op.bytesLess a.toList b.toList)) w := rfl
/-- a >= b, of strings, under a guard that holds. -/
theorem wpList_geq {ops : Array Oper} {rest : List Oper} {o : Oper} {a : Act} {w : World} {Q : Exit → Act → World → Prop} (hw : Region.wanted o (yielded ops a.tmps) = true) (x y : Operand) (ho : o.op = .binOp .geq 9 x y 9)
    {s t : ByteArray} (hx : a.eval x = .string s) (hy : a.eval y = .string t) {B : Bool} (hB : (!Op.bytesLess s.toList t.toList) = B) (h : wpList Tryd.prog ops Q rest (a.put o.dst (.bool B)) w) : wpList Tryd.prog ops Q (o :: rest) a w := by
  unfold wpList
  rw [if_pos hw]
  refine .inl ?_
  unfold Oper.wp execOp
  simp only [ho, hx, hy]
  go_simp
  rw [run_geq_string, hB]
  exact h
theorem cat_st (a b : List UInt8) : st a ++ st b = st (a ++ b) := by
  apply ByteArray.ext
  rw [ByteArray.data_append]
  simp [st]
/-- a + b, of strings. -/
theorem wpList_cat {ops : Array Oper} {rest : List Oper} {o : Oper} {a : Act} {w : World} {Q : Exit → Act → World → Prop} (hw : Region.wanted o (yielded ops a.tmps) = true) (x y : Operand) (ho : o.op = .binOp .add 9 x y 9)
    (s t : List UInt8) (hx : a.eval x = .string (st s)) (hy : a.eval y = .string (st t)) (hs : s.length + t.length ≤ 1000000000) {C : List UInt8} (hC : C = s ++ t) (h : wpList Tryd.prog ops Q rest (a.put o.dst (.string (st C))) w) : wpList Tryd.prog ops Q (o :: rest) a w := by
  unfold wpList
  rw [if_pos hw]
  refine .inl ?_
  unfold Oper.wp execOp
  simp only [ho, hx, hy]
  go_simp
  rw [if_neg (by rw [st_size, st_size]; omega), cat_st, ← hC]
  exact h
end Go.Proofs.YtmakpjcgiiljfaaDoor

/-! Files: those of a tree whose paths begin so. -/
namespace Go.Proofs.YtmakpjcgiiljfaaDoor
open Go.RowKit Codec

theorem prefix_lt : ∀ (f x y : List UInt8), ¬ x < f → f.isPrefixOf x = false → f.isPrefixOf y = true → y < x
  | [], x, y, _, h, _ => by simp at h
  | c :: f, [], y, h, _, _ => absurd (by simp) h
  | c :: f, d :: x, [], _, _, h => by simp at h
  | c :: f, d :: x, b :: y, h1, h2, h3 => by
    simp only [List.isPrefixOf_cons_cons, Bool.and_eq_true, beq_iff_eq] at h3
    obtain ⟨rfl, h3⟩ := h3
    rw [List.cons_lt_cons_iff] at h1 ⊢
    simp only [not_or, not_and] at h1
    by_cases hcd : c = d
    · subst hcd
      have h2' : f.isPrefixOf x = false := by simpa using h2
      exact .inr ⟨rfl, prefix_lt f x y (h1.2 rfl) h2' h3⟩
    · exact .inl (by
        have h4 : c ≤ d := UInt8.not_lt.1 h1.1
        exact UInt8.lt_of_le_of_ne h4 hcd)
theorem prefix_ge : ∀ (f y : List UInt8), f.isPrefixOf y = true → ¬ y < f
  | [], y, _ => by simp
  | c :: f, [], h => by simp at h
  | c :: f, b :: y, h => by
    simp only [List.isPrefixOf_cons_cons, Bool.and_eq_true, beq_iff_eq] at h
    obtain ⟨rfl, h⟩ := h
    rw [List.cons_lt_cons_iff]
    rintro (h2 | ⟨_, h2⟩)
    · exact absurd h2 (UInt8.lt_irrefl c)
    · exact prefix_ge f y h h2
/-- Those that begin so. -/
def begL (f : List UInt8) (l : Tb) : Tb := l.filter fun x => f.isPrefixOf x.1
theorem begL_eq {l : Tb} (hr : Ris l) {f : List UInt8} {a j : Nat} (hlo : ∀ k x, k < a → l[k]? = some x → x.1 < f) (hhi : ∀ k x, a ≤ k → l[k]? = some x → ¬ x.1 < f)
    (hin : ∀ k x, a ≤ k → k < a + j → l[k]? = some x → f.isPrefixOf x.1 = true) (hout : ∀ x, l[a + j]? = some x → f.isPrefixOf x.1 = false) : begL f l = (l.drop a).take j := by
  have e : l = l.take a ++ ((l.drop a).take j ++ (l.drop a).drop j) := by rw [List.take_append_drop, List.take_append_drop]
  have h1 : begL f (l.take a) = [] := by
    unfold begL
    rw [List.filter_eq_nil_iff]
    intro x hx hp
    obtain ⟨k, hk⟩ := List.getElem?_of_mem hx
    have hka : k < a := by
      have := (List.getElem?_eq_some_iff.1 hk).1
      rw [List.length_take] at this
      omega
    rw [List.getElem?_take_of_lt hka] at hk
    exact prefix_ge f x.1 hp (hlo k x hka hk)
  have h2 : begL f ((l.drop a).take j) = (l.drop a).take j := by
    unfold begL
    rw [List.filter_eq_self]
    intro x hx
    obtain ⟨k, hk⟩ := List.getElem?_of_mem hx
    have hkj : k < j := by
      have := (List.getElem?_eq_some_iff.1 hk).1
      rw [List.length_take] at this
      omega
    rw [List.getElem?_take_of_lt hkj, List.getElem?_drop] at hk
    exact hin (a + k) x (by omega) (by omega) hk
  have h3 : begL f ((l.drop a).drop j) = [] := by
    unfold begL
    rw [List.filter_eq_nil_iff]
    intro x hx hp
    obtain ⟨k, hk⟩ := List.getElem?_of_mem hx
    rw [List.getElem?_drop, List.getElem?_drop] at hk
    have hlt := (List.getElem?_eq_some_iff.1 hk).1
    obtain ⟨y, hy⟩ : ∃ y, l[a + j]? = some y := ⟨_, List.getElem?_eq_getElem (by omega)⟩
    have hyo := hout y hy
    have hyn := hhi (a + j) y (by omega) hy
    have hxy := prefix_lt f y.1 x.1 hyn hyo hp
    by_cases hk0 : k = 0
    · subst hk0
      rw [Nat.add_zero] at hk
      rw [hy] at hk
      obtain rfl := Option.some.inj hk
      rw [hyo] at hp
      cases hp
    · exact klt_as hxy (hr (a + j) (a + (j + k)) y x (by omega) hy hk)
  conv => lhs; rw [e]
  unfold begL at h1 h2 h3 ⊢
  rw [List.filter_append, List.filter_append, h1, h2, h3]
  simp

/-! ### parts of a row of files -/
def cutF (A : Option Addr) (c k : Nat) : Option Addr := if c = k then A else A.map (·.add (k * 2))
theorem Fls.cut {w : World} {S : Nat → Prop} {A : Option Addr} {n c k : Nat} {l : Tb} (h : Fls w S A n c l) (hk : k ≤ n) : Fls w S (cutF A c k) (n - k) (c - k) (l.drop k) :=
  ⟨by rw [List.length_drop, h.len], by have := h.cap; omega, by have := h.max; omega, fun h0 => by
    obtain ⟨b, off, rfl, hS, hb, hc⟩ := h.row (by omega)
    have := h.cap
    unfold cutF
    rw [if_neg (by omega)]
    refine ⟨b, off + k * 2, by simp [add_plain], hS, hb, fun i x hx => ?_⟩
    rw [List.getElem?_drop] at hx
    obtain ⟨Ai, ni, ci, h1, h2⟩ := hc (k + i) x hx
    refine ⟨Ai, ni, ci, fun j v hv => ?_, h2⟩
    have := h1 j v hv
    rwa [show off + k * 2 + i * 2 + j = off + (k + i) * 2 + j by omega]⟩
theorem Fls.to {w : World} {S : Nat → Prop} {A : Option Addr} {n c k : Nat} {l : Tb} (h : Fls w S A n c l) (hk : k ≤ n) : Fls w S A k c (l.take k) :=
  ⟨by rw [List.length_take, h.len]; omega, by have := h.cap; omega, h.max, fun h0 => by
    obtain ⟨b, off, hA, hS, hb, hc⟩ := h.row (by omega)
    refine ⟨b, off, hA, hS, hb, fun i x hx => ?_⟩
    have hi : i < k := by
      have := (List.getElem?_eq_some_iff.1 hx).1
      rw [List.length_take] at this
      omega
    rw [List.getElem?_take_of_lt hi] at hx
    exact hc i x hx⟩
/-- While they are looked at. -/
def BeR (w : World) (f : List UInt8) (m : Tb) (i : Value) (wr : World) : Prop :=
  ∃ j : Nat, j ≤ m.length ∧ i = .int .i64 (j : Int) ∧ (∀ k x, k < j → m[k]? = some x → f.isPrefixOf x.1 = true) ∧ Below w.heap.size w wr
end Go.Proofs.YtmakpjcgiiljfaaDoor

/-! A slice of strings that reads as a list of rows of bytes. -/
namespace Go.Proofs.YtmakpjcgiiljfaaDoor
open Go.RowKit

/-- THE SLICE VALUE '.slice A n c' OF STRINGS READS AS l; its row, if it has any, lies in a block of S. -/
structure Strs (w : World) (S : Nat → Prop) (A : Option Addr) (n c : Nat) (l : List (List UInt8)) : Prop where
  len : l.length = n
  cap : n ≤ c
  max : c ≤ maxLen
  row : 0 < n → ∃ b off, A = some ⟨b, off, none⟩ ∧ S b ∧ b < w.heap.size ∧ ∀ i, i < n → w.cell? ⟨b, off + i, none⟩ = some (.string (st (l[i]?.getD [])))
section
variable {w w' : World} {S T : Nat → Prop} {A : Option Addr} {n c : Nat} {l : List (List UInt8)}
theorem Strs.below (h : Strs w S A n c l) (hb : Below w.heap.size w w') : Strs w' S A n c l :=
  ⟨h.len, h.cap, h.max, fun h0 => by
    obtain ⟨b, off, hA, hS, hlt, hc⟩ := h.row h0
    exact ⟨b, off, hA, hS, Nat.lt_of_lt_of_le hlt hb.size, fun i hi => (hb.cell (p := ⟨_, _, none⟩) hlt).trans (hc i hi)⟩⟩
theorem Strs.turned (h : Strs w S A n c l) (ht : Turned T w w') (hd : ∀ b, b < w.heap.size → S b → ¬ T b) : Strs w' S A n c l :=
  ⟨h.len, h.cap, h.max, fun h0 => by
    obtain ⟨b, off, hA, hS, hlt, hc⟩ := h.row h0
    exact ⟨b, off, hA, hS, Nat.lt_of_lt_of_le hlt ht.size, fun i hi => (World.cell?_of_block (w := w) (a := ⟨b, off + i, none⟩) (ht.block b hlt (hd b hlt hS))).trans (hc i hi)⟩⟩
theorem Strs.mono (h : Strs w S A n c l) (hT : ∀ b, b < w.heap.size → S b → T b) : Strs w T A n c l :=
  ⟨h.len, h.cap, h.max, fun h0 => by
    obtain ⟨b, off, hA, hS, hlt, hc⟩ := h.row h0
    exact ⟨b, off, hA, hT b hlt hS, hlt, hc⟩⟩
theorem Strs.drew (h : Strs w S A n c l) : Strs w.drew S A n c l := ⟨h.len, h.cap, h.max, h.row⟩
theorem Strs.drewN (h : Strs w S A n c l) (k : Nat) : Strs (w.drewN k) S A n c l := ⟨h.len, h.cap, h.max, h.row⟩
theorem Strs.nil (w : World) (S : Nat → Prop) (A : Option Addr) (c : Nat) (hc : c ≤ maxLen) : Strs w S A 0 c [] := ⟨rfl, Nat.zero_le _, hc, fun h => absurd h (by omega)⟩
end
def strs (l : List (List UInt8)) : List Value := l.map fun x => .string (st x)
theorem strs_length (l : List (List UInt8)) : (strs l).length = l.length := by simp [strs]
/-- A row of the call's own. -/
theorem own_strs {w : World} {B : Nat} {e : TypeId} {v : Value} {n : Nat} {l : List (List UInt8)} (h : w.ownsRow B e 1 v n (strs l)) : ∃ A c, v = .slice A n c ∧ Strs w (B ≤ ·) A n c l := by
  have hl : l.length = n := by have := h.1; rw [strs_length] at this; omega
  rcases h.2 with ⟨rfl, h2⟩ | ⟨g, cap, cur, rfl, hb, hg, hnc, hm, _, _⟩
  · subst h2
    obtain rfl : l = [] := List.eq_nil_of_length_eq_zero hl
    exact ⟨none, 0, rfl, Strs.nil _ _ _ _ (Nat.zero_le _)⟩
  · refine ⟨_, cap, rfl, hl, hnc, hm, fun _ => ⟨g, 0, rfl, hb, (Array.getElem?_eq_some_iff.1 hg).1, fun i hi => ?_⟩⟩
    have hil : i < l.length := by omega
    have := h.cells (g := g) rfl i (.string (st (l[i]?.getD []))) (by simp [strs, List.getElem?_map, List.getElem?_eq_getElem hil])
    rw [add_plain] at this
    simpa using this
theorem strs_one (l : List (List UInt8)) : ∀ u ∈ strs l, u.oneCell' = true := by
  intro u hu
  obtain ⟨x, _, rfl⟩ := List.mem_map.1 hu
  rfl
/-- What stands in the row that is read, for an append. -/
theorem Strs.news {w : World} {S : Nat → Prop} {b off n c : Nat} {l : List (List UInt8)} (h : Strs w S (some ⟨b, off, none⟩) n c l) (h0 : 0 < n) : ∀ j u, (strs l)[j]? = some u → w.cell? ((⟨b, off, none⟩ : Addr).add j) = some u := by
  intro j u hj
  obtain ⟨b', off', hA, _, _, hc⟩ := h.row h0
  injection hA with hA
  injection hA with e1 e2
  subst e1 e2
  have hjl : j < l.length := by have := (List.getElem?_eq_some_iff.1 hj).1; rwa [strs_length] at this
  rw [add_plain, hc j (by rw [← h.len]; exact hjl), ← hj, strs, List.getElem?_map, List.getElem?_eq_getElem hjl]
  rfl
theorem str_info2 : (Tryd.prog.info? 9).map (fun i => (i.zero, i.size, i.bytes)) = some (some (.string ByteArray.empty), 1, 16) := by kernel_rfl
/-- append of strings to no slice. -/
theorem append_strs {W : World} {S : Nat → Prop} {A : Option Addr} {n c : Nat} {l : List (List UInt8)} (h : Strs W S A n c l) (h0 : 0 < n) (hn : n ≤ 1000000) (ty : TypeId) :
    ∃ g c' W', (Builtin.append_ #[68, 68] ty #[.slice none 0 0, .slice A n c]).run Tryd.prog W = .ok (.slice (some ⟨g, 0, none⟩) n c') W' ∧ W'.ownsRow W.heap.size 9 1 (.slice (some ⟨g, 0, none⟩) n c') n (strs l) ∧ Below W.heap.size W W' := by
  obtain ⟨i0, hi, hz0, hz1, hz2⟩ := info_parts str_info2
  obtain ⟨b, off, rfl, _, _, _⟩ := h.row h0
  obtain ⟨v', W', hrun, r1, r2, _⟩ := run_append_own (P := Tryd.prog) W W.heap.size 68 ty 9 i0 (.string ByteArray.empty) 1 16 Tryd.underlying68 hi hz0 hz1 hz2 rfl (by decide) (.slice none 0 0) 0 [] (World.ownsRow_nil _ _ _ _) ⟨b, off, none⟩ n c (strs l) (by rw [strs_length, h.len, Nat.mul_one]) (h.news h0) (strs_one l) (by unfold maxLen; omega) (by omega) (Nat.le_refl _)
  rw [List.nil_append, Nat.zero_add] at r1
  obtain ⟨g, c', rfl, _⟩ := r1.form h0
  exact ⟨g, c', W', hrun, r1, (Below.refl _ W).grown r2 (Nat.le_refl _) (by intro k hk; simp [Value.ownBlock] at hk)⟩
theorem strs_set (l : List (List UInt8)) (i : Nat) (x : List UInt8) : (strs l).set i (.string (st x)) = strs (l.set i x) := by simp [strs, List.map_set]
end Go.Proofs.YtmakpjcgiiljfaaDoor

/-! Files: the names that stand in a directory. -/
namespace Go.Proofs.YtmakpjcgiiljfaaDoor
open Go.RowKit Codec

def bools (l : List Bool) : List Value := l.map fun x => .bool x
/-- A slice of truths. -/
structure Bls (w : World) (S : Nat → Prop) (A : Option Addr) (n c : Nat) (l : List Bool) : Prop where
  len : l.length = n
  cap : n ≤ c
  max : c ≤ maxLen
  row : 0 < n → ∃ b off, A = some ⟨b, off, none⟩ ∧ S b ∧ b < w.heap.size ∧ ∀ i, i < n → w.cell? ⟨b, off + i, none⟩ = some (.bool (l[i]?.getD false))
theorem Bls.below {w w' : World} {S : Nat → Prop} {A : Option Addr} {n c : Nat} {l : List Bool} (h : Bls w S A n c l) (hb : Below w.heap.size w w') : Bls w' S A n c l :=
  ⟨h.len, h.cap, h.max, fun h0 => by
    obtain ⟨b, off, hA, hS, hlt, hc⟩ := h.row h0
    exact ⟨b, off, hA, hS, Nat.lt_of_lt_of_le hlt hb.size, fun i hi => (hb.cell (p := ⟨_, _, none⟩) hlt).trans (hc i hi)⟩⟩
theorem Bls.mono {w : World} {S T : Nat → Prop} {A : Option Addr} {n c : Nat} {l : List Bool} (h : Bls w S A n c l) (hT : ∀ b, b < w.heap.size → S b → T b) : Bls w T A n c l :=
  ⟨h.len, h.cap, h.max, fun h0 => by
    obtain ⟨b, off, hA, hS, hlt, hc⟩ := h.row h0
    exact ⟨b, off, hA, hT b hlt hS, hlt, hc⟩⟩
theorem own_bls {w : World} {B : Nat} {e : TypeId} {v : Value} {n : Nat} {l : List Bool} (h : w.ownsRow B e 1 v n (bools l)) : ∃ A c, v = .slice A n c ∧ Bls w (B ≤ ·) A n c l := by
  have hl : l.length = n := by have := h.1; simp [bools] at this; omega
  rcases h.2 with ⟨rfl, h2⟩ | ⟨g, cap, cur, rfl, hb, hg, hnc, hm, _, _⟩
  · subst h2
    exact ⟨none, 0, rfl, ⟨hl, Nat.le_refl _, Nat.zero_le _, fun h => absurd h (by omega)⟩⟩
  · refine ⟨_, cap, rfl, hl, hnc, hm, fun _ => ⟨g, 0, rfl, hb, (Array.getElem?_eq_some_iff.1 hg).1, fun i hi => ?_⟩⟩
    have hil : i < l.length := by omega
    have := h.cells (g := g) rfl i (.bool (l[i]?.getD false)) (by simp [bools, List.getElem?_map, List.getElem?_eq_getElem hil])
    rw [add_plain] at this
    simpa using this
theorem own_kept2 {w w' : World} {base : Nat} {e : TypeId} {size : Nat} {v : Value} {n : Nat} {xs : List Value} (h : w.ownsRow base e size v n xs) (hb : ∀ q, v.ownBlock = some q → w'.heap[q]? = w.heap[q]?) : w'.ownsRow base e size v n xs := by
  refine ⟨h.1, ?_⟩
  rcases h.2 with hn | ⟨g, cap, cur, h1, h2, h3, rest⟩
  · exact .inl hn
  · subst h1
    exact .inr ⟨g, cap, cur, rfl, h2, (hb g rfl).trans h3, rest⟩
/-- Names and truths that grow. -/
structure UnS (w0 W : World) (names : List (List UInt8)) (dirs : List Bool) (v7 v8 : Value) : Prop where
  o7 : W.ownsRow w0.heap.size 9 1 v7 names.length (strs names)
  o8 : W.ownsRow w0.heap.size 4 1 v8 dirs.length (bools dirs)
  dj : ∀ g, v7.ownBlock = some g → v8.ownBlock ≠ some g
  bel : Below w0.heap.size w0 W
theorem own_ltB {w : World} {base : Nat} {e : TypeId} {size : Nat} {v : Value} {n : Nat} {xs : List Value} (h : w.ownsRow base e size v n xs) (g : Nat) (hg : v.ownBlock = some g) : base ≤ g ∧ g < w.heap.size := h.lt g hg
theorem UnS.nil (w : World) : UnS w w [] [] (.slice none 0 0) (.slice none 0 0) :=
  ⟨World.ownsRow_nil _ _ _ _, World.ownsRow_nil _ _ _ _, fun g h => by simp [Value.ownBlock] at h, Below.refl _ _⟩
theorem UnS.later {w0 W W' : World} {names : List (List UInt8)} {dirs : List Bool} {v7 v8 : Value} (h : UnS w0 W names dirs v7 v8) (hb : Below W.heap.size W W') : UnS w0 W' names dirs v7 v8 :=
  ⟨own_kept2 h.o7 fun g hg => hb.block g (own_ltB h.o7 g hg).2, own_kept2 h.o8 fun g hg => hb.block g (own_ltB h.o8 g hg).2, h.dj, h.bel.trans (hb.mono h.bel.size)⟩
theorem UnS.v7s {w0 W : World} {names : List (List UInt8)} {dirs : List Bool} {v7 v8 : Value} (h : UnS w0 W names dirs v7 v8) : ∃ A c, v7 = .slice A names.length c ∧ Strs W (w0.heap.size ≤ ·) A names.length c names := own_strs h.o7
theorem UnS.v8s {w0 W : World} {names : List (List UInt8)} {dirs : List Bool} {v7 v8 : Value} (h : UnS w0 W names dirs v7 v8) : ∃ A c, v8 = .slice A dirs.length c ∧ Bls W (w0.heap.size ≤ ·) A dirs.length c dirs := own_bls h.o8
theorem bool_info : (Tryd.prog.info? 4).map (fun i => (i.zero, i.size, i.bytes)) = some (some (.bool false), 1, 1) := by kernel_rfl
theorem UnS.name {w0 W : World} {names : List (List UInt8)} {dirs : List Bool} {v7 v8 : Value} (h : UnS w0 W names dirs v7 v8) (nm : List UInt8) (hl : names.length ≤ 1000000) :
    ∃ A' c' W', (Builtin.append_ #[68, 68] 68 #[v7, .slice (some ⟨W.heap.size, 0, none⟩) 1 1]).run Tryd.prog (W.alloc (.cells #[.string (st nm)] 9)) = .ok (.slice A' (names.length + 1) c') W' ∧ UnS w0 W' (names ++ [nm]) dirs (.slice A' (names.length + 1) c') v8 := by
  obtain ⟨i0, hi, hz0, hz1, hz2⟩ := info_parts str_info2
  have h1 := h.later ((Below.refl _ W).alloc (Nat.le_refl _) (.cells #[.string (st nm)] 9))
  obtain ⟨v', W', hr, g1, g2, _, g4⟩ := run_append_own_at (P := Tryd.prog) (W.alloc (.cells #[.string (st nm)] 9)) w0.heap.size 68 68 9 i0 (.string ByteArray.empty) 1 16 Tryd.underlying68 hi hz0 hz1 hz2 rfl (by decide) v7 names.length (strs names) h1.o7 ⟨W.heap.size, 0, none⟩ 1 1 [.string (st nm)] rfl
    (fun j u hj => by
      match j, hj with
      | 0, hj =>
        rw [add_plain, cell_of_cells (heap_alloc_new W _)]
        simpa using hj) (one_of rfl) (by unfold maxLen; omega) (by omega) (by have := h.bel.size; simp; omega)
  obtain ⟨A', c', rfl⟩ : ∃ A' c', v' = .slice A' (names.length + 1) c' := by
    obtain ⟨_, e2⟩ := g1
    rcases e2 with ⟨_, e2⟩ | ⟨g', cap, cur, rfl, _⟩
    · omega
    · exact ⟨_, _, rfl⟩
  have hlt := own_ltB h1.o7
  have hlt8 := own_ltB h1.o8
  have h8 := own_ltB h.o8
  refine ⟨A', c', W', hr, by simpa [strs] using g1, own_kept2 h1.o8 fun g hg => g2.block g (hlt8 g hg).2 (fun e => h1.dj g e.symm hg), fun g hg => ?_, h1.bel.grown g2 h1.bel.size fun g hg => (hlt g hg).1⟩
  rcases g4 with e | e
  · rw [e] at hg
    exact h1.dj g hg
  · rw [e] at hg
    injection hg with hg
    intro h9
    have := (h8 g h9).2
    simp at hg
    omega
end Go.Proofs.YtmakpjcgiiljfaaDoor

/-! The reference's front: one text, with a slash behind it, ahead of another one. -/
namespace Go.Proofs.YtmakpjcgiiljfaaDoor
open Go.RowKit Codec

/-- One text, with a slash behind it, is the front of another one. -/
def frontB (a b : List UInt8) : Bool := (a ++ [47]).isPrefixOf b
theorem frontB_iff {a b : List UInt8} : frontB a b = true ↔ ∃ r, b = a ++ 47 :: r := by
  unfold frontB
  rw [List.isPrefixOf_iff_prefix]
  constructor
  · rintro ⟨r, rfl⟩
    exact ⟨r, by simp⟩
  · rintro ⟨r, rfl⟩
    exact ⟨r, by simp⟩
theorem frontB_true {a b : List UInt8} (h1 : a.length < b.length) (h2 : b.take a.length = a) (h3 : b[a.length]?.getD 0 = 47) : frontB a b = true := by
  refine frontB_iff.2 ⟨b.drop (a.length + 1), ?_⟩
  have h4 : b.drop a.length = 47 :: b.drop (a.length + 1) := by
    rw [List.drop_eq_getElem_cons h1]
    rw [List.getElem?_eq_getElem h1] at h3
    rw [show b[a.length] = 47 from h3]
  have h5 := List.take_append_drop a.length b
  rw [h2, h4] at h5
  exact h5.symm
theorem frontB_false {a b : List UInt8} (h : ¬ a.length < b.length ∨ b.take a.length ≠ a ∨ b[a.length]?.getD 0 ≠ 47) : frontB a b = false := by
  cases e : frontB a b with
  | false => rfl
  | true =>
    obtain ⟨r, rfl⟩ := frontB_iff.1 e
    simp at h
end Go.Proofs.YtmakpjcgiiljfaaDoor

/-! The reference's Names. -/
namespace Go.Proofs.YtmakpjcgiiljfaaDoor
open Go.RowKit Codec

/-- While they are parted. -/
structure NmI (l : List UInt8) (j f : Nat) (ns : List (List UInt8)) : Prop where
  jn : j ≤ l.length + 1
  fj : f ≤ j
  few : ns.length ≤ j
  on : j ≤ l.length → spl l = ns ++ spl (l.drop f) ∧ 47 ∉ (l.drop f).take (j - f)
  off : l.length < j → spl l = ns
theorem NmI.start (l : List UInt8) : NmI l 0 0 [] := ⟨Nat.zero_le _, Nat.le_refl _, Nat.le_refl _, fun _ => ⟨by simp, by simp⟩, fun h => absurd h (by omega)⟩
theorem NmI.step {l : List UInt8} {j f : Nat} {ns : List (List UInt8)} (h : NmI l j f ns) (hj : j < l.length) (hc : l[j]?.getD 0 ≠ 47) : NmI l (j + 1) f ns := by
  refine ⟨by omega, by have := h.fj; omega, by have := h.few; omega, fun _ => ⟨(h.on (by omega)).1, fun hm => ?_⟩, fun h => absurd h (by omega)⟩
  have h1 := (h.on (by omega)).2
  have hf := h.fj
  rw [show j + 1 - f = (j - f) + 1 by omega, List.take_add_one, List.getElem?_drop, show f + (j - f) = j by omega] at hm
  rcases List.mem_append.1 hm with hm | hm
  · exact h1 hm
  · rw [List.getElem?_eq_getElem hj] at hm hc
    simp only [Option.toList_some, List.mem_singleton, Option.getD_some] at hm hc
    exact hc hm.symm
theorem NmI.cut {l : List UInt8} {j f : Nat} {ns : List (List UInt8)} (h : NmI l j f ns) (hj : j < l.length) (hc : l[j]?.getD 0 = 47) : NmI l (j + 1) (j + 1) (ns ++ [(l.drop f).take (j - f)]) := by
  obtain ⟨h1, h2⟩ := h.on (by omega)
  have hf := h.fj
  refine ⟨by omega, Nat.le_refl _, by have := h.few; simp; omega, fun _ => ⟨?_, by simp⟩, fun h => absurd h (by omega)⟩
  have e : l.drop f = (l.drop f).take (j - f) ++ 47 :: l.drop (j + 1) := by
    have h3 := List.take_append_drop (j - f) (l.drop f)
    rw [List.drop_drop, show f + (j - f) = j by omega, List.drop_eq_getElem_cons hj] at h3
    rw [List.getElem?_eq_getElem hj] at hc
    rw [show l[j] = 47 from hc] at h3
    exact h3.symm
  have h4 := spl_at (l.drop (j + 1)) h2
  rw [← e] at h4
  rw [h1, h4]
  simp
theorem NmI.last {l : List UInt8} {f : Nat} {ns : List (List UInt8)} (h : NmI l l.length f ns) : NmI l (l.length + 1) (l.length + 1) (ns ++ [(l.drop f).take (l.length - f)]) := by
  obtain ⟨h1, h2⟩ := h.on (Nat.le_refl _)
  refine ⟨Nat.le_refl _, Nat.le_refl _, by have := h.few; simp; omega, fun h => absurd h (by omega), fun _ => ?_⟩
  have e : (l.drop f).take (l.length - f) = l.drop f := List.take_of_length_le (by simp)
  rw [e] at h2 ⊢
  rw [h1, spl_none h2]
def NmR (w : World) (l : List UInt8) (v3 v4 v5 : Value) (wr : World) : Prop :=
  ∃ (j f : Nat) (ns : List (List UInt8)), v5 = .int .i64 (j : Int) ∧ v4 = .int .i64 (f : Int) ∧ NmI l j f ns ∧ UnS w wr ns [] v3 (.slice none 0 0)
set_option maxHeartbeats 8000000 in
set_option maxRecDepth 100000 in
theorem names_any (l : List UInt8) (hN : l.length ≤ 1000000) (w : World) :
    Calls Tryd.prog 29 #[.string (st l)] w fun e w' => ∃ A c, e = .returned (.slice A (spl l).length c) ∧ Strs w' (w.heap.size ≤ ·) A (spl l).length c (spl l) ∧ Below w.heap.size w w' := by
  have sl := st_size l
  obtain ⟨N, hNl⟩ : ∃ N, N = l.length := ⟨_, rfl⟩
  rw [← hNl] at sl hN
  have HN := Lib.hid hNl
  have H0 : Hid (NmR w l (.slice none 0 0) (.int .i64 0) (.int .i64 0) w) := Lib.hid ⟨0, 0, [], rfl, rfl, NmI.start l, UnS.nil w⟩
  clear hNl
  go_enter Tryd.func29, Tryd.ntmps29
  go_wp2_with fail
  go_loopw [3, 4, 5] (fun a b c wr => NmR w l a b c wr) (fun _ _ i _ => N + 1 - (intOf i).toNat)
  case atStart => exact H0.out
  case round =>
    obtain ⟨j, f, ns, rfl, rfl, hI, hU⟩ := hrel
    clear H0
    have HI := Lib.hid hI
    obtain ⟨A0, c0, rfl, hS0⟩ := hU.v7s
    have HU := Lib.hid hU
    have HS := Lib.hid hS0
    clear hS0
    have hjn : j ≤ N + 1 := by rw [HN.out]; exact hI.jn
    have hfj := hI.fj
    clear hU hI
    have hadd := IntWalk.i64_in ((j : Int) + 1) (by omega)
    by_cases hle : j ≤ N
    · have hle' : (j : Int) ≤ (N : Int) := by omega
      obtain ⟨nm, hnm⟩ : ∃ nm, nm = (l.drop f).take (j - f) := ⟨_, rfl⟩
      have hmid := fun W => st_mid (P := Tryd.prog) (t := 9) (l := l) (W := W) Tryd.underlying9 f j (f : Int) (j : Int) rfl rfl hfj (by rw [← HN.out]; exact hle)
      obtain ⟨A3, c3, w3, hap, hU3⟩ := HU.out.name nm (by have := HI.out.few; omega)
      rw [← hnm] at hmid
      have HU3 := Lib.hid hU3
      have HM := Lib.hid hnm
      clear hU3 hnm
      by_cases hlt : j < N
      · have hje : ((j : Int) == (N : Int)) = false := by simp; omega
        have hix := fun W => st_index (P := Tryd.prog) (t := 9) (l := l) (W := W) Tryd.underlying9 j (j : Int) rfl (by rw [← HN.out]; exact hlt)
        by_cases hc : l[j]?.getD 0 = 47
        · rw [hc] at hix
          have HI2 : Hid (NmI l (j + 1) (j + 1) (ns ++ [nm])) := Lib.hid (by rw [HM.out]; exact HI.out.cut (by rw [← HN.out]; exact hlt) hc)
          clear hc hfj
          go_wp2_with (at_builtin; refine wpList_app (by rfl) (.tmp 22) (.tmp 27) 68 (by rfl) (by rfl) (by rfl) hap ?_)
          go_roundw
          case rel => exact ⟨j + 1, j + 1, ns ++ [nm], by simp, by simp, HI2.out, HU3.out⟩
          case measure => simp only [intOf]; omega
        · have HI2 : Hid (NmI l (j + 1) f ns) := Lib.hid (HI.out.step (by rw [← HN.out]; exact hlt) hc)
          have hne : ((((l[j]?.getD 0).toNat : Int)) == 47) = false := by
            rw [beq_eq_false_iff_ne]
            intro e
            exact hc (UInt8.toNat.inj (by rw [show (47 : UInt8).toNat = 47 from rfl]; omega))
          generalize l[j]?.getD 0 = B at *
          clear hc hap hmid hfj
          go_wp2_with fail
          go_roundw
          case rel => exact ⟨j + 1, f, ns, by simp, rfl, HI2.out, HU.out⟩
          case measure => simp only [intOf]; omega
      · obtain rfl : j = N := by omega
        have HI2 : Hid (NmI l (j + 1) (j + 1) (ns ++ [nm])) := Lib.hid (by
          have h1 := HI.out
          rw [HM.out]
          rw [HN.out] at h1 ⊢
          exact h1.last)
        clear hlt hfj
        go_wp2_with (at_builtin; refine wpList_app (by rfl) (.tmp 22) (.tmp 27) 68 (by rfl) (by rfl) (by rfl) hap ?_)
        go_roundw
        case rel => exact ⟨j + 1, j + 1, ns ++ [nm], by simp, by simp, HI2.out, HU3.out⟩
        case measure => simp only [intOf]; omega
    · have hle' : ¬ (j : Int) ≤ (N : Int) := by omega
      have HE : Hid (spl l = ns) := Lib.hid (HI.out.off (by rw [← HN.out]; omega))
      clear hle hfj
      go_wp2_with fail
      go_ret
      refine ⟨A0, c0, by rw [HE.out]; rfl, by rw [HE.out]; exact HS.out, HU.out.bel⟩
end Go.Proofs.YtmakpjcgiiljfaaDoor

/-! The reference's Path. -/
namespace Go.Proofs.YtmakpjcgiiljfaaDoor
open Go.RowKit Codec

def nmNo (n : List UInt8) : Bool := decide (n = []) || decide (n = [46]) || decide (n = [46, 46])
def hiB (l : List UInt8) : Bool := l.all fun c => decide (32 ≤ c.toNat)
theorem spl_hi : ∀ l, (spl l).all hiB = hiB l
  | [] => rfl
  | c :: t => by
    have ih := spl_hi t
    by_cases hc : c = 47
    · subst hc
      rw [spl_slash, List.all_cons, ih]
      simp [hiB]
    · obtain ⟨x, r, e⟩ := List.exists_cons_of_ne_nil (spl_ne t)
      rw [spl_cons hc e, List.all_cons]
      rw [e, List.all_cons] at ih
      have h1 : hiB (c :: x) = (decide (32 ≤ c.toNat) && hiB x) := by simp [hiB]
      have h2 : hiB (c :: t) = (decide (32 ≤ c.toNat) && hiB t) := by simp [hiB]
      rw [h1, h2, ← ih, Bool.and_assoc]
theorem nmOk_no (n : List UInt8) : nmOk n = (!nmNo n && hiB n) := by
  unfold nmOk nmNo hiB
  by_cases h1 : n = [] <;> by_cases h2 : n = [46] <;> by_cases h3 : n = [46, 46] <;> simp [h1, h2, h3]
theorem all_and (p q : List UInt8 → Bool) : ∀ l : List (List UInt8), (l.all fun x => p x && q x) = (l.all p && l.all q)
  | [] => rfl
  | x :: t => by
    rw [List.all_cons, List.all_cons, List.all_cons, all_and p q t]
    cases p x <;> cases q x <;> simp
theorem pathOk_parts (l : List UInt8) : pathOk l = (decide (l.length ≤ 255) && ((spl l).all (fun n => !nmNo n) && hiB l)) := by
  unfold pathOk
  rw [← spl_hi l, ← all_and]
  congr 2
  funext n
  exact nmOk_no n
theorem path_big {l : List UInt8} (h : ¬ l.length ≤ 255) : pathOk l = false := by rw [pathOk_parts, decide_eq_false h]; rfl
theorem path_low {l : List UInt8} {j : Nat} {c : UInt8} (hj : l[j]? = some c) (hc : c.toNat < 32) : pathOk l = false := by
  have : hiB l = false := List.all_eq_false.2 ⟨c, List.mem_of_getElem? hj, by simp; omega⟩
  rw [pathOk_parts, this]
  simp
theorem path_nm {l : List UInt8} {j : Nat} {x : List UInt8} (hj : (spl l)[j]? = some x) (hx : nmNo x = true) : pathOk l = false := by
  have : (spl l).all (fun n => !nmNo n) = false := List.all_eq_false.2 ⟨x, List.mem_of_getElem? hj, by simp [hx]⟩
  rw [pathOk_parts, this]
  simp
set_option maxHeartbeats 8000000 in
set_option maxRecDepth 100000 in
theorem rpath_any (l : List UInt8) (w : World) :
    Calls Tryd.prog 28 #[.string (st l)] w fun e w' => e = .returned (.bool (pathOk l)) ∧ Below w.heap.size w w' := by
  have sl := st_size l
  by_cases h0 : l = []
  · have e0 : (st l).toList.isEmpty = true := by rw [st_list, h0]; rfl
    have HE : Hid (pathOk l = false) := Lib.hid (by rw [h0]; rfl)
    clear h0
    go_enter Tryd.func28, Tryd.ntmps28
    go_wp2_with fail
    go_ret
    exact ⟨by rw [HE.out]; rfl, Below.refl _ _⟩
  have e0 : (st l).toList.isEmpty = false := by rw [st_list]; simpa using h0
  obtain ⟨N, hN⟩ : ∃ N, N = l.length := ⟨_, rfl⟩
  rw [← hN] at sl
  by_cases hbig : ¬ N ≤ 255
  · have hb : (N : Int) > 255 := by omega
    have HE : Hid (pathOk l = false) := Lib.hid (path_big (by rw [← hN]; exact hbig))
    clear h0 hN hbig
    go_enter Tryd.func28, Tryd.ntmps28
    go_wp2_with fail
    go_ret
    exact ⟨by rw [HE.out]; rfl, Below.refl _ _⟩
  have hb : ¬ (N : Int) > 255 := by omega
  have hbig := Classical.not_not.1 hbig
  have HN := Lib.hid (And.intro hN hbig)
  have hnm := names_any l (by rw [← hN]; omega) w
  clear hN h0
  go_enter Tryd.func28, Tryd.ntmps28
  go_wp2_with fail
  go_loopw [3] (fun i wr => ∃ j : Nat, j ≤ N ∧ i = .int .i64 (j : Int) ∧ hiB (l.take j) = true ∧ wr = w) (fun i _ => N - (intOf i).toNat)
  case atStart => exact ⟨0, Nat.zero_le _, rfl, rfl, rfl⟩
  case round =>
    obtain ⟨j, hj, rfl, hhi, rfl⟩ := hrel
    have HH := Lib.hid hhi
    clear hhi
    by_cases hlt : j < N
    · have hlt' : (j : Int) < (N : Int) := by omega
      have hadd := IntWalk.i64_in ((j : Int) + 1) (by omega)
      have hjl : j < l.length := by rw [← HN.out.1]; exact hlt
      have hix := fun W => st_index (P := Tryd.prog) (t := 9) (l := l) (W := W) Tryd.underlying9 j (j : Int) rfl hjl
      obtain ⟨c, hc⟩ : ∃ c, l[j]? = some c := ⟨_, List.getElem?_eq_getElem hjl⟩
      rw [hc, Option.getD_some] at hix
      have HC := Lib.hid hc
      clear hc hjl
      by_cases h32 : c.toNat < 32
      · have h32' : (c.toNat : Int) < 32 := by omega
        have HE : Hid (pathOk l = false) := Lib.hid (path_low HC.out h32)
        clear h32 hnm
        go_wp2_with fail
        go_ret
        exact ⟨by rw [HE.out]; rfl, Below.refl _ _⟩
      · have h32' : ¬ (c.toNat : Int) < 32 := by omega
        have HE : Hid (hiB (l.take (j + 1)) = true) := Lib.hid (by
          unfold hiB
          rw [List.take_add_one, HC.out, List.all_append]
          have := HH.out
          unfold hiB at this
          rw [this]
          simp
          omega)
        clear h32 hnm
        go_wp2_with fail
        go_roundw
        case rel => exact ⟨j + 1, by omega, by simp, HE.out, by first | rfl | trivial⟩
        case measure => simp only [intOf]; omega
    · have hlt' : ¬ (j : Int) < (N : Int) := by omega
      have HHI : Hid (hiB l = true) := Lib.hid (by have h1 := HH.out; rwa [List.take_of_length_le (by rw [← HN.out.1]; omega)] at h1)
      obtain ⟨L, hL⟩ : ∃ L, L = spl l := ⟨_, rfl⟩
      rw [← hL] at hnm
      have HLL : Hid (L = spl l ∧ L.length ≤ 256) := Lib.hid ⟨hL, by
        have h1 := HN.out
        have h2 : ∀ l : List UInt8, (spl l).length ≤ l.length + 1 := fun l => by
          induction l with
          | nil => simp [spl]
          | cons c t ih =>
            by_cases hc : c = 47
            · subst hc
              rw [spl_slash]
              simp
              omega
            · obtain ⟨x, r, e⟩ := List.exists_cons_of_ne_nil (spl_ne t)
              rw [spl_cons hc e]
              rw [e] at ih
              simp at ih ⊢
              omega
        have h3 := h2 l
        rw [hL]
        omega⟩
      clear hL hlt HH hj
      go_upto_region 9 with (go_at_call 29; refine hnm.mono ?_; clear hnm; rintro _ w1 ⟨A, c, rfl, hS, hb1⟩)
      obtain ⟨M, hM⟩ : ∃ M, M = L.length := ⟨_, rfl⟩
      rw [← hM] at hS ⊢
      have HS := Lib.hid (And.intro hS (And.intro hb1 hM))
      have hM2 : M ≤ 256 := by rw [hM]; exact HLL.out.2
      clear hS hb1 hM
      go_wp2_with fail
      go_loopw [5] (fun i wr => ∃ j : Nat, j ≤ M ∧ i = .int .i64 (j : Int) ∧ (L.take j).all (fun n => !nmNo n) = true ∧ wr = w1) (fun i _ => M - (intOf i).toNat)
      case atStart => exact ⟨0, Nat.zero_le _, rfl, rfl, rfl⟩
      case round =>
        obtain ⟨k, hk, rfl, hal, rfl⟩ := hrel
        have HA := Lib.hid hal
        clear hal
        by_cases hlt : k < M
        · have hlt2 : (k : Int) < (M : Int) := by omega
          have hadd := IntWalk.i64_in ((k : Int) + 1) (by omega)
          obtain ⟨b, off, rfl, _, _, hcs⟩ := HS.out.1.row (by omega)
          obtain ⟨x, hx⟩ : ∃ x, L[k]? = some x := ⟨_, List.getElem?_eq_getElem (by rw [← HS.out.2.2]; exact hlt)⟩
          have hc0 := hcs k hlt
          rw [hx, Option.getD_some] at hc0
          have HX := Lib.hid hx
          clear hcs hx
          by_cases h0 : x = []
          · have e1 : (st x).toList.isEmpty = true := by rw [st_list, h0]; rfl
            have HE : Hid (pathOk l = false) := Lib.hid (path_nm (by rw [← HLL.out.1]; exact HX.out) (by rw [h0]; rfl))
            clear h0
            go_wp2_with fail
            go_ret
            exact ⟨by rw [HE.out]; rfl, HS.out.2.1⟩
          · have e1 : (st x).toList.isEmpty = false := by rw [st_list]; simpa using h0
            by_cases h1 : x = [46]
            · have e2 : ((st x).toList == [46]) = true := by rw [st_list, h1]; rfl
              have HE : Hid (pathOk l = false) := Lib.hid (path_nm (by rw [← HLL.out.1]; exact HX.out) (by rw [h1]; rfl))
              clear h0 h1
              go_wp2_with fail
              go_ret
              exact ⟨by rw [HE.out]; rfl, HS.out.2.1⟩
            · have e2 : ((st x).toList == [46]) = false := by rw [st_list]; simpa using h1
              by_cases h2 : x = [46, 46]
              · have e3 : ((st x).toList == [46, 46]) = true := by rw [st_list, h2]; rfl
                have HE : Hid (pathOk l = false) := Lib.hid (path_nm (by rw [← HLL.out.1]; exact HX.out) (by rw [h2]; rfl))
                clear h0 h1 h2
                go_wp2_with fail
                go_ret
                exact ⟨by rw [HE.out]; rfl, HS.out.2.1⟩
              · have e3 : ((st x).toList == [46, 46]) = false := by rw [st_list]; simpa using h2
                have HE : Hid ((L.take (k + 1)).all (fun n => !nmNo n) = true) := Lib.hid (by
                  rw [List.take_add_one, HX.out, List.all_append, HA.out]
                  simp [nmNo, h0, h1, h2])
                clear h0 h1 h2
                go_wp2_with fail
                go_roundw
                case rel => exact ⟨k + 1, by omega, by simp, HE.out, by first | rfl | trivial⟩
                case measure => simp only [intOf]; omega
        · have hlt2 : ¬ (k : Int) < (M : Int) := by omega
          have HE : Hid (pathOk l = true) := Lib.hid (by
            have h1 := HA.out
            rw [List.take_of_length_le (by rw [← HS.out.2.2]; omega), HLL.out.1] at h1
            rw [pathOk_parts, decide_eq_true (by rw [← HN.out.1]; exact HN.out.2), h1, HHI.out]
            rfl)
          clear hlt
          go_wp2_with fail
          go_ret
          exact ⟨by rw [HE.out]; rfl, HS.out.2.1⟩
end Go.Proofs.YtmakpjcgiiljfaaDoor
