/-
  seal, in lists: a blob, and what is in it.
-/
import Derived.Test.YtlkkocgjpljibaaDoorMacPure
import Derived.Test.YtlkkocgjpljibaaDoorChaPure
namespace Go.Proofs.YtlkkocgjpljibaaDoor
open Go.RowKit

/-- Derive, in lists. -/
def drvL (k l : List UInt8) (N : Nat) : List UInt8 := macL k (l ++ [0] ++ le8 N 8)
theorem drvL_length (k l : List UInt8) (N : Nat) : (drvL k l N).length = 32 := macL_length _ _
def hideB : List UInt8 := [104, 105, 100, 101]
def vouchB : List UInt8 := [118, 111, 117, 99, 104]
def nameB : List UInt8 := [110, 97, 109, 101]
def nonL (s : List UInt8) : List UInt8 := s ++ [0, 0, 0, 0]
theorem nonL_length {s : List UInt8} (h : s.length = 8) : (nonL s).length = 12 := by simp [nonL, h]
/-- What stands ahead of the sum. -/
def headL (k : List UInt8) (kind : UInt8) (n : Nat) (p : List UInt8) : List UInt8 := [kind] ++ le8 n 8 ++ overL (drvL k hideB kind.toNat) (nonL (le8 n 8)) p
theorem headL_length (k : List UInt8) (kind : UInt8) (n : Nat) (p : List UInt8) : (headL k kind n p).length = 9 + p.length := by
  simp only [headL, List.length_append, List.length_cons, List.length_nil, le8_length, overL_length]
/-- A blob. -/
def sealL (k : List UInt8) (kind : UInt8) (n : Nat) (p : List UInt8) : List UInt8 := headL k kind n p ++ macL (drvL k vouchB kind.toNat) (headL k kind n p)
theorem sealL_length (k : List UInt8) (kind : UInt8) (n : Nat) (p : List UInt8) : (sealL k kind n p).length = 41 + p.length := by
  simp only [sealL, List.length_append, headL_length, macL_length]
  omega
/-- Eight bytes as a number, the lowest first. -/
def num8 (s : List UInt8) : Nat := s.foldr (fun x a => a * 256 + x.toNat) 0
theorem le8_num8 {s : List UInt8} (h : s.length = 8) : le8 (num8 s) 8 = s := by
  match s, h with
  | [a, b, c, d, e, f, g, i], _ =>
    have ha := a.toNat_lt
    have hb := b.toNat_lt
    have hc := c.toNat_lt
    have hd := d.toNat_lt
    have he := e.toNat_lt
    have hf := f.toNat_lt
    have hg := g.toNat_lt
    have hi := i.toNat_lt
    simp only [le8, num8, List.foldr_cons, List.foldr_nil, List.range, List.range.loop, List.map_cons, List.map_nil, List.cons.injEq, and_true]
    refine ⟨?_, ?_, ?_, ?_, ?_, ?_, ?_, ?_⟩ <;> (apply UInt8.toNat_inj.1; rw [UInt8.toNat_ofNat']; omega)
theorem num8_le8 {n : Nat} (h : n < 18446744073709551616) : num8 (le8 n 8) = n := by
  simp only [le8, num8, List.range, List.range.loop, List.map_cons, List.map_nil, List.foldr_cons, List.foldr_nil, UInt8.toNat_ofNat']
  omega
def kindL (b : List UInt8) : UInt8 := b[0]?.getD 0
def eightL (b : List UInt8) : List UInt8 := (b.drop 1).take 8
def bodyL (b : List UInt8) : List UInt8 := (b.drop 9).take (b.length - 41)
/-- The last 32 bytes are what the key says of all ahead. -/
def Vouched (k b : List UInt8) : Prop := b.drop (b.length - 32) = macL (drvL k vouchB (kindL b).toNat) (b.take (b.length - 32))
instance (k b : List UInt8) : Decidable (Vouched k b) := inferInstanceAs (Decidable (_ = _))
/-- What is in a blob. -/
def openL (k b : List UInt8) : List UInt8 := overL (drvL k hideB (kindL b).toNat) (nonL (eightL b)) (bodyL b)
theorem eightL_length {b : List UInt8} (h : 41 ≤ b.length) : (eightL b).length = 8 := by
  rw [eightL, List.length_take, List.length_drop]
  omega
theorem bodyL_length {b : List UInt8} (h : 41 ≤ b.length) : (bodyL b).length = b.length - 41 := by
  rw [bodyL, List.length_take, List.length_drop]
  omega
theorem openL_length {k b : List UInt8} (h : 41 ≤ b.length) : (openL k b).length = b.length - 41 := by
  rw [openL, overL_length, bodyL_length h]
theorem parts_blob {b : List UInt8} (h : 41 ≤ b.length) : [kindL b] ++ eightL b ++ bodyL b = b.take (b.length - 32) := by
  match b, h with
  | x :: t, h =>
    have h1 : 40 ≤ t.length := by simpa using h
    simp only [kindL, eightL, bodyL, List.getElem?_cons_zero, Option.getD_some, List.drop_succ_cons, List.drop_zero, List.length_cons, List.cons_append, List.nil_append]
    rw [show t.length + 1 - 32 = (t.length - 32) + 1 by omega, List.take_succ_cons]
    congr 1
    rw [show t.length + 1 - 41 = t.length - 40 by omega, show t.length - 32 = 8 + (t.length - 40) by omega, List.take_add]
/-- What is opened is a blob that Seal makes of it. -/
theorem seal_open {k b : List UInt8} (h : 41 ≤ b.length) (hv : Vouched k b) : sealL k (kindL b) (num8 (eightL b)) (openL k b) = b := by
  have hh : headL k (kindL b) (num8 (eightL b)) (openL k b) = b.take (b.length - 32) := by
    rw [headL, le8_num8 (eightL_length h), openL, over_twice, parts_blob h]
  rw [sealL, hh, ← hv, List.take_append_drop]
theorem kind_seal (k : List UInt8) (kind : UInt8) (n : Nat) (p : List UInt8) : kindL (sealL k kind n p) = kind := by
  simp [kindL, sealL, headL]
theorem eight_seal (k : List UInt8) (kind : UInt8) (n : Nat) (p : List UInt8) : eightL (sealL k kind n p) = le8 n 8 := by
  have h8 := le8_length n 8
  simp only [eightL, sealL, headL, List.append_assoc, List.cons_append, List.nil_append, List.drop_succ_cons, List.drop_zero]
  rw [List.take_append_of_le_length (by omega), List.take_of_length_le (by omega)]
theorem body_seal (k : List UInt8) (kind : UInt8) (n : Nat) (p : List UInt8) : bodyL (sealL k kind n p) = overL (drvL k hideB kind.toNat) (nonL (le8 n 8)) p := by
  have h8 := le8_length n 8
  rw [bodyL, sealL_length, Nat.add_sub_cancel_left]
  simp only [sealL, headL, List.append_assoc, List.cons_append, List.drop_succ_cons, List.nil_append]
  rw [List.drop_append_of_le_length (by omega), List.drop_of_length_le (by omega), List.nil_append, List.take_append_of_le_length (by rw [overL_length]; omega), List.take_of_length_le (by rw [overL_length]; omega)]
theorem vouched_seal (k : List UInt8) (kind : UInt8) (n : Nat) (p : List UInt8) : Vouched k (sealL k kind n p) := by
  have hl := headL_length k kind n p
  have hs := sealL_length k kind n p
  unfold Vouched
  rw [kind_seal, hs, show 41 + p.length - 32 = (headL k kind n p).length by omega, sealL, List.drop_left, List.take_left]
/-- What is sealed is opened as it was. -/
theorem open_seal (k : List UInt8) (kind : UInt8) (n : Nat) (p : List UInt8) : openL k (sealL k kind n p) = p := by
  rw [openL, kind_seal, eight_seal, body_seal, over_twice]
/-! What Open answers. -/
def openE (k b : List UInt8) : Nat := if b.length < 41 then 10 else if 65577 < b.length then 13 else if Vouched k b then 0 else 20
def openP (k b : List UInt8) : List UInt8 := if openE k b = 0 then openL k b else []
def openK (k b : List UInt8) : UInt8 := if openE k b = 0 then kindL b else 0
def openN (k b : List UInt8) : Nat := if openE k b = 0 then num8 (eightL b) else 0
theorem openE_zero {k b : List UInt8} : openE k b = 0 ↔ 41 ≤ b.length ∧ b.length ≤ 65577 ∧ Vouched k b := by
  unfold openE
  split
  · simp <;> omega
  · split
    · simp <;> omega
    · split
      · simp_all <;> omega
      · simp_all
theorem openP_not {k b : List UInt8} (h : openE k b ≠ 0) : openP k b = [] := if_neg h
theorem openP_length {k b : List UInt8} (h : openE k b = 0) : (openP k b).length = b.length - 41 := by
  rw [openP, if_pos h, openL_length (openE_zero.1 h).1]
theorem openP_le (k b : List UInt8) : (openP k b).length ≤ 65536 := by
  by_cases h : openE k b = 0
  · rw [openP_length h]
    have := (openE_zero.1 h).2.1
    omega
  · rw [openP_not h]
    simp
theorem openN_lt (k b : List UInt8) : openN k b < 18446744073709551616 := by
  unfold openN
  split
  · rename_i h
    have h8 := eightL_length (openE_zero.1 h).1
    match he : eightL b, h8 with
    | [a, b, c, d, e, f, g, i], _ =>
      have ha := a.toNat_lt
      have hb := b.toNat_lt
      have hc := c.toNat_lt
      have hd := d.toNat_lt
      have he := e.toNat_lt
      have hf := f.toNat_lt
      have hg := g.toNat_lt
      have hi := i.toNat_lt
      simp only [num8, List.foldr_cons, List.foldr_nil]
      omega
  · omega
theorem sealed_again {k b : List UInt8} (h : openE k b = 0) : sealL k (openK k b) (openN k b) (openP k b) = b := by
  have h0 := openE_zero.1 h
  rw [openK, openN, openP, if_pos h, if_pos h, if_pos h]
  exact seal_open h0.1 h0.2.2
theorem openE_seal {k : List UInt8} {kind : UInt8} {n : Nat} {p : List UInt8} (hp : p.length ≤ 65536) : openE k (sealL k kind n p) = 0 :=
  openE_zero.2 ⟨by rw [sealL_length]; omega, by rw [sealL_length]; omega, vouched_seal _ _ _ _⟩
theorem openP_seal {k : List UInt8} {kind : UInt8} {n : Nat} {p : List UInt8} (hp : p.length ≤ 65536) : openP k (sealL k kind n p) = p := by
  rw [openP, if_pos (openE_seal hp), open_seal]
theorem openK_seal {k : List UInt8} {kind : UInt8} {n : Nat} {p : List UInt8} (hp : p.length ≤ 65536) : openK k (sealL k kind n p) = kind := by
  rw [openK, if_pos (openE_seal hp), kind_seal]
theorem openN_seal {k : List UInt8} {kind : UInt8} {n : Nat} {p : List UInt8} (hp : p.length ≤ 65536) (hn : n < 18446744073709551616) : openN k (sealL k kind n p) = n := by
  rw [openN, if_pos (openE_seal hp), eight_seal, num8_le8 hn]
end Go.Proofs.YtlkkocgjpljibaaDoor
