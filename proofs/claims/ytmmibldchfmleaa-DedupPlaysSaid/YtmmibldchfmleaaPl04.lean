/-
  A slice literal of one digest.
-/
import Derived.Test.YtmmibldchfmleaaPl03
import Derived.Test.YtmmibldchfmleaaPl01
import Derived.Lib.Strings
import Derived.Test.YtmmibldchfmleaaPl02
import Derived.Lib.BytesEntry
import Derived.Laws.Externs
import Derived.Sort.Grow
import Derived.BigQuiet
import Derived.Great.BuildSlice
namespace Go.Proofs.Ytmmibldchfmleaa
open Go.RowKit Codec
def strB (l : List UInt8) : ByteArray := ⟨l.toArray⟩
theorem strB_append (l m : List UInt8) : strB l ++ strB m = strB (l ++ m) := by
 apply ByteArray.ext; simp [strB]
theorem byt_one (w : World) (v : UInt8) : Byt (w.alloc (.cells #[.int .u8 (v.toNat : Int)] 5)) (w.heap.size ≤ ·) (some ⟨w.heap.size, 0, none⟩) 1 1 [v] :=
 ⟨rfl, Nat.le_refl _, by unfold maxLen; omega, fun _ => ⟨w.heap.size, 0, rfl, Nat.le_refl _, by simp, fun i hi => by
   obtain rfl : i = 0 := by omega
   rw [cell_of_cells (heap_alloc_new w _)]; rfl⟩⟩
theorem str_one (w : World) (v : UInt8) : (convert 49 9 (.slice (some ⟨w.heap.size, 0, none⟩) 1 1)).run Try.prog (w.alloc (.cells #[.int .u8 (v.toNat : Int)] 5)) = .ok (.string (strB [v])) (w.alloc (.cells #[.int .u8 (v.toNat : Int)] 5)) :=
 byt_string (byt_one w v)
theorem u8_small {x : Nat} (h : x < 256) : ((UInt8.ofNat x).toNat : Int) = (x : Int) := by simp; omega
theorem wrap_quo (x : Nat) (hx : x < 18446744073709551616) : IntKind.u64.wrap ((x : Int) / 128) = ((x / 128 : Nat) : Int) := by
 have : ((x : Int) / 128) = ((x / 128 : Nat) : Int) := by omega
 rw [this]; unfold IntKind.wrap; simp [IntKind.signed, IntKind.bits]; omega
theorem wrap_byte (x : Nat) : IntKind.u8.wrap (IntKind.u64.wrap ((x : Int).tmod 128 + 128)) = ((UInt8.ofNat (x % 128 + 128)).toNat : Int) := by
 have e : (x : Int).tmod 128 = ((x % 128 : Nat) : Int) := by
  rw [Int.tmod_eq_emod_of_nonneg (by omega)]; omega
 have h2 : x % 128 < 128 := Nat.mod_lt _ (by omega)
 rw [e, u8_small (by omega)]
 have e2 : IntKind.u64.wrap (((x % 128 : Nat) : Int) + 128) = ((x % 128 + 128 : Nat) : Int) := by unfold IntKind.wrap; simp [IntKind.signed, IntKind.bits]; omega
 rw [e2]; unfold IntKind.wrap; simp [IntKind.signed, IntKind.bits]; omega
set_option maxHeartbeats 2000000 in
set_option maxRecDepth 100000 in
theorem ref_put_small (x : Nat) (w : World) (h : x < 128) : Calls Try.prog 41 #[.int .u64 x] w fun e w' => e = .returned (.string (strB (put x))) ∧ Below w.heap.size w w' := by
 rw [put_small h]
 have hcv := str_one w (UInt8.ofNat x)
 rw [u8_small (by omega)] at hcv
 go_enter Try.func41, Try.ntmps41
 go_wp2_with fail
 go_ret
 exact ⟨rfl, (Below.refl _ _).alloc (Nat.le_refl _) _⟩
set_option maxHeartbeats 2000000 in
set_option maxRecDepth 100000 in
theorem ref_put : ∀ (k x : Nat) (w : World), x < 128 ^ k → x < 18446744073709551616 → Calls Try.prog 41 #[.int .u64 x] w fun e w' => e = .returned (.string (strB (put x))) ∧ Below w.heap.size w w' := by
 intro k
 induction k with
 | zero =>
   intro x w hx hx2
   have hx : x < 1 := by simpa using hx
   exact ref_put_small x w (by omega)
 | succ k ih =>
   intro x w hx hx2
   by_cases h : x < 128
   ·exact ref_put_small x w h
   ·rw [put_big (by omega)]
    have hq : x / 128 < 128 ^ k := by
     rw [Nat.pow_succ] at hx; exact Nat.div_lt_of_lt_mul (by omega)
    have hq2 : x / 128 < 18446744073709551616 := by omega
    have WQ := Lib.hid (wrap_quo x hx2)
    have WB := Lib.hid (wrap_byte x)
    have IH := fun w => ih (x / 128) w hq hq2
    clear ih
    obtain ⟨v, hv⟩ : ∃ v, UInt8.ofNat (x % 128 + 128) = v := ⟨_, rfl⟩
    obtain ⟨y, hy⟩ : ∃ y, x / 128 = y := ⟨_, rfl⟩
    have HS := Lib.hid (strB_append [v] (put y))
    rw [hv] at WB ⊢
    rw [hy] at WQ IH ⊢
    have HZ : Hid (¬ 9223372036854775807 < 1 + (strB (put y)).size) := Lib.hid (by
     have := put_length_64 (x := y) (by omega)
     rw [show (strB (put y)).size = (put y).length by simp [strB, ByteArray.size]]; omega)
    clear hv hy hq hq2
    go_enter Try.func41, Try.ntmps41
    go_wp2_with fail
    refine wp_region_tree (fun W => Below w.heap.size w W) (.two [0, 1, 2, 3, 6, 7] 4 (.one [5] 8 (.last [9, 10])) 8 (.one [] 4 (.last [5, 9, 10]))) (by kernel_rfl) (by kernel_rfl) (fun _ _ d _ _ h => by cases d <;> exact h) ((Below.refl _ _).drew) ?_
    refine tree_two ?_
    refine seg_read ?v1 (by rfl) (by rfl) ?h1 ?_
    case h1 => intro W hW; go_simp; with_reducible rfl
    try simp only [Act.put, List.setIfInBounds_toArray, List.set_cons_zero, List.set_cons_succ]
    refine seg_read ?v2 (by rfl) (by rfl) ?h2 ?_
    case h2 => intro W hW; go_simp; with_reducible rfl
    try simp only [Act.put, List.setIfInBounds_toArray, List.set_cons_zero, List.set_cons_succ]
    refine seg_read ?v3 (by rfl) (by rfl) ?h3 ?_
    case h3 => intro W hW; go_simp; with_reducible rfl
    try simp only [Act.put, List.setIfInBounds_toArray, List.set_cons_zero, List.set_cons_succ]
    refine seg_read ?v4 (by rfl) (by rfl) ?h4 ?_
    case h4 => intro W hW; go_simp; with_reducible rfl
    try simp only [Act.put, List.setIfInBounds_toArray, List.set_cons_zero, List.set_cons_succ]
    refine seg_read ?v5 (by rfl) (by rfl) ?h5 ?_
    case h5 => intro W hW; go_simp; with_reducible rfl
    try simp only [Act.put, List.setIfInBounds_toArray, List.set_cons_zero, List.set_cons_succ]
    refine seg_read ?v6 (by rfl) (by rfl) ?h6 ?_
    case h6 => intro W hW; go_simp; with_reducible rfl
    try simp only [Act.put, List.setIfInBounds_toArray, List.set_cons_zero, List.set_cons_succ]
    rw [WQ.out, WB.out]
    refine seg_nil ⟨?_, ?_⟩
    ·refine eff_step (by rfl) (fun K hK => ?_)
     go_simp
     obtain ⟨w1, hw1⟩ : ∃ w1, w1 = (w.alloc (.cells #[.int .u8 (v.toNat : Int)] 5)).drew := ⟨_, rfl⟩
     have hb1 : Below w.heap.size w w1 := by rw [hw1]; exact ((Below.refl _ _).alloc (Nat.le_refl _) _).drew
     have hY : Byt w1 (w.heap.size ≤ ·) (some ⟨w.heap.size, 0, none⟩) 1 1 [v] := by
      rw [hw1]; exact (byt_one w _).below ((Below.refl _ _).drew)
     rw [← hw1]
     clear hw1
     refine hK _ _ ⟨fun W => Below w1.heap.size w1 W, Below.refl _ _, fun W h => hb1.trans (h.mono hb1.size), ?_⟩
     clear hK K
     refine tree_one ?_
     refine seg_read ?v7 (by rfl) (by rfl) ?h7 ?_
     case h7 => intro W hW; have hcv := byt_string (hY.below hW); go_simp; with_reducible rfl
     try simp only [Act.put, List.setIfInBounds_toArray, List.set_cons_zero, List.set_cons_succ]
     refine seg_nil ?_
     refine eff_step (by rfl) (fun K hK => ?_)
     go_simp
     refine (IH _).mono ?_
     rintro _ w2 ⟨rfl, hb2⟩
     refine hK _ _ ⟨fun W => W = w2, rfl, fun W e => e ▸ hb2, ?_⟩
     clear hK K
     refine tree_last ?_
     refine seg_step (by rfl) (fun K hK => ?_)
     go_simp
     refine ⟨_, if_neg HZ.out, ?_⟩
     refine hK _ ?_
     clear hK K
     refine seg_step (by rfl) (fun K hK => ?_)
     go_simp
     refine hK _ ?_
     clear hK K
     refine seg_nil ?_
     go_wp2
     go_ret
     exact ⟨by rw [show (⟨[v].toArray⟩ : ByteArray) = strB [v] from rfl, HS.out]; rfl, hb1.trans (hb2.mono hb1.size)⟩
    ·refine eff_step (by rfl) (fun K hK => ?_)
     go_simp
     refine (IH _).mono ?_
     rintro _ w2 ⟨rfl, hb2⟩
     have hb2 : Below w.heap.size w w2 := ((Below.refl _ w).drew).trans hb2
     refine hK _ _ ⟨fun W => Below w2.heap.size w2 W, Below.refl _ _, fun W h => hb2.trans (h.mono hb2.size), ?_⟩
     clear hK K
     refine tree_one ?_
     refine seg_nil ?_
     refine eff_step (by rfl) (fun K hK => ?_)
     go_simp
     obtain ⟨w3, hw3⟩ : ∃ w3, w3 = (w2.alloc (.cells #[.int .u8 (v.toNat : Int)] 5)) := ⟨_, rfl⟩
     have hb3 : Below w2.heap.size w2 w3 := by rw [hw3]; exact ((Below.refl _ _).alloc (Nat.le_refl _) _)
     have hY := byt_string (byt_one w2 v)
     rw [← hw3] at hY ⊢
     clear hw3
     refine hK _ _ ⟨fun W => W = w3, rfl, fun W e => e ▸ hb3, ?_⟩
     clear hK K
     refine tree_last ?_
     refine seg_step (by rfl) (fun K hK => ?_)
     go_simp
     refine hK _ ?_
     clear hK K
     refine seg_step (by rfl) (fun K hK => ?_)
     go_simp
     refine ⟨_, if_neg HZ.out, ?_⟩
     refine hK _ ?_
     clear hK K
     refine seg_step (by rfl) (fun K hK => ?_)
     go_simp
     refine hK _ ?_
     clear hK K
     refine seg_nil ?_
     go_wp2
     go_ret
     exact ⟨by rw [show (⟨[v].toArray⟩ : ByteArray) = strB [v] from rfl, HS.out]; rfl, hb2.trans (hb3.mono hb2.size)⟩
end Go.Proofs.Ytmmibldchfmleaa

namespace Go.Proofs.Ytmmibldchfmleaa
open Go.RowKit Codec
theorem uint_back (x : Nat) (R : List UInt8) (hx : x < 18446744073709551616) : (rd 0 (put x ++ R)).1 = x ∧ (put x ++ R).drop (rd 0 (put x ++ R)).2.1 = R ∧ (rd 0 (put x ++ R)).2.2 = 0 := by
 rw [rd_put0 hx]
 exact ⟨rfl, List.drop_left, rfl⟩
end Go.Proofs.Ytmmibldchfmleaa

namespace Go.Proofs.Ytmmibldchfmleaa
open Go.RowKit Codec
theorem u64_in {z : Int} (h0 : 0 ≤ z) (h1 : z < 18446744073709551616) : IntKind.u64.wrap z = z := by unfold IntKind.wrap; simp [IntKind.signed, IntKind.bits]; omega
end Go.Proofs.Ytmmibldchfmleaa

namespace Go.Proofs.Ytmmibldchfmleaa
open Go.RowKit Codec
theorem later {w1 w2 : World} {g g' : Nat} {u v : Value} (hne : g' ≠ g) (hlt : g' < w1.heap.size) (h : Below ((w1.setCell ⟨g, 0, none⟩ u).setCell ⟨g, 1, none⟩ v).heap.size ((w1.setCell ⟨g, 0, none⟩ u).setCell ⟨g, 1, none⟩ v) w2) (o : Nat) :
    w2.cell? ⟨g', o, none⟩ = w1.cell? ⟨g', o, none⟩ ∧ w2.frozen? ⟨g', o, none⟩ = w1.frozen? ⟨g', o, none⟩ := by
 have e : w2.heap[g']? = w1.heap[g']? := (h.block g' (by simp [World.setCell]; exact hlt)).trans ((Below.heap_setCell _ _ _ _ hne).trans (Below.heap_setCell _ _ _ _ hne))
 exact ⟨World.cell?_of_block (w := w1) (a := ⟨g', o, none⟩) e, by simp [World.frozen?, e]⟩
end Go.Proofs.Ytmmibldchfmleaa

namespace Go.Proofs.Ytmmibldchfmleaa
open Go.RowKit Codec
theorem results_ct {P : Program} {fn : Func} {p q : Tmp} {ty : TypeId} (h : fn.results = #[.cell p ty, .tmp q]) (tmps : Array Value) (w : World) (A : Addr) (v u : Value)
    (hp : tmps.getD p undef = .pointer (some A)) (hq : tmps.getD q undef = u) (hv : (loadVar ty A).run P w = .ok v w) : (results fn tmps).run P w = .ok (.tuple #[v, u]) w := by
 have hp' : tmps[p]?.getD undef = .pointer (some A) := by simpa using hp
 have hq' : tmps[q]?.getD undef = u := by simpa using hq
 simp [results, h, hp', hq', asAddr, hv]
section
variable {S : Nat → Prop} {w W W' : World} {p : Nat} {l l' : List UInt8} {e e' : Int} {y : En}
end
end Go.Proofs.Ytmmibldchfmleaa

namespace Go.Proofs.Ytmmibldchfmleaa
open Go.RowKit Codec
def mayN (n : Int) : Bool := decide (0 ≤ n) && decide (n ≤ 1023)
def plB (e : List UInt8 × Pl) : List UInt8 := e.1 ++ e.2.1 ++ put e.2.2.toNat
def plsB (t : Tv Pl) : List UInt8 := (t.map plB).flatten
def ixB (t : Tv Pl) : List UInt8 := put t.length ++ plsB t
theorem plsB_snoc (t : Tv Pl) (e : List UInt8 × Pl) : plsB (t ++ [e]) = plsB t ++ plB e := by simp [plsB]
def OkT (t : Tv Pl) : Prop := ∀ e ∈ t, e.1.length = 32 ∧ e.2.1.length = 32 ∧ mayN e.2.2 = true
theorem mayN_nat {n : Int} (h : mayN n = true) : ∃ m : Nat, n = (m : Int) ∧ m ≤ 1023 := by
 unfold mayN at h
 simp only [Bool.and_eq_true, decide_eq_true_eq] at h
 exact ⟨n.toNat, by omega, by omega⟩
abbrev DRow := List UInt8 × List UInt8 × Nat
def dgR (l : List UInt8) (e : Int) : DRow := (idL l e, idL (fxL l e 32) (tkE l e 32), uiX (fxL (fxL l e 32) (tkE l e 32) 32) (tkE (fxL l e 32) (tkE l e 32) 32))
def dgL (l : List UInt8) (e : Int) : List UInt8 := uiL (fxL (fxL l e 32) (tkE l e 32) 32) (tkE (fxL l e 32) (tkE l e 32) 32)
def dgE (l : List UInt8) (e : Int) : Int := uiE (fxL (fxL l e 32) (tkE l e 32) 32) (tkE (fxL l e 32) (tkE l e 32) 32)
def gdGo : Nat → List DRow → List UInt8 → Int → List DRow × List UInt8 × Int
 | 0, acc, l, e => (acc, l, e)
 | n + 1, acc, l, e => if e = 0 then gdGo n (acc ++ [dgR l e]) (dgL l e) (dgE l e) else (acc, l, e)
theorem gdGo_bad {n : Nat} {acc : List DRow} {l : List UInt8} {e : Int} (h : e ≠ 0) : gdGo n acc l e = (acc, l, e) := by
 cases n with
 | zero => rfl
 | succ n => rw [gdGo, if_neg h]
def mayS (acc : List DRow) (y : DRow) : Bool := decide (y.2.2 ≤ 1023) && (match acc.getLast? with | none => true | some z => decide (z.1 < y.1))
def mayG (acc : List DRow) : Bool := acc.all (fun y => decide (y.2.2 ≤ 1023)) && decide (acc.Pairwise fun a b => a.1 < b.1)
theorem mayG_snoc (acc : List DRow) (y : DRow) : mayG (acc ++ [y]) = (mayG acc && mayS acc y) := by
 unfold mayG
 rw [List.all_append]
 by_cases hp : acc.Pairwise fun a b => a.1 < b.1
 ·have h2 : decide ((acc ++ [y]).Pairwise fun a b => a.1 < b.1) = (match acc.getLast? with | none => true | some z => decide (z.1 < y.1)) := by
    rcases List.eq_nil_or_concat acc with rfl | ⟨pre, z, rfl⟩
    ·simp
    ·simp only [List.concat_eq_append] at hp ⊢
     rw [List.getLast?_append, List.getLast?_singleton, Option.some_or]
     refine decide_eq_decide.2 ⟨fun h => (List.pairwise_append.1 h).2.2 z (by simp) y (by simp), fun h => List.pairwise_append.2 ⟨hp, by simp, fun a ha b hb => ?_⟩⟩
     simp only [List.mem_singleton] at hb
     subst hb
     rcases List.mem_append.1 ha with ha | ha
     ·exact klt_tr ((List.pairwise_append.1 hp).2.2 a ha z (by simp)) h
     ·simp only [List.mem_singleton] at ha
      rw [ha]
      exact h
  rw [h2]
  unfold mayS
  simp [hp, Bool.and_assoc, Bool.and_comm, Bool.and_left_comm]
 ·have h2 : ¬ (acc ++ [y]).Pairwise fun a b => a.1 < b.1 := fun h => hp (List.pairwise_append.1 h).1
  simp [hp, h2]
def gdV (y : DRow) : Pl := (y.2.1, IntKind.i64.wrap (y.2.2 : Int))
def gdT (acc : List DRow) : Tv Pl := acc.foldl (fun t y => putV t y.1 (gdV y)) []
theorem gdT_snoc (acc : List DRow) (y : DRow) : gdT (acc ++ [y]) = putV (gdT acc) y.1 (gdV y) := by simp [gdT, List.foldl_append]
def gdL (acc : List DRow) : Tv Pl := acc.map fun y => (y.1, y.2.1, (y.2.2 : Int))
theorem putV_last {t : Tv Pl} {k : List UInt8} {v : Pl} (h : ∀ e ∈ t, e.1 < k) : putV t k v = t ++ [(k, v)] := by
 unfold putV
 rw [List.filter_eq_self.2 (fun e he => by simpa using h e he), List.filter_eq_nil_iff.2 (fun e he => by simpa using klt_as (h e he)), List.append_nil]
theorem small_wrap {n : Nat} (h : n ≤ 1023) : IntKind.i64.wrap (n : Int) = (n : Int) := by
 unfold IntKind.wrap
 simp [IntKind.signed, IntKind.bits]
 omega
theorem snoc_indD {p : List DRow → Prop} (h0 : p []) (h1 : ∀ l s, p l → p (l ++ [s])) : ∀ l, p l := fun l => by
 have h : ∀ (n : Nat) (l : List DRow), l.length = n → p l := by
  intro n
  induction n with
  | zero => intro l hl; rw [List.eq_nil_of_length_eq_zero hl]; exact h0
  | succ n ih =>
    intro l hl
    rcases List.eq_nil_or_concat l with rfl | ⟨pre, z, rfl⟩
    ·simp at hl
    ·rw [List.concat_eq_append] at hl ⊢
     exact h1 _ _ (ih pre (by simp at hl; exact hl))
 exact h _ l rfl
theorem gdT_may : ∀ acc : List DRow, mayG acc = true → gdT acc = gdL acc := by
 refine snoc_indD (fun _ => rfl) fun acc y ih h => ?_
 rw [mayG_snoc, Bool.and_eq_true] at h
 have h1 := ih h.1
 have hG := h.1
 have h3 : mayG (acc ++ [y]) = true := by rw [mayG_snoc, h.1, h.2]; rfl
 unfold mayG at h3
 simp only [Bool.and_eq_true, decide_eq_true_eq] at h3
 have h4 := (List.pairwise_append.1 h3.2).2.2
 have h5 : y.2.2 ≤ 1023 := by
  have := h.2
  unfold mayS at this
  simp only [Bool.and_eq_true, decide_eq_true_eq] at this
  exact this.1
 rw [gdT_snoc, h1, putV_last fun e he => ?_]
 ·simp [gdL, gdV, small_wrap h5]
 ·obtain ⟨a, ha, rfl⟩ := List.mem_map.1 he
  exact h4 a ha y (by simp)
theorem gdT_len : ∀ acc : List DRow, Sv (gdT acc) ∧ (gdT acc).length ≤ acc.length ∧ (acc ≠ [] → gdT acc ≠ []) := by
 refine snoc_indD ⟨Sv.nil, Nat.le_refl _, fun h => absurd rfl h⟩ fun acc y ih => ?_
 rw [gdT_snoc]
 have h1 := len_put ih.1 y.1 (gdV y)
 refine ⟨ih.1.put _ _, ?_, fun _ e => ?_⟩
 ·rw [List.length_append]
  have := ih.2.1
  simp
  omega
 ·rw [e] at h1
  by_cases h2 : (getV (gdT acc) y.1).isSome = true
  ·rw [if_pos h2] at h1
   have h3 : gdT acc = [] := by simp at h1; exact h1
   rw [h3] at h2
   cases h2
  ·rw [if_neg h2] at h1
   simp at h1
def getDEnd (r : List DRow × List UInt8 × Int) : Tv Pl × Int := if endE r.2.1 r.2.2 ≠ 0 then ([], endE r.2.1 r.2.2) else if mayG r.1 = true then (gdL r.1, 0) else ([], 11)
def getD (b : List UInt8) : Tv Pl × Int := getDEnd (gdGo (uiX b 0) [] (uiL b 0) (uiE b 0))
theorem dui_back (x : Nat) (R : List UInt8) (hx : x < 18446744073709551616) : uiX (put x ++ R) 0 = x ∧ uiL (put x ++ R) 0 = R ∧ uiE (put x ++ R) 0 = 0 := by
 obtain ⟨h1, h2, h3⟩ := uint_back x R hx
 exact ⟨by unfold uiX; rw [if_pos rfl, h1], by unfold uiL; rw [if_pos rfl, h2], by unfold uiE; rw [if_pos rfl, h3]; rfl⟩
theorem did_back {x R : List UInt8} (h : x.length = 32) : idL (x ++ R) 0 = x ∧ fxL (x ++ R) 0 32 = R ∧ tkE (x ++ R) 0 32 = 0 := by
 have h1 : tkE (x ++ R) 0 32 = 0 := by
  unfold tkE
  rw [if_neg (by simp), if_neg (by decide), if_neg (by simp [h]; omega)]
 unfold idL fxL
 rw [if_pos h1, if_pos h1]
 refine ⟨?_, ?_, h1⟩
 ·rw [List.take_append_of_le_length (by omega), List.take_of_length_le (by omega)]
 ·rw [show (32 : Int).toNat = x.length by omega, List.drop_left]
theorem row_back {e : List UInt8 × Pl} (h1 : e.1.length = 32) (h2 : e.2.1.length = 32) (h3 : mayN e.2.2 = true) (R : List UInt8) :
    dgR (plB e ++ R) 0 = (e.1, e.2.1, e.2.2.toNat) ∧ dgL (plB e ++ R) 0 = R ∧ dgE (plB e ++ R) 0 = 0 := by
 obtain ⟨m, hm, hm2⟩ := mayN_nat h3
 have e1 : plB e ++ R = e.1 ++ (e.2.1 ++ (put e.2.2.toNat ++ R)) := by simp [plB]
 obtain ⟨a1, a2, a3⟩ := did_back (R := e.2.1 ++ (put e.2.2.toNat ++ R)) h1
 obtain ⟨b1, b2, b3⟩ := did_back (R := put e.2.2.toNat ++ R) h2
 obtain ⟨c1, c2, c3⟩ := dui_back e.2.2.toNat R (by omega)
 rw [e1]
 unfold dgR dgL dgE
 rw [a1, a2, a3, b1, b2, b3, c1, c2, c3]
 exact ⟨rfl, rfl, rfl⟩
theorem gdGo_back : ∀ (t : Tv Pl) (acc : List DRow) (R : List UInt8), OkT t → gdGo t.length acc (plsB t ++ R) 0 = (acc ++ t.map (fun e => (e.1, e.2.1, e.2.2.toNat)), R, 0)
 | [], acc, R, _ => by simp [gdGo, plsB]
 | e :: t, acc, R, h => by
   obtain ⟨h1, h2, h3⟩ := h e (by simp)
   obtain ⟨a1, a2, a3⟩ := row_back h1 h2 h3 (plsB t ++ R)
   have e1 : plsB (e :: t) ++ R = plB e ++ (plsB t ++ R) := by simp [plsB]
   rw [e1, List.length_cons, gdGo, if_pos rfl, a1, a2, a3, gdGo_back t _ R fun x hx => h x (by simp [hx])]
   simp
theorem dd_get_put {t : Tv Pl} (hs : Sv t) (hok : OkT t) (hl : t.length < 18446744073709551616) : getD (ixB t) = (t, 0) := by
 obtain ⟨e1, e2, e3⟩ := dui_back t.length (plsB t) hl
 have hg := gdGo_back t [] [] hok
 rw [List.append_nil, List.nil_append] at hg
 unfold getD ixB
 rw [e1, e2, e3, hg]
 unfold getDEnd
 have hL : gdL (t.map fun e => (e.1, e.2.1, e.2.2.toNat)) = t := by
  unfold gdL
  rw [List.map_map]
  conv => rhs; rw [← List.map_id t]
  apply List.map_congr_left
  intro e he
  obtain ⟨m, hm, _⟩ := mayN_nat (hok e he).2.2
  have : ((e.2.2.toNat : Nat) : Int) = e.2.2 := by omega
  simp [this]
 have hM : mayG (t.map fun e => (e.1, e.2.1, e.2.2.toNat)) = true := by
  unfold mayG
  simp only [Bool.and_eq_true, decide_eq_true_eq]
  refine ⟨List.all_eq_true.2 fun y hy => ?_, List.pairwise_map.2 hs⟩
  obtain ⟨e, he, rfl⟩ := List.mem_map.1 hy
  obtain ⟨m, hm, hm2⟩ := mayN_nat (hok e he).2.2
  simp
  omega
 simp only
 rw [if_neg (by simp [endE]), if_pos hM, hL]
theorem dui_put {l : List UInt8} (h : uiE l 0 = 0) : put (uiX l 0) ++ uiL l 0 = l := by
 unfold uiE at h
 unfold uiX uiL
 rw [if_pos rfl] at h ⊢
 rw [if_pos rfl]
 have hp := put_rd 0 l (by omega) (by simpa using h)
 rw [hp.1, List.take_append_drop]
theorem dui_zero {l : List UInt8} {e : Int} (h : uiE l e = 0) : e = 0 := by
 unfold uiE at h
 split at h
 ·assumption
 ·exact h
theorem did_put {l : List UInt8} {e : Int} (h : tkE l e 32 = 0) : e = 0 ∧ idL l e ++ fxL l e 32 = l := by
 have h1 := tkE_zero h
 refine ⟨h1.1, ?_⟩
 unfold idL fxL
 rw [if_pos h, if_pos h, show (32 : Int).toNat = 32 from rfl, List.take_append_drop]
theorem row_put {l : List UInt8} {e : Int} (h : dgE l e = 0) : e = 0 ∧ (dgR l e).1 ++ (dgR l e).2.1 ++ put (dgR l e).2.2 ++ dgL l e = l := by
 unfold dgE at h
 have h1 := dui_zero h
 obtain ⟨h2, h3⟩ := did_put h1
 obtain ⟨h4, h5⟩ := did_put h2
 refine ⟨h4, ?_⟩
 unfold dgR dgL
 simp only
 rw [h1] at h ⊢
 have h6 := dui_put h
 rw [List.append_assoc, h6, List.append_assoc, h3, h5]
end Go.Proofs.Ytmmibldchfmleaa

namespace Go.Proofs.Ytmmibldchfmleaa
open Go.RowKit Go.Maps
theorem eff_alloc {P : Program} {ops : Array Oper} {Q : Exit → Act → World → Prop} {i : Nat} {o : Oper} {K : Act → World → Prop} {a : Act} {w : World} (ho : ops.toList[i]? = some o) (hgd : o.guard = none) (ty : TypeId) (hop : o.op = .alloc ty) {cs : Array Value}
    (hz : (zeroValue ty).run P w = .ok (.agg cs) w) (h : K (a.put o.dst (.pointer (some ⟨w.heap.size, 0, none⟩))) (w.alloc (.cells cs ty))) : wpOp P ops Q i K a w :=
 eff_step ho fun K' hK' => by
  rw [if_pos (by unfold Region.wanted; rw [hgd])]
  unfold Oper.wp execOp
  simp [hop, Instr.alloc, hz, Result.andThen]
  exact hK' _ _ h
def addB (t : Tv Pl) (k : List UInt8) (v : Pl) : Bool := mayN v.2 && !(getV t k).isSome
def addT (t : Tv Pl) (k : List UInt8) (v : Pl) : Tv Pl := if addB t k v = true then putV t k v else t
def IxP (w : World) (p b : Nat) (t' : Tv Pl) (v : Value) (e : Ending) (w' : World) : Prop := e = .returned v ∧ Ix w' p b t' ∧ Turned (· = b) w w'
theorem IxP.same {w w' : World} {p b : Nat} {t : Tv Pl} {v : Value} (h : Ix w p b t) (hb : Below w.heap.size w w') : IxP w p b t v (.returned v) w' := ⟨rfl, h.below hb, Turned.of_below hb⟩
theorem two_rows {w : World} {a b : Array Value} {s t : TypeId} : ((w.alloc (.cells a s)).alloc (.cells b t)).heap[w.heap.size]? = some (.cells a s (0, 0)) ∧ ((w.alloc (.cells a s)).alloc (.cells b t)).heap[w.heap.size + 1]? = some (.cells b t (0, 0)) ∧ Below w.heap.size w ((w.alloc (.cells a s)).alloc (.cells b t)) := by
 refine ⟨(Below.heap_alloc _ _ _ (by simp)).trans (heap_alloc_new w _), ?_, ((Below.refl _ _).alloc (Nat.le_refl _) _).alloc (by simp) _⟩
 have := heap_alloc_new (w.alloc (.cells a s)) (.cells b t)
 rw [World.size_alloc] at this
 exact this
set_option maxHeartbeats 4000000 in
set_option maxRecDepth 100000 in
theorem ixadd_any {w : World} {p b : Nat} {t : Tv Pl} (h : Ix w p b t) (hl : t.length ≤ 1000000) {k : List UInt8} (hk : k.length = 32) {v : Pl} (hv : v.1.length = 32) :
    Calls Try.prog 13 #[.pointer (some ⟨p, 0, none⟩), .agg (row8 k), encP v] w (IxP w p b (addT t k v) (.bool (addB t k v))) := by
 obtain ⟨hr4, hr5, hb2⟩ := two_rows (w := w) (a := row8 k) (b := plC v) (s := 31) (t := 37)
 have hzp := zero_pl
 obtain ⟨KS, hKS⟩ : ∃ KS, KS = row8 k := ⟨_, rfl⟩
 obtain ⟨VS, hVS⟩ : ∃ VS, VS = plC v := ⟨_, rfl⟩
 obtain ⟨n, hn⟩ : ∃ n, n = v.2 := ⟨_, rfl⟩
 rw [← hKS, ← hVS] at hr4 hr5 hb2
 rw [← hKS, show encP v = .agg VS by rw [hVS]; rfl]
 have hs2 : ((w.alloc (.cells KS 31)).alloc (.cells VS 37)).heap.size = w.heap.size + 2 := by simp
 have hcn : ((w.alloc (.cells KS 31)).alloc (.cells VS 37)).cell? ⟨w.heap.size + 1, 32, none⟩ = some (.int .i64 n) := by
  rw [cell_of_cells hr5, hVS, hn]
  exact plC_n hv
 have HKS : Hid (KS = row8 k ∧ KS.size = 32 ∧ KS.all (·.oneCell') = true) := Lib.hid ⟨hKS, by rw [hKS, row8_size, hk], by rw [hKS]; exact row8_one _⟩
 have HVS : Hid (VS = plC v ∧ VS.size = 33 ∧ VS.all (·.oneCell') = true ∧ n = v.2) := Lib.hid ⟨hVS, by rw [hVS, plC_size hv], by rw [hVS]; exact plC_one _, hn⟩
 have HH := Lib.hid (And.intro h (And.intro hl (And.intro hk hv)))
 have H2 := Lib.hid (And.intro hr4 (And.intro hr5 (And.intro hb2 (And.intro (h.below hb2) hs2))))
 clear h hl hk hv hr4 hr5 hb2 hKS hVS hn hs2
 by_cases h0 : n < 0
 ·have hd0 : decide (n < 0) = true := by simpa using h0
  have hB : addB t k v = false := by rw [addB, mayN, ← HVS.out.2.2.2]; simp; intro h1; omega
  have hT : addT t k v = t := by rw [addT, hB]; rfl
  rw [hB, hT]
  clear hB hT
  go_enter Try.func13, Try.ntmps13
  go_wp2
  go_ret
  exact IxP.same HH.out.1 H2.out.2.2.1
 by_cases h1 : 1023 < n
 ·have hd0 : decide (n < 0) = false := by simpa using h0
  have hd1 : decide (1023 < n) = true := by simpa using h1
  have hd2 : decide (n > 1023) = true := by simpa using h1
  have hB : addB t k v = false := by rw [addB, mayN, ← HVS.out.2.2.2]; simp; intro h1; omega
  have hT : addT t k v = t := by rw [addT, hB]; rfl
  rw [hB, hT]
  clear hB hT
  go_enter Try.func13, Try.ntmps13
  go_wp2
  go_ret
  exact IxP.same HH.out.1 H2.out.2.2.1
 have hd0 : decide (n < 0) = false := by simpa using h0
 have hd1 : decide (1023 < n) = false := by simpa using h1
 have hd2 : decide (n > 1023) = false := by simpa using h1
 have hmay : mayN v.2 = true := by rw [mayN, ← HVS.out.2.2.2]; simp; omega
 have hB : addB t k v = !(getV t k).isSome := by rw [addB, hmay]; rfl
 obtain ⟨is, his⟩ : ∃ is, is = (getV t k).isSome := ⟨_, rfl⟩
 obtain ⟨fv, hfv⟩ : ∃ fv, fv = (getV t k).getD zPl := ⟨_, rfl⟩
 obtain ⟨FS, hFS⟩ : ∃ FS, FS = plC fv := ⟨_, rfl⟩
 have HB : Hid (addB t k v = !is ∧ is = (getV t k).isSome ∧ FS = plC fv ∧ fv = (getV t k).getD zPl ∧ FS.size = 33 ∧ FS.all (·.oneCell') = true) := Lib.hid ⟨by rw [his]; exact hB, his, hFS, hfv, by rw [hFS, plC_size (by rw [hfv]; exact HH.out.1.at_val)], by rw [hFS]; exact plC_one _⟩
 clear h0 h1 hmay hB his hfv hFS
 go_enter Try.func13, Try.ntmps13
 go_upto_region 3 with fail
 generalize (w.alloc (.cells KS 31)).alloc (.cells VS 37) = w2 at H2 hcn ⊢
 clear hd0 hd1 hd2 hcn
 obtain ⟨q, hq⟩ : ∃ q, q = w.heap.size := ⟨_, rfl⟩
 rw [← hq] at H2 ⊢
 have HQ := Lib.hid hq
 clear hq
 have hC : (fun W : World => Ix W p b t ∧ W.heap[q]? = some (.cells KS 31 (0, 0)) ∧ W.heap[q + 1]? = some (.cells VS 37 (0, 0))) w2.drew := ⟨H2.out.2.2.2.1.below ⟨rfl, rfl, rfl, Nat.le_refl _, fun _ _ => rfl⟩, H2.out.1, H2.out.2.1⟩
 have HC := Lib.hid hC
 refine wp_region_plan (fun W : World => Ix W p b t ∧ W.heap[q]? = some (.cells KS 31 (0, 0)) ∧ W.heap[q + 1]? = some (.cells VS 37 (0, 0))) [([0, 1, 2, 3, 4, 5, 6, 7, 8], 9), ([], 10)] [11] (by kernel_rfl) (by kernel_rfl) (fun _ _ d _ _ h => by cases d <;> exact h) hC ?_
 refine plan_eff ?_
 refine seg_read ?v1 (by rfl) (by rfl) ?h1 ?_
 case h1 => intro W hW; go_simp; with_reducible rfl
 try simp only [Act.put, List.setIfInBounds_toArray, List.set_cons_zero, List.set_cons_succ]
 refine seg_read ?v2 (by rfl) (by rfl) ?h2 ?_
 case h2 => intro W hW; go_simp; with_reducible rfl
 try simp only [Act.put, List.setIfInBounds_toArray, List.set_cons_zero, List.set_cons_succ]
 refine seg_read ?v3 (by rfl) (by rfl) ?h3 ?_
 case h3 => intro W hW; go_simp; with_reducible rfl
 try simp only [Act.put, List.setIfInBounds_toArray, List.set_cons_zero, List.set_cons_succ]
 refine seg_read ?v4 (by rfl) (by rfl) ?h4 ?_
 case h4 => intro W hW; have hcb := hW.1.cell; go_simp; with_reducible rfl
 try simp only [Act.put, List.setIfInBounds_toArray, List.set_cons_zero, List.set_cons_succ]
 refine seg_read (.agg KS) (by rfl) (by rfl) (fun W hW => exec_load_st 31 (.tmp 4) (by rfl) q (by rfl) KS (0, 0) hW.2.1 _ Try.underlying31 (by rfl) (by rw [HKS.out.2.1]; exact id_info)) ?_
 try simp only [Act.put, List.setIfInBounds_toArray, List.set_cons_zero, List.set_cons_succ]
 refine seg_read ?v5 (by rfl) (by rfl) ?h5 ?_
 case h5 => intro W hW; have hlk := (hW.1.map.look Try.underlying64 (zero_pl W) HH.out.2.2.1).1; rw [← HKS.out.1, ← HB.out.2.1, show (getV t k).elim (encP zPl) encP = .agg FS by rw [HB.out.2.2.1, HB.out.2.2.2.1]; cases getV t k <;> rfl] at hlk; go_simp; with_reducible rfl
 try simp only [Act.put, List.setIfInBounds_toArray, List.set_cons_zero, List.set_cons_succ]
 refine seg_read ?v6 (by rfl) (by rfl) ?h6 ?_
 case h6 => intro W hW; go_simp; with_reducible rfl
 try simp only [Act.put, List.setIfInBounds_toArray, List.set_cons_zero, List.set_cons_succ]
 refine seg_read ?v7 (by rfl) (by rfl) ?h7 ?_
 case h7 => intro W hW; go_simp; with_reducible rfl
 try simp only [Act.put, List.setIfInBounds_toArray, List.set_cons_zero, List.set_cons_succ]
 refine seg_read ?v8 (by rfl) (by rfl) ?h8 ?_
 case h8 => intro W hW; go_simp; with_reducible rfl
 try simp only [Act.put, List.setIfInBounds_toArray, List.set_cons_zero, List.set_cons_succ]
 refine seg_nil ?_
 refine eff_alloc (by rfl) (by rfl) 37 (by rfl) (hzp _) ?_
 have hA : (fun W : World => Ix W p b t ∧ W.heap[q]? = some (.cells KS 31 (0, 0)) ∧ W.heap[q + 1]? = some (.cells VS 37 (0, 0))) (w2.drew.alloc (.cells (plC zPl) 37)) := by
  have hbA : Below w2.drew.heap.size w2.drew (w2.drew.alloc (.cells (plC zPl) 37)) := (Below.refl _ _).alloc (Nat.le_refl _) _
  exact ⟨hC.1.below hbA, (hbA.block _ (lt_of_cells hC.2.1)).trans hC.2.1, (hbA.block _ (lt_of_cells hC.2.2)).trans hC.2.2⟩
 refine ⟨_, hA, fun _ h => h, ?_⟩
 try simp only [Act.put, List.setIfInBounds_toArray, List.set_cons_zero, List.set_cons_succ]
 refine plan_eff ?_
 refine seg_nil ?_
 refine eff_store_row (by rfl) (by rfl) 37 (.tmp 7) (.tmp 28) (by rfl) w2.drew.heap.size FS (by rfl) (by rfl) 37 (plC zPl) (heap_alloc_new _ _) (by rw [HB.out.2.2.2.2.1]; exact pl_info) (by rw [HB.out.2.2.2.2.1, plC_size zPl_len]) HB.out.2.2.2.2.2 ?_
 have hS3 : (fun W : World => Ix W p b t ∧ W.heap[q]? = some (.cells KS 31 (0, 0)) ∧ W.heap[q + 1]? = some (.cells VS 37 (0, 0))) ((w2.drew.alloc (.cells (plC zPl) 37)).setRow w2.drew.heap.size FS) := by
  have hbS : Below w2.drew.heap.size w2.drew ((w2.drew.alloc (.cells (plC zPl) 37)).setRow w2.drew.heap.size FS) := below_setRow ((Below.refl _ _).alloc (Nat.le_refl _) _) (Nat.le_refl _) _
  exact ⟨hC.1.below hbS, (hbS.block _ (lt_of_cells hC.2.1)).trans hC.2.1, (hbS.block _ (lt_of_cells hC.2.2)).trans hC.2.2⟩
 refine ⟨_, hS3, fun _ h => h, ?_⟩
 try simp only [Act.put]
 refine plan_last ?_
 refine seg_read ?v9 (by rfl) (by rfl) ?h9 ?_
 case h9 => intro W hW; go_simp; with_reducible rfl
 try simp only [Act.put, List.setIfInBounds_toArray, List.set_cons_zero, List.set_cons_succ]
 refine seg_nil ?_
 have HW : Hid (Ix (((w2.drew).alloc (.cells (plC zPl) 37)).setRow w2.drew.heap.size FS) p b t ∧ (((w2.drew).alloc (.cells (plC zPl) 37)).setRow w2.drew.heap.size FS).heap[q]? = some (.cells KS 31 (0, 0)) ∧ (((w2.drew).alloc (.cells (plC zPl) 37)).setRow w2.drew.heap.size FS).heap[q + 1]? = some (.cells VS 37 (0, 0)) ∧ Below w.heap.size w (((w2.drew).alloc (.cells (plC zPl) 37)).setRow w2.drew.heap.size FS)) := Lib.hid ⟨hS3.1, hS3.2.1, hS3.2.2, by
  have hb : Below w.heap.size w w2 := by rw [← HQ.out]; exact H2.out.2.2.1
  refine below_setRow ((below_drew hb).alloc ?_ _) ?_ _
  ·exact hb.size
  ·exact hb.size⟩
 clear hS3 hC HC H2
 generalize ((w2.drew).alloc (.cells (plC zPl) 37)).setRow w2.drew.heap.size FS = w3 at HW ⊢
 by_cases hi : is = true
 ·subst hi
  have e1 : addB t k v = false := by rw [HB.out.1]; rfl
  have e2 : addT t k v = t := by rw [addT, e1]; rfl
  have HE := Lib.hid (And.intro e1 e2)
  clear e1 e2
  go_wp2
  go_ret
  exact ⟨by rw [HE.out.1]; rfl, by rw [HE.out.2]; exact HW.out.1, Turned.of_below HW.out.2.2.2⟩
 ·obtain rfl : is = false := by simpa using hi
  have e1 : addB t k v = true := by rw [HB.out.1]; rfl
  have e2 : addT t k v = putV t k v := by rw [addT, e1]; rfl
  have HE := Lib.hid (And.intro e1 e2)
  clear e1 e2 hi
  have hcb := HW.out.1.cell
  have hme : ∀ W, (binOp BinOp.eql 64 (.map (some b)) (.map none)).run Try.prog W = .ok (.bool false) W := fun W => by kernel_rfl
  go_upto_region 8 with fail
  have hC : (fun W : World => Ix W p b t ∧ W.heap[q]? = some (.cells KS 31 (0, 0)) ∧ W.heap[q + 1]? = some (.cells VS 37 (0, 0))) w3.drew := ⟨HW.out.1.below ⟨rfl, rfl, rfl, Nat.le_refl _, fun _ _ => rfl⟩, HW.out.2.1, HW.out.2.2.1⟩
  obtain ⟨w5, hrun, hkv, hmt⟩ := hC.1.map.put Try.underlying64 HH.out.2.2.1 (by have := HH.out.2.1; omega) v
  rw [← HKS.out.1, show encP v = .agg VS by rw [HVS.out.1]; rfl] at hrun
  have HF : Hid (Ix w5 p b (putV t k v) ∧ Turned (· = b) w w5) := Lib.hid (by
   have ht : Turned (· = b) w3.drew w5 := mapTurned_turnedk hmt
   refine ⟨⟨(ht.block _ (lt_of_cells hC.1.box) hC.1.ne).trans hC.1.box, hkv, fun e he => ?_⟩, (Turned.of_below (below_drew HW.out.2.2.2)).trans ht fun _ _ h => h⟩
   unfold putV at he
   rcases List.mem_append.1 he with he | he
   ·rcases List.mem_append.1 he with he | he
    ·exact HH.out.1.val e (List.mem_filter.1 he).1
    ·simp only [List.mem_singleton] at he
     rw [he]
     exact HH.out.2.2.2
   ·exact HH.out.1.val e (List.mem_filter.1 he).1)
  have hB8 : w5.heap[q]? = some (.cells KS 31 (0, 0)) ∧ w5.heap[q + 1]? = some (.cells VS 37 (0, 0)) := by
   have ht : Turned (· = b) w3.drew w5 := mapTurned_turnedk hmt
   have hbw := HH.out.1.map.lt
   have hq2 := HQ.out
   exact ⟨(ht.block _ (lt_of_cells hC.2.1) (by show ¬ q = b; omega)).trans hC.2.1, (ht.block _ (lt_of_cells hC.2.2) (by show ¬ q + 1 = b; omega)).trans hC.2.2⟩
  clear hkv hmt hcb
  refine wp_region_plan (fun W : World => (∃ t', Ix W p b t') ∧ W.heap[q]? = some (.cells KS 31 (0, 0)) ∧ W.heap[q + 1]? = some (.cells VS 37 (0, 0))) [([0, 1, 2, 3, 4, 5], 6)] [] (by kernel_rfl) (by kernel_rfl) (fun _ _ d _ _ h => by cases d <;> exact h) ⟨⟨_, hC.1⟩, hC.2.1, hC.2.2⟩ ?_
  refine plan_eff ?_
  refine seg_read ?v10 (by rfl) (by rfl) ?h10 ?_
  case h10 => intro W hW; go_simp; with_reducible rfl
  try simp only [Act.put, List.setIfInBounds_toArray, List.set_cons_zero, List.set_cons_succ]
  refine seg_read ?v11 (by rfl) (by rfl) ?h11 ?_
  case h11 => intro W hW; go_simp; with_reducible rfl
  try simp only [Act.put, List.setIfInBounds_toArray, List.set_cons_zero, List.set_cons_succ]
  refine seg_read ?v12 (by rfl) (by rfl) ?h12 ?_
  case h12 => intro W hW; go_simp; with_reducible rfl
  try simp only [Act.put, List.setIfInBounds_toArray, List.set_cons_zero, List.set_cons_succ]
  refine seg_read ?v13 (by rfl) (by rfl) ?h13 ?_
  case h13 => intro W hW; obtain ⟨⟨t', hx⟩, h1, h2⟩ := hW; have hcb := hx.cell; go_simp; with_reducible rfl
  try simp only [Act.put, List.setIfInBounds_toArray, List.set_cons_zero, List.set_cons_succ]
  refine seg_read (.agg KS) (by rfl) (by rfl) (fun W hW => exec_load_st 31 (.tmp 4) (by rfl) q (by rfl) KS (0, 0) hW.2.1 _ Try.underlying31 (by rfl) (by rw [HKS.out.2.1]; exact id_info)) ?_
  try simp only [Act.put, List.setIfInBounds_toArray, List.set_cons_zero, List.set_cons_succ]
  refine seg_read (.agg VS) (by rfl) (by rfl) (fun W hW => exec_load_st 37 (.tmp 5) (by rfl) (q + 1) (by rfl) VS (0, 0) hW.2.2 _ Try.underlying37 (by rfl) (by rw [HVS.out.2.1]; exact pl_info)) ?_
  try simp only [Act.put, List.setIfInBounds_toArray, List.set_cons_zero, List.set_cons_succ]
  refine seg_nil ?_
  refine eff_step (by rfl) (fun K hK => ?_)
  go_simp
  refine hK _ _ ⟨_, ⟨⟨_, HF.out.1⟩, hB8.1, hB8.2⟩, fun _ h => h, ?_⟩
  clear hK K
  try simp only [Act.put, List.setIfInBounds_toArray, List.set_cons_zero, List.set_cons_succ]
  refine plan_last ?_
  refine seg_nil ?_
  go_wp2
  go_ret
  exact ⟨by rw [HE.out.1]; rfl, by rw [HE.out.2]; exact HF.out.1, HF.out.2⟩
end Go.Proofs.Ytmmibldchfmleaa

namespace Go.Proofs.Ytmmibldchfmleaa
open Go.RowKit
theorem cmpB (a b : List UInt8) : Lib.compareBytes a b = if a < b then -1 else if b < a then 1 else 0 := by
 induction a generalizing b with
 | nil => cases b <;> simp [Lib.compareBytes]
 | cons x a ih =>
   cases b with
   | nil => simp [Lib.compareBytes]
   | cons y b =>
     rw [Lib.compareBytes, ih]
     simp only [List.cons_lt_cons_iff]
     by_cases h : x < y
     ·simp [h]
     ·by_cases h2 : y < x
      ·have hne : x ≠ y := fun e => by rw [e] at h2; exact UInt8.lt_irrefl _ h2
       have h3 : ¬ x < y := h
       simp [h2, h3, hne]
      ·have he : x = y := UInt8.le_antisymm (UInt8.not_lt.1 h2) (UInt8.not_lt.1 h)
       subst he
       simp
theorem cmpB_neg (a b : List UInt8) : (Lib.compareBytes a b < 0) ↔ a < b := by
 rw [cmpB]
 by_cases h : a < b
 ·simp [h]
 ·rw [if_neg h]
  by_cases h2 : b < a <;> simp [h, h2]
theorem cmpB_nonneg (a b : List UInt8) : decide (0 ≤ Lib.compareBytes a b) = !decide (a < b) := by
 have h := cmpB_neg a b
 by_cases h2 : a < b
 ·have h3 := h.2 h2
  simp [h2]
  omega
 ·have h3 : ¬ Lib.compareBytes a b < 0 := fun h4 => h2 (h.1 h4)
  simp [h2]
  omega
theorem bytes_nums (l : List UInt8) : Lib.bytesOf (l.map fun x => (x.toNat : Int)) = l := by
 unfold Lib.bytesOf
 rw [List.map_map]
 conv => rhs; rw [← List.map_id l]
 apply List.map_congr_left
 intro x _
 simp
theorem load_byt {P : Program} {w : World} {S : Nat → Prop} {A : Addr} {n c : Nat} {l : List UInt8} (h : Byt w S (some A) n c l) : (Extern.Bytes.loadBytes A n .empty).run P w = .ok ⟨l.toArray⟩ w := by
 have hl := h.len
 by_cases h0 : 0 < n
 ·obtain ⟨b, off, hA, _, _, hc⟩ := h.row h0
  injection hA with hA
  subst hA
  have h1 := Lib.run_loadBytesX (P := P) w (l.map fun x => (x.toNat : Int)) ⟨b, off, none⟩ .empty (fun j x hj => by
   have hjl : j < l.length := by
    have := (List.getElem?_eq_some_iff.1 hj).1
    simpa using this
   rw [add_plain, hc j (by omega)]
   rw [List.getElem?_map, List.getElem?_eq_getElem hjl] at hj
   simp only [Option.map_some, Option.some.injEq] at hj
   rw [List.getElem?_eq_getElem hjl, Option.getD_some, hj])
  rw [List.length_map, hl, bytes_nums] at h1
  rw [h1]
  congr 1
  apply ByteArray.ext
  show (#[] : Array UInt8) ++ l.toArray = l.toArray
  simp
 ·have e : n = 0 := by omega
  subst e
  obtain rfl : l = [] := List.eq_nil_of_length_eq_zero hl
  rfl
theorem run_cmp {P : Program} {w : World} {S S' : Nat → Prop} {A B : Addr} {n c m d : Nat} {l l' : List UInt8} (h : Byt w S (some A) n c l) (h' : Byt w S' (some B) m d l') :
    (Extern.BytealgCompare.compare #[.slice (some A) n c, .slice (some B) m d]).run P w = .ok (.int .i64 (Lib.compareBytes l l')) w := by
 change Sem.run P (do pure (goInt (Extern.BytealgCompare.cmp (← Extern.Bytes.bytesOf (.slice (some A) n c)) (← Extern.Bytes.bytesOf (.slice (some B) m d))))) w = _
 simp only [Extern.Bytes.bytesOf, Sem.run_bind, Sem.run_pure, load_byt h, load_byt h', Result.andThen]
 rw [Lib.cmp_eq]
 rfl
set_option maxHeartbeats 2000000 in
theorem bcmp_any {w : World} {S S' : Nat → Prop} {A B : Addr} {n c m d : Nat} {l l' : List UInt8} (h : Byt w S (some A) n c l) (h' : Byt w S' (some B) m d l') :
    Calls Try.prog 45 #[.slice (some A) n c, .slice (some B) m d] w fun e w' => e = .returned (.int .i64 (Lib.compareBytes l l')) ∧ w' = w := by
 have hr := run_cmp (P := Try.prog) h h'
 generalize Lib.compareBytes l l' = r at hr ⊢
 clear h h'
 go_enter Try.func45, Try.ntmps45
 go_wp2
 rw [run_callFunc_extern Try.func51 (by kernel_rfl) (by kernel_rfl) (by kernel_rfl) (e := Extern.BytealgCompare.compare) (by kernel_rfl), hr]
 simp only [Result.andThen]
 rw [Oper.upon_value]
 go_wp2
 go_ret
 exact ⟨rfl, rfl⟩
set_option maxHeartbeats 4000000 in
set_option maxRecDepth 100000 in
theorem cmp_any (x y : List UInt8) (hx : x.length = 32) (hy : y.length = 32) (W : World) :
    Calls Try.prog 29 #[.agg (row8 x), .agg (row8 y)] W fun e w' => e = .returned (.int .i64 (Lib.compareBytes x y)) ∧ ∃ q, w' = ((W.alloc (.cells (row8 x) 31)).alloc (.cells (row8 y) 31)).drewN q := by
 obtain ⟨W2, hW2⟩ : ∃ W2, W2 = (W.alloc (.cells (row8 x) 31)).alloc (.cells (row8 y) 31) := ⟨_, rfl⟩
 have h1 : W2.heap[W.heap.size]? = some (.cells (u8s x).toArray 31 (0, 0)) := by
  rw [hW2]
  exact (Below.heap_alloc _ _ _ (by simp)).trans (heap_alloc_new W _)
 have h2 : W2.heap[W.heap.size + 1]? = some (.cells (u8s y).toArray 31 (0, 0)) := by
  have := heap_alloc_new (W.alloc (.cells (row8 x) 31)) (.cells (row8 y) 31)
  rw [hW2]
  rw [World.size_alloc] at this
  exact this
 have hb := fun q => bcmp_any ((byt_whole h1 (by omega)).drewN q) ((byt_whole h2 (by omega)).drewN q)
 rw [hx, hy] at hb
 obtain ⟨XS, hXS⟩ : ∃ XS, XS = row8 x := ⟨_, rfl⟩
 obtain ⟨YS, hYS⟩ : ∃ YS, YS = row8 y := ⟨_, rfl⟩
 rw [← hXS, ← hYS] at hW2 ⊢
 generalize Lib.compareBytes x y = r at hb ⊢
 have HW2 := Lib.hid hW2
 clear hXS hYS h1 h2 hx hy hW2
 go_enter Try.func29, Try.ntmps29
 go_upto_region 1 with fail
 rw [← HW2.out]
 go_quiet ((go_at_call 45; exact Calls.quiet_of_same (hb _)))
 go_wp2_with fail
 go_ret
 exact ⟨rfl, _, by rw [HW2.out]⟩
end Go.Proofs.Ytmmibldchfmleaa

namespace Go.Proofs.Ytmmibldchfmleaa
open Go.RowKit
theorem list32' {l : List UInt8} (h : l.length = 32) : ∃ a0 a1 a2 a3 a4 a5 a6 a7 a8 a9 b0 b1 b2 b3 b4 b5 b6 b7 b8 b9 c0 c1 c2 c3 c4 c5 c6 c7 c8 c9 d0 d1, l = [a0, a1, a2, a3, a4, a5, a6, a7, a8, a9, b0, b1, b2, b3, b4, b5, b6, b7, b8, b9, c0, c1, c2, c3, c4, c5, c6, c7, c8, c9, d0, d1] := by
 match l, h with
 | [a0, a1, a2, a3, a4, a5, a6, a7, a8, a9, b0, b1, b2, b3, b4, b5, b6, b7, b8, b9, c0, c1, c2, c3, c4, c5, c6, c7, c8, c9, d0, d1], _ => exact ⟨_, _, _, _, _, _, _, _, _, _, _, _, _, _, _, _, _, _, _, _, _, _, _, _, _, _, _, _, _, _, _, _, rfl⟩
set_option maxRecDepth 100000 in
theorem fill_id {l : List UInt8} (hl : l.length = 32) : Instr.fill (fun i => some (i * 32, 32)) (row8 (List.replicate 1 (List.replicate 32 0)).flatten) [(0, .agg (row8 l))] = some (row8 l) := by
 obtain ⟨a0, a1, a2, a3, a4, a5, a6, a7, a8, a9, b0, b1, b2, b3, b4, b5, b6, b7, b8, b9, c0, c1, c2, c3, c4, c5, c6, c7, c8, c9, d0, d1, rfl⟩ := list32' hl
 unfold row8 u8s
 kernel_rfl
theorem run_ids_lit (w : World) (XS : Array Value) {l : List UInt8} (h : XS = row8 l) (hl : l.length = 32) : (Instr.buildSlice 55 1 #[(0, .agg XS)]).run Try.prog w = .ok (.slice (some ⟨w.heap.size, 0, none⟩) 1 1) (w.alloc (.cells XS 31)) := by
 obtain ⟨i0, hi, hz0, hz1, _⟩ := info_parts id_info3
 have hm := made_ids 1
 unfold madeCells at hm
 subst h
 refine run_buildSlice w 55 31 1 #[(0, .agg (row8 l))] (row8 l) i0 (.agg zerosId) Try.underlying55 hi hz0 (by rw [hz1]; omega) (by rw [hz1]; omega) ?_
 rw [hz1, hm]
 exact fill_id hl
end Go.Proofs.Ytmmibldchfmleaa
