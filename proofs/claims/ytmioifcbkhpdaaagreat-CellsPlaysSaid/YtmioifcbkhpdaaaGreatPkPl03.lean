/-
  codec.Writer, its further methods.
-/
import Derived.Test.YtmioifcbkhpdaaaGreatPkPl02
import Derived.Test.YtmioifcbkhpdaaaGreatPkPl01
import Derived.Maps.OwnSet
import Derived.Sort.KeysCollected
import Derived.StringKeys
import Derived.Lib.Strings
import Derived.Lib.Walk
import Derived.Lib.BufferWrite
import Derived.Lib.UnsafeStr
import Derived.Laws.MakeOwn
import Derived.Maps.AppendAt
import Derived.Deep.AppendLies
namespace Go.Proofs.YtmioifcbkhpdaaaGreat
set_option maxHeartbeats 16000000
set_option maxRecDepth 100000
open Go.RowKit Go.Maps Codec
def rv (v : Value) : Option (DataW Value × List MemPlace) := some (.held v, [])
theorem mlaw : Keyed Tryz.prog 9 := string_keyed Tryz.underlying9
theorem zero_sl (w : World) : (zeroValue 54).run Tryz.prog w = .ok (.slice none 0 0) w := by kernel_rfl
structure Agr (w : World) (S : Nat → Prop) (D : DataW Value) (t : Tb) : Prop where
 srt : Srt t
 size : Maps.size D = t.length
 has : ∀ k, Maps.has D (.string k) = (xE t k).isSome
 at_ : ∀ k v, xE t k = some v → ∃ A n c, (∀ z, D.atKey (.string k) z = .held (.slice A n c)) ∧ Byt w S A n c v
def Nms (w : World) (S : Nat → Prop) (b : Nat) (t : Tb) : Prop :=
 S b ∧ ∃ D, w.ownsMap Tryz.prog 9 rv b t.length D ∧ Agr w (fun k => S k ∧ k ≠ b) D t
variable {w w' : World} {S T : Nat → Prop} {b : Nat} {t : Tb}
theorem Nms.srt (h : Nms w S b t) : Srt t := by
 obtain ⟨_, D, _, ha⟩ := h;exact ha.srt
theorem Nms.lt (h : Nms w S b t) : b < w.heap.size := by
 obtain ⟨_, D, ho, _⟩ := h;exact ho.lt
theorem ownsMap_exact {P : Program} {k : TypeId} {R : Value → Option (DataW Value × List MemPlace)} {n : Nat} {D : DataW Value} (h : w.ownsMap P k R b n D) : w.ownsMap P k R b (Maps.size D) D := by
 obtain ⟨es, clock, hb, F, hs, rfl⟩ := h;exact ⟨es, clock, hb, F, by simp [Maps.size, length_sorted], rfl⟩
theorem ownsMap_kept {P : Program} {k : TypeId} {R : Value → Option (DataW Value × List MemPlace)} {n : Nat} {D : DataW Value} (h : w.ownsMap P k R b n D) (hb : w'.heap[b]? = w.heap[b]?) : w'.ownsMap P k R b n D := by
 obtain ⟨es, clock, hb', r⟩ := h;exact ⟨es, clock, hb.trans hb', r⟩
theorem Agr.turned {D : DataW Value} (h : Agr w S D t) (ht : Turned T w w') (hd : ∀ k, k < w.heap.size → S k → ¬ T k) : Agr w' S D t :=
 ⟨h.srt, h.size, h.has, fun k v hk => by
   obtain ⟨A, n, c, h1, h2⟩ := h.at_ k v hk;exact ⟨A, n, c, h1, h2.turned ht hd⟩⟩
theorem Agr.mono {D : DataW Value} (h : Agr w S D t) (hT : ∀ k, k < w.heap.size → S k → T k) : Agr w T D t :=
 ⟨h.srt, h.size, h.has, fun k v hk => by
   obtain ⟨A, n, c, h1, h2⟩ := h.at_ k v hk;exact ⟨A, n, c, h1, h2.mono hT⟩⟩
theorem Nms.turned (h : Nms w S b t) (ht : Turned T w w') (hd : ∀ k, k < w.heap.size → S k → ¬ T k) : Nms w' S b t := by
 obtain ⟨hS, D, ho, ha⟩ := h;exact ⟨hS, D, ownsMap_kept ho (ht.block _ ho.lt (hd _ ho.lt hS)), ha.turned ht fun k hk hs => hd k hk hs.1⟩
theorem Nms.below (h : Nms w S b t) (hb : Below w.heap.size w w') : Nms w' S b t :=
 h.turned (T := fun _ => False) ⟨hb.os, hb.tape, hb.output, hb.size, fun k hk _ => hb.block k hk⟩ fun _ _ _ h => h
theorem Nms.mono (h : Nms w S b t) (hT : ∀ k, k < w.heap.size → S k → T k) : Nms w T b t := by
 obtain ⟨hS, D, ho, ha⟩ := h;exact ⟨hT _ ho.lt hS, D, ho, ha.mono fun k hk hs => ⟨hT k hk hs.1, hs.2⟩⟩
theorem Nms.drew (h : Nms w S b t) : Nms w.drew S b t := h.below ⟨rfl, rfl, rfl, Nat.le_refl _, fun _ _ => rfl⟩
theorem made_map (w : World) : Nms (w.alloc (.map #[] 0)) (fun k => k = w.heap.size) w.heap.size [] :=
 ⟨rfl, .map [], World.ownsMap_made _ _ _ _, Srt.nil, rfl, fun _ => rfl, fun _ _ h => by cases h⟩
theorem str_key (k : List UInt8) (h : k.length ≤ 1000000) : keyOf Tryz.prog 9 (.string (st k)) = some (.string k) := by
 have h1 := Go.WideMaps.keyOf_string_mk (P := Tryz.prog) (k := 9) Tryz.underlying9 (s := st k) (by rw [zN]; unfold maxLen; omega)
 simpa [st] using h1
theorem str_lit (k : List UInt8) : WideAt.IsKeyLit (.string k) := by trivial
theorem len_split {t : Tb} (h : Srt t) (k : List UInt8) : (t.filter fun p => decide (p.1 < k)).length + (t.filter fun p => decide (k < p.1)).length + (if (xE t k).isSome = true then 1 else 0) = t.length := by
 induction t with
 | nil => simp [getT_nil]
 | cons p t ih =>
   obtain ⟨h1, h2⟩ := List.pairwise_cons.1 h;have h3 := ih h2;rw [xJ]
   by_cases hl : p.1 < k
   ·rw [List.filter_cons_of_pos (by simpa using hl), List.filter_cons_of_neg (by simpa using klt_as hl), if_neg (klt_ne hl), List.length_cons, List.length_cons];omega
   ·rw [List.filter_cons_of_neg (by simpa using hl)]
    by_cases he : p.1 = k
    ·(have hn : xE t k = none := getT_none fun q hq => (klt_ne (he ▸ h1 q hq)).symm);rw [hn] at h3;rw [List.filter_cons_of_neg (by simp [he]), if_pos he, List.length_cons];simp at h3 ⊢;omega
    ·(have hg : k < p.1 := Classical.byContradiction fun h => he (klt_tri hl h));rw [List.filter_cons_of_pos (by simpa using hg), if_neg he, List.length_cons, List.length_cons];omega
theorem doC_len {t : Tb} (h : Srt t) (c : Ch) : (doC t c).length + (if (xE t c.k).isSome = true then 1 else 0) = t.length + (if c.g then 0 else 1) := by
 have h1 := len_split h c.k;unfold doC;rw [List.length_append, List.length_append]
 cases c.g <;> simp <;> omega
theorem Nms.put (h : Nms w S b t) {k v : List UInt8} {A : Option Addr} {n c : Nat} (hk : k.length ≤ 1000000) (hl : t.length ≤ 10000000000000) {U : Nat → Prop} (hy : Byt w U A n c v) (hU : ∀ q, q < w.heap.size → U q → q ≠ b) :
    ∃ w', (Instr.mapUpdate 73 (.map (some b)) (.string (st k)) (.slice A n c)).run Tryz.prog w = .ok () w' ∧ Nms w' (fun q => S q ∨ U q) b (doC t ⟨k, v, false⟩) ∧ w.mapTurned w' b := by
 obtain ⟨hS, D, ho, ha⟩ := h;obtain ⟨w', hrun, ho', hm⟩ := ho.store (t := 73) (e := 54) mlaw Tryz.underlying73 (by unfold maxLen; omega) (str_key k hk) (d := .held (.slice A n c)) (ps := []) rfl;have hg := hm.grown;have ht : Turned (fun q => q = b) w w' := Turned.of_gr hg fun _ e => (Option.some.inj e).symm
 have hti := ho.tidy mlaw;have him := ho.isMap
 have hsz : Maps.size (D.put (.string k) (.held (.slice A n c))) = (doC t ⟨k, v, false⟩).length := by
  have h1 := doC_len ha.srt ⟨k, v, false⟩;rw [size_put hti, ha.has, ha.size]
  cases hq : (xE t k).isSome <;> simp [hq] at h1 ⊢ <;> omega
 refine ⟨w', hrun, ⟨.inl hS, _, by rw [← hsz]; exact ownsMap_exact ho', ⟨ha.srt.chg _, hsz, fun x => ?_, fun x y hx => ?_⟩⟩, hm⟩
 ·rw [getT_doC]
  by_cases e : x = k
  ·subst e;rw [has_put_same him (str_lit x)];simp
  ·rw [has_put_other (by simpa using e), ha.has, if_neg e]
 ·rw [getT_doC] at hx
  by_cases e : x = k
  ·subst e;rw [if_pos rfl] at hx;(obtain rfl : v = y := by simpa using hx);exact ⟨A, n, c, fun z => atKey_put_same him (str_lit x) _ _, (hy.mono fun q hq hu => (⟨.inr hu, hU q hq hu⟩ : (S q ∨ U q) ∧ q ≠ b)).turned ht fun q _ hq => hq.2⟩
  ·rw [if_neg e] at hx;obtain ⟨A', n', c', h1, h2⟩ := ha.at_ x y hx;exact ⟨A', n', c', fun z => by rw [atKey_put_other (by simpa using e)]; exact h1 z, (h2.mono fun q hq hu => ⟨.inl hu.1, hu.2⟩).turned ht fun q _ hq => hq.2⟩
theorem Nms.del (h : Nms w S b t) {k v : List UInt8} (hk : k.length ≤ 1000000) (ty : TypeId) :
    ∃ w', (Builtin.delete_ #[73, 9] ty #[.map (some b), .string (st k)]).run Tryz.prog w = .ok (.tuple #[]) w' ∧ Nms w' S b (doC t ⟨k, v, true⟩) ∧ w.mapTurned w' b := by
 obtain ⟨hS, D, ho, ha⟩ := h;obtain ⟨w', hrun, ho', hm⟩ := ho.drop (t := 73) (e := 54) mlaw Tryz.underlying73 (str_key k hk) ty;have hg := hm.grown;have ht : Turned (fun q => q = b) w w' := Turned.of_gr hg fun _ e => (Option.some.inj e).symm
 have hti := ho.tidy mlaw
 have hsz : Maps.size (D.del (.string k)) = (doC t ⟨k, v, true⟩).length := by
  have h1 := size_del (k := .string k) hti;have h2 := doC_len ha.srt ⟨k, v, true⟩;rw [ha.has, ha.size] at h1;simp at h2;omega
 refine ⟨w', hrun, ⟨hS, _, by rw [← hsz]; exact ownsMap_exact ho', ⟨ha.srt.chg _, hsz, fun x => ?_, fun x y hx => ?_⟩⟩, hm⟩
 ·rw [getT_doC]
  by_cases e : x = k
  ·subst e;rw [has_del_same];simp
  ·rw [has_del_other (by simpa using e), ha.has, if_neg e]
 ·rw [getT_doC] at hx
  by_cases e : x = k
  ·subst e;rw [if_pos rfl] at hx;simp at hx
  ·rw [if_neg e] at hx;obtain ⟨A', n', c', h1, h2⟩ := ha.at_ x y hx;exact ⟨A', n', c', fun z => by rw [atKey_del_other (by simpa using e)]; exact h1 z, h2.turned ht fun q _ hq => hq.2⟩
theorem Nms.look (h : Nms w S b t) {k : List UInt8} (hk : k.length ≤ 1000000) :
    ∃ A n c, (Instr.lookup 73 (.map (some b)) (.string (st k)) true).run Tryz.prog w = .ok (.tuple #[.slice A n c, .bool (xE t k).isSome]) w ∧
      (Instr.lookup 73 (.map (some b)) (.string (st k)) false).run Tryz.prog w = .ok (.slice A n c) w ∧ Byt w S A n c ((xE t k).getD []) := by
 obtain ⟨hS, D, ho, ha⟩ := h;obtain ⟨v, ps, hrun, hv⟩ := ho.look_ok (t := 73) (e := 54) mlaw Tryz.underlying73 (zero_sl w) (zd := .held (.slice none 0 0)) (zp := []) rfl (str_key k hk);obtain ⟨v2, ps2, hrun2, hv2⟩ := ho.lookup (t := 73) (e := 54) mlaw Tryz.underlying73 (zero_sl w) (zd := .held (.slice none 0 0)) (zp := []) rfl (str_key k hk);rw [ha.has] at hrun
 have hvv : v2 = v := by
  unfold rv at hv hv2;simp only [Option.some.injEq, Prod.mk.injEq] at hv hv2;have e1 := hv.1.trans hv2.1.symm;simp only [DataW.held.injEq] at e1;exact e1.symm
 subst hvv;rcases hg : xE t k with _ | y
 ·have hno : Maps.has D (.string k) = false := by rw [ha.has, hg]; rfl
  unfold rv at hv;simp only [Option.some.injEq, Prod.mk.injEq] at hv;rw [atKey_of_not_has hno] at hv
  obtain rfl : v2 = .slice none 0 0 := by
   have e1 := hv.1
   simpa only [DataW.held.injEq] using e1
  rw [hg] at hrun;exact ⟨none, 0, 0, hrun, hrun2, Byt.nil _ _ _ _ (Nat.zero_le _)⟩
 ·obtain ⟨A, n, c, h1, h2⟩ := ha.at_ k y hg;unfold rv at hv;simp only [Option.some.injEq, Prod.mk.injEq] at hv;rw [h1] at hv
  obtain rfl : v2 = .slice A n c := by
   have e1 := hv.1
   simpa only [DataW.held.injEq] using e1
  rw [hg] at hrun;exact ⟨A, n, c, hrun, hrun2, by simpa using h2.mono fun q _ hq => hq.1⟩
theorem mapTurned_turned' {w w' : World} {b : Nat} (h : w.mapTurned w' b) : Turned (fun q => q = b) w w' := Turned.of_gr h.grown fun _ e => (Option.some.inj e).symm
theorem Nms.len (h : Nms w S b t) (ty : TypeId) : (Builtin.len_ #[73] ty #[.map (some b)]).run Tryz.prog w = .ok (.int .i64 (t.length : Int)) w := by
 obtain ⟨hS, D, ho, ha⟩ := h;rw [ho.len (e := 54) (k := 9) Tryz.underlying73 ty, ha.size]
theorem Agr.keys {D : DataW Value} (h : Agr w S D t) {n : Nat} (ho : w'.ownsMap Tryz.prog 9 rv b n D) {ss : List (List UInt8)} (hs : ss.Perm (strKeys D)) : ss.mergeSort (fun x y => decide (x ≤ y)) = t.map (·.1) := by
 obtain ⟨es, hD, hpw, _⟩ := ho.entries mlaw;obtain ⟨es', hD', hko⟩ := ho.keysOf;obtain rfl : es = es' := by rw [hD] at hD'; simpa using hD'
 have hnd : (t.map (·.1)).Nodup := (h.srt.keys).imp fun h => klt_ne h
 have hp : (t.map (·.1)).Perm (strKeys D) := by
  have hh := h.has;subst hD;exact perm_strKeys hpw (fun p hp => by obtain ⟨v, hv⟩ := hko p hp; obtain ⟨x, _, hx, _⟩ := Maps.keyOf_str Tryz.underlying9 hv; exact ⟨x, hx⟩) hnd (fun x => by rw [hh x]; exact getT_isSome.symm)
 rw [show ss.mergeSort (fun x y => decide (x ≤ y)) = (t.map (·.1)).mergeSort leB from mergeSort_of_perm (hs.trans hp.symm)];exact List.mergeSort_of_pairwise ((h.srt.keys).imp fun {a b} h => by simpa using List.le_of_lt h)
/-! ### a string's copy -/
theorem slclone_any (s : ByteArray) (w : World) (hlim : s.size ≤ 1000000) :
    Calls Tryz.prog 97 #[.string s] w fun e w' => e = .returned (.string s) ∧ Below w.heap.size w w' := by
 by_cases h0 : s.size = 0
 ·have hs : s = ⟨#[]⟩ := by
    apply ByteArray.ext;exact Array.eq_empty_of_size_eq_zero h0
  subst hs
  go_enter Tryz.func97, Tryz.ntmps97
  go_wp2
  go_ret
  exact ⟨rfl, Below.refl _ _⟩
 ·obtain ⟨i0, hi, hz0, hz1, hz2⟩ := info_parts u8_info;have hinfo : (Tryz.prog.info? 5).map (·.size) = some 1 := by rw [hi]; simp [hz1]
  have hco : Tryz.prog.cellsOf 5 = 1 := by simp [Program.cellsOf, hi, hz1]
  obtain ⟨M, hM⟩ : ∃ M, M = madeCells (Value.int .u8 0).cells (((s.size : Nat) : Int).toNat * i0.size) := ⟨_, rfl⟩
  have hMs : M.size = s.size := by rw [hM, size_madeCells, hz1]; simp
  have hmk : ∀ W : World, (Instr.makeSlice 54 (.int .i64 (s.size : Int)) (.int .i64 (s.size : Int))).run Tryz.prog W = .ok (.slice (some ⟨W.heap.size, 0, none⟩) s.size s.size) (W.alloc (.cells M 5)) := fun W => by
   have h := run_make (P := Tryz.prog) W 54 5 i0 (.int .u8 0) Tryz.underlying54 hi hz0 .i64 .i64 (s.size : Int) (s.size : Int) (by omega) (by omega) (by rw [hz2]; omega) (by omega);rw [← hM] at h
   simpa using h
  clear hM;have hcp := Lib.run_copy_row_string (P := Tryz.prog) (w.alloc (.cells M 5)) 54 9 3 5 w.heap.size 0 s.size s.size s M 5 Tryz.underlying54 hinfo (heap_alloc_new w _) (Nat.le_refl _) (by omega);obtain ⟨Y, hY⟩ := sqz ((M.toList.take 0 ++ Lib.byteCells s.data.toList ++ M.toList.drop (0 + s.size)).toArray);rw [← hY] at hcp
  have hYl : Y.toList = Lib.byteCells s.data.toList := by
   rw [hY, List.toList_toArray, List.take_zero, List.nil_append, List.drop_of_length_le (by rw [Array.length_toList]; omega), List.append_nil]
  have hYs : Y.size = s.size := by rw [← Array.length_toList, hYl, Lib.byteCells_length, ← Lib.size_eq]
  have hgY : ((w.alloc (.cells M 5)).setRow w.heap.size Y).heap[w.heap.size]? = some (.cells Y 5 (0, 0)) := setRow_heap _ _ M _ 5 (0, 0) (heap_alloc_new w _);have hne : s.data.toList ≠ [] := fun e => h0 (by rw [Lib.size_eq, e]; rfl)
  have hUS := Lib.run_unsafeString_row (P := Tryz.prog) ((w.alloc (.cells M 5)).setRow w.heap.size Y) 180 3 9 5 Tryz.underlying180 hco w.heap.size Y.size (by unfold World.shape?; rw [hgY]) s.data.toList hne (by rw [← Lib.size_eq]; omega) (by rw [← Lib.size_eq]; omega)
   (fun j x hx => Lib.cells_of_row hgY Y.size j _ (by rw [List.take_of_length_le (by rw [Array.length_toList]; exact Nat.le_refl _), hYl]; simp [Lib.byteCells, hx]))
  rw [← Lib.size_eq] at hUS;clear hY
  go_enter Tryz.func97, Tryz.ntmps97
  go_wp2
  go_ret
  have hb1 : Below w.heap.size w (w.alloc (.cells M 5)) := (Below.refl _ w).alloc (Nat.le_refl _) _;have hb2 : Below w.heap.size (w.alloc (.cells M 5)) ((w.alloc (.cells M 5)).setRow w.heap.size Y) := ⟨rfl, rfl, rfl, by simp, fun k hk => setRow_other _ _ _ _ (by omega)⟩;exact ⟨rfl, Lib.below_freeze (hb1.trans hb2) (p := ⟨w.heap.size, 0, none⟩) (Nat.le_refl _) _⟩
theorem sclone_any (s : ByteArray) (w : World) (hlim : s.size ≤ 1000000) :
    Calls Tryz.prog 69 #[.string s] w fun e w' => e = .returned (.string s) ∧ Below w.heap.size w w' := by
 have hc := slclone_any s w hlim
 go_enter Tryz.func69, Tryz.ntmps69
 go_wp2_with (go_at_call 97; refine hc.mono ?_; clear hc; rintro _ w1 ⟨rfl, hb⟩)
 go_ret
 exact ⟨rfl, hb⟩
theorem xS {T : Nat → Prop} {w w' : World} (ht : Turned T w w') {k : Nat} (hk : k < w.heap.size) (hT : ¬ T k) (o : Nat) : w'.cell? ⟨k, o, none⟩ = w.cell? ⟨k, o, none⟩ :=
 World.cell?_of_block (w := w) (a := ⟨k, o, none⟩) (ht.block k hk hT)
def chV (A : Option Addr) (n c : Nat) (x : Ch) : Array Value := #[.string (st x.k), .slice A n c, .bool x.g]
theorem ys : (Tryz.prog.info? 64).map (·.size) = some 3 := by kernel_rfl
theorem zero_chg : ∀ W, (zeroValue 64).run Tryz.prog W = .ok (.agg #[.string ⟨#[]⟩, .slice none 0 0, .bool false]) W := fun W => by kernel_rfl
theorem chV_one (A : Option Addr) (n c : Nat) (x : Ch) : (chV A n c x).all (·.oneCell') = true := by simp [chV, Value.oneCell']
structure Chs (w : World) (S : Nat → Prop) (A : Option Addr) (n c : Nat) (l : List Ch) : Prop where
 len : l.length = n
 cap : n ≤ c
 max : c ≤ maxLen
 row : 0 < n → ∃ b off, A = some ⟨b, off, none⟩ ∧ S b ∧ b < w.heap.size ∧ ∀ i x, l[i]? = some x → ∃ Ai ni ci, (∀ (j : Nat) (v : Value), (chV Ai ni ci x)[j]? = some v → w.cell? ⟨b, off + i * 3 + j, none⟩ = some v) ∧ Byt w S Ai ni ci x.v
variable {w w' : World} {S T : Nat → Prop} {A : Option Addr} {n c : Nat} {l : List Ch}
theorem Chs.turned (h : Chs w S A n c l) (ht : Turned T w w') (hd : ∀ k, k < w.heap.size → S k → ¬ T k) : Chs w' S A n c l :=
 ⟨h.len, h.cap, h.max, fun h0 => by
   obtain ⟨b, off, h1, h2, h3, h4⟩ := h.row h0;refine ⟨b, off, h1, h2, Nat.lt_of_lt_of_le h3 ht.size, fun i x hx => ?_⟩;obtain ⟨Ai, ni, ci, h5, h6⟩ := h4 i x hx;exact ⟨Ai, ni, ci, fun j v hv => (xS ht h3 (hd b h3 h2) _).trans (h5 j v hv), h6.turned ht hd⟩⟩
theorem Chs.below (h : Chs w S A n c l) (hb : Below w.heap.size w w') : Chs w' S A n c l :=
 h.turned (T := fun _ => False) ⟨hb.os, hb.tape, hb.output, hb.size, fun k hk _ => hb.block k hk⟩ fun _ _ _ h => h
theorem Chs.mono (h : Chs w S A n c l) (hT : ∀ k, k < w.heap.size → S k → T k) : Chs w T A n c l :=
 ⟨h.len, h.cap, h.max, fun h0 => by
   obtain ⟨b, off, h1, h2, h3, h4⟩ := h.row h0;refine ⟨b, off, h1, hT b h3 h2, h3, fun i x hx => ?_⟩;obtain ⟨Ai, ni, ci, h5, h6⟩ := h4 i x hx;exact ⟨Ai, ni, ci, h5, h6.mono hT⟩⟩
theorem Chs.nil (w : World) (S : Nat → Prop) (A : Option Addr) (c : Nat) (hc : c ≤ maxLen) : Chs w S A 0 c [] := ⟨rfl, Nat.zero_le _, hc, fun h => absurd h (by omega)⟩
theorem Chs.at_ (h : Chs w S A n c l) {i : Nat} (hi : i < n) : ∃ b off x Ai ni ci, A = some ⟨b, off, none⟩ ∧ S b ∧ b < w.heap.size ∧ l[i]? = some x ∧ (∀ (j : Nat) (v : Value), (chV Ai ni ci x)[j]? = some v → w.cell? ((⟨b, off + i * 3, none⟩ : Addr).add j) = some v) ∧ Byt w S Ai ni ci x.v := by
 obtain ⟨b, off, h1, h2, h3, h4⟩ := h.row (by omega);have hx : l[i]? = some (l[i]'(by have := h.len; omega)) := List.getElem?_eq_getElem _;obtain ⟨Ai, ni, ci, h5, h6⟩ := h4 i _ hx;exact ⟨b, off, _, Ai, ni, ci, h1, h2, h3, hx, fun j v hv => by rw [zK]; exact h5 j v hv, h6⟩
/-! ### whether one may be -/
theorem maybe_any (x : Ch) (A : Option Addr) (c : Nat) (w : World) :
    Calls Tryz.prog 63 #[.agg (chV A x.v.length c x)] w fun e w' => e = .returned (.bool (zq x)) ∧ Below w.heap.size w w' := by
 have hks := zN x.k;obtain ⟨k, v, g⟩ := x;have hal : ∀ o, Below w.heap.size w (w.alloc o) := fun o => (Below.refl _ _).alloc (Nat.le_refl _) o
 have HAL := Lib.hid hal;unfold chV zq;simp only at hks ⊢
 generalize k.length = K at *
 generalize v.length = V at *
 clear hal
 cases g
 ·by_cases h1 : 1 ≤ K
  ·by_cases h2 : K ≤ 64
   ·by_cases h3 : V ≤ 4096
    ·(have e1 : (1 : Int) ≤ (K : Int) := by omega);(have e2 : (K : Int) ≤ 64 := by omega);have e3 : (V : Int) ≤ 4096 := by omega
     go_enter Tryz.func63, Tryz.ntmps63
     go_wp2_with fail
     go_ret
     exact ⟨by simp [*] <;> omega, HAL.out _⟩
    ·(have e1 : (1 : Int) ≤ (K : Int) := by omega);(have e2 : (K : Int) ≤ 64 := by omega);have e3 : ¬ (V : Int) ≤ 4096 := by omega
     go_enter Tryz.func63, Tryz.ntmps63
     go_wp2_with fail
     go_ret
     exact ⟨by simp [*] <;> omega, HAL.out _⟩
   ·(have e1 : (1 : Int) ≤ (K : Int) := by omega);have e2 : ¬ (K : Int) ≤ 64 := by omega
    go_enter Tryz.func63, Tryz.ntmps63
    go_wp2_with fail
    go_ret
    exact ⟨by simp [*] <;> omega, HAL.out _⟩
  ·have e1 : ¬ (1 : Int) ≤ (K : Int) := by omega
   go_enter Tryz.func63, Tryz.ntmps63
   go_wp2_with fail
   go_ret
   exact ⟨by simp [*] <;> omega, HAL.out _⟩
 ·by_cases h1 : 1 ≤ K
  ·by_cases h2 : K ≤ 64
   ·by_cases h3 : V ≤ 0
    ·(have e1 : (1 : Int) ≤ (K : Int) := by omega);(have e2 : (K : Int) ≤ 64 := by omega);have e3 : (V : Int) ≤ 0 := by omega
     go_enter Tryz.func63, Tryz.ntmps63
     go_wp2_with fail
     go_ret
     exact ⟨by simp [*] <;> omega, HAL.out _⟩
    ·(have e1 : (1 : Int) ≤ (K : Int) := by omega);(have e2 : (K : Int) ≤ 64 := by omega);have e3 : ¬ (V : Int) ≤ 0 := by omega
     go_enter Tryz.func63, Tryz.ntmps63
     go_wp2_with fail
     go_ret
     exact ⟨by simp [*] <;> omega, HAL.out _⟩
   ·(have e1 : (1 : Int) ≤ (K : Int) := by omega);have e2 : ¬ (K : Int) ≤ 64 := by omega
    go_enter Tryz.func63, Tryz.ntmps63
    go_wp2_with fail
    go_ret
    exact ⟨by simp [*] <;> omega, HAL.out _⟩
  ·have e1 : ¬ (1 : Int) ≤ (K : Int) := by omega
   go_enter Tryz.func63, Tryz.ntmps63
   go_wp2_with fail
   go_ret
   exact ⟨by simp [*] <;> omega, HAL.out _⟩
abbrev Ro := Option Addr × Nat × Nat
def chCells (L : List (Ro × Ch)) : List Value := (L.map fun y => (chV y.1.1 y.1.2.1 y.1.2.2 y.2).toList).flatten
theorem chCells_at : ∀ (L : List (Ro × Ch)) (i : Nat) (y : Ro × Ch), L[i]? = some y → ∀ (j : Nat) (v : Value), (chV y.1.1 y.1.2.1 y.1.2.2 y.2)[j]? = some v → (chCells L)[i * 3 + j]? = some v
 | [], i, y, h, _, _, _ => by simp at h
 | z :: L, 0, y, h, j, v, hv => by
   simp at h;subst h
   have hj : j < 3 := by
    have := (Array.getElem?_eq_some_iff.1 hv).1
    simpa [chV] using this
   unfold chCells;rw [List.map_cons, List.flatten_cons, Nat.zero_mul, Nat.zero_add, List.getElem?_append_left (by simp [chV]; exact hj)]
   simpa using hv
 | z :: L, i + 1, y, h, j, v, hv => by
   (have h' : L[i]? = some y := by simpa using h);have ih := chCells_at L i y h' j v hv;unfold chCells at ih ⊢;rw [List.map_cons, List.flatten_cons, List.getElem?_append_right (by simp [chV]; omega), ← ih]
   congr 1
   simp [chV];omega
def Gch (w : World) (S : Nat → Prop) (v : Value) (l : List Ch) : Prop :=
 ∃ L : List (Ro × Ch), L.map (·.2) = l ∧ w.ownsRow 0 64 3 v l.length (chCells L) ∧ (∀ g, v.ownBlock = some g → S g) ∧ ∀ y ∈ L, Byt w (fun k => S k ∧ v.ownBlock ≠ some k) y.1.1 y.1.2.1 y.1.2.2 y.2.v
theorem Gch.nil (w : World) (S : Nat → Prop) : Gch w S (.slice none 0 0) [] := ⟨[], rfl, World.ownsRow_nil _ _ _ _, (fun _ h => by cases h), (fun _ h => absurd h (by simp))⟩
variable {w w' : World} {S T U : Nat → Prop} {v : Value} {l : List Ch}
theorem Gch.turned (h : Gch w S v l) (ht : Turned T w w') (hd : ∀ k, k < w.heap.size → S k → ¬ T k) : Gch w' S v l := by
 obtain ⟨L, h1, h2, h4, h3⟩ := h;refine ⟨L, h1, ?_, h4, fun y hy => (h3 y hy).turned ht fun k hk hs => hd k hk hs.1⟩;obtain ⟨e1, e2⟩ := h2;refine ⟨e1, ?_⟩;rcases e2 with e2 | ⟨g, cap, cur, rfl, e3, e4, e5⟩
 ·exact .inl e2
 ·exact .inr ⟨g, cap, cur, rfl, e3, (ht.block g (zB e4) (hd g (zB e4) (h4 g rfl))).trans e4, e5⟩
theorem Gch.below (h : Gch w S v l) (hb : Below w.heap.size w w') : Gch w' S v l :=
 h.turned (T := fun _ => False) (Turned.of_below hb) fun _ _ _ h => h
theorem Gch.mono (h : Gch w S v l) (hT : ∀ k, k < w.heap.size → S k → T k) : Gch w T v l := by
 obtain ⟨L, h1, h2, h4, h3⟩ := h;exact ⟨L, h1, h2, fun g hg => hT g (h2.lt g hg).2 (h4 g hg), fun y hy => (h3 y hy).mono fun k hk hs => ⟨hT k hk hs.1, hs.2⟩⟩
theorem Gch.slice (h : Gch w S v l) : ∃ A c, v = .slice A l.length c ∧ Chs w S A l.length c l := by
 obtain ⟨L, h1, h2, h9, h3⟩ := h;obtain ⟨e1, e2⟩ := h2;have hlen : L.length = l.length := by rw [← h1, List.length_map]
 rcases e2 with ⟨rfl, e2⟩ | ⟨g, cap, cur, rfl, e3, e4, e5, e6, e7, e8⟩
 ·have hl : l = [] := List.eq_nil_of_length_eq_zero e2;subst hl;exact ⟨none, 0, rfl, Chs.nil _ _ _ _ (Nat.zero_le _)⟩
 ·refine ⟨_, _, rfl, rfl, e5, e6, fun h0 => ⟨g, 0, rfl, h9 g rfl, zB e4, fun i x hx => ?_⟩⟩;have hi : i < L.length := by rw [hlen]; exact (List.getElem?_eq_some_iff.1 hx).1
  obtain ⟨y, hy⟩ : ∃ y, L[i]? = some y := ⟨_, List.getElem?_eq_getElem hi⟩
  have hyx : y.2 = x := by
   rw [← h1, List.getElem?_map, hy] at hx
   simpa using hx
  refine ⟨y.1.1, y.1.2.1, y.1.2.2, fun j u hu => ?_, by rw [← hyx]; exact (h3 y (List.mem_of_getElem? hy)).mono fun k _ hk => hk.1⟩;rw [← hyx] at hu;have hc := chCells_at L i y hy j u hu;rw [← e8] at hc;rw [Nat.zero_add, zA e4];have hlt := (List.getElem?_eq_some_iff.1 hc).1;rw [List.length_take] at hlt;rw [List.getElem?_take_of_lt (by omega)] at hc
  simpa using hc
theorem chg_info3 : (Tryz.prog.info? 64).map (fun i => (i.zero, i.size, i.bytes)) = some (some (.agg #[.string ⟨#[]⟩, .slice none 0 0, .bool false]), 3, 48) := by kernel_rfl
theorem Gch.push (h : Gch w S v l) {q k : Nat} {A : Option Addr} {n c : Nat} {x : Ch} (hq : ∀ (j : Nat) (u : Value), (chV A n c x)[j]? = some u → w.cell? ⟨q, j, none⟩ = some u) (hy : Byt w U A n c x.v) (hU : ∀ k, k < w.heap.size → U k → ¬ S k) (hl : l.length ≤ 10000000) (ty : TypeId) :
    ∃ A' c' W', (Builtin.append_ #[44, 44] ty #[v, .slice (some ⟨q, 0, none⟩) 1 k]).run Tryz.prog w = .ok (.slice A' (l.length + 1) c') W' ∧ Gch W' (fun b => S b ∨ U b ∨ (w.heap.size ≤ b ∧ b < W'.heap.size)) (.slice A' (l.length + 1) c') (l ++ [x]) ∧ Turned S w W' := by
 obtain ⟨i0, hi, hz0, hz1, hz2⟩ := info_parts chg_info3;obtain ⟨L, h1, h2, h4, h3⟩ := h
 obtain ⟨v', W', hr, g1, g2, _, g4⟩ := run_append_own_at (P := Tryz.prog) w 0 44 ty 64 i0 (.agg #[.string ⟨#[]⟩, .slice none 0 0, .bool false]) 3 48 Tryz.underlying44 hi hz0 hz1 hz2 rfl (by decide) v l.length (chCells L) h2 ⟨q, 0, none⟩ 1 k (chV A n c x).toList rfl
  (fun j u hj => by rw [zK, Nat.zero_add]; exact hq j u (by simpa using hj)) (by simp [chV, Value.oneCell']) (by unfold maxLen; omega) (by omega) (Nat.zero_le _)
 have ht : Turned S w W' := Turned.of_gr g2 fun g hg => h4 g hg
 have keep : ∀ {A : Option Addr} {n c : Nat} {y : List UInt8} {V : Nat → Prop}, Byt w V A n c y → (∀ b, b < w.heap.size → V b → (S b ∨ U b) ∧ v.ownBlock ≠ some b) → Byt W' (fun b => (S b ∨ U b ∨ (w.heap.size ≤ b ∧ b < W'.heap.size)) ∧ v'.ownBlock ≠ some b) A n c y := fun {A n c y V} hx hV => by
  have hx1 : Byt w (fun b => V b ∧ b < w.heap.size) A n c y := hx.mono fun b hb h => ⟨h, hb⟩
  refine (hx1.grown g2 (fun g hg => .inl fun hh => (hV g hh.2 hh.1).2 hg)).mono fun b _ hb => ?_
  have hv := hV b hb.2 hb.1;refine ⟨hv.1.elim .inl (fun h => .inr (.inl h)), ?_⟩;rcases g4 with hl | hl
  ·rw [hl]; exact hv.2
  ·rw [hl];intro e;(injection e with e);have := hb.2;omega
 have hown' : ∀ g, v'.ownBlock = some g → S g ∨ U g ∨ (w.heap.size ≤ g ∧ g < W'.heap.size) := fun g hg => by
  rcases g4 with hl | hl
  ·rw [hl] at hg;exact .inl (h4 g hg)
  ·have hlt := (g1.lt g hg).2;rw [hl] at hg;(injection hg with hg);subst hg;exact .inr (.inr ⟨Nat.le_refl _, hlt⟩)
 obtain ⟨A', c', rfl⟩ : ∃ A' c', v' = .slice A' (l.length + 1) c' := by
  obtain ⟨_, e2⟩ := g1;rcases e2 with ⟨_, e2⟩ | ⟨g', cap, cur, rfl, _⟩
  ·omega
  ·exact ⟨_, _, rfl⟩
 refine ⟨A', c', W', hr, ⟨L ++ [((A, n, c), x)], by simp [h1], ?_, hown', fun y hy' => ?_⟩, ht⟩
 ·rw [List.length_append, List.length_singleton];have e : chCells (L ++ [((A, n, c), x)]) = chCells L ++ (chV A n c x).toList := by simp [chCells]
  rw [e];exact g1
 ·rcases List.mem_append.1 hy' with h | h
  ·exact keep (h3 y h) fun b _ hb => ⟨.inl hb.1, hb.2⟩
  ·simp only [List.mem_singleton] at h;subst h;exact keep hy fun b hb hu => ⟨.inr hu, fun e => hU b hb hu (h4 b e)⟩
/-! ### what reading takes -/
theorem ui_len {l : List UInt8} {e : Int} (h : uiE l e = 0) : e = 0 ∧ (uiL l e).length + 1 ≤ l.length := by
 unfold uiE at h
 by_cases he : e = 0
 ·rw [if_pos he] at h;refine ⟨he, ?_⟩;unfold uiL;rw [if_pos he, List.length_drop];have h1 := (put_rd 0 l (by omega) (by omega)).2.2.1;have h2 := rd_le 0 l;omega
 ·rw [if_neg he] at h;exact absurd h he
theorem fxL_len (l : List UInt8) (e k : Int) : (fxL l e k).length ≤ l.length := by
 unfold fxL
 split <;> simp
theorem byL_len (l : List UInt8) (e m : Int) : (byL l e m).length ≤ l.length := by
 have h1 := yK l e;have h2 := fxL_len (uiL l e) 0 (uiX l e);unfold byL
 split
 ·exact h1
 ·split <;> omega
theorem by_bad {l : List UInt8} {e m : Int} (h : byE l e m ≠ 0) : byB l e m = [] := by
 unfold byE at h;unfold byB
 split
 ·rfl
 ·split
  ·rfl
  ·rename_i h1 h2
   rw [if_neg h1, if_neg h2] at h;unfold fxB;rw [if_neg h]
theorem by_take (l : List UInt8) (e m : Int) : (byB l e m ≠ [] ∨ byE l e m = 0) → e = 0 ∧ (byL l e m).length + (byB l e m).length + 1 ≤ l.length := by
 intro h;have h0 : byE l e m = 0 := h.elim (fun h => Classical.byContradiction fun h2 => h (by_bad h2)) id
 have hu : uiE l e = 0 := Classical.byContradiction fun h2 => by
  unfold byE at h0;rw [if_pos h2] at h0;exact h2 h0
 obtain ⟨he, hl⟩ := ui_len hu;refine ⟨he, ?_⟩;unfold byE at h0;unfold byL byB;rw [if_neg (show ¬ uiE l e ≠ 0 from fun h => h hu)] at h0;rw [if_neg (show ¬ uiE l e ≠ 0 from fun h => h hu), if_neg (show ¬ uiE l e ≠ 0 from fun h => h hu)]
 split at h0
 ·exact absurd h0 (by decide)
 ·rename_i h3
  rw [if_neg h3, if_neg h3];obtain ⟨_, _, h4⟩ := tkE_zero h0;unfold fxL fxB;rw [if_pos h0, if_pos h0, List.length_drop, List.length_take];omega
theorem by_few (l : List UInt8) (e : Int) (m : Nat) : (byB l e (m : Int)).length ≤ m := by
 unfold byB
 split
 ·simp
 ·split
  ·simp
  ·unfold fxB
   split
   ·rw [List.length_take];omega
   ·simp
theorem rc1_take {l : List UInt8} {e : Int} (h : zq (rc1 l e).1 = true) : (rc1 l e).2.1.length + (rc1 l e).1.k.length + (rc1 l e).1.v.length + 1 ≤ l.length := by
 have hk := rc1_k l e
 have hk1 : byB l e 64 ≠ [] := by
  intro h2;unfold zq at h;rw [hk, h2] at h;simp at h
 have h1 := (by_take l e 64 (.inl hk1)).2;have h2 := fxL_len (byL l e 64) (byE l e 64) 1;rw [hk];unfold rc1
 split
 ·simp only [List.length_nil];omega
 ·simp only
  by_cases h3 : byE (fxL (byL l e 64) (byE l e 64) 1) (boE (byL l e 64) (byE l e 64)) 4096 = 0
  ·have h4 := (by_take _ _ 4096 (.inr h3)).2;omega
  ·rw [by_bad h3];have h4 := byL_len (fxL (byL l e 64) (byE l e 64) 1) (boE (byL l e 64) (byE l e 64)) 4096;simp only [List.length_nil];omega
def cmV (x : Ch) : Array Value := #[.string (st x.k), .string (st x.v), .bool x.g]
def yB (L : List Ch) : List Value := (L.map fun y => (cmV y).toList).flatten
theorem cmCells_len (L : List Ch) : (yB L).length = L.length * 3 := by
 induction L with
 | nil => rfl
 | cons y L ih =>
   unfold yB at ih ⊢;rw [List.map_cons, List.flatten_cons, List.length_append, ih, List.length_cons];simp [cmV];omega
theorem cmCells_app (L M : List Ch) : yB (L ++ M) = yB L ++ yB M := by simp [yB]
theorem cmCells_at : ∀ (L : List Ch) (i : Nat) (y : Ch), L[i]? = some y → ∀ (j : Nat) (v : Value), (cmV y)[j]? = some v → (yB L)[i * 3 + j]? = some v
 | [], i, y, h, _, _, _ => by simp at h
 | z :: L, 0, y, h, j, v, hv => by
   simp at h;subst h
   have hj : j < 3 := by
    have := (Array.getElem?_eq_some_iff.1 hv).1
    simpa [cmV] using this
   unfold yB;rw [List.map_cons, List.flatten_cons, Nat.zero_mul, Nat.zero_add, List.getElem?_append_left (by simp [cmV]; exact hj)]
   simpa using hv
 | z :: L, i + 1, y, h, j, v, hv => by
   (have h' : L[i]? = some y := by simpa using h);have ih := cmCells_at L i y h' j v hv;unfold yB at ih ⊢;rw [List.map_cons, List.flatten_cons, List.getElem?_append_right (by simp [cmV]; omega), ← ih]
   congr 1
   simp [cmV];omega
theorem cmCells_one (L : List Ch) : ∀ u ∈ yB L, u.oneCell' = true := by
 intro u hu;unfold yB at hu;obtain ⟨l, hl, hu⟩ := List.mem_flatten.1 hu;obtain ⟨y, _, rfl⟩ := List.mem_map.1 hl;simp [cmV] at hu;rcases hu with rfl | rfl | rfl <;> rfl
structure Cms (w : World) (S : Nat → Prop) (A : Option Addr) (n c : Nat) (l : List Ch) : Prop where
 len : l.length = n
 cap : n ≤ c
 max : c ≤ maxLen
 row : 0 < n → ∃ b off, A = some ⟨b, off, none⟩ ∧ S b ∧ b < w.heap.size ∧ ∀ i x, l[i]? = some x → ∀ (j : Nat) (v : Value), (cmV x)[j]? = some v → w.cell? ⟨b, off + i * 3 + j, none⟩ = some v
variable {w w' : World} {S T : Nat → Prop} {A : Option Addr} {n c : Nat} {l : List Ch}
theorem Cms.turned (h : Cms w S A n c l) (ht : Turned T w w') (hd : ∀ k, k < w.heap.size → S k → ¬ T k) : Cms w' S A n c l :=
 ⟨h.len, h.cap, h.max, fun h0 => by
   obtain ⟨b, off, h1, h2, h3, h4⟩ := h.row h0;exact ⟨b, off, h1, h2, Nat.lt_of_lt_of_le h3 ht.size, fun i x hx j v hv => (xS ht h3 (hd b h3 h2) _).trans (h4 i x hx j v hv)⟩⟩
theorem Cms.below (h : Cms w S A n c l) (hb : Below w.heap.size w w') : Cms w' S A n c l :=
 h.turned (T := fun _ => False) (Turned.of_below hb) fun _ _ _ h => h
theorem Cms.mono (h : Cms w S A n c l) (hT : ∀ k, k < w.heap.size → S k → T k) : Cms w T A n c l :=
 ⟨h.len, h.cap, h.max, fun h0 => by
   obtain ⟨b, off, h1, h2, h3, h4⟩ := h.row h0;exact ⟨b, off, h1, hT b h3 h2, h3, h4⟩⟩
theorem Cms.nil (w : World) (S : Nat → Prop) (A : Option Addr) (c : Nat) (hc : c ≤ maxLen) : Cms w S A 0 c [] := ⟨rfl, Nat.zero_le _, hc, fun h => absurd h (by omega)⟩
theorem Cms.at_ (h : Cms w S A n c l) {i : Nat} (hi : i < n) : ∃ b off x, A = some ⟨b, off, none⟩ ∧ S b ∧ b < w.heap.size ∧ l[i]? = some x ∧ w.cell? ⟨b, off + i * 3, none⟩ = some (.string (st x.k)) ∧ w.cell? ⟨b, off + i * 3 + 1, none⟩ = some (.string (st x.v)) ∧ w.cell? ⟨b, off + i * 3 + 2, none⟩ = some (.bool x.g) := by
 obtain ⟨b, off, h1, h2, h3, h4⟩ := h.row (by omega);have hx : l[i]? = some (l[i]'(by have := h.len; omega)) := List.getElem?_eq_getElem _;exact ⟨b, off, _, h1, h2, h3, hx, h4 i _ hx 0 _ rfl, h4 i _ hx 1 _ rfl, h4 i _ hx 2 _ rfl⟩
theorem xC {B : Nat} {v : Value} (h : w.ownsRow B 95 3 v l.length (yB l)) : ∃ A c, v = .slice A l.length c ∧ Cms w (B ≤ ·) A l.length c l := by
 obtain ⟨e1, e2⟩ := h;rcases e2 with ⟨rfl, e2⟩ | ⟨g, cap, cur, rfl, e3, e4, e5, e6, e7, e8⟩
 ·have hl : l = [] := List.eq_nil_of_length_eq_zero e2;subst hl;exact ⟨none, 0, rfl, Cms.nil _ _ _ _ (Nat.zero_le _)⟩
 ·refine ⟨_, _, rfl, rfl, e5, e6, fun h0 => ⟨g, 0, rfl, e3, zB e4, fun i x hx j u hu => ?_⟩⟩;have hc := cmCells_at l i x hx j u hu;rw [← e8] at hc;rw [Nat.zero_add, zA e4];have hlt := (List.getElem?_eq_some_iff.1 hc).1;rw [List.length_take] at hlt;rw [List.getElem?_take_of_lt (by omega)] at hc
  simpa using hc
theorem cm_info3 : (Tryz.prog.info? 95).map (fun i => (i.zero, i.size, i.bytes)) = some (some (.agg #[.string ⟨#[]⟩, .string ⟨#[]⟩, .bool false]), 3, 40) := by kernel_rfl
theorem zero_cm : ∀ W, (zeroValue 95).run Tryz.prog W = .ok (.agg #[.string ⟨#[]⟩, .string ⟨#[]⟩, .bool false]) W := fun W => by kernel_rfl
theorem yz {B : Nat} {v : Value} (h : w.ownsRow B 95 3 v l.length (yB l)) (hB : B ≤ w.heap.size) {n2 c2 : Nat} {a : Addr} {m : List Ch} (hm : m.length = n2) (hrow : ∀ (j : Nat) (u : Value), (yB m)[j]? = some u → w.cell? (a.add j) = some u) (hl : l.length + n2 ≤ 1000000) (ty : TypeId) :
    ∃ A' c' W', (Builtin.append_ #[36, 36] ty #[v, .slice (some a) n2 c2]).run Tryz.prog w = .ok (.slice A' (l ++ m).length c') W' ∧ W'.ownsRow B 95 3 (.slice A' (l ++ m).length c') (l ++ m).length (yB (l ++ m)) ∧ Below B w W' := by
 obtain ⟨i0, hi, hz0, hz1, hz2⟩ := info_parts cm_info3
 obtain ⟨v', W', hr, g1, g2, _, g4⟩ := run_append_own_at (P := Tryz.prog) w B 36 ty 95 i0 (.agg #[.string ⟨#[]⟩, .string ⟨#[]⟩, .bool false]) 3 40 Tryz.underlying36 hi hz0 hz1 hz2 rfl (by decide) v l.length (yB l) h a n2 c2 (yB m) (by rw [cmCells_len, hm])
  hrow (cmCells_one m) (by unfold maxLen; omega) (by omega) hB
 have hb : Below B w W' := (Below.refl B w).grown g2 hB fun g hg => (h.lt g hg).1
 rw [← cmCells_app] at g1;have hlen : l.length + n2 = (l ++ m).length := by rw [List.length_append, hm]
 rw [hlen] at g1;obtain ⟨A', c', rfl, _⟩ := xC g1;exact ⟨A', c', W', hr, g1, hb⟩
def tb2 (t : Tb) : List Ch := t.map fun p => ⟨p.1, p.2, false⟩
theorem do_split {T : Tb} (hs : Srt T) {q : Nat} {key : List UInt8} (h1 : ∀ p ∈ T.take q, p.1 < key) (h2 : ∀ p, T[q]? = some p → ¬ p.1 < key) :
    (T.filter fun p => decide (p.1 < key)) = T.take q ∧ (T.filter fun p => decide (key < p.1)) = T.drop (if T[q]?.map (·.1) = some key then q + 1 else q) := by
 have hT : T = T.take q ++ T.drop q := (List.take_append_drop q T).symm;have hf1 : (T.take q).filter (fun p => decide (p.1 < key)) = T.take q := List.filter_eq_self.2 fun p hp => by simpa using h1 p hp
 have hf2 : (T.take q).filter (fun p => decide (key < p.1)) = [] := List.filter_eq_nil_iff.2 fun p hp => by simpa using klt_as (h1 p hp)
 cases hd : T.drop q with
 | nil =>
   have hq : T[q]? = none := by
    rw [← Nat.add_zero q, ← List.getElem?_drop, hd];rfl
   rw [hq, if_neg (by simp), hd]
   conv => lhs; lhs; rw [hT]
   conv => rhs; lhs; rw [hT]
   rw [List.filter_append, List.filter_append, hd, hf1, hf2];simp
 | cons p r =>
   have hq : T[q]? = some p := by
    rw [← Nat.add_zero q, ← List.getElem?_drop, hd];rfl
   (have hsd : Srt (p :: r) := by rw [← hd]; exact List.Pairwise.sublist (List.drop_sublist q T) hs);obtain ⟨hs1, _⟩ := List.pairwise_cons.1 hsd;have hp := h2 p hq;(have hge : ∀ x ∈ r, key < x.1 := fun x hx => Std.lt_of_le_of_lt (kle_of_not hp) (hs1 x hx));(have hr1 : r.filter (fun p => decide (p.1 < key)) = [] := List.filter_eq_nil_iff.2 fun x hx => by simpa using klt_as (hge x hx));(have hr2 : r.filter (fun p => decide (key < p.1)) = r := List.filter_eq_self.2 fun x hx => by simpa using hge x hx);(have hd1 : T.drop (q + 1) = r := by rw [← List.drop_drop, hd]; rfl);rw [hq];refine ⟨?_, ?_⟩
   ·conv => lhs; rw [hT]
    rw [List.filter_append, hd, hf1, List.filter_cons_of_neg (by simpa using hp), hr1, List.append_nil]
   ·conv => lhs; rw [hT]
    rw [List.filter_append, hd, hf2, List.nil_append]
    by_cases he : p.1 = key
    ·rw [if_pos (by simp [he]), hd1, List.filter_cons_of_neg (by rw [he]; simp [klt_irr key]), hr2]
    ·rw [if_neg (by simpa using he), hd, List.filter_cons_of_pos (by simpa using Std.lt_of_le_of_ne (kle_of_not hp) fun e => he e.symm), hr2]
theorem do_at {T : Tb} (hs : Srt T) {q : Nat} {X : Ch} (h1 : ∀ p ∈ T.take q, p.1 < X.k) (h2 : ∀ p, T[q]? = some p → ¬ p.1 < X.k) :
    tb2 (doC T X) = tb2 (T.take q) ++ (if X.g then [] else [⟨X.k, X.v, false⟩]) ++ tb2 (T.drop (if T[q]?.map (·.1) = some X.k then q + 1 else q)) := by
 obtain ⟨e1, e2⟩ := do_split hs h1 h2;unfold doC tb2;rw [e1, e2];simp only [List.map_append]
 congr 2
 split <;> rfl
theorem cm_size : ∀ w, (Go.sizeOf 95).run Tryz.prog w = .ok 3 w := fun w => by kernel_rfl
theorem run_to3 (A : Option Addr) (n c k : Nat) (hk : k ≤ c) (W : World) :
    (Instr.slice 36 (.slice A n c) none (some (.int .i64 (k : Int))) none).run Tryz.prog W = .ok (.slice A k c) W := by
 have ht := Tryz.underlying36;have ht' : Tryz.prog.underlying 36 = some (.slice (Tryz.prog.elem 36)) := by simp [Program.elem, ht]
 have he : Tryz.prog.elem 36 = 95 := by simp [Program.elem, ht]
 rw [run_slice_h W 36 A n c ht' .i64 (k : Int) (by omega) (by omega), he, cm_size];have h0 : ∀ a : Addr, a.add 0 = a := fun a => by simp [Addr.add]
 cases A <;> simp [Result.andThen, sliced, h0]
def cut3 (A : Option Addr) (c k : Nat) : Option Addr := if c = k then A else A.map (·.add (k * 3))
theorem run_cut3 (A : Option Addr) (n c k : Nat) (hk : k ≤ n) (W : World) :
    (Instr.slice 36 (.slice A n c) (some (.int .i64 (k : Int))) none none).run Tryz.prog W = .ok (.slice (cut3 A c k) (n - k) (c - k)) W := by
 have ht := Tryz.underlying36;have ht' : Tryz.prog.underlying 36 = some (.slice (Tryz.prog.elem 36)) := by simp [Program.elem, ht]
 have he : Tryz.prog.elem 36 = 95 := by simp [Program.elem, ht]
 rw [run_slice_l W 36 A n c ht' .i64 (k : Int) (by omega) (by omega), he, cm_size];simp [Result.andThen, sliced, cut3]
variable {w : World} {S : Nat → Prop} {A : Option Addr} {n c k : Nat} {l : List Ch}
theorem Cms.to (h : Cms w S A n c l) (hk : k ≤ n) : Cms w S A k c (l.take k) :=
 ⟨by rw [List.length_take, h.len]; omega, by have := h.cap; omega, h.max, fun h0 => by
   obtain ⟨b, off, h1, h2, h3, h4⟩ := h.row (by omega)
   exact ⟨b, off, h1, h2, h3, fun i x hx => h4 i x (by
    have hi := (List.getElem?_eq_some_iff.1 hx).1;rw [List.length_take] at hi
    rwa [List.getElem?_take_of_lt (by omega)] at hx)⟩⟩
theorem Cms.cut (h : Cms w S A n c l) (hk : k ≤ n) : Cms w S (cut3 A c k) (n - k) (c - k) (l.drop k) :=
 ⟨by rw [List.length_drop, h.len], by have := h.cap; omega, by have := h.max; omega, fun h0 => by
   obtain ⟨b, off, h1, h2, h3, h4⟩ := h.row (by omega);refine ⟨b, off + k * 3, ?_, h2, h3, fun i x hx j v hv => ?_⟩
   ·unfold cut3;rw [if_neg (by have := h.cap; omega), h1];simp [Addr.add]
   ·rw [List.getElem?_drop] at hx;have := h4 (k + i) x hx j v hv
    rwa [show off + (k + i) * 3 + j = off + k * 3 + i * 3 + j by omega] at this⟩
theorem yr {B : Nat} {v : Value} {m : List Ch} {n2 c2 : Nat} {A2 : Option Addr} {U : Nat → Prop} (h : w.ownsRow B 95 3 v l.length (yB l)) (hB : B ≤ w.heap.size) (hm : Cms w U A2 n2 c2 m) (hl : l.length + n2 ≤ 1000000) (ty : TypeId) :
    ∃ A' c' W', (Builtin.append_ #[36, 36] ty #[v, .slice A2 n2 c2]).run Tryz.prog w = .ok (.slice A' (l ++ m).length c') W' ∧ W'.ownsRow B 95 3 (.slice A' (l ++ m).length c') (l ++ m).length (yB (l ++ m)) ∧ Below B w W' := by
 rcases A2 with _ | a
 ·obtain rfl : n2 = 0 := by
    rcases Nat.eq_zero_or_pos n2 with h0 | h0
    ·exact h0
    ·obtain ⟨b, off, e, _⟩ := hm.row h0
     cases e
  have hmn : m = [] := List.eq_nil_of_length_eq_zero hm.len;subst hmn;obtain ⟨A', c', rfl, hc⟩ := xC h;obtain ⟨i0, hi, hz0, hz1, hz2⟩ := info_parts cm_info3;refine ⟨A', c', w, ?_, by simpa using h, Below.refl _ _⟩;rw [List.append_nil];exact run_append_zero w 36 ty 95 i0 Tryz.underlying36 hi A' l.length c' c2 hc.cap
 ·refine yz h hB hm.len (fun j u hu => ?_) hl ty;have hj := (List.getElem?_eq_some_iff.1 hu).1;rw [cmCells_len, hm.len] at hj;obtain ⟨b, off, e, _, _, h4⟩ := hm.row (by omega);injection e with e
  subst e;rw [zK];have hi : j / 3 < m.length := by rw [hm.len]; omega
  obtain ⟨y, hy⟩ : ∃ y, m[j / 3]? = some y := ⟨_, List.getElem?_eq_getElem hi⟩
  obtain ⟨z, hz⟩ : ∃ z, (cmV y)[j % 3]? = some z := ⟨_, Array.getElem?_eq_getElem (by simp [cmV]; omega)⟩
  have h5 := cmCells_at m (j / 3) y hy (j % 3) z hz;have h6 := h4 (j / 3) y hy (j % 3) z hz;have e6 : j / 3 * 3 + j % 3 = j := by omega
  rw [e6] at h5;rw [Nat.add_assoc, e6] at h6;rw [h6, ← h5, hu]
theorem st_list (l : List UInt8) : (st l).toList = l := by simp [st]
theorem xA (l m : List UInt8) : st l ++ st m = st (l ++ m) := by
 unfold st;apply ByteArray.ext;simp
theorem st_extract (l : List UInt8) (a b : Nat) : (st l).extract a b = st ((l.drop a).take (b - a)) := by
 apply ByteArray.ext;unfold st;simp
def Wr (w : World) (S : Nat → Prop) (p : Nat) (l : List UInt8) : Prop :=
 S p ∧ ∃ A c, w.heap[p]? = some (.cells #[.slice A l.length c] 176 (0, 0)) ∧ w.ownsRow 0 5 1 (.slice A l.length c) l.length (u8s l) ∧ ∀ a, A = some a → S a.block
section
variable {w w' : World} {S : Nat → Prop} {p : Nat} {l : List UInt8}
theorem Wr.lt (h : Wr w S p l) : p < w.heap.size := by
 obtain ⟨_, A, c, hh, _⟩ := h;exact zB hh
theorem own_lt {base : Nat} {e : TypeId} {size : Nat} {A : Option Addr} {n c : Nat} {xs : List Value} (h : w.ownsRow base e size (.slice A n c) n xs) : ∀ a, A = some a → a.block < w.heap.size := by
 rintro a rfl;exact (h.lt a.block rfl).2
theorem Wr.mono {T : Nat → Prop} (h : Wr w S p l) (hS : ∀ b, b < w.heap.size → S b → T b) : Wr w T p l := by
 have hlt := h.lt;obtain ⟨hp, A, c, hh, ho, hs⟩ := h;exact ⟨hS _ hlt hp, A, c, hh, ho, fun a ha => hS _ (own_lt ho a ha) (hs a ha)⟩
theorem Wr.turned {T : Nat → Prop} (h : Wr w S p l) (ht : Turned T w w') (hd : ∀ b, b < w.heap.size → S b → ¬ T b) : Wr w' S p l := by
 have hlt := h.lt;obtain ⟨hp, A, c, hh, ho, hs⟩ := h;refine ⟨hp, A, c, (ht.block p hlt (hd p hlt hp)).trans hh, ?_, hs⟩;obtain ⟨h1, h2⟩ := ho;refine ⟨h1, ?_⟩;rcases h2 with h2 | ⟨g, cap, cur, hv, hg, hhg, r⟩
 ·exact .inl h2
 ·have hgl := zB hhg;have hsg : S g := hs ⟨g, 0, none⟩ (by injection hv);exact .inr ⟨g, cap, cur, hv, hg, (ht.block g hgl (hd g hgl hsg)).trans hhg, r⟩
theorem Rd.turned {e : Int} {T : Nat → Prop} (h : Rd w S p l e) (ht : Turned T w w') (hd : ∀ b, b < w.heap.size → S b → ¬ T b) : Rd w' S p l e := by
 have hlt := h.lt;obtain ⟨hB, A, n, c, hh, hy⟩ := h;exact ⟨hB, A, n, c, (ht.block p hlt (hd p hlt hB)).trans hh, hy.turned ht hd⟩
theorem Wr.put_back {w1 : World} {l m : List UInt8} {A A' : Option Addr} {c c' n : Nat} (hp : S p) (hh : w.heap[p]? = some (.cells #[.slice A l.length c] 176 (0, 0))) (ho : w.ownsRow 0 5 1 (.slice A l.length c) l.length (u8s l)) (hs : ∀ a, A = some a → S a.block)
    (hsz : w.heap.size ≤ w'.heap.size) (hw : ∀ k, k < w.heap.size → w'.heap[k]? = w.heap[k]?)
    (ho1 : w1.ownsRow 0 5 1 (.slice A' n c') n (u8s l ++ u8s m)) (hn : n = l.length + m.length) (hg : w'.grownBy w1 (Value.slice A l.length c).ownBlock)
    (hat : (Value.slice A' n c').ownBlock = (Value.slice A l.length c).ownBlock ∨ (Value.slice A' n c').ownBlock = some w'.heap.size) :
    Wr (w1.setCell ⟨p, 0, none⟩ (.slice A' n c')) (fun b => S b ∨ w.heap.size ≤ b) p (l ++ m) := by
 have hplt := zB hh
 have hne : ∀ g, (Value.slice A l.length c).ownBlock = some g → g ≠ p := by
  rintro g hg rfl;rcases ho.2 with ⟨hv, _⟩ | ⟨g', cap, cur, hv, _, hhg, _⟩
  ·rw [hv] at hg; simp [Value.ownBlock] at hg
  ·rw [hv] at hg;simp [Value.ownBlock] at hg;subst hg;rw [hh] at hhg;(injection hhg with hhg);(injection hhg with _ ht _);exact absurd ht (by decide)
 have hp1 : w1.heap[p]? = some (.cells #[.slice A l.length c] 176 (0, 0)) :=
  (hg.block p (by omega) (fun e => hne p e.symm rfl)).trans ((hw p hplt).trans hh)
 have hlen : n = (l ++ m).length := by rw [hn, List.length_append]
 subst hlen;rw [← yt] at ho1
 have hne1 : ∀ g, (Value.slice A' (l ++ m).length c').ownBlock = some g → g ≠ p := by
  intro g hg1;rcases hat with e | e
  ·rw [e] at hg1; exact hne g hg1
  ·rw [e] at hg1; injection hg1; omega
 refine ⟨.inl hp, A', c', by simpa using zG hp1 0 _, ?_, ?_⟩
 ·obtain ⟨h1, h2⟩ := ho1;refine ⟨h1, ?_⟩;rcases h2 with h2 | ⟨g, cap, cur, hv, hgb, hhg, r⟩
  ·exact .inl h2
  ·have : g ≠ p := hne1 g (by rw [hv]; rfl);exact .inr ⟨g, cap, cur, hv, hgb, (Below.heap_setCell _ _ _ _ this).trans hhg, r⟩
 ·rintro a rfl;rcases hat with e | e
  ·rcases A with _ | a0
   ·simp [Value.ownBlock] at e
   ·simp [Value.ownBlock] at e;exact .inl (by rw [e]; exact hs a0 rfl)
  ·simp [Value.ownBlock] at e;exact .inr (by omega)
end
theorem own_wr {S : Nat → Prop} {A : Option Addr} {n c : Nat} (hs : ∀ a, A = some a → S a.block) : ∀ g, (Value.slice A n c).ownBlock = some g → S g := by
 intro g hg;rcases A with _ | a
 ·simp [Value.ownBlock] at hg
 ·simp [Value.ownBlock] at hg;rw [← hg]; exact hs a rfl
theorem Wr.app {w wx w1 : World} {S : Nat → Prop} {p : Nat} {l m : List UInt8} {A A' : Option Addr} {c c' n : Nat} (hp : S p) (hh : w.heap[p]? = some (.cells #[.slice A l.length c] 176 (0, 0))) (ho : w.ownsRow 0 5 1 (.slice A l.length c) l.length (u8s l)) (hs : ∀ a, A = some a → S a.block)
    (hx : Below w.heap.size w wx) (ho1 : w1.ownsRow 0 5 1 (.slice A' n c') n (u8s l ++ u8s m)) (hn : n = l.length + m.length) (hg : wx.grownBy w1 (Value.slice A l.length c).ownBlock)
    (hat : (Value.slice A' n c').ownBlock = (Value.slice A l.length c).ownBlock ∨ (Value.slice A' n c').ownBlock = some wx.heap.size) :
    w1.cell? ⟨p, 0, none⟩ = some (.slice A l.length c) ∧ w1.frozen? ⟨p, 0, none⟩ = false ∧
     Hid (Wr (w1.setCell ⟨p, 0, none⟩ (.slice A' n c')) (fun b => S b ∨ w.heap.size ≤ b) p (l ++ m) ∧ Turned S w (w1.setCell ⟨p, 0, none⟩ (.slice A' n c'))) := by
 have hplt := zB hh
 have hne : (Value.slice A l.length c).ownBlock ≠ some p := by
  intro hg;rcases ho.2 with ⟨hv, _⟩ | ⟨g', cap, cur, hv, _, hhg, _⟩
  ·rw [hv] at hg; simp [Value.ownBlock] at hg
  ·rw [hv] at hg;simp [Value.ownBlock] at hg;subst hg;rw [hh] at hhg;(injection hhg with hhg);(injection hhg with _ ht _);exact absurd ht (by decide)
 have hp1 : w1.heap[p]? = some (.cells #[.slice A l.length c] 176 (0, 0)) :=
  (hg.block p (Nat.lt_of_lt_of_le hplt hx.size) (fun e => hne e.symm)).trans ((hx.block p hplt).trans hh)
 refine ⟨by rw [zA hp1 0]; rfl, zC hp1 0, ?_⟩;refine ⟨Wr.put_back hp hh ho hs hx.size (fun k hk => hx.block k hk) ho1 hn hg hat, ?_⟩;exact ((Turned.of_below hx).trans (Turned.of_gr hg (own_wr hs)) fun _ _ h => h).set hp _ _
theorem own_cap {w : World} {base : Nat} {e : TypeId} {size : Nat} {A : Option Addr} {n c : Nat} {xs : List Value} (h : w.ownsRow base e size (.slice A n c) n xs) : n ≤ c := by
 rcases h.2 with ⟨hv, rfl⟩ | ⟨g', cap, cur, hv, _, _, hn, _⟩
 ·omega
 ·injection hv with _ _ hc; omega
def Put (w : World) (S : Nat → Prop) (p : Nat) (l : List UInt8) (e : Ending) (w' : World) : Prop := e = .returned (.tuple #[]) ∧ Wr w' (fun b => S b ∨ w.heap.size ≤ b) p l ∧ Turned S w w'
theorem wfixed {w : World} {S T : Nat → Prop} {p : Nat} {l m : List UInt8} {A : Option Addr} {n c : Nat} (h : Wr w S p l) (hm : Byt w T A n c m) (hb : l.length + n ≤ 140737488355328) :
    Calls Tryz.prog 110 #[.pointer (some ⟨p, 0, none⟩), .slice A n c] w (Put w S p (l ++ m)) := by
 obtain ⟨i0, hi, hz0, hz1, hz2⟩ := info_parts u8_info;have hmax := hm.max;have hcap := hm.cap;have hmlen := hm.len;have hW := Lib.hid h;obtain ⟨hp, A0, c0, hh, ho, hs⟩ := h;have h0 := zA hh 0;simp only [List.getElem?_toArray, List.getElem?_cons_zero] at h0;have f0 := zC hh 0;have hoc := own_cap ho;have HH := Lib.hid hh;have HO := Lib.hid ho;have HL := Lib.hid hmlen;rcases A with _ | ad
 ·have hn0 : n = 0 := by
    rcases Nat.eq_zero_or_pos n with h0 | h0
    ·exact h0
    ·obtain ⟨_, _, hA, _⟩ := hm.row h0
     cases hA
  subst hn0;obtain rfl : m = [] := List.eq_nil_of_length_eq_zero hmlen
  have fin : Put w S p (l ++ []) (.returned (.tuple #[])) (w.setCell ⟨p, 0, none⟩ (.slice A0 l.length c0)) := by
   rw [List.append_nil];refine ⟨rfl, ⟨.inl hp, A0, c0, by simpa using zG hh 0 (.slice A0 l.length c0), ?_, fun a ha => .inl (hs a ha)⟩, (Turned.refl _ _).set hp _ _⟩;obtain ⟨h1, h2⟩ := ho;refine ⟨h1, ?_⟩;rcases h2 with h2 | ⟨g, cap, cur, hv, hgb, hhg, r⟩
   ·exact .inl h2
   ·have : g ≠ p := by
      rintro rfl;rw [hh] at hhg;(injection hhg with hhg);(injection hhg with _ ht _);exact absurd ht (by decide)
    exact .inr ⟨g, cap, cur, hv, hgb, (Below.heap_setCell _ _ _ _ this).trans hhg, r⟩
  clear hm hh ho hmlen
  go_enter Tryz.func110, Tryz.ntmps110
  go_wp2_with (at_builtin; refine wpList_append_zero (by rfl) _ _ 54 (by rfl) 5 i0 Tryz.underlying54 hi A0 l.length c0 c hoc (by rfl) (by rfl) ?_)
  go_end0
  exact fin
 ·have hnews := xF hm;have hlen := zn m;have hone := u8s_one m;clear hm hh ho hmlen
  go_enter Tryz.func110, Tryz.ntmps110
  go_wp2_with (at_builtin; refine wpList_append_own_at _ rfl _ _ 54 rfl 0 5 i0 (.int .u8 0) 1 1 Tryz.underlying54 hi hz0 hz1 hz2 rfl (by decide) _ l.length (u8s l) rfl HO.out ad n c (u8s m) rfl ?qc1 hnews hone ?qc4 ?qc5 ?qc6 ?_)
  case qc1 => rw [hlen, HL.out]; omega
  case qc4 => unfold maxLen at *; omega
  case qc5 => omega
  case qc6 => simp
  intro v' w1 hown hgrow hnn hat;obtain ⟨A', c', rfl, _⟩ := own_byt (l := l ++ m) (by rw [yt]; exact hown);obtain ⟨g1, g2, g3⟩ := Wr.app hp HH.out HO.out hs (Below.refl _ _) hown (by rw [HL.out]) hgrow hat;clear hown hgrow hnn hat h0 f0 hnews
  go_wp2
  go_end0
  exact ⟨rfl, g3.out⟩
theorem or128_all : ∀ a, a < 256 → a ||| 128 = a % 128 + 128 := by decide +kernel
theorem byte_more (x : Nat) : bits .or .u8 (IntKind.u8.wrap (x : Int)) 128 = ((UInt8.ofNat (x % 128 + 128)).toNat : Int) := by
 have e : IntKind.u8.wrap (x : Int) = ((x % 256 : Nat) : Int) := by simp [IntKind.wrap, IntKind.signed, IntKind.bits]
 rw [e, show (128 : Int) = ((128 : Nat) : Int) from rfl, u8_or_nat _ _ (by omega) (by omega), or128_all _ (by omega)];have : (UInt8.ofNat (x % 128 + 128)).toNat = x % 128 + 128 := by simp; omega
 rw [this];omega
theorem wuint {w : World} {S : Nat → Prop} {p : Nat} {l : List UInt8} {x : Nat} (h : Wr w S p l) (hx : x < 18446744073709551616) (hb : l.length + 10 ≤ 140737488355328) :
    Calls Tryz.prog 86 #[.pointer (some ⟨p, 0, none⟩), .int .u64 x] w (Put w S p (l ++ put x)) := by
 obtain ⟨i0, hi, hz0, hz1, hz2⟩ := info_parts u8_info
 go_enter Tryz.func86, Tryz.ntmps86
 go_wp2
 go_loopw [1] (fun s1 wr => ∃ (y : Nat) (d : List UInt8), y < 18446744073709551616 ∧ s1 = .int .u64 y ∧ Hid (l ++ put x = d ++ put y) ∧ Wr wr (fun b => S b ∨ w.heap.size ≤ b) p d ∧ Turned S w wr) (fun s1 _ => (intOf s1).toNat)
 case atStart => exact ⟨x, l, hx, rfl, rfl, h.mono fun _ _ hs => .inl hs, Turned.refl _ _⟩
 case round =>
  obtain ⟨y, d, hy, rfl, HD, hW, hT⟩ := hrel;obtain ⟨hp, A0, c0, hh, ho, hs⟩ := hW;have h0 := zA hh 0;simp only [List.getElem?_toArray, List.getElem?_cons_zero] at h0;have f0 := zC hh 0
  have hdl : d.length + 1 ≤ l.length + 10 := by
   have e := congrArg List.length HD.out;have := zX hx;have := put_length_pos y;simp at e;omega
  have HH := Lib.hid hh;have HO := Lib.hid ho;clear hh ho;have hq4 : d.length + 1 ≤ maxLen := by unfold maxLen; omega
  have hq5 : (d.length + 1) * 1 ≤ 140737488355328 := by omega
  by_cases hlt : y < 128
  ·(have hge : ¬ 128 ≤ y := by omega);have hput := put_small hlt;have HP := Lib.hid hput;(have hone : [Value.int .u8 (y : Int)] = u8s [UInt8.ofNat y] := by simp [u8s, Nat.mod_eq_of_lt (show y < 256 by omega)]);have HV := Lib.hid hone;clear hput hone
   go_wp2_with (at_builtin; refine wpList_append_own_at _ rfl _ _ 54 rfl 0 5 i0 (.int .u8 0) 1 1 Tryz.underlying54 hi hz0 hz1 hz2 rfl (by decide) _ d.length (u8s d) rfl (HO.out.alloc _) ⟨wr.heap.size, 0, none⟩ 1 1 [.int .u8 (y : Int)] rfl rfl (cell_one_new _ _ _) (one_of rfl) hq4 hq5 (Nat.zero_le _) ?_)
   intro v' w1 hown hgrow hnn hat;rw [HV.out] at hown;obtain ⟨A', c', rfl, _⟩ := own_byt (l := d ++ [UInt8.ofNat y]) (by rw [yt]; exact hown);obtain ⟨g1, g2, g3⟩ := Wr.app (S := fun b => S b ∨ w.heap.size ≤ b) hp HH.out HO.out hs ((Below.refl _ _).alloc (Nat.le_refl _) _) hown rfl hgrow (hat.imp_right fun e => e.trans (by simp))
   have fin : Put w S p (l ++ put x) (.returned (.tuple #[])) (w1.setCell ⟨p, 0, none⟩ (.slice A' (d.length + 1) c')) := by
    rw [HD.out, HP.out];refine ⟨rfl, g3.out.1.mono fun b _ hs => ?_, hT.trans g3.out.2 fun i hi hs => ?_⟩
    ·rcases hs with hs | hs
     ·exact hs
     ·exact .inr (Nat.le_trans hT.size hs)
    ·rcases hs with hs | hs
     ·exact hs
     ·omega
   have HF := Lib.hid fin;clear hown hgrow hnn hat h0 f0 fin
   go_wp2
   go_end0
   exact HF.out
  ·(have hone : [Value.int .u8 (bits .or .u8 (IntKind.u8.wrap (y : Int)) 128)] = u8s [UInt8.ofNat (y % 128 + 128)] := by rw [byte_more]; rfl);have HV := Lib.hid hone;have hput := put_big (x := y) (by omega);have HP := Lib.hid hput;clear hput hone
   go_wp2_with (at_builtin; refine wpList_append_own_at _ rfl _ _ 54 rfl 0 5 i0 (.int .u8 0) 1 1 Tryz.underlying54 hi hz0 hz1 hz2 rfl (by decide) _ d.length (u8s d) rfl (HO.out.alloc _) ⟨wr.heap.size, 0, none⟩ 1 1 [.int .u8 (bits .or .u8 (IntKind.u8.wrap (y : Int)) 128)] rfl rfl (cell_one_new _ _ _) (one_of rfl) hq4 hq5 (Nat.zero_le _) ?_)
   intro v' w1 hown hgrow hnn hat;rw [HV.out] at hown;obtain ⟨A', c', rfl, _⟩ := own_byt (l := d ++ [UInt8.ofNat (y % 128 + 128)]) (by rw [yt]; exact hown);obtain ⟨g1, g2, g3⟩ := Wr.app (S := fun b => S b ∨ w.heap.size ≤ b) hp HH.out HO.out hs ((Below.refl _ _).alloc (Nat.le_refl _) _) hown rfl hgrow (hat.imp_right fun e => e.trans (by simp));clear hown hgrow hnn hat h0 f0
   go_wp2
   go_roundw
   case rel =>
    refine ⟨y / 128, d ++ [UInt8.ofNat (y % 128 + 128)], by omega, ?_, ?_, g3.out.1.mono fun b _ hs => ?_, hT.trans g3.out.2 fun i hi hs => ?_⟩
    ·go_num
    ·show l ++ put x = _;rw [HD.out, HP.out]; simp
    ·rcases hs with hs | hs
     ·exact hs
     ·exact .inr (Nat.le_trans hT.size hs)
    ·rcases hs with hs | hs
     ·exact hs
     ·omega
   case measure => simp [intOf]; omega
end Go.Proofs.YtmioifcbkhpdaaaGreat
