/-
  Cells: a map of names with bytes, in memory.
  strings.Clone: a string's copy.
  Cells: changes in memory; whether one may be.
  Cells: changes that grow in memory; what reading takes.
  Files: files in memory, in a row that may grow.
  Files: the reference's files in memory.
  Objects in memory: entries, ids, objects, the model's.
  codec.Writer: what each of its methods does, told of a writer that holds a list of bytes ('Wr').
  codec.Writer, its further methods.
  codec.Writer: Bytes, Bool, Out, NewWriter; a Writer and a Reader that are none.
  codec.Reader.Id of a reader that is none.
  The document's example at the head of each statement of layer 1: it answers true, and writes nothing that was there.
-/
import Derived.Test.YtmmibldchfmleaaPk02
import Derived.Test.YtmmibldchfmleaaPk01
import Derived.Maps.OwnSet
import Derived.Sort.KeysCollected
import Derived.StringKeys
import Derived.Lib.Strings
import Derived.Lib.Walk
import Derived.Lib.BufferWrite
import Derived.Lib.UnsafeStr
import Derived.Laws.MakeOwn
import Derived.Test.YtmmibldchfmleaaPk03
import Derived.Maps.AppendAt
import Derived.Deep.AppendLies
import Derived.Test.YtmmibldchfmleaaPk04
import Derived.BigQuiet
import Derived.Lib.SlBytesConst
/-! Cells: a map of names with bytes, in memory. -/
namespace Go.Proofs.Ytmmibldchfmleaa
open Go.RowKit Go.Maps Codec

/-- How a map's element reads: as it is. -/
def rv (v : Value) : Option (DataW Value × List MemPlace) := some (.held v, [])
theorem mlaw : Keyed Try.prog 9 := string_keyed Try.underlying9
theorem zero_sl (w : World) : (zeroValue 49).run Try.prog w = .ok (.slice none 0 0) w := by kernel_rfl
/-- THE DATUM HAS JUST THESE NAMES, each with a slice that reads as its bytes. -/
structure Agr (w : World) (S : Nat → Prop) (D : DataW Value) (t : Tb) : Prop where
  srt : Srt t
  size : Maps.size D = t.length
  has : ∀ k, Maps.has D (.string k) = (getT t k).isSome
  at_ : ∀ k v, getT t k = some v → ∃ A n c, (∀ z, D.atKey (.string k) z = .held (.slice A n c)) ∧ Byt w S A n c v
/-- BLOCK b IS A MAP OF THESE NAMES WITH BYTES, all of it in blocks of S. -/
def Nms (w : World) (S : Nat → Prop) (b : Nat) (t : Tb) : Prop :=
  S b ∧ ∃ D, w.ownsMap Try.prog 9 rv b t.length D ∧ Agr w (fun k => S k ∧ k ≠ b) D t
variable {w w' : World} {S T : Nat → Prop} {b : Nat} {t : Tb}
theorem Nms.srt (h : Nms w S b t) : Srt t := by
  obtain ⟨_, D, _, ha⟩ := h
  exact ha.srt
theorem Nms.lt (h : Nms w S b t) : b < w.heap.size := by
  obtain ⟨_, D, ho, _⟩ := h
  exact ho.lt
theorem ownsMap_exact {P : Program} {k : TypeId} {R : Value → Option (DataW Value × List MemPlace)} {n : Nat} {D : DataW Value} (h : w.ownsMap P k R b n D) : w.ownsMap P k R b (Maps.size D) D := by
  obtain ⟨es, clock, hb, F, hs, rfl⟩ := h
  exact ⟨es, clock, hb, F, by simp [Maps.size, length_sorted], rfl⟩
theorem ownsMap_kept {P : Program} {k : TypeId} {R : Value → Option (DataW Value × List MemPlace)} {n : Nat} {D : DataW Value} (h : w.ownsMap P k R b n D) (hb : w'.heap[b]? = w.heap[b]?) : w'.ownsMap P k R b n D := by
  obtain ⟨es, clock, hb', r⟩ := h
  exact ⟨es, clock, hb.trans hb', r⟩
theorem Agr.turned {D : DataW Value} (h : Agr w S D t) (ht : Turned T w w') (hd : ∀ k, k < w.heap.size → S k → ¬ T k) : Agr w' S D t :=
  ⟨h.srt, h.size, h.has, fun k v hk => by
    obtain ⟨A, n, c, h1, h2⟩ := h.at_ k v hk
    exact ⟨A, n, c, h1, h2.turned ht hd⟩⟩
theorem Agr.mono {D : DataW Value} (h : Agr w S D t) (hT : ∀ k, k < w.heap.size → S k → T k) : Agr w T D t :=
  ⟨h.srt, h.size, h.has, fun k v hk => by
    obtain ⟨A, n, c, h1, h2⟩ := h.at_ k v hk
    exact ⟨A, n, c, h1, h2.mono hT⟩⟩
theorem Nms.turned (h : Nms w S b t) (ht : Turned T w w') (hd : ∀ k, k < w.heap.size → S k → ¬ T k) : Nms w' S b t := by
  obtain ⟨hS, D, ho, ha⟩ := h
  exact ⟨hS, D, ownsMap_kept ho (ht.block _ ho.lt (hd _ ho.lt hS)), ha.turned ht fun k hk hs => hd k hk hs.1⟩
theorem Nms.below (h : Nms w S b t) (hb : Below w.heap.size w w') : Nms w' S b t :=
  h.turned (T := fun _ => False) ⟨hb.os, hb.tape, hb.output, hb.size, fun k hk _ => hb.block k hk⟩ fun _ _ _ h => h
theorem Nms.mono (h : Nms w S b t) (hT : ∀ k, k < w.heap.size → S k → T k) : Nms w T b t := by
  obtain ⟨hS, D, ho, ha⟩ := h
  exact ⟨hT _ ho.lt hS, D, ho, ha.mono fun k hk hs => ⟨hT k hk hs.1, hs.2⟩⟩
theorem Nms.drew (h : Nms w S b t) : Nms w.drew S b t := h.below ⟨rfl, rfl, rfl, Nat.le_refl _, fun _ _ => rfl⟩
theorem made_map (w : World) : Nms (w.alloc (.map #[] 0)) (fun k => k = w.heap.size) w.heap.size [] :=
  ⟨rfl, .map [], World.ownsMap_made _ _ _ _, Srt.nil, rfl, fun _ => rfl, fun _ _ h => by cases h⟩
theorem str_key (k : List UInt8) (h : k.length ≤ 1000000) : keyOf Try.prog 9 (.string (st k)) = some (.string k) := by
  have h1 := Go.WideMaps.keyOf_string_mk (P := Try.prog) (k := 9) Try.underlying9 (s := st k) (by rw [st_size]; unfold maxLen; omega)
  simpa [st] using h1
theorem str_lit (k : List UInt8) : WideAt.IsKeyLit (.string k) := by trivial
theorem len_split {t : Tb} (h : Srt t) (k : List UInt8) : (t.filter fun p => decide (p.1 < k)).length + (t.filter fun p => decide (k < p.1)).length + (if (getT t k).isSome = true then 1 else 0) = t.length := by
  induction t with
  | nil => simp [getT_nil]
  | cons p t ih =>
    obtain ⟨h1, h2⟩ := List.pairwise_cons.1 h
    have h3 := ih h2
    rw [getT_cons]
    by_cases hl : p.1 < k
    · rw [List.filter_cons_of_pos (by simpa using hl), List.filter_cons_of_neg (by simpa using klt_as hl), if_neg (klt_ne hl), List.length_cons, List.length_cons]
      omega
    · rw [List.filter_cons_of_neg (by simpa using hl)]
      by_cases he : p.1 = k
      · have hn : getT t k = none := getT_none fun q hq => (klt_ne (he ▸ h1 q hq)).symm
        rw [hn] at h3
        rw [List.filter_cons_of_neg (by simp [he]), if_pos he, List.length_cons]
        simp at h3 ⊢
        omega
      · have hg : k < p.1 := Classical.byContradiction fun h => he (klt_tri hl h)
        rw [List.filter_cons_of_pos (by simpa using hg), if_neg he, List.length_cons, List.length_cons]
        omega
theorem doC_len {t : Tb} (h : Srt t) (c : Ch) : (doC t c).length + (if (getT t c.k).isSome = true then 1 else 0) = t.length + (if c.g then 0 else 1) := by
  have h1 := len_split h c.k
  unfold doC
  rw [List.length_append, List.length_append]
  cases c.g <;> simp <;> omega
theorem mapTurned_turned' {w w' : World} {b : Nat} (h : w.mapTurned w' b) : Turned (fun q => q = b) w w' := Turned.of_gr h.grown fun _ e => (Option.some.inj e).symm
/-- What the names are, sorted. -/
theorem Agr.keys {D : DataW Value} (h : Agr w S D t) {n : Nat} (ho : w'.ownsMap Try.prog 9 rv b n D) {ss : List (List UInt8)} (hs : ss.Perm (strKeys D)) : ss.mergeSort (fun x y => decide (x ≤ y)) = t.map (·.1) := by
  obtain ⟨es, hD, hpw, _⟩ := ho.entries mlaw
  obtain ⟨es', hD', hko⟩ := ho.keysOf
  obtain rfl : es = es' := by rw [hD] at hD'; simpa using hD'
  have hnd : (t.map (·.1)).Nodup := (h.srt.keys).imp fun h => klt_ne h
  have hp : (t.map (·.1)).Perm (strKeys D) := by
    have hh := h.has
    subst hD
    exact perm_strKeys hpw (fun p hp => by obtain ⟨v, hv⟩ := hko p hp; obtain ⟨x, _, hx, _⟩ := Maps.keyOf_str Try.underlying9 hv; exact ⟨x, hx⟩) hnd (fun x => by rw [hh x]; exact getT_isSome.symm)
  rw [show ss.mergeSort (fun x y => decide (x ≤ y)) = (t.map (·.1)).mergeSort leB from mergeSort_of_perm (hs.trans hp.symm)]
  exact List.mergeSort_of_pairwise ((h.srt.keys).imp fun {a b} h => by simpa using List.le_of_lt h)
end Go.Proofs.Ytmmibldchfmleaa

/-! strings.Clone: a string's copy. -/
namespace Go.Proofs.Ytmmibldchfmleaa
open Go.RowKit
/-! ### a string's copy -/
end Go.Proofs.Ytmmibldchfmleaa

/-! Cells: changes in memory; whether one may be. -/
namespace Go.Proofs.Ytmmibldchfmleaa
open Go.RowKit Codec

theorem cell_turned {T : Nat → Prop} {w w' : World} (ht : Turned T w w') {k : Nat} (hk : k < w.heap.size) (hT : ¬ T k) (o : Nat) : w'.cell? ⟨k, o, none⟩ = w.cell? ⟨k, o, none⟩ :=
  World.cell?_of_block (w := w) (a := ⟨k, o, none⟩) (ht.block k hk hT)
/-- A change's cells. -/
def chV (A : Option Addr) (n c : Nat) (x : Ch) : Array Value := #[.string (st x.k), .slice A n c, .bool x.g]
theorem chV_one (A : Option Addr) (n c : Nat) (x : Ch) : (chV A n c x).all (·.oneCell') = true := by simp [chV, Value.oneCell']
/-- CHANGES IN MEMORY. -/
structure Chs (w : World) (S : Nat → Prop) (A : Option Addr) (n c : Nat) (l : List Ch) : Prop where
  len : l.length = n
  cap : n ≤ c
  max : c ≤ maxLen
  row : 0 < n → ∃ b off, A = some ⟨b, off, none⟩ ∧ S b ∧ b < w.heap.size ∧ ∀ i x, l[i]? = some x → ∃ Ai ni ci, (∀ (j : Nat) (v : Value), (chV Ai ni ci x)[j]? = some v → w.cell? ⟨b, off + i * 3 + j, none⟩ = some v) ∧ Byt w S Ai ni ci x.v
variable {w w' : World} {S T : Nat → Prop} {A : Option Addr} {n c : Nat} {l : List Ch}
theorem Chs.turned (h : Chs w S A n c l) (ht : Turned T w w') (hd : ∀ k, k < w.heap.size → S k → ¬ T k) : Chs w' S A n c l :=
  ⟨h.len, h.cap, h.max, fun h0 => by
    obtain ⟨b, off, h1, h2, h3, h4⟩ := h.row h0
    refine ⟨b, off, h1, h2, Nat.lt_of_lt_of_le h3 ht.size, fun i x hx => ?_⟩
    obtain ⟨Ai, ni, ci, h5, h6⟩ := h4 i x hx
    exact ⟨Ai, ni, ci, fun j v hv => (cell_turned ht h3 (hd b h3 h2) _).trans (h5 j v hv), h6.turned ht hd⟩⟩
theorem Chs.below (h : Chs w S A n c l) (hb : Below w.heap.size w w') : Chs w' S A n c l :=
  h.turned (T := fun _ => False) ⟨hb.os, hb.tape, hb.output, hb.size, fun k hk _ => hb.block k hk⟩ fun _ _ _ h => h
theorem Chs.mono (h : Chs w S A n c l) (hT : ∀ k, k < w.heap.size → S k → T k) : Chs w T A n c l :=
  ⟨h.len, h.cap, h.max, fun h0 => by
    obtain ⟨b, off, h1, h2, h3, h4⟩ := h.row h0
    refine ⟨b, off, h1, hT b h3 h2, h3, fun i x hx => ?_⟩
    obtain ⟨Ai, ni, ci, h5, h6⟩ := h4 i x hx
    exact ⟨Ai, ni, ci, h5, h6.mono hT⟩⟩
theorem Chs.nil (w : World) (S : Nat → Prop) (A : Option Addr) (c : Nat) (hc : c ≤ maxLen) : Chs w S A 0 c [] := ⟨rfl, Nat.zero_le _, hc, fun h => absurd h (by omega)⟩
theorem Chs.at_ (h : Chs w S A n c l) {i : Nat} (hi : i < n) : ∃ b off x Ai ni ci, A = some ⟨b, off, none⟩ ∧ S b ∧ b < w.heap.size ∧ l[i]? = some x ∧ (∀ (j : Nat) (v : Value), (chV Ai ni ci x)[j]? = some v → w.cell? ((⟨b, off + i * 3, none⟩ : Addr).add j) = some v) ∧ Byt w S Ai ni ci x.v := by
  obtain ⟨b, off, h1, h2, h3, h4⟩ := h.row (by omega)
  have hx : l[i]? = some (l[i]'(by have := h.len; omega)) := List.getElem?_eq_getElem _
  obtain ⟨Ai, ni, ci, h5, h6⟩ := h4 i _ hx
  exact ⟨b, off, _, Ai, ni, ci, h1, h2, h3, hx, fun j v hv => by rw [add_plain]; exact h5 j v hv, h6⟩

/-! ### whether one may be -/

end Go.Proofs.Ytmmibldchfmleaa

/-! Cells: changes that grow in memory; what reading takes. -/
namespace Go.Proofs.Ytmmibldchfmleaa
open Go.RowKit Codec

abbrev Ro := Option Addr × Nat × Nat
def chCells (L : List (Ro × Ch)) : List Value := (L.map fun y => (chV y.1.1 y.1.2.1 y.1.2.2 y.2).toList).flatten
theorem chCells_len (L : List (Ro × Ch)) : (chCells L).length = L.length * 3 := by
  induction L with
  | nil => rfl
  | cons y L ih =>
    unfold chCells at ih ⊢
    rw [List.map_cons, List.flatten_cons, List.length_append, ih, List.length_cons]
    simp [chV]
    omega
theorem chCells_at : ∀ (L : List (Ro × Ch)) (i : Nat) (y : Ro × Ch), L[i]? = some y → ∀ (j : Nat) (v : Value), (chV y.1.1 y.1.2.1 y.1.2.2 y.2)[j]? = some v → (chCells L)[i * 3 + j]? = some v
  | [], i, y, h, _, _, _ => by simp at h
  | z :: L, 0, y, h, j, v, hv => by
    simp at h
    subst h
    have hj : j < 3 := by
      have := (Array.getElem?_eq_some_iff.1 hv).1
      simpa [chV] using this
    unfold chCells
    rw [List.map_cons, List.flatten_cons, Nat.zero_mul, Nat.zero_add, List.getElem?_append_left (by simp [chV]; exact hj)]
    simpa using hv
  | z :: L, i + 1, y, h, j, v, hv => by
    have h' : L[i]? = some y := by simpa using h
    have ih := chCells_at L i y h' j v hv
    unfold chCells at ih ⊢
    rw [List.map_cons, List.flatten_cons, List.getElem?_append_right (by simp [chV]; omega), ← ih]
    congr 1
    simp [chV]
    omega
variable {w w' : World} {S T U : Nat → Prop} {v : Value} {l : List Ch}

/-! ### what reading takes -/
theorem ui_len {l : List UInt8} {e : Int} (h : uiE l e = 0) : e = 0 ∧ (uiL l e).length + 1 ≤ l.length := by
  unfold uiE at h
  by_cases he : e = 0
  · rw [if_pos he] at h
    refine ⟨he, ?_⟩
    unfold uiL
    rw [if_pos he, List.length_drop]
    have h1 := (put_rd 0 l (by omega) (by omega)).2.2.1
    have h2 := rd_le 0 l
    omega
  · rw [if_neg he] at h
    exact absurd h he
theorem fxL_len (l : List UInt8) (e k : Int) : (fxL l e k).length ≤ l.length := by
  unfold fxL
  split <;> simp
theorem byL_len (l : List UInt8) (e m : Int) : (byL l e m).length ≤ l.length := by
  have h1 := uiL_length l e
  have h2 := fxL_len (uiL l e) 0 (uiX l e)
  unfold byL
  split
  · exact h1
  · split <;> omega
theorem by_bad {l : List UInt8} {e m : Int} (h : byE l e m ≠ 0) : byB l e m = [] := by
  unfold byE at h
  unfold byB
  split
  · rfl
  · split
    · rfl
    · rename_i h1 h2
      rw [if_neg h1, if_neg h2] at h
      unfold fxB
      rw [if_neg h]
theorem by_take (l : List UInt8) (e m : Int) : (byB l e m ≠ [] ∨ byE l e m = 0) → e = 0 ∧ (byL l e m).length + (byB l e m).length + 1 ≤ l.length := by
  intro h
  have h0 : byE l e m = 0 := h.elim (fun h => Classical.byContradiction fun h2 => h (by_bad h2)) id
  have hu : uiE l e = 0 := Classical.byContradiction fun h2 => by
    unfold byE at h0
    rw [if_pos h2] at h0
    exact h2 h0
  obtain ⟨he, hl⟩ := ui_len hu
  refine ⟨he, ?_⟩
  unfold byE at h0
  unfold byL byB
  rw [if_neg (show ¬ uiE l e ≠ 0 from fun h => h hu)] at h0
  rw [if_neg (show ¬ uiE l e ≠ 0 from fun h => h hu), if_neg (show ¬ uiE l e ≠ 0 from fun h => h hu)]
  split at h0
  · exact absurd h0 (by decide)
  · rename_i h3
    rw [if_neg h3, if_neg h3]
    obtain ⟨_, _, h4⟩ := tkE_zero h0
    unfold fxL fxB
    rw [if_pos h0, if_pos h0, List.length_drop, List.length_take]
    omega
theorem by_few (l : List UInt8) (e : Int) (m : Nat) : (byB l e (m : Int)).length ≤ m := by
  unfold byB
  split
  · simp
  · split
    · simp
    · unfold fxB
      split
      · rw [List.length_take]
        omega
      · simp
theorem rc1_take {l : List UInt8} {e : Int} (h : mayC (rc1 l e).1 = true) : (rc1 l e).2.1.length + (rc1 l e).1.k.length + (rc1 l e).1.v.length + 1 ≤ l.length := by
  have hk := rc1_k l e
  have hk1 : byB l e 64 ≠ [] := by
    intro h2
    unfold mayC at h
    rw [hk, h2] at h
    simp at h
  have h1 := (by_take l e 64 (.inl hk1)).2
  have h2 := fxL_len (byL l e 64) (byE l e 64) 1
  rw [hk]
  unfold rc1
  split
  · simp only [List.length_nil]
    omega
  · simp only
    by_cases h3 : byE (fxL (byL l e 64) (byE l e 64) 1) (boE (byL l e 64) (byE l e 64)) 4096 = 0
    · have h4 := (by_take _ _ 4096 (.inr h3)).2
      omega
    · rw [by_bad h3]
      have h4 := byL_len (fxL (byL l e 64) (byE l e 64) 1) (boE (byL l e 64) (byE l e 64)) 4096
      simp only [List.length_nil]
      omega
end Go.Proofs.Ytmmibldchfmleaa

/-! Files: files in memory, in a row that may grow. -/
namespace Go.Proofs.Ytmmibldchfmleaa
open Go.RowKit Codec

abbrev Fi := List UInt8 × List UInt8
/-- A file's cells. -/
def fiV (A : Option Addr) (n c : Nat) (x : Fi) : Array Value := #[.string (st x.1), .slice A n c]
theorem fiV_one (A : Option Addr) (n c : Nat) (x : Fi) : (fiV A n c x).all (·.oneCell') = true := by simp [fiV, Value.oneCell']
/-- FILES IN MEMORY. -/
structure Fls (w : World) (S : Nat → Prop) (A : Option Addr) (n c : Nat) (l : Tb) : Prop where
  len : l.length = n
  cap : n ≤ c
  max : c ≤ maxLen
  row : 0 < n → ∃ b off, A = some ⟨b, off, none⟩ ∧ S b ∧ b < w.heap.size ∧ ∀ i x, l[i]? = some x → ∃ Ai ni ci, (∀ (j : Nat) (v : Value), (fiV Ai ni ci x)[j]? = some v → w.cell? ⟨b, off + i * 2 + j, none⟩ = some v) ∧ Byt w S Ai ni ci x.2
variable {w w' : World} {S T : Nat → Prop} {A : Option Addr} {n c : Nat} {l : Tb}
theorem Fls.turned (h : Fls w S A n c l) (ht : Turned T w w') (hd : ∀ k, k < w.heap.size → S k → ¬ T k) : Fls w' S A n c l :=
  ⟨h.len, h.cap, h.max, fun h0 => by
    obtain ⟨b, off, h1, h2, h3, h4⟩ := h.row h0
    refine ⟨b, off, h1, h2, Nat.lt_of_lt_of_le h3 ht.size, fun i x hx => ?_⟩
    obtain ⟨Ai, ni, ci, h5, h6⟩ := h4 i x hx
    exact ⟨Ai, ni, ci, fun j v hv => (cell_turned ht h3 (hd b h3 h2) _).trans (h5 j v hv), h6.turned ht hd⟩⟩
theorem Fls.below (h : Fls w S A n c l) (hb : Below w.heap.size w w') : Fls w' S A n c l :=
  h.turned (T := fun _ => False) ⟨hb.os, hb.tape, hb.output, hb.size, fun k hk _ => hb.block k hk⟩ fun _ _ _ h => h
theorem Fls.mono (h : Fls w S A n c l) (hT : ∀ k, k < w.heap.size → S k → T k) : Fls w T A n c l :=
  ⟨h.len, h.cap, h.max, fun h0 => by
    obtain ⟨b, off, h1, h2, h3, h4⟩ := h.row h0
    refine ⟨b, off, h1, hT b h3 h2, h3, fun i x hx => ?_⟩
    obtain ⟨Ai, ni, ci, h5, h6⟩ := h4 i x hx
    exact ⟨Ai, ni, ci, h5, h6.mono hT⟩⟩
theorem Fls.nil (w : World) (S : Nat → Prop) (A : Option Addr) (c : Nat) (hc : c ≤ maxLen) : Fls w S A 0 c [] := ⟨rfl, Nat.zero_le _, hc, fun h => absurd h (by omega)⟩
theorem Fls.at_ (h : Fls w S A n c l) {i : Nat} (hi : i < n) : ∃ b off x Ai ni ci, A = some ⟨b, off, none⟩ ∧ S b ∧ b < w.heap.size ∧ l[i]? = some x ∧ (∀ (j : Nat) (v : Value), (fiV Ai ni ci x)[j]? = some v → w.cell? ((⟨b, off + i * 2, none⟩ : Addr).add j) = some v) ∧ Byt w S Ai ni ci x.2 := by
  obtain ⟨b, off, h1, h2, h3, h4⟩ := h.row (by omega)
  have hx : l[i]? = some (l[i]'(by have := h.len; omega)) := List.getElem?_eq_getElem _
  obtain ⟨Ai, ni, ci, h5, h6⟩ := h4 i _ hx
  exact ⟨b, off, _, Ai, ni, ci, h1, h2, h3, hx, fun j v hv => by rw [add_plain]; exact h5 j v hv, h6⟩

def fiCells (L : List (Ro × Fi)) : List Value := (L.map fun y => (fiV y.1.1 y.1.2.1 y.1.2.2 y.2).toList).flatten
theorem fiCells_len (L : List (Ro × Fi)) : (fiCells L).length = L.length * 2 := by
  induction L with
  | nil => rfl
  | cons y L ih =>
    unfold fiCells at ih ⊢
    rw [List.map_cons, List.flatten_cons, List.length_append, ih, List.length_cons]
    simp [fiV]
    omega
theorem fiCells_at : ∀ (L : List (Ro × Fi)) (i : Nat) (y : Ro × Fi), L[i]? = some y → ∀ (j : Nat) (v : Value), (fiV y.1.1 y.1.2.1 y.1.2.2 y.2)[j]? = some v → (fiCells L)[i * 2 + j]? = some v
  | [], i, y, h, _, _, _ => by simp at h
  | z :: L, 0, y, h, j, v, hv => by
    simp at h
    subst h
    have hj : j < 2 := by
      have := (Array.getElem?_eq_some_iff.1 hv).1
      simpa [fiV] using this
    unfold fiCells
    rw [List.map_cons, List.flatten_cons, Nat.zero_mul, Nat.zero_add, List.getElem?_append_left (by simp [fiV]; exact hj)]
    simpa using hv
  | z :: L, i + 1, y, h, j, v, hv => by
    have h' : L[i]? = some y := by simpa using h
    have ih := fiCells_at L i y h' j v hv
    unfold fiCells at ih ⊢
    rw [List.map_cons, List.flatten_cons, List.getElem?_append_right (by simp [fiV]; omega), ← ih]
    congr 1
    simp [fiV]
    omega
variable {w w' : World} {S T U : Nat → Prop} {v : Value} {l : Tb}

end Go.Proofs.Ytmmibldchfmleaa

/-! Files: the reference's files in memory. -/
namespace Go.Proofs.Ytmmibldchfmleaa
open Go.RowKit Codec

def fmV (x : Fi) : Array Value := #[.string (st x.1), .string (st x.2)]
def fmCells (L : List Fi) : List Value := (L.map fun y => (fmV y).toList).flatten
theorem fmCells_len (L : List Fi) : (fmCells L).length = L.length * 2 := by
  induction L with
  | nil => rfl
  | cons y L ih =>
    unfold fmCells at ih ⊢
    rw [List.map_cons, List.flatten_cons, List.length_append, ih, List.length_cons]
    simp [fmV]
    omega
theorem fmCells_app (L M : List Fi) : fmCells (L ++ M) = fmCells L ++ fmCells M := by simp [fmCells]
theorem fmCells_at : ∀ (L : List Fi) (i : Nat) (y : Fi), L[i]? = some y → ∀ (j : Nat) (v : Value), (fmV y)[j]? = some v → (fmCells L)[i * 2 + j]? = some v
  | [], i, y, h, _, _, _ => by simp at h
  | z :: L, 0, y, h, j, v, hv => by
    simp at h
    subst h
    have hj : j < 2 := by
      have := (Array.getElem?_eq_some_iff.1 hv).1
      simpa [fmV] using this
    unfold fmCells
    rw [List.map_cons, List.flatten_cons, Nat.zero_mul, Nat.zero_add, List.getElem?_append_left (by simp [fmV]; exact hj)]
    simpa using hv
  | z :: L, i + 1, y, h, j, v, hv => by
    have h' : L[i]? = some y := by simpa using h
    have ih := fmCells_at L i y h' j v hv
    unfold fmCells at ih ⊢
    rw [List.map_cons, List.flatten_cons, List.getElem?_append_right (by simp [fmV]; omega), ← ih]
    congr 1
    simp [fmV]
    omega
theorem fmCells_one (L : List Fi) : ∀ u ∈ fmCells L, u.oneCell' = true := by
  intro u hu
  unfold fmCells at hu
  obtain ⟨l, hl, hu⟩ := List.mem_flatten.1 hu
  obtain ⟨y, _, rfl⟩ := List.mem_map.1 hl
  simp [fmV] at hu
  rcases hu with rfl | rfl <;> rfl
/-- THE MODEL'S CHANGES IN MEMORY. -/
structure Fms (w : World) (S : Nat → Prop) (A : Option Addr) (n c : Nat) (l : List Fi) : Prop where
  len : l.length = n
  cap : n ≤ c
  max : c ≤ maxLen
  row : 0 < n → ∃ b off, A = some ⟨b, off, none⟩ ∧ S b ∧ b < w.heap.size ∧ ∀ i x, l[i]? = some x → ∀ (j : Nat) (v : Value), (fmV x)[j]? = some v → w.cell? ⟨b, off + i * 2 + j, none⟩ = some v
variable {w w' : World} {S T : Nat → Prop} {A : Option Addr} {n c : Nat} {l : List Fi}
theorem Fms.turned (h : Fms w S A n c l) (ht : Turned T w w') (hd : ∀ k, k < w.heap.size → S k → ¬ T k) : Fms w' S A n c l :=
  ⟨h.len, h.cap, h.max, fun h0 => by
    obtain ⟨b, off, h1, h2, h3, h4⟩ := h.row h0
    exact ⟨b, off, h1, h2, Nat.lt_of_lt_of_le h3 ht.size, fun i x hx j v hv => (cell_turned ht h3 (hd b h3 h2) _).trans (h4 i x hx j v hv)⟩⟩
theorem Fms.below (h : Fms w S A n c l) (hb : Below w.heap.size w w') : Fms w' S A n c l :=
  h.turned (T := fun _ => False) (Turned.of_below hb) fun _ _ _ h => h
theorem Fms.mono (h : Fms w S A n c l) (hT : ∀ k, k < w.heap.size → S k → T k) : Fms w T A n c l :=
  ⟨h.len, h.cap, h.max, fun h0 => by
    obtain ⟨b, off, h1, h2, h3, h4⟩ := h.row h0
    exact ⟨b, off, h1, hT b h3 h2, h3, h4⟩⟩
theorem Fms.nil (w : World) (S : Nat → Prop) (A : Option Addr) (c : Nat) (hc : c ≤ maxLen) : Fms w S A 0 c [] := ⟨rfl, Nat.zero_le _, hc, fun h => absurd h (by omega)⟩
theorem Fms.at_ (h : Fms w S A n c l) {i : Nat} (hi : i < n) : ∃ b off x, A = some ⟨b, off, none⟩ ∧ S b ∧ b < w.heap.size ∧ l[i]? = some x ∧ w.cell? ⟨b, off + i * 2, none⟩ = some (.string (st x.1)) ∧ w.cell? ⟨b, off + i * 2 + 1, none⟩ = some (.string (st x.2)) := by
  obtain ⟨b, off, h1, h2, h3, h4⟩ := h.row (by omega)
  have hx : l[i]? = some (l[i]'(by have := h.len; omega)) := List.getElem?_eq_getElem _
  exact ⟨b, off, _, h1, h2, h3, hx, h4 i _ hx 0 _ rfl, h4 i _ hx 1 _ rfl⟩
theorem fmV_one (x : Fi) : (fmV x).all (·.oneCell') = true := by simp [fmV, Value.oneCell']
end Go.Proofs.Ytmmibldchfmleaa

/-! Objects in memory: entries, ids, objects, the model's. -/
namespace Go.Proofs.Ytmmibldchfmleaa
open Go.RowKit Codec

def enV (y : En) : Array Value := #[.string (st y.1), .bool y.2.1] ++ row8 y.2.2
theorem enV_list (y : En) : (enV y).toList = .string (st y.1) :: .bool y.2.1 :: u8s y.2.2 := by simp [enV, row8]
theorem enV_size {y : En} (h : y.2.2.length = 32) : (enV y).size = 34 := by simp [enV, row8_size, h]
theorem enV_0 (y : En) : (enV y)[0]? = some (.string (st y.1)) := by
  unfold enV
  rw [Array.getElem?_append_left (by simp)]
  rfl
theorem enV_1 (y : En) : (enV y)[1]? = some (.bool y.2.1) := by
  unfold enV
  rw [Array.getElem?_append_left (by simp)]
  rfl
theorem enV_one (y : En) : ∀ u ∈ (enV y).toList, u.oneCell' = true := by
  intro u hu
  rw [enV_list] at hu
  rcases List.mem_cons.1 hu with rfl | hu
  · rfl
  · rcases List.mem_cons.1 hu with rfl | hu
    · rfl
    · exact u8s_one _ u hu
theorem enV_all (y : En) : (enV y).all (·.oneCell') = true := by
  rw [← Array.all_toList, List.all_eq_true]
  exact enV_one y
theorem enV_id {y : En} {j : Nat} {v : Value} (h : (row8 y.2.2)[j]? = some v) : (enV y)[2 + j]? = some v := by
  unfold enV
  rw [Array.getElem?_append_right (by simp)]
  simpa using h
def enCells (L : List En) : List Value := (L.map fun y => (enV y).toList).flatten
theorem enCells_len {L : List En} (h : ∀ y ∈ L, y.2.2.length = 32) : (enCells L).length = L.length * 34 := by
  induction L with
  | nil => rfl
  | cons y L ih =>
    have ih := ih fun z hz => h z (List.mem_cons_of_mem _ hz)
    unfold enCells at ih ⊢
    rw [List.map_cons, List.flatten_cons, List.length_append, ih, List.length_cons, Array.length_toList, enV_size (h y List.mem_cons_self)]
    omega
theorem enCells_app (L M : List En) : enCells (L ++ M) = enCells L ++ enCells M := by simp [enCells]
theorem enCells_at : ∀ {L : List En}, (∀ y ∈ L, y.2.2.length = 32) → ∀ (i : Nat) (y : En), L[i]? = some y → ∀ (j : Nat) (v : Value), (enV y)[j]? = some v → (enCells L)[i * 34 + j]? = some v
  | [], _, i, y, h, _, _, _ => by simp at h
  | z :: L, hw, 0, y, h, j, v, hv => by
    simp at h
    subst h
    have hj : j < 34 := by
      have := (Array.getElem?_eq_some_iff.1 hv).1
      rwa [enV_size (hw z List.mem_cons_self)] at this
    unfold enCells
    rw [List.map_cons, List.flatten_cons, Nat.zero_mul, Nat.zero_add, List.getElem?_append_left (by rw [Array.length_toList, enV_size (hw z List.mem_cons_self)]; exact hj)]
    simpa using hv
  | z :: L, hw, i + 1, y, h, j, v, hv => by
    have h' : L[i]? = some y := by simpa using h
    have ih := enCells_at (L := L) (fun y hy => hw y (List.mem_cons_of_mem _ hy)) i y h' j v hv
    have hs := enV_size (hw z List.mem_cons_self)
    unfold enCells at ih ⊢
    rw [List.map_cons, List.flatten_cons, List.getElem?_append_right (by rw [Array.length_toList, hs]; omega), ← ih, Array.length_toList, hs]
    congr 1
    omega
theorem enCells_one (L : List En) : ∀ u ∈ enCells L, u.oneCell' = true := by
  intro u hu
  unfold enCells at hu
  obtain ⟨l, hl, hu⟩ := List.mem_flatten.1 hu
  obtain ⟨y, _, rfl⟩ := List.mem_map.1 hl
  exact enV_one y u hu
/-- ENTRIES IN MEMORY (the code's and the model's lie alike). -/
structure Ens (w : World) (S : Nat → Prop) (A : Option Addr) (n c : Nat) (l : List En) : Prop where
  len : l.length = n
  cap : n ≤ c
  max : c ≤ maxLen
  each : ∀ y ∈ l, y.2.2.length = 32
  row : 0 < n → ∃ b off, A = some ⟨b, off, none⟩ ∧ S b ∧ b < w.heap.size ∧ ∀ i x, l[i]? = some x → ∀ (j : Nat) (v : Value), (enV x)[j]? = some v → w.cell? ⟨b, off + i * 34 + j, none⟩ = some v
section
variable {w w' : World} {S T : Nat → Prop} {A : Option Addr} {n c : Nat} {l : List En}
theorem Ens.turned (h : Ens w S A n c l) (ht : Turned T w w') (hd : ∀ k, k < w.heap.size → S k → ¬ T k) : Ens w' S A n c l :=
  ⟨h.len, h.cap, h.max, h.each, fun h0 => by
    obtain ⟨b, off, h1, h2, h3, h4⟩ := h.row h0
    exact ⟨b, off, h1, h2, Nat.lt_of_lt_of_le h3 ht.size, fun i x hx j v hv => (cell_turned ht h3 (hd b h3 h2) _).trans (h4 i x hx j v hv)⟩⟩
theorem Ens.below (h : Ens w S A n c l) (hb : Below w.heap.size w w') : Ens w' S A n c l :=
  h.turned (T := fun _ => False) ⟨hb.os, hb.tape, hb.output, hb.size, fun k hk _ => hb.block k hk⟩ fun _ _ _ h => h
theorem Ens.mono (h : Ens w S A n c l) (hT : ∀ k, k < w.heap.size → S k → T k) : Ens w T A n c l :=
  ⟨h.len, h.cap, h.max, h.each, fun h0 => by
    obtain ⟨b, off, h1, h2, h3, h4⟩ := h.row h0
    exact ⟨b, off, h1, hT b h3 h2, h3, h4⟩⟩
theorem Ens.nil (w : World) (S : Nat → Prop) (A : Option Addr) (c : Nat) (hc : c ≤ maxLen) : Ens w S A 0 c [] := ⟨rfl, Nat.zero_le _, hc, (fun _ h => absurd h (by simp)), fun h => absurd h (by omega)⟩
theorem Ens.at_ (h : Ens w S A n c l) {i : Nat} (hi : i < n) : ∃ b off x, A = some ⟨b, off, none⟩ ∧ S b ∧ b < w.heap.size ∧ l[i]? = some x ∧ x.2.2.length = 32 ∧ ∀ (j : Nat) (v : Value), (enV x)[j]? = some v → w.cell? ⟨b, off + i * 34 + j, none⟩ = some v := by
  obtain ⟨b, off, h1, h2, h3, h4⟩ := h.row (by omega)
  have hx : l[i]? = some (l[i]'(by have := h.len; omega)) := List.getElem?_eq_getElem _
  exact ⟨b, off, _, h1, h2, h3, hx, h.each _ (List.getElem_mem _), h4 i _ hx⟩
/-- A row that a call has made. -/
theorem own_ens {e : TypeId} {B : Nat} {v : Value} (hw : ∀ y ∈ l, y.2.2.length = 32) (h : w.ownsRow B e 34 v l.length (enCells l)) : ∃ A c, v = .slice A l.length c ∧ Ens w (B ≤ ·) A l.length c l := by
  obtain ⟨e1, e2⟩ := h
  rcases e2 with ⟨rfl, e2⟩ | ⟨g, cap, cur, rfl, e3, e4, e5, e6, e7, e8⟩
  · have hl : l = [] := List.eq_nil_of_length_eq_zero e2
    subst hl
    exact ⟨none, 0, rfl, Ens.nil _ _ _ _ (Nat.zero_le _)⟩
  · refine ⟨_, _, rfl, rfl, e5, e6, hw, fun h0 => ⟨g, 0, rfl, e3, lt_of_cells e4, fun i x hx j u hu => ?_⟩⟩
    have hc := enCells_at hw i x hx j u hu
    rw [← e8] at hc
    rw [Nat.zero_add, cell_of_cells e4]
    have hlt := (List.getElem?_eq_some_iff.1 hc).1
    rw [List.length_take] at hlt
    rw [List.getElem?_take_of_lt (by omega)] at hc
    simpa using hc
end
def zeroEn : Array Value := #[.string ⟨#[]⟩, .bool false] ++ row8 (List.replicate 32 0)
theorem zeroEn_en : zeroEn = enV ([], false, List.replicate 32 0) := rfl
theorem run_zero {T : TypeId} {z : Value} {s b : Nat} (h : (Try.prog.info? T).map (fun i => (i.zero, i.size, i.bytes)) = some (some z, s, b)) : ∀ W, (zeroValue T).run Try.prog W = .ok z W := fun W => by
  obtain ⟨i, hi, hz, _, _⟩ := info_parts h
  simp [zeroValue, typeInfo, hi, hz]
/-- Some are laid behind such a row. -/
theorem own_ens_app {w : World} {l : List En} {e t : TypeId} (hi3 : (Try.prog.info? e).map (fun i => (i.zero, i.size, i.bytes)) = some (some (.agg zeroEn), 34, 56)) (ht : Try.prog.underlying t = some (.slice e)) {B : Nat} {v : Value} (h : w.ownsRow B e 34 v l.length (enCells l)) (hB : B ≤ w.heap.size) {n2 c2 : Nat} {a : Addr} {m : List En} (hw : ∀ y ∈ l ++ m, y.2.2.length = 32) (hm : m.length = n2) (hrow : ∀ (j : Nat) (u : Value), (enCells m)[j]? = some u → w.cell? (a.add j) = some u) (hl : l.length + n2 ≤ 1000000) (ty : TypeId) :
    ∃ A' c' W', (Builtin.append_ #[t, t] ty #[v, .slice (some a) n2 c2]).run Try.prog w = .ok (.slice A' (l ++ m).length c') W' ∧ W'.ownsRow B e 34 (.slice A' (l ++ m).length c') (l ++ m).length (enCells (l ++ m)) ∧ Below B w W' ∧ w.grownBy W' v.ownBlock := by
  obtain ⟨i0, hi, hz0, hz1, hz2⟩ := info_parts hi3
  obtain ⟨v', W', hr, g1, g2, _, g4⟩ := run_append_own_at (P := Try.prog) w B t ty e i0 (.agg zeroEn) 34 56 ht hi hz0 hz1 hz2 (by rw [zeroEn_en]; exact enV_size (by simp)) (by decide) v l.length (enCells l) h a n2 c2 (enCells m) (by rw [enCells_len fun y hy => hw y (List.mem_append_right _ hy), hm])
    hrow (enCells_one m) (by unfold maxLen; omega) (by omega) hB
  have hb : Below B w W' := (Below.refl B w).grown g2 hB fun g hg => (h.lt g hg).1
  rw [← enCells_app] at g1
  have hlen : l.length + n2 = (l ++ m).length := by rw [List.length_append, hm]
  rw [hlen] at g1
  obtain ⟨A', c', rfl, _⟩ := own_ens hw g1
  exact ⟨A', c', W', hr, g1, hb, g2⟩
theorem own_ids_app {w : World} {l : List (List UInt8)} {B : Nat} {v : Value} (h : w.ownsRow B 31 32 v l.length (idsC l)) (hB : B ≤ w.heap.size) {n2 c2 : Nat} {a : Addr} {m : List (List UInt8)} (hw : ∀ y ∈ l ++ m, y.length = 32) (hm : m.length = n2) (hrow : ∀ (j : Nat) (u : Value), (idsC m)[j]? = some u → w.cell? (a.add j) = some u) (hl : l.length + n2 ≤ 1000000) (ty : TypeId) :
    ∃ A' c' W', (Builtin.append_ #[55, 55] ty #[v, .slice (some a) n2 c2]).run Try.prog w = .ok (.slice A' (l ++ m).length c') W' ∧ W'.ownsRow B 31 32 (.slice A' (l ++ m).length c') (l ++ m).length (idsC (l ++ m)) ∧ Below B w W' ∧ w.grownBy W' v.ownBlock := by
  obtain ⟨i0, hi, hz0, hz1, hz2⟩ := info_parts id_info3
  obtain ⟨v', W', hr, g1, g2, _, g4⟩ := run_append_own_at (P := Try.prog) w B 55 ty 31 i0 (.agg zerosId) 32 32 Try.underlying55 hi hz0 hz1 hz2 (by unfold zerosId; simp [Value.cells, u8s_length]) (by decide) v l.length (idsC l) h a n2 c2 (idsC m) (by unfold idsC; rw [u8s_length, flatten_length32 fun y hy => hw y (List.mem_append_right _ hy), hm])
    hrow (u8s_one _) (by unfold maxLen; omega) (by omega) hB
  have hb : Below B w W' := (Below.refl B w).grown g2 hB fun g hg => (h.lt g hg).1
  have e : idsC l ++ idsC m = idsC (l ++ m) := by unfold idsC; rw [← u8s_append, List.flatten_append]
  rw [e] at g1
  have hlen : l.length + n2 = (l ++ m).length := by rw [List.length_append, hm]
  rw [hlen] at g1
  obtain ⟨A', c', rfl, _⟩ := own_ids g1 hw
  exact ⟨A', c', W', hr, g1, hb, g2⟩

/-! ### objects -/
/-- Where an object's slices lie. -/
structure At where
  A : Option Addr
  n : Nat
  c : Nat
  IA : Option Addr
  i : Nat
  ic : Nat
  EA : Option Addr
  e : Nat
  ec : Nat
def atZ : At := ⟨none, 0, 0, none, 0, 0, none, 0, 0⟩
/-- An object's cells. -/
def obV (p : At) (x : Ob) : Array Value := #[.int .u8 (x.k : Int), .slice p.A p.n p.c, .int .u64 (x.z : Int), .slice p.IA p.i p.ic, .slice p.EA p.e p.ec, .string (st x.lb)]
/-- The model's. -/
def omV (p : At) (x : Ob) : Array Value := #[.int .u8 (x.k : Int), .string (st x.b), .int .u64 (x.z : Int), .slice p.IA p.i p.ic, .slice p.EA p.e p.ec, .string (st x.lb)]
theorem obV_one (p : At) (x : Ob) : (obV p x).all (·.oneCell') = true := by simp [obV, Value.oneCell']
theorem omV_one (p : At) (x : Ob) : (omV p x).all (·.oneCell') = true := by simp [omV, Value.oneCell']
/-- THE IDS AND ENTRIES OF AN OBJECT. -/
structure Ois (w : World) (S : Nat → Prop) (p : At) (x : Ob) : Prop where
  wf : x.Wf
  lb : x.lb.length ≤ maxLen
  nm : ∀ y ∈ x.es, y.1.length ≤ maxLen
  bl : x.b.length ≤ maxLen
  ids : Ids w S p.IA p.i p.ic x.ids
  es : Ens w S p.EA p.e p.ec x.es
/-- AN OBJECT IN MEMORY. -/
structure Obm (w : World) (S : Nat → Prop) (p : At) (x : Ob) : Prop where
  o : Ois w S p x
  b : Byt w S p.A p.n p.c x.b
section
variable {w w' : World} {S T : Nat → Prop} {p : At} {x : Ob}
theorem Ois.turned (h : Ois w S p x) (ht : Turned T w w') (hd : ∀ k, k < w.heap.size → S k → ¬ T k) : Ois w' S p x := ⟨h.wf, h.lb, h.nm, h.bl, h.ids.turned ht hd, h.es.turned ht hd⟩
theorem Ois.below (h : Ois w S p x) (hb : Below w.heap.size w w') : Ois w' S p x := ⟨h.wf, h.lb, h.nm, h.bl, h.ids.below hb, h.es.below hb⟩
theorem Ois.mono (h : Ois w S p x) (hT : ∀ k, k < w.heap.size → S k → T k) : Ois w T p x := ⟨h.wf, h.lb, h.nm, h.bl, h.ids.mono hT, h.es.mono hT⟩
theorem Obm.turned (h : Obm w S p x) (ht : Turned T w w') (hd : ∀ k, k < w.heap.size → S k → ¬ T k) : Obm w' S p x := ⟨h.o.turned ht hd, h.b.turned ht hd⟩
theorem Obm.below (h : Obm w S p x) (hb : Below w.heap.size w w') : Obm w' S p x := ⟨h.o.below hb, h.b.below hb⟩
theorem Obm.mono (h : Obm w S p x) (hT : ∀ k, k < w.heap.size → S k → T k) : Obm w T p x := ⟨h.o.mono hT, h.b.mono hT⟩
theorem ois_zero (w : World) (S : Nat → Prop) : Ois w S atZ obZ := ⟨obZ_wf, by simp [obZ], (fun _ h => by cases h), by simp [obZ], Ids.nil _ _ _ _ (Nat.zero_le _), Ens.nil _ _ _ _ (Nat.zero_le _)⟩
theorem obj_zero (w : World) (S : Nat → Prop) : Obm w S atZ obZ := ⟨ois_zero w S, Byt.nil _ _ _ _ (Nat.zero_le _)⟩
end
end Go.Proofs.Ytmmibldchfmleaa

/-! codec.Writer: what each of its methods does, told of a writer that holds a list of bytes ('Wr'). -/
namespace Go.Proofs.Ytmmibldchfmleaa
open Go.RowKit Codec

/-- THE STRUCT AT BLOCK p IS A WRITER that holds the bytes l; all its memory lies in blocks of S. -/
def Wr (w : World) (S : Nat → Prop) (p : Nat) (l : List UInt8) : Prop :=
  S p ∧ ∃ A c, w.heap[p]? = some (.cells #[.slice A l.length c] 103 (0, 0)) ∧ w.ownsRow 0 5 1 (.slice A l.length c) l.length (u8s l) ∧ ∀ a, A = some a → S a.block

section
variable {w w' : World} {S : Nat → Prop} {p : Nat} {l : List UInt8}
theorem Wr.lt (h : Wr w S p l) : p < w.heap.size := by
  obtain ⟨_, A, c, hh, _⟩ := h
  exact lt_of_cells hh
theorem own_lt {base : Nat} {e : TypeId} {size : Nat} {A : Option Addr} {n c : Nat} {xs : List Value} (h : w.ownsRow base e size (.slice A n c) n xs) : ∀ a, A = some a → a.block < w.heap.size := by
  rintro a rfl
  exact (h.lt a.block rfl).2
theorem Wr.mono {T : Nat → Prop} (h : Wr w S p l) (hS : ∀ b, b < w.heap.size → S b → T b) : Wr w T p l := by
  have hlt := h.lt
  obtain ⟨hp, A, c, hh, ho, hs⟩ := h
  exact ⟨hS _ hlt hp, A, c, hh, ho, fun a ha => hS _ (own_lt ho a ha) (hs a ha)⟩
/-- What a writer does not hold may turn. -/
theorem Wr.turned {T : Nat → Prop} (h : Wr w S p l) (ht : Turned T w w') (hd : ∀ b, b < w.heap.size → S b → ¬ T b) : Wr w' S p l := by
  have hlt := h.lt
  obtain ⟨hp, A, c, hh, ho, hs⟩ := h
  refine ⟨hp, A, c, (ht.block p hlt (hd p hlt hp)).trans hh, ?_, hs⟩
  obtain ⟨h1, h2⟩ := ho
  refine ⟨h1, ?_⟩
  rcases h2 with h2 | ⟨g, cap, cur, hv, hg, hhg, r⟩
  · exact .inl h2
  · have hgl := lt_of_cells hhg
    have hsg : S g := hs ⟨g, 0, none⟩ (by injection hv)
    exact .inr ⟨g, cap, cur, hv, hg, (ht.block g hgl (hd g hgl hsg)).trans hhg, r⟩
theorem Rd.turned {e : Int} {T : Nat → Prop} (h : Rd w S p l e) (ht : Turned T w w') (hd : ∀ b, b < w.heap.size → S b → ¬ T b) : Rd w' S p l e := by
  have hlt := h.lt
  obtain ⟨hB, A, n, c, hh, hy⟩ := h
  exact ⟨hB, A, n, c, (ht.block p hlt (hd p hlt hB)).trans hh, hy.turned ht hd⟩

/-- The store behind an append: the writer then. -/
theorem Wr.put_back {w1 : World} {l m : List UInt8} {A A' : Option Addr} {c c' n : Nat} (hp : S p) (hh : w.heap[p]? = some (.cells #[.slice A l.length c] 103 (0, 0))) (ho : w.ownsRow 0 5 1 (.slice A l.length c) l.length (u8s l)) (hs : ∀ a, A = some a → S a.block)
    (hsz : w.heap.size ≤ w'.heap.size) (hw : ∀ k, k < w.heap.size → w'.heap[k]? = w.heap[k]?)
    (ho1 : w1.ownsRow 0 5 1 (.slice A' n c') n (u8s l ++ u8s m)) (hn : n = l.length + m.length) (hg : w'.grownBy w1 (Value.slice A l.length c).ownBlock)
    (hat : (Value.slice A' n c').ownBlock = (Value.slice A l.length c).ownBlock ∨ (Value.slice A' n c').ownBlock = some w'.heap.size) :
    Wr (w1.setCell ⟨p, 0, none⟩ (.slice A' n c')) (fun b => S b ∨ w.heap.size ≤ b) p (l ++ m) := by
  have hplt := lt_of_cells hh
  have hne : ∀ g, (Value.slice A l.length c).ownBlock = some g → g ≠ p := by
    rintro g hg rfl
    rcases ho.2 with ⟨hv, _⟩ | ⟨g', cap, cur, hv, _, hhg, _⟩
    · rw [hv] at hg; simp [Value.ownBlock] at hg
    · rw [hv] at hg
      simp [Value.ownBlock] at hg
      subst hg
      rw [hh] at hhg
      injection hhg with hhg
      injection hhg with _ ht _
      exact absurd ht (by decide)
  have hp1 : w1.heap[p]? = some (.cells #[.slice A l.length c] 103 (0, 0)) :=
    (hg.block p (by omega) (fun e => hne p e.symm rfl)).trans ((hw p hplt).trans hh)
  have hlen : n = (l ++ m).length := by rw [hn, List.length_append]
  subst hlen
  rw [← u8s_append] at ho1
  have hne1 : ∀ g, (Value.slice A' (l ++ m).length c').ownBlock = some g → g ≠ p := by
    intro g hg1
    rcases hat with e | e
    · rw [e] at hg1; exact hne g hg1
    · rw [e] at hg1; injection hg1; omega
  refine ⟨.inl hp, A', c', by simpa using set_of_cells hp1 0 _, ?_, ?_⟩
  · obtain ⟨h1, h2⟩ := ho1
    refine ⟨h1, ?_⟩
    rcases h2 with h2 | ⟨g, cap, cur, hv, hgb, hhg, r⟩
    · exact .inl h2
    · have : g ≠ p := hne1 g (by rw [hv]; rfl)
      exact .inr ⟨g, cap, cur, hv, hgb, (Below.heap_setCell _ _ _ _ this).trans hhg, r⟩
  · rintro a rfl
    rcases hat with e | e
    · rcases A with _ | a0
      · simp [Value.ownBlock] at e
      · simp [Value.ownBlock] at e
        exact .inl (by rw [e]; exact hs a0 rfl)
    · simp [Value.ownBlock] at e
      exact .inr (by omega)
end

theorem own_wr {S : Nat → Prop} {A : Option Addr} {n c : Nat} (hs : ∀ a, A = some a → S a.block) : ∀ g, (Value.slice A n c).ownBlock = some g → S g := by
  intro g hg
  rcases A with _ | a
  · simp [Value.ownBlock] at hg
  · simp [Value.ownBlock] at hg
    rw [← hg]; exact hs a rfl

/-- What the walk is told behind an append to a writer's bytes. -/
theorem Wr.app {w wx w1 : World} {S : Nat → Prop} {p : Nat} {l m : List UInt8} {A A' : Option Addr} {c c' n : Nat} (hp : S p) (hh : w.heap[p]? = some (.cells #[.slice A l.length c] 103 (0, 0))) (ho : w.ownsRow 0 5 1 (.slice A l.length c) l.length (u8s l)) (hs : ∀ a, A = some a → S a.block)
    (hx : Below w.heap.size w wx) (ho1 : w1.ownsRow 0 5 1 (.slice A' n c') n (u8s l ++ u8s m)) (hn : n = l.length + m.length) (hg : wx.grownBy w1 (Value.slice A l.length c).ownBlock)
    (hat : (Value.slice A' n c').ownBlock = (Value.slice A l.length c).ownBlock ∨ (Value.slice A' n c').ownBlock = some wx.heap.size) :
    w1.cell? ⟨p, 0, none⟩ = some (.slice A l.length c) ∧ w1.frozen? ⟨p, 0, none⟩ = false ∧
      Hid (Wr (w1.setCell ⟨p, 0, none⟩ (.slice A' n c')) (fun b => S b ∨ w.heap.size ≤ b) p (l ++ m) ∧ Turned S w (w1.setCell ⟨p, 0, none⟩ (.slice A' n c'))) := by
  have hplt := lt_of_cells hh
  have hne : (Value.slice A l.length c).ownBlock ≠ some p := by
    intro hg
    rcases ho.2 with ⟨hv, _⟩ | ⟨g', cap, cur, hv, _, hhg, _⟩
    · rw [hv] at hg; simp [Value.ownBlock] at hg
    · rw [hv] at hg
      simp [Value.ownBlock] at hg
      subst hg
      rw [hh] at hhg
      injection hhg with hhg
      injection hhg with _ ht _
      exact absurd ht (by decide)
  have hp1 : w1.heap[p]? = some (.cells #[.slice A l.length c] 103 (0, 0)) :=
    (hg.block p (Nat.lt_of_lt_of_le hplt hx.size) (fun e => hne e.symm)).trans ((hx.block p hplt).trans hh)
  refine ⟨by rw [cell_of_cells hp1 0]; rfl, free_of_cells hp1 0, ?_⟩
  refine ⟨Wr.put_back hp hh ho hs hx.size (fun k hk => hx.block k hk) ho1 hn hg hat, ?_⟩
  exact ((Turned.of_below hx).trans (Turned.of_gr hg (own_wr hs)) fun _ _ h => h).set hp _ _



theorem own_cap {w : World} {base : Nat} {e : TypeId} {size : Nat} {A : Option Addr} {n c : Nat} {xs : List Value} (h : w.ownsRow base e size (.slice A n c) n xs) : n ≤ c := by
  rcases h.2 with ⟨hv, rfl⟩ | ⟨g', cap, cur, hv, _, _, hn, _⟩
  · omega
  · injection hv with _ _ hc; omega

/-- The post of a writer's call. -/
def Put (w : World) (S : Nat → Prop) (p : Nat) (l : List UInt8) (e : Ending) (w' : World) : Prop := e = .returned (.tuple #[]) ∧ Wr w' (fun b => S b ∨ w.heap.size ≤ b) p l ∧ Turned S w w'

set_option maxHeartbeats 1000000 in
theorem wfixed {w : World} {S T : Nat → Prop} {p : Nat} {l m : List UInt8} {A : Option Addr} {n c : Nat} (h : Wr w S p l) (hm : Byt w T A n c m) (hb : l.length + n ≤ 140737488355328) :
    Calls Try.prog 33 #[.pointer (some ⟨p, 0, none⟩), .slice A n c] w (Put w S p (l ++ m)) := by
  obtain ⟨i0, hi, hz0, hz1, hz2⟩ := info_parts u8_info
  have hmax := hm.max
  have hcap := hm.cap
  have hmlen := hm.len
  have hW := Lib.hid h
  obtain ⟨hp, A0, c0, hh, ho, hs⟩ := h
  have h0 := cell_of_cells hh 0
  simp only [List.getElem?_toArray, List.getElem?_cons_zero] at h0
  have f0 := free_of_cells hh 0
  have hoc := own_cap ho
  have HH := Lib.hid hh
  have HO := Lib.hid ho
  have HL := Lib.hid hmlen
  rcases A with _ | ad
  · have hn0 : n = 0 := by
      rcases Nat.eq_zero_or_pos n with h0 | h0
      · exact h0
      · obtain ⟨_, _, hA, _⟩ := hm.row h0
        cases hA
    subst hn0
    obtain rfl : m = [] := List.eq_nil_of_length_eq_zero hmlen
    have fin : Put w S p (l ++ []) (.returned (.tuple #[])) (w.setCell ⟨p, 0, none⟩ (.slice A0 l.length c0)) := by
      rw [List.append_nil]
      refine ⟨rfl, ⟨.inl hp, A0, c0, by simpa using set_of_cells hh 0 (.slice A0 l.length c0), ?_, fun a ha => .inl (hs a ha)⟩, (Turned.refl _ _).set hp _ _⟩
      obtain ⟨h1, h2⟩ := ho
      refine ⟨h1, ?_⟩
      rcases h2 with h2 | ⟨g, cap, cur, hv, hgb, hhg, r⟩
      · exact .inl h2
      · have : g ≠ p := by
          rintro rfl
          rw [hh] at hhg
          injection hhg with hhg
          injection hhg with _ ht _
          exact absurd ht (by decide)
        exact .inr ⟨g, cap, cur, hv, hgb, (Below.heap_setCell _ _ _ _ this).trans hhg, r⟩
    clear hm hh ho hmlen
    go_enter Try.func33, Try.ntmps33
    go_wp2_with (at_builtin; refine wpList_append_zero (by rfl) _ _ 49 (by rfl) 5 i0 Try.underlying49 hi A0 l.length c0 c hoc (by rfl) (by rfl) ?_)
    go_end0
    exact fin
  · have hnews := byt_news hm
    have hlen := u8s_length m
    have hone := u8s_one m
    clear hm hh ho hmlen
    go_enter Try.func33, Try.ntmps33
    go_wp2_with (at_builtin; refine wpList_append_own_at _ rfl _ _ 49 rfl 0 5 i0 (.int .u8 0) 1 1 Try.underlying49 hi hz0 hz1 hz2 rfl (by decide) _ l.length (u8s l) rfl HO.out ad n c (u8s m) rfl ?qc1 hnews hone ?qc4 ?qc5 ?qc6 ?_)
    case qc1 => rw [hlen, HL.out]; omega
    case qc4 => unfold maxLen at *; omega
    case qc5 => omega
    case qc6 => simp
    intro v' w1 hown hgrow hnn hat
    obtain ⟨A', c', rfl, _⟩ := own_byt (l := l ++ m) (by rw [u8s_append]; exact hown)
    obtain ⟨g1, g2, g3⟩ := Wr.app hp HH.out HO.out hs (Below.refl _ _) hown (by rw [HL.out]) hgrow hat
    clear hown hgrow hnn hat h0 f0 hnews
    go_wp2
    go_end0
    exact ⟨rfl, g3.out⟩
end Go.Proofs.Ytmmibldchfmleaa

/-! codec.Writer, its further methods. -/
namespace Go.Proofs.Ytmmibldchfmleaa
open Go.RowKit Codec

theorem or128_all : ∀ a, a < 256 → a ||| 128 = a % 128 + 128 := by decide +kernel
theorem byte_more (x : Nat) : bits .or .u8 (IntKind.u8.wrap (x : Int)) 128 = ((UInt8.ofNat (x % 128 + 128)).toNat : Int) := by
  have e : IntKind.u8.wrap (x : Int) = ((x % 256 : Nat) : Int) := by simp [IntKind.wrap, IntKind.signed, IntKind.bits]
  rw [e, show (128 : Int) = ((128 : Nat) : Int) from rfl, u8_or_nat _ _ (by omega) (by omega), or128_all _ (by omega)]
  have : (UInt8.ofNat (x % 128 + 128)).toNat = x % 128 + 128 := by simp; omega
  rw [this]
  omega
theorem byte_last (x : Nat) : IntKind.u8.wrap (x : Int) = ((UInt8.ofNat x).toNat : Int) := by
  have e : IntKind.u8.wrap (x : Int) = ((x % 256 : Nat) : Int) := by simp [IntKind.wrap, IntKind.signed, IntKind.bits]
  rw [e]
  simp


set_option maxHeartbeats 1000000 in
set_option maxRecDepth 100000 in
theorem wuint {w : World} {S : Nat → Prop} {p : Nat} {l : List UInt8} {x : Nat} (h : Wr w S p l) (hx : x < 18446744073709551616) (hb : l.length + 10 ≤ 140737488355328) :
    Calls Try.prog 32 #[.pointer (some ⟨p, 0, none⟩), .int .u64 x] w (Put w S p (l ++ put x)) := by
  obtain ⟨i0, hi, hz0, hz1, hz2⟩ := info_parts u8_info
  go_enter Try.func32, Try.ntmps32
  go_wp2
  go_loopw [1] (fun s1 wr => ∃ (y : Nat) (d : List UInt8), y < 18446744073709551616 ∧ s1 = .int .u64 y ∧ Hid (l ++ put x = d ++ put y) ∧ Wr wr (fun b => S b ∨ w.heap.size ≤ b) p d ∧ Turned S w wr) (fun s1 _ => (intOf s1).toNat)
  case atStart => exact ⟨x, l, hx, rfl, rfl, h.mono fun _ _ hs => .inl hs, Turned.refl _ _⟩
  case round =>
    obtain ⟨y, d, hy, rfl, HD, hW, hT⟩ := hrel
    obtain ⟨hp, A0, c0, hh, ho, hs⟩ := hW
    have h0 := cell_of_cells hh 0
    simp only [List.getElem?_toArray, List.getElem?_cons_zero] at h0
    have f0 := free_of_cells hh 0
    have hdl : d.length + 1 ≤ l.length + 10 := by
      have e := congrArg List.length HD.out
      have := put_length_64 hx
      have := put_length_pos y
      simp at e
      omega
    have HH := Lib.hid hh
    have HO := Lib.hid ho
    clear hh ho
    have hq4 : d.length + 1 ≤ maxLen := by unfold maxLen; omega
    have hq5 : (d.length + 1) * 1 ≤ 140737488355328 := by omega
    by_cases hlt : y < 128
    · have hge : ¬ 128 ≤ y := by omega
      have hput := put_small hlt
      have HP := Lib.hid hput
      have hone : [Value.int .u8 (y : Int)] = u8s [UInt8.ofNat y] := by simp [u8s, Nat.mod_eq_of_lt (show y < 256 by omega)]
      have HV := Lib.hid hone
      clear hput hone
      go_wp2_with (at_builtin; refine wpList_append_own_at _ rfl _ _ 49 rfl 0 5 i0 (.int .u8 0) 1 1 Try.underlying49 hi hz0 hz1 hz2 rfl (by decide) _ d.length (u8s d) rfl (HO.out.alloc _) ⟨wr.heap.size, 0, none⟩ 1 1 [.int .u8 (y : Int)] rfl rfl (cell_one_new _ _ _) (one_of rfl) hq4 hq5 (Nat.zero_le _) ?_)
      intro v' w1 hown hgrow hnn hat
      rw [HV.out] at hown
      obtain ⟨A', c', rfl, _⟩ := own_byt (l := d ++ [UInt8.ofNat y]) (by rw [u8s_append]; exact hown)
      obtain ⟨g1, g2, g3⟩ := Wr.app (S := fun b => S b ∨ w.heap.size ≤ b) hp HH.out HO.out hs ((Below.refl _ _).alloc (Nat.le_refl _) _) hown rfl hgrow (hat.imp_right fun e => e.trans (by simp))
      have fin : Put w S p (l ++ put x) (.returned (.tuple #[])) (w1.setCell ⟨p, 0, none⟩ (.slice A' (d.length + 1) c')) := by
        rw [HD.out, HP.out]
        refine ⟨rfl, g3.out.1.mono fun b _ hs => ?_, hT.trans g3.out.2 fun i hi hs => ?_⟩
        · rcases hs with hs | hs
          · exact hs
          · exact .inr (Nat.le_trans hT.size hs)
        · rcases hs with hs | hs
          · exact hs
          · omega
      have HF := Lib.hid fin
      clear hown hgrow hnn hat h0 f0 fin
      go_wp2
      go_end0
      exact HF.out
    · have hone : [Value.int .u8 (bits .or .u8 (IntKind.u8.wrap (y : Int)) 128)] = u8s [UInt8.ofNat (y % 128 + 128)] := by rw [byte_more]; rfl
      have HV := Lib.hid hone
      have hput := put_big (x := y) (by omega)
      have HP := Lib.hid hput
      clear hput hone
      go_wp2_with (at_builtin; refine wpList_append_own_at _ rfl _ _ 49 rfl 0 5 i0 (.int .u8 0) 1 1 Try.underlying49 hi hz0 hz1 hz2 rfl (by decide) _ d.length (u8s d) rfl (HO.out.alloc _) ⟨wr.heap.size, 0, none⟩ 1 1 [.int .u8 (bits .or .u8 (IntKind.u8.wrap (y : Int)) 128)] rfl rfl (cell_one_new _ _ _) (one_of rfl) hq4 hq5 (Nat.zero_le _) ?_)
      intro v' w1 hown hgrow hnn hat
      rw [HV.out] at hown
      obtain ⟨A', c', rfl, _⟩ := own_byt (l := d ++ [UInt8.ofNat (y % 128 + 128)]) (by rw [u8s_append]; exact hown)
      obtain ⟨g1, g2, g3⟩ := Wr.app (S := fun b => S b ∨ w.heap.size ≤ b) hp HH.out HO.out hs ((Below.refl _ _).alloc (Nat.le_refl _) _) hown rfl hgrow (hat.imp_right fun e => e.trans (by simp))
      clear hown hgrow hnn hat h0 f0
      go_wp2
      go_roundw
      case rel =>
        refine ⟨y / 128, d ++ [UInt8.ofNat (y % 128 + 128)], by omega, ?_, ?_, g3.out.1.mono fun b _ hs => ?_, hT.trans g3.out.2 fun i hi hs => ?_⟩
        · go_num
        · show l ++ put x = _
          rw [HD.out, HP.out]; simp
        · rcases hs with hs | hs
          · exact hs
          · exact .inr (Nat.le_trans hT.size hs)
        · rcases hs with hs | hs
          · exact hs
          · omega
      case measure => simp [intOf]; omega
end Go.Proofs.Ytmmibldchfmleaa

/-! codec.Writer: Bytes, Bool, Out, NewWriter; a Writer and a Reader that are none. -/
namespace Go.Proofs.Ytmmibldchfmleaa
open Go.RowKit Codec

theorem Put.join {w w1 w2 : World} {S : Nat → Prop} {p : Nat} {l m : List UInt8} {e1 e2 : Ending} (h1 : Put w S p l e1 w1) (h2 : Put w1 (fun b => S b ∨ w.heap.size ≤ b) p m e2 w2) : Put w S p m (.returned (.tuple #[])) w2 :=
  ⟨rfl, h2.2.1.mono fun _ _ hs => by
    rcases hs with hs | hs
    · exact hs
    · exact .inr (Nat.le_trans h1.2.2.size hs),
   h1.2.2.trans h2.2.2 fun i hi hs => by
    rcases hs with hs | hs
    · exact hs
    · omega⟩
/-- Where all from B on is the writer's own. -/
theorem Put.from {w w' : World} {B p : Nat} {l : List UInt8} {e : Ending} (h : Put w (B ≤ ·) p l e w') (hB : B ≤ w.heap.size) : Wr w' (B ≤ ·) p l ∧ Below B w w' :=
  ⟨h.2.1.mono fun _ _ hs => by rcases hs with hs | hs <;> omega, h.2.2.below hB⟩



/-- What a writer holds, as bytes in its own row. -/
theorem wr_byt {w : World} {S : Nat → Prop} {p : Nat} {l : List UInt8} (h : Wr w S p l) : ∃ A c, w.cell? ⟨p, 0, none⟩ = some (.slice A l.length c) ∧ Byt w (fun _ => True) A l.length c l := by
  obtain ⟨_, A, c, hh, ho, _⟩ := h
  obtain ⟨A', c', hv, hb⟩ := own_byt ho
  injection hv with h1 _ h2
  subst h1 h2
  exact ⟨A, c, by rw [cell_of_cells hh 0]; rfl, hb.mono fun _ _ _ => trivial⟩

set_option maxHeartbeats 1000000 in
theorem wout {w : World} {S : Nat → Prop} {p : Nat} {l : List UInt8} (h : Wr w S p l) (hb : l.length ≤ 140737488355328) :
    Calls Try.prog 34 #[.pointer (some ⟨p, 0, none⟩)] w fun r w' => ∃ A c, r = .returned (.slice A l.length c) ∧ Byt w' (w.heap.size ≤ ·) A l.length c l ∧ Below w.heap.size w w' ∧ FreeRow w' A := by
  obtain ⟨A0, c0, h0, hY⟩ := wr_byt h
  go_enter Try.func34, Try.ntmps34
  go_wp2_with fail
  refine (clone_byt hY hb).mono ?_
  rintro _ w1 ⟨A, c, rfl, hY1, hb1, _, hF1⟩
  go_wp2
  go_ret
  exact ⟨A, c, rfl, hY1, hb1, hF1⟩

theorem newWriter (w : World) :
    Calls Try.prog 31 #[] w fun r w' => ∃ p, r = .returned (.pointer (some ⟨p, 0, none⟩)) ∧ Wr w' (w.heap.size ≤ ·) p [] ∧ Below w.heap.size w w' := by
  go_enter Try.func31, Try.ntmps31
  go_wp2
  go_ret
  exact ⟨w.heap.size, rfl, ⟨Nat.le_refl _, none, 0, heap_alloc_new w _, World.ownsRow_nil _ _ _ _, fun a h => by cases h⟩, (Below.refl _ _).alloc (Nat.le_refl _) _⟩

/-! None -/
theorem wuint_nil (w : World) (x : Int) : Calls Try.prog 32 #[.pointer none, .int .u64 x] w fun e w' => e = .returned (.tuple #[]) ∧ w = w' := by
  go_enter Try.func32, Try.ntmps32
  go_wp2
  refine bodyPost_ret (results_none rfl _ _ _) rfl ?_
  exact ⟨rfl, rfl⟩
theorem wfixed_nil (w : World) (A : Option Addr) (n c : Nat) : Calls Try.prog 33 #[.pointer none, .slice A n c] w fun e w' => e = .returned (.tuple #[]) ∧ w = w' := by
  go_enter Try.func33, Try.ntmps33
  go_wp2
  refine bodyPost_ret (results_none rfl _ _ _) rfl ?_
  exact ⟨rfl, rfl⟩
theorem wout_nil (w : World) : Calls Try.prog 34 #[.pointer none] w fun r w' => r = .returned (.slice none 0 0) ∧ w = w' := by
  go_enter Try.func34, Try.ntmps34
  go_wp2
  go_ret
  exact ⟨rfl, rfl⟩

theorem uint_nil (w : World) : Calls Try.prog 26 #[.pointer none] w fun r w' => r = .returned (.int .u64 0) ∧ w = w' := by
  go_enter Try.func26, Try.ntmps26
  go_wp2_with (go_at_call 27; refine (err_nil _).mono ?_; rintro _ _ ⟨rfl, rfl⟩)
  go_ret
  exact ⟨rfl, rfl⟩
theorem take_nil (w : World) (k : Int) : Calls Try.prog 44 #[.pointer none, .int .i64 k] w fun r w' => r = .returned (.slice none 0 0) ∧ w = w' := by
  go_enter Try.func44, Try.ntmps44
  go_wp2_with (go_at_call 27; refine (err_nil _).mono ?_; rintro _ _ ⟨rfl, rfl⟩)
  go_ret
  exact ⟨rfl, rfl⟩
theorem end_nil (w : World) : Calls Try.prog 30 #[.pointer none] w fun r w' => r = .returned (.int .i64 1) ∧ w = w' := by
  go_enter Try.func30, Try.ntmps30
  go_wp2_with (go_at_call 27; refine (err_nil _).mono ?_; rintro _ _ ⟨rfl, rfl⟩)
  go_ret
  exact ⟨rfl, rfl⟩
end Go.Proofs.Ytmmibldchfmleaa

/-! codec.Reader.Id of a reader that is none. -/
namespace Go.Proofs.Ytmmibldchfmleaa
open Go.RowKit Codec

set_option maxHeartbeats 1000000 in
theorem id_nil (w : World) : Calls Try.prog 28 #[.pointer none] w fun r w' => r = .returned (.agg Z32) ∧ Below w.heap.size w w' := by
  have hnil := fun (w : World) (a : Option Addr) (n c : Nat) => Lib.run_eql_slice_nil (P := Try.prog) w 49 5 a n c 0 0 Try.underlying49
  go_enter Try.func28, Try.ntmps28
  go_wp2_with fail
  refine (take_nil _ _).mono ?_
  rintro _ _ ⟨rfl, rfl⟩
  have hg1 := heap_alloc_new w (.cells #[.int .u8 0, .int .u8 0, .int .u8 0, .int .u8 0, .int .u8 0, .int .u8 0, .int .u8 0, .int .u8 0, .int .u8 0, .int .u8 0, .int .u8 0, .int .u8 0, .int .u8 0, .int .u8 0, .int .u8 0, .int .u8 0,
    .int .u8 0, .int .u8 0, .int .u8 0, .int .u8 0, .int .u8 0, .int .u8 0, .int .u8 0, .int .u8 0, .int .u8 0, .int .u8 0, .int .u8 0, .int .u8 0, .int .u8 0, .int .u8 0, .int .u8 0, .int .u8 0] 31)
  go_wp2_with (first | (refine wpList_build0 (by rfl) 31 (by rfl) (.agg Z32) build_id ?_) | (refine wpList_store_row (by rfl) 31 (.tmp 2) (.tmp 8) (by rfl) w.heap.size Z32 (by rfl) (by rfl) 31 _ hg1 (by unfold Z32; rw [zeros32c]; exact id_info) (by unfold Z32; rw [zeros32c]) (u8s_allc _) ?_))
  refine bodyPost_ret (results_cell_row rfl _ _ w.heap.size 31 Z32 (0, 0) _ rfl (setRow_at hg1) Try.underlying31 rfl (by unfold Z32; rw [zeros32c]; exact id_info)) rfl ⟨rfl, ?_⟩
  have h1 : Below w.heap.size w (w.alloc (.cells #[.int .u8 0, .int .u8 0, .int .u8 0, .int .u8 0, .int .u8 0, .int .u8 0, .int .u8 0, .int .u8 0, .int .u8 0, .int .u8 0, .int .u8 0, .int .u8 0, .int .u8 0, .int .u8 0, .int .u8 0, .int .u8 0,
    .int .u8 0, .int .u8 0, .int .u8 0, .int .u8 0, .int .u8 0, .int .u8 0, .int .u8 0, .int .u8 0, .int .u8 0, .int .u8 0, .int .u8 0, .int .u8 0, .int .u8 0, .int .u8 0, .int .u8 0, .int .u8 0] 31)) := (Below.refl _ _).alloc (Nat.le_refl _) _
  exact h1.trans (below_gr (gr_row _ _ _) (Nat.le_refl _) (by simp))
end Go.Proofs.Ytmmibldchfmleaa

/-! The document's example at the head of each statement of layer 1: it answers true, and writes nothing that was there. -/
namespace Go.Proofs.Ytmmibldchfmleaa
open Go.RowKit Codec

theorem Wr.drew {w : World} {S : Nat → Prop} {p : Nat} {l : List UInt8} (h : Wr w S p l) : Wr w.drew S p l := h.turned (T := fun _ => False) ((Turned.refl _ w).drew) (fun _ _ _ hf => hf)
theorem Rd.drew {w : World} {S : Nat → Prop} {p : Nat} {l : List UInt8} {e : Int} (h : Rd w S p l e) : Rd w.drew S p l e := h.turned (T := fun _ => False) ((Turned.refl _ w).drew) (fun _ _ _ hf => hf)
theorem Wr.drewN {w : World} {S : Nat → Prop} {p : Nat} {l : List UInt8} (h : Wr w S p l) (k : Nat) : Wr (w.drewN k) S p l := h.turned (T := fun _ => False) ((Turned.refl _ w).drewN k) (fun _ _ _ hf => hf)
theorem Rd.drewN {w : World} {S : Nat → Prop} {p : Nat} {l : List UInt8} {e : Int} (h : Rd w S p l e) (k : Nat) : Rd (w.drewN k) S p l e := h.turned (T := fun _ => False) ((Turned.refl _ w).drewN k) (fun _ _ _ hf => hf)


theorem put300 : put 300 = [172, 2] := by rw [put_big (by omega), put_small (by omega)]; rfl
theorem put2 : put 2 = [2] := by rw [put_small (by omega)]; rfl

end Go.Proofs.Ytmmibldchfmleaa
