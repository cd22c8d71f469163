/-
  codec.Reader, its further methods; NewReader.
  Cells, pure: changes, names with bytes in order, the records of them, how they are read again.
  Dedup, pure: tables whose keys rise.
  How arguments are opened for my walks.
  How an array of bytes that came in is opened for my walks.
  make([]byte, n), and a block of bytes known whole.
  Rows of bytes: a slice of slices of bytes that reads as a list of rows.
  A REGION THAT DRAWS ITS ORDER, WALKED IN ONE ORDER OF MY CHOICE ('wp_region_plan'). The plan: rows of operations that yield the same value in every world of a class ('pulled': they may be taken first), each row followed by one operation that is then the only one that may come up ('effect'); behind it the class may be made smaller; a last row. Whether the plan fits the region is one closed Bool ('planB').
-/
import Derived.Test.YtmmibldchfmleaaPk01
import Derived.Test.YtmmibldchfmleaaRows
import Derived.ProofKit
import Derived.OpenShut
import Derived.ShutString
import Derived.ChangeOld
import Derived.WalkKit
import Derived.OrdersHeld
import Derived.RegionTactic
/-! codec.Reader, its further methods; NewReader. -/
namespace Go.Proofs.Ytmmibldchfmleaa
open Go.RowKit Codec

/-- Uint: value, what is left, error. -/
def uiX (l : List UInt8) (e : Int) : Nat := if e = 0 then (rd 0 l).1 else 0
def uiL (l : List UInt8) (e : Int) : List UInt8 := if e = 0 then l.drop (rd 0 l).2.1 else l
def uiE (l : List UInt8) (e : Int) : Int := if e = 0 then (rd 0 l).2.2 else e

theorem uiX_lt (l : List UInt8) (e : Int) : uiX l e < 18446744073709551616 := by
  unfold uiX
  split
  · have := rd_bound 0 l (by omega); simp at this; omega
  · omega
theorem uiL_length (l : List UInt8) (e : Int) : (uiL l e).length ≤ l.length := by unfold uiL; split <;> simp

theorem uint_any {w : World} {S : Nat → Prop} {p : Nat} {l : List UInt8} {e : Int} (h : Rd w S p l e) :
    Calls Try.prog 26 #[.pointer (some ⟨p, 0, none⟩)] w fun r w' => r = .returned (.int .u64 (uiX l e)) ∧ Rd w' S p (uiL l e) (uiE l e) ∧ w.grownBy w' (some p) := by
  unfold uiX uiL uiE
  by_cases he : e = 0
  · subst he
    simp only [if_true]
    exact uint_ok h
  · simp only [he, if_false]
    exact (uint_bad h (by simpa using he)).mono (by rintro _ _ ⟨rfl, rfl⟩; exact ⟨rfl, h, gr_refl _ _⟩)

/-- Bytes: error, what is left, the bytes. -/
def byE (l : List UInt8) (e most : Int) : Int := if uiE l e ≠ 0 then uiE l e else if most < 0 ∨ most < (uiX l e : Int) then 13 else tkE (uiL l e) 0 (uiX l e)
def byL (l : List UInt8) (e most : Int) : List UInt8 := if uiE l e ≠ 0 then uiL l e else if most < 0 ∨ most < (uiX l e : Int) then uiL l e else fxL (uiL l e) 0 (uiX l e)
def byB (l : List UInt8) (e most : Int) : List UInt8 := if uiE l e ≠ 0 then [] else if most < 0 ∨ most < (uiX l e : Int) then [] else fxB (uiL l e) 0 (uiX l e)

theorem Rd.mono {w : World} {S T : Nat → Prop} {p : Nat} {l : List UInt8} {e : Int} (h : Rd w S p l e) (hS : ∀ b, b < w.heap.size → S b → T b) : Rd w T p l e := by
  have hlt := h.lt
  obtain ⟨hB, A, n, c, hh, hy⟩ := h
  exact ⟨hS _ hlt hB, A, n, c, hh, hy.mono hS⟩
/-- What a reader does not hold may turn. -/
theorem Rd.grown {w w' : World} {S : Nat → Prop} {p : Nat} {l : List UInt8} {e : Int} (h : Rd w S p l e) {row : Option Nat} (hg : w.grownBy w' row) (hr : ∀ g, row = some g → ¬ S g) : Rd w' S p l e := by
  have hlt := h.lt
  obtain ⟨hB, A, n, c, hh, hy⟩ := h
  exact ⟨hB, A, n, c, (hg.block p hlt (fun e => hr p e.symm hB)).trans hh, hy.grown hg fun g hgr => .inl (hr g hgr)⟩
theorem Rd.set_err {w : World} {S : Nat → Prop} {p : Nat} {l : List UInt8} {e : Int} (h : Rd w S p l e) (er : Int) : Rd (w.setCell ⟨p, 1, none⟩ (.int .i64 er)) S p l er := by
  obtain ⟨hB, A, n, c, hh, hy⟩ := h
  exact ⟨hB, A, n, c, by simpa using set_of_cells hh 1 (.int .i64 er), hy.far (nou8_of_cells hh) _⟩
theorem Rd.free {w : World} {S : Nat → Prop} {p : Nat} {l : List UInt8} {e : Int} (h : Rd w S p l e) : w.frozen? ⟨p, 1, none⟩ = false := by
  obtain ⟨_, A, n, c, hh, _⟩ := h
  exact free_of_cells hh 1
theorem Rd.cell1 {w : World} {S : Nat → Prop} {p : Nat} {l : List UInt8} {e : Int} (h : Rd w S p l e) : w.cell? ⟨p, 1, none⟩ = some (.int .i64 e) := by
  obtain ⟨_, A, n, c, hh, _⟩ := h
  rw [cell_of_cells hh 1]; rfl


/-- Bool: error, what is left, the answer. -/
def boE (l : List UInt8) (e : Int) : Int := if tkE l e 1 ≠ 0 then tkE l e 1 else if 1 < (l[0]?.getD 0).toNat then 11 else 0
def boX (l : List UInt8) (e : Int) : Bool := if tkE l e 1 ≠ 0 then false else (l[0]?.getD 0).toNat == 1


set_option maxHeartbeats 1000000 in
theorem newReader {w : World} {S : Nat → Prop} {n c : Nat} {A : Option Addr} {l : List UInt8} (h : Byt w S A n c l) (hn : n ≤ 140737488355328) :
    Calls Try.prog 25 #[.slice A n c] w fun r w' => ∃ p, r = .returned (.pointer (some ⟨p, 0, none⟩)) ∧ Rd w' (w.heap.size ≤ ·) p l 0 ∧ Below w.heap.size w w' := by
  go_enter Try.func25, Try.ntmps25
  go_wp2_with fail
  refine (clone_byt h hn).mono ?_
  rintro _ w1 ⟨A2, c2, rfl, hY, hb, _⟩
  go_wp2
  go_ret
  exact ⟨w1.heap.size, rfl, ⟨hb.size, A2, n, c2, heap_alloc_new w1 _, hY.alloc _⟩, hb.alloc hb.size _⟩

end Go.Proofs.Ytmmibldchfmleaa

/-! Cells, pure: changes, names with bytes in order, the records of them, how they are read again. -/
namespace Go.Proofs.Ytmmibldchfmleaa
open Go.RowKit Codec

/-- A CHANGE. -/
structure Ch where
  k : List UInt8
  v : List UInt8
  g : Bool
/-- NAMES WITH BYTES. -/
abbrev Tb := List (List UInt8 × List UInt8)
/-- May a change be? -/
def mayC (c : Ch) : Bool := decide (1 ≤ c.k.length) && decide (c.k.length ≤ 64) && decide (c.v.length ≤ if c.g then 0 else 4096)
/-- In order, no name twice. -/
def Srt (t : Tb) : Prop := t.Pairwise fun a b => a.1 < b.1
/-- A name's bytes. -/
def getT (t : Tb) (k : List UInt8) : Option (List UInt8) := (t.find? fun p => p.1 == k).map (·.2)
/-- Names behind a change. -/
def doC (t : Tb) (c : Ch) : Tb := (t.filter fun p => decide (p.1 < c.k)) ++ (if c.g then [] else [(c.k, c.v)]) ++ (t.filter fun p => decide (c.k < p.1))
def doL (t : Tb) (l : List Ch) : Tb := l.foldl doC t

theorem bytes_less : ∀ a b : List UInt8, Op.bytesLess a b = decide (a < b)
  | _, [] => by
    rename_i a
    cases a <;> simp [Op.bytesLess]
  | [], b :: y => by simp [Op.bytesLess]
  | a :: x, b :: y => by
    rw [Op.bytesLess, bytes_less x y]
    simp only [List.cons_lt_cons_iff]
    by_cases h : a < b <;> by_cases h2 : a = b <;> simp [h, h2]
theorem kle_of_not {a b : List UInt8} (h : ¬ a < b) : b ≤ a := List.not_lt.1 h
theorem klt_irr (a : List UInt8) : ¬ a < a := List.lt_irrefl a
theorem klt_tr {a b c : List UInt8} (h : a < b) (h' : b < c) : a < c := List.lt_trans h h'
theorem klt_as {a b : List UInt8} (h : a < b) : ¬ b < a := List.lt_asymm h
theorem klt_tri {a b : List UInt8} (h : ¬ a < b) (h' : ¬ b < a) : a = b := List.le_antisymm (List.not_lt.1 h') (List.not_lt.1 h)
theorem klt_ne {a b : List UInt8} (h : a < b) : a ≠ b := fun e => klt_irr b (e ▸ h)

theorem Srt.nil : Srt [] := List.Pairwise.nil
theorem Srt.chg {t : Tb} (h : Srt t) (c : Ch) : Srt (doC t c) := by
  unfold Srt doC
  refine List.pairwise_append.2 ⟨List.pairwise_append.2 ⟨h.filter _, by split <;> simp, ?_⟩, h.filter _, ?_⟩
  · intro a ha b hb
    have h1 : a.1 < c.k := by simpa using (List.mem_filter.1 ha).2
    split at hb
    · simp at hb
    · simp only [List.mem_singleton] at hb
      rw [hb]
      exact h1
  · intro a ha b hb
    have h2 : c.k < b.1 := by simpa using (List.mem_filter.1 hb).2
    rcases List.mem_append.1 ha with ha | ha
    · exact klt_tr (by simpa using (List.mem_filter.1 ha).2) h2
    · split at ha
      · simp at ha
      · simp only [List.mem_singleton] at ha
        rw [ha]
        exact h2
theorem Srt.chs {t : Tb} (h : Srt t) (l : List Ch) : Srt (doL t l) := by
  unfold doL
  induction l generalizing t with
  | nil => exact h
  | cons c l ih => exact ih (h.chg c)
theorem getT_nil (k : List UInt8) : getT [] k = none := rfl
theorem getT_cons (p : List UInt8 × List UInt8) (t : Tb) (k : List UInt8) : getT (p :: t) k = if p.1 = k then some p.2 else getT t k := by
  unfold getT
  by_cases h : p.1 = k
  · simp [h]
  · simp [h]
theorem getT_app (t u : Tb) (k : List UInt8) : getT (t ++ u) k = (getT t k).or (getT u k) := by
  unfold getT
  rw [List.find?_append]
  cases t.find? (fun p => p.1 == k) <;> simp
theorem getT_filter_lt (t : Tb) (c k : List UInt8) (h : k < c) : getT (t.filter fun p => decide (p.1 < c)) k = getT t k := by
  induction t with
  | nil => rfl
  | cons p t ih =>
    by_cases hp : p.1 < c
    · rw [List.filter_cons_of_pos (by simpa using hp), getT_cons, getT_cons, ih]
    · rw [List.filter_cons_of_neg (by simpa using hp), getT_cons, ih, if_neg (fun e => hp (by rw [e]; exact h))]
theorem getT_filter_gt (t : Tb) (c k : List UInt8) (h : c < k) : getT (t.filter fun p => decide (c < p.1)) k = getT t k := by
  induction t with
  | nil => rfl
  | cons p t ih =>
    by_cases hp : c < p.1
    · rw [List.filter_cons_of_pos (by simpa using hp), getT_cons, getT_cons, ih]
    · rw [List.filter_cons_of_neg (by simpa using hp), getT_cons, ih, if_neg (fun e => hp (by rw [e]; exact h))]
theorem getT_none {t : Tb} {k : List UInt8} (h : ∀ p ∈ t, p.1 ≠ k) : getT t k = none := by
  unfold getT
  rw [List.find?_eq_none.2 (fun p hp => by simpa using h p hp)]
  rfl
theorem getT_doC (t : Tb) (c : Ch) (k : List UInt8) : getT (doC t c) k = if k = c.k then (if c.g then none else some c.v) else getT t k := by
  unfold doC
  rw [getT_app, getT_app]
  have hl : ¬ k < c.k → getT (t.filter fun p => decide (p.1 < c.k)) k = none := fun h => getT_none fun p hp e => h (by have := (List.mem_filter.1 hp).2; rw [← e]; simpa using this)
  have hg : ¬ c.k < k → getT (t.filter fun p => decide (c.k < p.1)) k = none := fun h => getT_none fun p hp e => h (by have := (List.mem_filter.1 hp).2; rw [← e]; simpa using this)
  by_cases he : k = c.k
  · rw [if_pos he, hl (he ▸ klt_irr c.k), hg (he ▸ klt_irr c.k)]
    by_cases hG : c.g = true
    · simp [hG, getT_nil]
    · simp [hG, getT_cons, he]
  · rw [if_neg he]
    have hm : getT (if c.g = true then [] else [(c.k, c.v)]) k = none := by
      split
      · rfl
      · rw [getT_cons, if_neg (fun e => he e.symm)]; rfl
    rw [hm]
    by_cases hlt : k < c.k
    · rw [getT_filter_lt _ _ _ hlt, hg (klt_as hlt)]
      simp
    · have hgt : c.k < k := Classical.byContradiction fun h => he (klt_tri hlt h)
      rw [hl hlt, getT_filter_gt _ _ _ hgt]
      simp
theorem getT_mem {t : Tb} (h : Srt t) {p : List UInt8 × List UInt8} (hp : p ∈ t) : getT t p.1 = some p.2 := by
  induction t with
  | nil => simp at hp
  | cons q t ih =>
    rw [getT_cons]
    obtain ⟨h1, h2⟩ := List.pairwise_cons.1 h
    rcases List.mem_cons.1 hp with rfl | hp
    · rw [if_pos rfl]
    · rw [if_neg (klt_ne (h1 p hp)), ih h2 hp]
theorem getT_some {t : Tb} {k v : List UInt8} (h : getT t k = some v) : (k, v) ∈ t := by
  unfold getT at h
  rcases hf : t.find? (fun p => p.1 == k) with _ | p
  · rw [hf] at h; simp at h
  · rw [hf] at h
    have h1 := List.mem_of_find?_eq_some hf
    have h2 := List.find?_some hf
    simp only [beq_iff_eq] at h2
    simp only [Option.map_some, Option.some.injEq] at h
    rw [← h, ← h2]
    exact h1
theorem getT_isSome {t : Tb} {k : List UInt8} : (getT t k).isSome = true ↔ k ∈ t.map (·.1) := by
  unfold getT
  rw [Option.isSome_map, List.find?_isSome]
  simp
theorem Srt.keys {t : Tb} (h : Srt t) : (t.map (·.1)).Pairwise (· < ·) := List.pairwise_map.2 h

/-! ### how much they are -/
/-- How many bytes names with bytes are at most, in a record. -/
def wtT : Tb → Nat
  | [] => 0
  | p :: t => p.1.length + p.2.length + 20 + wtT t
def wtC : List Ch → Nat
  | [] => 0
  | c :: l => c.k.length + c.v.length + 21 + wtC l
theorem wtT_app (t u : Tb) : wtT (t ++ u) = wtT t + wtT u := by
  induction t with
  | nil => simp [wtT]
  | cons p t ih => simp only [List.cons_append, wtT, ih]; omega
theorem wtT_len (t : Tb) : 20 * t.length ≤ wtT t := by
  induction t with
  | nil => simp [wtT]
  | cons p t ih => simp only [List.length_cons, wtT]; omega
theorem wtC_len (l : List Ch) : 21 * l.length ≤ wtC l := by
  induction l with
  | nil => simp [wtC]
  | cons p t ih => simp only [List.length_cons, wtC]; omega
theorem wtT_filter (t : Tb) (c : List UInt8) : wtT (t.filter fun p => decide (p.1 < c)) + wtT (t.filter fun p => decide (c < p.1)) ≤ wtT t := by
  induction t with
  | nil => simp [wtT]
  | cons p t ih =>
    by_cases h1 : p.1 < c
    · rw [List.filter_cons_of_pos (by simpa using h1), List.filter_cons_of_neg (by simpa using klt_as h1)]
      simp only [wtT]
      omega
    · rw [List.filter_cons_of_neg (by simpa using h1)]
      by_cases h2 : c < p.1
      · rw [List.filter_cons_of_pos (by simpa using h2)]
        simp only [wtT]
        omega
      · rw [List.filter_cons_of_neg (by simpa using h2)]
        simp only [wtT]
        omega
theorem wtT_doC (t : Tb) (c : Ch) : wtT (doC t c) ≤ wtT t + (c.k.length + c.v.length + 20) := by
  have h := wtT_filter t c.k
  unfold doC
  rw [wtT_app, wtT_app]
  split
  · simp only [wtT]; omega
  · simp only [wtT]; omega
theorem wtT_doL : ∀ (l : List Ch) (t : Tb), wtT (doL t l) ≤ wtT t + wtC l
  | [], t => by simp [doL, wtC]
  | c :: l, t => by
    have h1 := wtT_doL l (doC t c)
    have h2 := wtT_doC t c
    have e : doL t (c :: l) = doL (doC t c) l := rfl
    rw [e]
    simp only [wtC]
    omega
theorem doL_snoc (t : Tb) (l : List Ch) (c : Ch) : doL t (l ++ [c]) = doC (doL t l) c := by simp [doL]
theorem doL_app (t : Tb) (l m : List Ch) : doL t (l ++ m) = doL (doL t l) m := by simp [doL]

/-! ### records -/
def rowB (b : List UInt8) : List UInt8 := put b.length ++ b
def ofT (t : Tb) : List UInt8 := (t.map fun p => rowB p.1 ++ rowB p.2).flatten
def chgB (c : Ch) : List UInt8 := rowB c.k ++ ([if c.g then 1 else 0] ++ if c.g then [] else rowB c.v)
def ofC (l : List Ch) : List UInt8 := (l.map chgB).flatten
/-- The record of all. -/
def allB (t : Tb) : List UInt8 := put 1 ++ put t.length ++ ofT t
/-- The record of changes. -/
def chsB (l : List Ch) : List UInt8 := put 2 ++ put l.length ++ ofC l
theorem ofT_snoc (t : Tb) (p : List UInt8 × List UInt8) : ofT (t ++ [p]) = ofT t ++ (rowB p.1 ++ rowB p.2) := by simp [ofT]
theorem ofC_snoc (l : List Ch) (c : Ch) : ofC (l ++ [c]) = ofC l ++ chgB c := by simp [ofC]
theorem rowB_len (b : List UInt8) (h : b.length < 18446744073709551616) : (rowB b).length ≤ b.length + 10 := by
  have := put_length_64 h
  simp only [rowB, List.length_append]
  omega
theorem ofT_len : ∀ (t : Tb), wtT t < 18446744073709551616 → (ofT t).length ≤ wtT t
  | [], _ => by simp [ofT]
  | p :: t, h => by
    simp only [wtT] at h ⊢
    have h1 := ofT_len t (by omega)
    have h2 := rowB_len p.1 (by omega)
    have h3 := rowB_len p.2 (by omega)
    have e : ofT (p :: t) = (rowB p.1 ++ rowB p.2) ++ ofT t := by simp [ofT]
    rw [e, List.length_append, List.length_append]
    omega
theorem ofC_len : ∀ (l : List Ch), wtC l < 18446744073709551616 → (ofC l).length ≤ wtC l
  | [], _ => by simp [ofC]
  | c :: t, h => by
    simp only [wtC] at h ⊢
    have h1 := ofC_len t (by omega)
    have h2 := rowB_len c.k (by omega)
    have h3 := rowB_len c.v (by omega)
    have e : ofC (c :: t) = chgB c ++ ofC t := by simp [ofC]
    have h4 : (chgB c).length ≤ (rowB c.k).length + 1 + (rowB c.v).length := by
      unfold chgB
      simp only [List.length_append, List.length_singleton]
      split
      · simp
      · omega
    rw [e, List.length_append]
    omega
theorem allB_len (t : Tb) (h : wtT t < 1000000000) : (allB t).length ≤ wtT t + 20 := by
  have h1 := ofT_len t (by omega)
  have h2 := wtT_len t
  have h3 := put_length_64 (x := 1) (by omega)
  have h4 := put_length_64 (x := t.length) (by omega)
  simp only [allB, List.length_append]
  omega
theorem chsB_len (l : List Ch) (h : wtC l < 1000000000) : (chsB l).length ≤ wtC l + 20 := by
  have h1 := ofC_len l (by omega)
  have h2 := wtC_len l
  have h3 := put_length_64 (x := 2) (by omega)
  have h4 := put_length_64 (x := l.length) (by omega)
  simp only [chsB, List.length_append]
  omega

/-! ### read again -/
/-- The names of a record of all: so many are left; the names so far, the last one; what is left of the bytes, and the error. -/
def raGo : Nat → Tb → List UInt8 → List UInt8 → Int → Option (Tb × List UInt8 × Int)
  | 0, t, _, l, e => some (t, l, e)
  | n + 1, t, last, l, e =>
    if byB l e 64 ≤ last then none
    else raGo n (t ++ [(byB l e 64, byB (byL l e 64) (byE l e 64) 4096)]) (byB l e 64) (byL (byL l e 64) (byE l e 64) 4096) (byE (byL l e 64) (byE l e 64) 4096)
def raEnd : Option (Tb × List UInt8 × Int) → Option Tb
  | none => none
  | some (t, l, e) => if endE l e = 0 then some t else none
/-- What a record of all says. -/
def raM (b : List UInt8) : Option Tb := if uiX b 0 ≠ 1 then none else raEnd (raGo (uiX (uiL b 0) (uiE b 0)) [] [] (uiL (uiL b 0) (uiE b 0)) (uiE (uiL b 0) (uiE b 0)))
/-- One change, read; what is left, and the error. -/
def rc1 (l : List UInt8) (e : Int) : Ch × List UInt8 × Int :=
  if boX (byL l e 64) (byE l e 64) = true then (⟨byB l e 64, [], true⟩, fxL (byL l e 64) (byE l e 64) 1, boE (byL l e 64) (byE l e 64))
  else (⟨byB l e 64, byB (fxL (byL l e 64) (byE l e 64) 1) (boE (byL l e 64) (byE l e 64)) 4096, false⟩, byL (fxL (byL l e 64) (byE l e 64) 1) (boE (byL l e 64) (byE l e 64)) 4096, byE (fxL (byL l e 64) (byE l e 64) 1) (boE (byL l e 64) (byE l e 64)) 4096)
theorem rc1_k (l : List UInt8) (e : Int) : (rc1 l e).1.k = byB l e 64 := by
  unfold rc1
  split <;> rfl
def rcGo : Nat → List Ch → List UInt8 → Int → Option (List Ch × List UInt8 × Int)
  | 0, a, l, e => some (a, l, e)
  | n + 1, a, l, e => if mayC (rc1 l e).1 = false then none else rcGo n (a ++ [(rc1 l e).1]) (rc1 l e).2.1 (rc1 l e).2.2
def rcEnd : Option (List Ch × List UInt8 × Int) → Option (List Ch)
  | none => none
  | some (a, l, e) => if endE l e = 0 then some a else none
/-- What a record of changes says. -/
def rcM (b : List UInt8) : Option (List Ch) := if uiX b 0 ≠ 2 then none else rcEnd (rcGo (uiX (uiL b 0) (uiE b 0)) [] (uiL (uiL b 0) (uiE b 0)) (uiE (uiL b 0) (uiE b 0)))
end Go.Proofs.Ytmmibldchfmleaa

/-! Dedup, pure: tables whose keys rise. -/
namespace Go.Proofs.Ytmmibldchfmleaa
open Go.RowKit Codec

/-- A TABLE: keys, each with what stands there. -/
abbrev Tv (V : Type) := List (List UInt8 × V)
section
variable {V : Type} {t u : Tv V} {k k' : List UInt8} {v : V}
/-- In order, no key twice. -/
def Sv (t : Tv V) : Prop := t.Pairwise fun a b => a.1 < b.1
def getV (t : Tv V) (k : List UInt8) : Option V := (t.find? fun p => p.1 == k).map (·.2)
def putV (t : Tv V) (k : List UInt8) (v : V) : Tv V := (t.filter fun p => decide (p.1 < k)) ++ [(k, v)] ++ (t.filter fun p => decide (k < p.1))
def delV (t : Tv V) (k : List UInt8) : Tv V := t.filter fun p => decide (p.1 ≠ k)
theorem Sv.nil : Sv ([] : Tv V) := List.Pairwise.nil
theorem Sv.filter (h : Sv t) (f : List UInt8 × V → Bool) : Sv (t.filter f) := List.Pairwise.filter f h
theorem Sv.put (h : Sv t) (k : List UInt8) (v : V) : Sv (putV t k v) := by
  unfold Sv putV
  refine List.pairwise_append.2 ⟨List.pairwise_append.2 ⟨List.Pairwise.filter _ h, by simp, ?_⟩, List.Pairwise.filter _ h, ?_⟩
  · intro a ha b hb
    have h1 : a.1 < k := by simpa using (List.mem_filter.1 ha).2
    simp only [List.mem_singleton] at hb
    rw [hb]
    exact h1
  · intro a ha b hb
    have h2 : k < b.1 := by simpa using (List.mem_filter.1 hb).2
    rcases List.mem_append.1 ha with ha | ha
    · exact klt_tr (by simpa using (List.mem_filter.1 ha).2) h2
    · simp only [List.mem_singleton] at ha
      rw [ha]
      exact h2
theorem getV_nil (k : List UInt8) : getV ([] : Tv V) k = none := rfl
theorem getV_cons (p : List UInt8 × V) (t : Tv V) (k : List UInt8) : getV (p :: t) k = if p.1 = k then some p.2 else getV t k := by
  unfold getV
  by_cases h : p.1 = k
  · simp [h]
  · simp [h]
theorem getV_app (t u : Tv V) (k : List UInt8) : getV (t ++ u) k = (getV t k).or (getV u k) := by
  unfold getV
  rw [List.find?_append]
  cases t.find? (fun p => p.1 == k) <;> simp
theorem getV_none (h : ∀ p ∈ t, p.1 ≠ k) : getV t k = none := by
  unfold getV
  rw [List.find?_eq_none.2 (fun p hp => by simpa using h p hp)]
  rfl
theorem getV_filter (t : Tv V) (f : List UInt8 → Bool) (k : List UInt8) : getV (t.filter fun p => f p.1) k = if f k = true then getV t k else none := by
  induction t with
  | nil => simp [getV_nil]
  | cons p t ih =>
    by_cases hp : f p.1 = true
    · rw [List.filter_cons_of_pos (p := fun q : List UInt8 × V => f q.1) hp, getV_cons, getV_cons, ih]
      by_cases he : p.1 = k
      · rw [if_pos he, if_pos he, ← he, if_pos hp]
      · rw [if_neg he, if_neg he]
    · rw [List.filter_cons_of_neg (p := fun q : List UInt8 × V => f q.1) hp, getV_cons, ih]
      by_cases he : p.1 = k
      · rw [if_pos he, ← he, if_neg hp, if_neg hp]
      · rw [if_neg he]
theorem getV_mem (h : Sv t) {p : List UInt8 × V} (hp : p ∈ t) : getV t p.1 = some p.2 := by
  induction t with
  | nil => simp at hp
  | cons q t ih =>
    rw [getV_cons]
    obtain ⟨h1, h2⟩ := List.pairwise_cons.1 h
    rcases List.mem_cons.1 hp with rfl | hp
    · rw [if_pos rfl]
    · rw [if_neg (klt_ne (h1 p hp)), ih h2 hp]
theorem getV_some (h : getV t k = some v) : (k, v) ∈ t := by
  unfold getV at h
  rcases hf : t.find? (fun p => p.1 == k) with _ | p
  · rw [hf] at h; simp at h
  · rw [hf] at h
    have h1 := List.mem_of_find?_eq_some hf
    have h2 := List.find?_some hf
    simp only [beq_iff_eq] at h2
    simp only [Option.map_some, Option.some.injEq] at h
    rw [← h, ← h2]
    exact h1
theorem getV_isSome : (getV t k).isSome = true ↔ k ∈ t.map (·.1) := by
  unfold getV
  rw [Option.isSome_map, List.find?_isSome]
  simp
theorem getV_iff (h : Sv t) : getV t k = some v ↔ (k, v) ∈ t := ⟨getV_some, fun hp => getV_mem h hp⟩
/-- A table's part. -/
theorem getV_part (h : Sv t) (f : List UInt8 × V → Bool) (k : List UInt8) : getV (t.filter f) k = (getV t k).filter fun v => f (k, v) := by
  rcases hg : getV t k with _ | v
  · rw [Option.filter_none]
    exact getV_none fun p hp e => by
      have := getV_mem h (List.mem_filter.1 hp).1
      rw [e, hg] at this
      cases this
  · have hm := getV_some hg
    by_cases hf : f (k, v) = true
    · rw [Option.filter_some, if_pos hf]
      exact getV_mem (h.filter f) (p := (k, v)) (List.mem_filter.2 ⟨hm, hf⟩)
    · rw [Option.filter_some, if_neg hf]
      exact getV_none fun p hp e => hf (by
        obtain ⟨hp1, hp2⟩ := List.mem_filter.1 hp
        have := getV_mem h hp1
        rw [e, hg] at this
        have h2 : p = (k, v) := Prod.ext e (Option.some.inj this).symm
        rw [← h2]
        exact hp2)
theorem getV_put (t : Tv V) (k : List UInt8) (v : V) (x : List UInt8) : getV (putV t k v) x = if x = k then some v else getV t x := by
  unfold putV
  rw [getV_app, getV_app, getV_filter t (fun y => decide (y < k)), getV_filter t (fun y => decide (k < y)), getV_cons, getV_nil]
  by_cases he : x = k
  · subst he
    simp [klt_irr x]
  · have he' : ¬ k = x := fun e => he e.symm
    rw [if_neg he', if_neg he]
    by_cases hlt : x < k
    · simp [hlt, klt_as hlt]
    · have hgt : k < x := Classical.byContradiction fun h => he (klt_tri hlt h)
      simp [hlt, hgt]
theorem getV_del (t : Tv V) (k x : List UInt8) : getV (delV t k) x = if x = k then none else getV t x := by
  unfold delV
  rw [getV_filter t (fun y => decide (y ≠ k))]
  by_cases he : x = k <;> simp [he]
theorem Sv.del (h : Sv t) (k : List UInt8) : Sv (delV t k) := h.filter _
theorem Sv.keys (h : Sv t) : (t.map (·.1)).Pairwise (· < ·) := List.pairwise_map.2 h
theorem Sv.nodup (h : Sv t) : (t.map (·.1)).Nodup := h.keys.imp fun h => klt_ne h
theorem len_splitV (h : Sv t) (k : List UInt8) : (t.filter fun p => decide (p.1 < k)).length + (t.filter fun p => decide (k < p.1)).length + (if (getV t k).isSome = true then 1 else 0) = t.length := by
  induction t with
  | nil => simp [getV_nil]
  | cons p t ih =>
    obtain ⟨h1, h2⟩ := List.pairwise_cons.1 h
    have h3 := ih h2
    rw [getV_cons]
    by_cases hl : p.1 < k
    · rw [List.filter_cons_of_pos (by simpa using hl), List.filter_cons_of_neg (by simpa using klt_as hl), if_neg (klt_ne hl), List.length_cons, List.length_cons]
      omega
    · rw [List.filter_cons_of_neg (by simpa using hl)]
      by_cases he : p.1 = k
      · have hn : getV t k = none := getV_none fun q hq => (klt_ne (he ▸ h1 q hq)).symm
        rw [hn] at h3
        rw [List.filter_cons_of_neg (by simp [he]), if_pos he, List.length_cons]
        simp at h3 ⊢
        omega
      · have hg : k < p.1 := Classical.byContradiction fun h => he (klt_tri hl h)
        rw [List.filter_cons_of_pos (by simpa using hg), if_neg he, List.length_cons, List.length_cons]
        omega
theorem len_put (h : Sv t) (k : List UInt8) (v : V) : (putV t k v).length + (if (getV t k).isSome = true then 1 else 0) = t.length + 1 := by
  have h1 := len_splitV h k
  unfold putV
  rw [List.length_append, List.length_append]
  simp
  omega
theorem len_del (h : Sv t) (k : List UInt8) : (delV t k).length + (if (getV t k).isSome = true then 1 else 0) = t.length := by
  induction t with
  | nil => simp [getV_nil, delV]
  | cons p t ih =>
    obtain ⟨h1, h2⟩ := List.pairwise_cons.1 h
    have h3 := ih h2
    unfold delV at h3 ⊢
    rw [getV_cons]
    by_cases he : p.1 = k
    · have hn : getV t k = none := getV_none fun q hq => (klt_ne (he ▸ h1 q hq)).symm
      rw [hn] at h3
      rw [List.filter_cons_of_neg (by simp [he]), if_pos he, List.length_cons]
      simp at h3 ⊢
      exact h3
    · rw [List.filter_cons_of_pos (by simpa using he), if_neg he, List.length_cons, List.length_cons]
      omega
/-- Two tables that answer alike are one. -/
theorem tv_ext : ∀ {t u : Tv V}, Sv t → Sv u → (∀ k, getV t k = getV u k) → t = u := by
  intro t u ht hu h
  have hm : ∀ p, p ∈ t ↔ p ∈ u := fun p => by
    rw [← Prod.eta p, ← getV_iff ht, ← getV_iff hu, h]
  have hn : ∀ {x : Tv V}, Sv x → x.Nodup := fun {x} hx => List.Pairwise.imp (R := fun a b : List UInt8 × V => a.1 < b.1) (fun {a b} h (e : a = b) => klt_irr b.1 (by rw [e] at h; exact h)) hx
  have hp : t.Perm u := (List.perm_ext_iff_of_nodup (hn ht) (hn hu)).2 hm
  exact hp.eq_of_pairwise (le := fun a b : List UInt8 × V => a.1 < b.1) (fun _ _ _ _ h1 h2 => absurd h2 (klt_as h1)) ht hu
/-- A table's keys, sorted. -/
theorem keys_perm_eq (h : Sv t) {ks : List (List UInt8)} (hp : ks.Perm (t.map (·.1))) (hs : ks.Pairwise fun a b => ¬ b < a) : ks = t.map (·.1) :=
  hp.eq_of_pairwise (le := fun a b => ¬ b < a) (fun _ _ _ _ h1 h2 => klt_tri h2 h1) hs (h.keys.imp fun h => klt_as h)
end
end Go.Proofs.Ytmmibldchfmleaa

/-! How arguments are opened for my walks. -/
namespace Go.Proofs.Ytmmibldchfmleaa
open Go.ChangeShapes Go.WideShapes Go.ChangeAt Go.RowKit

theorem own_knob : ownKnob Try.prog.godebug = none := by kernel_rfl
theorem laid_out : laidOutB Try.prog = true := by kernel_rfl

theorem u8_bounds {z : Int} (h : (Lit.int .u8 z).wf = true) : 0 ≤ z ∧ z < 256 := by
  have := bounds_u8 h
  omega

/-- A row of numbers of bytes that came in. -/
theorem byt_of_ints {w : World} {x : Addr} {len cap : Nat} {zs : List Int} (hl : len ≤ cap) (hm : cap ≤ maxLen) (hz : zs.length = cap) (hcell : ∀ i, i < zs.length → w.cell? (x.add i) = some (.int .u8 (zs.getD i 0)))
    (hwz : ∀ n ∈ zs, (Lit.int .u8 n).wf = true) : Byt w (fun _ => True) (some x) len cap ((zs.take len).map fun z => UInt8.ofNat z.toNat) := by
  refine ⟨by simp; omega, hl, hm, fun h0 => ?_⟩
  obtain ⟨b, off, spot⟩ := x
  have hc0 := hcell 0 (by omega)
  have hspot : spot = none := by simpa [Addr.add] using World.cell?_spot hc0
  subst hspot
  have hlt := World.block_lt_of_cell? _ _ hc0
  rw [add_plain] at hlt
  refine ⟨b, off, rfl, trivial, hlt, fun i hi => ?_⟩
  have hc := hcell i (by omega)
  rw [add_plain] at hc
  rw [hc]
  have hi2 : i < zs.length := by omega
  have hb := u8_bounds (hwz zs[i] (List.getElem_mem hi2))
  simp only [List.getD, List.getElem?_eq_getElem hi2, Option.getD_some, List.getElem?_map, List.getElem?_take_of_lt hi, Option.map_some]
  congr 2
  simp
  omega

theorem bytes_in {w : World} {H : Type} {enc : TypeId × Value → H} {base : Nat} {spare : Nat → Bool} {held : Bool} {a : Option Addr} {len cap : Nat} {d : DataW H} {p : List MemPlace}
    (hs : spare = fun _ => true) (h : DataW.Trod enc Try.prog w base spare held 49 (.slice a len cap) d p) : ∃ l, Byt w (fun _ => True) a len cap l := by
  subst hs
  obtain ⟨fuel, hf⟩ := h
  rcases open_ints Try.underlying49 Try.underlying5 (by kernel_rfl) hf with ⟨hcs, _⟩ | ⟨x, l, c, zs, hcs, _, hl, hm, hz, _, hcell, hwz⟩
  · simp [Value.cells] at hcs
    obtain ⟨rfl, rfl, rfl⟩ := hcs
    exact ⟨[], Byt.nil _ _ _ _ (Nat.zero_le _)⟩
  · simp [Value.cells] at hcs
    obtain ⟨rfl, rfl, rfl⟩ := hcs
    exact ⟨_, byt_of_ints hl hm (by simpa using hz) hcell hwz⟩

theorem trod_lt {w : World} {H : Type} {enc : TypeId × Value → H} {base : Nat} {spare : Nat → Bool} {held : Bool} {t : TypeId} {v : Value} {d : DataW H} {p : List MemPlace}
    (h : DataW.Trod enc Try.prog w base spare held t v d p) : ∀ x ∈ p, x.block < w.heap.size := by
  obtain ⟨m, hm⟩ := h
  exact DataW.trod_lt m _ _ _ hm
end Go.Proofs.Ytmmibldchfmleaa

/-! How an array of bytes that came in is opened for my walks. -/
namespace Go.Proofs.Ytmmibldchfmleaa
open Go.ChangeShapes Go.WideShapes Go.ChangeAt Go.RowKit

theorem okWide_arr {P : Program} {w : World} {r : Reach} {base n : Nat} {t e : TypeId} {v : Value} (ht : P.underlying t = some (.array n e)) (h : Value.okWide P w r base t v) : ∃ cs, v = .agg cs ∧ cs.size = P.cellsOf t := by
  unfold Value.okWide at h
  simp only [ht] at h
  obtain ⟨cs, h1, h2, _⟩ := h
  exact ⟨cs, h1, h2⟩

theorem arr_in {P : Program} {w : World} {H : Type} {enc : TypeId × Value → H} {base n : Nat} {spare : Nat → Bool} {held : Bool} {t e : TypeId} {cs : Array Value} {d : DataW H} {p : List MemPlace}
    (ht : P.underlying t = some (.array n e)) (he : P.underlying e = some (.int .u8)) (hc : P.cellsOf e = 1) (hn : P.cellsOf t = n) (h : DataW.Trod enc P w base spare held t (.agg cs) d p) : ∃ l : List UInt8, cs = row8 l ∧ l.length = n := by
  obtain ⟨fuel, hf⟩ := h
  obtain ⟨xs, m, rfl, _, hl, hxl, hel⟩ := DataW.trod_array ht hf
  rw [hn] at hl
  have hl : cs.toList.length = n := by simpa [Value.cells] using hl
  have one : ∀ i, ∃ z : UInt8, i < n → cs.toList[i]? = some (.int .u8 (z.toNat : Int)) := fun i => by
    by_cases hi : i < n
    · have h1 := hel i hi
      rw [hc, Nat.mul_one, List.getElem?_eq_getElem (show i < xs.length by omega)] at h1
      obtain ⟨z, e1, _, hw⟩ := DataW.trod_int he h1
      have hb := u8_bounds hw
      refine ⟨UInt8.ofNat z.toNat, fun _ => ?_⟩
      have h2 := congrArg (fun l => l[0]?) e1
      have h3 : cs.toList[i]? = some (.int .u8 z) := by simpa [List.getElem?_take, List.getElem?_drop, Value.cells] using h2
      rw [h3]
      congr 2
      simp
      omega
    · exact ⟨0, fun h => absurd h hi⟩
  obtain ⟨f, hf⟩ := Classical.skolem.1 one
  refine ⟨(List.range n).map f, ?_, by simp⟩
  apply Array.toList_inj.1
  apply List.ext_getElem?
  intro i
  by_cases hi : i < n
  · rw [hf i hi]
    simp [row8, u8s, hi]
  · rw [List.getElem?_eq_none (by omega)]
    simp [row8, u8s, hi]
end Go.Proofs.Ytmmibldchfmleaa

/-! make([]byte, n), and a block of bytes known whole. -/
namespace Go.Proofs.Ytmmibldchfmleaa
open Go.RowKit

theorem made_zero (c : Nat) : (madeCells #[Value.int .u8 0] (c * 1)).toList = u8s (List.replicate c 0) := by
  simp only [madeCells, u8s, Nat.mul_one]
  apply List.ext_getElem
  · simp
  · intro i h1 h2
    simp [Nat.mod_one]

/-- make([]byte, n) -/
theorem make_bytes (w : World) (N : Nat) (h : N ≤ 1000000) : (Instr.makeSlice 49 (.int .i64 (N : Int)) (.int .i64 (N : Int))).run Try.prog w = .ok (.slice (some ⟨w.heap.size, 0, none⟩) N N) (w.alloc (.cells (u8s (List.replicate N 0)).toArray 5)) := by
  obtain ⟨i0, hi, hz0, hz1, hz2⟩ := info_parts u8_info
  have hmk := run_make (P := Try.prog) (t := 49) (e := 5) w i0 (.int .u8 0) Try.underlying49 hi hz0 .i64 .i64 (N : Int) (N : Int) (by omega) (by omega) (by rw [hz2]; omega) (by omega)
  rw [hmk, hz1]
  have hm0 : madeCells (Value.int .u8 0).cells ((N : Int).toNat * 1) = (u8s (List.replicate N 0)).toArray := by
    apply Array.toList_inj.1
    rw [Int.toNat_natCast]
    exact made_zero N
  rw [hm0]
  simp
end Go.Proofs.Ytmmibldchfmleaa

/-! Rows of bytes: a slice of slices of bytes that reads as a list of rows. -/
namespace Go.Proofs.Ytmmibldchfmleaa
open Go.RowKit

theorem one_of {v : Value} (h : v.oneCell' = true) : ∀ u ∈ [v], u.oneCell' = true := by
  intro u hu
  rw [List.mem_singleton.1 hu]
  exact h
/-- A SLICE OF ROWS OF BYTES READS AS ls; all of it lies in blocks of S. -/
structure Rws (w : World) (S : Nat → Prop) (A : Option Addr) (n c : Nat) (ls : List (List UInt8)) : Prop where
  len : ls.length = n
  cap : n ≤ c
  max : c ≤ maxLen
  row : 0 < n → ∃ b off, A = some ⟨b, off, none⟩ ∧ S b ∧ b < w.heap.size ∧ ∀ i, i < n → ∃ Ai ni ci, w.cell? ⟨b, off + i, none⟩ = some (.slice Ai ni ci) ∧ Byt w S Ai ni ci (ls[i]?.getD [])
section
variable {w w' : World} {S : Nat → Prop} {A : Option Addr} {n c : Nat} {ls : List (List UInt8)}
theorem Rws.below (h : Rws w S A n c ls) (hb : Below w.heap.size w w') : Rws w' S A n c ls :=
  ⟨h.len, h.cap, h.max, fun h0 => by
    obtain ⟨b, off, hA, hS, hlt, hc⟩ := h.row h0
    refine ⟨b, off, hA, hS, Nat.lt_of_lt_of_le hlt hb.size, fun i hi => ?_⟩
    obtain ⟨Ai, ni, ci, h1, h2⟩ := hc i hi
    exact ⟨Ai, ni, ci, (hb.cell (p := ⟨_, _, none⟩) hlt).trans h1, h2.below hb⟩⟩
theorem Rws.mono {T : Nat → Prop} (h : Rws w S A n c ls) (hT : ∀ b, b < w.heap.size → S b → T b) : Rws w T A n c ls :=
  ⟨h.len, h.cap, h.max, fun h0 => by
    obtain ⟨b, off, hA, hS, hlt, hc⟩ := h.row h0
    refine ⟨b, off, hA, hT b hlt hS, hlt, fun i hi => ?_⟩
    obtain ⟨Ai, ni, ci, h1, h2⟩ := hc i hi
    exact ⟨Ai, ni, ci, h1, h2.mono hT⟩⟩
theorem Rws.drewN (h : Rws w S A n c ls) (k : Nat) : Rws (w.drewN k) S A n c ls :=
  ⟨h.len, h.cap, h.max, fun h0 => by
    obtain ⟨b, off, hA, hS, hlt, hc⟩ := h.row h0
    refine ⟨b, off, hA, hS, hlt, fun i hi => ?_⟩
    obtain ⟨Ai, ni, ci, h1, h2⟩ := hc i hi
    exact ⟨Ai, ni, ci, h1, h2.drewN k⟩⟩
end

theorem own_rws {w : World} {S : Nat → Prop} {B : Nat} {e : TypeId} {v : Value} {n : Nat} {rs : List (Option Addr × Nat × Nat)} {ls : List (List UInt8)} (h : w.ownsRow B e 1 v n (rs.map fun r => Value.slice r.1 r.2.1 r.2.2)) (hl : ls.length = rs.length)
    (hb : ∀ (i : Nat) (r : Option Addr × Nat × Nat), rs[i]? = some r → Byt w S r.1 r.2.1 r.2.2 (ls[i]?.getD [])) : ∃ A c, v = .slice A n c ∧ Rws w (fun _ => True) A n c ls := by
  have hn : ls.length = n := by have := h.1; rw [List.length_map] at this; omega
  rcases h.2 with ⟨rfl, rfl⟩ | ⟨g, cap, cur, rfl, _, hg, hnc, hm, _, _⟩
  · exact ⟨none, 0, rfl, hn, Nat.le_refl _, Nat.zero_le _, fun h => absurd h (by omega)⟩
  · refine ⟨_, cap, rfl, hn, hnc, hm, fun _ => ⟨g, 0, rfl, trivial, (Array.getElem?_eq_some_iff.1 hg).1, fun i hi => ?_⟩⟩
    have hir : i < rs.length := by omega
    have := h.cells (g := g) rfl i (.slice rs[i].1 rs[i].2.1 rs[i].2.2) (by simp [List.getElem?_map, List.getElem?_eq_getElem hir])
    rw [add_plain] at this
    exact ⟨_, _, _, this, (hb i rs[i] (List.getElem?_eq_getElem hir)).mono fun _ _ _ => trivial⟩
theorem sl_info : (Try.prog.info? 49).map (fun i => (i.zero, i.size, i.bytes)) = some (some (.slice none 0 0), 1, 24) := by kernel_rfl
theorem Rws.turned {w w' : World} {S T : Nat → Prop} {A : Option Addr} {n c : Nat} {ls : List (List UInt8)} (h : Rws w S A n c ls) (ht : Turned T w w') (hd : ∀ b, b < w.heap.size → S b → ¬ T b) : Rws w' S A n c ls :=
  ⟨h.len, h.cap, h.max, fun h0 => by
    obtain ⟨b, off, hA, hS, hlt, hc⟩ := h.row h0
    refine ⟨b, off, hA, hS, Nat.lt_of_lt_of_le hlt ht.size, fun i hi => ?_⟩
    obtain ⟨Ai, ni, ci, h1, h2⟩ := hc i hi
    exact ⟨Ai, ni, ci, (World.cell?_of_block (w := w) (a := ⟨b, off + i, none⟩) (ht.block b hlt (hd b hlt hS))).trans h1, h2.turned ht hd⟩⟩
/-- The rows one by one. -/
theorem Rws.rows {w : World} {S : Nat → Prop} {A : Option Addr} {n c : Nat} {ls : List (List UInt8)} (h : Rws w S A n c ls) : ∃ rs : List (Option Addr × Nat × Nat), rs.length = n ∧ (∀ (i : Nat) (r : Option Addr × Nat × Nat), rs[i]? = some r → Byt w S r.1 r.2.1 r.2.2 (ls[i]?.getD [])) ∧
    ∀ ad, A = some ad → ∀ j u, (rs.map fun r => Value.slice r.1 r.2.1 r.2.2)[j]? = some u → w.cell? (ad.add j) = some u := by
  by_cases h0 : 0 < n
  · obtain ⟨b, off, rfl, hS, hlt, hc⟩ := h.row h0
    have one : ∀ i, ∃ r : Option Addr × Nat × Nat, i < n → w.cell? ⟨b, off + i, none⟩ = some (.slice r.1 r.2.1 r.2.2) ∧ Byt w S r.1 r.2.1 r.2.2 (ls[i]?.getD []) := fun i => by
      by_cases hi : i < n
      · obtain ⟨Ai, ni, ci, h1, h2⟩ := hc i hi
        exact ⟨(Ai, ni, ci), fun _ => ⟨h1, h2⟩⟩
      · exact ⟨(none, 0, 0), fun h => absurd h hi⟩
    obtain ⟨f, hf⟩ := Classical.skolem.1 one
    refine ⟨(List.range n).map f, by simp, fun i r hr => ?_, fun ad had j u hj => ?_⟩
    · have hi : i < n := by have := (List.getElem?_eq_some_iff.1 hr).1; simpa using this
      simp [hi] at hr
      subst hr
      exact (hf i hi).2
    · have hi : j < n := by have := (List.getElem?_eq_some_iff.1 hj).1; simpa using this
      obtain rfl : ad = ⟨b, off, none⟩ := by injection had with h; exact h.symm
      rw [add_plain]
      simp [hi] at hj
      subst hj
      exact (hf j hi).1
  · obtain rfl : n = 0 := by omega
    exact ⟨[], rfl, fun i r hr => by simp at hr, fun ad _ j u hj => by simp at hj⟩

theorem run_append_zero {P : Program} (w : World) (t ty e : TypeId) (i : TypeInfo) (ht : P.underlying t = some (.slice e)) (hi : P.info? e = some i) (A : Option Addr) (n c k : Nat) (hn : n ≤ c) :
    (Builtin.append_ #[t, t] ty #[.slice A n c, .slice none 0 k]).run P w = .ok (.slice A n c) w := by
  rcases A with _ | a <;> simp [Builtin.append_, run_underlying ht, sizeOf, typeInfo, hi, Builtin.lenOf, Builtin.firstCells, hn, storeCells]
theorem wpList_append_zero {P : Program} {w : World} {ops : Array Oper} {rest : List Oper} {o : Oper} {a : Act} {Q : Exit → Act → World → Prop} (hgd : o.guard = none) (s x : Operand) (t : TypeId)
    (ho : o.op = .call { callee := .builtin .append, args := #[s, x], argTypes := #[t, t] })
    (e : TypeId) (i : TypeInfo) (ht : P.underlying t = some (.slice e)) (hi : P.info? e = some i) (A : Option Addr) (n c k : Nat) (hn : n ≤ c) (hs : a.eval s = .slice A n c) (hx : a.eval x = .slice none 0 k)
    (h : wpList P ops Q rest (a.put o.dst (.slice A n c)) w) : wpList P ops Q (o :: rest) a w :=
  wpList_plain hgd fun _ hK => by
    unfold Oper.wp execOp
    simp only [ho, resolve, invoke, builtin, Sem.run_bind, Sem.run_pure, Result.andThen_ok, List.map_toArray, List.map_cons, List.map_nil, hs, hx, run_append_zero w t o.type e i ht hi A n c k hn]
    exact hK _ _ h
/-- s[l:h] -/
theorem run_lh {P : Program} (t e : TypeId) (ht : P.underlying t = some (.slice e)) (hz : ∀ w, (Go.sizeOf e).run P w = .ok 1 w) (A : Option Addr) (n c l h : Nat) (li hi : Int) (el : li = (l : Int)) (eh : hi = (h : Int)) (h1 : l ≤ h) (h2 : h ≤ c) (W : World) :
    (Instr.slice t (.slice A n c) (some (.int .i64 li)) (some (.int .i64 hi)) none).run P W = .ok (.slice (cutA A c l) (h - l) (c - l)) W := by
  have ht' : P.underlying t = some (.slice (P.elem t)) := by simp [Program.elem, ht]
  have he : P.elem t = e := by simp [Program.elem, ht]
  subst el eh
  rw [run_slice_lh W t A n c ht' .i64 .i64 (l : Int) (h : Int) (by omega) (by omega) (by omega), he, hz]
  simp [Result.andThen, sliced, cutA]
theorem flat_take (ls : List (List UInt8)) (k : Nat) (h : k < ls.length) : (ls.take (k + 1)).flatten = (ls.take k).flatten ++ (ls[k]?.getD []) := by
  rw [List.take_succ_eq_append_getElem h, List.flatten_append]; simp [List.getElem?_eq_getElem h]
theorem flat_le : ∀ (ls : List (List UInt8)) (k : Nat), (ls.take k).flatten.length ≤ ls.flatten.length
  | [], k => by simp
  | l :: ls, 0 => by simp
  | l :: ls, k + 1 => by have := flat_le ls k; simp at this ⊢; omega
end Go.Proofs.Ytmmibldchfmleaa

/-! A REGION THAT DRAWS ITS ORDER, WALKED IN ONE ORDER OF MY CHOICE ('wp_region_plan'). The plan: rows of operations that yield the same value in every world of a class ('pulled': they may be taken first), each row followed by one operation that is then the only one that may come up ('effect'); behind it the class may be made smaller; a last row. Whether the plan fits the region is one closed Bool ('planB'). -/
namespace Go.Proofs.Ytmmibldchfmleaa
open Go.RowKit
section
variable {P : Program} {ops : Array Oper} {Q : Exit → Act → World → Prop} {md : Region.Mode}

/-- The operations of a row, one behind the other, each of which yields its value in every world of C. -/
def wpSeg (P : Program) (ops : Array Oper) (C : World → Prop) (Q' : Act → Prop) : List Nat → Act → Prop
  | [], a => Q' a
  | i :: r, a => ∃ o v, ops[i]? = some o ∧ YieldsIf P ops C o v a ∧ wpSeg P ops C Q' r (a.put o.dst v)

def segB (md : Region.Mode) (ops : Array Oper) : Array Bool → List Nat → Bool
  | _, [] => true
  | listed, i :: r => (Region.ready md ops listed).contains i && Region.free md ops listed i && segB md ops (listed.setIfInBounds i true) r

def listedBy : Array Bool → List Nat → Array Bool
  | listed, [] => listed
  | listed, i :: r => listedBy (listed.setIfInBounds i true) r

def wpPlan (P : Program) (ops : Array Oper) (Q : Exit → Act → World → Prop) : (World → Prop) → List (List Nat × Nat) → List Nat → Act → World → Prop
  | C, [], q, a, w => wpSeg P ops C (fun a' => Q .normal a' w) q a
  | C, (q1, e) :: r, q, a, w => wpSeg P ops C (fun a1 => wpOp P ops Q e (fun a2 w2 => ∃ C' : World → Prop, C' w2 ∧ (∀ W, C' W → C W) ∧ wpPlan P ops Q C' r q a2 w2) a1 w) q1 a

def planB (md : Region.Mode) (ops : Array Oper) : Array Bool → List (List Nat × Nat) → List Nat → Bool
  | listed, [], q => segB md ops listed q && (Region.ready md ops (listedBy listed q)).isEmpty
  | listed, (q1, e) :: r, q => segB md ops listed q1 && (Region.ready md ops (listedBy listed q1) == [e]) && planB md ops ((listedBy listed q1).setIfInBounds e true) r q

theorem wpAnyH_mono {S S' : World → Prop} (hS : ∀ W, S' W → S W) : ∀ (fuel : Nat) (listed : Array Bool) (a : Act) (w : World), wpAnyH P md ops Q S' fuel listed a w → wpAnyH P md ops Q S fuel listed a w
  | 0, _, _, _, h => h
  | fuel + 1, _, _, _, h => ⟨h.1, fun i hi => wpOp_mono (fun _ _ h' => ⟨hS _ h'.1, wpAnyH_mono hS fuel _ _ _ h'.2⟩) (h.2 i hi)⟩

theorem wpAnyH_seg {C : World → Prop} {Q' : Act → Prop} (hs : Region.noSelect ops = true) (hQ : ∀ c a d v w, Q (.panic c) (Act.put a d v) w → Q (.panic c) a w) {fuel : Nat} {w : World} (hC : C w) :
    ∀ (q : List Nat) (listed : Array Bool) (a : Act), segB md ops listed q = true → wpSeg P ops C Q' q a → (∀ a', Q' a' → wpAnyH P md ops Q C fuel (listedBy listed q) a' w) → wpAnyH P md ops Q C (fuel + q.length) listed a w
  | [], _, _, _, h, hn => hn _ h
  | i :: r, listed, a, hB, h, hn => by
    simp only [segB, Bool.and_eq_true] at hB
    obtain ⟨⟨hr, hf⟩, hB'⟩ := hB
    obtain ⟨o, v, ho, hy, hk⟩ := h
    exact wpAnyH_take (fuel := fuel + r.length) ho hs hf hr (fun c a w => hQ c a o.dst v w) hy hC (wpAnyH_seg hs hQ hC r _ _ hB' hk hn)

theorem wpAnyH_plan (hs : Region.noSelect ops = true) (hQ : ∀ c a d v w, Q (.panic c) (Act.put a d v) w → Q (.panic c) a w) :
    ∀ (plan : List (List Nat × Nat)) (q : List Nat) (C : World → Prop) (listed : Array Bool) (a : Act) (w : World), C w → planB md ops listed plan q = true → wpPlan P ops Q C plan q a w → ∃ fuel, wpAnyH P md ops Q C fuel listed a w ∧ fuel = q.length + (plan.map fun x => x.1.length + 1).sum
  | [], q, C, listed, a, w, hC, hB, h => by
    simp only [planB, Bool.and_eq_true] at hB
    refine ⟨_, wpAnyH_seg (fuel := 0) hs hQ hC q listed a hB.1 h fun a' h' => wpAnyH_done (by simpa using hB.2) h' 0, by simp⟩
  | (q1, e) :: r, q, C, listed, a, w, hC, hB, h => by
    simp only [planB, Bool.and_eq_true, beq_iff_eq] at hB
    obtain ⟨⟨hB1, hB2⟩, hB3⟩ := hB
    refine ⟨_, wpAnyH_seg (fuel := (q.length + (r.map fun x => x.1.length + 1).sum) + 1) hs hQ hC q1 listed a hB1 h fun a' h' => ?_, by simp; omega⟩
    refine wpAnyH_all hB2 (by simp) fun i hi => ?_
    rw [List.mem_singleton.1 hi]
    refine wpOp_mono ?_ h'
    rintro a2 w2 ⟨C', hC', hsub, hp⟩
    obtain ⟨f, hf, rfl⟩ := wpAnyH_plan hs hQ r q C' _ a2 w2 hC' hB3 hp
    exact ⟨hsub _ hC', wpAnyH_mono hsub _ _ _ _ hf⟩

/-- THE LAW. -/
theorem wp_region_plan {id : Nat} {a : Act} {w : World} (C : World → Prop) (plan : List (List Nat × Nat)) (q : List Nat) (hm : P.follows .mixedOrders = true)
    (hB : (Region.noSelect ops && planB .any ops (Array.replicate ops.size false) plan q && (q.length + (plan.map fun x => x.1.length + 1).sum == ops.size)) = true)
    (hQ : ∀ c a d v w, Q (.panic c) (Act.put a d v) w → Q (.panic c) a w) (hC : C w.drew) (h : wpPlan P ops Q C plan q a w.drew) : (Code.region id ops true).wp P Q a w := by
  simp only [Bool.and_eq_true, beq_iff_eq] at hB
  obtain ⟨⟨h1, h2⟩, h3⟩ := hB
  obtain ⟨f, hf, rfl⟩ := wpAnyH_plan (md := .any) h1 hQ plan q C _ a _ hC h2 h
  rw [h3] at hf
  exact wp_region_held hm hf

/-! The steps of a plan. -/
theorem plan_eff {C : World → Prop} {q1 : List Nat} {e : Nat} {r : List (List Nat × Nat)} {q : List Nat} {a : Act} {w : World}
    (h : wpSeg P ops C (fun a1 => wpOp P ops Q e (fun a2 w2 => ∃ C' : World → Prop, C' w2 ∧ (∀ W, C' W → C W) ∧ wpPlan P ops Q C' r q a2 w2) a1 w) q1 a) : wpPlan P ops Q C ((q1, e) :: r) q a w := h
theorem plan_last {C : World → Prop} {q : List Nat} {a : Act} {w : World} (h : wpSeg P ops C (fun a' => Q .normal a' w) q a) : wpPlan P ops Q C [] q a w := h
theorem seg_nil {C : World → Prop} {Q' : Act → Prop} {a : Act} (h : Q' a) : wpSeg P ops C Q' [] a := h
/-- One pulled operation, what follows behind a variable. -/
theorem seg_step {C : World → Prop} {Q' : Act → Prop} {i : Nat} {r : List Nat} {a : Act} {o : Oper} (ho : ops.toList[i]? = some o)
    (h : ∀ K : Act → Prop, (∀ a, wpSeg P ops C Q' r a → K a) → if Region.wanted o (yielded ops a.tmps) then ∃ v, (∀ w, C w → (execOp a.eval o).run P w = .ok (.value v) w) ∧ K (a.put o.dst v) else K (a.put o.dst undef)) : wpSeg P ops C Q' (i :: r) a := by
  have ho : ops[i]? = some o := by rw [← ho, Array.getElem?_toList]
  have h1 := h _ (fun _ h => h)
  by_cases hw : Region.wanted o (yielded ops a.tmps) = true
  · rw [if_pos hw] at h1
    obtain ⟨v, hv, hk⟩ := h1
    exact ⟨o, v, ho, .inl ⟨hw, hv⟩, hk⟩
  · rw [if_neg hw] at h1
    exact ⟨o, undef, ho, .inr ⟨by simpa using hw, rfl⟩, h1⟩
/-- One that reads, its value typed out. -/
theorem seg_read {C : World → Prop} {Q' : Act → Prop} {i : Nat} {r : List Nat} {a : Act} {o : Oper} (v : Value) (ho : ops.toList[i]? = some o) (hw : Region.wanted o (yielded ops a.tmps) = true)
    (hv : ∀ w, C w → (execOp a.eval o).run P w = .ok (.value v) w) (h : wpSeg P ops C Q' r (a.put o.dst v)) : wpSeg P ops C Q' (i :: r) a := ⟨o, v, by rw [← ho, Array.getElem?_toList], .inl ⟨hw, hv⟩, h⟩
/-- One whose guard says no. -/
theorem seg_off {C : World → Prop} {Q' : Act → Prop} {i : Nat} {r : List Nat} {a : Act} {o : Oper} (ho : ops.toList[i]? = some o) (hw : Region.wanted o (yielded ops a.tmps) = false)
    (h : wpSeg P ops C Q' r (a.put o.dst undef)) : wpSeg P ops C Q' (i :: r) a := ⟨o, undef, by rw [← ho, Array.getElem?_toList], .inr ⟨hw, rfl⟩, h⟩
/-- The effect. -/
theorem eff_step {i : Nat} {o : Oper} {K : Act → World → Prop} {a : Act} {w : World} (ho : ops.toList[i]? = some o)
    (h : ∀ K' : Act → World → Prop, (∀ a w, K a w → K' a w) → if Region.wanted o (yielded ops a.tmps) = true then Oper.wp P o a w K' Q else K' (a.put o.dst undef) w) : wpOp P ops Q i K a w :=
  wpOp_step (by rw [← ho, Array.getElem?_toList]) h
end
end Go.Proofs.Ytmmibldchfmleaa
