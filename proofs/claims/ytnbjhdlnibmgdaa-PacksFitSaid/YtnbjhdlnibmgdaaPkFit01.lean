/-
  A slice of slices of bytes that a call makes row by row, by append.
  The law PacksFit: the pure part, and the memory of its blobs.
  The law PacksFit.
  The statement PacksFit, proved: for every slice of bytes and every uint16 the law returns true. No condition.
-/
import Derived.Test.YtnbjhdlnibmgdaaPk03
import Derived.Test.YtnbjhdlnibmgdaaPkFills01
import Derived.Test.YtnbjhdlnibmgdaaPk02
import Derived.Test.YtnbjhdlnibmgdaaPk08
/-! A slice of slices of bytes that a call makes row by row, by append. -/
namespace Go.Proofs.Ytnbjhdlnibmgdaa
open Go.RowKit

def rowV (r : Option Addr × Nat × Nat) : Value := .slice r.1 r.2.1 r.2.2
/-- THE VALUE v, A ROW OF THE CALL'S OWN (blocks from B on), HOLDS THE SLICES rs, which read as ls and lie in other blocks of its own. -/
structure RwsUp (w : World) (B : Nat) (v : Value) (k : Nat) (rs : List (Option Addr × Nat × Nat)) (ls : List (List UInt8)) : Prop where
  rl : rs.length = k
  ll : ls.length = k
  own : w.ownsRow B 22 1 v k (rs.map rowV)
  byt : ∀ (i : Nat) (r : Option Addr × Nat × Nat), rs[i]? = some r → Byt w (fun b => B ≤ b ∧ v.ownBlock ≠ some b) r.1 r.2.1 r.2.2 (ls[i]?.getD [])
section
variable {w w' : World} {B : Nat} {v : Value} {k : Nat} {rs : List (Option Addr × Nat × Nat)} {ls : List (List UInt8)}
theorem RwsUp.nil (w : World) (B : Nat) : RwsUp w B (.slice none 0 0) 0 [] [] := ⟨rfl, rfl, World.ownsRow_nil _ _ _ _, fun i r hr => by simp at hr⟩
theorem RwsUp.below (h : RwsUp w B v k rs ls) (hb : Below w.heap.size w w') : RwsUp w' B v k rs ls := by
  refine ⟨h.rl, h.ll, h.own.kept (row := none) ⟨hb.os, hb.tape, hb.output, hb.size, fun i hi _ => hb.block i hi⟩ ?_, fun i r hr => (h.byt i r hr).below hb⟩
  cases hv : v.ownBlock with
  | none => exact .inl rfl
  | some g => exact .inr (by simp)
/-- One row more. -/
theorem RwsUp.push (h : RwsUp w B v k rs ls) {v' : Value} {S : Nat → Prop} {A : Option Addr} {n c : Nat} {l : List UInt8} (hy : Byt w S A n c l) (hS : ∀ b, b < w.heap.size → S b → B ≤ b ∧ v.ownBlock ≠ some b)
    (hown : w'.ownsRow B 22 1 v' (k + 1) (rs.map rowV ++ [.slice A n c])) (hg : w.grownBy w' v.ownBlock) (hl : v'.ownBlock = v.ownBlock ∨ v'.ownBlock = some w.heap.size) : RwsUp w' B v' (k + 1) (rs ++ [(A, n, c)]) (ls ++ [l]) := by
  have h1 := h.rl
  have h2 := h.ll
  have keep : ∀ {A : Option Addr} {n c : Nat} {l : List UInt8}, Byt w (fun b => B ≤ b ∧ v.ownBlock ≠ some b) A n c l → Byt w' (fun b => B ≤ b ∧ v'.ownBlock ≠ some b) A n c l := fun {A n c l} hx => by
    have hx1 : Byt w (fun b => B ≤ b ∧ v.ownBlock ≠ some b ∧ b < w.heap.size) A n c l := hx.mono fun b hb h => ⟨h.1, h.2, hb⟩
    refine (hx1.grown hg (fun g hg => .inl fun hh => hh.2.1 hg)).mono fun b _ hb => ⟨hb.1, ?_⟩
    rcases hl with hl | hl
    · rw [hl]; exact hb.2.1
    · rw [hl]
      intro e
      injection e with e
      have := hb.2.2
      omega
  refine ⟨by simp [h1], by simp [h2], ?_, fun i r hr => ?_⟩
  · rw [List.map_append]
    exact hown
  · rcases Nat.lt_or_ge i rs.length with hi | hi
    · rw [List.getElem?_append_left hi] at hr
      rw [List.getElem?_append_left (by omega)]
      exact keep (h.byt i r hr)
    · have hi2 : i = rs.length := by
        have := (List.getElem?_eq_some_iff.1 hr).1
        simp at this
        omega
      subst hi2
      rw [List.getElem?_append_right (Nat.le_refl _), Nat.sub_self] at hr
      injection hr with hr
      subst hr
      rw [List.getElem?_append_right (by omega), show rs.length - ls.length = 0 by omega]
      exact keep (hy.mono hS)
theorem RwsUp.rws (h : RwsUp w B v k rs ls) : ∃ A c, v = .slice A k c ∧ Rws w (B ≤ ·) A k c ls := by
  have h1 := h.rl
  rcases h.own.2 with ⟨rfl, rfl⟩ | ⟨g, cap, cur, rfl, hB, hg, hnc, hm, _, _⟩
  · exact ⟨none, 0, rfl, h.ll, Nat.le_refl _, Nat.zero_le _, fun h => absurd h (by omega)⟩
  · refine ⟨_, cap, rfl, h.ll, hnc, hm, fun _ => ⟨g, 0, rfl, hB, (Array.getElem?_eq_some_iff.1 hg).1, fun i hi => ?_⟩⟩
    have hir : i < rs.length := by omega
    have := h.own.cells (g := g) rfl i (rowV rs[i]) (by simp [List.getElem?_map, List.getElem?_eq_getElem hir])
    rw [add_plain] at this
    exact ⟨_, _, _, this, (h.byt i rs[i] (List.getElem?_eq_getElem hir)).mono fun _ _ h => h.1⟩
end
end Go.Proofs.Ytnbjhdlnibmgdaa

/-! The law PacksFit: the pure part, and the memory of its blobs. -/
namespace Go.Proofs.Ytnbjhdlnibmgdaa
open Go.RowKit Codec

/-- The blobs' sizes. -/
def fitN (b : List UInt8) : List Nat := b.map fun x => 41 + x.toNat
def fitB (b : List UInt8) : List (List UInt8) := b.map fun x => List.replicate (41 + x.toNat) 0
theorem fitN_le (b : List UInt8) : ∀ s ∈ fitN b, 41 ≤ s ∧ s ≤ 296 := fun s hs => by
  obtain ⟨x, _, rfl⟩ := List.mem_map.1 hs
  have := x.toNat_lt
  omega
theorem lnN_296 {s : Nat} (h : s ≤ 296) : lnN s ≤ 2 := put_length_le 2 s (by omega) (by have : (128 : Nat) ^ 2 = 16384 := rfl; omega)
theorem fit_alone {b : List UInt8} {m : Nat} (hm : 400 ≤ m) : ∀ s ∈ fitN b, pkAlone m s = true := fun s hs => by
  have h1 := fitN_le b s hs
  have h2 := lnN_296 h1.2
  have h3 : lnN 1 = 1 := by decide +kernel
  unfold pkAlone pkHolds pkE
  simp [h3]
  omega
theorem fit_E {b : List UInt8} {m : Nat} (hm : 400 ≤ m) (hm2 : m ≤ 1048576) : fillE (natI (fitN b)) (m : Int) = 0 ∧ fillL (natI (fitN b)) (m : Int) = fillM m (fitN b) := by
  have h1 : (natI (fitN b)).all pkMay = true := List.all_eq_true.2 fun x hx => by
    unfold natI at hx
    obtain ⟨s, hs, rfl⟩ := List.mem_map.1 hx
    have := fitN_le b s hs
    unfold pkMay
    simp
    omega
  have h2 : (natI (fitN b)).map Int.toNat = fitN b := by
    unfold natI
    rw [List.map_map]
    exact (List.map_congr_left fun x _ => Int.toNat_natCast x).trans (List.map_id _)
  have h3 : (natI (fitN b)).all (fun s => pkAlone (m : Int).toNat s.toNat) = true := by
    rw [Int.toNat_natCast]
    have : (natI (fitN b)).all (fun s => pkAlone m s.toNat) = ((natI (fitN b)).map Int.toNat).all (pkAlone m) := by rw [List.all_map]; rfl
    rw [this, h2]
    exact List.all_eq_true.2 (fit_alone hm)
  have e : fillE (natI (fitN b)) (m : Int) = 0 := by
    unfold fillE
    rw [if_neg (by omega), if_neg (by rw [h1]; simp), if_neg (by rw [h3]; simp)]
  refine ⟨e, ?_⟩
  unfold fillL
  rw [if_pos e, h2, Int.toNat_natCast]
/-- The packs, one behind the other, are all blobs; and each may be put. -/
structure FitG (m : Nat) (b : List UInt8) (ls : List (List Nat)) (a : Nat) : Prop where
  flat : ls.flatten = List.range a
  each : ∀ r ∈ ls, ∃ f k, r = List.range' f k ∧ 1 ≤ k ∧ k ≤ 1024 ∧ f + k ≤ b.length ∧ lnN k + sumE (subL (fitN b) f k) ≤ m
theorem fitN_len (b : List UInt8) : (fitN b).length = b.length := by simp [fitN]
/-- Behind j blobs: the last pack is one at hand. -/
theorem fit_step {b : List UInt8} {m : Nat} (hm : 400 ≤ m) : ∀ j, j < b.length → ∃ done f k, pkL m (fitN b) (j + 1) = done ++ [List.range' f k] ∧ f + k = j + 1 ∧ 1 ≤ k ∧ FitG m b done f ∧ pkSt m ((fitN b).take (j + 1)) = ⟨k, sumE (subL (fitN b) f k), done.length⟩ ∧ k ≤ 1024 ∧ lnN k + sumE (subL (fitN b) f k) ≤ m
  | 0, h => by
    have hl := fitN_len b
    obtain ⟨s, hs⟩ : ∃ s, (fitN b)[0]? = some s := ⟨_, List.getElem?_eq_getElem (by omega)⟩
    have hi := rfi_one (fit_alone (b := b) hm) hs (fun _ _ h => absurd rfl h)
    have ha := fit_alone (b := b) hm s (List.mem_of_getElem? hs)
    have hsub : subL (fitN b) 0 1 = [s] := by
      have := subL_snoc (l := fitN b) (a := 0) (k := 0) (s := s) (by simpa using hs)
      simpa [subL] using this
    unfold pkAlone pkHolds at ha
    simp at ha
    refine ⟨[], 0, 1, ?_, rfl, Nat.le_refl _, ⟨rfl, fun r hr => by simp at hr⟩, ?_, by omega, ?_⟩
    · have := hi.ls
      rw [pkL_zero] at this
      exact this
    · have h1 := hi.kk
      have h2 := hi.y
      have h3 := hi.p
      rw [pkL_zero] at h3
      rw [Nat.zero_add] at h1 h2 h3 ⊢
      generalize pkSt m ((fitN b).take 1) = st at *
      cases st
      simp only at h1 h2 h3
      subst h1 h2 h3
      rfl
    · rw [hsub]
      simpa [sumE] using ha
  | j + 1, h => by
    have hl := fitN_len b
    obtain ⟨done, f, k, e1, e2, e3, e4, e5, e6, e7⟩ := fit_step (b := b) hm j (by omega)
    obtain ⟨s, hs⟩ : ∃ s, (fitN b)[j + 1]? = some s := ⟨_, List.getElem?_eq_getElem (by omega)⟩
    have ha := fit_alone (b := b) hm s (List.mem_of_getElem? hs)
    have hst := pkSt_at (most := m) hs
    rw [e5] at hst
    have hpl := pkL_at (most := m) (l := fitN b) (j := j + 1) (by omega)
    rw [e1] at hpl
    unfold pkStep at hst
    by_cases hh : pkHolds m (k + 1) (sumE (subL (fitN b) f k) + pkE s) = true
    · rw [if_pos hh] at hst
      have hs2 : (fitN b)[f + k]? = some s := by rw [e2]; exact hs
      have hsn := subL_snoc hs2
      refine ⟨done, f, k + 1, ?_, by omega, by omega, e4, by rw [hst, hsn, sumE_snoc], ?_, ?_⟩
      · rw [hpl, hst, pkPut_last, range_snoc]
        rw [e2]
      · unfold pkHolds at hh
        simp at hh
        omega
      · unfold pkHolds at hh
        simp at hh
        rw [hsn, sumE_snoc]
        exact hh.2
    · rw [if_neg hh] at hst
      have hsub : subL (fitN b) (j + 1) 1 = [s] := by
        have := subL_snoc (l := fitN b) (a := j + 1) (k := 0) (s := s) (by simpa using hs)
        simpa [subL] using this
      refine ⟨done ++ [List.range' f k], j + 1, 1, ?_, by omega, Nat.le_refl _, ⟨?_, fun r hr => ?_⟩, ?_, by omega, ?_⟩
      · rw [hpl, hst]
        have : (done ++ [List.range' f k]).length = done.length + 1 := by simp
        simp only
        rw [← this, pkPut_new]
        rfl
      · rw [List.flatten_append, e4.flat]
        simp only [List.flatten_cons, List.flatten_nil, List.append_nil]
        rw [← e2, List.range_eq_range', List.range_eq_range']
        have := List.range'_append (s := 0) (m := f) (n := k) (step := 1)
        simpa using this
      · rcases List.mem_append.1 hr with hr | hr
        · exact e4.each r hr
        · obtain rfl := List.mem_singleton.1 hr
          exact ⟨f, k, rfl, e3, e6, by omega, e7⟩
      · rw [hst, hsub]
        simp [sumE]
      · rw [hsub]
        unfold pkAlone pkHolds at ha
        simp at ha
        simpa [sumE] using ha
theorem fit_all {b : List UInt8} {m : Nat} (hm : 400 ≤ m) : FitG m b (fillM m (fitN b)) b.length := by
  rw [← pkL_all, fitN_len]
  cases hb : b.length with
  | zero => rw [pkL_zero]; exact ⟨rfl, fun r hr => by simp at hr⟩
  | succ j =>
    obtain ⟨done, f, k, e1, e2, e3, e4, e5, e6, e7⟩ := fit_step (b := b) hm j (by omega)
    rw [e1]
    refine ⟨?_, fun r hr => ?_⟩
    · rw [List.flatten_append, e4.flat]
      simp only [List.flatten_cons, List.flatten_nil, List.append_nil]
      rw [← e2, List.range_eq_range', List.range_eq_range']
      have := List.range'_append (s := 0) (m := f) (n := k) (step := 1)
      simpa using this
    · rcases List.mem_append.1 hr with hr | hr
      · exact e4.each r hr
      · obtain rfl := List.mem_singleton.1 hr
        exact ⟨f, k, rfl, e3, e6, by omega, e7⟩
/-- Of packs that are all blobs: each one begins where those ahead end. -/
theorem flat_at {ls : List (List Nat)} {n i : Nat} {r : List Nat} (h : ls.flatten = List.range n) (hr : ls[i]? = some r) : r = List.range' ((ls.take i).flatten.length) r.length ∧ (ls.take (i + 1)).flatten.length = (ls.take i).flatten.length + r.length ∧ (ls.take i).flatten.length + r.length ≤ n := by
  have h1 : ls = ls.take i ++ (r :: ls.drop (i + 1)) := by
    obtain ⟨hi, rfl⟩ := List.getElem?_eq_some_iff.1 hr
    rw [← List.drop_eq_getElem_cons hi, List.take_append_drop]
  have h2 : (ls.take i).flatten ++ (r ++ (ls.drop (i + 1)).flatten) = List.range n := by
    rw [← h]
    conv => rhs; rw [h1]
    simp
  obtain ⟨a, ha⟩ : ∃ a, a = (ls.take i).flatten.length := ⟨_, rfl⟩
  have hlen := congrArg List.length h2
  rw [List.length_append, List.length_append, List.length_range, ← ha] at hlen
  have h3 : r ++ (ls.drop (i + 1)).flatten = (List.range n).drop a := by rw [← h2, ha, List.drop_left]
  have h4 : r = ((List.range n).drop a).take r.length := by rw [← h3, List.take_left]
  rw [← ha]
  refine ⟨?_, by rw [take_snoc hr, List.flatten_append]; simp [← ha], by omega⟩
  refine h4.trans ?_
  apply List.ext_getElem
  · simp
    omega
  · intro k h5 h6
    simp
/-- The blobs and their sizes, in rows that grow. -/
structure FtS (b : List UInt8) (W : World) (B : Nat) (lv nv : Value) (rs : List (Option Addr × Nat × Nat)) (j jn : Nat) : Prop where
  rl : rs.length = j
  l : W.ownsRow B 22 1 lv j (rs.map rowV)
  n : W.ownsRow B 3 1 nv ((fitN b).take jn).length (natV ((fitN b).take jn))
  ne : ∀ g, lv.ownBlock = some g → nv.ownBlock ≠ some g
  byt : ∀ (i : Nat) (r : Option Addr × Nat × Nat), rs[i]? = some r → Byt W (fun k => B ≤ k ∧ lv.ownBlock ≠ some k ∧ nv.ownBlock ≠ some k) r.1 r.2.1 r.2.2 ((fitB b)[i]?.getD [])
section
variable {b : List UInt8} {W W' : World} {B : Nat} {lv nv : Value} {rs : List (Option Addr × Nat × Nat)} {j jn : Nat}
theorem FtS.below (h : FtS b W B lv nv rs j jn) (hb : Below W.heap.size W W') : FtS b W' B lv nv rs j jn :=
  ⟨h.rl, pk_keep h.l fun g hg => hb.block g (h.l.lt g hg).2, pk_keep h.n fun g hg => hb.block g (h.n.lt g hg).2, h.ne, fun i r hr => (h.byt i r hr).below hb⟩
theorem FtS.pushN (h : FtS b W B lv nv rs j jn) {s : Nat} (hs : (fitN b)[jn]? = some s) (hB : B ≤ W.heap.size) (hn : jn ≤ 1000) :
    ∃ A' c' W1, (Builtin.append_ #[36, 36] 36 #[nv, .slice (some ⟨W.heap.size, 0, none⟩) 1 1]).run Try.prog (W.alloc (.cells #[.int .i64 (s : Int)] 3)) = .ok (.slice A' (jn + 1) c') W1 ∧ FtS b W1 B lv (.slice A' (jn + 1) c') rs j (jn + 1) ∧ Below B W W1 := by
  obtain ⟨i1, hi, hz0, hz1, hz2⟩ := info_parts pki_info
  have htl : ((fitN b).take jn).length = jn := by rw [List.length_take]; have := (List.getElem?_eq_some_iff.1 hs).1; omega
  have h2 := h.below (W' := W.alloc (.cells #[.int .i64 (s : Int)] 3)) ((Below.refl _ _).alloc (Nat.le_refl _) _)
  have hsz : (W.alloc (.cells #[.int .i64 (s : Int)] 3)).heap.size = W.heap.size + 1 := by simp
  obtain ⟨v', W1, hrun, g1, g2, _, g4⟩ := run_append_own_at (P := Try.prog) (W.alloc (.cells #[.int .i64 (s : Int)] 3)) B 36 36 3 i1 (.int .i64 0) 1 8 Try.underlying36 hi hz0 hz1 hz2 rfl (by decide) nv _ _ h2.n ⟨W.heap.size, 0, none⟩ 1 1 [.int .i64 (s : Int)] rfl
      (fun j u hj => by
        match j, hj with
        | 0, hj =>
          rw [add_plain, cell_of_cells (heap_alloc_new W _)]
          simpa using hj) (one_of rfl) (by unfold maxLen; omega) (by omega) (by omega)
  rw [htl] at g1
  obtain ⟨A', c', rfl⟩ := pk_slice g1
  have hne : ∀ g, g < W.heap.size + 1 → nv.ownBlock ≠ some g → (Value.slice A' (jn + 1) c').ownBlock ≠ some g := fun g h3 h4 => by
    rcases g4 with g4 | g4
    · rw [g4]; exact h4
    · rw [g4, hsz]
      intro e
      injection e with e
      omega
  refine ⟨A', c', W1, hrun, ⟨h.rl, pk_keep h2.l fun g hg => g2.block g (h2.l.lt g hg).2 (fun e => h.ne g hg e.symm), ?_, fun g hg => hne g (by have := (h2.l.lt g hg).2; omega) (h.ne g hg), fun i r hr => ?_⟩, ((Below.refl B W).alloc hB _).grown g2 (by omega) fun k hk => (h.n.lt k hk).1⟩
  · rw [take_snoc hs, List.length_append, htl, show natV ((fitN b).take jn ++ [s]) = natV ((fitN b).take jn) ++ [.int .i64 (s : Int)] by simp [natV]]
    exact g1
  · have hy := h2.byt i r hr
    have hy1 : Byt (W.alloc (.cells #[.int .i64 (s : Int)] 3)) (fun k => (B ≤ k ∧ lv.ownBlock ≠ some k ∧ nv.ownBlock ≠ some k) ∧ k < W.heap.size + 1) r.1 r.2.1 r.2.2 ((fitB b)[i]?.getD []) := hy.mono fun k hk h => ⟨h, by omega⟩
    exact (hy1.grown g2 fun g hg => .inl fun h => h.1.2.2 hg).mono fun k _ h => ⟨h.1.1, h.1.2.1, hne k h.2 h.1.2.2⟩
theorem FtS.pushL (h : FtS b W B lv nv rs j jn) {S : Nat → Prop} {A : Option Addr} {n c : Nat} (hy : Byt W S A n c ((fitB b)[j]?.getD [])) (hS : ∀ k, k < W.heap.size → S k → B ≤ k ∧ lv.ownBlock ≠ some k ∧ nv.ownBlock ≠ some k) (hB : B ≤ W.heap.size) (hn : j ≤ 1000) :
    ∃ A' c' W1, (Builtin.append_ #[24, 24] 24 #[lv, .slice (some ⟨W.heap.size, 0, none⟩) 1 1]).run Try.prog (W.alloc (.cells #[.slice A n c] 22)) = .ok (.slice A' (j + 1) c') W1 ∧ FtS b W1 B (.slice A' (j + 1) c') nv (rs ++ [(A, n, c)]) (j + 1) jn ∧ Below B W W1 := by
  obtain ⟨i1, hi, hz0, hz1, hz2⟩ := info_parts sl_info
  have h2 := h.below (W' := W.alloc (.cells #[.slice A n c] 22)) ((Below.refl _ _).alloc (Nat.le_refl _) _)
  have hsz : (W.alloc (.cells #[.slice A n c] 22)).heap.size = W.heap.size + 1 := by simp
  obtain ⟨v', W1, hrun, g1, g2, _, g4⟩ := run_append_own_at (P := Try.prog) (W.alloc (.cells #[.slice A n c] 22)) B 24 24 22 i1 (.slice none 0 0) 1 24 Try.underlying24 hi hz0 hz1 hz2 rfl (by decide) lv _ _ h2.l ⟨W.heap.size, 0, none⟩ 1 1 [.slice A n c] rfl
      (fun j u hj => by
        match j, hj with
        | 0, hj =>
          rw [add_plain, cell_of_cells (heap_alloc_new W _)]
          simpa using hj) (one_of rfl) (by unfold maxLen; omega) (by omega) (by omega)
  obtain ⟨A', c', rfl⟩ := pk_slice g1
  have hne : ∀ g, g < W.heap.size + 1 → lv.ownBlock ≠ some g → (Value.slice A' (j + 1) c').ownBlock ≠ some g := fun g h3 h4 => by
    rcases g4 with g4 | g4
    · rw [g4]; exact h4
    · rw [g4, hsz]
      intro e
      injection e with e
      omega
  have keep : ∀ {A2 : Option Addr} {n2 c2 : Nat} {x : List UInt8}, Byt W (fun k => B ≤ k ∧ lv.ownBlock ≠ some k ∧ nv.ownBlock ≠ some k) A2 n2 c2 x → Byt W1 (fun k => B ≤ k ∧ (Value.slice A' (j + 1) c').ownBlock ≠ some k ∧ nv.ownBlock ≠ some k) A2 n2 c2 x := fun {A2 n2 c2 x} hx => by
    have hx1 : Byt (W.alloc (.cells #[.slice A n c] 22)) (fun k => (B ≤ k ∧ lv.ownBlock ≠ some k ∧ nv.ownBlock ≠ some k) ∧ k < W.heap.size + 1) A2 n2 c2 x := (hx.alloc _).mono fun k hk h => ⟨h, by omega⟩
    exact (hx1.grown g2 fun g hg => .inl fun h => h.1.2.1 hg).mono fun k _ h => ⟨h.1.1, hne k h.2 h.1.2.1, h.1.2.2⟩
  refine ⟨A', c', W1, hrun, ⟨by simp [h.rl], ?_, pk_keep h2.n fun g hg => g2.block g (h2.n.lt g hg).2 (fun e => h.ne g e.symm hg), fun g hg hg2 => hne g (by have := (h2.n.lt g hg2).2; omega) (fun e => h.ne g e hg2) hg, fun i r hr => ?_⟩, ((Below.refl B W).alloc hB _).grown g2 (by omega) fun k hk => (h.l.lt k hk).1⟩
  · rw [List.map_append]
    exact g1
  · rcases Nat.lt_or_ge i rs.length with h1 | h1
    · rw [List.getElem?_append_left h1] at hr
      exact keep (h.byt i r hr)
    · have hi : i = rs.length := by
        have := (List.getElem?_eq_some_iff.1 hr).1
        simp at this
        omega
      subst hi
      rw [List.getElem?_append_right (Nat.le_refl _), Nat.sub_self] at hr
      injection hr with hr
      subst hr
      rw [h.rl]
      exact keep (hy.mono hS)
end
/-- A row of a pack, in a row that grows. -/
theorem pkr_push {W : World} {B : Nat} {v : Value} {rs : List (Option Addr × Nat × Nat)} (h : W.ownsRow B 22 1 v rs.length (rs.map rowV)) (A : Option Addr) (n c : Nat) (hB : B ≤ W.heap.size) (hn : rs.length ≤ 1000000) :
    ∃ A' c' W1, (Builtin.append_ #[24, 24] 24 #[v, .slice (some ⟨W.heap.size, 0, none⟩) 1 1]).run Try.prog (W.alloc (.cells #[.slice A n c] 22)) = .ok (.slice A' (rs.length + 1) c') W1 ∧ W1.ownsRow B 22 1 (.slice A' (rs.length + 1) c') (rs ++ [(A, n, c)]).length ((rs ++ [(A, n, c)]).map rowV) ∧ Below B W W1 := by
  obtain ⟨i1, hi, hz0, hz1, hz2⟩ := info_parts sl_info
  have h2 : (W.alloc (.cells #[.slice A n c] 22)).ownsRow B 22 1 v rs.length (rs.map rowV) := pk_keep h fun q hq => Below.heap_alloc _ _ _ (h.lt q hq).2
  obtain ⟨v', W1, hrun, g1, g2, _, _⟩ := run_append_own_at (P := Try.prog) (W.alloc (.cells #[.slice A n c] 22)) B 24 24 22 i1 (.slice none 0 0) 1 24 Try.underlying24 hi hz0 hz1 hz2 rfl (by decide) v _ _ h2 ⟨W.heap.size, 0, none⟩ 1 1 [.slice A n c] rfl
      (fun j u hj => by
        match j, hj with
        | 0, hj =>
          rw [add_plain, cell_of_cells (heap_alloc_new W _)]
          simpa using hj) (one_of rfl) (by unfold maxLen; omega) (by omega) (by simp; omega)
  obtain ⟨A', c', rfl⟩ := pk_slice g1
  refine ⟨A', c', W1, hrun, ?_, ((Below.refl B W).alloc hB _).grown g2 (by simp; omega) fun k hk => (h.lt k hk).1⟩
  rw [List.length_append, List.length_singleton, List.map_append]
  exact g1
end Go.Proofs.Ytnbjhdlnibmgdaa

/-! The law PacksFit. -/
namespace Go.Proofs.Ytnbjhdlnibmgdaa
open Go.RowKit Codec

def FtR1 (w : World) (b : List UInt8) (lv nv i : Value) (wr : World) : Prop := ∃ (j : Nat) (rs : List (Option Addr × Nat × Nat)), j ≤ b.length ∧ i = .int .i64 (j : Int) ∧ FtS b wr w.heap.size lv nv rs j j ∧ Below w.heap.size w wr
def FtR2 (w3 : World) (ls : List (List Nat)) (at_ i : Value) (wr : World) : Prop := ∃ j : Nat, j ≤ ls.length ∧ i = .int .i64 (j : Int) ∧ at_ = .int .i64 (((ls.take j).flatten.length : Nat) : Int) ∧ Below w3.heap.size w3 wr
def FtR3 (wq : World) (rs : List (Option Addr × Nat × Nat)) (a K : Nat) (at_ v k : Value) (wr : World) : Prop :=
  ∃ j : Nat, j ≤ K ∧ k = .int .i64 (j : Int) ∧ at_ = .int .i64 ((a + j : Nat) : Int) ∧ wr.ownsRow wq.heap.size 22 1 v ((rs.drop a).take j).length (((rs.drop a).take j).map rowV) ∧ Below wq.heap.size wq wr
theorem fitB_at {b : List UInt8} {j : Nat} {x : UInt8} (h : b[j]? = some x) : (fitB b)[j]? = some (List.replicate (41 + x.toNat) 0) := by unfold fitB; rw [List.getElem?_map, h]; rfl
theorem fitN_at {b : List UInt8} {j : Nat} {x : UInt8} (h : b[j]? = some x) : (fitN b)[j]? = some (41 + x.toNat) := by unfold fitN; rw [List.getElem?_map, h]; rfl
/-- The blobs of a pack, as they are put. -/
theorem fit_put {b : List UInt8} {a k m : Nat} (h1 : 1 ≤ k) (h2 : k ≤ 1024) (h3 : a + k ≤ b.length) (h4 : lnN k + sumE (subL (fitN b) a k) ≤ m) (hm : m ≤ 1048576) :
    putPE (((fitB b).drop a).take k) = 0 ∧ (putPB (((fitB b).drop a).take k)).length ≤ m := by
  have hl : (((fitB b).drop a).take k).length = k := by rw [List.length_take, List.length_drop]; simp [fitB]; omega
  have hsum : pkSum (((fitB b).drop a).take k) = sumE (subL (fitN b) a k) := by
    unfold pkSum sumE subL fitN fitB
    rw [← List.map_drop, ← List.map_take, ← List.map_drop, ← List.map_take, List.map_map, List.map_map]
    congr 1
    refine List.map_congr_left fun x _ => ?_
    simp
  have hmay : (((fitB b).drop a).take k).all (fun b => pkMay b.length) = true := List.all_eq_true.2 fun y hy => by
    have hy2 := List.mem_of_mem_drop (List.mem_of_mem_take hy)
    unfold fitB at hy2
    obtain ⟨x, _, rfl⟩ := List.mem_map.1 hy2
    have := x.toNat_lt
    unfold pkMay
    simp
    omega
  have e : putPE (((fitB b).drop a).take k) = 0 := putPE_zero (by omega) (by omega) hmay (by rw [hl, hsum]; omega)
  refine ⟨e, ?_⟩
  unfold putPB
  rw [if_pos e, pkB_len, hl, hsum]
  exact h4
set_option maxHeartbeats 16000000 in
set_option maxRecDepth 100000 in
theorem law_pfit {w : World} {S : Nat → Prop} {A : Option Addr} {n c : Nat} {b : List UInt8} (hb : Byt w S A n c b) {m0 : Int} (hm : (Lit.int .u16 m0).wf = true) :
    Calls Try.prog 5 #[.slice A n c, .int .u16 m0] w fun e w' => e = .returned (.bool true) ∧ Below w.heap.size w w' := by
  have haw := pkawake_true w
  obtain ⟨X, rfl, hX⟩ : ∃ X : Nat, m0 = (X : Int) ∧ X < 65536 := by
    have hm' : (decide (IntKind.u16.min ≤ m0) && decide (m0 ≤ IntKind.u16.max)) = true := hm
    rw [show IntKind.u16.min = 0 by decide, show IntKind.u16.max = 65535 by decide] at hm'
    simp at hm'
    exact ⟨m0.toNat, by omega, by omega⟩
  have HB := Lib.hid (And.intro hb (And.intro hb.len hX))
  clear hb hm hX
  by_cases hbig : n > 60
  · have hb' : (n : Int) > 60 := by omega
    clear hbig
    go_enter Try.func5, Try.ntmps5
    go_wp2_with (go_at_call 6; refine haw.mono ?_; clear haw; rintro _ w1 ⟨rfl, hb1⟩)
    go_ret
    exact ⟨rfl, hb1⟩
  have hb' : ¬ (n : Int) > 60 := by omega
  have HN : Hid (n ≤ 60) := Lib.hid (by omega)
  clear hbig
  go_enter Try.func5, Try.ntmps5
  go_upto_region 9 with (go_at_call 6; refine haw.mono ?_; clear haw; rintro _ w1 ⟨rfl, hb1⟩; have H1 := Lib.hid hb1; clear hb1)
  go_loopw [6, 7, 8, 9] (fun lv nv i _ wr => FtR1 w1 b lv nv i wr) (fun _ _ i _ _ => n - (intOf i).toNat)
  case atStart => exact ⟨0, [], Nat.zero_le _, rfl, ⟨rfl, World.ownsRow_nil _ _ _ _, by simpa [natV] using World.ownsRow_nil _ _ _ _, fun g h => by simp [Value.ownBlock] at h, fun i r hr => by simp at hr⟩, Below.refl _ _⟩
  case round =>
    obtain ⟨j, rs, hj, rfl, hF, hbw⟩ := hrel
    obtain ⟨Al, cl, rfl⟩ := pk_slice hF.l
    obtain ⟨An, cn, hnv⟩ := pk_slice hF.n
    have htl : ((fitN b).take j).length = j := by rw [List.length_take, fitN_len]; omega
    rw [htl] at hnv
    subst hnv
    by_cases hlt : j < n
    · have hlt' : (j : Int) < (n : Int) := by omega
      obtain ⟨q, off, rfl, _, hql, hc⟩ := HB.out.1.row (by omega)
      obtain ⟨x, hx⟩ : ∃ x, b[j]? = some x := ⟨_, List.getElem?_eq_getElem (by have := HB.out.2.1; omega)⟩
      have hc0 := ((H1.out.trans (hbw.mono H1.out.size)).cell (p := ⟨q, off + j, none⟩) hql).trans (hc j hlt)
      rw [hx, Option.getD_some] at hc0
      have hxl := x.toNat_lt
      obtain ⟨X1, hX1⟩ : ∃ X1, X1 = x.toNat := ⟨_, rfl⟩
      rw [← hX1] at hc0 hxl
      have hcv := IntWalk.i64_in (X1 : Int) (by omega)
      have hadd := IntWalk.i64_in (41 + (X1 : Int)) (by omega)
      obtain ⟨s, hs⟩ : ∃ s, s = 41 + X1 := ⟨_, rfl⟩
      have hsi : 41 + (X1 : Int) = (s : Int) := by omega
      rw [hsi] at hadd
      have hjj := IntWalk.i64_in ((j : Int) + 1) (by have := HN.out; omega)
      have hsn : (fitN b)[j]? = some s := by rw [fitN_at hx, hs, hX1]
      have hsb : (fitB b)[j]?.getD [] = List.replicate s 0 := by rw [fitB_at hx, hs, hX1]; rfl
      obtain ⟨A2, c2, w2, hap2, hF2, hb2⟩ := hF.pushN hsn hbw.size (by have := HN.out; omega)
      have hs1 : s ≤ 1000 := by omega
      have hmk := make_bytes w2 s (by omega)
      have hbz : Below w2.heap.size w2 (w2.alloc (.cells (u8s (List.replicate s 0)).toArray 5)) := (Below.refl _ _).alloc (Nat.le_refl _) _
      have hyz := pkZeros w2 s (by omega)
      have hF3 := hF2.below hbz
      generalize w2.alloc (.cells (u8s (List.replicate s 0)).toArray 5) = w3 at *
      have hw12 : w1.heap.size ≤ w2.heap.size := Nat.le_trans hbw.size hb2.size
      obtain ⟨A4, c4, w4, hap4, hF4, hb4⟩ := hF3.pushL (A := some ⟨w2.heap.size, 0, none⟩) (n := s) (c := s) (S := (· = w2.heap.size)) (by
          rw [hsb]
          exact ⟨hyz.len, hyz.cap, hyz.max, fun h0 => by
            obtain ⟨b', o', e, h1, h2, h3⟩ := hyz.row h0
            injection e with e
            injection e with e1 e2
            exact ⟨b', o', by rw [← e1, ← e2], e1.symm, h2, h3⟩⟩) (fun k _ hk => by
          have hk' : k = w2.heap.size := hk
          subst hk'
          exact ⟨hw12, fun e => by have := (hF2.l.lt _ e).2; omega, fun e => by have := (hF2.n.lt _ e).2; omega⟩) (Nat.le_trans hw12 hbz.size) (by have := HN.out; omega)
      have H5 : Hid (FtR1 w1 b (.slice A4 (j + 1) c4) (.slice A2 (j + 1) c2) (.int .i64 ((j : Int) + 1)) w4) := Lib.hid ⟨j + 1, _, by have := HB.out.2.1; omega, by simp, hF4, hbw.trans (hb2.trans ((hbz.mono hw12).trans hb4))⟩
      have HLT := Lib.hid hlt
      clear hF hbw hj hlt hc hql hx hX1 hxl hs hsn hsb hF2 hb2 hs1 hbz hyz hF3 hw12 hF4 hb4 htl
      go_wp2_with (first
        | (at_builtin; refine wpList_app (by rfl) _ _ 36 (by rfl) (by rfl) (by rfl) hap2 ?_)
        | (at_builtin; refine wpList_app (by rfl) _ _ 24 (by rfl) (by rfl) (by rfl) hap4 ?_))
      go_roundw
      case rel => exact H5.out
      case measure => have := HLT.out; simp only [intOf]; omega
    · obtain rfl : j = n := by have := HB.out.2.1; omega
      have hlt' : ¬ (j : Int) < (j : Int) := by omega
      have hfN : (fitN b).take j = fitN b := List.take_of_length_le (by rw [fitN_len]; have := HB.out.2.1; omega)
      have hnl : (fitN b).length = j := by rw [fitN_len]; exact HB.out.2.1
      have hni := hF.n
      rw [hfN] at hni
      obtain ⟨A3, c3, e3, hin⟩ := own_nat hni fun x hx => by have := fitN_le b x hx; omega
      injection e3 with e3 e5 e4
      subst e3 e4
      clear e5
      rw [hnl] at hin
      have HF := Lib.hid (And.intro hF (And.intro hin hbw))
      obtain ⟨R, hR⟩ : ∃ R, R = X % 2000 := ⟨_, rfl⟩
      have hR2 : R < 2000 := by rw [hR]; exact Nat.mod_lt _ (by omega)
      have hmod : (X : Int).tmod 2000 = (R : Int) := by rw [hR]; rfl
      have hcv := IntWalk.i64_in (R : Int) (by omega)
      have hmm := IntWalk.i64_in (400 + (R : Int)) (by omega)
      have hu := IntKind.wrap_u16 (R : Int)
      have hu2 : (R : Int) % 65536 = (R : Int) := by omega
      clear hF hni hin hbw hfN hnl hj hlt htl hR
      go_upto_region 15 with fail
      clear hmod hcv hmm hu hu2
      obtain ⟨m, hm⟩ : ∃ m, m = 400 + R := ⟨_, rfl⟩
      have hmi : 400 + (R : Int) = (m : Int) := by omega
      rw [hmi]
      have HM : Hid (400 ≤ m ∧ m ≤ 1048576) := Lib.hid (by omega)
      have hfi := pfill_any HF.out.2.1 (by have := HN.out; omega) (m : Int) (by omega)
      obtain ⟨fe1, fe2⟩ := fit_E (b := b) HM.out.1 HM.out.2
      rw [fe1, fe2] at hfi
      have HG := Lib.hid (fit_all (b := b) HM.out.1)
      have HSH : Hid ((fillM m (fitN b)).length ≤ 60) := Lib.hid (by
        have h := (fillL_short (natI (fitN b)) (m : Int) j (by simp [natI, fitN]; exact HB.out.2.1)).1
        rw [fe2] at h
        have := HN.out
        omega)
      obtain ⟨L, hL⟩ : ∃ L, L = fillM m (fitN b) := ⟨_, rfl⟩
      rw [← hL] at hfi HG HSH
      obtain ⟨M, hM⟩ : ∃ M, M = L.length := ⟨_, rfl⟩
      have hfi2 : Calls Try.prog 12 #[.slice An j cn, .int .i64 (m : Int)] wr fun e w' => ∃ Ag cg, e = .returned (.tuple #[.slice Ag M cg, .int .i64 0]) ∧ Nst w' (wr.heap.size ≤ ·) Ag M cg L ∧ Below wr.heap.size wr w' := by rw [hM]; exact hfi
      have HML : Hid (M = L.length ∧ M ≤ 60) := Lib.hid ⟨hM, by rw [hM]; exact HSH.out⟩
      clear hfi fe1 fe2 hL hM hm hmi hR2 HSH
      go_upto_region 20 with (go_at_call 12; refine hfi2.mono ?_; clear hfi2; rintro _ w3 ⟨Ag, cg, rfl, hfl, hb3⟩; have H3 := Lib.hid (And.intro hfl (And.intro (H1.out.trans ((HF.out.2.2.trans (hb3.mono HF.out.2.2.size)).mono H1.out.size)) (HF.out.1.below hb3))); clear hfl hb3)
      clear HF
      go_loopw [13, 14, 15, 16, 17, 18] (fun a i _ _ _ _ W => FtR2 w3 L a i W) (fun _ i _ _ _ _ _ => M - (intOf i).toNat)
      case atStart => exact ⟨0, Nat.zero_le _, rfl, by simp, Below.refl _ _⟩
      case round =>
        obtain ⟨i, hi, rfl, rfl, hb4⟩ := hrel
        by_cases hlt : i < M
        · have hlt' : (i : Int) < (M : Int) := by omega
          have hli := HML.out.1
          obtain ⟨r, hr⟩ : ∃ r, L[i]? = some r := ⟨_, List.getElem?_eq_getElem (by omega)⟩
          obtain ⟨f1, f2, f3⟩ := flat_at HG.out.flat hr
          obtain ⟨f, k', g1, g2, g3, g4, g5⟩ := HG.out.each r (List.mem_of_getElem? hr)
          have hrl : r.length = k' := by rw [g1]; exact List.length_range'
          obtain ⟨a0, ha0⟩ : ∃ a0, a0 = (L.take i).flatten.length := ⟨_, rfl⟩
          rw [← ha0] at f1 f2 f3 ⊢
          have hfa : f = a0 := by
            have h1 : (List.range' f k')[0]? = (List.range' a0 r.length)[0]? := by rw [← g1, ← f1]
            rw [List.getElem?_range' (by omega), List.getElem?_range' (by omega)] at h1
            simpa using h1
          subst hfa
          obtain ⟨b1, o1, r2, A1, c1, rfl, hr2, hc1, hi1⟩ := H3.out.1.at_ hlt
          obtain rfl : r = r2 := by rw [hr] at hr2; exact Option.some.inj hr2
          obtain ⟨K, hK⟩ : ∃ K, K = k' := ⟨_, rfl⟩
          rw [hrl, ← hK] at hc1 hi1 f2 f3
          rw [← hK] at g1 g2 g3 g4 g5
          have hc4 := (hb4.cell (p := ⟨b1, o1 + i, none⟩) (World.block_lt_of_cell? _ _ hc1)).trans hc1
          have HX := Lib.hid (And.intro f2 (And.intro g1 (And.intro g2 (And.intro g3 (And.intro g4 (And.intro g5 (And.intro hlt hi1)))))))
          have HB4 := Lib.hid hb4
          clear f1 f2 f3 g1 g2 g3 g4 g5 hr2 hc1 hi1 hb4 hi hrl hK hr ha0 hlt hli
          go_upto_region 24 with fail
          obtain ⟨wq, hwq⟩ : ∃ wq, wq = wr := ⟨_, rfl⟩
          subst hwq
          have HC4 := Lib.hid hc4
          clear hc4 hlt'
          go_loopw [13, 15, 16] (fun a v k W => FtR3 wq rs f K a v k W) (fun _ _ k _ => K - (intOf k).toNat)
          case atStart => exact ⟨0, Nat.zero_le _, rfl, rfl, by simpa using World.ownsRow_nil _ _ _ _, Below.refl _ _⟩
          case round =>
            obtain ⟨k5, hk5, rfl, rfl, hown5, hb5⟩ := hrel
            obtain ⟨at5, hat5⟩ : ∃ at5, at5 = f + k5 := ⟨_, rfl⟩
            rw [← hat5]
            have hc5 := (hb5.cell (p := ⟨b1, o1 + i, none⟩) (World.block_lt_of_cell? _ _ HC4.out)).trans HC4.out
            have hbl := HX.out.2.2.2.2.1
            have hHB := HB.out.2.1
            have hHN := HN.out
            have hrsl := H3.out.2.2.rl
            have htl : ((rs.drop f).take k5).length = k5 := by rw [List.length_take, List.length_drop]; omega
            obtain ⟨Ap, cp, hvp⟩ := pk_slice hown5
            rw [htl] at hvp
            subst hvp
            have hpli : i < M := HX.out.2.2.2.2.2.2.1
            have hb35 := HB4.out.trans (hb5.mono HB4.out.size)
            by_cases hlk : k5 < K
            · have hlk' : (k5 : Int) < (K : Int) := by omega
              obtain ⟨b2, o2, x, rfl, hx, hcx⟩ := HX.out.2.2.2.2.2.2.2.at2 hlk
              have hxv : x = at5 := by
                rw [HX.out.2.1, List.getElem?_range' hlk] at hx
                have := Option.some.inj hx
                omega
              subst hxv
              have hcx5 := (hb35.cell (p := ⟨b2, o2 + k5, none⟩) (World.block_lt_of_cell? _ _ hcx)).trans hcx
              have hxx : ((x : Int) != (x : Int)) = false := by simp
              obtain ⟨⟨Ar, nr, cr⟩, hrs⟩ : ∃ r5, rs[x]? = some r5 := ⟨_, List.getElem?_eq_getElem (by omega)⟩
              obtain ⟨gl, hgl⟩ : ∃ gl, Al = some ⟨gl, 0, none⟩ := by
                rcases H3.out.2.2.l.2 with ⟨e1, e2⟩ | ⟨g, cap, cur, e, _⟩
                · omega
                · injection e with e e7 e8
                  exact ⟨g, e⟩
              subst hgl
              have hcl := H3.out.2.2.l.cellAt x (by omega)
              rw [List.getElem?_map, hrs] at hcl
              have hcl5 : wr.cell? ⟨gl, x, none⟩ = some (.slice Ar nr cr) := (hb35.cell (p := ⟨gl, x, none⟩) (World.block_lt_of_cell? _ _ hcl)).trans hcl
              obtain ⟨A6, c6, w6, hap6, hown6, hb6⟩ := pkr_push hown5 Ar nr cr hb5.size (by omega)
              rw [htl] at hap6 hown6
              have hsn : (rs.drop f).take (k5 + 1) = (rs.drop f).take k5 ++ [(Ar, nr, cr)] := take_snoc (by rw [List.getElem?_drop, ← hat5]; exact hrs)
              have H6 : Hid (FtR3 wq rs f K (.int .i64 ((x : Int) + 1)) (.slice A6 (k5 + 1) c6) (.int .i64 ((k5 : Int) + 1)) w6) := Lib.hid ⟨k5 + 1, hlk, by simp, by congr 1; omega, by rw [hsn]; exact hown6, hb5.trans hb6⟩
              have hxl : x < j := by omega
              have ha1 := IntWalk.i64_in ((x : Int) + 1) (by omega)
              have ha2 := IntWalk.i64_in ((k5 : Int) + 1) (by omega)
              have HLK := Lib.hid hlk
              clear hown5 hb5 hsn hown6 hb6 hcl hrs hx hcx hb35 hat5 hbl hHB hHN hrsl hk5 hlk htl
              go_wp2_with (at_builtin; refine wpList_app (by rfl) _ _ 24 (by rfl) (by rfl) (by rfl) hap6 ?_)
              go_roundw
              case rel => exact H6.out
              case measure => have := HLK.out; simp only [intOf]; omega
            · have hlk' : ¬ (k5 : Int) < (K : Int) := by omega
              obtain rfl : k5 = K := by omega
              have hft := fit_put HX.out.2.2.1 HX.out.2.2.2.1 HX.out.2.2.2.2.1 HX.out.2.2.2.2.2.1 HM.out.2
              obtain ⟨A6, c6, hv6, hrw⟩ := own_rws (S := fun _ => True) (ls := ((fitB b).drop f).take k5) (by rw [htl] at hown5; exact hown5) (by rw [htl, List.length_take, List.length_drop]; simp [fitB]; omega) (fun i5 r5 hr5 => by
                have h5 : i5 < k5 := by have := (List.getElem?_eq_some_iff.1 hr5).1; rw [htl] at this; exact this
                rw [List.getElem?_take_of_lt h5, List.getElem?_drop] at hr5
                rw [List.getElem?_take_of_lt h5, List.getElem?_drop]
                exact ((H3.out.2.2.byt _ _ hr5).below hb35).mono fun _ _ _ => trivial)
              injection hv6 with e1 e2 e3
              subst e1 e3
              clear e2
              have hpu := pput_any hrw
              rw [hft.1] at hpu
              have hi1 := IntWalk.i64_in ((i : Int) + 1) (by have := HML.out.2; omega)
              have HW := Lib.hid (And.intro hb35 (And.intro hft.2 (show at5 = (L.take (i + 1)).flatten.length by rw [HX.out.1, hat5])))
              clear hown5 hb5 hrw hft hb35 hat5 hbl hHB hHN hrsl hk5 hlk htl
              go_upto_region 31 with (go_at_call 11; refine hpu.mono ?_; clear hpu; rintro _ w6 ⟨A7, m7, c7, rfl, hy7, hb7⟩; have H7 := Lib.hid (And.intro hy7.len (HW.out.1.trans (hb7.mono HW.out.1.size))); clear hy7 hb7)
              have hm7 : decide (m < m7) = false := by have h1 := H7.out.1; have h2 := HW.out.2.1; simp; omega
              go_wp2
              go_roundw
              case rel => exact ⟨i + 1, by have h1 := HX.out.2.2.2.2.2.2.1; have h2 := HML.out.1; omega, by simp, by rw [HW.out.2.2], H7.out.2⟩
              case measure => have := HX.out.2.2.2.2.2.2.1; simp only [intOf]; omega
        · have hlt' : ¬ (i : Int) < (M : Int) := by omega
          have hend : (L.take i).flatten.length = j := by
            rw [List.take_of_length_le (by have := HML.out.1; omega), HG.out.flat, List.length_range]
            exact HB.out.2.1
          rw [hend]
          have hjj : ((j : Int) == (j : Int)) = true := by simp
          have HB4 := Lib.hid (H3.out.2.1.trans (hb4.mono H3.out.2.1.size))
          clear hb4 hend hi hlt
          go_wp2
          go_ret
          exact ⟨rfl, HB4.out⟩
end Go.Proofs.Ytnbjhdlnibmgdaa

/-! The statement PacksFit, proved: for every slice of bytes and every uint16 the law returns true. No condition. -/
namespace Go.Proofs.Ytnbjhdlnibmgdaa.packsFit
open Go.ChangeShapes Go.WideShapes Go.ChangeAt Go.RowKit
set_option linter.unusedVariables false

set_option maxRecDepth 100000 in
theorem lifted (os : Os) (started : os.Started) (H : Type) (enc : TypeId × Value → H) :
    ReturnsInHanded {} Try.checked os 5 .any (Rows.packsFitSpec.pre6 enc Try.prog Try.f5 Rows.packsFitRow.domain false) (Rows.packsFitSpec.post enc Try.prog Try.f5 false true false false) := by
  refine returnsInHanded_of_change (C := Try.checked) own_knob started (by kernel_rfl) Try.func5
    (ChangeSpec.witness6 (enc := enc) (C := Try.checked) false ⟨#[], #[.slice none 0 0, .int .u16 0], []⟩ 8 (by kernel_rfl) (by kernel_rfl) (by kernel_rfl) (by kernel_rfl)) ?_
  intro W base args ds gs before hval0 hW hcnd _
  have hval : ∀ (j : Nat) t v, Try.f5.params[j]? = some t → args[j]? = some v → Value.okWide Try.prog W .any base t v := hval0
  have hW' := hW
  obtain ⟨p, q, hA0, hV, rfl, hfz, hnd⟩ := hW
  have hA : DataW.TrodAll enc Try.prog W 0 (fun _ => true) true Try.f5.params.toList args.toList ds p := hA0
  rw [Try.params5] at hA hval
  obtain ⟨v0, vs0, d0, ds0, p0, q0, hargs, rfl, rfl, h0, r0⟩ := trodAll_cons hA
  obtain ⟨v1, vs1, d1, ds1, p1, q1, rfl, rfl, rfl, h1, r1⟩ := trodAll_cons r0
  obtain ⟨rfl, rfl, rfl⟩ := trodAll_nil r1
  obtain rfl : args = #[v0, v1] := by cases args; simp_all
  obtain ⟨rfl, rfl⟩ := trodVars_none hV
  obtain ⟨a0, len0, cap0, rfl⟩ := okWide_slice Try.underlying22 (hval 0 22 v0 rfl rfl)
  obtain ⟨l0, w0⟩ := bytes_in rfl h0
  obtain ⟨a1, rfl, rfl, rfl, w1⟩ := open_int Try.underlying41 (hval 1 41 v1 rfl rfl) h1
  clear hA0 hval0
  refine (law_pfit w0 w1).mono fun e W' ⟨he, bel⟩ => ?_
  subst he
  exact ⟨_, rfl, _, _, _, [], _, [], hW', trodAll_mk1 (shut_bool Try.underlying4 _), (trodAll_cons_mk (Below.trod laid_out (by kernel_rfl) (of_decide_eq_true (by kernel_rfl)) h0 bel (trod_lt h0)) (trodAll_cons_mk (shut_int Try.underlying41 w1) trodAll_mk0)), rfl, bel.frame _, fun h => by cases h⟩

theorem proved : Rows.PacksFitSaid :=
  OpenClaim.holds_of_wide 5 Try.f5 rfl rfl rfl rfl rfl rfl rfl ⟨rfl, rfl, rfl, rfl, rfl⟩ rfl rfl rfl rfl rfl (by kernel_rfl) Try.func5 (by kernel_rfl)
    (of_decide_eq_true (by kernel_rfl)) (by unfold Func.isWrapper; first | (rw [if_pos (by decide +kernel)]; kernel_rfl) | (rw [if_neg (by decide +kernel)]; exact ⟨rfl, rfl⟩))
    (fun os started H enc _ => lifted os started H enc)
#print axioms proved
end Go.Proofs.Ytnbjhdlnibmgdaa.packsFit
