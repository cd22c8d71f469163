/-
  Files: the reference's files in memory.
  The reference's front: one text, with a slash behind it, ahead of another one.
  The reference's Names.
  The reference's Path.
-/
import Derived.Test.YtpcoiakdbfihlaaDoorPk05
import Derived.BigQuiet
import Derived.Test.YtpcoiakdbfihlaaDoorPk02
import Derived.Test.YtpcoiakdbfihlaaDoorPk01
import Derived.Test.YtpcoiakdbfihlaaDoorPk10
/-! Files: the reference's files in memory. -/
namespace Go.Proofs.YtpcoiakdbfihlaaDoor
open Go.RowKit Codec

def fmV (x : Fi) : Array Value := #[.string (st x.1), .string (st x.2)]
def fmCells (L : List Fi) : List Value := (L.map fun y => (fmV y).toList).flatten
theorem fmCells_len (L : List Fi) : (fmCells L).length = L.length * 2 := by
  induction L with
  | nil => rfl
  | cons y L ih =>
    unfold fmCells at ih ⊢
    rw [List.map_cons, List.flatten_cons, List.length_append, ih, List.length_cons]
    simp [fmV]
    omega
theorem fmCells_app (L M : List Fi) : fmCells (L ++ M) = fmCells L ++ fmCells M := by simp [fmCells]
theorem fmCells_at : ∀ (L : List Fi) (i : Nat) (y : Fi), L[i]? = some y → ∀ (j : Nat) (v : Value), (fmV y)[j]? = some v → (fmCells L)[i * 2 + j]? = some v
  | [], i, y, h, _, _, _ => by simp at h
  | z :: L, 0, y, h, j, v, hv => by
    simp at h
    subst h
    have hj : j < 2 := by
      have := (Array.getElem?_eq_some_iff.1 hv).1
      simpa [fmV] using this
    unfold fmCells
    rw [List.map_cons, List.flatten_cons, Nat.zero_mul, Nat.zero_add, List.getElem?_append_left (by simp [fmV]; exact hj)]
    simpa using hv
  | z :: L, i + 1, y, h, j, v, hv => by
    have h' : L[i]? = some y := by simpa using h
    have ih := fmCells_at L i y h' j v hv
    unfold fmCells at ih ⊢
    rw [List.map_cons, List.flatten_cons, List.getElem?_append_right (by simp [fmV]; omega), ← ih]
    congr 1
    simp [fmV]
    omega
theorem fmCells_one (L : List Fi) : ∀ u ∈ fmCells L, u.oneCell' = true := by
  intro u hu
  unfold fmCells at hu
  obtain ⟨l, hl, hu⟩ := List.mem_flatten.1 hu
  obtain ⟨y, _, rfl⟩ := List.mem_map.1 hl
  simp [fmV] at hu
  rcases hu with rfl | rfl <;> rfl
/-- THE MODEL'S CHANGES IN MEMORY. -/
structure Fms (w : World) (S : Nat → Prop) (A : Option Addr) (n c : Nat) (l : List Fi) : Prop where
  len : l.length = n
  cap : n ≤ c
  max : c ≤ maxLen
  row : 0 < n → ∃ b off, A = some ⟨b, off, none⟩ ∧ S b ∧ b < w.heap.size ∧ ∀ i x, l[i]? = some x → ∀ (j : Nat) (v : Value), (fmV x)[j]? = some v → w.cell? ⟨b, off + i * 2 + j, none⟩ = some v
variable {w w' : World} {S T : Nat → Prop} {A : Option Addr} {n c : Nat} {l : List Fi}
theorem Fms.turned (h : Fms w S A n c l) (ht : Turned T w w') (hd : ∀ k, k < w.heap.size → S k → ¬ T k) : Fms w' S A n c l :=
  ⟨h.len, h.cap, h.max, fun h0 => by
    obtain ⟨b, off, h1, h2, h3, h4⟩ := h.row h0
    exact ⟨b, off, h1, h2, Nat.lt_of_lt_of_le h3 ht.size, fun i x hx j v hv => (cell_turned ht h3 (hd b h3 h2) _).trans (h4 i x hx j v hv)⟩⟩
theorem Fms.below (h : Fms w S A n c l) (hb : Below w.heap.size w w') : Fms w' S A n c l :=
  h.turned (T := fun _ => False) (Turned.of_below hb) fun _ _ _ h => h
theorem Fms.mono (h : Fms w S A n c l) (hT : ∀ k, k < w.heap.size → S k → T k) : Fms w T A n c l :=
  ⟨h.len, h.cap, h.max, fun h0 => by
    obtain ⟨b, off, h1, h2, h3, h4⟩ := h.row h0
    exact ⟨b, off, h1, hT b h3 h2, h3, h4⟩⟩
theorem Fms.nil (w : World) (S : Nat → Prop) (A : Option Addr) (c : Nat) (hc : c ≤ maxLen) : Fms w S A 0 c [] := ⟨rfl, Nat.zero_le _, hc, fun h => absurd h (by omega)⟩
theorem Fms.at_ (h : Fms w S A n c l) {i : Nat} (hi : i < n) : ∃ b off x, A = some ⟨b, off, none⟩ ∧ S b ∧ b < w.heap.size ∧ l[i]? = some x ∧ w.cell? ⟨b, off + i * 2, none⟩ = some (.string (st x.1)) ∧ w.cell? ⟨b, off + i * 2 + 1, none⟩ = some (.string (st x.2)) := by
  obtain ⟨b, off, h1, h2, h3, h4⟩ := h.row (by omega)
  have hx : l[i]? = some (l[i]'(by have := h.len; omega)) := List.getElem?_eq_getElem _
  exact ⟨b, off, _, h1, h2, h3, hx, h4 i _ hx 0 _ rfl, h4 i _ hx 1 _ rfl⟩
/-- A row that a call has made. -/
theorem own_fms {B : Nat} {v : Value} (h : w.ownsRow B 54 2 v l.length (fmCells l)) : ∃ A c, v = .slice A l.length c ∧ Fms w (B ≤ ·) A l.length c l := by
  obtain ⟨e1, e2⟩ := h
  rcases e2 with ⟨rfl, e2⟩ | ⟨g, cap, cur, rfl, e3, e4, e5, e6, e7, e8⟩
  · have hl : l = [] := List.eq_nil_of_length_eq_zero e2
    subst hl
    exact ⟨none, 0, rfl, Fms.nil _ _ _ _ (Nat.zero_le _)⟩
  · refine ⟨_, _, rfl, rfl, e5, e6, fun h0 => ⟨g, 0, rfl, e3, lt_of_cells e4, fun i x hx j u hu => ?_⟩⟩
    have hc := fmCells_at l i x hx j u hu
    rw [← e8] at hc
    rw [Nat.zero_add, cell_of_cells e4]
    have hlt := (List.getElem?_eq_some_iff.1 hc).1
    rw [List.length_take] at hlt
    rw [List.getElem?_take_of_lt (by omega)] at hc
    simpa using hc
theorem fm_info3 : (Tryd.prog.info? 54).map (fun i => (i.zero, i.size, i.bytes)) = some (some (.agg #[.string ⟨#[]⟩, .string ⟨#[]⟩]), 2, 32) := by kernel_rfl
theorem zero_fm : ∀ W, (zeroValue 54).run Tryd.prog W = .ok (.agg #[.string ⟨#[]⟩, .string ⟨#[]⟩]) W := fun W => by kernel_rfl
theorem fmV_one (x : Fi) : (fmV x).all (·.oneCell') = true := by simp [fmV, Value.oneCell']
/-- Some are laid behind such a row. -/
theorem own_fms_app {B : Nat} {v : Value} (h : w.ownsRow B 54 2 v l.length (fmCells l)) (hB : B ≤ w.heap.size) {n2 c2 : Nat} {a : Addr} {m : List Fi} (hm : m.length = n2) (hrow : ∀ (j : Nat) (u : Value), (fmCells m)[j]? = some u → w.cell? (a.add j) = some u) (hl : l.length + n2 ≤ 1000000) (ty : TypeId) :
    ∃ A' c' W', (Builtin.append_ #[25, 25] ty #[v, .slice (some a) n2 c2]).run Tryd.prog w = .ok (.slice A' (l ++ m).length c') W' ∧ W'.ownsRow B 54 2 (.slice A' (l ++ m).length c') (l ++ m).length (fmCells (l ++ m)) ∧ Below B w W' := by
  obtain ⟨i0, hi, hz0, hz1, hz2⟩ := info_parts fm_info3
  obtain ⟨v', W', hr, g1, g2, _, g4⟩ := run_append_own_at (P := Tryd.prog) w B 25 ty 54 i0 (.agg #[.string ⟨#[]⟩, .string ⟨#[]⟩]) 2 32 Tryd.underlying25 hi hz0 hz1 hz2 rfl (by decide) v l.length (fmCells l) h a n2 c2 (fmCells m) (by rw [fmCells_len, hm])
    hrow (fmCells_one m) (by unfold maxLen; omega) (by omega) hB
  have hb : Below B w W' := (Below.refl B w).grown g2 hB fun g hg => (h.lt g hg).1
  rw [← fmCells_app] at g1
  have hlen : l.length + n2 = (l ++ m).length := by rw [List.length_append, hm]
  rw [hlen] at g1
  obtain ⟨A', c', rfl, _⟩ := own_fms g1
  exact ⟨A', c', W', hr, g1, hb⟩
end Go.Proofs.YtpcoiakdbfihlaaDoor

/-! The reference's front: one text, with a slash behind it, ahead of another one. -/
namespace Go.Proofs.YtpcoiakdbfihlaaDoor
open Go.RowKit Codec

/-- One text, with a slash behind it, is the front of another one. -/
def frontB (a b : List UInt8) : Bool := (a ++ [47]).isPrefixOf b
theorem frontB_iff {a b : List UInt8} : frontB a b = true ↔ ∃ r, b = a ++ 47 :: r := by
  unfold frontB
  rw [List.isPrefixOf_iff_prefix]
  constructor
  · rintro ⟨r, rfl⟩
    exact ⟨r, by simp⟩
  · rintro ⟨r, rfl⟩
    exact ⟨r, by simp⟩
theorem frontB_true {a b : List UInt8} (h1 : a.length < b.length) (h2 : b.take a.length = a) (h3 : b[a.length]?.getD 0 = 47) : frontB a b = true := by
  refine frontB_iff.2 ⟨b.drop (a.length + 1), ?_⟩
  have h4 : b.drop a.length = 47 :: b.drop (a.length + 1) := by
    rw [List.drop_eq_getElem_cons h1]
    rw [List.getElem?_eq_getElem h1] at h3
    rw [show b[a.length] = 47 from h3]
  have h5 := List.take_append_drop a.length b
  rw [h2, h4] at h5
  exact h5.symm
theorem frontB_false {a b : List UInt8} (h : ¬ a.length < b.length ∨ b.take a.length ≠ a ∨ b[a.length]?.getD 0 ≠ 47) : frontB a b = false := by
  cases e : frontB a b with
  | false => rfl
  | true =>
    obtain ⟨r, rfl⟩ := frontB_iff.1 e
    simp at h
set_option maxHeartbeats 4000000 in
set_option maxRecDepth 100000 in
theorem front_any (a b : List UInt8) (W : World) :
    Calls Tryd.prog 35 #[.string (st a), .string (st b)] W fun e w' => e = .returned (.bool (frontB a b)) ∧ w' = W := by
  have sa := st_size a
  have sb := st_size b
  obtain ⟨R, hR⟩ : ∃ R, R = frontB a b := ⟨_, rfl⟩
  rw [← hR]
  by_cases h1 : a.length < b.length
  · have h1' : (b.length : Int) > (a.length : Int) := by omega
    have hto := fun W => st_to (P := Tryd.prog) (t := 9) (l := b) (W := W) Tryd.underlying9 a.length (a.length : Int) rfl (by omega)
    by_cases h2 : b.take a.length = a
    · have hq : ((st (b.take a.length)).toList == (st a).toList) = true := by rw [st_beq, decide_eq_true h2]
      have hix := fun W => st_index (P := Tryd.prog) (t := 9) (l := b) (W := W) Tryd.underlying9 a.length (a.length : Int) rfl h1
      by_cases h3 : b[a.length]?.getD 0 = 47
      · rw [frontB_true h1 h2 h3] at hR
        rw [h3] at hix
        subst hR
        clear h1 h2 h3
        go_enter Tryd.func35, Tryd.ntmps35
        go_wp2_with fail
        go_ret
        exact ⟨rfl, rfl⟩
      · rw [frontB_false (.inr (.inr h3))] at hR
        have hne : ((((b[a.length]?.getD 0).toNat : Int)) == 47) = false := by
          rw [beq_eq_false_iff_ne]
          intro e
          exact h3 (UInt8.toNat.inj (by rw [show (47 : UInt8).toNat = 47 from rfl]; omega))
        generalize b[a.length]?.getD 0 = B at *
        subst hR
        clear h1 h2 h3
        go_enter Tryd.func35, Tryd.ntmps35
        go_wp2_with fail
        go_ret
        exact ⟨rfl, rfl⟩
    · rw [frontB_false (.inr (.inl h2))] at hR
      have hq : ((st (b.take a.length)).toList == (st a).toList) = false := by rw [st_beq, decide_eq_false h2]
      subst hR
      clear h1 h2
      go_enter Tryd.func35, Tryd.ntmps35
      go_wp2_with fail
      go_ret
      exact ⟨rfl, rfl⟩
  · have h1' : ¬ (b.length : Int) > (a.length : Int) := by omega
    rw [frontB_false (.inl h1)] at hR
    subst hR
    clear h1
    go_enter Tryd.func35, Tryd.ntmps35
    go_wp2_with fail
    go_ret
    exact ⟨rfl, rfl⟩
end Go.Proofs.YtpcoiakdbfihlaaDoor

/-! The reference's Names. -/
namespace Go.Proofs.YtpcoiakdbfihlaaDoor
open Go.RowKit Codec

/-- While they are parted. -/
structure NmI (l : List UInt8) (j f : Nat) (ns : List (List UInt8)) : Prop where
  jn : j ≤ l.length + 1
  fj : f ≤ j
  few : ns.length ≤ j
  on : j ≤ l.length → spl l = ns ++ spl (l.drop f) ∧ 47 ∉ (l.drop f).take (j - f)
  off : l.length < j → spl l = ns
theorem NmI.start (l : List UInt8) : NmI l 0 0 [] := ⟨Nat.zero_le _, Nat.le_refl _, Nat.le_refl _, fun _ => ⟨by simp, by simp⟩, fun h => absurd h (by omega)⟩
theorem NmI.step {l : List UInt8} {j f : Nat} {ns : List (List UInt8)} (h : NmI l j f ns) (hj : j < l.length) (hc : l[j]?.getD 0 ≠ 47) : NmI l (j + 1) f ns := by
  refine ⟨by omega, by have := h.fj; omega, by have := h.few; omega, fun _ => ⟨(h.on (by omega)).1, fun hm => ?_⟩, fun h => absurd h (by omega)⟩
  have h1 := (h.on (by omega)).2
  have hf := h.fj
  rw [show j + 1 - f = (j - f) + 1 by omega, List.take_add_one, List.getElem?_drop, show f + (j - f) = j by omega] at hm
  rcases List.mem_append.1 hm with hm | hm
  · exact h1 hm
  · rw [List.getElem?_eq_getElem hj] at hm hc
    simp only [Option.toList_some, List.mem_singleton, Option.getD_some] at hm hc
    exact hc hm.symm
theorem NmI.cut {l : List UInt8} {j f : Nat} {ns : List (List UInt8)} (h : NmI l j f ns) (hj : j < l.length) (hc : l[j]?.getD 0 = 47) : NmI l (j + 1) (j + 1) (ns ++ [(l.drop f).take (j - f)]) := by
  obtain ⟨h1, h2⟩ := h.on (by omega)
  have hf := h.fj
  refine ⟨by omega, Nat.le_refl _, by have := h.few; simp; omega, fun _ => ⟨?_, by simp⟩, fun h => absurd h (by omega)⟩
  have e : l.drop f = (l.drop f).take (j - f) ++ 47 :: l.drop (j + 1) := by
    have h3 := List.take_append_drop (j - f) (l.drop f)
    rw [List.drop_drop, show f + (j - f) = j by omega, List.drop_eq_getElem_cons hj] at h3
    rw [List.getElem?_eq_getElem hj] at hc
    rw [show l[j] = 47 from hc] at h3
    exact h3.symm
  have h4 := spl_at (l.drop (j + 1)) h2
  rw [← e] at h4
  rw [h1, h4]
  simp
theorem NmI.last {l : List UInt8} {f : Nat} {ns : List (List UInt8)} (h : NmI l l.length f ns) : NmI l (l.length + 1) (l.length + 1) (ns ++ [(l.drop f).take (l.length - f)]) := by
  obtain ⟨h1, h2⟩ := h.on (Nat.le_refl _)
  refine ⟨Nat.le_refl _, Nat.le_refl _, by have := h.few; simp; omega, fun h => absurd h (by omega), fun _ => ?_⟩
  have e : (l.drop f).take (l.length - f) = l.drop f := List.take_of_length_le (by simp)
  rw [e] at h2 ⊢
  rw [h1, spl_none h2]
def NmR (w : World) (l : List UInt8) (v3 v4 v5 : Value) (wr : World) : Prop :=
  ∃ (j f : Nat) (ns : List (List UInt8)), v5 = .int .i64 (j : Int) ∧ v4 = .int .i64 (f : Int) ∧ NmI l j f ns ∧ UnS w wr ns [] v3 (.slice none 0 0)
set_option maxHeartbeats 8000000 in
set_option maxRecDepth 100000 in
theorem names_any (l : List UInt8) (hN : l.length ≤ 1000000) (w : World) :
    Calls Tryd.prog 31 #[.string (st l)] w fun e w' => ∃ A c, e = .returned (.slice A (spl l).length c) ∧ Strs w' (w.heap.size ≤ ·) A (spl l).length c (spl l) ∧ Below w.heap.size w w' := by
  have sl := st_size l
  obtain ⟨N, hNl⟩ : ∃ N, N = l.length := ⟨_, rfl⟩
  rw [← hNl] at sl hN
  have HN := Lib.hid hNl
  have H0 : Hid (NmR w l (.slice none 0 0) (.int .i64 0) (.int .i64 0) w) := Lib.hid ⟨0, 0, [], rfl, rfl, NmI.start l, UnS.nil w⟩
  clear hNl
  go_enter Tryd.func31, Tryd.ntmps31
  go_wp2_with fail
  go_loopw [3, 4, 5] (fun a b c wr => NmR w l a b c wr) (fun _ _ i _ => N + 1 - (intOf i).toNat)
  case atStart => exact H0.out
  case round =>
    obtain ⟨j, f, ns, rfl, rfl, hI, hU⟩ := hrel
    clear H0
    have HI := Lib.hid hI
    obtain ⟨A0, c0, rfl, hS0⟩ := hU.v7s
    have HU := Lib.hid hU
    have HS := Lib.hid hS0
    clear hS0
    have hjn : j ≤ N + 1 := by rw [HN.out]; exact hI.jn
    have hfj := hI.fj
    clear hU hI
    have hadd := IntWalk.i64_in ((j : Int) + 1) (by omega)
    by_cases hle : j ≤ N
    · have hle' : (j : Int) ≤ (N : Int) := by omega
      obtain ⟨nm, hnm⟩ : ∃ nm, nm = (l.drop f).take (j - f) := ⟨_, rfl⟩
      have hmid := fun W => st_mid (P := Tryd.prog) (t := 9) (l := l) (W := W) Tryd.underlying9 f j (f : Int) (j : Int) rfl rfl hfj (by rw [← HN.out]; exact hle)
      obtain ⟨A3, c3, w3, hap, hU3⟩ := HU.out.name nm (by have := HI.out.few; omega)
      rw [← hnm] at hmid
      have HU3 := Lib.hid hU3
      have HM := Lib.hid hnm
      clear hU3 hnm
      by_cases hlt : j < N
      · have hje : ((j : Int) == (N : Int)) = false := by simp; omega
        have hix := fun W => st_index (P := Tryd.prog) (t := 9) (l := l) (W := W) Tryd.underlying9 j (j : Int) rfl (by rw [← HN.out]; exact hlt)
        by_cases hc : l[j]?.getD 0 = 47
        · rw [hc] at hix
          have HI2 : Hid (NmI l (j + 1) (j + 1) (ns ++ [nm])) := Lib.hid (by rw [HM.out]; exact HI.out.cut (by rw [← HN.out]; exact hlt) hc)
          clear hc hfj
          go_wp2_with (at_builtin; refine wpList_app (by rfl) (.tmp 22) (.tmp 27) 44 (by rfl) (by rfl) (by rfl) hap ?_)
          go_roundw
          case rel => exact ⟨j + 1, j + 1, ns ++ [nm], by simp, by simp, HI2.out, HU3.out⟩
          case measure => simp only [intOf]; omega
        · have HI2 : Hid (NmI l (j + 1) f ns) := Lib.hid (HI.out.step (by rw [← HN.out]; exact hlt) hc)
          have hne : ((((l[j]?.getD 0).toNat : Int)) == 47) = false := by
            rw [beq_eq_false_iff_ne]
            intro e
            exact hc (UInt8.toNat.inj (by rw [show (47 : UInt8).toNat = 47 from rfl]; omega))
          generalize l[j]?.getD 0 = B at *
          clear hc hap hmid hfj
          go_wp2_with fail
          go_roundw
          case rel => exact ⟨j + 1, f, ns, by simp, rfl, HI2.out, HU.out⟩
          case measure => simp only [intOf]; omega
      · obtain rfl : j = N := by omega
        have HI2 : Hid (NmI l (j + 1) (j + 1) (ns ++ [nm])) := Lib.hid (by
          have h1 := HI.out
          rw [HM.out]
          rw [HN.out] at h1 ⊢
          exact h1.last)
        clear hlt hfj
        go_wp2_with (at_builtin; refine wpList_app (by rfl) (.tmp 22) (.tmp 27) 44 (by rfl) (by rfl) (by rfl) hap ?_)
        go_roundw
        case rel => exact ⟨j + 1, j + 1, ns ++ [nm], by simp, by simp, HI2.out, HU3.out⟩
        case measure => simp only [intOf]; omega
    · have hle' : ¬ (j : Int) ≤ (N : Int) := by omega
      have HE : Hid (spl l = ns) := Lib.hid (HI.out.off (by rw [← HN.out]; omega))
      clear hle hfj
      go_wp2_with fail
      go_ret
      refine ⟨A0, c0, by rw [HE.out]; rfl, by rw [HE.out]; exact HS.out, HU.out.bel⟩
end Go.Proofs.YtpcoiakdbfihlaaDoor

/-! The reference's Path. -/
namespace Go.Proofs.YtpcoiakdbfihlaaDoor
open Go.RowKit Codec

def nmNo (n : List UInt8) : Bool := decide (n = []) || decide (n = [46]) || decide (n = [46, 46])
def hiB (l : List UInt8) : Bool := l.all fun c => decide (32 ≤ c.toNat)
theorem spl_hi : ∀ l, (spl l).all hiB = hiB l
  | [] => rfl
  | c :: t => by
    have ih := spl_hi t
    by_cases hc : c = 47
    · subst hc
      rw [spl_slash, List.all_cons, ih]
      simp [hiB]
    · obtain ⟨x, r, e⟩ := List.exists_cons_of_ne_nil (spl_ne t)
      rw [spl_cons hc e, List.all_cons]
      rw [e, List.all_cons] at ih
      have h1 : hiB (c :: x) = (decide (32 ≤ c.toNat) && hiB x) := by simp [hiB]
      have h2 : hiB (c :: t) = (decide (32 ≤ c.toNat) && hiB t) := by simp [hiB]
      rw [h1, h2, ← ih, Bool.and_assoc]
theorem nmOk_no (n : List UInt8) : nmOk n = (!nmNo n && hiB n) := by
  unfold nmOk nmNo hiB
  by_cases h1 : n = [] <;> by_cases h2 : n = [46] <;> by_cases h3 : n = [46, 46] <;> simp [h1, h2, h3]
theorem all_and (p q : List UInt8 → Bool) : ∀ l : List (List UInt8), (l.all fun x => p x && q x) = (l.all p && l.all q)
  | [] => rfl
  | x :: t => by
    rw [List.all_cons, List.all_cons, List.all_cons, all_and p q t]
    cases p x <;> cases q x <;> simp
theorem pathOk_parts (l : List UInt8) : pathOk l = (decide (l.length ≤ 255) && ((spl l).all (fun n => !nmNo n) && hiB l)) := by
  unfold pathOk
  rw [← spl_hi l, ← all_and]
  congr 2
  funext n
  exact nmOk_no n
theorem path_big {l : List UInt8} (h : ¬ l.length ≤ 255) : pathOk l = false := by rw [pathOk_parts, decide_eq_false h]; rfl
theorem path_low {l : List UInt8} {j : Nat} {c : UInt8} (hj : l[j]? = some c) (hc : c.toNat < 32) : pathOk l = false := by
  have : hiB l = false := List.all_eq_false.2 ⟨c, List.mem_of_getElem? hj, by simp; omega⟩
  rw [pathOk_parts, this]
  simp
theorem path_nm {l : List UInt8} {j : Nat} {x : List UInt8} (hj : (spl l)[j]? = some x) (hx : nmNo x = true) : pathOk l = false := by
  have : (spl l).all (fun n => !nmNo n) = false := List.all_eq_false.2 ⟨x, List.mem_of_getElem? hj, by simp [hx]⟩
  rw [pathOk_parts, this]
  simp
set_option maxHeartbeats 8000000 in
set_option maxRecDepth 100000 in
theorem rpath_any (l : List UInt8) (w : World) :
    Calls Tryd.prog 15 #[.string (st l)] w fun e w' => e = .returned (.bool (pathOk l)) ∧ Below w.heap.size w w' := by
  have sl := st_size l
  by_cases h0 : l = []
  · have e0 : (st l).toList.isEmpty = true := by rw [st_list, h0]; rfl
    have HE : Hid (pathOk l = false) := Lib.hid (by rw [h0]; rfl)
    clear h0
    go_enter Tryd.func15, Tryd.ntmps15
    go_wp2_with fail
    go_ret
    exact ⟨by rw [HE.out]; rfl, Below.refl _ _⟩
  have e0 : (st l).toList.isEmpty = false := by rw [st_list]; simpa using h0
  obtain ⟨N, hN⟩ : ∃ N, N = l.length := ⟨_, rfl⟩
  rw [← hN] at sl
  by_cases hbig : ¬ N ≤ 255
  · have hb : (N : Int) > 255 := by omega
    have HE : Hid (pathOk l = false) := Lib.hid (path_big (by rw [← hN]; exact hbig))
    clear h0 hN hbig
    go_enter Tryd.func15, Tryd.ntmps15
    go_wp2_with fail
    go_ret
    exact ⟨by rw [HE.out]; rfl, Below.refl _ _⟩
  have hb : ¬ (N : Int) > 255 := by omega
  have hbig := Classical.not_not.1 hbig
  have HN := Lib.hid (And.intro hN hbig)
  have hnm := names_any l (by rw [← hN]; omega) w
  clear hN h0
  go_enter Tryd.func15, Tryd.ntmps15
  go_wp2_with fail
  go_loopw [3] (fun i wr => ∃ j : Nat, j ≤ N ∧ i = .int .i64 (j : Int) ∧ hiB (l.take j) = true ∧ wr = w) (fun i _ => N - (intOf i).toNat)
  case atStart => exact ⟨0, Nat.zero_le _, rfl, rfl, rfl⟩
  case round =>
    obtain ⟨j, hj, rfl, hhi, rfl⟩ := hrel
    have HH := Lib.hid hhi
    clear hhi
    by_cases hlt : j < N
    · have hlt' : (j : Int) < (N : Int) := by omega
      have hadd := IntWalk.i64_in ((j : Int) + 1) (by omega)
      have hjl : j < l.length := by rw [← HN.out.1]; exact hlt
      have hix := fun W => st_index (P := Tryd.prog) (t := 9) (l := l) (W := W) Tryd.underlying9 j (j : Int) rfl hjl
      obtain ⟨c, hc⟩ : ∃ c, l[j]? = some c := ⟨_, List.getElem?_eq_getElem hjl⟩
      rw [hc, Option.getD_some] at hix
      have HC := Lib.hid hc
      clear hc hjl
      by_cases h32 : c.toNat < 32
      · have h32' : (c.toNat : Int) < 32 := by omega
        have HE : Hid (pathOk l = false) := Lib.hid (path_low HC.out h32)
        clear h32 hnm
        go_wp2_with fail
        go_ret
        exact ⟨by rw [HE.out]; rfl, Below.refl _ _⟩
      · have h32' : ¬ (c.toNat : Int) < 32 := by omega
        have HE : Hid (hiB (l.take (j + 1)) = true) := Lib.hid (by
          unfold hiB
          rw [List.take_add_one, HC.out, List.all_append]
          have := HH.out
          unfold hiB at this
          rw [this]
          simp
          omega)
        clear h32 hnm
        go_wp2_with fail
        go_roundw
        case rel => exact ⟨j + 1, by omega, by simp, HE.out, by first | rfl | trivial⟩
        case measure => simp only [intOf]; omega
    · have hlt' : ¬ (j : Int) < (N : Int) := by omega
      have HHI : Hid (hiB l = true) := Lib.hid (by have h1 := HH.out; rwa [List.take_of_length_le (by rw [← HN.out.1]; omega)] at h1)
      obtain ⟨L, hL⟩ : ∃ L, L = spl l := ⟨_, rfl⟩
      rw [← hL] at hnm
      have HLL : Hid (L = spl l ∧ L.length ≤ 256) := Lib.hid ⟨hL, by
        have h1 := HN.out
        have h2 : ∀ l : List UInt8, (spl l).length ≤ l.length + 1 := fun l => by
          induction l with
          | nil => simp [spl]
          | cons c t ih =>
            by_cases hc : c = 47
            · subst hc
              rw [spl_slash]
              simp
              omega
            · obtain ⟨x, r, e⟩ := List.exists_cons_of_ne_nil (spl_ne t)
              rw [spl_cons hc e]
              rw [e] at ih
              simp at ih ⊢
              omega
        have h3 := h2 l
        rw [hL]
        omega⟩
      clear hL hlt HH hj
      go_upto_region 9 with (go_at_call 31; refine hnm.mono ?_; clear hnm; rintro _ w1 ⟨A, c, rfl, hS, hb1⟩)
      obtain ⟨M, hM⟩ : ∃ M, M = L.length := ⟨_, rfl⟩
      rw [← hM] at hS ⊢
      have HS := Lib.hid (And.intro hS (And.intro hb1 hM))
      have hM2 : M ≤ 256 := by rw [hM]; exact HLL.out.2
      clear hS hb1 hM
      go_wp2_with fail
      go_loopw [5] (fun i wr => ∃ j : Nat, j ≤ M ∧ i = .int .i64 (j : Int) ∧ (L.take j).all (fun n => !nmNo n) = true ∧ wr = w1) (fun i _ => M - (intOf i).toNat)
      case atStart => exact ⟨0, Nat.zero_le _, rfl, rfl, rfl⟩
      case round =>
        obtain ⟨k, hk, rfl, hal, rfl⟩ := hrel
        have HA := Lib.hid hal
        clear hal
        by_cases hlt : k < M
        · have hlt2 : (k : Int) < (M : Int) := by omega
          have hadd := IntWalk.i64_in ((k : Int) + 1) (by omega)
          obtain ⟨b, off, rfl, _, _, hcs⟩ := HS.out.1.row (by omega)
          obtain ⟨x, hx⟩ : ∃ x, L[k]? = some x := ⟨_, List.getElem?_eq_getElem (by rw [← HS.out.2.2]; exact hlt)⟩
          have hc0 := hcs k hlt
          rw [hx, Option.getD_some] at hc0
          have HX := Lib.hid hx
          clear hcs hx
          by_cases h0 : x = []
          · have e1 : (st x).toList.isEmpty = true := by rw [st_list, h0]; rfl
            have HE : Hid (pathOk l = false) := Lib.hid (path_nm (by rw [← HLL.out.1]; exact HX.out) (by rw [h0]; rfl))
            clear h0
            go_wp2_with fail
            go_ret
            exact ⟨by rw [HE.out]; rfl, HS.out.2.1⟩
          · have e1 : (st x).toList.isEmpty = false := by rw [st_list]; simpa using h0
            by_cases h1 : x = [46]
            · have e2 : ((st x).toList == [46]) = true := by rw [st_list, h1]; rfl
              have HE : Hid (pathOk l = false) := Lib.hid (path_nm (by rw [← HLL.out.1]; exact HX.out) (by rw [h1]; rfl))
              clear h0 h1
              go_wp2_with fail
              go_ret
              exact ⟨by rw [HE.out]; rfl, HS.out.2.1⟩
            · have e2 : ((st x).toList == [46]) = false := by rw [st_list]; simpa using h1
              by_cases h2 : x = [46, 46]
              · have e3 : ((st x).toList == [46, 46]) = true := by rw [st_list, h2]; rfl
                have HE : Hid (pathOk l = false) := Lib.hid (path_nm (by rw [← HLL.out.1]; exact HX.out) (by rw [h2]; rfl))
                clear h0 h1 h2
                go_wp2_with fail
                go_ret
                exact ⟨by rw [HE.out]; rfl, HS.out.2.1⟩
              · have e3 : ((st x).toList == [46, 46]) = false := by rw [st_list]; simpa using h2
                have HE : Hid ((L.take (k + 1)).all (fun n => !nmNo n) = true) := Lib.hid (by
                  rw [List.take_add_one, HX.out, List.all_append, HA.out]
                  simp [nmNo, h0, h1, h2])
                clear h0 h1 h2
                go_wp2_with fail
                go_roundw
                case rel => exact ⟨k + 1, by omega, by simp, HE.out, by first | rfl | trivial⟩
                case measure => simp only [intOf]; omega
        · have hlt2 : ¬ (k : Int) < (M : Int) := by omega
          have HE : Hid (pathOk l = true) := Lib.hid (by
            have h1 := HA.out
            rw [List.take_of_length_le (by rw [← HS.out.2.2]; omega), HLL.out.1] at h1
            rw [pathOk_parts, decide_eq_true (by rw [← HN.out.1]; exact HN.out.2), h1, HHI.out]
            rfl)
          clear hlt
          go_wp2_with fail
          go_ret
          exact ⟨by rw [HE.out]; rfl, HS.out.2.1⟩
end Go.Proofs.YtpcoiakdbfihlaaDoor
