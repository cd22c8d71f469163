/-
  Cells: the laws' small.
  Cells: changes laid in a row of one's own.
  Cells: changes that may not be are refused, however long they are.
  The statement CellsNone: its walk.
  Cells: a slice of changes, and a change, that came in.
  The statement CellsNone, proved: for every changes and every change the law returns true. No condition.
-/
import Derived.Test.YtpdkoiogfaimaaaPk12
import Derived.Test.YtpdkoiogfaimaaaPk03
import Derived.Test.YtpdkoiogfaimaaaPk19
import Derived.Test.YtpdkoiogfaimaaaPkTurns02
import Derived.Test.YtpdkoiogfaimaaaPkTurns03
import Derived.Test.YtpdkoiogfaimaaaPk20
import Derived.Test.YtpdkoiogfaimaaaPk21
import Derived.Deep.Strs
/-! Cells: the laws' small. -/
namespace Go.Proofs.Ytpdkoiogfaimaaa
open Go.RowKit Codec

/-- The letters and bytes of changes. -/
def sumC (l : List Ch) : Nat := (l.map fun x => x.k.length + x.v.length).sum
def RSm10 (w : World) (n : Nat) (l : List Ch) (z i : Value) (wr : World) : Prop :=
  ∃ (j : Nat) (s : Int), j ≤ n ∧ i = .int .i64 (j : Int) ∧ z = .int .i64 s ∧ (n ≤ 8 → (∀ x ∈ l, mayC x = true) → s = (sumC (l.take j) : Int) ∧ s ≤ 5000 * j) ∧ Below w.heap.size w wr
/-- What small tells. -/
def SmP (w : World) (n : Nat) (l : List Ch) (e : Ending) (w' : World) : Prop := ∃ B, e = .returned (.bool B) ∧ (B = true → n ≤ 8 ∧ ((∀ x ∈ l, mayC x = true) → sumC l ≤ 600)) ∧ Below w.heap.size w w'
set_option maxHeartbeats 8000000 in
set_option maxRecDepth 100000 in
theorem small_any {w : World} {S : Nat → Prop} {A : Option Addr} {n c : Nat} {l : List Ch} (h : Chs w S A n c l) :
    Calls Try.prog 7 #[.slice A n c] w fun e w' => SmP w n l e w' := by
  have hmx := h.max
  have HS := Lib.hid (And.intro h (And.intro h.len (show n ≤ maxLen from Nat.le_trans h.cap hmx)))
  clear h hmx
  go_enter Try.func7, Try.ntmps7
  go_wp2_with fail
  go_loopw [3, 4] (fun z i wr => RSm10 w n l z i wr) (fun _ i _ => n - (intOf i).toNat)
  case atStart => exact ⟨0, 0, Nat.zero_le _, rfl, rfl, fun _ _ => by simp [sumC], Below.refl _ _⟩
  case round =>
    obtain ⟨j, s, hj, rfl, rfl, hs, hbel⟩ := hrel
    by_cases hlt : j < n
    · have hlt' : (j : Int) < (n : Int) := by omega
      have hadd1 := IntWalk.i64_in ((j : Int) + 1) (by have h1 := HS.out.2.2; unfold maxLen at h1; omega)
      obtain ⟨b, off, x, Ax, nx, cx, rfl, _, hb, hx, hcs, hy⟩ := HS.out.1.at_ hlt
      have hnx := hy.len
      have hcell : ∀ o u, (chV Ax nx cx x)[o]? = some u → w.cell? ⟨b, off + j * 3 + o, none⟩ = some u := fun o u hu => by have := hcs o u hu; rwa [add_plain] at this
      have HC : Hid (b < wr.drew.heap.size ∧ wr.drew.cell? ⟨b, off + j * 3, none⟩ = some (.string (st x.k)) ∧ wr.drew.cell? ⟨b, off + j * 3 + 1, none⟩ = some (.slice Ax nx cx)) := Lib.hid ⟨Nat.lt_of_lt_of_le hb hbel.size, (hbel.cell (p := ⟨_, _, none⟩) hb).trans (hcell 0 _ rfl), (hbel.cell (p := ⟨_, _, none⟩) hb).trans (hcell 1 _ rfl)⟩
      obtain ⟨S1, hS1⟩ : ∃ S1, S1 = IntKind.i64.wrap ((x.k.length : Int) + (nx : Int)) := ⟨_, rfl⟩
      obtain ⟨S2, hS2⟩ : ∃ S2, S2 = IntKind.i64.wrap (s + S1) := ⟨_, rfl⟩
      have HX := Lib.hid (And.intro hx (And.intro hlt (And.intro hnx (And.intro hS1 hS2))))
      have HR := Lib.hid (And.intro hs hbel)
      have HK := Lib.hid (And.intro (st_size x.k) (And.intro hS1.symm hS2.symm))
      clear hs hbel hb hx hcs hy hcell hj hlt hnx hS1 hS2
      go_upto_region 5 with fail
      refine wp_region_grow (fun W W' => Below W.heap.size W W') (Grow.nth [fun v _ => v = .int .i64 s, fun v _ => v = .slice (some ⟨b, off, none⟩) n c, fun v _ => v = .int .i64 (j : Int), fun v _ => v = .pointer (some ⟨b, off + j * 3, none⟩), fun v _ => v = .pointer (some ⟨b, off + j * 3, none⟩), fun v _ => v = .string (st x.k), fun v _ => v = .int .i64 (x.k.length : Int), fun v _ => v = .slice (some ⟨b, off, none⟩) n c, fun v _ => v = .int .i64 (j : Int), fun v _ => v = .pointer (some ⟨b, off + j * 3, none⟩), fun v _ => v = .pointer (some ⟨b, off + j * 3 + 1, none⟩), fun v _ => v = .slice Ax nx cx, fun v _ => v = .int .i64 (nx : Int), fun v _ => v = .int .i64 S1, fun v _ => v = .int .i64 S2, fun v _ => v = .int .i64 S2]) 33 (by kernel_rfl) (by kernel_rfl) (by rfl) (fun W => Below.refl _ W) (fun _ _ _ h1 h2 => h1.trans (h2.mono h1.size)) (Grow.mono_nth ?gmono) ?gsteps ?gfin
      case gmono => exact ⟨fun _ _ _ h _ => h, fun _ _ _ h _ => h, fun _ _ _ h _ => h, fun _ _ _ h _ => h, fun _ _ _ h _ => h, fun _ _ _ h _ => h, fun _ _ _ h _ => h, fun _ _ _ h _ => h, fun _ _ _ h _ => h, fun _ _ _ h _ => h, fun _ _ _ h _ => h, fun _ _ _ h _ => h, fun _ _ _ h _ => h, fun _ _ _ h _ => h, fun _ _ _ h _ => h, fun _ _ _ h _ => h, trivial⟩
      case gsteps =>
        show Grow.allBelow _ 16
        refine And.intro ?_ ?s15
        refine And.intro ?_ ?s14
        refine And.intro ?_ ?s13
        refine And.intro ?_ ?s12
        refine And.intro ?_ ?s11
        refine And.intro ?_ ?s10
        refine And.intro ?_ ?s9
        refine And.intro ?_ ?s8
        refine And.intro ?_ ?s7
        refine And.intro ?_ ?s6
        refine And.intro ?_ ?s5
        refine And.intro ?_ ?s4
        refine And.intro ?_ ?s3
        refine And.intro ?_ ?s2
        refine And.intro ?_ ?s1
        refine And.intro ?_ ?s0
        exact trivial
        case s0 =>
          refine Grow.step_in (by rfl) (by rfl) ?_
          intro E W ec eg ef hG hd hu R HR1
          have e3 : E (.tmp 3) = .int .i64 s := hu 3 (by kernel_rfl)
          clear hd hu
          go_simp
          exact HR1.out _ _ (Below.refl _ _) rfl
        case s1 =>
          refine Grow.step_in (by rfl) (by rfl) ?_
          intro E W ec eg ef hG hd hu R HR1
          have e0 : E (.tmp 0) = .slice (some ⟨b, off, none⟩) n c := hu 0 (by kernel_rfl)
          clear hd hu
          go_simp
          exact HR1.out _ _ (Below.refl _ _) rfl
        case s2 =>
          refine Grow.step_in (by rfl) (by rfl) ?_
          intro E W ec eg ef hG hd hu R HR1
          have e4 : E (.tmp 4) = .int .i64 (j : Int) := hu 4 (by kernel_rfl)
          clear hd hu
          go_simp
          exact HR1.out _ _ (Below.refl _ _) rfl
        case s3 =>
          refine Grow.step_in (by rfl) (by rfl) ?_
          intro E W ec eg ef hG hd hu R HR1
          have e12 : E (.tmp 12) = .slice (some ⟨b, off, none⟩) n c := hd 1 12 (by kernel_rfl)
          have e13 : E (.tmp 13) = .int .i64 (j : Int) := hd 2 13 (by kernel_rfl)
          clear hd hu
          have hjl := HX.out.2.1
          go_simp
          first | exact HR1.out _ _ (Below.refl _ _) rfl | (rw [if_pos ⟨by omega, by omega⟩]; exact HR1.out _ _ (Below.refl _ _) rfl)
        case s4 =>
          refine Grow.step_in (by rfl) (by rfl) ?_
          intro E W ec eg ef hG hd hu R HR1
          have e14 : E (.tmp 14) = .pointer (some ⟨b, off + j * 3, none⟩) := hd 3 14 (by kernel_rfl)
          clear hd hu
          go_simp
          exact HR1.out _ _ (Below.refl _ _) rfl
        case s5 =>
          refine Grow.step_in (by rfl) (by rfl) ?_
          intro E W ec eg ef hG hd hu R HR1
          have e15 : E (.tmp 15) = .pointer (some ⟨b, off + j * 3, none⟩) := hd 4 15 (by kernel_rfl)
          clear hd hu
          have hcl := (hG.cell (p := ⟨b, off + j * 3, none⟩) HC.out.1).trans HC.out.2.1
          go_simp
          exact HR1.out _ _ (Below.refl _ _) rfl
        case s6 =>
          refine Grow.step_in (by rfl) (by rfl) ?_
          intro E W ec eg ef hG hd hu R HR1
          have e16 : E (.tmp 16) = .string (st x.k) := hd 5 16 (by kernel_rfl)
          clear hd hu
          have hsz := HK.out.1
          go_simp
          exact HR1.out _ _ (Below.refl _ _) rfl
        case s7 =>
          refine Grow.step_in (by rfl) (by rfl) ?_
          intro E W ec eg ef hG hd hu R HR1
          have e0 : E (.tmp 0) = .slice (some ⟨b, off, none⟩) n c := hu 0 (by kernel_rfl)
          clear hd hu
          go_simp
          exact HR1.out _ _ (Below.refl _ _) rfl
        case s8 =>
          refine Grow.step_in (by rfl) (by rfl) ?_
          intro E W ec eg ef hG hd hu R HR1
          have e4 : E (.tmp 4) = .int .i64 (j : Int) := hu 4 (by kernel_rfl)
          clear hd hu
          go_simp
          exact HR1.out _ _ (Below.refl _ _) rfl
        case s9 =>
          refine Grow.step_in (by rfl) (by rfl) ?_
          intro E W ec eg ef hG hd hu R HR1
          have e18 : E (.tmp 18) = .slice (some ⟨b, off, none⟩) n c := hd 7 18 (by kernel_rfl)
          have e19 : E (.tmp 19) = .int .i64 (j : Int) := hd 8 19 (by kernel_rfl)
          clear hd hu
          have hjl := HX.out.2.1
          go_simp
          first | exact HR1.out _ _ (Below.refl _ _) rfl | (rw [if_pos ⟨by omega, by omega⟩]; exact HR1.out _ _ (Below.refl _ _) rfl)
        case s10 =>
          refine Grow.step_in (by rfl) (by rfl) ?_
          intro E W ec eg ef hG hd hu R HR1
          have e20 : E (.tmp 20) = .pointer (some ⟨b, off + j * 3, none⟩) := hd 9 20 (by kernel_rfl)
          clear hd hu
          go_simp
          exact HR1.out _ _ (Below.refl _ _) rfl
        case s11 =>
          refine Grow.step_in (by rfl) (by rfl) ?_
          intro E W ec eg ef hG hd hu R HR1
          have e21 : E (.tmp 21) = .pointer (some ⟨b, off + j * 3 + 1, none⟩) := hd 10 21 (by kernel_rfl)
          clear hd hu
          have hcl := (hG.cell (p := ⟨b, off + j * 3 + 1, none⟩) HC.out.1).trans HC.out.2.2
          go_simp
          exact HR1.out _ _ (Below.refl _ _) rfl
        case s12 =>
          refine Grow.step_in (by rfl) (by rfl) ?_
          intro E W ec eg ef hG hd hu R HR1
          have e22 : E (.tmp 22) = .slice Ax nx cx := hd 11 22 (by kernel_rfl)
          clear hd hu
          go_simp
          exact HR1.out _ _ (Below.refl _ _) rfl
        case s13 =>
          refine Grow.step_in (by rfl) (by rfl) ?_
          intro E W ec eg ef hG hd hu R HR1
          have e17 : E (.tmp 17) = .int .i64 (x.k.length : Int) := hd 6 17 (by kernel_rfl)
          have e23 : E (.tmp 23) = .int .i64 (nx : Int) := hd 12 23 (by kernel_rfl)
          clear hd hu
          have hs1 := HK.out.2.1
          go_simp
          exact HR1.out _ _ (Below.refl _ _) rfl
        case s14 =>
          refine Grow.step_in (by rfl) (by rfl) ?_
          intro E W ec eg ef hG hd hu R HR1
          have e11 : E (.tmp 11) = .int .i64 s := hd 0 11 (by kernel_rfl)
          have e24 : E (.tmp 24) = .int .i64 S1 := hd 13 24 (by kernel_rfl)
          clear hd hu
          have hs2 := HK.out.2.2
          go_simp
          exact HR1.out _ _ (Below.refl _ _) rfl
        case s15 =>
          refine Grow.step_in (by rfl) (by rfl) ?_
          intro E W ec eg ef hG hd hu R HR1
          have e25 : E (.tmp 25) = .int .i64 S2 := hd 14 25 (by kernel_rfl)
          clear hd hu
          go_simp
          exact HR1.out _ _ (Below.refl _ _) rfl
      case gfin =>
        intro W hG
        refine Grow.fin_dst (by rfl) ?_
        rintro _ rfl
        refine Grow.fin_dst (by rfl) ?_
        rintro _ rfl
        refine Grow.fin_dst (by rfl) ?_
        rintro _ rfl
        refine Grow.fin_dst (by rfl) ?_
        rintro _ rfl
        refine Grow.fin_dst (by rfl) ?_
        rintro _ rfl
        refine Grow.fin_dst (by rfl) ?_
        rintro _ rfl
        refine Grow.fin_dst (by rfl) ?_
        rintro _ rfl
        refine Grow.fin_dst (by rfl) ?_
        rintro _ rfl
        refine Grow.fin_dst (by rfl) ?_
        rintro _ rfl
        refine Grow.fin_dst (by rfl) ?_
        rintro _ rfl
        refine Grow.fin_dst (by rfl) ?_
        rintro _ rfl
        refine Grow.fin_dst (by rfl) ?_
        rintro _ rfl
        refine Grow.fin_dst (by rfl) ?_
        rintro _ rfl
        refine Grow.fin_dst (by rfl) ?_
        rintro _ rfl
        refine Grow.fin_dst (by rfl) ?_
        rintro _ rfl
        refine Grow.fin_dst (by rfl) ?_
        rintro _ rfl
        simp only [Act.put, List.setIfInBounds_toArray, List.set_cons_zero, List.set_cons_succ]
        refine Grow.fin_end ?_
        have HW := Lib.hid (Grow.below_of_drew hG)
        clear hG
        go_wp2_with fail
        go_roundw
        case rel =>
          unfold RSm10
          refine ⟨j + 1, S2, by have := HX.out.2.1; omega, by simp, rfl, fun h8 hm => ?_, HR.out.2.trans (HW.out.mono HR.out.2.size)⟩
          obtain ⟨h1, h2⟩ := HR.out.1 h8 hm
          have hx := HX.out
          have hmx := hm x (List.mem_of_getElem? hx.1)
          unfold mayC at hmx
          simp only [Bool.and_eq_true, decide_eq_true_eq] at hmx
          have hv : x.v.length ≤ 4096 := by
            have := hmx.2
            split at this <;> omega
          have e1 : S1 = (x.k.length : Int) + (nx : Int) := by rw [hx.2.2.2.1]; exact IntWalk.i64_in _ (by omega)
          have hj8 := hx.2.1
          have e2 : S2 = s + S1 := by rw [hx.2.2.2.2]; exact IntWalk.i64_in _ (by rw [e1]; omega)
          have e3 : sumC (l.take (j + 1)) = sumC (l.take j) + (x.k.length + x.v.length) := by
            unfold sumC
            rw [List.take_add_one, hx.1]
            simp
          rw [e2, e1, e3]
          omega
        case measure => simp only [intOf]; have h1 := HX.out.2.1; omega
    · have hlt' : ¬ (j : Int) < (n : Int) := by omega
      have hjn : j = n := by omega
      have HR := Lib.hid (And.intro hs (And.intro hbel hjn))
      clear hs hbel hj hlt hjn
      by_cases h8 : n ≤ 8
      · have h8' : (n : Int) ≤ 8 := by omega
        by_cases h6 : s ≤ 600
        · have H6 := Lib.hid (And.intro h8 h6)
          clear h8
          go_wp2_with fail
          go_ret
          refine ⟨true, rfl, fun _ => ⟨H6.out.1, fun hm => ?_⟩, HR.out.2.1⟩
          have h1 := (HR.out.1 H6.out.1 hm).1
          rw [HR.out.2.2, List.take_of_length_le (by have := HS.out.2.1; omega)] at h1
          have := H6.out.2
          omega
        · clear h8
          go_wp2_with fail
          go_ret
          exact ⟨false, rfl, fun h => (by cases h), HR.out.2.1⟩
      · have h8' : ¬ (n : Int) ≤ 8 := by omega
        clear h8
        go_wp2_with fail
        go_ret
        exact ⟨false, rfl, fun h => (by cases h), HR.out.2.1⟩
end Go.Proofs.Ytpdkoiogfaimaaa

/-! Cells: changes laid in a row of one's own. -/
namespace Go.Proofs.Ytpdkoiogfaimaaa
open Go.RowKit Codec

theorem pick_rows (Q : Nat → Ch → Ro → Prop) : ∀ (l : List Ch) (k : Nat), (∀ i x, l[i]? = some x → ∃ ro, Q (k + i) x ro) → ∃ L : List (Ro × Ch), L.map (·.2) = l ∧ ∀ i y, L[i]? = some y → Q (k + i) y.2 y.1
  | [], k, _ => ⟨[], rfl, fun i y h => by simp at h⟩
  | x :: l, k, h => by
    obtain ⟨ro, hro⟩ := h 0 x rfl
    obtain ⟨L, hL, hq⟩ := pick_rows Q l (k + 1) fun i y hy => by
      obtain ⟨r, hr⟩ := h (i + 1) y (by simpa using hy)
      exact ⟨r, by rwa [show k + 1 + i = k + (i + 1) by omega]⟩
    refine ⟨(ro, x) :: L, by simp [hL], fun i y hy => ?_⟩
    cases i with
    | zero =>
      simp at hy
      subst hy
      exact hro
    | succ i =>
      have := hq i y (by simpa using hy)
      rwa [show k + 1 + i = k + (i + 1) by omega] at this
variable {w : World} {U : Nat → Prop} {A : Option Addr} {n c : Nat} {l : List Ch}
theorem Chs.rows (h : Chs w U A n c l) : ∃ L : List (Ro × Ch), L.map (·.2) = l ∧ (∀ y ∈ L, Byt w U y.1.1 y.1.2.1 y.1.2.2 y.2.v) ∧ (0 < n → ∃ b off, A = some ⟨b, off, none⟩ ∧ ∀ (j : Nat) (u : Value), (chCells L)[j]? = some u → w.cell? ⟨b, off + j, none⟩ = some u) := by
  by_cases h0 : 0 < n
  · obtain ⟨b, off, h1, _, _, h4⟩ := h.row h0
    obtain ⟨L, hL, hq⟩ := pick_rows (fun i x ro => (∀ (j : Nat) (v : Value), (chV ro.1 ro.2.1 ro.2.2 x)[j]? = some v → w.cell? ⟨b, off + i * 3 + j, none⟩ = some v) ∧ Byt w U ro.1 ro.2.1 ro.2.2 x.v) l 0 fun i x hx => by
      obtain ⟨Ai, ni, ci, h5, h6⟩ := h4 i x hx
      exact ⟨(Ai, ni, ci), by rw [Nat.zero_add]; exact h5, h6⟩
    refine ⟨L, hL, fun y hy => ?_, fun _ => ⟨b, off, h1, fun j u hu => ?_⟩⟩
    · obtain ⟨i, hi⟩ := List.getElem?_of_mem hy
      exact (hq i y hi).2
    · have hj := (List.getElem?_eq_some_iff.1 hu).1
      rw [chCells_len] at hj
      obtain ⟨y, hy⟩ : ∃ y, L[j / 3]? = some y := ⟨_, List.getElem?_eq_getElem (by omega)⟩
      obtain ⟨z, hz⟩ : ∃ z, (chV y.1.1 y.1.2.1 y.1.2.2 y.2)[j % 3]? = some z := ⟨_, Array.getElem?_eq_getElem (by simp [chV]; omega)⟩
      have h5 := chCells_at L (j / 3) y hy (j % 3) z hz
      have h6 := (hq (j / 3) y hy).1 (j % 3) z hz
      have e6 : j / 3 * 3 + j % 3 = j := by omega
      rw [e6] at h5
      rw [Nat.zero_add, Nat.add_assoc, e6] at h6
      rw [h6, ← h5, hu]
  · obtain rfl : l = [] := List.eq_nil_of_length_eq_zero (by have := h.len; omega)
    exact ⟨[], rfl, fun _ h => by simp at h, fun h => absurd h h0⟩
theorem chCells_one (L : List (Ro × Ch)) : ∀ u ∈ chCells L, u.oneCell' = true := by
  intro u hu
  unfold chCells at hu
  obtain ⟨l, hl, hu⟩ := List.mem_flatten.1 hu
  obtain ⟨y, _, rfl⟩ := List.mem_map.1 hl
  simp [chV] at hu
  rcases hu with rfl | rfl | rfl <;> rfl
section
variable {S : Nat → Prop} {v : Value}
/-- One more, whose bytes may lie where the others' do. -/
theorem Gch.push2 (h : Gch w S v l) {q k : Nat} {A : Option Addr} {n c : Nat} {x : Ch} (hq : ∀ (j : Nat) (u : Value), (chV A n c x)[j]? = some u → w.cell? ⟨q, j, none⟩ = some u) (hy : Byt w U A n c x.v) (hU : ∀ k, U k → v.ownBlock ≠ some k) (hl : l.length ≤ 10000000) (ty : TypeId) :
    ∃ A' c' W', (Builtin.append_ #[22, 22] ty #[v, .slice (some ⟨q, 0, none⟩) 1 k]).run Try.prog w = .ok (.slice A' (l.length + 1) c') W' ∧ Gch W' (fun b => S b ∨ U b ∨ (w.heap.size ≤ b ∧ b < W'.heap.size)) (.slice A' (l.length + 1) c') (l ++ [x]) ∧ Turned (fun g => v.ownBlock = some g) w W' := by
  obtain ⟨i0, hi, hz0, hz1, hz2⟩ := info_parts chg_info3
  obtain ⟨L, h1, h2, h4, h3⟩ := h
  obtain ⟨v', W', hr, g1, g2, _, g4⟩ := run_append_own_at (P := Try.prog) w 0 22 ty 25 i0 (.agg #[.string ⟨#[]⟩, .slice none 0 0, .bool false]) 3 48 Try.underlying22 hi hz0 hz1 hz2 rfl (by decide) v l.length (chCells L) h2 ⟨q, 0, none⟩ 1 k (chV A n c x).toList rfl
    (fun j u hj => by rw [add_plain, Nat.zero_add]; exact hq j u (by simpa using hj)) (by simp [chV, Value.oneCell']) (by unfold maxLen; omega) (by omega) (Nat.zero_le _)
  have ht : Turned (fun g => v.ownBlock = some g) w W' := Turned.of_gr g2 fun g hg => hg
  have keep : ∀ {A : Option Addr} {n c : Nat} {y : List UInt8} {V : Nat → Prop}, Byt w V A n c y → (∀ b, b < w.heap.size → V b → (S b ∨ U b) ∧ v.ownBlock ≠ some b) → Byt W' (fun b => (S b ∨ U b ∨ (w.heap.size ≤ b ∧ b < W'.heap.size)) ∧ v'.ownBlock ≠ some b) A n c y := fun {A n c y V} hx hV => by
    have hx1 : Byt w (fun b => V b ∧ b < w.heap.size) A n c y := hx.mono fun b hb h => ⟨h, hb⟩
    refine (hx1.grown g2 (fun g hg => .inl fun hh => (hV g hh.2 hh.1).2 hg)).mono fun b _ hb => ?_
    have hv := hV b hb.2 hb.1
    refine ⟨hv.1.elim .inl (fun h => .inr (.inl h)), ?_⟩
    rcases g4 with hl | hl
    · rw [hl]; exact hv.2
    · rw [hl]
      intro e
      injection e with e
      have := hb.2
      omega
  have hown' : ∀ g, v'.ownBlock = some g → S g ∨ U g ∨ (w.heap.size ≤ g ∧ g < W'.heap.size) := fun g hg => by
    rcases g4 with hl | hl
    · rw [hl] at hg
      exact .inl (h4 g hg)
    · have hlt := (g1.lt g hg).2
      rw [hl] at hg
      injection hg with hg
      subst hg
      exact .inr (.inr ⟨Nat.le_refl _, hlt⟩)
  obtain ⟨A', c', rfl⟩ : ∃ A' c', v' = .slice A' (l.length + 1) c' := by
    obtain ⟨_, e2⟩ := g1
    rcases e2 with ⟨_, e2⟩ | ⟨g', cap, cur, rfl, _⟩
    · omega
    · exact ⟨_, _, rfl⟩
  refine ⟨A', c', W', hr, ⟨L ++ [((A, n, c), x)], by simp [h1], ?_, hown', fun y hy' => ?_⟩, ht⟩
  · rw [List.length_append, List.length_singleton]
    have e : chCells (L ++ [((A, n, c), x)]) = chCells L ++ (chV A n c x).toList := by simp [chCells]
    rw [e]
    exact g1
  · rcases List.mem_append.1 hy' with h | h
    · exact keep (h3 y h) fun b _ hb => ⟨.inl hb.1, hb.2⟩
    · simp only [List.mem_singleton] at h
      subst h
      exact keep hy fun b _ hu => ⟨.inr hu, hU b hu⟩
end
/-- append(nil, l...) -/
theorem gch_lay (h : Chs w U A n c l) (hn : n ≤ 1000000) (ty : TypeId) :
    ∃ A' c' W', (Builtin.append_ #[22, 22] ty #[.slice none 0 0, .slice A n c]).run Try.prog w = .ok (.slice A' l.length c') W' ∧ Gch W' (fun b => U b ∨ w.heap.size ≤ b) (.slice A' l.length c') l ∧ Below w.heap.size w W' ∧ ∀ g, (Value.slice A' l.length c').ownBlock = some g → w.heap.size ≤ g := by
  obtain ⟨i0, hi, hz0, hz1, hz2⟩ := info_parts chg_info3
  obtain ⟨L, hL, hy, hc⟩ := h.rows
  have hlen : L.length = n := by rw [← h.len, ← hL, List.length_map]
  by_cases h0 : 0 < n
  · obtain ⟨b, off, rfl, hc2⟩ := hc h0
    obtain ⟨v', W', hr, g1, g2, _, g4⟩ := run_append_own_at (P := Try.prog) w w.heap.size 22 ty 25 i0 (.agg #[.string ⟨#[]⟩, .slice none 0 0, .bool false]) 3 48 Try.underlying22 hi hz0 hz1 hz2 rfl (by decide) (.slice none 0 0) 0 [] (World.ownsRow_nil _ _ _ _) ⟨b, off, none⟩ n c (chCells L) (by rw [chCells_len, hlen])
      (fun j u hj => by rw [add_plain]; exact hc2 j u hj) (chCells_one L) (by unfold maxLen; omega) (by omega) (Nat.le_refl _)
    rw [Nat.zero_add, List.nil_append, ← h.len] at g1
    have hbl : Below w.heap.size w W' := (Below.refl _ w).grown g2 (Nat.le_refl _) (by intro k hk; simp [Value.ownBlock] at hk)
    obtain ⟨A', c', rfl⟩ : ∃ A' c', v' = .slice A' l.length c' := by
      obtain ⟨_, e2⟩ := g1
      rcases e2 with ⟨rfl, e2⟩ | ⟨g', cap, cur, rfl, _⟩
      · exact ⟨none, 0, by rw [e2]⟩
      · exact ⟨_, _, rfl⟩
    have hob : ∀ g, (Value.slice A' l.length c').ownBlock = some g → w.heap.size ≤ g := fun g hg => (g1.lt g hg).1
    refine ⟨A', c', W', hr, ⟨L, hL, own_base g1 (Nat.zero_le _), fun g hg => .inr (hob g hg), fun y hy' => ?_⟩, hbl, hob⟩
    refine ((hy y hy').mono (T := fun k => U k ∧ k < w.heap.size) fun k hk h => ⟨h, hk⟩).below hbl |>.mono fun k _ hk => ⟨.inl hk.1, fun e => ?_⟩
    have := hob k e
    have := hk.2
    omega
  · obtain rfl : l = [] := List.eq_nil_of_length_eq_zero (by have := h.len; omega)
    obtain rfl : n = 0 := by omega
    rcases A with _ | a
    · exact ⟨none, 0, w, run_append_zero w 22 ty 25 i0 Try.underlying22 hi none 0 0 c (Nat.le_refl _), Gch.nil _ _, Below.refl _ _, fun g hg => by simp [Value.ownBlock] at hg⟩
    · obtain ⟨v', W', hr, g1, g2, g3, _⟩ := run_append_own_at (P := Try.prog) w w.heap.size 22 ty 25 i0 (.agg #[.string ⟨#[]⟩, .slice none 0 0, .bool false]) 3 48 Try.underlying22 hi hz0 hz1 hz2 rfl (by decide) (.slice none 0 0) 0 [] (World.ownsRow_nil _ _ _ _) a 0 c [] rfl
        (fun j u hj => by simp at hj) (by simp) (by unfold maxLen; omega) (by omega) (Nat.le_refl _)
      obtain rfl := g3.2 ⟨rfl, rfl⟩
      exact ⟨none, 0, W', hr, Gch.nil _ _, (Below.refl _ w).grown g2 (Nat.le_refl _) (by intro k hk; simp [Value.ownBlock] at hk), fun g hg => by simp [Value.ownBlock] at hg⟩
end Go.Proofs.Ytpdkoiogfaimaaa

/-! Cells: changes that may not be are refused, however long they are. -/
namespace Go.Proofs.Ytpdkoiogfaimaaa
open Go.RowKit Codec

set_option maxHeartbeats 8000000 in
set_option maxRecDepth 100000 in
theorem capply_no {w : World} {T U : Nat → Prop} {p g : Nat} {s : SM} (h : Cs w T p g s) {A : Option Addr} {n c : Nat} {l : List Ch} (hl : Chs w U A n c l) (hn : n ≤ 1000000) (hr : refC s l ≠ 0) :
    Calls Try.prog 11 #[.pointer (some ⟨p, 0, none⟩), .slice A n c] w fun e w' => e = .returned (.int .i64 (refC s l)) ∧ Below w.heap.size w w' := by
  have hrf := crefuse_any h hl (by omega)
  obtain ⟨E, hE⟩ : ∃ E, E = refC s l := ⟨_, rfl⟩
  rw [← hE] at hrf hr ⊢
  have he' : (E != 0) = true := by simpa using hr
  clear h hl hn hE hr
  go_enter Try.func11, Try.ntmps11
  go_wp2_with (go_at_call 25; refine hrf.mono ?_; clear hrf; rintro _ w1 ⟨rfl, hb1⟩; have H1 := Lib.hid hb1; clear hb1)
  go_ret
  exact ⟨rfl, H1.out⟩
end Go.Proofs.Ytpdkoiogfaimaaa

/-! The statement CellsNone: its walk. -/
namespace Go.Proofs.Ytpdkoiogfaimaaa
open Go.RowKit Codec

theorem wtC_sum (l : List Ch) : wtC l = sumC l + 21 * l.length := by
  induction l with
  | nil => rfl
  | cons x l ih =>
    have e1 : wtC (x :: l) = wtC [x] + wtC l := by rw [← wtC_app]; rfl
    have e2 : wtC [x] = x.k.length + x.v.length + 21 := by simp [wtC]
    have e3 : sumC (x :: l) = (x.k.length + x.v.length) + sumC l := by simp [sumC]
    rw [e1, e2, e3, ih, List.length_cons]
    omega
/-- The store behind Apply: as it was, or with all that was asked. -/
def NnP (w4 : World) (g p : Nat) (L : List Ch) (E : Int) (W : World) : Prop :=
  Below w4.heap.size w4 W ∧ ∃ (T : Nat → Prop) (s : SM), Cs W T p g s ∧ (∀ k, T k → w4.heap.size ≤ k) ∧ s.e = 0 ∧ ((L.all mayC = false ∧ E = 1 ∧ s.t = []) ∨ (L.all mayC = true ∧ E = 0 ∧ s.t = doL [] L))
theorem tab_of_tb2 (t : Tb) : tabOf (tb2 t) = t := by
  unfold tabOf tb2
  rw [List.map_map]
  exact List.map_id t
def RFn (w : World) (L : List Ch) (f i : Value) (wr : World) : Prop := ∃ j : Nat, j ≤ L.length ∧ i = .int .i64 (j : Int) ∧ f = .bool ((L.take j).all mayC) ∧ Below w.heap.size w wr
set_option maxHeartbeats 8000000 in
set_option maxRecDepth 100000 in
theorem walk_cnone {w : World} {A : Option Addr} {n c : Nat} {l : List Ch} (h : Chs w (· < w.heap.size) A n c l) {A2 : Option Addr} {n2 c2 : Nat} {q : Ch} (hq : Byt w (· < w.heap.size) A2 n2 c2 q.v) (_hk : q.k.length ≤ maxLen) :
    Calls Try.prog 3 #[.slice A n c, .agg (chV A2 n2 c2 q)] w fun e w' => e = .returned (.bool true) ∧ Below w.heap.size w w' := by
  obtain ⟨w0, hw0⟩ : ∃ w0, w0 = w.alloc (.cells (chV A2 n2 c2 q) 25) := ⟨_, rfl⟩
  have hb0 : Below w.heap.size w w0 := by rw [hw0]; exact (Below.refl _ _).alloc (Nat.le_refl _) _
  have hrow0 : w0.heap[w.heap.size]? = some (.cells #[.string (st q.k), .slice A2 n2 c2, .bool q.g] 25 (0, 0)) := by rw [hw0]; exact heap_alloc_new w _
  have haw := celawake_true w0
  have HS := Lib.hid (And.intro h (And.intro hq (And.intro hb0 hrow0)))
  clear h hq hb0 hrow0 _hk
  go_enter Try.func3, Try.ntmps3
  go_upto_region 1 with fail
  rw [← hw0]
  clear hw0
  obtain ⟨K, hK⟩ : ∃ K, K = q.k.length := ⟨_, rfl⟩
  have hks : (st q.k).size = K := by rw [hK]; exact st_size q.k
  have hn2 : q.v.length = n2 := HS.out.2.1.len
  have HK := Lib.hid (And.intro hK hn2)
  clear hK hn2
  go_upto_region 4 with (go_at_call 6; refine haw.mono ?_; clear haw; rintro _ w1 ⟨rfl, hb1⟩)
  have hb01 : Below w.heap.size w w1 := HS.out.2.2.1.trans (hb1.mono HS.out.2.2.1.size)
  have hlt0 := lt_of_cells HS.out.2.2.2
  have hrow1 : w1.heap[w.heap.size]? = some (.cells #[.string (st q.k), .slice A2 n2 c2, .bool q.g] 25 (0, 0)) := (hb1.block _ hlt0).trans HS.out.2.2.2
  have hsm := small_any (HS.out.1.below hb01)
  have H1 := Lib.hid (And.intro hb01 hrow1)
  clear hb01 hb1 hrow1 hlt0
  go_upto_region 5 with (go_at_call 7; refine hsm.mono ?_; clear hsm; rintro _ w2 h2; have H2' := Lib.hid h2; clear h2; obtain ⟨B, hB, hBp, hb2⟩ := H2'.out; subst hB)
  have hb02 : Below w.heap.size w w2 := H1.out.1.trans (hb2.mono H1.out.1.size)
  have hrow2 : w2.heap[w.heap.size]? = some (.cells #[.string (st q.k), .slice A2 n2 c2, .bool q.g] 25 (0, 0)) := (hb2.block _ (lt_of_cells H1.out.2)).trans H1.out.2
  have H2 := Lib.hid (And.intro hb02 (And.intro hrow2 hBp))
  have hc0 : w2.cell? ⟨w.heap.size, 0, none⟩ = some (.string (st q.k)) := cell_of_cells hrow2 0
  have hc1 : w2.cell? ⟨w.heap.size, 1, none⟩ = some (.slice A2 n2 c2) := cell_of_cells hrow2 1
  clear hb02 hb2 hrow2 hBp H1 H2'
  cases B
  · clear hc0 hc1
    go_wp2_with fail
    go_ret
    exact ⟨rfl, H2.out.1⟩
  · by_cases hbk : 200 < K
    · have hbk' : (200 : Int) < (K : Int) := by omega
      go_wp2_with fail
      go_ret
      exact ⟨rfl, H2.out.1⟩
    · have hbk' : ¬ (200 : Int) < (K : Int) := by omega
      by_cases hbv : 5000 < n2
      · have hbv' : (5000 : Int) < (n2 : Int) := by omega
        go_wp2_with fail
        go_ret
        exact ⟨rfl, H2.out.1⟩
      · have hbv' : ¬ (5000 : Int) < (n2 : Int) := by omega
        have HBD := Lib.hid (And.intro hbk hbv)
        clear hbk hbv
        have hgn := cget_nil [97] w2
        go_upto_region 9 with (go_at_call 8; refine hgn.mono ?_; clear hgn; rintro _ _ ⟨rfl, rfl⟩)
        have hon := copen_nil w2
        go_upto_region 10 with (go_at_call 9; refine hon.mono ?_; clear hon; rintro _ _ ⟨rfl, rfl⟩)
        have hnew := Dsk.new (Below.refl w2.heap.size w2) 1 (by omega) (by omega)
        clear hc0 hc1 hbk' hbv'
        go_upto_region 11 with (go_at_call 10; refine hnew.mono ?_; clear hnew; rintro _ w3 ⟨g1, rfl, hd3⟩)
        have hlen1 := newM_len 1 (by omega) (by omega)
        have hop1 := copen_small hd3.dk (by have h1 : hn (newM ((1 : Nat) : Int)).1 = (newM ((1 : Nat) : Int)).1.l.length / 2 := rfl; omega)
        have hr1 : openC (newM ((1 : Nat) : Int)).1 = (⟨[], 0, lm0, 0, 0⟩, 1) := by unfold openC; rw [if_pos (by have h1 : hn (newM ((1 : Nat) : Int)).1 = (newM ((1 : Nat) : Int)).1.l.length / 2 := rfl; omega)]
        rw [hr1] at hop1
        have H3 := Lib.hid (hd3.bel)
        clear hd3 hlen1 hr1
        go_upto_region 12 with (go_at_call 9; refine hop1.mono ?_; clear hop1; rintro _ w4 ⟨h4, hb4⟩; rw [if_neg (by decide)] at h4; subst h4)
        have hb24 := H3.out.trans (hb4.mono H3.out.size)
        have H4 := Lib.hid (And.intro (H2.out.1.trans (hb24.mono H2.out.1.size)) (And.intro ((hb24.block _ (lt_of_cells H2.out.2.1)).trans H2.out.2.1) (H2.out.2.2 trivial)))
        clear hb24 hb4
        have ha1 := capply_nil A n c w4
        have hk1 := ckeys_nil w4
        have he1 := cerr_nil w4
        have ht1 := cturns_nil w4
        go_upto_region 14 with (first
          | (go_at_call 11; refine ha1.mono ?_; clear ha1; rintro _ _ ⟨rfl, rfl⟩)
          | (go_at_call 12; refine hk1.mono ?_; clear hk1; rintro _ _ ⟨rfl, rfl⟩)
          | (go_at_call 13; refine he1.mono ?_; clear he1; rintro _ _ ⟨rfl, rfl⟩)
          | (go_at_call 14; refine ht1.mono ?_; clear ht1; rintro _ _ ⟨rfl, rfl⟩))
        have hnew := Dsk.new (Below.refl w4.heap.size w4) 200 (by omega) (by omega)
        obtain ⟨s0, _, hps0, ht0, hu0, hl0⟩ := PS.new 200 (by omega) (by omega)
        have hlen := newM_len 200 (by omega) (by omega)
        obtain ⟨d0, hd0⟩ : ∃ d0, d0 = (newM ((200 : Nat) : Int)).1 := ⟨_, rfl⟩
        rw [← hd0] at hps0 hnew hlen
        have HPS := Lib.hid (And.intro hps0 (And.intro ht0 (And.intro hu0 (And.intro hl0 hlen))))
        clear hps0 ht0 hu0 hl0 hd0 hlen
        go_upto_region 15 with (go_at_call 10; refine hnew.mono ?_; clear hnew; rintro _ w5 ⟨g, rfl, hd5⟩)
        obtain ⟨m, hm⟩ : ∃ m, m = w5.heap.size := ⟨_, rfl⟩
        rw [← hm] at hd5
        have HM := Lib.hid (show m ≤ w5.heap.size by omega)
        have hop := hd5.copen HPS.out.1 (by omega)
        clear hd5 hm
        go_upto_region 16 with (go_at_call 9; refine hop.mono ?_; clear hop; rintro _ w6 ⟨p, s1, rfl, hc6, hd6, hb6, hps1, ht1, hu1, hl1⟩)
        have hT1 : s1.t = [] := by rw [ht1, HPS.out.2.1]
        have hch6 := (HS.out.1.below H4.out.1).below hd6.bel
        obtain ⟨A7, c7, w7, hap7, hg7, hb7, ho7⟩ := gch_lay hch6 (by have := H4.out.2.2.1; omega) 22
        have hb47 := hd6.bel.trans (hb7.mono hd6.bel.size)
        have H7 := Lib.hid (And.intro (hc6.mono (T := fun k => m ≤ k ∧ k < w6.heap.size) fun k hk h => ⟨by have := HM.out; omega, hk⟩) (And.intro hd6 (And.intro hps1 (And.intro hT1 (And.intro hu1 (And.intro hg7 (And.intro hb7 (And.intro hb47 ho7))))))))
        obtain ⟨N7, hN7⟩ : ∃ N7, N7 = l.length := ⟨_, rfl⟩
        rw [← hN7] at hap7
        have HN7 := Lib.hid hN7
        clear hc6 hd6 hb6 hps1 ht1 hu1 hl1 hT1 hch6 hg7 hb7 hb47 hN7 ho7
        go_upto_region 18 with (at_builtin; refine wpList_app (by rfl) _ _ 22 (by rfl) (by rfl) (by rfl) hap7 ?_)
        have hrow7 : w7.heap[w.heap.size]? = some (.cells #[.string (st q.k), .slice A2 n2 c2, .bool q.g] 25 (0, 0)) := (H7.out.2.2.2.2.2.2.2.1.block _ (lt_of_cells H4.out.2.1)).trans H4.out.2.1
        have hld : ∀ (j : Nat) (v : Value), (#[.string (st q.k), .slice A2 n2 c2, .bool q.g] : Array Value)[j]? = some v → w7.cell? ((⟨w.heap.size, 0, none⟩ : Addr).add j) = some v := fun j v hv => by
          rw [add_plain, Nat.zero_add, cell_of_cells hrow7]
          exact hv
        have HLD := Lib.hid hld
        obtain ⟨w8, hw8⟩ : ∃ w8, w8 = w7.alloc (.cells #[.string (st q.k), .slice A2 n2 c2, .bool q.g] 25) := ⟨_, rfl⟩
        have hb78 : Below w7.heap.size w7 w8 := by rw [hw8]; exact (Below.refl _ _).alloc (Nat.le_refl _) _
        have hrow8 : w8.heap[w7.heap.size]? = some (.cells (chV A2 n2 c2 q) 25 (0, 0)) := by rw [hw8]; exact heap_alloc_new w7 _
        have hq8 := (HS.out.2.1.below H4.out.1).below (H7.out.2.2.2.2.2.2.2.1.trans (hb78.mono H7.out.2.2.2.2.2.2.2.1.size))
        have hw48 := H4.out.1.size
        have hw46 := H7.out.2.1.bel.size
        obtain ⟨A9, c9, w9, hap9, hg9, ht9⟩ := (H7.out.2.2.2.2.2.1.below hb78).push2 (q := w7.heap.size) (k := 1) (A := A2) (n := n2) (c := c2) (x := q) (fun j u hu => by rw [cell_of_cells hrow8]; exact hu) hq8 (fun k hk e => by have h1 := H7.out.2.2.2.2.2.2.2.2 k e; have h2 : k < w.heap.size := hk; omega) (by have h1 := H4.out.2.2.1; have h2 := HS.out.1.len; omega) 22
        have ht9b : Below w6.heap.size w8 w9 := (ht9.mono (T := fun k => w6.heap.size ≤ k) fun k _ hk => H7.out.2.2.2.2.2.2.2.2 k hk).below (Nat.le_trans H7.out.2.2.2.2.2.2.1.size hb78.size)
        have hb69 := (H7.out.2.2.2.2.2.2.1.trans (hb78.mono H7.out.2.2.2.2.2.2.1.size)).trans ht9b
        obtain ⟨A10, c10, hv10, hch10⟩ := hg9.slice
        injection hv10 with e1 e2 e3
        subst e1 e3
        obtain ⟨L, hL⟩ : ∃ L, L = l ++ [q] := ⟨_, rfl⟩
        rw [← hL] at hch10
        obtain ⟨N9, hN9⟩ : ∃ N9, N9 = N7 + 1 := ⟨_, rfl⟩
        rw [← HN7.out, ← hN9] at hap9
        have hLl : L.length = N9 := by rw [hL, hN9, HN7.out]; simp
        rw [hLl] at hch10
        have hch := hch10.mono (T := fun k => k < w.heap.size ∨ w6.heap.size ≤ k) fun k _ hk => by
          have h7 := H7.out.2.2.2.2.2.2.1.size
          have h78 := hb78.size
          rcases hk with hk | hk | hk
          · exact hk
          · exact .inl hk
          · exact .inr (by omega)
        have H9 := Lib.hid (And.intro hb69 (And.intro hch (And.intro hL hLl)))
        clear ht9b hb69 hch hL hLl hch10 hg9 ht9 hq8 hrow7 hld hN9 hrow8 hb78 e2 hw48 hw46 hap7
        go_upto_region 19 with (first
          | (refine wpList_load_at (by rfl) 25 (.tmp 3) (by rfl) ⟨w.heap.size, 0, none⟩ (by rfl) #[.string (st q.k), .slice A2 n2 c2, .bool q.g] _ HLD.out Try.underlying25 (by rfl) chg_info ?_)
          | (at_builtin; rw [← hw8]; refine wpList_app (by rfl) _ _ 22 (by rfl) (by rfl) (by rfl) hap9 ?_))
        have hcs9 := H7.out.1.below H9.out.1
        have hdk9 := H7.out.2.1.below H9.out.1
        have hn9 : N9 ≤ 9 := by have h1 := H9.out.2.2.2; have h2 := H4.out.2.2.1; have h3 := HS.out.1.len; rw [H9.out.2.2.1] at h1; simp at h1; omega
        have hap : ∃ E : Int, (E = 0 ∨ E = 1) ∧ Calls Try.prog 11 #[.pointer (some ⟨p, 0, none⟩), .slice A9 N9 c9] w9 fun e w' => e = .returned (.int .i64 E) ∧ NnP w4 g p L E w' ∧ Turned (fun k => w4.heap.size ≤ k ∧ k < w6.heap.size) w9 w' := by
          by_cases hm : L.all mayC = true
          · have hall : ∀ x ∈ L, mayC x = true := fun x hx => List.all_eq_true.1 hm x hx
            have hsum := H4.out.2.2.2 fun x hx => hall x (by rw [H9.out.2.2.1]; simp [hx])
            have hq := may_small (hall q (by rw [H9.out.2.2.1]; simp))
            have hwL : wtC L ≤ 5500 := by
              have e1 : wtC L = wtC l + (q.k.length + q.v.length + 21) := by rw [H9.out.2.2.1, wtC_app]; simp [wtC]
              have e2 := wtC_sum l
              have h2 := H4.out.2.2.1
              have h3 := HS.out.1.len
              obtain ⟨_, h4, h5, _⟩ := hq
              omega
            have hwD : wtT (doL s1.t L) ≤ wtT s1.t + wtC L := wtT_doL L s1.t
            have hw1 : wtT s1.t = 0 := by rw [H7.out.2.2.2.1]; rfl
            have hhn : hn d0 = 100 := by unfold hn; rw [HPS.out.2.2.2.2]
            have hLl := H9.out.2.2.2
            have hl1 : s1.t.length = 0 := by rw [H7.out.2.2.2.1]; rfl
            have hz := H7.out.2.2.1.room (l := L) (by omega) (by omega) (by omega) hm (by omega)
            have ha := H7.out.2.2.1.apply_ L (by omega) (by omega) (by omega)
            obtain ⟨h1, h2, _⟩ := ha.yes hz
            refine ⟨0, .inl rfl, (hdk9.capply hcs9 (fun k h => h.1) H7.out.2.2.1 (by omega) (by rw [H7.out.2.2.2.2.1]; omega) H9.out.2.1 (fun k hk => ?_) (by omega)).mono ?_⟩
            · have h5 := H4.out.1.size
              have h6 := H7.out.2.1.le
              have h8 := H7.out.2.1.top
              exact ⟨fun h => by omega, by omega⟩
            · rintro _ w' ⟨rfl, hd', hc', ht'⟩
              have h6 := H7.out.2.1.le
              have h8 := H7.out.2.1.top
              have h9 := H9.out.1.size
              rw [hz]
              refine ⟨rfl, ⟨hd'.bel, _, _, hc', fun k hk => by rcases hk with hk | hk <;> omega, h1.e, .inr ⟨hm, rfl, by rw [h2, H7.out.2.2.2.1]⟩⟩, ht'.mono fun k _ hk => by rcases hk with hk | hk <;> exact ⟨by omega, by omega⟩⟩
          · have hm' : L.all mayC = false := by simpa using hm
            have hrf : refC s1 L = 1 := by unfold refC; rw [if_neg (by simp [H7.out.2.2.1.e]), hm']; rfl
            have h := capply_no hcs9 H9.out.2.1 (by omega) (by rw [hrf]; decide)
            rw [hrf] at h
            refine ⟨1, .inr rfl, h.mono ?_⟩
            rintro _ w' ⟨rfl, hb'⟩
            have h6 := H7.out.2.1.le
            exact ⟨rfl, ⟨hdk9.bel.trans (hb'.mono hdk9.bel.size), _, _, hcs9.below hb', fun k hk => by have := hk.1; omega, H7.out.2.2.1.e, .inl ⟨hm', rfl, H7.out.2.2.2.1⟩⟩, Turned.of_below hb'⟩
        obtain ⟨E, hE01, hap⟩ := hap
        clear hcs9 hdk9
        go_upto_region 20 with (go_at_call 11; refine hap.mono ?_; clear hap; rintro _ w10 ⟨rfl, hnn, ht10⟩)
        have hchA := H9.out.2.1.turned ht10 fun k _ hk ht => by
          have h6 := H4.out.1.size
          rcases hk with hk | hk
          · have := ht.1; omega
          · have := ht.2; omega
        have HA := Lib.hid (And.intro hchA (And.intro hnn hn9))
        clear hchA hnn ht10 hn9 hE01
        go_wp2_with fail
        go_loopw [22, 23] (fun f i wr => RFn w10 L f i wr) (fun _ i _ => N9 - (intOf i).toNat)
        case atStart => exact ⟨0, Nat.zero_le _, rfl, rfl, Below.refl _ _⟩
        case round =>
          obtain ⟨j, hj, rfl, rfl, hbr⟩ := hrel
          obtain ⟨F, hF⟩ : ∃ F, F = (L.take j).all mayC := ⟨_, rfl⟩
          rw [← hF]
          have HBR := Lib.hid hbr
          by_cases hlt : j < N9
          · have hlt' : (j : Int) < (N9 : Int) := by omega
            have hadd1 := IntWalk.i64_in ((j : Int) + 1) (by have := HA.out.2.2; omega)
            obtain ⟨b, off, x, Ax, nx, cx, rfl, _, hb, hx, hcs, hy⟩ := (HA.out.1.below hbr).at_ hlt
            have hcell : ∀ o u, (chV Ax nx cx x)[o]? = some u → wr.cell? ⟨b, off + j * 3 + o, none⟩ = some u := fun o u hu => by have := hcs o u hu; rwa [add_plain] at this
            have hc0 : wr.cell? ⟨b, off + j * 3, none⟩ = some (.string (st x.k)) := hcell 0 _ rfl
            have hc1 : wr.cell? ⟨b, off + j * 3 + 1, none⟩ = some (.slice Ax nx cx) := hcell 1 _ rfl
            have hc2 : wr.cell? ⟨b, off + j * 3 + 2, none⟩ = some (.bool x.g) := hcell 2 _ rfl
            have hnext : (L.take (j + 1)).all mayC = (F && mayC x) := by rw [List.take_add_one, hx, hF]; simp
            have HNX := Lib.hid hnext
            obtain ⟨KX, hKX⟩ : ∃ KX, KX = x.k.length := ⟨_, rfl⟩
            have hkx : (st x.k).size = KX := by rw [hKX]; exact st_size x.k
            obtain ⟨GX, hGX⟩ : ∃ GX, GX = x.g := ⟨_, rfl⟩
            rw [← hGX] at hc2
            have HX := Lib.hid (And.intro hx (And.intro hlt (show (decide (1 ≤ x.k.length) && decide (x.k.length ≤ 64) && decide (x.v.length ≤ if x.g then 0 else 4096)) = (decide (1 ≤ KX) && decide (KX ≤ 64) && decide (nx ≤ if GX then 0 else 4096)) by rw [hKX, hGX, hy.len])))
            clear hbr hcs hcell hb hx hy hnext hKX hGX hj hlt hF
            cases F
            · clear hc0 hc1 hc2
              go_wp2_with fail
              go_roundw
              case rel => unfold RFn; exact ⟨j + 1, by have := HX.out.2.1; have := H9.out.2.2.2; omega, by simp, by rw [HNX.out]; rfl, HBR.out⟩
              case measure => simp only [intOf]; have h1 := HX.out.2.1; omega
            · by_cases k1 : 0 < KX
              · have k1' : (0 : Int) < (KX : Int) := by omega
                by_cases k2 : KX ≤ 64
                · have k2' : (KX : Int) ≤ 64 := by omega
                  by_cases k3 : nx ≤ 4096
                  · have k3' : (nx : Int) ≤ 4096 := by omega
                    cases GX
                    · -- kept
                      have HMX : Hid (mayC x = true) := Lib.hid (by unfold mayC; rw [HX.out.2.2]; simp [k2, k3]; omega)
                      skip
                      go_wp2_with fail
                      go_roundw
                      case rel => unfold RFn; exact ⟨j + 1, by have := HX.out.2.1; have := H9.out.2.2.2; omega, by simp, by rw [HNX.out, HMX.out]; rfl, HBR.out⟩
                      case measure => simp only [intOf]; have h1 := HX.out.2.1; omega
                    · by_cases k4 : nx = 0
                      · have k4' : ((nx : Int) == 0) = true := by simp; omega
                        have HMX : Hid (mayC x = true) := Lib.hid (by unfold mayC; rw [HX.out.2.2]; simp [k2, k4]; omega)
                        skip
                        go_wp2_with fail
                        go_roundw
                        case rel => unfold RFn; exact ⟨j + 1, by have := HX.out.2.1; have := H9.out.2.2.2; omega, by simp, by rw [HNX.out, HMX.out]; rfl, HBR.out⟩
                        case measure => simp only [intOf]; have h1 := HX.out.2.1; omega
                      · have k4' : ((nx : Int) == 0) = false := by simp; omega
                        have HMX : Hid (mayC x = false) := Lib.hid (by unfold mayC; rw [HX.out.2.2]; simp [k4])
                        skip
                        go_wp2_with fail
                        go_roundw
                        case rel => unfold RFn; exact ⟨j + 1, by have := HX.out.2.1; have := H9.out.2.2.2; omega, by simp, by rw [HNX.out, HMX.out]; rfl, HBR.out⟩
                        case measure => simp only [intOf]; have h1 := HX.out.2.1; omega
                  · have k3' : ¬ (nx : Int) ≤ 4096 := by omega
                    have HMX : Hid (mayC x = false) := Lib.hid (by unfold mayC; rw [HX.out.2.2]; cases GX <;> simp <;> omega)
                    skip
                    go_wp2_with fail
                    go_roundw
                    case rel => unfold RFn; exact ⟨j + 1, by have := HX.out.2.1; have := H9.out.2.2.2; omega, by simp, by rw [HNX.out, HMX.out]; rfl, HBR.out⟩
                    case measure => simp only [intOf]; have h1 := HX.out.2.1; omega
                · have k2' : ¬ (KX : Int) ≤ 64 := by omega
                  have HMX : Hid (mayC x = false) := Lib.hid (by unfold mayC; rw [HX.out.2.2]; simp [k2])
                  skip
                  go_wp2_with fail
                  go_roundw
                  case rel => unfold RFn; exact ⟨j + 1, by have := HX.out.2.1; have := H9.out.2.2.2; omega, by simp, by rw [HNX.out, HMX.out]; rfl, HBR.out⟩
                  case measure => simp only [intOf]; have h1 := HX.out.2.1; omega
              · have k1' : ¬ (0 : Int) < (KX : Int) := by omega
                have HMX : Hid (mayC x = false) := Lib.hid (by unfold mayC; rw [HX.out.2.2]; simp; omega)
                skip
                go_wp2_with fail
                go_roundw
                case rel => unfold RFn; exact ⟨j + 1, by have := HX.out.2.1; have := H9.out.2.2.2; omega, by simp, by rw [HNX.out, HMX.out]; rfl, HBR.out⟩
                case measure => simp only [intOf]; have h1 := HX.out.2.1; omega
          · have hlt' : ¬ (j : Int) < (N9 : Int) := by omega
            have hFL : F = L.all mayC := by rw [hF, List.take_of_length_le (by have := H9.out.2.2.2; omega)]
            obtain ⟨hb4x, T, s, hcs, hTm, hse, hcase⟩ := HA.out.2.1
            have hbw : Below w.heap.size w wr := (H4.out.1.trans (hb4x.mono H4.out.1.size)).trans (hbr.mono (H4.out.1.trans (hb4x.mono H4.out.1.size)).size)
            have hcr := hcs.below hbr
            have hchr := HA.out.1.below hbr
            have hn9 := HA.out.2.2
            have hLl := H9.out.2.2.2
            clear hlt hj
            rcases hcase with ⟨hm, rfl, hst⟩ | ⟨hm, rfl, hst⟩
            · rw [hm] at hFL
              subst hFL
              have hkeys := ckeys_any hcr (by rw [hst]; simp)
              rw [hst] at hkeys
              have HE := Lib.hid (And.intro hcr (And.intro hse hbw))
              clear hcr hchr hse hbw hst hm hcs hTm hb4x hbr hF hn9 hLl
              go_wp2_with (first
                | (go_at_call 12; refine hkeys.mono ?_; clear hkeys; rintro _ w11 ⟨A11, n11, c11, rfl, hs11, hb11⟩
                   obtain rfl : n11 = 0 := by rw [← hs11.len]; rfl
                   have herr := cerr_any (HE.out.1.below hb11)
                   rw [HE.out.2.1] at herr
                   have HB := Lib.hid (HE.out.2.2.trans (hb11.mono HE.out.2.2.size))
                   clear hs11 hb11)
                | (go_at_call 13; refine herr.mono ?_; clear herr; rintro _ _ ⟨rfl, rfl⟩))
              go_ret
              exact ⟨rfl, HB.out⟩
            · rw [hm] at hFL
              subst hFL
              have hall : ∀ x ∈ L, mayC x = true := fun x hx => List.all_eq_true.1 hm x hx
              have hmo := modelof_any hchr (by omega) (fun x hx => by have := (may_small (hall x hx)).2.2.1; omega)
              have hlen := doL_len [] Srt.nil L
              have hmay : TMay (doL [] L) := TMay.nil.chs hall
              have HE := Lib.hid (And.intro hcr (And.intro hst (And.intro hbw (And.intro hmay (show (doL [] L).length ≤ 9 by simp at hlen; omega)))))
              have HN := Lib.hid hn9
              clear hcr hchr hse hbw hst hm hcs hTm hb4x hbr hF hn9 hLl hall hlen hmay
              go_wp2_with (first
                | (go_at_call 17; refine hmo.mono ?_; clear hmo; rintro _ w11 ⟨A11, c11, rfl, hm11, hb11⟩
                   have hdo := rdo_any (S := fun _ => False) (t := []) (Cms.nil w11 _ none 0 (Nat.zero_le _)) Srt.nil hm11 (by have := HN.out; omega)
                   have HB11 := Lib.hid hb11
                   clear hm11 hb11)
                | (go_at_call 16; refine hdo.mono ?_; clear hdo; rintro _ w12 ⟨A12, n12, c12, rfl, hm12, hb12⟩
                   have hb1112 := HB11.out.trans (hb12.mono HB11.out.size)
                   have hnl := hm12.len
                   have hha := has_any (HE.out.1.below hb1112) hm12 (by have := HE.out.2.2.2.2; rw [← hnl]; simp [tb2]; omega) (by rw [HE.out.2.1]; have := HE.out.2.2.2.2; omega) (fun x hx => by
                     unfold tb2 at hx
                     obtain ⟨y, hy, rfl⟩ := List.mem_map.1 hx
                     have := (HE.out.2.2.2.1 y hy).2.1
                     show y.1.length ≤ 1000000
                     omega) (fun y hy => by rw [HE.out.2.1] at hy; have := (HE.out.2.2.2.1 y hy).2.2; omega)
                   rw [HE.out.2.1, tab_of_tb2, decide_eq_true rfl] at hha
                   have HB12 := Lib.hid (HE.out.2.2.1.trans (hb1112.mono HE.out.2.2.1.size))
                   clear hm12 hb12 hb1112 hnl)
                | (go_at_call 15; refine hha.mono ?_; clear hha; rintro _ w13 ⟨rfl, hb13⟩
                   have HB13 := Lib.hid (HB12.out.trans (hb13.mono HB12.out.size))
                   clear hb13))
              go_ret
              exact ⟨rfl, HB13.out⟩
theorem law_cnone {w : World} {A : Option Addr} {n c : Nat} {l : List Ch} (h : Chs w (· < w.heap.size) A n c l) {A2 : Option Addr} {n2 c2 : Nat} {q : Ch} (hq : Byt w (· < w.heap.size) A2 n2 c2 q.v) (hk : q.k.length ≤ maxLen) :
    Calls Try.prog 3 #[.slice A n c, .agg (chV A2 n2 c2 q)] w fun e w' => e = .returned (.bool true) ∧ Below w.heap.size w w' := walk_cnone h hq hk
end Go.Proofs.Ytpdkoiogfaimaaa

/-! Cells: a slice of changes, and a change, that came in. -/
namespace Go.Proofs.Ytpdkoiogfaimaaa
open Go.ChangeShapes Go.WideShapes Go.ChangeAt Go.RowKit Go.Deep
set_option maxRecDepth 100000

theorem trod_bool {H : Type} {enc : TypeId × Value → H} {P : Program} {w : World} {base : Nat} {spare : Nat → Bool} {held : Bool} {t : TypeId} {fuel : Nat} {cs : List Value} {x : DataW H × List MemPlace} (ht : P.underlying t = some .bool) (h : DataW.trod enc P w base spare held fuel t cs = some x) : ∃ b : Bool, cs = [.bool b] := by
  cases fuel with
  | zero => simp [DataW.trod] at h
  | succ n =>
    unfold DataW.trod at h
    rw [ht] at h
    split at h <;> simp_all
set_option maxRecDepth 100000 in
/-- A change's cells, as they came in. -/
theorem chg_cells {w : World} {H : Type} {enc : TypeId × Value → H} {base : Nat} {held : Bool} {cs : List Value} {fuel : Nat} {x : DataW H × List MemPlace} (hl : cs.length = 3) (h : DataW.trod enc Try.prog w base (fun _ => true) held fuel 25 cs = some x) :
    ∃ (A : Option Addr) (n c : Nat) (q : Ch), cs = (chV A n c q).toList ∧ Byt w (· < w.heap.size) A n c q.v ∧ q.k.length ≤ maxLen := by
  have h3 : Try.prog.cellsOf 9 = 1 := by kernel_rfl
  have h8 : Try.prog.cellsOf 23 = 1 := by kernel_rfl
  have h1 : Try.prog.cellsOf 4 = 1 := by kernel_rfl
  obtain ⟨y0, y1, y2, n', _, _, t0, t1, t2⟩ := trod_struct3 Try.underlying25 h
  match cs, hl with
  | [v0, v1, v2], _ =>
    simp only [h3, h8, h1] at t0 t1 t2
    obtain ⟨s, e0, _, hs⟩ := DataW.trod_string Try.underlying9 t0
    obtain ⟨b, e2⟩ := trod_bool Try.underlying4 t2
    simp at e0 e2
    subst e0 e2
    have t1' : DataW.trod enc Try.prog w base (fun _ => true) held n' 23 [v1] = some y1 := t1
    have hv : ∃ A k c', v1 = .slice A k c' := by
      rcases open_ints Try.underlying23 Try.underlying5 (by kernel_rfl) t1' with ⟨e, _⟩ | ⟨_, _, _, _, e, _⟩ <;> simp at e <;> exact ⟨_, _, _, e⟩
    obtain ⟨A, k, c', rfl⟩ := hv
    obtain ⟨bb, hb2⟩ := bytes_in (enc := enc) (base := base) (held := held) (d := y1.1) (p := y1.2) rfl ⟨n', t1'⟩
    refine ⟨A, k, c', ⟨s.data.toList, bb, b⟩, ?_, hb2.mono fun b hb _ => hb, ?_⟩
    · have hs2 : st s.data.toList = s := by
        show (⟨s.data.toList.toArray⟩ : ByteArray) = s
        rw [Array.toArray_toList]
      rw [show (chV A k c' ⟨s.data.toList, bb, b⟩).toList = [.string (st s.data.toList), .slice A k c', .bool b] from rfl, hs2]
    · show s.data.toList.length ≤ maxLen
      rw [Array.length_toList]
      exact hs
set_option maxRecDepth 100000 in
theorem chgs_in {w : World} {H : Type} {enc : TypeId × Value → H} {base : Nat} {spare : Nat → Bool} {held : Bool} {a : Option Addr} {len cap : Nat} {d : DataW H} {p : List MemPlace}
    (hs : spare = fun _ => true) (h : DataW.Trod enc Try.prog w base spare held 22 (.slice a len cap) d p) : ∃ l, Chs w (· < w.heap.size) a len cap l := by
  subst hs
  obtain ⟨fuel, hf⟩ := h
  rcases open_slice Try.underlying22 hf with ⟨hcs, _⟩ | ⟨x, l, c, m, n, D, Pl, hcs, _, hl, hm, hmm, _, hi⟩
  · simp [Value.cells] at hcs
    obtain ⟨rfl, rfl, rfl⟩ := hcs
    exact ⟨[], Chs.nil _ _ _ _ (Nat.zero_le _)⟩
  · simp [Value.cells] at hcs
    obtain ⟨rfl, rfl, rfl⟩ := hcs
    have hce : Try.prog.cellsOf 25 = 3 := by kernel_rfl
    rw [hce] at hi
    simp only [if_true] at hmm
    have one : ∀ i, ∃ q : (Option Addr × Nat × Nat) × Ch, i < len → (∀ (j : Nat) (v : Value), (chV q.1.1 q.1.2.1 q.1.2.2 q.2)[j]? = some v → w.cell? ((x.add (i * 3)).add j) = some v) ∧ Byt w (· < w.heap.size) q.1.1 q.1.2.1 q.1.2.2 q.2.v := fun i => by
      by_cases him : i < len
      · obtain ⟨cs', hc, ht⟩ := hi i (by omega)
        obtain ⟨_, hcl, hat⟩ := World.cells?_some hc
        obtain ⟨A, k, c', q, rfl, hb, _⟩ := chg_cells hcl ht
        refine ⟨((A, k, c'), q), fun _ => ⟨fun j v hv => ?_, hb⟩⟩
        have hj : j < 3 := by
          have := (Array.getElem?_eq_some_iff.1 hv).1
          simpa [chV] using this
        have h5 := hat j hj
        rw [h5]
        simpa using hv
      · exact ⟨((none, 0, 0), ⟨[], [], false⟩), fun h => absurd h him⟩
    obtain ⟨f, hf⟩ := Classical.skolem.1 one
    refine ⟨(List.range len).map fun i => (f i).2, by simp, hl, hm, fun h0 => ?_⟩
    obtain ⟨b, off, spot⟩ := x
    have hc0 := (hf 0 h0).1 0 _ rfl
    have hspot : spot = none := by simpa [Addr.add] using World.cell?_spot hc0
    subst hspot
    have hlt := World.block_lt_of_cell? _ _ hc0
    rw [add_plain, add_plain] at hlt
    refine ⟨b, off, rfl, hlt, hlt, fun i q hq => ?_⟩
    have hil : i < len := by
      have := (List.getElem?_eq_some_iff.1 hq).1; simpa using this
    obtain rfl : (f i).2 = q := by simpa [hil] using hq
    refine ⟨_, _, _, fun j v hv => ?_, (hf i hil).2⟩
    have := (hf i hil).1 j v hv
    rwa [add_plain, add_plain] at this
theorem okWide_chg {w : World} {r : Reach} {base : Nat} {v : Value} (h : Value.okWide Try.prog w r base 25 v) : ∃ cs, v = .agg cs ∧ cs.size = 3 := by
  have hc : Try.prog.cellsOf 25 = 3 := by kernel_rfl
  unfold Value.okWide at h
  simp only [Try.underlying25] at h
  obtain ⟨cs, h1, h2, _⟩ := h
  exact ⟨cs, h1, by rw [h2, hc]⟩
set_option maxRecDepth 100000 in
theorem chg_in {w : World} {H : Type} {enc : TypeId × Value → H} {base : Nat} {spare : Nat → Bool} {held : Bool} {cs : Array Value} {d : DataW H} {p : List MemPlace}
    (hsp : spare = fun _ => true) (hs : cs.size = 3) (h : DataW.Trod enc Try.prog w base spare held 25 (.agg cs) d p) : ∃ (A : Option Addr) (n c : Nat) (q : Ch), cs = chV A n c q ∧ Byt w (· < w.heap.size) A n c q.v ∧ q.k.length ≤ maxLen := by
  subst hsp
  obtain ⟨fuel, hf⟩ := h
  obtain ⟨l, rfl⟩ : ∃ l : List Value, cs = l.toArray := ⟨cs.toList, by simp⟩
  have hf' : DataW.trod enc Try.prog w base (fun _ => true) held fuel 25 l = some (d, p) := by simpa [Value.cells] using hf
  obtain ⟨A, n, c, q, e, hb, hk⟩ := chg_cells (by simpa using hs) hf'
  exact ⟨A, n, c, q, by rw [e], hb, hk⟩
end Go.Proofs.Ytpdkoiogfaimaaa

/-! The statement CellsNone, proved: for every changes and every change the law returns true. No condition. -/
namespace Go.Proofs.Ytpdkoiogfaimaaa.cellsNone
open Go.ChangeShapes Go.WideShapes Go.ChangeAt Go.RowKit
set_option linter.unusedVariables false

set_option maxRecDepth 100000 in
theorem lifted (os : Os) (started : os.Started) (H : Type) (enc : TypeId × Value → H) :
    ReturnsInHanded {} Try.checked os 3 .any (Rows.cellsNoneSpec.pre6 enc Try.prog Try.f3 Rows.cellsNoneRow.domain false) (Rows.cellsNoneSpec.post enc Try.prog Try.f3 false true false false) := by
  refine returnsInHanded_of_change (C := Try.checked) own_knob started (by kernel_rfl) Try.func3
    (ChangeSpec.witness6 (enc := enc) (C := Try.checked) false ⟨#[], #[.slice none 0 0, .agg #[.string ByteArray.empty, .slice none 0 0, .bool false]], []⟩ 8 (by kernel_rfl) (by kernel_rfl) (by kernel_rfl) (by kernel_rfl)) ?_
  intro W base args ds gs before hval0 hW hcnd _
  have hval : ∀ (j : Nat) t v, Try.f3.params[j]? = some t → args[j]? = some v → Value.okWide Try.prog W .any base t v := hval0
  have hW' := hW
  obtain ⟨p, q, hA0, hV, rfl, hfz, hnd⟩ := hW
  have hA : DataW.TrodAll enc Try.prog W 0 (fun _ => true) true Try.f3.params.toList args.toList ds p := hA0
  rw [Try.params3] at hA hval
  obtain ⟨v0, vs0, d0, ds0, p0, q0, hargs, rfl, rfl, h0, r0⟩ := trodAll_cons hA
  obtain ⟨v1, vs1, d1, ds1, p1, q1, rfl, rfl, rfl, h1, r1⟩ := trodAll_cons r0
  obtain ⟨rfl, rfl, rfl⟩ := trodAll_nil r1
  obtain rfl : args = #[v0, v1] := by cases args; simp_all
  obtain ⟨rfl, rfl⟩ := trodVars_none hV
  obtain ⟨a0, len0, cap0, rfl⟩ := okWide_slice Try.underlying22 (hval 0 22 v0 rfl rfl)
  obtain ⟨l0, w0⟩ := chgs_in rfl h0
  obtain ⟨cs1, rfl, sz1⟩ := okWide_chg (hval 1 25 v1 rfl rfl)
  obtain ⟨cA1, cn1, cc1, cq1, rfl, w1, wk1⟩ := chg_in rfl sz1 h1
  clear hA0 hval0
  refine (law_cnone w0 w1 wk1).mono fun e W' ⟨he, bel⟩ => ?_
  subst he
  exact ⟨_, rfl, _, _, _, [], _, [], hW', trodAll_mk1 (shut_bool Try.underlying4 _), (trodAll_cons_mk (Below.trod laid_out (by kernel_rfl) (of_decide_eq_true (by kernel_rfl)) h0 bel (trod_lt h0)) (trodAll_cons_mk (Below.trod laid_out (by kernel_rfl) (of_decide_eq_true (by kernel_rfl)) h1 bel (trod_lt h1)) trodAll_mk0)), rfl, bel.frame _, fun h => by cases h⟩

theorem proved : Rows.CellsNoneSaid :=
  OpenClaim.holds_of_wide 3 Try.f3 rfl rfl rfl rfl rfl rfl rfl ⟨rfl, rfl, rfl, rfl, rfl⟩ rfl rfl rfl rfl rfl (by kernel_rfl) Try.func3 (by kernel_rfl)
    (of_decide_eq_true (by kernel_rfl)) (by unfold Func.isWrapper; first | (rw [if_pos (by decide +kernel)]; kernel_rfl) | (rw [if_neg (by decide +kernel)]; exact ⟨rfl, rfl⟩))
    (fun os started H enc _ => lifted os started H enc)
#print axioms proved
end Go.Proofs.Ytpdkoiogfaimaaa.cellsNone
