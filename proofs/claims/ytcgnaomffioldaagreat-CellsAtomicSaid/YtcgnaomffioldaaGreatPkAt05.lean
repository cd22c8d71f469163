/-
  Cells: the laws' small.
  Cells: a slice of changes, and a change, that came in.
  Cells: a slice of slices of changes that came in.
  Cells: changes that may not be are refused, however long they are.
-/
import Derived.Test.YtcgnaomffioldaaGreatPk03
import Derived.Test.YtcgnaomffioldaaGreatPk21
import Derived.Deep.Strs
import Derived.Test.YtcgnaomffioldaaGreatPk20
/-! Cells: the laws' small. -/
namespace Go.Proofs.YtcgnaomffioldaaGreat
open Go.RowKit Codec

/-- The letters and bytes of changes. -/
def sumC (l : List Ch) : Nat := (l.map fun x => x.k.length + x.v.length).sum
def RSm10 (w : World) (n : Nat) (l : List Ch) (z i : Value) (wr : World) : Prop :=
  ∃ (j : Nat) (s : Int), j ≤ n ∧ i = .int .i64 (j : Int) ∧ z = .int .i64 s ∧ (n ≤ 8 → (∀ x ∈ l, mayC x = true) → s = (sumC (l.take j) : Int) ∧ s ≤ 5000 * j) ∧ Below w.heap.size w wr
/-- What small tells. -/
def SmP (w : World) (n : Nat) (l : List Ch) (e : Ending) (w' : World) : Prop := ∃ B, e = .returned (.bool B) ∧ (B = true → n ≤ 8 ∧ ((∀ x ∈ l, mayC x = true) → sumC l ≤ 600)) ∧ Below w.heap.size w w'
set_option maxHeartbeats 8000000 in
set_option maxRecDepth 100000 in
theorem small_any {w : World} {S : Nat → Prop} {A : Option Addr} {n c : Nat} {l : List Ch} (h : Chs w S A n c l) :
    Calls Tryz.prog 10 #[.slice A n c] w fun e w' => SmP w n l e w' := by
  have hmx := h.max
  have HS := Lib.hid (And.intro h (And.intro h.len (show n ≤ maxLen from Nat.le_trans h.cap hmx)))
  clear h hmx
  go_enter Tryz.func10, Tryz.ntmps10
  go_wp2_with fail
  go_loopw [3, 4] (fun z i wr => RSm10 w n l z i wr) (fun _ i _ => n - (intOf i).toNat)
  case atStart => exact ⟨0, 0, Nat.zero_le _, rfl, rfl, fun _ _ => by simp [sumC], Below.refl _ _⟩
  case round =>
    obtain ⟨j, s, hj, rfl, rfl, hs, hbel⟩ := hrel
    by_cases hlt : j < n
    · have hlt' : (j : Int) < (n : Int) := by omega
      have hadd1 := IntWalk.i64_in ((j : Int) + 1) (by have h1 := HS.out.2.2; unfold maxLen at h1; omega)
      obtain ⟨b, off, x, Ax, nx, cx, rfl, _, hb, hx, hcs, hy⟩ := HS.out.1.at_ hlt
      have hnx := hy.len
      have hcell : ∀ o u, (chV Ax nx cx x)[o]? = some u → w.cell? ⟨b, off + j * 3 + o, none⟩ = some u := fun o u hu => by have := hcs o u hu; rwa [add_plain] at this
      have HC : Hid (b < wr.drew.heap.size ∧ wr.drew.cell? ⟨b, off + j * 3, none⟩ = some (.string (st x.k)) ∧ wr.drew.cell? ⟨b, off + j * 3 + 1, none⟩ = some (.slice Ax nx cx)) := Lib.hid ⟨Nat.lt_of_lt_of_le hb hbel.size, (hbel.cell (p := ⟨_, _, none⟩) hb).trans (hcell 0 _ rfl), (hbel.cell (p := ⟨_, _, none⟩) hb).trans (hcell 1 _ rfl)⟩
      obtain ⟨S1, hS1⟩ : ∃ S1, S1 = IntKind.i64.wrap ((x.k.length : Int) + (nx : Int)) := ⟨_, rfl⟩
      obtain ⟨S2, hS2⟩ : ∃ S2, S2 = IntKind.i64.wrap (s + S1) := ⟨_, rfl⟩
      have HX := Lib.hid (And.intro hx (And.intro hlt (And.intro hnx (And.intro hS1 hS2))))
      have HR := Lib.hid (And.intro hs hbel)
      have HK := Lib.hid (And.intro (st_size x.k) (And.intro hS1.symm hS2.symm))
      clear hs hbel hb hx hcs hy hcell hj hlt hnx hS1 hS2
      go_upto_region 5 with fail
      refine wp_region_grow (fun W W' => Below W.heap.size W W') (Grow.nth [fun v _ => v = .int .i64 s, fun v _ => v = .slice (some ⟨b, off, none⟩) n c, fun v _ => v = .int .i64 (j : Int), fun v _ => v = .pointer (some ⟨b, off + j * 3, none⟩), fun v _ => v = .pointer (some ⟨b, off + j * 3, none⟩), fun v _ => v = .string (st x.k), fun v _ => v = .int .i64 (x.k.length : Int), fun v _ => v = .slice (some ⟨b, off, none⟩) n c, fun v _ => v = .int .i64 (j : Int), fun v _ => v = .pointer (some ⟨b, off + j * 3, none⟩), fun v _ => v = .pointer (some ⟨b, off + j * 3 + 1, none⟩), fun v _ => v = .slice Ax nx cx, fun v _ => v = .int .i64 (nx : Int), fun v _ => v = .int .i64 S1, fun v _ => v = .int .i64 S2, fun v _ => v = .int .i64 S2]) 33 (by kernel_rfl) (by kernel_rfl) (by rfl) (fun W => Below.refl _ W) (fun _ _ _ h1 h2 => h1.trans (h2.mono h1.size)) (Grow.mono_nth ?gmono) ?gsteps ?gfin
      case gmono => exact ⟨fun _ _ _ h _ => h, fun _ _ _ h _ => h, fun _ _ _ h _ => h, fun _ _ _ h _ => h, fun _ _ _ h _ => h, fun _ _ _ h _ => h, fun _ _ _ h _ => h, fun _ _ _ h _ => h, fun _ _ _ h _ => h, fun _ _ _ h _ => h, fun _ _ _ h _ => h, fun _ _ _ h _ => h, fun _ _ _ h _ => h, fun _ _ _ h _ => h, fun _ _ _ h _ => h, fun _ _ _ h _ => h, trivial⟩
      case gsteps =>
        show Grow.allBelow _ 16
        refine And.intro ?_ ?s15
        refine And.intro ?_ ?s14
        refine And.intro ?_ ?s13
        refine And.intro ?_ ?s12
        refine And.intro ?_ ?s11
        refine And.intro ?_ ?s10
        refine And.intro ?_ ?s9
        refine And.intro ?_ ?s8
        refine And.intro ?_ ?s7
        refine And.intro ?_ ?s6
        refine And.intro ?_ ?s5
        refine And.intro ?_ ?s4
        refine And.intro ?_ ?s3
        refine And.intro ?_ ?s2
        refine And.intro ?_ ?s1
        refine And.intro ?_ ?s0
        exact trivial
        case s0 =>
          refine Grow.step_in (by rfl) (by rfl) ?_
          intro E W ec eg ef hG hd hu R HR1
          have e3 : E (.tmp 3) = .int .i64 s := hu 3 (by kernel_rfl)
          clear hd hu
          go_simp
          exact HR1.out _ _ (Below.refl _ _) rfl
        case s1 =>
          refine Grow.step_in (by rfl) (by rfl) ?_
          intro E W ec eg ef hG hd hu R HR1
          have e0 : E (.tmp 0) = .slice (some ⟨b, off, none⟩) n c := hu 0 (by kernel_rfl)
          clear hd hu
          go_simp
          exact HR1.out _ _ (Below.refl _ _) rfl
        case s2 =>
          refine Grow.step_in (by rfl) (by rfl) ?_
          intro E W ec eg ef hG hd hu R HR1
          have e4 : E (.tmp 4) = .int .i64 (j : Int) := hu 4 (by kernel_rfl)
          clear hd hu
          go_simp
          exact HR1.out _ _ (Below.refl _ _) rfl
        case s3 =>
          refine Grow.step_in (by rfl) (by rfl) ?_
          intro E W ec eg ef hG hd hu R HR1
          have e12 : E (.tmp 12) = .slice (some ⟨b, off, none⟩) n c := hd 1 12 (by kernel_rfl)
          have e13 : E (.tmp 13) = .int .i64 (j : Int) := hd 2 13 (by kernel_rfl)
          clear hd hu
          have hjl := HX.out.2.1
          go_simp
          first | exact HR1.out _ _ (Below.refl _ _) rfl | (rw [if_pos ⟨by omega, by omega⟩]; exact HR1.out _ _ (Below.refl _ _) rfl)
        case s4 =>
          refine Grow.step_in (by rfl) (by rfl) ?_
          intro E W ec eg ef hG hd hu R HR1
          have e14 : E (.tmp 14) = .pointer (some ⟨b, off + j * 3, none⟩) := hd 3 14 (by kernel_rfl)
          clear hd hu
          go_simp
          exact HR1.out _ _ (Below.refl _ _) rfl
        case s5 =>
          refine Grow.step_in (by rfl) (by rfl) ?_
          intro E W ec eg ef hG hd hu R HR1
          have e15 : E (.tmp 15) = .pointer (some ⟨b, off + j * 3, none⟩) := hd 4 15 (by kernel_rfl)
          clear hd hu
          have hcl := (hG.cell (p := ⟨b, off + j * 3, none⟩) HC.out.1).trans HC.out.2.1
          go_simp
          exact HR1.out _ _ (Below.refl _ _) rfl
        case s6 =>
          refine Grow.step_in (by rfl) (by rfl) ?_
          intro E W ec eg ef hG hd hu R HR1
          have e16 : E (.tmp 16) = .string (st x.k) := hd 5 16 (by kernel_rfl)
          clear hd hu
          have hsz := HK.out.1
          go_simp
          exact HR1.out _ _ (Below.refl _ _) rfl
        case s7 =>
          refine Grow.step_in (by rfl) (by rfl) ?_
          intro E W ec eg ef hG hd hu R HR1
          have e0 : E (.tmp 0) = .slice (some ⟨b, off, none⟩) n c := hu 0 (by kernel_rfl)
          clear hd hu
          go_simp
          exact HR1.out _ _ (Below.refl _ _) rfl
        case s8 =>
          refine Grow.step_in (by rfl) (by rfl) ?_
          intro E W ec eg ef hG hd hu R HR1
          have e4 : E (.tmp 4) = .int .i64 (j : Int) := hu 4 (by kernel_rfl)
          clear hd hu
          go_simp
          exact HR1.out _ _ (Below.refl _ _) rfl
        case s9 =>
          refine Grow.step_in (by rfl) (by rfl) ?_
          intro E W ec eg ef hG hd hu R HR1
          have e18 : E (.tmp 18) = .slice (some ⟨b, off, none⟩) n c := hd 7 18 (by kernel_rfl)
          have e19 : E (.tmp 19) = .int .i64 (j : Int) := hd 8 19 (by kernel_rfl)
          clear hd hu
          have hjl := HX.out.2.1
          go_simp
          first | exact HR1.out _ _ (Below.refl _ _) rfl | (rw [if_pos ⟨by omega, by omega⟩]; exact HR1.out _ _ (Below.refl _ _) rfl)
        case s10 =>
          refine Grow.step_in (by rfl) (by rfl) ?_
          intro E W ec eg ef hG hd hu R HR1
          have e20 : E (.tmp 20) = .pointer (some ⟨b, off + j * 3, none⟩) := hd 9 20 (by kernel_rfl)
          clear hd hu
          go_simp
          exact HR1.out _ _ (Below.refl _ _) rfl
        case s11 =>
          refine Grow.step_in (by rfl) (by rfl) ?_
          intro E W ec eg ef hG hd hu R HR1
          have e21 : E (.tmp 21) = .pointer (some ⟨b, off + j * 3 + 1, none⟩) := hd 10 21 (by kernel_rfl)
          clear hd hu
          have hcl := (hG.cell (p := ⟨b, off + j * 3 + 1, none⟩) HC.out.1).trans HC.out.2.2
          go_simp
          exact HR1.out _ _ (Below.refl _ _) rfl
        case s12 =>
          refine Grow.step_in (by rfl) (by rfl) ?_
          intro E W ec eg ef hG hd hu R HR1
          have e22 : E (.tmp 22) = .slice Ax nx cx := hd 11 22 (by kernel_rfl)
          clear hd hu
          go_simp
          exact HR1.out _ _ (Below.refl _ _) rfl
        case s13 =>
          refine Grow.step_in (by rfl) (by rfl) ?_
          intro E W ec eg ef hG hd hu R HR1
          have e17 : E (.tmp 17) = .int .i64 (x.k.length : Int) := hd 6 17 (by kernel_rfl)
          have e23 : E (.tmp 23) = .int .i64 (nx : Int) := hd 12 23 (by kernel_rfl)
          clear hd hu
          have hs1 := HK.out.2.1
          go_simp
          exact HR1.out _ _ (Below.refl _ _) rfl
        case s14 =>
          refine Grow.step_in (by rfl) (by rfl) ?_
          intro E W ec eg ef hG hd hu R HR1
          have e11 : E (.tmp 11) = .int .i64 s := hd 0 11 (by kernel_rfl)
          have e24 : E (.tmp 24) = .int .i64 S1 := hd 13 24 (by kernel_rfl)
          clear hd hu
          have hs2 := HK.out.2.2
          go_simp
          exact HR1.out _ _ (Below.refl _ _) rfl
        case s15 =>
          refine Grow.step_in (by rfl) (by rfl) ?_
          intro E W ec eg ef hG hd hu R HR1
          have e25 : E (.tmp 25) = .int .i64 S2 := hd 14 25 (by kernel_rfl)
          clear hd hu
          go_simp
          exact HR1.out _ _ (Below.refl _ _) rfl
      case gfin =>
        intro W hG
        refine Grow.fin_dst (by rfl) ?_
        rintro _ rfl
        refine Grow.fin_dst (by rfl) ?_
        rintro _ rfl
        refine Grow.fin_dst (by rfl) ?_
        rintro _ rfl
        refine Grow.fin_dst (by rfl) ?_
        rintro _ rfl
        refine Grow.fin_dst (by rfl) ?_
        rintro _ rfl
        refine Grow.fin_dst (by rfl) ?_
        rintro _ rfl
        refine Grow.fin_dst (by rfl) ?_
        rintro _ rfl
        refine Grow.fin_dst (by rfl) ?_
        rintro _ rfl
        refine Grow.fin_dst (by rfl) ?_
        rintro _ rfl
        refine Grow.fin_dst (by rfl) ?_
        rintro _ rfl
        refine Grow.fin_dst (by rfl) ?_
        rintro _ rfl
        refine Grow.fin_dst (by rfl) ?_
        rintro _ rfl
        refine Grow.fin_dst (by rfl) ?_
        rintro _ rfl
        refine Grow.fin_dst (by rfl) ?_
        rintro _ rfl
        refine Grow.fin_dst (by rfl) ?_
        rintro _ rfl
        refine Grow.fin_dst (by rfl) ?_
        rintro _ rfl
        simp only [Act.put, List.setIfInBounds_toArray, List.set_cons_zero, List.set_cons_succ]
        refine Grow.fin_end ?_
        have HW := Lib.hid (Grow.below_of_drew hG)
        clear hG
        go_wp2_with fail
        go_roundw
        case rel =>
          unfold RSm10
          refine ⟨j + 1, S2, by have := HX.out.2.1; omega, by simp, rfl, fun h8 hm => ?_, HR.out.2.trans (HW.out.mono HR.out.2.size)⟩
          obtain ⟨h1, h2⟩ := HR.out.1 h8 hm
          have hx := HX.out
          have hmx := hm x (List.mem_of_getElem? hx.1)
          unfold mayC at hmx
          simp only [Bool.and_eq_true, decide_eq_true_eq] at hmx
          have hv : x.v.length ≤ 4096 := by
            have := hmx.2
            split at this <;> omega
          have e1 : S1 = (x.k.length : Int) + (nx : Int) := by rw [hx.2.2.2.1]; exact IntWalk.i64_in _ (by omega)
          have hj8 := hx.2.1
          have e2 : S2 = s + S1 := by rw [hx.2.2.2.2]; exact IntWalk.i64_in _ (by rw [e1]; omega)
          have e3 : sumC (l.take (j + 1)) = sumC (l.take j) + (x.k.length + x.v.length) := by
            unfold sumC
            rw [List.take_add_one, hx.1]
            simp
          rw [e2, e1, e3]
          omega
        case measure => simp only [intOf]; have h1 := HX.out.2.1; omega
    · have hlt' : ¬ (j : Int) < (n : Int) := by omega
      have hjn : j = n := by omega
      have HR := Lib.hid (And.intro hs (And.intro hbel hjn))
      clear hs hbel hj hlt hjn
      by_cases h8 : n ≤ 8
      · have h8' : (n : Int) ≤ 8 := by omega
        by_cases h6 : s ≤ 600
        · have H6 := Lib.hid (And.intro h8 h6)
          clear h8
          go_wp2_with fail
          go_ret
          refine ⟨true, rfl, fun _ => ⟨H6.out.1, fun hm => ?_⟩, HR.out.2.1⟩
          have h1 := (HR.out.1 H6.out.1 hm).1
          rw [HR.out.2.2, List.take_of_length_le (by have := HS.out.2.1; omega)] at h1
          have := H6.out.2
          omega
        · clear h8
          go_wp2_with fail
          go_ret
          exact ⟨false, rfl, fun h => (by cases h), HR.out.2.1⟩
      · have h8' : ¬ (n : Int) ≤ 8 := by omega
        clear h8
        go_wp2_with fail
        go_ret
        exact ⟨false, rfl, fun h => (by cases h), HR.out.2.1⟩
end Go.Proofs.YtcgnaomffioldaaGreat

/-! Cells: a slice of changes, and a change, that came in. -/
namespace Go.Proofs.YtcgnaomffioldaaGreat
open Go.ChangeShapes Go.WideShapes Go.ChangeAt Go.RowKit Go.Deep
set_option maxRecDepth 100000

theorem trod_bool {H : Type} {enc : TypeId × Value → H} {P : Program} {w : World} {base : Nat} {spare : Nat → Bool} {held : Bool} {t : TypeId} {fuel : Nat} {cs : List Value} {x : DataW H × List MemPlace} (ht : P.underlying t = some .bool) (h : DataW.trod enc P w base spare held fuel t cs = some x) : ∃ b : Bool, cs = [.bool b] := by
  cases fuel with
  | zero => simp [DataW.trod] at h
  | succ n =>
    unfold DataW.trod at h
    rw [ht] at h
    split at h <;> simp_all
set_option maxRecDepth 100000 in
/-- A change's cells, as they came in. -/
theorem chg_cells {w : World} {H : Type} {enc : TypeId × Value → H} {base : Nat} {held : Bool} {cs : List Value} {fuel : Nat} {x : DataW H × List MemPlace} (hl : cs.length = 3) (h : DataW.trod enc Tryz.prog w base (fun _ => true) held fuel 67 cs = some x) :
    ∃ (A : Option Addr) (n c : Nat) (q : Ch), cs = (chV A n c q).toList ∧ Byt w (· < w.heap.size) A n c q.v ∧ q.k.length ≤ maxLen := by
  have h3 : Tryz.prog.cellsOf 9 = 1 := by kernel_rfl
  have h8 : Tryz.prog.cellsOf 54 = 1 := by kernel_rfl
  have h1 : Tryz.prog.cellsOf 4 = 1 := by kernel_rfl
  obtain ⟨y0, y1, y2, n', _, _, t0, t1, t2⟩ := trod_struct3 Tryz.underlying67 h
  match cs, hl with
  | [v0, v1, v2], _ =>
    simp only [h3, h8, h1] at t0 t1 t2
    obtain ⟨s, e0, _, hs⟩ := DataW.trod_string Tryz.underlying9 t0
    obtain ⟨b, e2⟩ := trod_bool Tryz.underlying4 t2
    simp at e0 e2
    subst e0 e2
    have t1' : DataW.trod enc Tryz.prog w base (fun _ => true) held n' 54 [v1] = some y1 := t1
    have hv : ∃ A k c', v1 = .slice A k c' := by
      rcases open_ints Tryz.underlying54 Tryz.underlying5 (by kernel_rfl) t1' with ⟨e, _⟩ | ⟨_, _, _, _, e, _⟩ <;> simp at e <;> exact ⟨_, _, _, e⟩
    obtain ⟨A, k, c', rfl⟩ := hv
    obtain ⟨bb, hb2⟩ := bytes_in (enc := enc) (base := base) (held := held) (d := y1.1) (p := y1.2) rfl ⟨n', t1'⟩
    refine ⟨A, k, c', ⟨s.data.toList, bb, b⟩, ?_, hb2.mono fun b hb _ => hb, ?_⟩
    · have hs2 : st s.data.toList = s := by
        show (⟨s.data.toList.toArray⟩ : ByteArray) = s
        rw [Array.toArray_toList]
      rw [show (chV A k c' ⟨s.data.toList, bb, b⟩).toList = [.string (st s.data.toList), .slice A k c', .bool b] from rfl, hs2]
    · show s.data.toList.length ≤ maxLen
      rw [Array.length_toList]
      exact hs
set_option maxRecDepth 100000 in
theorem chgs_in {w : World} {H : Type} {enc : TypeId × Value → H} {base : Nat} {spare : Nat → Bool} {held : Bool} {a : Option Addr} {len cap : Nat} {d : DataW H} {p : List MemPlace}
    (hs : spare = fun _ => true) (h : DataW.Trod enc Tryz.prog w base spare held 44 (.slice a len cap) d p) : ∃ l, Chs w (· < w.heap.size) a len cap l := by
  subst hs
  obtain ⟨fuel, hf⟩ := h
  rcases open_slice Tryz.underlying44 hf with ⟨hcs, _⟩ | ⟨x, l, c, m, n, D, Pl, hcs, _, hl, hm, hmm, _, hi⟩
  · simp [Value.cells] at hcs
    obtain ⟨rfl, rfl, rfl⟩ := hcs
    exact ⟨[], Chs.nil _ _ _ _ (Nat.zero_le _)⟩
  · simp [Value.cells] at hcs
    obtain ⟨rfl, rfl, rfl⟩ := hcs
    have hce : Tryz.prog.cellsOf 67 = 3 := by kernel_rfl
    rw [hce] at hi
    simp only [if_true] at hmm
    have one : ∀ i, ∃ q : (Option Addr × Nat × Nat) × Ch, i < len → (∀ (j : Nat) (v : Value), (chV q.1.1 q.1.2.1 q.1.2.2 q.2)[j]? = some v → w.cell? ((x.add (i * 3)).add j) = some v) ∧ Byt w (· < w.heap.size) q.1.1 q.1.2.1 q.1.2.2 q.2.v := fun i => by
      by_cases him : i < len
      · obtain ⟨cs', hc, ht⟩ := hi i (by omega)
        obtain ⟨_, hcl, hat⟩ := World.cells?_some hc
        obtain ⟨A, k, c', q, rfl, hb, _⟩ := chg_cells hcl ht
        refine ⟨((A, k, c'), q), fun _ => ⟨fun j v hv => ?_, hb⟩⟩
        have hj : j < 3 := by
          have := (Array.getElem?_eq_some_iff.1 hv).1
          simpa [chV] using this
        have h5 := hat j hj
        rw [h5]
        simpa using hv
      · exact ⟨((none, 0, 0), ⟨[], [], false⟩), fun h => absurd h him⟩
    obtain ⟨f, hf⟩ := Classical.skolem.1 one
    refine ⟨(List.range len).map fun i => (f i).2, by simp, hl, hm, fun h0 => ?_⟩
    obtain ⟨b, off, spot⟩ := x
    have hc0 := (hf 0 h0).1 0 _ rfl
    have hspot : spot = none := by simpa [Addr.add] using World.cell?_spot hc0
    subst hspot
    have hlt := World.block_lt_of_cell? _ _ hc0
    rw [add_plain, add_plain] at hlt
    refine ⟨b, off, rfl, hlt, hlt, fun i q hq => ?_⟩
    have hil : i < len := by
      have := (List.getElem?_eq_some_iff.1 hq).1; simpa using this
    obtain rfl : (f i).2 = q := by simpa [hil] using hq
    refine ⟨_, _, _, fun j v hv => ?_, (hf i hil).2⟩
    have := (hf i hil).1 j v hv
    rwa [add_plain, add_plain] at this
theorem okWide_chg {w : World} {r : Reach} {base : Nat} {v : Value} (h : Value.okWide Tryz.prog w r base 67 v) : ∃ cs, v = .agg cs ∧ cs.size = 3 := by
  have hc : Tryz.prog.cellsOf 67 = 3 := by kernel_rfl
  unfold Value.okWide at h
  simp only [Tryz.underlying67] at h
  obtain ⟨cs, h1, h2, _⟩ := h
  exact ⟨cs, h1, by rw [h2, hc]⟩
set_option maxRecDepth 100000 in
theorem chg_in {w : World} {H : Type} {enc : TypeId × Value → H} {base : Nat} {spare : Nat → Bool} {held : Bool} {cs : Array Value} {d : DataW H} {p : List MemPlace}
    (hsp : spare = fun _ => true) (hs : cs.size = 3) (h : DataW.Trod enc Tryz.prog w base spare held 67 (.agg cs) d p) : ∃ (A : Option Addr) (n c : Nat) (q : Ch), cs = chV A n c q ∧ Byt w (· < w.heap.size) A n c q.v ∧ q.k.length ≤ maxLen := by
  subst hsp
  obtain ⟨fuel, hf⟩ := h
  obtain ⟨l, rfl⟩ : ∃ l : List Value, cs = l.toArray := ⟨cs.toList, by simp⟩
  have hf' : DataW.trod enc Tryz.prog w base (fun _ => true) held fuel 67 l = some (d, p) := by simpa [Value.cells] using hf
  obtain ⟨A, n, c, q, e, hb, hk⟩ := chg_cells (by simpa using hs) hf'
  exact ⟨A, n, c, q, by rw [e], hb, hk⟩
end Go.Proofs.YtcgnaomffioldaaGreat

/-! Cells: a slice of slices of changes that came in. -/
namespace Go.Proofs.YtcgnaomffioldaaGreat
open Go.ChangeShapes Go.WideShapes Go.ChangeAt Go.RowKit Go.Deep

/-- ROWS OF CHANGES. -/
structure Chss (w : World) (S : Nat → Prop) (A : Option Addr) (n c : Nat) (L : List (List Ch)) : Prop where
  len : L.length = n
  cap : n ≤ c
  max : c ≤ maxLen
  row : 0 < n → ∃ b off, A = some ⟨b, off, none⟩ ∧ S b ∧ b < w.heap.size ∧ ∀ i l, L[i]? = some l → ∃ Ai ni ci, w.cell? ⟨b, off + i, none⟩ = some (.slice Ai ni ci) ∧ Chs w S Ai ni ci l
theorem Chss.at_ {w : World} {S : Nat → Prop} {A : Option Addr} {n c : Nat} {L : List (List Ch)} (h : Chss w S A n c L) {i : Nat} (hi : i < n) : ∃ b off l Ai ni ci, A = some ⟨b, off, none⟩ ∧ S b ∧ b < w.heap.size ∧ L[i]? = some l ∧ w.cell? ⟨b, off + i, none⟩ = some (.slice Ai ni ci) ∧ Chs w S Ai ni ci l := by
  obtain ⟨b, off, h1, h2, h3, h4⟩ := h.row (by omega)
  have hx : L[i]? = some (L[i]'(by have := h.len; omega)) := List.getElem?_eq_getElem _
  obtain ⟨Ai, ni, ci, h5, h6⟩ := h4 i _ hx
  exact ⟨b, off, _, Ai, ni, ci, h1, h2, h3, hx, h5, h6⟩
set_option maxRecDepth 100000 in
theorem chgss_in {w : World} {H : Type} {enc : TypeId × Value → H} {base : Nat} {spare : Nat → Bool} {held : Bool} {a : Option Addr} {len cap : Nat} {d : DataW H} {p : List MemPlace}
    (hs : spare = fun _ => true) (h : DataW.Trod enc Tryz.prog w base spare held 63 (.slice a len cap) d p) : ∃ L, Chss w (· < w.heap.size) a len cap L := by
  subst hs
  obtain ⟨fuel, hf⟩ := h
  rcases open_slice Tryz.underlying63 hf with ⟨hcs, _⟩ | ⟨x, l, c, m, n, D, Pl, hcs, _, hl, hm, hmm, _, hi⟩
  · simp [Value.cells] at hcs
    obtain ⟨rfl, rfl, rfl⟩ := hcs
    exact ⟨[], rfl, Nat.zero_le _, Nat.zero_le _, fun h => absurd h (by omega)⟩
  · simp [Value.cells] at hcs
    obtain ⟨rfl, rfl, rfl⟩ := hcs
    have hce : Tryz.prog.cellsOf 44 = 1 := by kernel_rfl
    rw [hce] at hi
    simp only [if_true] at hmm
    have one : ∀ i, ∃ q : List Ch, i < len → ∃ A k c', w.cell? ((x.add (i * 1)).add 0) = some (.slice A k c') ∧ Chs w (· < w.heap.size) A k c' q := fun i => by
      by_cases him : i < len
      · obtain ⟨cs', hc, ht⟩ := hi i (by omega)
        obtain ⟨_, hcl, hat⟩ := World.cells?_some hc
        match cs', hcl with
        | [v2], _ =>
          have c0 := hat 0 (by omega)
          have hv : ∃ A k c', v2 = .slice A k c' := by
            rcases open_slice Tryz.underlying44 ht with ⟨e, _⟩ | ⟨_, _, _, _, _, _, _, e, _⟩ <;> simp at e <;> exact ⟨_, _, _, e⟩
          obtain ⟨A, k, c', rfl⟩ := hv
          obtain ⟨b, hb2⟩ := chgs_in (w := w) (enc := enc) (base := base) (held := held) rfl ⟨_, ht⟩
          exact ⟨b, fun _ => ⟨A, k, c', c0, hb2⟩⟩
      · exact ⟨[], fun h => absurd h him⟩
    obtain ⟨f, hf⟩ := Classical.skolem.1 one
    refine ⟨(List.range len).map f, by simp, hl, hm, fun h0 => ?_⟩
    obtain ⟨b, off, spot⟩ := x
    obtain ⟨_, _, _, hc0, _⟩ := hf 0 h0
    have hspot : spot = none := by simpa [Addr.add] using World.cell?_spot hc0
    subst hspot
    have hlt := World.block_lt_of_cell? _ _ hc0
    rw [add_plain, add_plain] at hlt
    refine ⟨b, off, rfl, hlt, hlt, fun i l hil => ?_⟩
    have hi2 : i < len := by have := (List.getElem?_eq_some_iff.1 hil).1; simpa using this
    obtain ⟨A, k, c', h1, h2⟩ := hf i hi2
    rw [add_plain, add_plain, Nat.mul_one, Nat.add_zero] at h1
    have : f i = l := by simpa [hi2] using hil
    rw [this] at h2
    exact ⟨A, k, c', h1, h2⟩
end Go.Proofs.YtcgnaomffioldaaGreat

/-! Cells: changes that may not be are refused, however long they are. -/
namespace Go.Proofs.YtcgnaomffioldaaGreat
open Go.RowKit Codec

set_option maxHeartbeats 8000000 in
set_option maxRecDepth 100000 in
theorem capply_no {w : World} {T U : Nat → Prop} {p g : Nat} {s : SM} (h : Cs w T p g s) {A : Option Addr} {n c : Nat} {l : List Ch} (hl : Chs w U A n c l) (hn : n ≤ 1000000) (hr : refC s l ≠ 0) :
    Calls Tryz.prog 11 #[.pointer (some ⟨p, 0, none⟩), .slice A n c] w fun e w' => e = .returned (.int .i64 (refC s l)) ∧ Below w.heap.size w w' := by
  have hrf := crefuse_any h hl (by omega)
  obtain ⟨E, hE⟩ : ∃ E, E = refC s l := ⟨_, rfl⟩
  rw [← hE] at hrf hr ⊢
  have he' : (E != 0) = true := by simpa using hr
  clear h hl hn hE hr
  go_enter Tryz.func11, Tryz.ntmps11
  go_wp2_with (go_at_call 36; refine hrf.mono ?_; clear hrf; rintro _ w1 ⟨rfl, hb1⟩; have H1 := Lib.hid hb1; clear hb1)
  go_ret
  exact ⟨rfl, H1.out⟩
end Go.Proofs.YtcgnaomffioldaaGreat
