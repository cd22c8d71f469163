/-
  The reference: Ends.
-/
import Derived.Test.YtcmdiclbbcdceaaCutRef
namespace Go.Proofs.Ytcmdiclbbcdceaa
open Go.RowKit

theorem endsC_le (c : Cfg) (b : List UInt8) : ∀ x ∈ endsC c b, x ≤ b.length := by
  refine bytes_rec (c := c) (C := fun b => ∀ x ∈ endsC c b, x ≤ b.length) (fun b h x hx => ?_) (fun b h ih x hx => ?_) b
  · rw [endsC_nil c h] at hx
    simp at hx
  · have hp := pieceC_spec (c := c) h
    rw [endsC_cons c h, List.mem_cons] at hx
    rcases hx with rfl | hx
    · omega
    · obtain ⟨y, hy, rfl⟩ := List.mem_map.1 hx
      have := ih y hy
      rw [List.length_drop] at this
      omega
theorem endI_wf {n m : Nat} (h : n ≤ m) (hm : m ≤ 1000000) : (Lit.int .i64 (Int.ofNat n)).wf = true := by
  show (decide (-9223372036854775808 ≤ (n : Int)) && decide ((n : Int) ≤ 9223372036854775807)) = true
  rw [Bool.and_eq_true, decide_eq_true_eq, decide_eq_true_eq]
  omega
theorem own_nums {w : World} {B : Nat} {e : TypeId} {v : Value} {n : Nat} {kd : IntKind} {l : List Int} (h : w.ownsRow B e 1 v n (nums kd l)) (hw : ∀ x ∈ l, (Lit.int kd x).wf = true) : ∃ A c, v = .slice A n c ∧ Ints kd w (B ≤ ·) A n c l := by
  have hl : l.length = n := by have := h.1; rw [nums_length] at this; omega
  rcases h.2 with ⟨rfl, h2⟩ | ⟨g, cap, cur, rfl, hb, hg, hnc, hm, _, _⟩
  · subst h2
    obtain rfl : l = [] := List.eq_nil_of_length_eq_zero hl
    exact ⟨none, 0, rfl, Ints.nil _ _ _ _ _ (Nat.zero_le _)⟩
  · refine ⟨_, cap, rfl, hl, hnc, hm, hw, fun _ => ⟨g, 0, rfl, hb, (Array.getElem?_eq_some_iff.1 hg).1, fun i hi => ?_⟩⟩
    have hil : i < l.length := by omega
    have := h.cells (g := g) rfl i (.int kd (l[i]?.getD 0)) (by simp [nums, List.getElem?_map, List.getElem?_eq_getElem hil])
    rw [add_plain] at this
    simpa using this
theorem sum_word (s : Nat) (b : List UInt8) (i : Nat) (h : i < b.length) : IntKind.u64.wrap (IntKind.u64.wrap (2 * (s : Int)) + IntKind.u64.wrap (11400714819323198485 * IntKind.u64.wrap (IntKind.u64.wrap (b[i].toNat : Int) + 1))) = ((sumS s (b[i]?.getD 0) : Nat) : Int) := by
  rw [List.getElem?_eq_getElem h, Option.getD_some]
  generalize b[i] = z
  have hb : z.toNat < 256 := UInt8.toNat_lt _
  unfold sumS
  generalize z.toNat = y at *
  simp only [IntKind.wrap_u64]
  rw [Int.emod_eq_of_lt (a := (y : Int)) (by omega) (by omega), Int.emod_eq_of_lt (a := (y : Int) + 1) (by omega) (by omega), ← Int.add_emod]
  omega
/-- Where a scan stands: the piece under way has n bytes, E are the ends ahead of it. -/
structure EndSt (c : Cfg) (b : List UInt8) (i n : Nat) (E : List Nat) : Prop where
  le : n ≤ i
  il : i ≤ b.length
  eq : endsC c b = E ++ (endsC c (b.drop (i - n))).map (· + (i - n))
  no : ∀ m, 0 < m → m ≤ n → stopC c (b.drop (i - n)) m = false
section
variable {c : Cfg} {b : List UInt8} {i n : Nat} {E : List Nat}
theorem EndSt.start (c : Cfg) (b : List UInt8) : EndSt c b 0 0 [] := ⟨Nat.le_refl _, Nat.zero_le _, by simp, fun m h1 h2 => by omega⟩
theorem EndSt.go (h : EndSt c b i n E) (hi : i < b.length) (hs : stopC c (b.drop (i - n)) (n + 1) = false) : EndSt c b (i + 1) (n + 1) E := by
  have e : i + 1 - (n + 1) = i - n := by omega
  refine ⟨by have := h.le; omega, hi, by rw [e]; exact h.eq, fun m h1 h2 => ?_⟩
  rw [e]
  rcases Nat.lt_or_ge n m with h3 | h3
  · rw [show m = n + 1 by omega]
    exact hs
  · exact h.no m h1 h3
theorem EndSt.stop (h : EndSt c b i n E) (hi : i < b.length) (hs : stopC c (b.drop (i - n)) (n + 1) = true) : EndSt c b (i + 1) 0 (E ++ [i + 1]) := by
  have hl := h.le
  have hp : pieceC c (b.drop (i - n)) = n + 1 := pieceC_is (by omega) (by rw [List.length_drop]; omega) hs fun m h1 h2 => h.no m h1 (by omega)
  refine ⟨Nat.zero_le _, hi, ?_, fun m h1 h2 => by omega⟩
  rw [h.eq, endsC_cons c (by rw [List.length_drop]; omega), hp, List.drop_drop, List.map_cons, List.map_map, show i - n + (n + 1) = i + 1 by omega, show n + 1 + (i - n) = i + 1 by omega, Nat.sub_zero, List.append_assoc, List.singleton_append]
  congr 2
  apply List.map_congr_left
  intro x _
  simp only [Function.comp]
  omega
theorem EndSt.done (h : EndSt c b b.length n E) : n = 0 ∧ E = endsC c b := by
  have hl := h.le
  have h0 : n = 0 := by
    rcases Nat.eq_zero_or_pos n with h0 | h0
    · exact h0
    · have := h.no n h0 (Nat.le_refl _)
      rw [show n = (b.drop (b.length - n)).length by rw [List.length_drop]; omega, List.length_drop, show b.length - (b.length - (b.length - n)) = b.length - n by omega, show b.length - (b.length - n) = n by omega] at this
      have h2 := stopC_len c (b.drop (b.length - n))
      rw [List.length_drop, show b.length - (b.length - n) = n by omega] at h2
      rw [h2] at this
      cases this
  subst h0
  refine ⟨rfl, ?_⟩
  rw [h.eq, Nat.sub_zero, endsC_nil c (by rw [List.length_drop]; omega)]
  simp
/-- What is asked at a byte. -/
theorem EndSt.ask (h : EndSt c b i n E) : stopC c (b.drop (i - n)) (n + 1) = (n + 1 == c.most || i + 1 == b.length || (decide (c.least ≤ n + 1) && rareC c.bits (sumC ((b.drop (i - n)).take (n + 1))))) := by
  have hl := h.le
  have e : (n + 1 == (b.drop (i - n)).length) = (i + 1 == b.length) := by
    rw [List.length_drop]
    by_cases h1 : i + 1 = b.length
    · rw [show b.length - (i - n) = n + 1 by omega]; simp [h1]
    · rw [show (i + 1 == b.length) = false by simpa using h1]
      simp
      omega
  rw [stopC, e]
theorem EndSt.sum (h : EndSt c b i n E) (hi : i < b.length) : sumC ((b.drop (i - n)).take (n + 1)) = sumS (sumC ((b.drop (i - n)).take n)) (b[i]?.getD 0) := by
  have hl := h.le
  have hlt : n < (b.drop (i - n)).length := by rw [List.length_drop]; omega
  rw [List.take_succ_eq_append_getElem hlt, sumC_snoc]
  congr 1
  rw [List.getElem_drop]
  simp only [show i - n + n = i by omega]
  rw [List.getElem?_eq_getElem hi]
  rfl
end
/-- Numbers as they stand in memory. -/
def endI (l : List Nat) : List Int := l.map Int.ofNat
theorem EndSt.small {c : Cfg} {b : List UInt8} {i n : Nat} {E : List Nat} (h : EndSt c b i n E) {x : Nat} (hx : x ∈ E) : x ≤ b.length := by
  have : x ∈ endsC c b := by rw [h.eq]; exact List.mem_append.2 (.inl hx)
  exact endsC_le c b x this
def endV (le mo bi : Int) (b : List UInt8) : List Int := if cutErr le mo bi = 0 then endI (endsC ⟨le.toNat, mo.toNat, bi.toNat⟩ b) else []
def REn (w : World) (c : Cfg) (b : List UInt8) (v s n i : Value) (wr : World) : Prop :=
  ∃ (i' n' : Nat) (E : List Nat) (s' : Nat), EndSt c b i' n' E ∧ s' = sumC ((b.drop (i' - n')).take n') ∧ s = .int .u64 (s' : Int) ∧ n = .int .i64 (n' : Int) ∧ i = .int .i64 (i' : Int) ∧ wr.ownsRow (w.heap.size + 1) 3 1 v E.length (nums .i64 (endI E)) ∧ E.length + n' ≤ i' ∧
    Below w.heap.size w wr ∧ wr.heap[w.heap.size]? = some (.cells #[.int .i64 (c.least : Int), .int .i64 (c.most : Int), .int .i64 (c.bits : Int)] 34 (0, 0))
theorem int_info : (Try.prog.info? 3).map (fun i => (i.zero, i.size, i.bytes)) = some (some (.int .i64 0), 1, 8) := by kernel_rfl

set_option maxHeartbeats 4000000 in
theorem rends_ok (c : Cfg) (hc : c.Ok) (b : List UInt8) (hb : b.length ≤ 1000000) (w : World) :
    Calls Try.prog 11 #[.string (st b), .agg #[.int .i64 (c.least : Int), .int .i64 (c.most : Int), .int .i64 (c.bits : Int)]] w fun e w' => ∃ A1 n1 c1, e = .returned (.tuple #[.slice A1 n1 c1, .int .i64 0]) ∧ Ints .i64 w' (w.heap.size ≤ ·) A1 n1 c1 (endI (endsC c b)) ∧ Below w.heap.size w w' := by
  obtain ⟨i0, hi, hz0, hz1, hz2⟩ := info_parts int_info
  have HI := Lib.hid (And.intro hi (And.intro hz0 (And.intro hz1 hz2)))
  have HB := Lib.hid (And.intro hc hb)
  have h0 : cutErr (c.least : Int) (c.most : Int) (c.bits : Int) = 0 := by
    unfold cutErr
    rw [if_neg (by have h1 := hc.least; have h2 := hc.most; have h3 := hc.top; have h4 := hc.bits; have h5 := hc.few; omega)]
  have hrc := rcutcheck_any (c.least : Int) (c.most : Int) (c.bits : Int) (w.alloc (.cells #[.int .i64 (c.least : Int), .int .i64 (c.most : Int), .int .i64 (c.bits : Int)] 34))
  rw [h0] at hrc
  have H0 := Lib.hid (And.intro ((Below.refl w.heap.size w).alloc (Nat.le_refl _) (.cells #[.int .i64 (c.least : Int), .int .i64 (c.most : Int), .int .i64 (c.bits : Int)] 34)) (heap_alloc_new w (.cells #[.int .i64 (c.least : Int), .int .i64 (c.most : Int), .int .i64 (c.bits : Int)] 34)))
  have hbs := st_size b
  clear hi hz0 hz1 hz2 hb hc h0
  go_enter Try.func11, Try.ntmps11
  go_wp2_with (go_at_call 15; refine hrc.mono ?_; clear hrc; rintro _ w1 ⟨rfl, hb1⟩)
  have hx1 := (hb1.block _ (lt_of_cells H0.out.2)).trans H0.out.2
  have hb01 := H0.out.1.trans (hb1.mono H0.out.1.size)
  have H1 := Lib.hid (And.intro hb01 hx1)
  clear hb1 hx1 hb01
  go_loopw [7, 8, 9, 10] (fun v s n i wr => REn w c b v s n i wr) (fun _ _ _ i _ => b.length - (intOf i).toNat)
  case atStart => exact ⟨0, 0, [], 0, EndSt.start c b, by simp [sumC], rfl, rfl, rfl, World.ownsRow_nil _ _ _ _, Nat.le_refl _, H1.out.1, H1.out.2⟩
  case round =>
    obtain ⟨i', n', E, s', hE, hs', rfl, rfl, rfl, hown, hEl, hbr, hcr⟩ := hrel
    have HR := Lib.hid (And.intro hE (And.intro (fun (_ : Unit) => hs') (And.intro hown (And.intro hEl (And.intro hbr hcr)))))
    have hlen := HB.out.2
    by_cases hlt : i' < b.length
    · have hlt' : (i' : Int) < (b.length : Int) := by omega
      have hix := sti_at 9 Try.underlying9 b wr i' hlt
      clear hE hs' hown hEl hbr hcr
      go_upto_region 11 with fail
      generalize hXX : IntKind.u64.wrap (IntKind.u64.wrap (2 * (s' : Int)) + IntKind.u64.wrap (11400714819323198485 * IntKind.u64.wrap (IntKind.u64.wrap (b[i'].toNat : Int) + 1))) = XX
      obtain ⟨S1, hS1⟩ : ∃ S1, S1 = sumS s' (b[i']?.getD 0) := ⟨_, rfl⟩
      have hXS : XX = (S1 : Int) := by
        rw [hS1, ← hXX]
        exact sum_word s' b i' hlt
      subst hXS
      generalize IntKind.u64.wrap (2 * (s' : Int)) = Y1
      generalize IntKind.u64.wrap (11400714819323198485 * IntKind.u64.wrap (IntKind.u64.wrap (b[i'].toNat : Int) + 1)) = Y2
      generalize IntKind.u64.wrap (IntKind.u64.wrap (b[i'].toNat : Int) + 1) = Y3
      generalize IntKind.u64.wrap (b[i'].toNat : Int) = Y4
      generalize (b[i'].toNat : Int) = Y5
      have HS1 : Hid (∀ _ : Unit, S1 = sumC ((b.drop (i' - n')).take (n' + 1))) := Lib.hid fun _ => by rw [hS1, HR.out.1.sum hlt, ← HR.out.2.1 ()]
      have hra := rare_any S1 c.bits (by rw [hS1]; exact sumS_lt _ _) (by have := HB.out.1.few; omega) wr
      have hn1 := IntWalk.i64_in ((n' : Int) + 1) (by have := HR.out.1.le; have := HR.out.1.il; omega)
      have hi1 := IntWalk.i64_in ((i' : Int) + 1) (by omega)
      have hc0 : wr.cell? ⟨w.heap.size, 0, none⟩ = some (.int .i64 (c.least : Int)) := cell_of_cells HR.out.2.2.2.2.2 0
      have hc1 : wr.cell? ⟨w.heap.size, 1, none⟩ = some (.int .i64 (c.most : Int)) := cell_of_cells HR.out.2.2.2.2.2 1
      have hc2 : wr.cell? ⟨w.heap.size, 2, none⟩ = some (.int .i64 (c.bits : Int)) := cell_of_cells HR.out.2.2.2.2.2 2
      have HA := Lib.hid (HR.out.1.ask)
      have HLT := Lib.hid hlt
      clear hXX hS1 hix hlen hlt hlt'
      obtain ⟨R, hR⟩ : ∃ R, R = rareC c.bits S1 := ⟨_, rfl⟩
      rw [← hR] at hra
      have HRR : Hid (∀ _ : Unit, R = rareC c.bits S1) := Lib.hid fun _ => hR
      clear hR
      by_cases h1 : n' + 1 = c.most
      · have h1' : ((n' : Int) + 1 == (c.most : Int)) = true := by simp; omega
        have HST : Hid (stopC c (b.drop (i' - n')) (n' + 1) = true) := Lib.hid (by rw [HA.out, h1]; simp)
        clear h1
        go_wp2_with (first
          | (go_at_call 16; refine hra.mono ?_; clear hra; rintro _ _ ⟨rfl, rfl⟩)
          | (at_builtin; refine wpList_append_own_at _ rfl _ _ 26 rfl (w.heap.size + 1) 3 i0 (.int .i64 0) 1 8 Try.underlying26 HI.out.1 HI.out.2.1 HI.out.2.2.1 HI.out.2.2.2 rfl (by decide) _ E.length (nums .i64 (endI E)) rfl (HR.out.2.2.1.alloc _) ⟨wr.heap.size, 0, none⟩ 1 1 [.int .i64 ((i' : Int) + 1)] rfl rfl (cell_one_new _ _ _) (one_of rfl) (by have h1 := HR.out.2.2.2.1; have h2 := HLT.out; have h3 := HB.out.2; unfold maxLen; omega) (by have h1 := HR.out.2.2.2.1; have h2 := HLT.out; have h3 := HB.out.2; omega) (by have := lt_of_cells HR.out.2.2.2.2.2; simp; omega) ?_))
        intro v' w2 hown2 hgrow _ _
        have hlt2 := HR.out.2.2.1.lt
        have hgr1 : w.heap.size + 1 ≤ wr.heap.size := lt_of_cells HR.out.2.2.2.2.2
        have HB2 : Hid (Below w.heap.size w w2) := Lib.hid ((HR.out.2.2.2.2.1.alloc (by omega) _).grown hgrow (by simp; omega) (fun b hb => by have := (hlt2 b hb).1; omega))
        have HC2 : Hid (w2.heap[w.heap.size]? = some (.cells #[.int .i64 (c.least : Int), .int .i64 (c.most : Int), .int .i64 (c.bits : Int)] 34 (0, 0))) := Lib.hid ((hgrow.block _ (by simp; omega) (fun e => by have := (hlt2 _ e.symm).1; omega)).trans ((Below.heap_alloc _ _ _ (by omega)).trans HR.out.2.2.2.2.2))
        have HO2 : Hid (w2.ownsRow (w.heap.size + 1) 3 1 v' (E ++ [i' + 1]).length (nums .i64 (endI (E ++ [i' + 1])))) := Lib.hid (by
          rw [endI, List.map_append, nums_append, List.length_append]
          exact hown2)
        clear hown2 hgrow hlt2 hgr1
        go_wp2_with fail
        go_roundw
        case rel => unfold REn; exact ⟨i' + 1, 0, E ++ [i' + 1], 0, HR.out.1.stop HLT.out HST.out, by simp [sumC], rfl, rfl, by simp, HO2.out, by have := HR.out.2.2.2.1; simp; omega, HB2.out, HC2.out⟩
        case measure => simp only [intOf]; have := HLT.out; omega
      · have h1' : ((n' : Int) + 1 == (c.most : Int)) = false := by simp; omega
        by_cases h2 : i' + 1 = b.length
        · have h2' : ((i' : Int) + 1 == (b.length : Int)) = true := by simp; omega
          have HST : Hid (stopC c (b.drop (i' - n')) (n' + 1) = true) := Lib.hid (by rw [HA.out, h2]; simp)
          clear h1 h2
          go_wp2_with (first
            | (go_at_call 16; refine hra.mono ?_; clear hra; rintro _ _ ⟨rfl, rfl⟩)
            | (at_builtin; refine wpList_append_own_at _ rfl _ _ 26 rfl (w.heap.size + 1) 3 i0 (.int .i64 0) 1 8 Try.underlying26 HI.out.1 HI.out.2.1 HI.out.2.2.1 HI.out.2.2.2 rfl (by decide) _ E.length (nums .i64 (endI E)) rfl (HR.out.2.2.1.alloc _) ⟨wr.heap.size, 0, none⟩ 1 1 [.int .i64 ((i' : Int) + 1)] rfl rfl (cell_one_new _ _ _) (one_of rfl) (by have h1 := HR.out.2.2.2.1; have h2 := HLT.out; have h3 := HB.out.2; unfold maxLen; omega) (by have h1 := HR.out.2.2.2.1; have h2 := HLT.out; have h3 := HB.out.2; omega) (by have := lt_of_cells HR.out.2.2.2.2.2; simp; omega) ?_))
          intro v' w2 hown2 hgrow _ _
          have hlt2 := HR.out.2.2.1.lt
          have hgr1 : w.heap.size + 1 ≤ wr.heap.size := lt_of_cells HR.out.2.2.2.2.2
          have HB2 : Hid (Below w.heap.size w w2) := Lib.hid ((HR.out.2.2.2.2.1.alloc (by omega) _).grown hgrow (by simp; omega) (fun b hb => by have := (hlt2 b hb).1; omega))
          have HC2 : Hid (w2.heap[w.heap.size]? = some (.cells #[.int .i64 (c.least : Int), .int .i64 (c.most : Int), .int .i64 (c.bits : Int)] 34 (0, 0))) := Lib.hid ((hgrow.block _ (by simp; omega) (fun e => by have := (hlt2 _ e.symm).1; omega)).trans ((Below.heap_alloc _ _ _ (by omega)).trans HR.out.2.2.2.2.2))
          have HO2 : Hid (w2.ownsRow (w.heap.size + 1) 3 1 v' (E ++ [i' + 1]).length (nums .i64 (endI (E ++ [i' + 1])))) := Lib.hid (by
            rw [endI, List.map_append, nums_append, List.length_append]
            exact hown2)
          clear hown2 hgrow hlt2 hgr1
          go_wp2_with fail
          go_roundw
          case rel => unfold REn; exact ⟨i' + 1, 0, E ++ [i' + 1], 0, HR.out.1.stop HLT.out HST.out, by simp [sumC], rfl, rfl, by simp, HO2.out, by have := HR.out.2.2.2.1; simp; omega, HB2.out, HC2.out⟩
          case measure => simp only [intOf]; have := HLT.out; omega
        · have h2' : ((i' : Int) + 1 == (b.length : Int)) = false := by simp; omega
          by_cases h3 : c.least ≤ n' + 1
          · have h3' : (c.least : Int) ≤ (n' : Int) + 1 := by omega
            have HST : Hid (stopC c (b.drop (i' - n')) (n' + 1) = R) := Lib.hid (by rw [HA.out, HRR.out (), HS1.out (), show (n' + 1 == c.most) = false by simpa using h1, show (i' + 1 == b.length) = false by simpa using h2]; simp [h3])
            clear h1 h2 h3
            cases R
            · go_wp2_with (go_at_call 16; refine hra.mono ?_; clear hra; rintro _ _ ⟨rfl, rfl⟩)
              go_roundw
              case rel => unfold REn; exact ⟨i' + 1, n' + 1, E, S1, HR.out.1.go HLT.out HST.out, by rw [HS1.out (), show i' + 1 - (n' + 1) = i' - n' by omega], rfl, by simp, by simp, HR.out.2.2.1, by have := HR.out.2.2.2.1; omega, HR.out.2.2.2.2.1, HR.out.2.2.2.2.2⟩
              case measure => simp only [intOf]; have := HLT.out; omega
            · go_wp2_with (first
                | (go_at_call 16; refine hra.mono ?_; clear hra; rintro _ _ ⟨rfl, rfl⟩)
                | (at_builtin; refine wpList_append_own_at _ rfl _ _ 26 rfl (w.heap.size + 1) 3 i0 (.int .i64 0) 1 8 Try.underlying26 HI.out.1 HI.out.2.1 HI.out.2.2.1 HI.out.2.2.2 rfl (by decide) _ E.length (nums .i64 (endI E)) rfl (HR.out.2.2.1.alloc _) ⟨wr.heap.size, 0, none⟩ 1 1 [.int .i64 ((i' : Int) + 1)] rfl rfl (cell_one_new _ _ _) (one_of rfl) (by have h1 := HR.out.2.2.2.1; have h2 := HLT.out; have h3 := HB.out.2; unfold maxLen; omega) (by have h1 := HR.out.2.2.2.1; have h2 := HLT.out; have h3 := HB.out.2; omega) (by have := lt_of_cells HR.out.2.2.2.2.2; simp; omega) ?_))
              intro v' w2 hown2 hgrow _ _
              have hlt2 := HR.out.2.2.1.lt
              have hgr1 : w.heap.size + 1 ≤ wr.heap.size := lt_of_cells HR.out.2.2.2.2.2
              have HB2 : Hid (Below w.heap.size w w2) := Lib.hid ((HR.out.2.2.2.2.1.alloc (by omega) _).grown hgrow (by simp; omega) (fun b hb => by have := (hlt2 b hb).1; omega))
              have HC2 : Hid (w2.heap[w.heap.size]? = some (.cells #[.int .i64 (c.least : Int), .int .i64 (c.most : Int), .int .i64 (c.bits : Int)] 34 (0, 0))) := Lib.hid ((hgrow.block _ (by simp; omega) (fun e => by have := (hlt2 _ e.symm).1; omega)).trans ((Below.heap_alloc _ _ _ (by omega)).trans HR.out.2.2.2.2.2))
              have HO2 : Hid (w2.ownsRow (w.heap.size + 1) 3 1 v' (E ++ [i' + 1]).length (nums .i64 (endI (E ++ [i' + 1])))) := Lib.hid (by
                rw [endI, List.map_append, nums_append, List.length_append]
                exact hown2)
              clear hown2 hgrow hlt2 hgr1
              go_wp2_with fail
              go_roundw
              case rel => unfold REn; exact ⟨i' + 1, 0, E ++ [i' + 1], 0, HR.out.1.stop HLT.out HST.out, by simp [sumC], rfl, rfl, by simp, HO2.out, by have := HR.out.2.2.2.1; simp; omega, HB2.out, HC2.out⟩
              case measure => simp only [intOf]; have := HLT.out; omega
          · have h3' : ¬ (c.least : Int) ≤ (n' : Int) + 1 := by omega
            have HST : Hid (stopC c (b.drop (i' - n')) (n' + 1) = false) := Lib.hid (by rw [HA.out, show (n' + 1 == c.most) = false by simpa using h1, show (i' + 1 == b.length) = false by simpa using h2]; simp [h3])
            clear h1 h2 h3
            go_wp2_with (go_at_call 16; refine hra.mono ?_; clear hra; rintro _ _ ⟨rfl, rfl⟩)
            go_roundw
            case rel => unfold REn; exact ⟨i' + 1, n' + 1, E, S1, HR.out.1.go HLT.out HST.out, by rw [HS1.out (), show i' + 1 - (n' + 1) = i' - n' by omega], rfl, by simp, by simp, HR.out.2.2.1, by have := HR.out.2.2.2.1; omega, HR.out.2.2.2.2.1, HR.out.2.2.2.2.2⟩
            case measure => simp only [intOf]; have := HLT.out; omega
    · have hlt' : ¬ (i' : Int) < (b.length : Int) := by omega
      obtain rfl : i' = b.length := by have := hE.il; omega
      obtain ⟨A1, c1, rfl, hints⟩ := own_nums hown (fun x hx => by
        unfold endI at hx
        obtain ⟨y, hy, rfl⟩ := List.mem_map.1 hx
        exact endI_wf (EndSt.small hE hy) HB.out.2)
      have HF := Lib.hid (And.intro hints (And.intro hbr hE.done))
      clear hE hs' hown hEl hbr hcr hints
      go_wp2_with fail
      go_ret2
      refine ⟨_, _, _, rfl, ?_, HF.out.2.1⟩
      rw [← HF.out.2.2.2]
      exact HF.out.1.mono fun b _ hb => by omega
set_option maxHeartbeats 1000000 in
/-- Of any config. -/
theorem rends_any (le mo bi : Int) (b : List UInt8) (hb : b.length ≤ 1000000) (w : World) :
    Calls Try.prog 11 #[.string (st b), .agg #[.int .i64 le, .int .i64 mo, .int .i64 bi]] w fun e w' => ∃ A1 n1 c1, e = .returned (.tuple #[.slice A1 n1 c1, .int .i64 (cutErr le mo bi)]) ∧ Ints .i64 w' (w.heap.size ≤ ·) A1 n1 c1 (endV le mo bi b) ∧ Below w.heap.size w w' := by
  rcases cutErr_two le mo bi with h | h
  · obtain ⟨c, hc, rfl, rfl, rfl⟩ := cutErr_ok h
    refine (rends_ok c hc b hb w).mono ?_
    rintro _ w' ⟨A1, n1, c1, rfl, h1, h2⟩
    refine ⟨A1, n1, c1, by rw [h], ?_, h2⟩
    rw [endV, if_pos h]
    exact h1
  · have hrc := rcutcheck_any le mo bi (w.alloc (.cells #[.int .i64 le, .int .i64 mo, .int .i64 bi] 34))
    have HE : Hid (endV le mo bi b = [] ∧ cutErr le mo bi = 1) := Lib.hid ⟨by rw [endV, if_neg (by rw [h]; decide)], h⟩
    rw [h] at hrc
    have H0 := Lib.hid ((Below.refl w.heap.size w).alloc (Nat.le_refl _) (.cells #[.int .i64 le, .int .i64 mo, .int .i64 bi] 34))
    clear h hb
    go_enter Try.func11, Try.ntmps11
    go_wp2_with (go_at_call 15; refine hrc.mono ?_; clear hrc; rintro _ w1 ⟨rfl, hb1⟩)
    go_ret2
    exact ⟨_, _, _, by rw [HE.out.2]; rfl, by rw [HE.out.1]; exact Ints.nil _ _ _ _ _ (Nat.zero_le _), H0.out.trans (hb1.mono H0.out.size)⟩
end Go.Proofs.Ytcmdiclbbcdceaa
