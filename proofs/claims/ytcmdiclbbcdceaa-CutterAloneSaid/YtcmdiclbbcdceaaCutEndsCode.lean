/-
  The code: Ends.
-/
import Derived.Test.YtcmdiclbbcdceaaCutCode
namespace Go.Proofs.Ytcmdiclbbcdceaa
open Go.RowKit

/-- A piece more. -/
theorem EndSt.piece {c : Cfg} {b : List UInt8} {f : Nat} {E : List Nat} (h : EndSt c b f 0 E) (hf : f < b.length) : EndSt c b (f + pieceC c (b.drop f)) 0 (E ++ [f + pieceC c (b.drop f)]) := by
  have hp := pieceC_spec (c := c) (b := b.drop f) (by rw [List.length_drop]; omega)
  have hl : pieceC c (b.drop f) ≤ b.length - f := by have := hp.2.1; rwa [List.length_drop] at this
  refine ⟨Nat.zero_le _, by omega, ?_, fun m h1 h2 => by omega⟩
  have he := h.eq
  rw [Nat.sub_zero] at he
  rw [he, endsC_cons c (by rw [List.length_drop]; omega), List.drop_drop, List.map_cons, List.map_map, Nat.sub_zero, List.append_assoc, List.singleton_append, Nat.add_comm f (pieceC c (b.drop f))]
  congr 2
  apply List.map_congr_left
  intro x _
  simp only [Function.comp]
  omega
def RCe (w : World) (c : Cfg) (b : List UInt8) (v f : Value) (wr : World) : Prop :=
  ∃ (f' : Nat) (EL : List Nat), EndSt c b f' 0 EL ∧ f = .int .i64 (f' : Int) ∧ wr.ownsRow (w.heap.size + 1) 3 1 v EL.length (nums .i64 (endI EL)) ∧ EL.length ≤ f' ∧
    Below w.heap.size w wr ∧ wr.heap[w.heap.size]? = some (.cells #[.int .i64 (c.least : Int), .int .i64 (c.most : Int), .int .i64 (c.bits : Int)] 24 (0, 0))

set_option maxHeartbeats 4000000 in
theorem cutends_ok {w : World} {S : Nat → Prop} {A : Option Addr} {n k : Nat} {b : List UInt8} (h : Byt w S A n k b) (hn : n ≤ 1000000) (c : Cfg) (hc : c.Ok) :
    Calls Try.prog 9 #[.slice A n k, .agg #[.int .i64 (c.least : Int), .int .i64 (c.most : Int), .int .i64 (c.bits : Int)]] w fun e w' => ∃ A1 n1 c1, e = .returned (.tuple #[.slice A1 n1 c1, .int .i64 0]) ∧ Ints .i64 w' (w.heap.size ≤ ·) A1 n1 c1 (endI (endsC c b)) ∧ Below w.heap.size w w' := by
  obtain ⟨i0, hi, hz0, hz1, hz2⟩ := info_parts int_info
  have HI := Lib.hid (And.intro hi (And.intro hz0 (And.intro hz1 hz2)))
  have h0 : cutErr (c.least : Int) (c.most : Int) (c.bits : Int) = 0 := by
    unfold cutErr
    rw [if_neg (by have h1 := hc.least; have h2 := hc.most; have h3 := hc.top; have h4 := hc.bits; have h5 := hc.few; omega)]
  have hrc := cutcheck_any (c.least : Int) (c.most : Int) (c.bits : Int) (w.alloc (.cells #[.int .i64 (c.least : Int), .int .i64 (c.most : Int), .int .i64 (c.bits : Int)] 24))
  rw [h0] at hrc
  have H0 := Lib.hid (And.intro ((Below.refl w.heap.size w).alloc (Nat.le_refl _) (.cells #[.int .i64 (c.least : Int), .int .i64 (c.most : Int), .int .i64 (c.bits : Int)] 24)) (heap_alloc_new w (.cells #[.int .i64 (c.least : Int), .int .i64 (c.most : Int), .int .i64 (c.bits : Int)] 24)))
  have HY := Lib.hid h
  have HB := Lib.hid (And.intro hc (And.intro hn (fun (_ : Unit) => h.len)))
  clear hi hz0 hz1 hz2 h hc h0 hn
  go_enter Try.func9, Try.ntmps9
  go_wp2_with (go_at_call 12; refine hrc.mono ?_; clear hrc; rintro _ w1 ⟨rfl, hb1⟩)
  have hx1 := (hb1.block _ (lt_of_cells H0.out.2)).trans H0.out.2
  have hb01 := H0.out.1.trans (hb1.mono H0.out.1.size)
  have H1 := Lib.hid (And.intro hb01 hx1)
  clear hb1 hx1 hb01
  go_loopw [7, 8] (fun v f wr => RCe w c b v f wr) (fun _ f _ => b.length - (intOf f).toNat)
  case atStart => exact ⟨0, [], EndSt.start c b, rfl, World.ownsRow_nil _ _ _ _, Nat.le_refl _, H1.out.1, H1.out.2⟩
  case round =>
    obtain ⟨f, EL, hE, rfl, hown, hEl, hbr, hcr⟩ := hrel
    have hlen := HB.out.2.2 ()
    by_cases hlt : f < n
    · have hlt' : (f : Int) < (n : Int) := by omega
      have hPs := pieceC_spec (c := c) (b := b.drop f) (by rw [List.length_drop]; omega)
      have hP2 : pieceC c (b.drop f) ≤ n - f := by have := hPs.2.1; rw [List.length_drop] at this; omega
      have hpie := hE.piece (by omega)
      obtain ⟨P, hP⟩ : ∃ P, P = pieceC c (b.drop f) := ⟨_, rfl⟩
      obtain ⟨FP, hFP⟩ : ∃ FP, FP = f + P := ⟨_, rfl⟩
      rw [← hP] at hPs hP2 hpie
      rw [← hFP] at hpie
      have hadd : IntKind.i64.wrap ((f : Int) + (P : Int)) = (FP : Int) := by rw [IntWalk.i64_in _ (by have := HB.out.2.1; omega)]; omega
      have HPP : Hid (∀ _ : Unit, P = pieceC c (b.drop f)) := Lib.hid fun _ => hP
      have HR := Lib.hid (And.intro hpie (And.intro hown (And.intro hEl (And.intro hbr (And.intro hcr (And.intro (show f < FP by have := hPs.1; omega) (show FP ≤ n by omega)))))))
      have HSL := Lib.hid (fun W => run_cut (P := Try.prog) 22 5 Try.underlying22 u8_size A n k f (by omega) W)
      have HC : Hid (∀ W, Below wr.drew.heap.size wr.drew W → W.heap[w.heap.size]? = some (.cells #[.int .i64 (c.least : Int), .int .i64 (c.most : Int), .int .i64 (c.bits : Int)] 24 (0, 0)) ∧ Byt W S (cutA A k f) (n - f) (k - f) (b.drop f)) := Lib.hid fun W hW => by
        have hW2 : Below wr.heap.size wr W := Grow.below_of_drew hW
        exact ⟨(hW2.block _ (lt_of_cells hcr)).trans hcr, (HY.out.below (hbr.trans (hW2.mono hbr.size))).cut (by omega)⟩
      clear hlen hlt hPs hP2 hpie hP hFP hE hown hEl hbr hcr
      go_wp2_with fail
      refine wp_region_grow (fun W W' => Below W.heap.size W W') (Grow.nth [fun v _ => v = .int .i64 (f : Int), fun v _ => v = .slice A n k, fun v _ => v = .int .i64 (f : Int), fun v _ => v = .slice (cutA A k f) (n - f) (k - f), fun v _ => v = .agg #[.int .i64 (c.least : Int), .int .i64 (c.most : Int), .int .i64 (c.bits : Int)], fun v _ => v = .int .i64 (P : Int), fun v _ => v = .int .i64 (FP : Int), fun v _ => v = .int .i64 (FP : Int)]) 30 (by kernel_rfl) (by kernel_rfl) (by rfl) (fun W => Below.refl _ W) (fun _ _ _ h1 h2 => h1.trans (h2.mono h1.size)) (Grow.mono_nth ?gmono) ?gsteps ?gfin
      case gmono => exact ⟨fun _ _ _ h _ => h, fun _ _ _ h _ => h, fun _ _ _ h _ => h, fun _ _ _ h _ => h, fun _ _ _ h _ => h, fun _ _ _ h _ => h, fun _ _ _ h _ => h, fun _ _ _ h _ => h, trivial⟩
      case gsteps =>
        show Grow.allBelow _ 8
        refine And.intro ?_ ?s7
        refine And.intro ?_ ?s6
        refine And.intro ?_ ?s5
        refine And.intro ?_ ?s4
        refine And.intro ?_ ?s3
        refine And.intro ?_ ?s2
        refine And.intro ?_ ?s1
        refine And.intro ?_ ?s0
        exact trivial
        case s0 =>
          refine Grow.step_in (by rfl) (by rfl) ?_
          intro E W ec eg ef hG hd hu R HR1
          have e8 : E (.tmp 8) = .int .i64 (f : Int) := hu 8 (by kernel_rfl)
          clear hd hu
          go_simp
          exact HR1.out _ _ (Below.refl _ _) rfl
        case s1 =>
          refine Grow.step_in (by rfl) (by rfl) ?_
          intro E W ec eg ef hG hd hu R HR1
          have e0 : E (.tmp 0) = .slice A n k := hu 0 (by kernel_rfl)
          clear hd hu
          go_simp
          exact HR1.out _ _ (Below.refl _ _) rfl
        case s2 =>
          refine Grow.step_in (by rfl) (by rfl) ?_
          intro E W ec eg ef hG hd hu R HR1
          have e8 : E (.tmp 8) = .int .i64 (f : Int) := hu 8 (by kernel_rfl)
          clear hd hu
          go_simp
          exact HR1.out _ _ (Below.refl _ _) rfl
        case s3 =>
          refine Grow.step_in (by rfl) (by rfl) ?_
          intro E W ec eg ef hG hd hu R HR1
          have e19 : E (.tmp 19) = .slice A n k := hd 1 19 (by kernel_rfl)
          have e20 : E (.tmp 20) = .int .i64 (f : Int) := hd 2 20 (by kernel_rfl)
          clear hd hu
          have hsl := HSL.out W
          go_simp
          exact HR1.out _ _ (Below.refl _ _) rfl
        case s4 =>
          refine Grow.step_in (by rfl) (by rfl) ?_
          intro E W ec eg ef hG hd hu R HR1
          have e3 : E (.tmp 3) = .pointer (some ⟨w.heap.size, 0, none⟩) := hu 3 (by kernel_rfl)
          clear hd hu
          obtain ⟨k1, k2⟩ := HC.out W hG
          have q0 := cell_of_cells k1 0
          have q1 := cell_of_cells k1 1
          have q2 := cell_of_cells k1 2
          go_simp
          exact HR1.out _ _ (Below.refl _ _) rfl
        case s5 =>
          refine Grow.step_in (by rfl) (by rfl) ?_
          intro E W ec eg ef hG hd hu R HR1
          have e21 : E (.tmp 21) = .slice (cutA A k f) (n - f) (k - f) := hd 3 21 (by kernel_rfl)
          have e22 : E (.tmp 22) = .agg #[.int .i64 (c.least : Int), .int .i64 (c.most : Int), .int .i64 (c.bits : Int)] := hd 4 22 (by kernel_rfl)
          clear hd hu
          go_simp
          refine (first_any (HC.out W hG).2 (by have := HB.out.2.1; omega) c HB.out.1).mono ?_
          rintro _ w' ⟨rfl, hb4⟩
          exact ⟨_, rfl, HR1.out _ _ hb4 (congrArg (fun x : Nat => Value.int .i64 (x : Int)) (HPP.out ()).symm)⟩
        case s6 =>
          refine Grow.step_in (by rfl) (by rfl) ?_
          intro E W ec eg ef hG hd hu R HR1
          have e18 : E (.tmp 18) = .int .i64 (f : Int) := hd 0 18 (by kernel_rfl)
          have e23 : E (.tmp 23) = .int .i64 (P : Int) := hd 5 23 (by kernel_rfl)
          clear hd hu
          go_simp
          exact HR1.out _ _ (Below.refl _ _) rfl
        case s7 =>
          refine Grow.step_in (by rfl) (by rfl) ?_
          intro E W ec eg ef hG hd hu R HR1
          have e24 : E (.tmp 24) = .int .i64 (FP : Int) := hd 6 24 (by kernel_rfl)
          clear hd hu
          go_simp
          exact HR1.out _ _ (Below.refl _ _) rfl
      case gfin =>
        intro W hG
        refine Grow.fin_dst (by rfl) ?_
        rintro _ rfl
        refine Grow.fin_dst (by rfl) ?_
        rintro _ rfl
        refine Grow.fin_dst (by rfl) ?_
        rintro _ rfl
        refine Grow.fin_dst (by rfl) ?_
        rintro _ rfl
        refine Grow.fin_dst (by rfl) ?_
        rintro _ rfl
        refine Grow.fin_dst (by rfl) ?_
        rintro _ rfl
        refine Grow.fin_dst (by rfl) ?_
        rintro _ rfl
        refine Grow.fin_dst (by rfl) ?_
        rintro _ rfl
        simp only [Act.put, List.setIfInBounds_toArray, List.set_cons_zero, List.set_cons_succ]
        refine Grow.fin_end ?_
        have HB2 : Hid (Below wr.heap.size wr W) := Lib.hid (Grow.below_of_drew hG)
        have hw1 := HR.out.2.2.2.1.size
        have HGT : Hid (w.heap.size + 1 ≤ W.heap.size) := Lib.hid (by have := lt_of_cells HR.out.2.2.2.2.1; have := HB2.out.size; omega)
        have HO := Lib.hid (own_below HR.out.2.1 HB2.out)
        have HBW : Hid (Below w.heap.size w W ∧ W.heap[w.heap.size]? = some (.cells #[.int .i64 (c.least : Int), .int .i64 (c.most : Int), .int .i64 (c.bits : Int)] 24 (0, 0))) := Lib.hid ⟨HR.out.2.2.2.1.trans (HB2.out.mono HR.out.2.2.2.1.size), (HC.out W hG).1⟩
        clear hG hw1
        go_wp2_with (at_builtin; refine wpList_append_own_at _ rfl _ _ 26 rfl (w.heap.size + 1) 3 i0 (.int .i64 0) 1 8 Try.underlying26 HI.out.1 HI.out.2.1 HI.out.2.2.1 HI.out.2.2.2 rfl (by decide) _ EL.length (nums .i64 (endI EL)) rfl (HO.out.alloc _) ⟨W.heap.size, 0, none⟩ 1 1 [.int .i64 (FP : Int)] rfl rfl (cell_one_new _ _ _) (one_of rfl) (by have h1 := HR.out.2.2.1; have h2 := HR.out.2.2.2.2.2; have h3 := HB.out.2.1; unfold maxLen; omega) (by have h1 := HR.out.2.2.1; have h2 := HR.out.2.2.2.2.2; have h3 := HB.out.2.1; omega) (by have := HGT.out; simp; omega) ?_)
        intro v' w2 hown2 hgrow _ _
        have hlt2 := HO.out.lt
        have HB3 : Hid (Below w.heap.size w w2) := Lib.hid ((HBW.out.1.alloc (by have := HGT.out; omega) _).grown hgrow (by have := HGT.out; simp; omega) (fun b hb => by have := (hlt2 b hb).1; omega))
        have HC3 : Hid (w2.heap[w.heap.size]? = some (.cells #[.int .i64 (c.least : Int), .int .i64 (c.most : Int), .int .i64 (c.bits : Int)] 24 (0, 0))) := Lib.hid ((hgrow.block _ (by have := HGT.out; simp; omega) (fun e => by have := (hlt2 _ e.symm).1; omega)).trans ((Below.heap_alloc _ _ _ (by have := HGT.out; omega)).trans HBW.out.2))
        have HO2 : Hid (w2.ownsRow (w.heap.size + 1) 3 1 v' (EL ++ [FP]).length (nums .i64 (endI (EL ++ [FP])))) := Lib.hid (by
          rw [endI, List.map_append, nums_append, List.length_append]
          exact hown2)
        clear hown2 hgrow hlt2
        go_wp2_with fail
        go_roundw
        case rel => unfold RCe; exact ⟨FP, EL ++ [FP], HR.out.1, rfl, HO2.out, by have h1 := HR.out.2.2.1; have h2 := HR.out.2.2.2.2.2; simp; omega, HB3.out, HC3.out⟩
        case measure => simp only [intOf]; have h1 := HR.out.2.2.2.2.2; have h2 := HB.out.2.2 (); omega
    · have hlt' : ¬ (f : Int) < (n : Int) := by omega
      obtain rfl : f = b.length := by have := hE.il; omega
      obtain ⟨A1, c1, rfl, hints⟩ := own_nums hown (fun x hx => by
        unfold endI at hx
        obtain ⟨y, hy, rfl⟩ := List.mem_map.1 hx
        exact endI_wf (EndSt.small hE hy) (by have := HB.out.2.1; omega))
      have HF := Lib.hid (And.intro hints (And.intro hbr hE.done))
      clear hE hown hEl hbr hcr hints hlen hlt
      go_wp2_with fail
      go_ret2
      refine ⟨_, _, _, rfl, ?_, HF.out.2.1⟩
      rw [← HF.out.2.2.2]
      exact HF.out.1.mono fun b _ hb => by omega
set_option maxHeartbeats 1000000 in
/-- Of any config. -/
theorem cutends_any {w : World} {S : Nat → Prop} {A : Option Addr} {n k : Nat} {b : List UInt8} (h : Byt w S A n k b) (hn : n ≤ 1000000) (le mo bi : Int) :
    Calls Try.prog 9 #[.slice A n k, .agg #[.int .i64 le, .int .i64 mo, .int .i64 bi]] w fun e w' => ∃ A1 n1 c1, e = .returned (.tuple #[.slice A1 n1 c1, .int .i64 (cutErr le mo bi)]) ∧ Ints .i64 w' (w.heap.size ≤ ·) A1 n1 c1 (endV le mo bi b) ∧ Below w.heap.size w w' := by
  rcases cutErr_two le mo bi with he | he
  · obtain ⟨c, hc, rfl, rfl, rfl⟩ := cutErr_ok he
    refine (cutends_ok h hn c hc).mono ?_
    rintro _ w' ⟨A1, n1, c1, rfl, h1, h2⟩
    refine ⟨A1, n1, c1, by rw [he], ?_, h2⟩
    rw [endV, if_pos he]
    exact h1
  · have hrc := cutcheck_any le mo bi (w.alloc (.cells #[.int .i64 le, .int .i64 mo, .int .i64 bi] 24))
    have HE : Hid (endV le mo bi b = [] ∧ cutErr le mo bi = 1) := Lib.hid ⟨by rw [endV, if_neg (by rw [he]; decide)], he⟩
    rw [he] at hrc
    have H0 := Lib.hid ((Below.refl w.heap.size w).alloc (Nat.le_refl _) (.cells #[.int .i64 le, .int .i64 mo, .int .i64 bi] 24))
    clear he h
    go_enter Try.func9, Try.ntmps9
    go_wp2_with (go_at_call 12; refine hrc.mono ?_; clear hrc; rintro _ w1 ⟨rfl, hb1⟩)
    go_ret2
    exact ⟨_, _, _, by rw [HE.out.2]; rfl, by rw [HE.out.1]; exact Ints.nil _ _ _ _ _ (Nat.zero_le _), H0.out.trans (hb1.mono H0.out.size)⟩
end Go.Proofs.Ytcmdiclbbcdceaa
