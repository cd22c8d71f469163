/-
  proof: the digests of leaves, and those above a row.
-/
import Derived.Test.YtebhlfmianohlaaDoorIdRow
import Derived.Test.YtebhlfmianohlaaDoorProofParts
namespace Go.Proofs.YtebhlfmianohlaaDoor
open Go.RowKit

/-- The first j of l, and noughts. -/
def fillL (l : List (List UInt8)) (n j : Nat) : List (List UInt8) := l.take j ++ List.replicate (n - j) (List.replicate 32 0)
theorem fillL_length {l : List (List UInt8)} {n j : Nat} (hl : l.length = n) (hj : j ≤ n) : (fillL l n j).length = n := by
  rw [fillL, List.length_append, List.length_take, List.length_replicate]
  omega
theorem fillL_set {l : List (List UInt8)} {n j : Nat} (hl : l.length = n) (hj : j < n) : (fillL l n j).set j (l[j]?.getD []) = fillL l n (j + 1) := by
  have h1 : (l.take j).length = j := by rw [List.length_take]; omega
  rw [fillL, fillL, List.set_append_right _ _ (by omega), h1, Nat.sub_self, show n - j = (n - (j + 1)) + 1 by omega, List.replicate_succ, List.set_cons_zero, List.take_succ_eq_append_getElem (by omega : j < l.length), List.getElem?_eq_getElem (by omega : j < l.length), Option.getD_some, List.append_assoc]
  rfl
theorem fillL_all {l : List (List UInt8)} {n : Nat} (hl : l.length = n) : fillL l n n = l := by
  rw [fillL, Nat.sub_self, List.take_of_length_le (by omega)]
  simp
def LwR (w : World) (g : Nat) (l : List (List UInt8)) (n : Nat) (i : Value) (wr : World) : Prop := ∃ j : Nat, j ≤ n ∧ i = .int .i64 (j : Int) ∧ IdBlk wr g (fillL l n j) ∧ Below w.heap.size w wr

set_option maxHeartbeats 4000000 in
set_option maxRecDepth 100000 in
theorem lowest_any {w : World} {S : Nat → Prop} {A : Option Addr} {n c : Nat} {b : List UInt8} (h : Byt w S A n c b) (hn : n ≤ 1000000) (ht : Tab w) :
    Calls Tryd.prog 40 #[.slice A n c] w fun e w' => ∃ g, e = .returned (.slice (some ⟨g, 0, none⟩) (splitL b).length (splitL b).length) ∧ w.heap.size ≤ g ∧ IdBlk w' g (digs b) ∧ Below w.heap.size w w' := by
  have hlv := leaves_any h
  have hct := leaves_at b
  rw [h.len] at hct
  obtain ⟨N, hN⟩ : ∃ N, N = (splitL b).length := ⟨_, rfl⟩
  rw [← hN] at hlv hct ⊢
  have hN6 : N ≤ 1000000 := by split at hct <;> omega
  obtain ⟨w1, hmk, hblk, hb1, hs1⟩ := make_ids w N hN6
  have hlo := fun (wr : World) (hb : Below w.heap.size w wr) (i : Nat) (hi : i < N) => leafOf_any ((h.mono (T := fun x => x < w.heap.size) (fun b hb _ => hb)).below hb) hn (i := i) (by omega)
  have HH := Lib.hid (And.intro h (And.intro hn (And.intro ht (And.intro hN hN6))))
  have HLO := Lib.hid hlo
  have HB := Lib.hid (And.intro hblk (And.intro hb1 hs1))
  clear h hn ht hct hblk hb1 hs1 hlo hN
  go_enter Tryd.func40, Tryd.ntmps40
  go_wp2_with (go_at_call 14; refine hlv.mono ?_; rintro _ _ ⟨rfl, rfl⟩)
  go_loopw [10] (fun i wr => LwR w w.heap.size (digs b) N i wr) (fun i _ => N - (intOf i).toNat)
  case atStart =>
    unfold LwR
    refine ⟨0, Nat.zero_le _, rfl, ?_, HB.out.2.1⟩
    have := HB.out.1
    rwa [fillL, List.take_zero, List.nil_append, Nat.sub_zero]
  case round =>
    obtain ⟨j, hj, rfl, hbl, hbr⟩ := hrel
    have HX := Lib.hid (And.intro hbl hbr)
    have hds : Hid ((digs b).length = N) := Lib.hid (by rw [digs_length, ← HH.out.2.2.2.1])
    by_cases hlt : j < N
    · have hlf := HLO.out wr hbr j hlt
      clear hbl hbr hlv hmk
      go_wp2_with (go_at_call 25; refine hlf.mono ?_; clear hlf; rintro _ _ ⟨⟨A2, n2, c2, rfl, hy2⟩, rfl⟩)
      have hn2 : n2 ≤ 64 := by
        rw [← hy2.len, List.getElem?_eq_getElem (by have := HH.out.2.2.2.1; omega)]
        exact splitL_le b _ (List.getElem_mem _)
      have hol := ofLeaf_any hy2 (by omega)
      have HN2 := Lib.hid hn2
      clear hn2 hy2
      refine hol.mono ?_
      rintro _ w3 ⟨g3, c3, rfl, hy3, hb3⟩
      have hw3 : Below w.heap.size w w3 := HX.out.2.trans (hb3.mono HX.out.2.size)
      have hb4 : Below w3.heap.size w3 (w3.alloc (.cells #[.slice (some ⟨g3, 0, none⟩) (1 + n2) c3] 22)) := (Below.refl _ _).alloc (Nat.le_refl _) _
      have hw4 := hw3.trans (hb4.mono hw3.size)
      have hof := of_any (rws_one hy3) (HH.out.2.2.1.below hw4) (by have h1 := hy3.len; have h2 := HN2.out; rw [List.flatten_cons, List.flatten_nil, List.append_nil, h1]; omega)
      simp only [List.flatten_cons, List.flatten_nil, List.append_nil] at hof
      rw [show shaL (0 :: (splitL b)[j]?.getD []) = leafD ((splitL b)[j]?.getD []) from rfl, ← digs_at (by have := HH.out.2.2.2.1; omega)] at hof
      have hd32 : ((digs b)[j]?.getD []).length = 32 := by
        rw [digs_at (by have := HH.out.2.2.2.1; omega)]
        exact leafD_length _
      obtain ⟨DS, hDS⟩ : ∃ DS, DS = (u8s ((digs b)[j]?.getD [])).toArray := ⟨_, rfl⟩
      rw [← hDS] at hof
      have H4 : Hid (IdBlk (w3.alloc (.cells #[.slice (some ⟨g3, 0, none⟩) (1 + n2) c3] 22)) w.heap.size (fillL (digs b) N j) ∧ Below w.heap.size w (w3.alloc (.cells #[.slice (some ⟨g3, 0, none⟩) (1 + n2) c3] 22))) := Lib.hid ⟨(HX.out.1.below hb3).below hb4, hw4⟩
      have HD := Lib.hid (And.intro hDS hd32)
      clear hw3 hb4 hw4 hDS hd32 hy3 hb3 hol HX
      go_wp2_with fail
      refine hof.mono ?_
      rintro _ w5 ⟨rfl, hb5⟩
      have H5 : Hid (IdBlk w5 w.heap.size (fillL (digs b) N j) ∧ Below w.heap.size w w5) := Lib.hid ⟨H4.out.1.below hb5, H4.out.2.trans (hb5.mono H4.out.2.size)⟩
      clear hb5 hof H4
      go_wp2_with (refine wpList_store_id (by rfl) (.tmp 21) (.tmp 20) (by rfl) H5.out.1 j (by rw [fillL_length hds.out (by omega)]; exact hlt) DS _ HD.out.1 HD.out.2 _ rfl (by rfl) (by rfl) ?_)
      intro w6 hb6 hg6
      have H6 : Hid (IdBlk w6 w.heap.size (fillL (digs b) N (j + 1)) ∧ Below w.heap.size w w6) := Lib.hid ⟨by rw [← fillL_set hds.out hlt]; exact hb6, H5.out.2.grown hg6 H5.out.2.size (fun k e => by injection e; omega)⟩
      clear hb6 hg6 H5
      go_wp2_with fail
      go_roundw
      case rel => unfold LwR; exact ⟨j + 1, by omega, by go_num, H6.out⟩
      case measure => simp [intOf]; omega
    · obtain rfl : j = N := by omega
      go_wp2
      go_ret
      refine ⟨_, rfl, Nat.le_refl _, ?_, HX.out.2⟩
      have := HX.out.1
      rwa [fillL_all hds.out] at this

/-! above -/
theorem wpList_load_id {ops : Array Oper} {rest : List Oper} {op : Oper} {a : Act} {W : World} {Q : Exit → Act → World → Prop} (hgd : op.guard = none) (x : Operand) (ho : op.op = .load 31 x)
    {S : Nat → Prop} {b off n c : Nat} {l : List (List UInt8)} (h : Ids W S (some ⟨b, off, none⟩) n c l) (i : Nat) (hi : i < n) (XS : Array Value) (hXS : XS = row8 (l[i]?.getD [])) (o : Nat) (hoo : o = off + i * 32) (hx : a.eval x = .pointer (some ⟨b, o, none⟩))
    (hK : wpList Tryd.prog ops Q rest (a.put op.dst (.agg XS)) W) : wpList Tryd.prog ops Q (op :: rest) a W :=
  wpList_plain hgd fun K hK' => by
    subst hXS hoo
    obtain ⟨b', off', hA, _, h32, hc⟩ := h.at_ hi
    injection hA with hA
    injection hA with e1 e2
    subst e1 e2
    unfold Oper.wp execOp
    simp only [ho, hx, Instr.loadAt, Instr.sureAddr, Sem.run_bind, Sem.run_pure, Result.andThen_ok, run_loadVar_at W ⟨b, off + i * 32, none⟩ 31 (row8 (l[i]?.getD [])) _ hc Tryd.underlying31 rfl (by rw [row8_size, h32]; exact id_info)]
    exact hK' _ _ hK
theorem aboveL_32 : ∀ {l : List (List UInt8)}, (∀ x ∈ l, x.length = 32) → ∀ x, x ∈ aboveL l → x.length = 32
  | a :: b :: r, h => fun x hx => by
    rw [aboveL] at hx
    rcases List.mem_cons.1 hx with h1 | h1
    · rw [h1]
      exact nodeD_length _ _
    · exact aboveL_32 (fun y hy => h y (by simp [hy])) x h1
  | [a], h => fun x hx => by
    rw [aboveL] at hx
    exact h x hx
  | [], _ => fun x hx => by
    rw [aboveL] at hx
    cases hx
theorem get32 {l : List (List UInt8)} (h : ∀ x ∈ l, x.length = 32) {i : Nat} (hi : i < l.length) : (l[i]?.getD []).length = 32 := by
  rw [List.getElem?_eq_getElem hi]
  exact h _ (List.getElem_mem hi)
theorem runs_load_id {R : Value → World → Prop} {E : Operand → Value} {op : Oper} {W : World} (x : Operand) (ho : op.op = .load 31 x)
    {S : Nat → Prop} {b off n c : Nat} {l : List (List UInt8)} (h : Ids W S (some ⟨b, off, none⟩) n c l) (i : Nat) (hi : i < n) (XS : Array Value) (hXS : XS = row8 (l[i]?.getD [])) (o : Nat) (hoo : o = off + i * 32) (hx : E x = .pointer (some ⟨b, o, none⟩)) (hK : R (.agg XS) W) : Grow.runsTo Tryd.prog R ((execOp E op).run Tryd.prog W) := by
  subst hXS hoo
  obtain ⟨b', off', hA, _, h32, hc⟩ := h.at_ hi
  injection hA with hA
  injection hA with e1 e2
  subst e1 e2
  exact runs_load_at 31 x ho ⟨b, off + i * 32, none⟩ hx (row8 (l[i]?.getD [])) hc Tryd.underlying31 (by rw [row8_size, h32]; exact id_info) hK
theorem runs_store_id {R : Value → World → Prop} {E : Operand → Value} {op : Oper} {W : World} (x y : Operand) (ho : op.op = .store 31 x y)
    {g : Nat} {l : List (List UInt8)} (h : IdBlk W g l) (i : Nat) (hi : i < l.length) (DS : Array Value) (d : List UInt8) (hDS : DS = row8 d) (hd : d.length = 32) (o : Nat) (hoo : o = i * 32)
    (hx : E x = .pointer (some ⟨g, o, none⟩)) (hy : E y = .agg DS) (hK : R undef (W.setRow g (row8 (l.set i d).flatten))) : Grow.runsTo Tryd.prog R ((execOp E op).run Tryd.prog W) := by
  obtain ⟨hr, _⟩ := run_store_id h i hi DS d hDS hd o hoo
  unfold execOp
  simp only [ho, hx, hy, Sem.run_bind, hr, Result.andThen_ok, Sem.run_pure]
  exact hK
/-- A slice of rows, of a row that lies in S. -/
theorem rws_made {w : World} {S T : Nat → Prop} {A : Option Addr} {n c : Nat} {l : List UInt8} (h : Byt w S A n c l) (hST : ∀ b, S b → T b) (hT : T w.heap.size) :
    Rws (w.alloc (.cells #[.slice A n c] 22)) T (some ⟨w.heap.size, 0, none⟩) 1 1 [l] := by
  refine ⟨rfl, Nat.le_refl _, by unfold maxLen; omega, fun _ => ⟨w.heap.size, 0, rfl, hT, by simp, fun i hi => ?_⟩⟩
  obtain rfl : i = 0 := by omega
  refine ⟨A, n, c, ?_, (h.mono fun b _ hb => hST b hb).below ((Below.refl _ _).alloc (Nat.le_refl _) _)⟩
  rw [cell_of_cells (heap_alloc_new w _)]
  rfl
set_option maxHeartbeats 4000000 in
set_option maxRecDepth 100000 in
theorem above_any {w : World} {S : Nat → Prop} {A : Option Addr} {n c : Nat} {l : List (List UInt8)} (h : Ids w S A n c l) (h0 : 0 < n) (hn : n ≤ 1000000) (ht : Tab w) :
    Calls Tryd.prog 41 #[.slice A n c] w fun e w' => ∃ g, e = .returned (.slice (some ⟨g, 0, none⟩) ((n + 1) / 2) ((n + 1) / 2)) ∧ w.heap.size ≤ g ∧ IdBlk w' g (aboveL l) ∧ Below w.heap.size w w' := by
  have hhf := half_any n (by omega) w
  obtain ⟨M, hM⟩ : ∃ M, M = (n + 1) / 2 := ⟨_, rfl⟩
  rw [← hM] at hhf ⊢
  have hM6 : M ≤ 1000000 := by omega
  obtain ⟨w1, hmk, hblk, hb1, hs1⟩ := make_ids w M hM6
  obtain ⟨b, off, rfl, _⟩ := h.row h0
  have HH := Lib.hid (And.intro (h.mono (T := fun x => x < w.heap.size) (fun b hb _ => hb)) (And.intro hn (And.intro ht (And.intro hM hM6))))
  have HB := Lib.hid (And.intro hblk (And.intro hb1 hs1))
  have hds : Hid ((aboveL l).length = M) := Lib.hid (by rw [aboveL_length, h.len, hM])
  have H32 := Lib.hid (aboveL_32 h.each)
  clear h hn ht hblk hb1 hs1 hM
  go_enter Tryd.func41, Tryd.ntmps41
  go_wp2_with (go_at_call 43; refine hhf.mono ?_; rintro _ _ ⟨rfl, rfl⟩)
  go_loopw [11] (fun i wr => LwR w w.heap.size (aboveL l) M i wr) (fun i _ => M - (intOf i).toNat)
  case atStart =>
    unfold LwR
    refine ⟨0, Nat.zero_le _, rfl, ?_, HB.out.2.1⟩
    have := HB.out.1
    rwa [fillL, List.take_zero, List.nil_append, Nat.sub_zero]
  case round =>
    obtain ⟨j, hj, rfl, hbl, hbr⟩ := hrel
    have HX := Lib.hid (And.intro hbl hbr)
    by_cases hlt : j < M
    · clear hbl hbr hhf hmk
      have hjn : 2 * j < n := by have := HH.out.2.2.2.1; omega
      have HI : Hid (Ids wr (fun x => x < w.heap.size) (some ⟨b, off, none⟩) n c l) := Lib.hid (HH.out.1.below HX.out.2)
      have hat := aboveL_at l (2 * j) (by rw [HI.out.len]; exact hjn)
      rw [show 2 * j / 2 = j by omega, if_neg (by omega), HI.out.len] at hat
      have HAT := Lib.hid hat
      clear hat
      obtain ⟨X, hX⟩ : ∃ X, X = l[2 * j]?.getD [] := ⟨_, rfl⟩
      obtain ⟨XS, hXS⟩ : ∃ XS, XS = row8 X := ⟨_, rfl⟩
      have HX1 : Hid (X = l[2 * j]?.getD []) := Lib.hid hX
      have HXS := Lib.hid (And.intro hXS (show X.length = 32 by rw [hX]; exact get32 HI.out.each (i := 2 * j) (by rw [HI.out.len]; exact hjn)))
      clear hXS hX
      go_wp2_with (first | refine wpList_load_id (by rfl) (.tmp 19) (by rfl) HI.out (2 * j) hjn XS (by rw [← HX1.out]; exact HXS.out.1) _ rfl (by rfl) ?_ | refine wpList_store_id (by rfl) (.tmp 21) (.tmp 20) (by rfl) HX.out.1 j (by rw [fillL_length hds.out (by omega)]; exact hlt) XS _ HXS.out.1 HXS.out.2 _ rfl (by rfl) (by rfl) ?_)
      intro w6 hb6 hg6
      have HL2 : Hid (((fillL (aboveL l) M j).set j X).length = M) := Lib.hid (by rw [List.length_set]; exact fillL_length hds.out (by omega))
      obtain ⟨L2, hL2⟩ : ∃ L2, L2 = (fillL (aboveL l) M j).set j X := ⟨_, rfl⟩
      rw [← hL2] at hb6 HL2
      have HE2 := Lib.hid hL2
      have HW6 : Hid (Below w.heap.size w w6 ∧ IdBlk w6 w.heap.size L2) := Lib.hid ⟨HX.out.2.grown hg6 HX.out.2.size (fun k e => by injection e; omega), hb6⟩
      clear hb6 hg6 hL2 HI
      by_cases hj2 : 2 * j + 1 < n
      · have hj2' : (2 * (j : Int) + 1) < (n : Int) := by omega
        have HTL : Hid (0 < w.heap.size ∧ 1 < w.heap.size) := Lib.hid ⟨HH.out.2.2.1.lt1, HH.out.2.2.1.lt2⟩
        have HD0 : Hid (IdBlk w6.drew w.heap.size L2 ∧ Tab w6.drew) := Lib.hid ⟨HW6.out.2, (HH.out.2.2.1.below HW6.out.1).drew⟩
        have HI2 : Hid (Ids w6.drew (fun x => x < w.heap.size) (some ⟨b, off, none⟩) n c l) := Lib.hid (HH.out.1.below HW6.out.1).drew
        obtain ⟨Y, hY⟩ : ∃ Y, Y = l[2 * j + 1]?.getD [] := ⟨_, rfl⟩
        obtain ⟨YS, hYS⟩ : ∃ YS, YS = row8 Y := ⟨_, rfl⟩
        have HY1 : Hid (Y = l[2 * j + 1]?.getD []) := Lib.hid hY
        have HYS := Lib.hid (And.intro hYS (show Y.length = 32 by rw [hY]; exact get32 HI2.out.each (by rw [HI2.out.len]; exact hj2)))
        obtain ⟨Z, hZ⟩ : ∃ Z, Z = nodeD X Y := ⟨_, rfl⟩
        obtain ⟨ZS, hZS⟩ : ∃ ZS, ZS = row8 Z := ⟨_, rfl⟩
        have HZ := Lib.hid (And.intro hZS (And.intro hZ (show Z.length = 32 by rw [hZ]; exact nodeD_length _ _)))
        clear hY hYS hZ hZS
        go_wp2_with fail
        refine wp_region_grow (Sto w.heap.size (.cells (row8 (L2.set j Z).flatten) 31 (0, 0))) (Grow.nth [fun v _ => v = .slice (some ⟨w.heap.size, 0, none⟩) M M, fun v _ => v = .int .i64 (j : Int), fun v _ => v = .slice (some ⟨b, off, none⟩) n c, fun v _ => v = .int .i64 (j : Int), fun v _ => v = .int .i64 (2 * (j : Int)), fun v _ => v = .pointer (some ⟨b, off + 2 * j * 32, none⟩), fun v _ => v = .agg XS, fun v _ => v = .slice (some ⟨b, off, none⟩) n c, fun v _ => v = .int .i64 (j : Int), fun v _ => v = .int .i64 (2 * (j : Int)), fun v _ => v = .int .i64 (2 * (j : Int) + 1), fun v _ => v = .pointer (some ⟨b, off + (2 * j + 1) * 32, none⟩), fun v _ => v = .agg YS, fun v W => ∃ q c', v = .slice (some ⟨q, 0, none⟩) 65 c' ∧ Byt W (fun b => b ≠ w.heap.size) (some ⟨q, 0, none⟩) 65 c' (1 :: (X ++ Y)), fun v W => ∃ q, v = .slice (some ⟨q, 0, none⟩) 1 1 ∧ Rws W (fun b => b ≠ w.heap.size) (some ⟨q, 0, none⟩) 1 1 [1 :: (X ++ Y)], fun v _ => v = .agg ZS, fun v _ => v = .pointer (some ⟨w.heap.size, j * 32, none⟩), fun _ W => W.heap[w.heap.size]? = some (.cells (row8 (L2.set j Z).flatten) 31 (0, 0))]) 47 (by kernel_rfl) (by kernel_rfl) (by rfl) (Sto.refl _ _) (fun _ _ _ h1 h2 => h1.trans h2) (Grow.mono_nth ?gmono) ?gsteps ?gfin
        case gmono => exact ⟨fun _ _ _ h _ => h, fun _ _ _ h _ => h, fun _ _ _ h _ => h, fun _ _ _ h _ => h, fun _ _ _ h _ => h, fun _ _ _ h _ => h, fun _ _ _ h _ => h, fun _ _ _ h _ => h, fun _ _ _ h _ => h, fun _ _ _ h _ => h, fun _ _ _ h _ => h, fun _ _ _ h _ => h, fun _ _ _ h _ => h, fun _ _ _ ⟨q, c', h1, h2⟩ hg => ⟨q, c', h1, h2.turned hg.turned fun _ _ h => h⟩, fun _ _ _ ⟨q, h1, h2⟩ hg => ⟨q, h1, h2.turned hg.turned fun _ _ h => h⟩, fun _ _ _ h _ => h, fun _ _ _ h _ => h, fun _ _ _ h g => g.keeps h, trivial⟩
        case gsteps =>
          show Grow.allBelow _ 18
          refine And.intro ?_ ?s17
          refine And.intro ?_ ?s16
          refine And.intro ?_ ?s15
          refine And.intro ?_ ?s14
          refine And.intro ?_ ?s13
          refine And.intro ?_ ?s12
          refine And.intro ?_ ?s11
          refine And.intro ?_ ?s10
          refine And.intro ?_ ?s9
          refine And.intro ?_ ?s8
          refine And.intro ?_ ?s7
          refine And.intro ?_ ?s6
          refine And.intro ?_ ?s5
          refine And.intro ?_ ?s4
          refine And.intro ?_ ?s3
          refine And.intro ?_ ?s2
          refine And.intro ?_ ?s1
          refine And.intro ?_ ?s0
          exact trivial
          case s0 =>
            refine Grow.step_in (by rfl) (by rfl) ?_
            intro E W ec eg ef hG hd hu R HR
            have e3 : E (.tmp 3) = .slice (some ⟨w.heap.size, 0, none⟩) M M := hu 3 (by kernel_rfl)
            clear hd hu
            go_simp
            exact HR.out _ _ (Sto.refl _ _ _) rfl
          case s1 =>
            refine Grow.step_in (by rfl) (by rfl) ?_
            intro E W ec eg ef hG hd hu R HR
            have e4 : E (.tmp 4) = .int .i64 (j : Int) := hu 4 (by kernel_rfl)
            clear hd hu
            go_simp
            exact HR.out _ _ (Sto.refl _ _ _) rfl
          case s2 =>
            refine Grow.step_in (by rfl) (by rfl) ?_
            intro E W ec eg ef hG hd hu R HR
            have e0 : E (.tmp 0) = .slice (some ⟨b, off, none⟩) n c := hu 0 (by kernel_rfl)
            clear hd hu
            go_simp
            exact HR.out _ _ (Sto.refl _ _ _) rfl
          case s3 =>
            refine Grow.step_in (by rfl) (by rfl) ?_
            intro E W ec eg ef hG hd hu R HR
            have e4 : E (.tmp 4) = .int .i64 (j : Int) := hu 4 (by kernel_rfl)
            clear hd hu
            go_simp
            exact HR.out _ _ (Sto.refl _ _ _) rfl
          case s4 =>
            refine Grow.step_in (by rfl) (by rfl) ?_
            intro E W ec eg ef hG hd hu R HR
            have e31 : E (.tmp 31) = .int .i64 (j : Int) := hd 3 31 (by kernel_rfl)
            clear hd hu
            go_simp
            rw [IntWalk.i64_in (2 * (j : Int)) (by omega)]
            exact HR.out _ _ (Sto.refl _ _ _) rfl
          case s5 =>
            refine Grow.step_in (by rfl) (by rfl) ?_
            intro E W ec eg ef hG hd hu R HR
            have e30 : E (.tmp 30) = .slice (some ⟨b, off, none⟩) n c := hd 2 30 (by kernel_rfl)
            have e32 : E (.tmp 32) = .int .i64 (2 * (j : Int)) := hd 4 32 (by kernel_rfl)
            clear hd hu
            go_simp
            rw [if_pos ⟨by omega, by omega⟩, show (2 * (j : Int)).toNat = 2 * j by omega]
            exact HR.out _ _ (Sto.refl _ _ _) rfl
          case s6 =>
            refine Grow.step_in (by rfl) (by rfl) ?_
            intro E W ec eg ef hG hd hu R HR
            have e33 : E (.tmp 33) = .pointer (some ⟨b, off + 2 * j * 32, none⟩) := hd 5 33 (by kernel_rfl)
            clear hd hu
            exact runs_load_id (.tmp 33) rfl (HI2.out.turned hG.turned (fun b _ hb => by omega)) (2 * j) hjn XS (by rw [← HX1.out]; exact HXS.out.1) _ rfl e33 (HR.out _ _ (Sto.refl _ _ _) rfl)
          case s7 =>
            refine Grow.step_in (by rfl) (by rfl) ?_
            intro E W ec eg ef hG hd hu R HR
            have e0 : E (.tmp 0) = .slice (some ⟨b, off, none⟩) n c := hu 0 (by kernel_rfl)
            clear hd hu
            go_simp
            exact HR.out _ _ (Sto.refl _ _ _) rfl
          case s8 =>
            refine Grow.step_in (by rfl) (by rfl) ?_
            intro E W ec eg ef hG hd hu R HR
            have e4 : E (.tmp 4) = .int .i64 (j : Int) := hu 4 (by kernel_rfl)
            clear hd hu
            go_simp
            exact HR.out _ _ (Sto.refl _ _ _) rfl
          case s9 =>
            refine Grow.step_in (by rfl) (by rfl) ?_
            intro E W ec eg ef hG hd hu R HR
            have e36 : E (.tmp 36) = .int .i64 (j : Int) := hd 8 36 (by kernel_rfl)
            clear hd hu
            go_simp
            rw [IntWalk.i64_in (2 * (j : Int)) (by omega)]
            exact HR.out _ _ (Sto.refl _ _ _) rfl
          case s10 =>
            refine Grow.step_in (by rfl) (by rfl) ?_
            intro E W ec eg ef hG hd hu R HR
            have e37 : E (.tmp 37) = .int .i64 (2 * (j : Int)) := hd 9 37 (by kernel_rfl)
            clear hd hu
            go_simp
            rw [IntWalk.i64_in (2 * (j : Int) + 1) (by omega)]
            exact HR.out _ _ (Sto.refl _ _ _) rfl
          case s11 =>
            refine Grow.step_in (by rfl) (by rfl) ?_
            intro E W ec eg ef hG hd hu R HR
            have e35 : E (.tmp 35) = .slice (some ⟨b, off, none⟩) n c := hd 7 35 (by kernel_rfl)
            have e38 : E (.tmp 38) = .int .i64 (2 * (j : Int) + 1) := hd 10 38 (by kernel_rfl)
            clear hd hu
            go_simp
            rw [if_pos (by omega), show (2 * (j : Int) + 1).toNat = 2 * j + 1 by omega]
            exact HR.out _ _ (Sto.refl _ _ _) rfl
          case s12 =>
            refine Grow.step_in (by rfl) (by rfl) ?_
            intro E W ec eg ef hG hd hu R HR
            have e39 : E (.tmp 39) = .pointer (some ⟨b, off + (2 * j + 1) * 32, none⟩) := hd 11 39 (by kernel_rfl)
            clear hd hu
            exact runs_load_id (.tmp 39) rfl (HI2.out.turned hG.turned (fun b _ hb => by omega)) (2 * j + 1) hj2 YS (by rw [← HY1.out]; exact HYS.out.1) _ rfl e39 (HR.out _ _ (Sto.refl _ _ _) rfl)
          case s13 =>
            refine Grow.step_in (by rfl) (by rfl) ?_
            intro E W ec eg ef hG hd hu R HR
            have e34 : E (.tmp 34) = .agg XS := hd 6 34 (by kernel_rfl)
            have e40 : E (.tmp 40) = .agg YS := hd 12 40 (by kernel_rfl)
            clear hd hu
            go_simp
            rw [HXS.out.1, HYS.out.1]
            refine (ofPair_any X Y HXS.out.2 HYS.out.2 W).mono ?_
            rintro _ w' ⟨q, c', rfl, hy, hb⟩
            have hlt := hG.lt HD0.out.1.lt
            exact ⟨_, rfl, HR.out _ _ (Sto.of_below hb hlt) ⟨q, c', rfl, hy.mono fun b _ hb => by omega⟩⟩
          case s14 =>
            refine Grow.step_in (by rfl) (by rfl) ?_
            intro E W ec eg ef hG hd hu R HR
            have h41 := hd 13 41 (by kernel_rfl)
            clear hd hu
            obtain ⟨q, c', e41, hY⟩ := h41
            go_simp
            have hlt := hG.lt HD0.out.1.lt
            exact HR.out _ _ (Sto.of_below ((Below.refl _ _).alloc (Nat.le_refl _) _) hlt) ⟨W.heap.size, rfl, rws_made hY (fun _ h => h) (show W.heap.size ≠ _ by omega)⟩
          case s15 =>
            refine Grow.step_in (by rfl) (by rfl) ?_
            intro E W ec eg ef hG hd hu R HR
            have h42 := hd 14 42 (by kernel_rfl)
            clear hd hu
            obtain ⟨q, e42, hR⟩ := h42
            go_simp
            refine (of_any hR (HD0.out.2.turned hG.turned (by have := HD0.out.2.lt1; have := HTL.out; omega) (by have := HTL.out; omega)) (by have h1 := HXS.out.2; have h2 := HYS.out.2; simp; omega)).mono ?_
            rintro _ w' ⟨rfl, hb⟩
            exact ⟨_, rfl, HR.out _ _ (Sto.of_below hb (hG.lt HD0.out.1.lt)) (show Value.agg _ = Value.agg ZS by rw [HZ.out.1, HZ.out.2.1]; simp [row8, nodeD])⟩
          case s16 =>
            refine Grow.step_in (by rfl) (by rfl) ?_
            intro E W ec eg ef hG hd hu R HR
            have e28 : E (.tmp 28) = .slice (some ⟨w.heap.size, 0, none⟩) M M := hd 0 28 (by kernel_rfl)
            have e29 : E (.tmp 29) = .int .i64 (j : Int) := hd 1 29 (by kernel_rfl)
            clear hd hu
            go_simp
            exact HR.out _ _ (Sto.refl _ _ _) rfl
          case s17 =>
            refine Grow.step_in (by rfl) (by rfl) ?_
            intro E W ec eg ef hG hd hu R HR
            have e44 : E (.tmp 44) = .pointer (some ⟨w.heap.size, j * 32, none⟩) := hd 16 44 (by kernel_rfl)
            have e43 : E (.tmp 43) = .agg ZS := hd 15 43 (by kernel_rfl)
            clear hd hu
            have hblk : ∃ l, IdBlk W w.heap.size l ∧ l.length = M ∧ l.set j Z = L2.set j Z := by
              rcases hG.at_ with h1 | h1
              · exact ⟨L2, ⟨h1.trans HD0.out.1.1, HD0.out.1.2⟩, HL2.out, rfl⟩
              · exact ⟨L2.set j Z, ⟨h1, set_len32 HD0.out.1.2 j HZ.out.2.2⟩, by rw [List.length_set]; exact HL2.out, List.set_set _⟩
            obtain ⟨l2, hl2, hl3, hl4⟩ := hblk
            exact runs_store_id (.tmp 44) (.tmp 43) rfl hl2 j (by rw [hl3]; exact hlt) ZS Z HZ.out.1 HZ.out.2.2 _ rfl e44 e43 (by rw [hl4]; exact HR.out _ _ (Sto.store hl2.1) (setRow_at hl2.1))
        case gfin =>
          intro W hG
          refine Grow.fin_dst (by rfl) ?_
          rintro _ rfl
          refine Grow.fin_dst (by rfl) ?_
          rintro _ rfl
          refine Grow.fin_dst (by rfl) ?_
          rintro _ rfl
          refine Grow.fin_dst (by rfl) ?_
          rintro _ rfl
          refine Grow.fin_dst (by rfl) ?_
          rintro _ rfl
          refine Grow.fin_dst (by rfl) ?_
          rintro _ rfl
          refine Grow.fin_dst (by rfl) ?_
          rintro _ rfl
          refine Grow.fin_dst (by rfl) ?_
          rintro _ rfl
          refine Grow.fin_dst (by rfl) ?_
          rintro _ rfl
          refine Grow.fin_dst (by rfl) ?_
          rintro _ rfl
          refine Grow.fin_dst (by rfl) ?_
          rintro _ rfl
          refine Grow.fin_dst (by rfl) ?_
          rintro _ rfl
          refine Grow.fin_dst (by rfl) ?_
          rintro _ rfl
          refine Grow.fin_dst (by rfl) ?_
          rintro _ ⟨_, _, rfl, _⟩
          refine Grow.fin_dst (by rfl) ?_
          rintro _ ⟨_, rfl, _⟩
          refine Grow.fin_dst (by rfl) ?_
          rintro _ rfl
          refine Grow.fin_dst (by rfl) ?_
          rintro _ rfl
          refine Grow.fin_told (by rfl) ?_
          rintro ⟨_, hK⟩
          simp only [Act.put, List.setIfInBounds_toArray, List.set_cons_zero, List.set_cons_succ]
          refine Grow.fin_end ?_
          have H7 : Hid (Below w.heap.size w W ∧ IdBlk W w.heap.size (fillL (aboveL l) M (j + 1))) := Lib.hid (by
            refine ⟨HW6.out.1.trans ((hG.of_drew.turned.mono (T := (w.heap.size ≤ ·)) fun b _ hb => by omega).below HW6.out.1.size), ?_⟩
            have e : L2.set j Z = fillL (aboveL l) M (j + 1) := by
              have h1 := HAT.out
              rw [if_pos hj2, ← HX1.out, ← HY1.out, ← HZ.out.2.1] at h1
              rw [HE2.out, List.set_set, ← fillL_set hds.out hlt, h1]
            rw [← e]
            exact ⟨hK, set_len32 HD0.out.1.2 j HZ.out.2.2⟩)
          clear hG hK HD0 HW6 HI2
          go_wp2_with fail
          go_roundw
          case rel => unfold LwR; exact ⟨j + 1, by omega, by go_num, H7.out.2, H7.out.1⟩
          case measure => simp [intOf]; omega
      · have hj2' : ¬ (2 * (j : Int) + 1) < (n : Int) := by omega
        have H7 : Hid (Below w.heap.size w w6 ∧ IdBlk w6 w.heap.size (fillL (aboveL l) M (j + 1))) := Lib.hid (by
          refine ⟨HW6.out.1, ?_⟩
          have e : L2 = fillL (aboveL l) M (j + 1) := by
            have h1 := HAT.out
            rw [if_neg hj2, ← HX1.out] at h1
            rw [HE2.out, ← fillL_set hds.out hlt, h1]
          rw [← e]
          exact HW6.out.2)
        clear HW6
        go_wp2_with fail
        go_roundw
        case rel => unfold LwR; exact ⟨j + 1, by omega, by go_num, H7.out.2, H7.out.1⟩
        case measure => simp [intOf]; omega
    · obtain rfl : j = M := by omega
      go_wp2
      go_ret
      refine ⟨_, rfl, Nat.le_refl _, ?_, HX.out.2⟩
      have := HX.out.1
      rwa [fillL_all hds.out] at this
end Go.Proofs.YtebhlfmianohlaaDoor
