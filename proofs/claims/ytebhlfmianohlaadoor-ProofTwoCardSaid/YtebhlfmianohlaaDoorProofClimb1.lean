/-
  proof.climb: the iterator's walk.
-/
import Derived.Test.YtebhlfmianohlaaDoorProofClimb
namespace Go.Proofs.YtebhlfmianohlaaDoor
open Go.RowKit Go.Shelf
attribute [local go_sem] Oper.semAt_some

def climbFn (p : Nat) : Value := .func (.func 48) #[] #[.pointer (some ⟨p + 2, 0, none⟩), .pointer (some ⟨p, 0, none⟩), .pointer (some ⟨p + 1, 0, none⟩), .pointer (some ⟨p + 3, 0, none⟩)]
set_option maxHeartbeats 2000000 in
theorem climb_any (n i : Nat) (A : Option Addr) (nl cl : Nat) (Aw : Option Addr) (nw cw : Nat) (w : World) :
    Calls Tryd.prog 32 #[.int .i64 (n : Int), .int .i64 (i : Int), .slice A nl cl, .slice Aw nw cw] w fun e w' => e = .returned (climbFn w.heap.size) ∧
      w' = (((w.alloc (.cells #[.int .i64 (n : Int)] 3)).alloc (.cells #[.int .i64 (i : Int)] 3)).alloc (.cells #[.slice A nl cl] 22)).alloc (.cells #[.slice Aw nw cw] 24) := by
  have hmf : ∀ (fn : Fn) (first cap : Array Value) (w : World), (Instr.makeFunc fn first cap).run Tryd.prog w = .ok (.func fn first cap) w := fun _ _ _ _ => rfl
  go_enter Tryd.func32, Tryd.ntmps32
  go_wp2_with fail
  go_ret
  exact ⟨rfl, rfl⟩

set_option maxHeartbeats 4000000 in
set_option maxRecDepth 100000 in
theorem climb1_any (P : ClP) (hF : ClF P) (hn : P.n < 9223372036854775808) (hi : P.i < P.n) {LS : Nat → Prop} {A : Option Addr} {nl cl : Nat} {leaf : List UInt8} (l : Nat) (Jx : (Nat → Prop) → List ClV → World → Prop) {W : World}
    (hB : P.B = W.heap.size) (hR : P.R = climbRows P.n P.i leaf P.way) (hlen : (bes P.n 0 P.i).length = P.way.length)
    (hbn : W.heap[P.p]? = some (.cells #[.int .i64 (P.n : Int)] 3 (0, 0))) (hbi : W.heap[P.p + 1]? = some (.cells #[.int .i64 (P.i : Int)] 3 (0, 0)))
    (hbl : W.heap[P.p + 2]? = some (.cells #[.slice A nl cl] 22 (0, 0))) (hbw : W.heap[P.p + 3]? = some (.cells #[.slice P.Aw P.nw P.cw] 24 (0, 0)))
    (hids : Ids W P.WS P.Aw P.nw P.cw P.way) (htab : Tab W) (hleaf : Byt W LS A nl cl leaf) (hnl : nl ≤ 1000000)
    (hY : ∀ D pre x W1, Bounds P.B D W1 → P.J D pre W1 → climbX P.R D (pre ++ [x]) W1 → YieldAt Fence.wide 2 Tryd.prog l (clE x) W1 fun e W' =>
      (e = .returned (.bool true) ∧ P.J D (pre ++ [x]) W' ∧ Kept P.B D P.K W1 W') ∨ (e = .returned (.bool false) ∧ Jx D (pre ++ [x]) W' ∧ Kept P.B D P.K W1 W'))
    (hJx : Still P.B Jx) (h0 : P.J (fun _ => False) [] W) :
    CallsIn Fence.wide 3 Tryd.prog 48 #[.func (.yield l) #[] #[], .pointer (some ⟨P.p + 2, 0, none⟩), .pointer (some ⟨P.p, 0, none⟩), .pointer (some ⟨P.p + 1, 0, none⟩), .pointer (some ⟨P.p + 3, 0, none⟩)] W fun e W' => (∃ v, e = .returned v) ∧ ∃ D, Bounds P.B D W' ∧
      ((∃ xs : List ClV, xs.length = P.R.length ∧ climbX P.R D xs W' ∧ P.J D xs W') ∨ (∃ pre, climbX P.R D pre W' ∧ Jx D pre W')) := by
  have hz := zero_id
  have H0 : Hid (ClB P (fun _ => False) (fun _ => False) [] W) := Lib.hid
    ⟨by omega, fun b hb => by rcases hb with hb | hb <;> exact hb.elim, fun _ h => h.elim, hF.st _ _ _ _ _ (Bounds.none_ _ _) h0 ⟨rfl, rfl, rfl, Nat.le_refl _, fun _ _ _ _ => rfl⟩ (fun b hb => by rcases hb with hb | hb <;> exact hb.elim), ⟨by simp, fun k x hx => by simp at hx⟩, hbn, hbi, hbw, hids, htab⟩
  have HF := Lib.hid hF
  have HY := Lib.hid hY
  have HN := Lib.hid (And.intro hn (And.intro hi (And.intro hR (And.intro hlen hB))))
  have HL := Lib.hid hleaf
  have HJX := Lib.hid hJx
  obtain ⟨W0, hW0⟩ : ∃ W0, W.alloc (.cells #[.func (.yield l) #[] #[]] 88) = W0 := ⟨_, rfl⟩
  have hb0 : Below W.heap.size W W0 := by rw [← hW0]; exact (Below.refl _ _).alloc (Nat.le_refl _) _
  have hc1 : W0.cell? ⟨P.p + 2, 0, none⟩ = some (.slice A nl cl) := by
    rw [cell_of_cells ((hb0.block _ (lt_of_cells hbl)).trans hbl)]
    rfl
  have hol := ofLeaf_any (hleaf.below hb0) hnl
  have HQ5 : Hid (Boxed W0 W.heap.size 88 (.func (.yield l) #[] #[]) ∧ ClB P (fun _ => False) (orD (fun _ => False) (· = W.heap.size)) [] W0) := Lib.hid ⟨by rw [← hW0]; exact Boxed.new _ _ _, by rw [← hW0]; exact H0.out.var HF.out _⟩
  clear hF hY hn hi hR hlen hbn hbi hbl hbw hids htab hleaf h0 H0 hB hb0 hJx
  refine callsIn_of_wp_marks Tryd.func48 rfl trivial ?_ rfl
  simp only [Tryd.ntmps48, List.size_toArray, List.length_cons, List.length_nil, Nat.reduceAdd, Nat.reduceSub, Array.replicate_succ, Array.replicate_zero, List.push_toArray, List.append_toArray, List.nil_append, List.cons_append]
  gi_wp2_with (refine ⟨trivial, ?_⟩; gi_at_call 49; refine (callsIn_wide.2 hol).mono ?_; clear hol; rintro _ w1 ⟨g1, c1, rfl, hy1, hb1⟩)
  have hB1 := HQ5.out.2.below HF.out hb1
  have hB2 := hB1.var HF.out (.cells #[.slice (some ⟨g1, 0, none⟩) (1 + nl) c1] 22)
  have hy1' : Byt w1 (newD (fun _ => False) W0 w1) (some ⟨g1, 0, none⟩) (1 + nl) c1 (0 :: leaf) := hy1.mono fun b hb h => .inr ⟨h, hb⟩
  have hbx6 := Boxed.new w1 22 (.slice (some ⟨g1, 0, none⟩) (1 + nl) c1)
  have hy2 := hy1'.alloc (.cells #[.slice (some ⟨g1, 0, none⟩) (1 + nl) c1] 22)
  have hb12 : Below w1.heap.size w1 (w1.alloc (.cells #[.slice (some ⟨g1, 0, none⟩) (1 + nl) c1] 22)) := (Below.refl _ _).alloc (Nat.le_refl _) _
  have hx5 : Boxed (w1.alloc (.cells #[.slice (some ⟨g1, 0, none⟩) (1 + nl) c1] 22)) W.heap.size 88 (.func (.yield l) #[] #[]) :=
    (hb12.block _ (lt_of_cells ((hb1.block _ (lt_of_cells HQ5.out.1)).trans HQ5.out.1))).trans ((hb1.block _ (lt_of_cells HQ5.out.1)).trans HQ5.out.1)
  have hq56 : W.heap.size < w1.heap.size := lt_of_cells ((hb1.block _ (lt_of_cells HQ5.out.1)).trans HQ5.out.1)
  have hsA : (w1.alloc (.cells #[.slice (some ⟨g1, 0, none⟩) (1 + nl) c1] 22)).heap.size = w1.heap.size + 1 := by simp
  generalize w1.alloc (.cells #[.slice (some ⟨g1, 0, none⟩) (1 + nl) c1] 22) = w1a at *
  have hof := of_any (rws_one hy2) (hB2.tab.below ((Below.refl _ _).alloc (Nat.le_refl _) _)) (by have := hy1.len; simp only [List.flatten_cons, List.flatten_nil, List.append_nil]; omega)
  simp only [List.flatten_cons, List.flatten_nil, List.append_nil] at hof
  have hbA : Below w1a.heap.size w1a (w1a.alloc (.cells #[.slice (some ⟨g1, 0, none⟩) (1 + nl) c1] 22)) := (Below.refl _ _).alloc (Nat.le_refl _) _
  rw [hsA] at hof
  obtain ⟨X0, hX0⟩ : ∃ X0, X0 = shaL (0 :: leaf) := ⟨_, rfl⟩
  obtain ⟨XS, hXS⟩ : ∃ XS, XS = (u8s X0).toArray := ⟨_, rfl⟩
  rw [← hX0, ← hXS] at hof
  have H1 : Hid (ClB P (newD (fun _ => False) W0 w1) (orD (orD (fun _ => False) (· = W.heap.size)) (· = w1.heap.size)) [] w1a ∧ Byt w1a (newD (fun _ => False) W0 w1) (some ⟨g1, 0, none⟩) (1 + nl) c1 (0 :: leaf) ∧ Boxed w1a w1.heap.size 22 (.slice (some ⟨g1, 0, none⟩) (1 + nl) c1) ∧ Boxed w1a W.heap.size 88 (.func (.yield l) #[] #[]) ∧ Below w1a.heap.size w1a (w1a.alloc (.cells #[.slice (some ⟨g1, 0, none⟩) (1 + nl) c1] 22)) ∧ W.heap.size < w1.heap.size) := Lib.hid ⟨hB2, hy2, hbx6, hx5, hbA, hq56⟩
  have HX := Lib.hid (And.intro hX0 (And.intro hXS (show X0.length = 32 by rw [hX0]; exact shaL_length _)))
  clear hB1 hB2 hy1' hbx6 hy2 hb12 hx5 hq56 hbA hX0 hXS hy1 hb1 HQ5 hc1 hW0
  refine ⟨trivial, (callsIn_wide.2 hof).mono ?_⟩
  clear hof
  rintro _ w2 ⟨rfl, hb2⟩
  have hb2 := H1.out.2.2.2.2.1.trans (hb2.mono H1.out.2.2.2.2.1.size)
  have hB2 := (H1.out.1.below HF.out hb2).var HF.out (.cells zerosId 31)
  have hx6 : Boxed (w2.alloc (.cells zerosId 31)) w1.heap.size 22 (.slice (some ⟨g1, 0, none⟩) (1 + nl) c1) := Boxed.alloc ((hb2.block _ H1.out.2.2.1.lt).trans H1.out.2.2.1) _
  have hx5 : Boxed (w2.alloc (.cells zerosId 31)) W.heap.size 88 (.func (.yield l) #[] #[]) := Boxed.alloc ((hb2.block _ H1.out.2.2.2.1.lt).trans H1.out.2.2.2.1) _
  have hg7 := heap_alloc_new w2 (.cells zerosId 31)
  have hrow := ((H1.out.2.1.mono (T := newD (newD (fun _ => False) W0 w1) w1a w2) fun b _ hb => .inl hb).below hb2).alloc (.cells zerosId 31)
  have hlt6 : w1.heap.size < w2.heap.size := Nat.lt_of_lt_of_le H1.out.2.2.1.lt hb2.size
  have hlt5 := H1.out.2.2.2.2.2
  have HG7 := Lib.hid hg7
  have hturn : Turned (orD (orD (orD (fun _ => False) (· = W.heap.size)) (· = w1.heap.size)) (· = w2.heap.size)) (w2.alloc (.cells zerosId 31)) ((w2.alloc (.cells zerosId 31)).setRow w2.heap.size XS) := (turned_setRow XS).mono fun b _ hb => .inr hb
  have hs3 : ∀ b, b ≠ w2.heap.size → ((w2.alloc (.cells zerosId 31)).setRow w2.heap.size XS).heap[b]? = (w2.alloc (.cells zerosId 31)).heap[b]? := fun b hb => setRow_ne _ _ _ _ hb
  have H3 : Hid (ClS P l W.heap.size w1.heap.size w2.heap.size (newD (newD (newD (fun _ => False) W0 w1) w1a w2) (w2.alloc (.cells zerosId 31)) ((w2.alloc (.cells zerosId 31)).setRow w2.heap.size XS)) (orD (orD (orD (fun _ => False) (· = W.heap.size)) (· = w1.heap.size)) (· = w2.heap.size)) [] (some ⟨g1, 0, none⟩, 1 + nl, c1) (0 :: leaf) X0 ((w2.alloc (.cells zerosId 31)).setRow w2.heap.size XS)) := Lib.hid
    ⟨hB2.turn HF.out hturn, (hs3 _ (by omega)).trans hx5, (hs3 _ (by omega)).trans hx6, (setRow_at hg7).trans (by rw [HX.out.2.1]; rfl), ⟨.inl (.inl (.inr rfl)), .inl (.inr rfl), .inr rfl⟩, ⟨by omega, by omega, by omega⟩,
      (hrow.mono (T := newD (newD (newD (fun _ => False) W0 w1) w1a w2) (w2.alloc (.cells zerosId 31)) ((w2.alloc (.cells zerosId 31)).setRow w2.heap.size XS)) fun b _ hb => .inl hb).turned (turned_setRow XS) (fun b _ hb e => by
        rcases hb with hb | hb
        · have := (hB2.bnd b (.inl hb)).2
          exact hB2.dis b hb (.inr e)
        · simp at hb
          omega), HX.out.2.2⟩
  have HS : Hid (XS.size = 32 ∧ XS.all (·.oneCell') = true) := Lib.hid (by rw [HX.out.2.1]; exact ⟨by simp [u8s_length, HX.out.2.2], row8_one _⟩)
  clear hB2 hx6 hx5 hg7 hrow hlt6 hlt5 hturn hs3 hb2 H1
  gi_wp2_with (first
    | (refine wpListIn_store_row (by rfl) 31 (.tmp 7) (.tmp 15) (by rfl) w2.heap.size XS (by rfl) (by rfl) 31 zerosId HG7.out (by rw [HS.out.1]; exact id_info) (by rw [HS.out.1]; rfl) HS.out.2 ?_
       clear HG7
       generalize (w2.alloc (.cells zerosId 31)).setRow w2.heap.size XS = w3 at H3 ⊢
       generalize newD (newD (newD (fun _ => False) W0 w1) w1a w2) (w2.alloc (.cells zerosId 31)) w3 = Dr at H3
       generalize (orD (orD (orD (fun _ => False) (· = W.heap.size)) (· = w1.heap.size)) (· = w2.heap.size)) = Dx at H3
       generalize w1.heap.size = q6 at H3 ⊢
       generalize w2.heap.size = q7 at H3 ⊢
       generalize W.heap.size = q5 at H3 HN ⊢
       obtain ⟨fn, tmps, assign, body, hy, hR⟩ := HY.out (orD Dr Dx) [] ((some ⟨g1, 0, none⟩, 1 + nl, c1), X0) w3 H3.out.b.bnd H3.out.b.j (climbX_mono (H3.out.next (by rw [HN.out.2.2.1]; simp [climbRows]) (by rw [HN.out.2.2.1]; rfl) HX.out.1) fun _ h => .inl h)
       have HR := Lib.hid hR
       simp only [clE] at hy
       rw [show row8 X0 = XS from HX.out.2.1.symm] at hy
       have hc5 := H3.out.x5.cell
       have hc6 := H3.out.x6.cell
       clear hR)
    | (refine wpListIn_load_row (by rfl) 31 (.tmp 7) (by rfl) q7 (by rfl) 31 XS (0, 0) _ (by rw [HX.out.2.1]; exact H3.out.x7) Tryd.underlying31 (by rfl) (by rw [HS.out.1]; exact id_info) ?_))
  refine HR.out.mono ?_
  rintro e w4 (⟨rfl, hJ4, hk4⟩ | ⟨rfl, hJx4, hk4⟩)
  case inr =>
    have HXX : Hid (∃ D, Bounds P.B D w4 ∧ ∃ pre, climbX P.R D pre w4 ∧ Jx D pre w4) := Lib.hid ⟨orD Dr Dx, H3.out.b.bnd.grow hk4.turned.size, _, climbX_turned (climbX_mono (H3.out.next (by rw [HN.out.2.2.1]; simp [climbRows]) (by rw [HN.out.2.2.1]; rfl) HX.out.1) fun _ h => .inl h) hk4.turned (fun _ hb hn => hn (.inl hb)), hJx4⟩
    clear hJx4 hk4 hy HR hc5 hc6
    gi_wp2
    obtain ⟨D, hB, hx⟩ := HXX.out
    exact ⟨_, results_none rfl _ _ _, ⟨_, rfl⟩, D, hB, .inr hx⟩
  have h4 := H3.out.kept HF.out hk4 hJ4 (H3.out.next (by rw [HN.out.2.2.1]; simp [climbRows]) (by rw [HN.out.2.2.1]; rfl) HX.out.1)
  have hcn : (w4.alloc (.cells #[.int .i64 0] 3)).cell? ⟨P.p, 0, none⟩ = some (.int .i64 (P.n : Int)) := by
    rw [cell_of_cells ((Below.heap_alloc _ _ _ (lt_of_cells h4.b.bn)).trans h4.b.bn)]
    rfl
  have hci : (w4.alloc (.cells #[.int .i64 0] 3)).cell? ⟨P.p + 1, 0, none⟩ = some (.int .i64 (P.i : Int)) := by
    rw [cell_of_cells ((Below.heap_alloc _ _ _ (lt_of_cells h4.b.bi)).trans h4.b.bi)]
    rfl
  have H4 := Lib.hid h4
  clear h4 hJ4 hk4 hy HR hc5 hc6 H3
  gi_wp2_with (refine ⟨trivial, ?_⟩; gi_at_call 23; refine (callsIn_wide.2 (beside_any P.n P.i _)).mono ?_; rintro _ _ ⟨rfl, rfl⟩)
  try simp only [World.size_alloc]
  obtain ⟨q8, hq8⟩ : ∃ q8, w4.heap.size = q8 := ⟨_, rfl⟩
  have hx8 := Boxed.new w4 3 (.int .i64 0)
  have hxn := heap_alloc_new (w4.alloc (.cells #[.int .i64 0] 3)) (.cells #[.int .i64 (P.n : Int)] 3)
  have hxi := heap_alloc_new ((w4.alloc (.cells #[.int .i64 0] 3)).alloc (.cells #[.int .i64 (P.n : Int)] 3)) (.cells #[.int .i64 (P.i : Int)] 3)
  have hxn := (Below.heap_alloc ((w4.alloc (.cells #[.int .i64 0] 3)).alloc (.cells #[.int .i64 (P.n : Int)] 3)) (.cells #[.int .i64 (P.i : Int)] 3) _ (by simp)).trans hxn
  have hx8 := (hx8.alloc (.cells #[.int .i64 (P.n : Int)] 3)).alloc (.cells #[.int .i64 (P.i : Int)] 3)
  have hb45 : Below (w4.alloc (.cells #[.int .i64 0] 3)).heap.size (w4.alloc (.cells #[.int .i64 0] 3)) (((w4.alloc (.cells #[.int .i64 0] 3)).alloc (.cells #[.int .i64 (P.n : Int)] 3)).alloc (.cells #[.int .i64 (P.i : Int)] 3)) := ((Below.refl _ _).alloc (Nat.le_refl _) _).alloc (by simp) _
  have hsz5 : (((w4.alloc (.cells #[.int .i64 0] 3)).alloc (.cells #[.int .i64 (P.n : Int)] 3)).alloc (.cells #[.int .i64 (P.i : Int)] 3)).heap.size = q8 + 3 := by simp [hq8]
  have h5 := (H4.out.var HF.out (.cells #[.int .i64 0] 3)).below HF.out hb45
  simp only [World.size_alloc, hq8] at hx8 hxn hxi h5 ⊢
  have hq678 : q6 < q8 ∧ q7 < q8 ∧ q5 < q8 := by
    rw [← hq8]
    exact ⟨H4.out.x6.lt, lt_of_cells H4.out.x7, H4.out.x5.lt⟩
  generalize ((w4.alloc (.cells #[.int .i64 0] 3)).alloc (.cells #[.int .i64 (P.n : Int)] 3)).alloc (.cells #[.int .i64 (P.i : Int)] 3) = w5 at *
  have HFX : Hid (P.B ≤ q8 + 3 ∧ (∀ x, Dx x → x < q8)) := Lib.hid ⟨by have := HN.out.2.2.2.2; omega, fun x hx => by rw [← hq8]; exact (H4.out.b.bnd x (.inr hx)).2⟩
  have hI0 : ClI P l q5 q6 q7 q8 w5.heap.size (orD Dx (· = q8)) X0 (fun _ => False) [] w5 := by
    refine ⟨_, _, _, _, ⟨h5.b.step HF.out (Turned.refl _ _) (fun _ h => .inl h) (fun _ h => h) (fun b hb => .inl (hb.elim id fun h => h.elim)) (fun b hb hx => h5.b.dis b hb (hx.elim id fun h => h.elim)), h5.x5, h5.x6, by simpa [upX] using h5.x7, ⟨.inl h5.d.1, .inl h5.d.2.1, .inl h5.d.2.2⟩, h5.ne, h5.row, by simpa [upX] using h5.sz⟩, rfl, hx8, fun b hb => .inl (h5.b.bnd b (.inl hb)).2⟩
  have HI0 := Lib.hid hI0
  have H5D := Lib.hid h5.d
  have HSZ := Lib.hid (And.intro hsz5 (And.intro hq678 (And.intro hxn hxi)))
  clear hx8 h5 hI0 hsz5 hq678 hb45 hcn hci hq8 H4
  refine wpIn_rangeFunc_it (gf := 42) (lb := #[.pointer (some ⟨q8 + 1, 0, none⟩), .pointer (some ⟨q8 + 1 + 1, 0, none⟩)]) rfl (enters_of Tryd.func42 (by kernel_rfl) rfl) (beside_iter P.n P.i HN.out.1 HN.out.2.1 (q8 + 1) w5 hxn hxi) (Below.refl _ _) (fun _ h => h.elim) (fun _ => rfl)
    (ClI P l q5 q6 q7 q8 w5.heap.size (orD Dx (· = q8)) X0) (fun c Db pre W' => c = .ret ∧ ∃ Dr opre, ClX P Jx w5.heap.size Dr (orD (orD Dx (· = q8)) Db) opre W')
    (ClI.still HF.out (by have := HFX.out.1; have := HSZ.out.1; omega) H5D.out (by have := HSZ.out.1; have := HSZ.out.2.1; omega) (by have := HSZ.out.1; omega))
    (fun c => by
      rintro D D' s X Y hb ⟨hc, Dr, opre, hx⟩ hS hD
      exact ⟨hc, Dr, opre, hx.still HJX.out (by have := HFX.out.1; have := HSZ.out.1; omega) hS hD⟩)
    HI0.out
    (fun x a' _ => a' = { tmps := #[.func (.yield l) #[] #[], .pointer (some ⟨P.p + 2, 0, none⟩), .pointer (some ⟨P.p, 0, none⟩), .pointer (some ⟨P.p + 1, 0, none⟩), .pointer (some ⟨P.p + 3, 0, none⟩), .pointer (some ⟨q5, 0, none⟩), .pointer (some ⟨q6, 0, none⟩), .pointer (some ⟨q7, 0, none⟩), .pointer (some ⟨q8, 0, none⟩), undef, .int .i64 (x.2 : Int), .slice A nl cl, .slice (some ⟨g1, 0, none⟩) (1 + nl) c1, .slice (some ⟨g1, 0, none⟩) (1 + nl) c1, .slice (some ⟨q6 + 1, 0, none⟩) 1 1, .agg XS, .func (.yield l) #[] #[], .slice (some ⟨g1, 0, none⟩) (1 + nl) c1, .agg XS, .bool true, .bool false, .int .i64 (P.n : Int), .int .i64 (P.i : Int), besFn (q8 + 1), .int .i64 (x.1 : Int), .int .i64 (x.2 : Int), undef, undef, undef, undef, undef, undef, undef, undef, undef, undef, undef, undef, undef, undef, undef, undef, undef, undef, undef, undef, undef, undef, undef, undef, undef, undef, undef, undef, undef, undef, undef, undef, undef, undef], defers := [] }) (fun _ _ => ownFrom_pure _ _) ?assign ?body ?done ?stop
  case assign =>
    intro l' D pre x W' C _ hi _ hC
    simp only [besE]
    gi_wp2
    exact hC _ _ (Kept.refl _ _ _ _) hi (by simp)
  case stop =>
    rintro E Db c pre W' hE hws hBd _ ⟨rfl, Dr', opre, hx⟩ hK
    have HFN := Lib.hid (hx.fin HJX.out hE (by have := HFX.out.1; have := HSZ.out.1; omega) hK (.deferred none))
    have HK := Lib.hid hK
    clear hx hK
    gi_wp2
    refine ⟨by simp, .inl ⟨_, _, rfl, run_takeDeferred HK.out, ?_⟩⟩
    obtain ⟨D, hB, hh⟩ := HFN.out
    exact ⟨_, results_none rfl _ _ _, ⟨_, rfl⟩, D, hB, .inr hh⟩
  case done =>
    rintro E Db xs W' hE hws hBd rfl _ ⟨Dr', opre, s6, row, hs, hol, hx8, hfar⟩ hK
    obtain ⟨T, hT⟩ : ∃ T, T = upX (bes P.n 0 P.i) (P.way.take (bes P.n 0 P.i).length) X0 := ⟨_, rfl⟩
    rw [← hT] at hs
    have HT : Hid (T = topX P.n P.i leaf P.way) := Lib.hid (by rw [hT, HN.out.2.2.2.1, List.take_of_length_le (Nat.le_refl _), HX.out.1]; rfl)
    have hcn : W'.cell? ⟨P.p, 0, none⟩ = some (.int .i64 (P.n : Int)) := by
      rw [cell_of_cells hs.b.bn]
      rfl
    obtain ⟨TS, hTS⟩ : ∃ TS, TS = row8 T := ⟨_, rfl⟩
    have hrt := ofRoot_any P.n HN.out.1 T hs.sz W'
    rw [← hTS] at hrt
    have HTS : Hid (TS = row8 T ∧ TS.size = 32) := Lib.hid ⟨hTS, by rw [hTS, row8_size, hs.sz]⟩
    have HD := Lib.hid (And.intro hs (And.intro hol (And.intro hfar (And.intro hK hE))))
    clear hs hol hfar hK hT hTS hx8 hE
    gi_wp2_with (first
      | (refine wpListIn_load_row (by rfl) 31 (.tmp 7) (by rfl) q7 (by rfl) 31 TS (0, 0) _ (by rw [HTS.out.1]; exact HD.out.1.x7) Tryd.underlying31 (by rfl) (by rw [HTS.out.2]; exact id_info) ?_)
      | (refine ⟨trivial, ?_⟩; gi_at_call 29; refine (callsIn_wide.2 hrt).mono ?_; clear hrt hcn; rintro _ w7 ⟨g7, c7, rfl, hy7, hb7⟩
         have h7 := HD.out.1.below HF.out hb7
         have hc6 := h7.x6.cell
         have hf6 := h7.x6.frozen
         have H7 := Lib.hid (And.intro h7 (And.intro hy7 hb7))
         clear h7 hy7 hb7))
    have hq6 : q6 < W'.heap.size := HD.out.1.x6.lt
    have hset : Turned (· = q6) w7 (w7.setCell ⟨q6, 0, none⟩ (.slice (some ⟨g7, 0, none⟩) 41 c7)) := (Turned.refl (· = q6) w7).set (p := q6) rfl _ _
    have h8 := H7.out.1.turn HF.out (hset.mono (fun b _ e => by rw [e]; exact H7.out.1.d.2.1)) (H7.out.1.x5.other H7.out.1.ne.1 _) (s6' := (some ⟨g7, 0, none⟩, 41, c7)) (H7.out.1.x6.set _) ((Below.heap_setCell _ _ _ _ (fun e => H7.out.1.ne.2.2 e.symm)).trans H7.out.1.x7) (((H7.out.2.1.mono (T := fun b => W'.heap.size ≤ b ∧ b < w7.heap.size) fun b hb h => ⟨h, hb⟩).turned hset (fun b _ hb e => by omega)).mono fun b _ hb => .inl (.inr hb)) H7.out.1.sz
    have hfar8 : ∀ b, newD (newD Dr' W' w7) w7 (w7.setCell ⟨q6, 0, none⟩ (.slice (some ⟨g7, 0, none⟩) 41 c7)) b → b < w5.heap.size ∨ w5.heap.size + 2 ≤ b := fun b hb => by
      have h1 := H7.out.2.2.size
      rcases hb with (hb | hb) | hb
      · exact HD.out.2.2.1 b hb
      · omega
      · omega
    have hE8 : (w7.setCell ⟨q6, 0, none⟩ (.slice (some ⟨g7, 0, none⟩) 41 c7)).heap[E]? = some (.deferred (some [])) := by
      have hlt := (Array.getElem?_eq_some_iff.1 HD.out.2.2.2.1).1
      have h1 := HSZ.out.2.1.1
      have h2 := HSZ.out.1
      rw [Below.heap_setCell _ _ _ _ (by have := HD.out.2.2.2.2; simp; omega)]
      exact (H7.out.2.2.block _ hlt).trans HD.out.2.2.2.1
    obtain ⟨Dn, hDn⟩ : ∃ Dn, Dn = newD (newD Dr' W' w7) w7 (w7.setCell ⟨q6, 0, none⟩ (.slice (some ⟨g7, 0, none⟩) 41 c7)) := ⟨_, rfl⟩
    rw [← hDn] at h8 hfar8
    clear hset hc6 hf6 hDn
    generalize w7.setCell ⟨q6, 0, none⟩ (.slice (some ⟨g7, 0, none⟩) 41 c7) = w8 at *
    obtain ⟨ROW, hROW⟩ : ∃ ROW, ROW = 2 :: (le8 P.n 8 ++ T) := ⟨_, rfl⟩
    rw [← hROW] at h8
    obtain ⟨ES, hES⟩ : ∃ ES, ES = row8 (shaL ROW) := ⟨_, rfl⟩
    have H8 := Lib.hid (h8.drew HF.out)
    have H8F := Lib.hid (And.intro hfar8 hE8)
    have HROW := Lib.hid (And.intro hROW hES)
    clear h8 hfar8 hE8 hROW hES H7 hq6
    refine wpIn_region_growL (Grow.open_wide _ _) (fun W W' => Below W.heap.size W W') (Grow.nth [fun v _ => v = .func (.yield l) #[] #[], fun v _ => v = .slice (some ⟨g7, 0, none⟩) 41 c7, fun v _ => v = .slice (some ⟨g7, 0, none⟩) 41 c7, fun v W => ∃ q, v = .slice (some ⟨q, 0, none⟩) 1 1 ∧ Rws W (fun _ => True) (some ⟨q, 0, none⟩) 1 1 [ROW], fun v _ => v = .agg ES]) 60 (by kernel_rfl) (by kernel_rfl) (by kernel_rfl) (by kernel_rfl) (by rfl) (fun W => Below.refl _ W) (fun _ _ _ h1 h2 => h1.trans (h2.mono h1.size)) (Grow.mono_nth ?gmono) 5 (by rfl) (by rfl) (by rfl) ?gsteps ?gfin
    case gmono => exact ⟨fun _ _ _ h _ => h, fun _ _ _ h _ => h, fun _ _ _ h _ => h, fun _ _ _ ⟨q, h1, h2⟩ hg => ⟨q, h1, h2.below hg⟩, fun _ _ _ h _ => h, trivial⟩
    case gsteps =>
      show Grow.allBelow _ 5
      refine And.intro ?_ ?s4
      refine And.intro ?_ ?s3
      refine And.intro ?_ ?s2
      refine And.intro ?_ ?s1
      refine And.intro ?_ ?s0
      exact trivial
      case s0 =>
        refine Grow.step_in (by rfl) (by rfl) ?_
        intro E W ec eg ef hG hd hu R HR
        have e5 : E (.tmp 5) = .pointer (some ⟨q5, 0, none⟩) := hu 5 (by kernel_rfl)
        clear hd hu
        have hb : Boxed W q5 88 (.func (.yield l) #[] #[]) := (hG.block _ H8.out.x5.lt).trans H8.out.x5
        have hc := hb.cell
        go_simp
        exact HR.out _ _ (Below.refl _ _) rfl
      case s1 =>
        refine Grow.step_in (by rfl) (by rfl) ?_
        intro E W ec eg ef hG hd hu R HR
        have e6 : E (.tmp 6) = .pointer (some ⟨q6, 0, none⟩) := hu 6 (by kernel_rfl)
        clear hd hu
        have hb : Boxed W q6 22 (.slice (some ⟨g7, 0, none⟩) 41 c7) := (hG.block _ H8.out.x6.lt).trans H8.out.x6
        have hc := hb.cell
        go_simp
        exact HR.out _ _ (Below.refl _ _) rfl
      case s2 =>
        refine Grow.step_in (by rfl) (by rfl) ?_
        intro E W ec eg ef hG hd hu R HR
        have e6 : E (.tmp 6) = .pointer (some ⟨q6, 0, none⟩) := hu 6 (by kernel_rfl)
        clear hd hu
        have hb : Boxed W q6 22 (.slice (some ⟨g7, 0, none⟩) 41 c7) := (hG.block _ H8.out.x6.lt).trans H8.out.x6
        have hc := hb.cell
        go_simp
        exact HR.out _ _ (Below.refl _ _) rfl
      case s3 =>
        refine Grow.step_in (by rfl) (by rfl) ?_
        intro E W ec eg ef hG hd hu R HR
        have e56 : E (.tmp 56) = .slice (some ⟨g7, 0, none⟩) 41 c7 := hd 2 56 (by kernel_rfl)
        clear hd hu
        go_simp
        exact HR.out _ _ ((Below.refl _ _).alloc (Nat.le_refl _) _) ⟨W.heap.size, rfl, rws_made (H8.out.row.below hG) (fun _ _ => trivial) trivial⟩
      case s4 =>
        refine Grow.step_in (by rfl) (by rfl) ?_
        intro E W ec eg ef hG hd hu R HR
        have h57 := hd 3 57 (by kernel_rfl)
        clear hd hu
        obtain ⟨q, e57, hR⟩ := h57
        go_simp
        refine (of_any hR (H8.out.b.tab.below hG) (by rw [HROW.out.1]; simp only [List.flatten_cons, List.flatten_nil, List.append_nil, List.length_cons, List.length_append, le8_length, H8.out.sz]; omega)).mono ?_
        rintro _ w' ⟨rfl, hb⟩
        exact ⟨_, rfl, HR.out _ _ hb (show Value.agg _ = Value.agg ES by rw [HROW.out.2]; simp [row8])⟩
    case gfin =>
      intro W hG
      refine Grow.fin_dst (by rfl) ?_
      rintro _ rfl
      refine Grow.fin_dst (by rfl) ?_
      rintro _ rfl
      refine Grow.fin_dst (by rfl) ?_
      rintro _ rfl
      refine Grow.fin_dst (by rfl) ?_
      rintro _ ⟨_, rfl, _⟩
      refine Grow.fin_dst (by rfl) ?_
      rintro _ rfl
      simp only [Act.put, List.setIfInBounds_toArray, List.set_cons_zero, List.set_cons_succ]
      refine Grow.fin_end ?_
      have h9 := H8.out.below HF.out hG
      have hlw : opre.length = P.way.length + 1 := by rw [HD.out.2.1, HN.out.2.2.2.1]
      have hrr : P.R[opre.length]?.getD [] = ROW := by rw [hlw, HN.out.2.2.1, climbRows_last HN.out.2.2.2.1, HROW.out.1, HT.out]
      have hll : P.R.length = P.way.length + 2 := by rw [HN.out.2.2.1]; exact climbRows_length HN.out.2.2.2.1
      have hxx : climbX P.R (newD Dn w8.drew W) (opre ++ [((some ⟨g7, 0, none⟩, 41, c7), shaL ROW)]) W := climbX_snoc h9.b.xx (by omega) (by rw [hrr]; exact h9.row) (by rw [hrr])
      obtain ⟨fn, tmps, assign, body, hy, hR⟩ := HY.out _ _ _ W h9.b.bnd h9.b.j (climbX_mono hxx fun _ h => .inl h)
      have HR := Lib.hid hR
      simp only [clE] at hy
      rw [← HROW.out.2] at hy
      have H9 := Lib.hid (And.intro h9 (And.intro hxx (And.intro (show (opre ++ [(((some ⟨g7, 0, none⟩, 41, c7) : SlV), shaL ROW)]).length = P.R.length by simp; omega) hG)))
      clear hR h9 hlw hrr hll hxx hG
      gi_wp2
      refine HR.out.mono ?_
      have hfar9 : ¬ newD Dn w8.drew W E := fun hb => by
        have h2 := HD.out.2.2.2.2
        have h3 := (Array.getElem?_eq_some_iff.1 H8F.out.2).1
        rcases hb with hb | hb
        · have := H8F.out.1 E hb
          omega
        · have h4 : w8.drew.heap.size = w8.heap.size := rfl
          omega
      have hBE : P.B ≤ E := by have h1 := HFX.out.1; have h2 := HSZ.out.1; have h3 := HD.out.2.2.2.2; omega
      have hEW : W.heap[E]? = some (.deferred (some [])) := (H9.out.2.2.2.block _ (Array.getElem?_eq_some_iff.1 H8F.out.2).1).trans H8F.out.2
      rintro e w9 (⟨rfl, hJ9, hk9⟩ | ⟨rfl, hJx9, hk9⟩)
      · have hE9 := hk9.keeps.same E _ hBE hEW rfl
        have HFN : Hid (∃ D, Bounds P.B D (w9.putObj E (.deferred none)) ∧ climbX P.R D (opre ++ [(((some ⟨g7, 0, none⟩, 41, c7) : SlV), shaL ROW)]) (w9.putObj E (.deferred none)) ∧ P.J D (opre ++ [(((some ⟨g7, 0, none⟩, 41, c7) : SlV), shaL ROW)]) (w9.putObj E (.deferred none))) := Lib.hid
          (cl_fin HF.out.st (H9.out.1.b.bnd.grow hk9.turned.size) (climbX_turned H9.out.2.1 hk9.turned (fun _ hb hn => hn (.inl (.inl hb)))) hJ9 hE9 hBE hfar9 _)
        have HK := Lib.hid hE9
        clear hJ9 hk9 hy HR hE9 hEW hBE hfar9
        gi_wp2
        refine ⟨by simp, .inl ⟨_, _, rfl, run_takeDeferred HK.out, ?_⟩⟩
        obtain ⟨D, hB, hx, hj⟩ := HFN.out
        exact ⟨_, results_none rfl _ _ _, ⟨_, rfl⟩, D, hB, .inl ⟨_, H9.out.2.2.1, hx, hj⟩⟩
      · have hE9 := hk9.keeps.same E _ hBE hEW rfl
        have HFN : Hid (∃ D, Bounds P.B D (w9.putObj E (.deferred none)) ∧ climbX P.R D (opre ++ [(((some ⟨g7, 0, none⟩, 41, c7) : SlV), shaL ROW)]) (w9.putObj E (.deferred none)) ∧ Jx D (opre ++ [(((some ⟨g7, 0, none⟩, 41, c7) : SlV), shaL ROW)]) (w9.putObj E (.deferred none))) := Lib.hid
          (cl_fin HJX.out (H9.out.1.b.bnd.grow hk9.turned.size) (climbX_turned H9.out.2.1 hk9.turned (fun _ hb hn => hn (.inl (.inl hb)))) hJx9 hE9 hBE hfar9 _)
        have HK := Lib.hid hE9
        clear hJx9 hk9 hy HR hE9 hEW hBE hfar9
        gi_wp2
        refine ⟨by simp, .inl ⟨_, _, rfl, run_takeDeferred HK.out, ?_⟩⟩
        obtain ⟨D, hB, hx, hj⟩ := HFN.out
        exact ⟨_, results_none rfl _ _ _, ⟨_, rfl⟩, D, hB, .inr ⟨_, hx, hj⟩⟩
  case body =>
    rintro l' Db pre x a' W' hl hws hBd ⟨Dr', opre, s6, row, hs, hol, hx8, hfar⟩ ⟨r, hr⟩ rfl
    have hlb := HN.out.2.2.2.1
    have hkn : pre.length < P.way.length := by
      have h1 := congrArg List.length hr
      simp only [List.length_append, List.length_singleton] at h1
      omega
    have hup := upX_snoc (X0 := X0) x hkn
    obtain ⟨Y, hY⟩ : ∃ Y, Y = P.way[pre.length]?.getD [] := ⟨_, rfl⟩
    obtain ⟨CUR, hCUR⟩ : ∃ CUR, CUR = upX pre (P.way.take pre.length) X0 := ⟨_, rfl⟩
    obtain ⟨ROW, hROW⟩ : ∃ ROW, ROW = pairR x.2 Y CUR := ⟨_, rfl⟩
    rw [← hCUR] at hs hup
    rw [← hY, ← hROW] at hup
    have hmid : P.R[pre.length + 1]?.getD [] = ROW := by
      rw [HN.out.2.2.1, climbRows_mid (x := x) (r := r) (ys := P.way.take pre.length) (zs := P.way.drop (pre.length + 1)) (y := Y) (by rw [← hr]; simp) (by rw [hY, List.getElem?_eq_getElem hkn, Option.getD_some, ← List.drop_eq_getElem_cons hkn, List.take_append_drop]) (by rw [List.length_take]; omega), hROW, hCUR, HX.out.1]
    have hRl : P.R.length = P.way.length + 2 := by rw [HN.out.2.2.1]; exact climbRows_length hlb
    have hnw : P.nw = P.way.length := hs.b.ids.len.symm
    have hY32 : Y.length = 32 := by rw [hY]; exact get32 hs.b.ids.each hkn
    obtain ⟨bw, ofw, hAw, _⟩ := hs.b.ids.row (by omega)
    obtain ⟨YS, hYS⟩ : ∃ YS, YS = row8 Y := ⟨_, rfl⟩
    obtain ⟨CS, hCS⟩ : ∃ CS, CS = row8 CUR := ⟨_, rfl⟩
    obtain ⟨KK, hKK⟩ : ∃ KK, KK = pre.length := ⟨_, rfl⟩
    rw [← hKK] at hx8 hkn
    have HC : Hid (YS = row8 Y ∧ Y.length = 32 ∧ CS = row8 CUR ∧ CS.size = 32 ∧ P.way[KK]?.getD [] = Y ∧ KK < P.nw ∧ P.Aw = some ⟨bw, ofw, none⟩) := Lib.hid ⟨hYS, hY32, hCS, by rw [hCS, row8_size, hs.sz], by rw [hKK, ← hY], by omega, hAw⟩
    have hkn' : (KK : Int) < (P.nw : Int) := by omega
    have hq5 := (hs.b.bnd q5 (.inr hs.d.1)).1
    have hq6 := (hs.b.bnd q6 (.inr hs.d.2.1)).1
    have hq7 := (hs.b.bnd q7 (.inr hs.d.2.2)).1
    have hq68 := HSZ.out.2.1
    have hpp := HF.out.hp
    have HNE : Hid (P.p + 3 ≠ q6 ∧ q8 ≠ q6 ∧ q7 ≠ q6 ∧ q5 ≠ q6 ∧ q6 < W'.heap.size ∧ (∀ b, P.WS b → b ≠ q6) ∧ q5 ≠ q8 ∧ q6 ≠ q8 ∧ q7 ≠ q8 ∧ q5 ≠ q7) := Lib.hid ⟨by omega, by omega, fun e => hs.ne.2.2 e.symm, hs.ne.1, hs.x6.lt, fun b hb e => by have := HF.out.ws b hb; omega, by omega, by omega, by omega, hs.ne.2.1⟩
    have HB : Hid (ClS P l q5 q6 q7 Dr' (orD (orD Dx (· = q8)) Db) opre s6 row CUR W' ∧ Boxed W' q8 3 (.int .i64 (KK : Int))) := Lib.hid ⟨hs, hx8⟩
    have HBD : Hid (ClS P l q5 q6 q7 Dr' (orD (orD Dx (· = q8)) Db) opre s6 row CUR W'.drew ∧ Boxed W'.drew q8 3 (.int .i64 (KK : Int))) := Lib.hid ⟨hs.drew HF.out, hx8⟩
    have HP : Hid (opre.length = KK + 1 ∧ P.R[KK + 1]?.getD [] = ROW ∧ P.R.length = P.way.length + 2 ∧ KK < P.way.length ∧ upX (pre ++ [x]) (P.way.take (pre ++ [x]).length) X0 = shaL ROW ∧ KK = pre.length) := Lib.hid ⟨by omega, by rw [hKK]; exact hmid, hRl, hkn, hup, hKK⟩
    have HFR := Lib.hid (And.intro hfar (And.intro hws hBd))
    have HROW := Lib.hid hROW
    clear hs hx8 hup hmid hRl hnw hY32 hAw hYS hCS hKK hq5 hq6 hq7 hq68 hpp hY hCUR hROW hr hlb hfar hws hBd hkn hol
    by_cases hodd : x.2 % 2 = 0
    · have ht2 : ((x.2 : Int) % 2 == 0) = true := by simp; omega
      have hpr : ROW = 1 :: (Y ++ CUR) := by rw [HROW.out, pairR, if_pos hodd]
      have HPR := Lib.hid hpr
      clear hpr
      gi_wp2
      refine wpIn_region_growF (Grow.open_round _ _ _) (G6 q6 W'.heap.size ROW) (Grow.nth [fun v _ => v = .slice (some ⟨bw, ofw, none⟩) P.nw P.cw, fun v _ => v = .int .i64 (KK : Int), fun v _ => v = .pointer (some ⟨bw, ofw + KK * 32, none⟩), fun v _ => v = .agg YS, fun v _ => v = .agg CS, fun v W => ∃ q c', v = .slice (some ⟨q, 0, none⟩) 65 c' ∧ Byt W (W'.heap.size ≤ ·) (some ⟨q, 0, none⟩) 65 c' ROW, fun _ W => P6 q6 W'.heap.size ROW W]) 60 (by kernel_rfl) (by kernel_rfl) (by kernel_rfl) (by rfl) (G6.refl _ _ _) (fun _ _ _ h1 h2 => h1.trans h2) (Grow.mono_nth ?gmono) ?gsteps ?gfin
      case gmono => exact ⟨fun _ _ _ h _ => h, fun _ _ _ h _ => h, fun _ _ _ h _ => h, fun _ _ _ h _ => h, fun _ _ _ h _ => h, fun _ _ _ ⟨q, c', h1, h2⟩ hg => ⟨q, c', h1, h2.turned hg.turned fun b _ hb e => by have := HNE.out.2.2.2.2.1; omega⟩, fun _ _ _ h g => g.p6 h, trivial⟩
      case gsteps =>
        show Grow.allBelow _ 7
        refine And.intro ?_ ?s6
        refine And.intro ?_ ?s5
        refine And.intro ?_ ?s4
        refine And.intro ?_ ?s3
        refine And.intro ?_ ?s2
        refine And.intro ?_ ?s1
        refine And.intro ?_ ?s0
        exact trivial
        case s0 =>
          refine Grow.step_in (by rfl) (by rfl) ?_
          intro E W ec eg ef hG hd hu R HR
          have e4 : E (.tmp 4) = .pointer (some ⟨P.p + 3, 0, none⟩) := hu 4 (by kernel_rfl)
          clear hd hu
          have hb := (hG.turned.block _ (lt_of_cells HBD.out.1.b.bw) HNE.out.1).trans HBD.out.1.b.bw
          have hc := cell_of_cells hb 0
          simp only [List.getElem?_toArray, List.getElem?_cons_zero] at hc
          rw [HC.out.2.2.2.2.2.2] at hc
          clear hb
          go_simp
          exact HR.out _ _ (G6.refl _ _ _ _) rfl
        case s1 =>
          refine Grow.step_in (by rfl) (by rfl) ?_
          intro E W ec eg ef hG hd hu R HR
          have e8 : E (.tmp 8) = .pointer (some ⟨q8, 0, none⟩) := hu 8 (by kernel_rfl)
          clear hd hu
          have hb : Boxed W q8 3 (.int .i64 (KK : Int)) := (hG.turned.block _ HBD.out.2.lt HNE.out.2.1).trans HBD.out.2
          have hc := hb.cell
          clear hb
          go_simp
          exact HR.out _ _ (G6.refl _ _ _ _) rfl
        case s2 =>
          refine Grow.step_in (by rfl) (by rfl) ?_
          intro E W ec eg ef hG hd hu R HR
          have e29 : E (.tmp 29) = .slice (some ⟨bw, ofw, none⟩) P.nw P.cw := hd 0 29 (by kernel_rfl)
          have e30 : E (.tmp 30) = .int .i64 (KK : Int) := hd 1 30 (by kernel_rfl)
          clear hd hu
          go_simp
          exact HR.out _ _ (G6.refl _ _ _ _) rfl
        case s3 =>
          refine Grow.step_in (by rfl) (by rfl) ?_
          intro E W ec eg ef hG hd hu R HR
          have e31 : E (.tmp 31) = .pointer (some ⟨bw, ofw + KK * 32, none⟩) := hd 2 31 (by kernel_rfl)
          clear hd hu
          exact runs_load_id (.tmp 31) rfl (by rw [← HC.out.2.2.2.2.2.2]; exact HBD.out.1.b.ids.turned hG.turned (fun b _ hb => HNE.out.2.2.2.2.2.1 b hb)) KK HC.out.2.2.2.2.2.1 YS (by rw [HC.out.2.2.2.2.1]; exact HC.out.1) _ rfl e31 (HR.out _ _ (G6.refl _ _ _ _) rfl)
        case s4 =>
          refine Grow.step_in (by rfl) (by rfl) ?_
          intro E W ec eg ef hG hd hu R HR
          have e7 : E (.tmp 7) = .pointer (some ⟨q7, 0, none⟩) := hu 7 (by kernel_rfl)
          clear hd hu
          exact runs_load 31 (.tmp 7) rfl q7 e7 CS (0, 0) (((hG.turned.block _ (lt_of_cells HBD.out.1.x7) HNE.out.2.2.1).trans HBD.out.1.x7).trans (by rw [HC.out.2.2.1])) Tryd.underlying31 (by rw [HC.out.2.2.2.1]; exact id_info) (HR.out _ _ (G6.refl _ _ _ _) rfl)
        case s5 =>
          refine Grow.step_in (by rfl) (by rfl) ?_
          intro E W ec eg ef hG hd hu R HR
          have e32 : E (.tmp 32) = .agg YS := hd 3 32 (by kernel_rfl)
          have e33 : E (.tmp 33) = .agg CS := hd 4 33 (by kernel_rfl)
          clear hd hu
          go_simp
          rw [HC.out.1, HC.out.2.2.1]
          refine (ofPair_any Y CUR HC.out.2.1 HBD.out.1.sz W).mono ?_
          rintro _ w' ⟨q, c', rfl, hy, hb⟩
          rw [← HPR.out] at hy
          exact ⟨_, rfl, HR.out _ _ (G6.of_below hb) ⟨q, c', rfl, hy.mono fun b _ h => Nat.le_trans hG.turned.size h⟩⟩
        case s6 =>
          refine Grow.step_in (by rfl) (by rfl) ?_
          intro E W ec eg ef hG hd hu R HR
          have e6 : E (.tmp 6) = .pointer (some ⟨q6, 0, none⟩) := hu 6 (by kernel_rfl)
          have h34 := hd 5 34 (by kernel_rfl)
          clear hd hu
          obtain ⟨q, c', e34, hY⟩ := h34
          obtain ⟨v, hv⟩ := hG.b6 ⟨_, HBD.out.1.x6⟩
          have hc := hv.cell
          have hf := hv.frozen
          have HV := Lib.hid hv
          clear hv
          go_simp
          have hq6 := HNE.out.2.2.2.2.1
          have hst : Turned (· = q6) W (W.setCell ⟨q6, 0, none⟩ (.slice (some ⟨q, 0, none⟩) 65 c')) := (Turned.refl (· = q6) W).set (p := q6) rfl _ _
          have hp : P6 q6 W'.heap.size ROW (W.setCell ⟨q6, 0, none⟩ (.slice (some ⟨q, 0, none⟩) 65 c')) := ⟨q, c', HV.out.set _, hY.turned hst (fun b _ hb e => by omega)⟩
          exact HR.out undef _ ⟨hst, fun _ => hp, fun _ => ⟨_, HV.out.set _⟩⟩ hp
      case gfin =>
        intro W hG
        refine Grow.fin_dst (by rfl) ?_
        rintro _ rfl
        refine Grow.fin_dst (by rfl) ?_
        rintro _ rfl
        refine Grow.fin_dst (by rfl) ?_
        rintro _ rfl
        refine Grow.fin_dst (by rfl) ?_
        rintro _ rfl
        refine Grow.fin_dst (by rfl) ?_
        rintro _ rfl
        refine Grow.fin_dst (by rfl) ?_
        rintro _ ⟨_, _, rfl, _⟩
        refine Grow.fin_told (by rfl) ?_
        rintro ⟨_, hK⟩
        simp only [Act.put, List.setIfInBounds_toArray, List.set_cons_zero, List.set_cons_succ]
        refine Grow.fin_end ?_
        obtain ⟨g6, c6, hbx6, hy6⟩ := hK
        have ht6 := hG.turned
        have h6 := HBD.out.1.turn HF.out (ht6.mono (fun b _ e => by rw [e]; exact HBD.out.1.d.2.1)) ((ht6.block _ HBD.out.1.x5.lt HNE.out.2.2.2.1).trans HBD.out.1.x5) (s6' := (some ⟨g6, 0, none⟩, 65, c6)) hbx6 ((ht6.block _ (lt_of_cells HBD.out.1.x7) HNE.out.2.2.1).trans HBD.out.1.x7) (hy6.mono (T := newD Dr' W'.drew W) fun b hb h => .inr ⟨h, hb⟩) HBD.out.1.sz
        have hx86 : Boxed W q8 3 (.int .i64 (KK : Int)) := (ht6.block _ HBD.out.2.lt HNE.out.2.1).trans HBD.out.2
        have hk6 : Kept w5.heap.size Db (fun _ => False) W' W := Kept.of_turned (q := q6) ⟨ht6.os, ht6.tape, ht6.output, ht6.size, ht6.block⟩ HBD.out.1.x6 (fun hd => by have h1 := (HFR.out.2.2 _ hd).1; have h2 := HSZ.out.2.1.1; have h3 := HSZ.out.1; omega) (fun h => h)
        have hws6 : w5.heap.size + 2 ≤ W.heap.size := Nat.le_trans HFR.out.2.1 ht6.size
        have hbA : Below W.heap.size W (W.alloc (.cells #[.slice (some ⟨g6, 0, none⟩) 65 c6] 22)) := (Below.refl _ _).alloc (Nat.le_refl _) _
        have hof := of_any (rws_one hy6) (h6.b.tab.below hbA) (by have h1 := hy6.len; simp only [List.flatten_cons, List.flatten_nil, List.append_nil]; omega)
        simp only [List.flatten_cons, List.flatten_nil, List.append_nil] at hof
        obtain ⟨NS, hNS⟩ : ∃ NS, NS = (u8s (shaL ROW)).toArray := ⟨_, rfl⟩
        rw [← hNS] at hof
        have HNS : Hid (NS = row8 (shaL ROW) ∧ NS.size = 32 ∧ NS.all (·.oneCell') = true) := Lib.hid ⟨hNS, by rw [hNS]; simp [u8s_length, shaL_length], by rw [hNS]; exact row8_one _⟩
        have H6 := Lib.hid (And.intro h6 (And.intro hx86 (And.intro hk6 (And.intro hws6 hbA))))
        have hc6 := hbx6.cell
        clear hG ht6 h6 hx86 hk6 hws6 hbA hNS hy6 hbx6 HBD HB
        gi_wp2_with (first
          | (refine ⟨trivial, ?_⟩; gi_at_call 28; refine (CallsIn.inRound l' (callsIn_wide.2 hof)).mono ?_; clear hof hc6; rintro _ w7 ⟨rfl, hb7⟩
             have hb67 := H6.out.2.2.2.2.trans (hb7.mono H6.out.2.2.2.2.size)
             have h7 := H6.out.1.below HF.out hb67
             have H7 : Hid (ClS P l q5 q6 q7 (newD (newD Dr' W'.drew W) W w7) (orD (orD Dx (· = q8)) Db) opre (some ⟨g6, 0, none⟩, 65, c6) ROW CUR w7 ∧ Boxed w7 q8 3 (.int .i64 (KK : Int)) ∧ Kept w5.heap.size Db (fun _ => False) W' w7 ∧ w5.heap.size + 2 ≤ w7.heap.size) := Lib.hid ⟨h7, (hb67.block _ H6.out.2.1.lt).trans H6.out.2.1, H6.out.2.2.1.trans (Kept.of_below hb67), Nat.le_trans H6.out.2.2.2.1 hb67.size⟩
             clear hb7 hb67 h7)
          | (refine wpListIn_store_row (by rfl) 31 (.tmp 7) (.tmp 43) (by rfl) q7 NS (by rfl) (by rfl) 31 CS (H7.out.1.x7.trans (by rw [HC.out.2.2.1])) (by rw [HNS.out.2.1]; exact id_info) (by rw [HNS.out.2.1]; exact HC.out.2.2.2.1) HNS.out.2.2 ?_
             have hst7 : Turned (· = q7) w7 (w7.setRow q7 NS) := turned_setRow NS
             have h8 := H7.out.1.turn HF.out (hst7.mono (fun b _ e => by rw [e]; exact H7.out.1.d.2.2)) ((hst7.block _ H7.out.1.x5.lt HNE.out.2.2.2.2.2.2.2.2.2).trans H7.out.1.x5) (s6' := (some ⟨g6, 0, none⟩, 65, c6)) ((hst7.block _ H7.out.1.x6.lt (fun e => HNE.out.2.2.1 e.symm)).trans H7.out.1.x6) ((setRow_at H7.out.1.x7).trans (by rw [HNS.out.1])) ((H7.out.1.row.turned hst7 (fun b _ hb e => H7.out.1.b.dis b hb (by rw [e]; exact H7.out.1.d.2.2))).mono fun b _ hb => .inl hb) (shaL_length ROW)
             have hx88 : Boxed (w7.setRow q7 NS) q8 3 (.int .i64 (KK : Int)) := (hst7.block _ H7.out.2.1.lt (fun e => HNE.out.2.2.2.2.2.2.2.2.1 e.symm)).trans H7.out.2.1
             have hk8 : Kept w5.heap.size Db (fun _ => False) W' (w7.setRow q7 NS) := H7.out.2.2.1.trans (Kept.of_turned (q := q7) hst7 H7.out.1.x7 (fun hd => by have h1 := (HFR.out.2.2 _ hd).1; have h2 := HSZ.out.2.1.2.1; have h3 := HSZ.out.1; omega) (fun h => h))
             have hws8 : w5.heap.size + 2 ≤ (w7.setRow q7 NS).heap.size := Nat.le_trans H7.out.2.2.2 hst7.size
             have hfar8 := far_new (W' := w7.setRow q7 NS) (far_new (W' := w7) (far_new (W := W'.drew) (W' := W) HFR.out.1 HFR.out.2.1) H6.out.2.2.2.1) H7.out.2.2.2
             generalize newD (newD (newD Dr' W'.drew W) W w7) w7 (w7.setRow q7 NS) = D8 at h8 hfar8
             generalize w7.setRow q7 NS = w8 at *
             clear hst7 H7 H6
             have hxx := climbX_snoc h8.b.xx (x := (((some ⟨g6, 0, none⟩, 65, c6) : SlV), shaL ROW)) (by have h1 := HP.out.1; have h2 := HP.out.2.2.1; have h3 := HP.out.2.2.2.1; omega) (by rw [HP.out.1, HP.out.2.1]; exact h8.row) (by rw [HP.out.1, HP.out.2.1])
             obtain ⟨fn, tmps, assign, body, hy, hR⟩ := HY.out _ _ _ w8 h8.b.bnd h8.b.j (climbX_mono hxx fun _ h => .inl h)
             have HR := Lib.hid hR
             simp only [clE] at hy
             rw [← HNS.out.1] at hy
             have hc5 := h8.x5.cell
             have hc6 := h8.x6.cell
             have H8 := Lib.hid (And.intro h8 (And.intro hx88 (And.intro hk8 (And.intro hws8 (And.intro hfar8 hxx)))))
             clear hR h8 hx88 hk8 hws8 hfar8 hxx)
          | (refine wpListIn_load_row (by rfl) 31 (.tmp 7) (by rfl) q7 (by rfl) 31 NS (0, 0) _ (H8.out.1.x7.trans (by rw [HNS.out.1])) Tryd.underlying31 (by rfl) (by rw [HNS.out.2.1]; exact id_info) ?_))
        refine RoundIn.mono (RoundIn.wideIn l' HR.out) ?_
        have hBb : P.B ≤ w5.heap.size := by have h1 := HFX.out.1; have h2 := HSZ.out.1; omega
        rintro e w9 (⟨rfl, hJ9, hk9⟩ | ⟨rfl, hJx9, hk9⟩)
        · have h9 := H8.out.1.kept HF.out hk9 hJ9 H8.out.2.2.2.2.2
          have hx89 := Boxed.kept2 H8.out.2.1 hk9 (.inr (.inl (.inr rfl)))
          have hk89 := H8.out.2.2.1.trans (hk9.inner (B' := w5.heap.size) (D' := Db) (K' := fun _ => False) hBb (fun b h => .inr (.inr h)) (fun _ h => h.elim))
          have hc8 := hx89.cell
          have hf8 := hx89.frozen
          have hw := IntWalk.i64_in ((KK : Int) + 1) (by have h1 := HP.out.2.2.2.1; have h2 := HC.out.2.2.2.2.2.1; have h3 := h9.b.ids.cap; have h4 := h9.b.ids.max; unfold maxLen at h4; omega)
          have hws9 : w5.heap.size + 2 ≤ w9.heap.size := Nat.le_trans H8.out.2.2.2.1 hk9.turned.size
          have H9 := Lib.hid (And.intro h9 (And.intro hx89 (And.intro hk89 hws9)))
          clear h9 hx89 hk89 hJ9 hk9 hy HR hc5 hc6 hws9
          gi_wp2
          have hst8 : Turned (· = q8) w9 (w9.setCell ⟨q8, 0, none⟩ (.int .i64 ((KK : Int) + 1))) := (Turned.refl (· = q8) w9).set (p := q8) rfl _ _
          have hne := HNE.out.2.2.2.2.2.2
          refine ⟨H9.out.2.2.1.trans (Kept.of_turned (q := q8) hst8 H9.out.2.1 (fun hd => by have h1 := (HFR.out.2.2 _ hd).1; have h3 := HSZ.out.1; omega) (fun h => h)), _, opre ++ [(((some ⟨g6, 0, none⟩, 65, c6) : SlV), shaL ROW)], (some ⟨g6, 0, none⟩, 65, c6), ROW, ?_, ?_, ?_, far_new (W := w9) (W' := w9.setCell ⟨q8, 0, none⟩ (.int .i64 ((KK : Int) + 1))) H8.out.2.2.2.2.1 H9.out.2.2.2⟩
          · rw [HP.out.2.2.2.2.1]
            exact H9.out.1.turn HF.out (hst8.mono (fun b _ e => .inl (.inr e))) ((hst8.block _ H9.out.1.x5.lt hne.1).trans H9.out.1.x5) (s6' := (some ⟨g6, 0, none⟩, 65, c6)) ((hst8.block _ H9.out.1.x6.lt hne.2.1).trans H9.out.1.x6) ((hst8.block _ (lt_of_cells H9.out.1.x7) hne.2.2.1).trans H9.out.1.x7) ((H9.out.1.row.turned hst8 (fun b _ hb e => H9.out.1.b.dis b hb (.inl (.inr e)))).mono fun b _ hb => .inl hb) H9.out.1.sz
          · have h1 := HP.out.1
            have h2 := HP.out.2.2.2.2.2
            simp
            omega
          · have h1 := H9.out.2.1.set (.int .i64 ((KK : Int) + 1))
            have h2 : (((pre ++ [x]).length : Nat) : Int) = (KK : Int) + 1 := by
              have h3 := HP.out.2.2.2.2.2
              simp
              omega
            rw [h2]
            exact h1
        · have hk89 := H8.out.2.2.1.trans (hk9.inner (B' := w5.heap.size) (D' := Db) (K' := fun _ => False) hBb (fun b h => .inr (.inr h)) (fun _ h => h.elim))
          have hclx : ClX P Jx w5.heap.size _ (orD (orD Dx (· = q8)) Db) (opre ++ [(((some ⟨g6, 0, none⟩, 65, c6) : SlV), shaL ROW)]) w9 := ⟨Nat.le_trans H8.out.1.b.bs hk9.turned.size, H8.out.1.b.bnd.grow hk9.turned.size, H8.out.1.b.dis, climbX_turned H8.out.2.2.2.2.2 hk9.turned (fun _ hb hn => hn (.inl (.inl hb))), hJx9, H8.out.2.2.2.2.1⟩
          have HXF := Lib.hid (And.intro hk89 hclx)
          clear hclx hJx9 hk9 hy HR hc5 hc6 hk89
          gi_wp2
          exact ⟨HXF.out.1, rfl, _, _, HXF.out.2⟩
    · have ht2 : ((x.2 : Int) % 2 == 0) = false := by simp; omega
      have hpr : ROW = 1 :: (CUR ++ Y) := by rw [HROW.out, pairR, if_neg hodd]
      have HPR := Lib.hid hpr
      clear hpr
      gi_wp2
      refine wpIn_region_growF (Grow.open_round _ _ _) (G6 q6 W'.heap.size ROW) (Grow.nth [fun v _ => v = .agg CS, fun v _ => v = .slice (some ⟨bw, ofw, none⟩) P.nw P.cw, fun v _ => v = .int .i64 (KK : Int), fun v _ => v = .pointer (some ⟨bw, ofw + KK * 32, none⟩), fun v _ => v = .agg YS, fun v W => ∃ q c', v = .slice (some ⟨q, 0, none⟩) 65 c' ∧ Byt W (W'.heap.size ≤ ·) (some ⟨q, 0, none⟩) 65 c' ROW, fun _ W => P6 q6 W'.heap.size ROW W]) 60 (by kernel_rfl) (by kernel_rfl) (by kernel_rfl) (by rfl) (G6.refl _ _ _) (fun _ _ _ h1 h2 => h1.trans h2) (Grow.mono_nth ?gmono) ?gsteps ?gfin
      case gmono => exact ⟨fun _ _ _ h _ => h, fun _ _ _ h _ => h, fun _ _ _ h _ => h, fun _ _ _ h _ => h, fun _ _ _ h _ => h, fun _ _ _ ⟨q, c', h1, h2⟩ hg => ⟨q, c', h1, h2.turned hg.turned fun b _ hb e => by have := HNE.out.2.2.2.2.1; omega⟩, fun _ _ _ h g => g.p6 h, trivial⟩
      case gsteps =>
        show Grow.allBelow _ 7
        refine And.intro ?_ ?s6
        refine And.intro ?_ ?s5
        refine And.intro ?_ ?s4
        refine And.intro ?_ ?s3
        refine And.intro ?_ ?s2
        refine And.intro ?_ ?s1
        refine And.intro ?_ ?s0
        exact trivial
        case s0 =>
          refine Grow.step_in (by rfl) (by rfl) ?_
          intro E W ec eg ef hG hd hu R HR
          have e7 : E (.tmp 7) = .pointer (some ⟨q7, 0, none⟩) := hu 7 (by kernel_rfl)
          clear hd hu
          exact runs_load 31 (.tmp 7) rfl q7 e7 CS (0, 0) (((hG.turned.block _ (lt_of_cells HBD.out.1.x7) HNE.out.2.2.1).trans HBD.out.1.x7).trans (by rw [HC.out.2.2.1])) Tryd.underlying31 (by rw [HC.out.2.2.2.1]; exact id_info) (HR.out _ _ (G6.refl _ _ _ _) rfl)
        case s1 =>
          refine Grow.step_in (by rfl) (by rfl) ?_
          intro E W ec eg ef hG hd hu R HR
          have e4 : E (.tmp 4) = .pointer (some ⟨P.p + 3, 0, none⟩) := hu 4 (by kernel_rfl)
          clear hd hu
          have hb := (hG.turned.block _ (lt_of_cells HBD.out.1.b.bw) HNE.out.1).trans HBD.out.1.b.bw
          have hc := cell_of_cells hb 0
          simp only [List.getElem?_toArray, List.getElem?_cons_zero] at hc
          rw [HC.out.2.2.2.2.2.2] at hc
          clear hb
          go_simp
          exact HR.out _ _ (G6.refl _ _ _ _) rfl
        case s2 =>
          refine Grow.step_in (by rfl) (by rfl) ?_
          intro E W ec eg ef hG hd hu R HR
          have e8 : E (.tmp 8) = .pointer (some ⟨q8, 0, none⟩) := hu 8 (by kernel_rfl)
          clear hd hu
          have hb : Boxed W q8 3 (.int .i64 (KK : Int)) := (hG.turned.block _ HBD.out.2.lt HNE.out.2.1).trans HBD.out.2
          have hc := hb.cell
          clear hb
          go_simp
          exact HR.out _ _ (G6.refl _ _ _ _) rfl
        case s3 =>
          refine Grow.step_in (by rfl) (by rfl) ?_
          intro E W ec eg ef hG hd hu R HR
          have e36 : E (.tmp 36) = .slice (some ⟨bw, ofw, none⟩) P.nw P.cw := hd 1 36 (by kernel_rfl)
          have e37 : E (.tmp 37) = .int .i64 (KK : Int) := hd 2 37 (by kernel_rfl)
          clear hd hu
          go_simp
          exact HR.out _ _ (G6.refl _ _ _ _) rfl
        case s4 =>
          refine Grow.step_in (by rfl) (by rfl) ?_
          intro E W ec eg ef hG hd hu R HR
          have e38 : E (.tmp 38) = .pointer (some ⟨bw, ofw + KK * 32, none⟩) := hd 3 38 (by kernel_rfl)
          clear hd hu
          exact runs_load_id (.tmp 38) rfl (by rw [← HC.out.2.2.2.2.2.2]; exact HBD.out.1.b.ids.turned hG.turned (fun b _ hb => HNE.out.2.2.2.2.2.1 b hb)) KK HC.out.2.2.2.2.2.1 YS (by rw [HC.out.2.2.2.2.1]; exact HC.out.1) _ rfl e38 (HR.out _ _ (G6.refl _ _ _ _) rfl)
        case s5 =>
          refine Grow.step_in (by rfl) (by rfl) ?_
          intro E W ec eg ef hG hd hu R HR
          have e35 : E (.tmp 35) = .agg CS := hd 0 35 (by kernel_rfl)
          have e39 : E (.tmp 39) = .agg YS := hd 4 39 (by kernel_rfl)
          clear hd hu
          go_simp
          rw [HC.out.1, HC.out.2.2.1]
          refine (ofPair_any CUR Y HBD.out.1.sz HC.out.2.1 W).mono ?_
          rintro _ w' ⟨q, c', rfl, hy, hb⟩
          rw [← HPR.out] at hy
          exact ⟨_, rfl, HR.out _ _ (G6.of_below hb) ⟨q, c', rfl, hy.mono fun b _ h => Nat.le_trans hG.turned.size h⟩⟩
        case s6 =>
          refine Grow.step_in (by rfl) (by rfl) ?_
          intro E W ec eg ef hG hd hu R HR
          have e6 : E (.tmp 6) = .pointer (some ⟨q6, 0, none⟩) := hu 6 (by kernel_rfl)
          have h40 := hd 5 40 (by kernel_rfl)
          clear hd hu
          obtain ⟨q, c', e40, hY⟩ := h40
          obtain ⟨v, hv⟩ := hG.b6 ⟨_, HBD.out.1.x6⟩
          have hc := hv.cell
          have hf := hv.frozen
          have HV := Lib.hid hv
          clear hv
          go_simp
          have hq6 := HNE.out.2.2.2.2.1
          have hst : Turned (· = q6) W (W.setCell ⟨q6, 0, none⟩ (.slice (some ⟨q, 0, none⟩) 65 c')) := (Turned.refl (· = q6) W).set (p := q6) rfl _ _
          have hp : P6 q6 W'.heap.size ROW (W.setCell ⟨q6, 0, none⟩ (.slice (some ⟨q, 0, none⟩) 65 c')) := ⟨q, c', HV.out.set _, hY.turned hst (fun b _ hb e => by omega)⟩
          exact HR.out undef _ ⟨hst, fun _ => hp, fun _ => ⟨_, HV.out.set _⟩⟩ hp
      case gfin =>
        intro W hG
        refine Grow.fin_dst (by rfl) ?_
        rintro _ rfl
        refine Grow.fin_dst (by rfl) ?_
        rintro _ rfl
        refine Grow.fin_dst (by rfl) ?_
        rintro _ rfl
        refine Grow.fin_dst (by rfl) ?_
        rintro _ rfl
        refine Grow.fin_dst (by rfl) ?_
        rintro _ rfl
        refine Grow.fin_dst (by rfl) ?_
        rintro _ ⟨_, _, rfl, _⟩
        refine Grow.fin_told (by rfl) ?_
        rintro ⟨_, hK⟩
        simp only [Act.put, List.setIfInBounds_toArray, List.set_cons_zero, List.set_cons_succ]
        refine Grow.fin_end ?_
        obtain ⟨g6, c6, hbx6, hy6⟩ := hK
        have ht6 := hG.turned
        have h6 := HBD.out.1.turn HF.out (ht6.mono (fun b _ e => by rw [e]; exact HBD.out.1.d.2.1)) ((ht6.block _ HBD.out.1.x5.lt HNE.out.2.2.2.1).trans HBD.out.1.x5) (s6' := (some ⟨g6, 0, none⟩, 65, c6)) hbx6 ((ht6.block _ (lt_of_cells HBD.out.1.x7) HNE.out.2.2.1).trans HBD.out.1.x7) (hy6.mono (T := newD Dr' W'.drew W) fun b hb h => .inr ⟨h, hb⟩) HBD.out.1.sz
        have hx86 : Boxed W q8 3 (.int .i64 (KK : Int)) := (ht6.block _ HBD.out.2.lt HNE.out.2.1).trans HBD.out.2
        have hk6 : Kept w5.heap.size Db (fun _ => False) W' W := Kept.of_turned (q := q6) ⟨ht6.os, ht6.tape, ht6.output, ht6.size, ht6.block⟩ HBD.out.1.x6 (fun hd => by have h1 := (HFR.out.2.2 _ hd).1; have h2 := HSZ.out.2.1.1; have h3 := HSZ.out.1; omega) (fun h => h)
        have hws6 : w5.heap.size + 2 ≤ W.heap.size := Nat.le_trans HFR.out.2.1 ht6.size
        have hbA : Below W.heap.size W (W.alloc (.cells #[.slice (some ⟨g6, 0, none⟩) 65 c6] 22)) := (Below.refl _ _).alloc (Nat.le_refl _) _
        have hof := of_any (rws_one hy6) (h6.b.tab.below hbA) (by have h1 := hy6.len; simp only [List.flatten_cons, List.flatten_nil, List.append_nil]; omega)
        simp only [List.flatten_cons, List.flatten_nil, List.append_nil] at hof
        obtain ⟨NS, hNS⟩ : ∃ NS, NS = (u8s (shaL ROW)).toArray := ⟨_, rfl⟩
        rw [← hNS] at hof
        have HNS : Hid (NS = row8 (shaL ROW) ∧ NS.size = 32 ∧ NS.all (·.oneCell') = true) := Lib.hid ⟨hNS, by rw [hNS]; simp [u8s_length, shaL_length], by rw [hNS]; exact row8_one _⟩
        have H6 := Lib.hid (And.intro h6 (And.intro hx86 (And.intro hk6 (And.intro hws6 hbA))))
        have hc6 := hbx6.cell
        clear hG ht6 h6 hx86 hk6 hws6 hbA hNS hy6 hbx6 HBD HB
        gi_wp2_with (first
          | (refine ⟨trivial, ?_⟩; gi_at_call 28; refine (CallsIn.inRound l' (callsIn_wide.2 hof)).mono ?_; clear hof hc6; rintro _ w7 ⟨rfl, hb7⟩
             have hb67 := H6.out.2.2.2.2.trans (hb7.mono H6.out.2.2.2.2.size)
             have h7 := H6.out.1.below HF.out hb67
             have H7 : Hid (ClS P l q5 q6 q7 (newD (newD Dr' W'.drew W) W w7) (orD (orD Dx (· = q8)) Db) opre (some ⟨g6, 0, none⟩, 65, c6) ROW CUR w7 ∧ Boxed w7 q8 3 (.int .i64 (KK : Int)) ∧ Kept w5.heap.size Db (fun _ => False) W' w7 ∧ w5.heap.size + 2 ≤ w7.heap.size) := Lib.hid ⟨h7, (hb67.block _ H6.out.2.1.lt).trans H6.out.2.1, H6.out.2.2.1.trans (Kept.of_below hb67), Nat.le_trans H6.out.2.2.2.1 hb67.size⟩
             clear hb7 hb67 h7)
          | (refine wpListIn_store_row (by rfl) 31 (.tmp 7) (.tmp 43) (by rfl) q7 NS (by rfl) (by rfl) 31 CS (H7.out.1.x7.trans (by rw [HC.out.2.2.1])) (by rw [HNS.out.2.1]; exact id_info) (by rw [HNS.out.2.1]; exact HC.out.2.2.2.1) HNS.out.2.2 ?_
             have hst7 : Turned (· = q7) w7 (w7.setRow q7 NS) := turned_setRow NS
             have h8 := H7.out.1.turn HF.out (hst7.mono (fun b _ e => by rw [e]; exact H7.out.1.d.2.2)) ((hst7.block _ H7.out.1.x5.lt HNE.out.2.2.2.2.2.2.2.2.2).trans H7.out.1.x5) (s6' := (some ⟨g6, 0, none⟩, 65, c6)) ((hst7.block _ H7.out.1.x6.lt (fun e => HNE.out.2.2.1 e.symm)).trans H7.out.1.x6) ((setRow_at H7.out.1.x7).trans (by rw [HNS.out.1])) ((H7.out.1.row.turned hst7 (fun b _ hb e => H7.out.1.b.dis b hb (by rw [e]; exact H7.out.1.d.2.2))).mono fun b _ hb => .inl hb) (shaL_length ROW)
             have hx88 : Boxed (w7.setRow q7 NS) q8 3 (.int .i64 (KK : Int)) := (hst7.block _ H7.out.2.1.lt (fun e => HNE.out.2.2.2.2.2.2.2.2.1 e.symm)).trans H7.out.2.1
             have hk8 : Kept w5.heap.size Db (fun _ => False) W' (w7.setRow q7 NS) := H7.out.2.2.1.trans (Kept.of_turned (q := q7) hst7 H7.out.1.x7 (fun hd => by have h1 := (HFR.out.2.2 _ hd).1; have h2 := HSZ.out.2.1.2.1; have h3 := HSZ.out.1; omega) (fun h => h))
             have hws8 : w5.heap.size + 2 ≤ (w7.setRow q7 NS).heap.size := Nat.le_trans H7.out.2.2.2 hst7.size
             have hfar8 := far_new (W' := w7.setRow q7 NS) (far_new (W' := w7) (far_new (W := W'.drew) (W' := W) HFR.out.1 HFR.out.2.1) H6.out.2.2.2.1) H7.out.2.2.2
             generalize newD (newD (newD Dr' W'.drew W) W w7) w7 (w7.setRow q7 NS) = D8 at h8 hfar8
             generalize w7.setRow q7 NS = w8 at *
             clear hst7 H7 H6
             have hxx := climbX_snoc h8.b.xx (x := (((some ⟨g6, 0, none⟩, 65, c6) : SlV), shaL ROW)) (by have h1 := HP.out.1; have h2 := HP.out.2.2.1; have h3 := HP.out.2.2.2.1; omega) (by rw [HP.out.1, HP.out.2.1]; exact h8.row) (by rw [HP.out.1, HP.out.2.1])
             obtain ⟨fn, tmps, assign, body, hy, hR⟩ := HY.out _ _ _ w8 h8.b.bnd h8.b.j (climbX_mono hxx fun _ h => .inl h)
             have HR := Lib.hid hR
             simp only [clE] at hy
             rw [← HNS.out.1] at hy
             have hc5 := h8.x5.cell
             have hc6 := h8.x6.cell
             have H8 := Lib.hid (And.intro h8 (And.intro hx88 (And.intro hk8 (And.intro hws8 (And.intro hfar8 hxx)))))
             clear hR h8 hx88 hk8 hws8 hfar8 hxx)
          | (refine wpListIn_load_row (by rfl) 31 (.tmp 7) (by rfl) q7 (by rfl) 31 NS (0, 0) _ (H8.out.1.x7.trans (by rw [HNS.out.1])) Tryd.underlying31 (by rfl) (by rw [HNS.out.2.1]; exact id_info) ?_))
        refine RoundIn.mono (RoundIn.wideIn l' HR.out) ?_
        have hBb : P.B ≤ w5.heap.size := by have h1 := HFX.out.1; have h2 := HSZ.out.1; omega
        rintro e w9 (⟨rfl, hJ9, hk9⟩ | ⟨rfl, hJx9, hk9⟩)
        · have h9 := H8.out.1.kept HF.out hk9 hJ9 H8.out.2.2.2.2.2
          have hx89 := Boxed.kept2 H8.out.2.1 hk9 (.inr (.inl (.inr rfl)))
          have hk89 := H8.out.2.2.1.trans (hk9.inner (B' := w5.heap.size) (D' := Db) (K' := fun _ => False) hBb (fun b h => .inr (.inr h)) (fun _ h => h.elim))
          have hc8 := hx89.cell
          have hf8 := hx89.frozen
          have hw := IntWalk.i64_in ((KK : Int) + 1) (by have h1 := HP.out.2.2.2.1; have h2 := HC.out.2.2.2.2.2.1; have h3 := h9.b.ids.cap; have h4 := h9.b.ids.max; unfold maxLen at h4; omega)
          have hws9 : w5.heap.size + 2 ≤ w9.heap.size := Nat.le_trans H8.out.2.2.2.1 hk9.turned.size
          have H9 := Lib.hid (And.intro h9 (And.intro hx89 (And.intro hk89 hws9)))
          clear h9 hx89 hk89 hJ9 hk9 hy HR hc5 hc6 hws9
          gi_wp2
          have hst8 : Turned (· = q8) w9 (w9.setCell ⟨q8, 0, none⟩ (.int .i64 ((KK : Int) + 1))) := (Turned.refl (· = q8) w9).set (p := q8) rfl _ _
          have hne := HNE.out.2.2.2.2.2.2
          refine ⟨H9.out.2.2.1.trans (Kept.of_turned (q := q8) hst8 H9.out.2.1 (fun hd => by have h1 := (HFR.out.2.2 _ hd).1; have h3 := HSZ.out.1; omega) (fun h => h)), _, opre ++ [(((some ⟨g6, 0, none⟩, 65, c6) : SlV), shaL ROW)], (some ⟨g6, 0, none⟩, 65, c6), ROW, ?_, ?_, ?_, far_new (W := w9) (W' := w9.setCell ⟨q8, 0, none⟩ (.int .i64 ((KK : Int) + 1))) H8.out.2.2.2.2.1 H9.out.2.2.2⟩
          · rw [HP.out.2.2.2.2.1]
            exact H9.out.1.turn HF.out (hst8.mono (fun b _ e => .inl (.inr e))) ((hst8.block _ H9.out.1.x5.lt hne.1).trans H9.out.1.x5) (s6' := (some ⟨g6, 0, none⟩, 65, c6)) ((hst8.block _ H9.out.1.x6.lt hne.2.1).trans H9.out.1.x6) ((hst8.block _ (lt_of_cells H9.out.1.x7) hne.2.2.1).trans H9.out.1.x7) ((H9.out.1.row.turned hst8 (fun b _ hb e => H9.out.1.b.dis b hb (.inl (.inr e)))).mono fun b _ hb => .inl hb) H9.out.1.sz
          · have h1 := HP.out.1
            have h2 := HP.out.2.2.2.2.2
            simp
            omega
          · have h1 := H9.out.2.1.set (.int .i64 ((KK : Int) + 1))
            have h2 : (((pre ++ [x]).length : Nat) : Int) = (KK : Int) + 1 := by
              have h3 := HP.out.2.2.2.2.2
              simp
              omega
            rw [h2]
            exact h1
        · have hk89 := H8.out.2.2.1.trans (hk9.inner (B' := w5.heap.size) (D' := Db) (K' := fun _ => False) hBb (fun b h => .inr (.inr h)) (fun _ h => h.elim))
          have hclx : ClX P Jx w5.heap.size _ (orD (orD Dx (· = q8)) Db) (opre ++ [(((some ⟨g6, 0, none⟩, 65, c6) : SlV), shaL ROW)]) w9 := ⟨Nat.le_trans H8.out.1.b.bs hk9.turned.size, H8.out.1.b.bnd.grow hk9.turned.size, H8.out.1.b.dis, climbX_turned H8.out.2.2.2.2.2 hk9.turned (fun _ hb hn => hn (.inl (.inl hb))), hJx9, H8.out.2.2.2.2.1⟩
          have HXF := Lib.hid (And.intro hk89 hclx)
          clear hclx hJx9 hk9 hy HR hc5 hc6 hk89
          gi_wp2
          exact ⟨HXF.out.1, rfl, _, _, HXF.out.2⟩

/-- ITS PROMISE. -/
theorem climb_iter (n i : Nat) (hn : n < 9223372036854775808) (hi : i < n) {LS WS K : Nat → Prop} {A Aw : Option Addr} {nl cl nw cw : Nat} {leaf : List UInt8} {way : List (List UInt8)} (p : Nat) {w : World} (hlen : (bes n 0 i).length = way.length)
    (hbn : w.heap[p]? = some (.cells #[.int .i64 (n : Int)] 3 (0, 0))) (hbi : w.heap[p + 1]? = some (.cells #[.int .i64 (i : Int)] 3 (0, 0)))
    (hbl : w.heap[p + 2]? = some (.cells #[.slice A nl cl] 22 (0, 0))) (hbw : w.heap[p + 3]? = some (.cells #[.slice Aw nw cw] 24 (0, 0)))
    (hids : Ids w WS Aw nw cw way) (htab : Tab w) (hleaf : Byt w LS A nl cl leaf) (hnl : nl ≤ 1000000) (hws : ∀ b, WS b → b < w.heap.size) (hKp : K p ∧ K (p + 1) ∧ K (p + 3)) (hKw : ∀ b, WS b → K b) (hKt : ∀ b, tabK b → K b) :
    Iter Tryd.prog 48 #[.pointer (some ⟨p + 2, 0, none⟩), .pointer (some ⟨p, 0, none⟩), .pointer (some ⟨p + 1, 0, none⟩), .pointer (some ⟨p + 3, 0, none⟩)] clE K (climbX (climbRows n i leaf way)) (fun xs => xs.length = (climbRows n i leaf way).length) w := by
  refine ⟨fun _ _ _ _ h ht => climbX_turned h ht (fun b hb hn => hn (.inl hb)), fun l J Jx W hW hJ hJx hY h0 => ?_⟩
  have hk : ∀ {b : Nat} {cs : Array Value} {t : TypeId} {f : Nat × Nat}, w.heap[b]? = some (.cells cs t f) → W.heap[b]? = some (.cells cs t f) := fun h => (hW.block _ (lt_of_cells h)).trans h
  have hsz := hW.size
  have hpl := lt_of_cells hbw
  refine callsIn_wide.1 ((climb1_any ⟨W.heap.size, p, n, i, WS, K, Aw, nw, cw, way, climbRows n i leaf way, J⟩ ⟨by show p + 3 < W.heap.size; omega, fun b hb => Nat.lt_of_lt_of_le (hws b hb) hsz, ⟨Nat.lt_of_lt_of_le htab.lt1 hsz, Nat.lt_of_lt_of_le htab.lt2 hsz⟩, hKp, hKw, hKt, hJ⟩ hn hi (LS := LS) (A := A) (nl := nl) (cl := cl) (leaf := leaf) l Jx (W := W) rfl rfl hlen (hk hbn) (hk hbi) (hk hbl) (hk hbw) (hids.below hW) (htab.below hW) (hleaf.below hW) hnl (fun D pre x W1 hB hj hx => ?_) hJx h0).mono ?_)
  · obtain ⟨fn, tmps, assign, body, hy, hR⟩ := hY D pre x W1 hB hj hx
    exact ⟨fn, tmps, assign, body, hy, RoundIn.wide hR⟩
  · rintro e W' ⟨hv, D, hB, hh⟩
    exact ⟨hv, D, hB, hh⟩
end Go.Proofs.YtebhlfmianohlaaDoor
