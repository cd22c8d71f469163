/-
  proof.Prove.
-/
import Derived.Test.YtebhlfmianohlaaDoorProofProvePure
import Derived.Test.YtebhlfmianohlaaDoorProofRoot
import Derived.Test.YtebhlfmianohlaaDoorIdLit
import Derived.Test.YtebhlfmianohlaaDoorProofSteps
import Derived.Test.YtebhlfmianohlaaDoorProofClimb
import Derived.Test.YtebhlfmianohlaaDoorClone
import Derived.Maps.AppendAt
namespace Go.Proofs.YtebhlfmianohlaaDoor
open Go.RowKit Go.Shelf
attribute [local go_sem] Oper.semAt_some

theorem wpListIn_app {F : Fence} {n : Nat} {P : Program} {ops : Array Oper} {rest : List Oper} {o : Oper} {a : Act} {Q : Exit → Act → World → Prop} {w w' : World} (hgd : o.guard = none) (s x : Operand) (t : TypeId)
    (hop : o.op = .call { callee := .builtin .append, args := #[s, x], argTypes := #[t, t] }) {v u v' : Value} (hs : a.eval s = v) (hx : a.eval x = u)
    (hrun : (Builtin.append_ #[t, t] o.type #[v, u]).run P w = .ok v' w') (h : wpListIn F n P ops Q rest (a.put o.dst v') w') : wpListIn F n P ops Q (o :: rest) a w := by
  refine wpListIn_plain hgd fun K hK => ?_
  unfold Oper.wpIn
  refine ⟨?_, ?_⟩
  · simp [Oper.about, hop, resolve, Target.leads, Sem.run_pure]
  · rw [Oper.semAt_plain F _ _ (by rw [hop]; intro c hc; cases hc)]
    unfold execOp
    simp only [hop, resolve, invoke, builtin, Sem.run_bind, Sem.run_pure, Result.andThen_ok, List.map_toArray, List.map_cons, List.map_nil, hs, hx, hrun]
    exact hK _ _ h
theorem own_steps {B : Nat} {D : Nat → Prop} {W W' : World} {base : Nat} {e : TypeId} {size : Nat} {v : Value} {n : Nat} {xs : List Value} (h : W.ownsRow base e size v n xs) (hS : Steps B D W W') (hd : ∀ g, v.ownBlock = some g → ¬ D g) : W'.ownsRow base e size v n xs := by
  refine ⟨h.1, ?_⟩
  rcases h.2 with hn | ⟨g, cap, cur, rfl, hb, hg, rest⟩
  · exact .inl hn
  · exact .inr ⟨g, cap, cur, rfl, hb, hS.cells hg (hd g (by simp [Value.ownBlock])), rest⟩
theorem own_lt {W : World} {base : Nat} {e : TypeId} {size : Nat} {v : Value} {n : Nat} {xs : List Value} (h : W.ownsRow base e size v n xs) {g : Nat} (hv : v.ownBlock = some g) : base ≤ g ∧ g < W.heap.size ∧ ∃ cs f, W.heap[g]? = some (.cells cs e f) := by
  rcases h.2 with ⟨rfl, _⟩ | ⟨g', cap, cur, rfl, hb, hg, _⟩
  · simp [Value.ownBlock] at hv
  · obtain rfl : g' = g := by simpa [Value.ownBlock] using hv
    exact ⟨hb, lt_of_cells hg, _, _, hg⟩
theorem own_slice2 {W : World} {base : Nat} {e : TypeId} {size : Nat} {v : Value} {n : Nat} {xs : List Value} (h : W.ownsRow base e size v n xs) : ∃ a l c, v = .slice a l c := by
  rcases h.2 with ⟨rfl, _⟩ | ⟨g, cap, cur, rfl, _⟩
  · exact ⟨_, _, _, rfl⟩
  · exact ⟨_, _, _, rfl⟩
def sl3 (x : SlV) : Value := .slice x.1 x.2.1 x.2.2
theorem ids_info4 : (Tryd.prog.info? 24).map (fun i => (i.zero, i.size, i.bytes)) = some (some (.slice none 0 0), 1, 24) := by kernel_rfl
/-- Between two rounds of the first loop. -/
def PvI (w : World) (D : Nat → Prop) (pre : List SlV) (W : World) : Prop :=
  Below w.heap.size w W ∧ ∃ v, Boxed W w.heap.size 50 v ∧ W.ownsRow w.heap.size 24 1 v pre.length (pre.map sl3) ∧ ∀ g, v.ownBlock = some g → ¬ D g
theorem PvI.still (w : World) {B : Nat} (hB : w.heap.size < B) : Still B (PvI w) := by
  rintro D D' s W W' hb ⟨h1, v, h2, h3, h4⟩ hS hD
  refine ⟨hS.below h1 hb (Nat.le_refl _) (by omega), v, hS.boxed h2 (hb.not hB), own_steps h3 hS h4, fun g hg hd => ?_⟩
  rcases hD g hd with h | h
  · exact h4 g hg h
  · have := (own_lt h3 hg).2.1
    omega
/-- Between two rounds of the second loop. -/
def PvJ (w1 : World) (b2 : Nat) (R : List (List (List UInt8))) (D : Nat → Prop) (pre : List (Nat × Nat)) (W : World) : Prop :=
  Below w1.heap.size w1 W ∧ ∃ v, Boxed W w1.heap.size 24 v ∧ W.ownsRow b2 31 32 v pre.length (idsC (pre.map (rowAt R))) ∧ ∀ g, v.ownBlock = some g → ¬ D g
theorem PvJ.still (w1 : World) (R : List (List (List UInt8))) {B : Nat} (hB : w1.heap.size < B) : Still B (PvJ w1 B R) := by
  rintro D D' s W W' hb ⟨h1, v, h2, h3, h4⟩ hS hD
  refine ⟨hS.below h1 hb (Nat.le_refl _) (by omega), v, hS.boxed h2 (hb.not hB), own_steps h3 hS h4, fun g hg hd => ?_⟩
  rcases hD g hd with h | h
  · exact h4 g hg h
  · have := (own_lt h3 hg).2.1
    omega

set_option maxHeartbeats 4000000 in
set_option maxRecDepth 100000 in
theorem prove_any {w : World} {S : Nat → Prop} {A : Option Addr} {n c : Nat} {b : List UInt8} (h : Byt w S A n c b) (hn : n ≤ 1000000) (ht : Tab w) (i : Int) :
    Calls Tryd.prog 10 #[.slice A n c, .int .i64 i] w fun e w' => ∃ A1 n1 c1 A2 n2 c2, e = .returned (.tuple #[.slice A1 n1 c1, .slice A2 n2 c2, .int .i64 (proveErr b i)]) ∧ Byt w' (w.heap.size ≤ ·) A1 n1 c1 (proveLeaf b i) ∧ Ids w' (w.heap.size ≤ ·) A2 n2 c2 (proveWay b i) ∧ Below w.heap.size w w' := by
  have hlv := leaves_any h
  have hwi := within_any ((splitL b).length : Int) i w
  have hlb := leaves_at b
  rw [h.len] at hlb
  have hN6 : (splitL b).length ≤ 1000000 := by split at hlb <;> omega
  obtain ⟨N, hN⟩ : ∃ N, N = (splitL b).length := ⟨_, rfl⟩
  rw [← hN] at hlv hwi hN6
  have HH := Lib.hid (And.intro h (And.intro hn (And.intro ht (And.intro hN hN6))))
  clear h hn ht hlb hN6 hN
  by_cases hr : 0 ≤ i ∧ i < (N : Int)
  · obtain ⟨i', rfl⟩ := Int.eq_ofNat_of_zero_le hr.1
    have hi' : i' < N := by omega
    rw [decide_eq_true hr] at hwi
    have HRG : Hid (i' < N ∧ proveErr b (i' : Int) = 0 ∧ proveLeaf b (i' : Int) = (splitL b)[i']?.getD [] ∧ proveWay b (i' : Int) = wayL (digs b) i') := Lib.hid (by
      rw [HH.out.2.2.2.1] at hr
      exact ⟨hi', by rw [proveErr, if_pos hr], by rw [proveLeaf, if_pos hr]; rfl, by rw [proveWay, if_pos hr]; rfl⟩)
    clear hr hi'
    obtain ⟨W1, hW1⟩ : ∃ W1, (w.alloc (.cells #[.slice none 0 0] 50)).alloc (.cells #[.slice A n c] 22) = W1 := ⟨_, rfl⟩
    have hsz : W1.heap.size = w.heap.size + 2 := by rw [← hW1]; simp
    have hb1 : Below w.heap.size w W1 := by rw [← hW1]; exact ((Below.refl _ _).alloc (Nat.le_refl _) _).alloc (by simp) _
    have hx0 : Boxed W1 w.heap.size 50 (.slice none 0 0) := by
      rw [← hW1]
      exact (Boxed.new w 50 (.slice none 0 0)).alloc _
    have hx1 : W1.heap[w.heap.size + 1]? = some (.cells #[.slice A n c] 22 (0, 0)) := by
      rw [← hW1]
      have := heap_alloc_new (w.alloc (.cells #[.slice none 0 0] 50)) (.cells #[.slice A n c] 22)
      simpa using this
    have HI0 : Hid (PvI w (fun _ => False) [] W1) := Lib.hid ⟨hb1, _, hx0, World.ownsRow_nil _ _ _ _, fun _ _ h => h⟩
    have H1 := Lib.hid (And.intro hsz (And.intro hb1 hx1))
    clear hsz hb1 hx0 hx1
    obtain ⟨j0, hj, hj0, hj1, hj2⟩ := info_parts ids_info4
    have HJ := Lib.hid (And.intro hj (And.intro hj0 (And.intro hj1 hj2)))
    clear hj hj0 hj1 hj2
    refine (callsIn_wide (n := 3)).1 ?_
    refine callsIn_of_wp_marks Tryd.func10 rfl trivial ?_ rfl
    simp only [Tryd.ntmps10, List.size_toArray, List.length_cons, List.length_nil, Nat.reduceAdd, Nat.reduceSub, Array.replicate_succ, Array.replicate_zero, List.push_toArray, List.append_toArray, List.nil_append, List.cons_append]
    gi_wp2_with (first
      | (refine ⟨trivial, ?_⟩; gi_at_call 14; refine (callsIn_wide.2 hlv).mono ?_; clear hlv; rintro _ _ ⟨rfl, rfl⟩)
      | (refine ⟨trivial, ?_⟩; gi_at_call 21; refine (callsIn_wide.2 hwi).mono ?_; clear hwi; rintro _ _ ⟨rfl, rfl⟩)
      | (refine ⟨trivial, ?_⟩; gi_at_call 22; refine (callsIn_wide.2 (prows_any A n c _)).mono ?_; rintro _ _ ⟨rfl, rfl⟩))
    try simp only [World.size_alloc]
    try rw [hW1]
    clear hW1
    have hte := HH.out.2.2.1
    refine wpIn_rangeFunc_it (gf := 39) (lb := #[.pointer (some ⟨w.heap.size + 1, 0, none⟩)]) rfl (enters_of Tryd.func39 (by kernel_rfl) rfl) (rows_iter (HH.out.1.below H1.out.2.1) HH.out.2.1 (hte.below H1.out.2.1) (w.heap.size + 1) H1.out.2.2) (Below.refl _ _) (fun b hb => by have h1 := hte.lt1; have h2 := hte.lt2; have h3 := H1.out.1; rcases hb with rfl | rfl <;> omega) (fun _ => rfl)
      (PvI w) (fun _ _ _ _ => False) (PvI.still w (by have := H1.out.1; omega)) (fun _ => still_false _) HI0.out
      (fun x a' _ => a' = { tmps := #[.slice A n c, .int .i64 (i' : Int), undef, undef, .slice none 0 0, .slice none 0 0, .int .i64 0, .int .i64 (N : Int), .pointer (some ⟨w.heap.size, 0, none⟩), .slice x.1 x.2.1 x.2.2, undef, undef, undef, .slice A n c, .int .i64 (N : Int), .int .i64 (N : Int), .int .i64 (i' : Int), .bool true, .bool false, .slice A n c, rowsFn (w.heap.size + 1), .slice x.1 x.2.1 x.2.2, undef, undef, undef, undef, undef, undef, undef, undef, undef, undef, undef, undef, undef, undef, undef, undef, undef, undef, undef, undef, undef, undef, undef, undef], defers := [] }) (fun _ _ => ownFrom_pure _ _) ?assign ?body ?done ?stop
    case assign =>
      intro l' D pre x W' C _ hi _ hC
      simp only [slE]
      gi_wp2
      exact hC _ _ (Kept.refl _ _ _ _) hi (by simp)
    case stop =>
      intro E D c pre W _ _ _ _ h _
      exact h.elim
    case body =>
      rintro l' D pre ⟨Ax, nx, cx⟩ a' W' hl hws hBd ⟨hbl, v, hv, hrow, hnd⟩ hX rfl
      obtain ⟨va, vl, vc, rfl⟩ := own_slice2 hrow
      have hpl : pre.length < (rowsOf (digs b)).length := by
        have := hX.1
        simp at this
        omega
      have hrs : (rowsOf (digs b)).length ≤ 1000001 := by
        have h1 := rowsOf_short (digs b)
        rw [digs_length] at h1
        have h2 := HH.out.2.2.2.1
        have h3 := HH.out.2.2.2.2
        omega
      have hals : (W'.alloc (.cells #[.slice Ax nx cx] 24)).heap.size = W'.heap.size + 1 := by simp
      have hba : Below W'.heap.size W' (W'.alloc (.cells #[.slice Ax nx cx] 24)) := (Below.refl _ _).alloc (Nat.le_refl _) _
      obtain ⟨g2, cap2, w2, hrun, hown2, hgr, hat, _⟩ := run_append_lies (P := Tryd.prog) (W'.alloc (.cells #[.slice Ax nx cx] 24)) 50 50 w.heap.size 24 j0 (.slice none 0 0) 1 24 Tryd.underlying50 HJ.out.1 HJ.out.2.1 HJ.out.2.2.1 HJ.out.2.2.2 rfl (by decide) _ pre.length (pre.map sl3) (hrow.alloc _) ⟨W'.heap.size, 0, none⟩ 1 1 [.slice Ax nx cx] rfl (cell_one_new _ _ _) (one_of rfl) (by omega) (by unfold maxLen; omega) (by omega) (by have := hbl.size; simp; omega) (W'.heap.size + 1) hals
      have hvlt : w.heap.size < W'.heap.size := hv.lt
      have hne : ∀ g, (Value.slice va vl vc).ownBlock = some g → g ≠ w.heap.size := fun g hg e => by
        obtain ⟨_, _, cs, f, hc⟩ := own_lt hrow hg
        rw [e, show W'.heap[w.heap.size]? = _ from hv] at hc
        injection hc with hc
        injection hc with _ ht _
        exact absurd ht (by decide)
      have hv2 : Boxed w2 w.heap.size 50 (.slice va vl vc) := (hgr.block _ (by rw [hals]; omega) (fun e => hne _ e.symm rfl)).trans (hv.alloc _)
      have hg2 : ¬ D g2 ∧ g2 ≠ w.heap.size := by
        rcases hat with hat | hat
        · exact ⟨hnd g2 hat, hne g2 hat⟩
        · exact ⟨fun hd => by have := (hBd g2 hd).2; omega, by omega⟩
      have hk2 : Kept W1.heap.size D tabK W' w2 := (Kept.of_below hba).trans (Kept.of_gr hgr (fun g hg => by
        obtain ⟨h1, h2, cs, f, hc⟩ := own_lt (hrow.alloc (.cells #[.slice Ax nx cx] 24)) hg
        exact ⟨hnd g hg, fun hb => by
          have h3 := hte.lt1
          have h4 := hte.lt2
          unfold tabK at hb
          omega, _, _, _, hc⟩))
      have hb2 : Below w.heap.size w w2 := (hbl.alloc hbl.size _).grown hgr (by have := hbl.size; simp; omega) (fun g hg => (own_lt hrow hg).1)
      have hc8 := hv2.cell
      have hf8 := hv2.frozen
      have hcv := hv.cell
      have HB := Lib.hid (And.intro hv2 (And.intro hown2 (And.intro hg2 (And.intro hk2 (And.intro hb2 hBd)))))
      clear hv hrow hnd hX hals hba hown2 hgr hat hvlt hne hv2 hg2 hk2 hb2 hbl hBd hpl hrs
      gi_wp2_with (gi_at_builtin; refine wpListIn_app (by rfl) _ _ 50 (by rfl) (by rfl) (by rfl) hrun ?_)
      refine ⟨HB.out.2.2.2.1.trans (Kept.of_gr (row := some w.heap.size) (grownBy_setCell' w2 w.heap.size _) (fun g e => by
        injection e with e
        subst e
        exact ⟨fun hd => by have h1 := (HB.out.2.2.2.2.2 _ hd).1; have h2 := H1.out.1; omega, fun hb => by
          have h3 := hte.lt1
          have h4 := hte.lt2
          unfold tabK at hb
          omega, _, _, _, HB.out.1⟩)), HB.out.2.2.2.2.1.setCell (Nat.le_refl _) _, _, HB.out.1.set _, ?_, fun g hg => ?_⟩
      · have h1 := ownsRow_setCell_other HB.out.2.1 (a := ⟨w.heap.size, 0, none⟩) (by simp [Value.ownBlock]; exact HB.out.2.2.1.2) (.slice (some ⟨g2, 0, none⟩) (pre.length + 1) cap2)
        simpa [sl3] using h1
      · obtain rfl : g2 = g := by simpa [Value.ownBlock] using hg
        exact HB.out.2.2.1.1
    case done =>
      rintro E D xs W' hE hws hBd hxl hX ⟨hbl, v, hv, hrow, _⟩ hK
      have hpos : 0 < xs.length := by rw [hxl]; exact rowsOf_pos _
      obtain ⟨ga, capa, rfl, _, hga⟩ := hrow.form hpos
      have HA := Lib.hid (And.intro hv (And.intro hrow (And.intro hX (And.intro hbl (And.intro hK (And.intro hE (And.intro hxl hws)))))))
      clear hv hrow hX hbl hK hE hws hpos hxl
      gi_wp2_with (refine ⟨trivial, ?_⟩; gi_at_call 23; refine (callsIn_wide.2 (beside_any N i' _)).mono ?_; rintro _ _ ⟨rfl, rfl⟩)
      try simp only [World.size_alloc]
      obtain ⟨W2, hW2⟩ : ∃ W2, ((W'.alloc (.cells #[.slice none 0 0] 24)).alloc (.cells #[.int .i64 (N : Int)] 3)).alloc (.cells #[.int .i64 (i' : Int)] 3) = W2 := ⟨_, rfl⟩
      have hsz2 : W2.heap.size = W'.heap.size + 3 := by rw [← hW2]; simp
      have hb2 : Below W'.heap.size W' W2 := by rw [← hW2]; exact (((Below.refl _ _).alloc (Nat.le_refl _) _).alloc (by simp) _).alloc (by simp <;> omega) _
      have hx0 : Boxed W2 W'.heap.size 24 (.slice none 0 0) := by
        rw [← hW2]
        exact ((Boxed.new W' 24 (.slice none 0 0)).alloc _).alloc _
      have hx1 : W2.heap[W'.heap.size + 1]? = some (.cells #[.int .i64 (N : Int)] 3 (0, 0)) := by
        rw [← hW2]
        have h := heap_alloc_new (W'.alloc (.cells #[.slice none 0 0] 24)) (.cells #[.int .i64 (N : Int)] 3)
        rw [World.size_alloc] at h
        exact (Below.heap_alloc _ _ _ (by simp)).trans h
      have hx2 : W2.heap[W'.heap.size + 1 + 1]? = some (.cells #[.int .i64 (i' : Int)] 3 (0, 0)) := by
        rw [← hW2]
        have h := heap_alloc_new ((W'.alloc (.cells #[.slice none 0 0] 24)).alloc (.cells #[.int .i64 (N : Int)] 3)) (.cells #[.int .i64 (i' : Int)] 3)
        simp only [World.size_alloc] at h
        exact h
      rw [hW2]
      clear hW2
      have HJ0 : Hid (PvJ W' W2.heap.size (rowsOf (digs b)) (fun _ => False) [] W2) := Lib.hid ⟨hb2, _, hx0, World.ownsRow_nil _ _ _ _, fun _ _ h => h⟩
      have H2 := Lib.hid (And.intro hsz2 hb2)
      clear hb2 hx0
      refine wpIn_rangeFunc_it (gf := 42) (lb := #[.pointer (some ⟨W'.heap.size + 1, 0, none⟩), .pointer (some ⟨W'.heap.size + 1 + 1, 0, none⟩)]) rfl (enters_of Tryd.func42 (by kernel_rfl) rfl) (beside_iter N i' (by have := HH.out.2.2.2.2; omega) HRG.out.1 (W'.heap.size + 1) W2 hx1 hx2) (Below.refl _ _) (fun _ h => h.elim) (fun _ => rfl)
        (PvJ W' W2.heap.size (rowsOf (digs b))) (fun _ _ _ _ => False) (PvJ.still W' _ (by omega)) (fun _ => still_false _) HJ0.out
        (fun x a' _ => a' = { tmps := #[.slice A n c, .int .i64 (i' : Int), undef, undef, .slice none 0 0, .slice none 0 0, .int .i64 0, .int .i64 (N : Int), .pointer (some ⟨w.heap.size, 0, none⟩), undef, .pointer (some ⟨W'.heap.size, 0, none⟩), .int .i64 (x.1 : Int), .int .i64 (x.2 : Int), .slice A n c, .int .i64 (N : Int), .int .i64 (N : Int), .int .i64 (i' : Int), .bool true, .bool false, .slice A n c, rowsFn (w.heap.size + 1), undef, undef, undef, undef, undef, .int .i64 (N : Int), .int .i64 (i' : Int), besFn (W'.heap.size + 1), .int .i64 (x.1 : Int), .int .i64 (x.2 : Int), undef, undef, undef, undef, undef, undef, undef, undef, undef, undef, undef, undef, undef, undef, undef], defers := [] }) (fun _ _ => ownFrom_pure _ _) ?assign2 ?body2 ?done2 ?stop2
      case assign2 =>
        intro l' D pre x W'' C _ hi _ hC
        simp only [besE]
        gi_wp2
        exact hC _ _ (Kept.refl _ _ _ _) hi (by simp)
      case stop2 =>
        intro E D c pre W _ _ _ _ h _
        exact h.elim
      case done2 =>
        rintro E2 D2 ys W3 hE2 hws2 hBd2 rfl _ ⟨hbl, v, hv, hrow, _⟩ hK2
        obtain ⟨va, vl, vc, rfl⟩ := own_slice2 hrow
        have hdl : (digs b).length = N := by rw [digs_length, ← HH.out.2.2.2.1]
        have h32 := way_32 b (i := i')
        rw [hdl] at h32
        obtain ⟨A5, c5, hv5, hids⟩ := own_ids hrow h32
        injection hv5 with e1 e2 e3
        subst e1 e2 e3
        have hway : wayL (digs b) i' = (bes N 0 i').map (rowAt (rowsOf (digs b))) := by rw [way_map0 b (by rw [hdl]; exact HRG.out.1), hdl]
        rw [← hway] at hids
        have hb03 : Below w.heap.size w W3 := HA.out.2.2.2.1.trans (hbl.mono HA.out.2.2.2.1.size)
        have HB3 : Hid (Byt W3.drew (fun x => x < w.heap.size) A n c b ∧ Boxed W3.drew W'.heap.size 24 (.slice va (bes N 0 i').length vc) ∧ i' < (splitL b).length) := Lib.hid ⟨((HH.out.1.mono (T := fun x => x < w.heap.size) fun b hb _ => hb).below hb03).drew, hv, by have h1 := HRG.out.1; have h2 := HH.out.2.2.2.1; omega⟩
        have HW3 : Hid (Below w.heap.size w W3 ∧ Ids W3 (W2.heap.size ≤ ·) va (bes N 0 i').length vc (wayL (digs b) i') ∧ W3.heap[E2]? = some (.deferred (some [])) ∧ W3.heap[E]? = some (.deferred (some [])) ∧ E2 = W2.heap.size ∧ E = W1.heap.size ∧ W2.heap.size = W'.heap.size + 3 ∧ E < W'.heap.size ∧ w.heap.size ≤ W'.heap.size) := Lib.hid ⟨hb03, hids, hK2, (hbl.block _ (Array.getElem?_eq_some_iff.1 HA.out.2.2.2.2.1).1).trans HA.out.2.2.2.2.1, hE2, HA.out.2.2.2.2.2.1, H2.out.1, (Array.getElem?_eq_some_iff.1 HA.out.2.2.2.2.1).1, HA.out.2.2.2.1.size⟩
        clear hdl h32 hids hway hb03 hbl hv hrow hK2 hE2 hws2 hBd2
        gi_wp2
        refine wpIn_region_growF (Grow.open_wide _ _) (fun W W' => Below W.heap.size W W') (Grow.nth [fun v _ => v = .slice A n c, fun v _ => v = .int .i64 (i' : Int), fun v W => ∃ A' n' c', v = .slice A' n' c' ∧ Byt W (fun x => x < w.heap.size) A' n' c' ((splitL b)[i']?.getD []) ∧ n' ≤ 64, fun v W => ∃ A' n' c', v = .slice A' n' c' ∧ Byt W (w.heap.size ≤ ·) A' n' c' ((splitL b)[i']?.getD []), fun v _ => v = .slice va (bes N 0 i').length vc, fun v W => ∃ A' n' c', v = .slice A' n' c' ∧ Byt W (w.heap.size ≤ ·) A' n' c' ((splitL b)[i']?.getD []), fun v _ => v = .slice va (bes N 0 i').length vc, fun v _ => v = .int .i64 0]) 46 (by kernel_rfl) (by kernel_rfl) (by kernel_rfl) (by rfl) (fun W => Below.refl _ W) (fun _ _ _ h1 h2 => h1.trans (h2.mono h1.size)) (Grow.mono_nth ?gmono) ?gsteps ?gfin
        case gmono => exact ⟨fun _ _ _ h _ => h, fun _ _ _ h _ => h, fun _ _ _ ⟨A', n', c', h1, h2, h3⟩ hg => ⟨A', n', c', h1, h2.below hg, h3⟩, fun _ _ _ ⟨A', n', c', h1, h2⟩ hg => ⟨A', n', c', h1, h2.below hg⟩, fun _ _ _ h _ => h, fun _ _ _ ⟨A', n', c', h1, h2⟩ hg => ⟨A', n', c', h1, h2.below hg⟩, fun _ _ _ h _ => h, fun _ _ _ h _ => h, trivial⟩
        case gsteps =>
          show Grow.allBelow _ 8
          refine And.intro ?_ ?s7
          refine And.intro ?_ ?s6
          refine And.intro ?_ ?s5
          refine And.intro ?_ ?s4
          refine And.intro ?_ ?s3
          refine And.intro ?_ ?s2
          refine And.intro ?_ ?s1
          refine And.intro ?_ ?s0
          exact trivial
          case s0 =>
            refine Grow.step_in (by rfl) (by rfl) ?_
            intro E W ec eg ef hG hd hu R HR
            have e0 : E (.tmp 0) = .slice A n c := hu 0 (by kernel_rfl)
            clear hd hu
            go_simp
            exact HR.out _ _ (Below.refl _ _) rfl
          case s1 =>
            refine Grow.step_in (by rfl) (by rfl) ?_
            intro E W ec eg ef hG hd hu R HR
            have e1 : E (.tmp 1) = .int .i64 (i' : Int) := hu 1 (by kernel_rfl)
            clear hd hu
            go_simp
            exact HR.out _ _ (Below.refl _ _) rfl
          case s2 =>
            refine Grow.step_in (by rfl) (by rfl) ?_
            intro E W ec eg ef hG hd hu R HR
            have e41 : E (.tmp 41) = .slice A n c := hd 0 41 (by kernel_rfl)
            have e42 : E (.tmp 42) = .int .i64 (i' : Int) := hd 1 42 (by kernel_rfl)
            clear hd hu
            go_simp
            refine (leafOf_any (HB3.out.1.below hG) HH.out.2.1 HB3.out.2.2).mono ?_
            rintro _ w' ⟨⟨A', n', c', rfl, hy⟩, rfl⟩
            exact ⟨_, rfl, HR.out _ _ (Below.refl _ _) ⟨A', n', c', rfl, hy, by
              rw [← hy.len, List.getElem?_eq_getElem HB3.out.2.2]
              exact splitL_le b _ (List.getElem_mem _)⟩⟩
          case s3 =>
            refine Grow.step_in (by rfl) (by rfl) ?_
            intro E W ec eg ef hG hd hu R HR
            have h43 := hd 2 43 (by kernel_rfl)
            clear hd hu
            obtain ⟨A', n', c', e43, hy, hn⟩ := h43
            go_simp
            refine (clone_byt hy (by omega)).mono ?_
            rintro _ w' ⟨A3, c3, rfl, hy3, hb3, _⟩
            exact ⟨_, rfl, HR.out _ _ hb3 ⟨A3, n', c3, rfl, hy3.mono fun b _ h => by have h1 := hG.size; have h2 := HW3.out.1.size; have h4 : W3.drew.heap.size = W3.heap.size := rfl; omega⟩⟩
          case s4 =>
            refine Grow.step_in (by rfl) (by rfl) ?_
            intro E W ec eg ef hG hd hu R HR
            have e10 : E (.tmp 10) = .pointer (some ⟨W'.heap.size, 0, none⟩) := hu 10 (by kernel_rfl)
            clear hd hu
            have hb : Boxed W W'.heap.size 24 (.slice va (bes N 0 i').length vc) := (hG.block _ HB3.out.2.1.lt).trans HB3.out.2.1
            have hc := hb.cell
            go_simp
            exact HR.out _ _ (Below.refl _ _) rfl
          case s5 =>
            refine Grow.step_in (by rfl) (by rfl) ?_
            intro E W ec eg ef hG hd hu R HR
            have h44 := hd 3 44 (by kernel_rfl)
            clear hd hu
            obtain ⟨A', n', c', e44, hy⟩ := h44
            go_simp
            exact HR.out _ _ (Below.refl _ _) ⟨A', n', c', rfl, hy⟩
          case s6 =>
            refine Grow.step_in (by rfl) (by rfl) ?_
            intro E W ec eg ef hG hd hu R HR
            have e45 : E (.tmp 45) = .slice va (bes N 0 i').length vc := hd 4 45 (by kernel_rfl)
            clear hd hu
            go_simp
            exact HR.out _ _ (Below.refl _ _) rfl
          case s7 =>
            refine Grow.step_in (by rfl) (by rfl) ?_
            intro E W ec eg ef hG hd hu R HR
            clear hd hu
            go_simp
            exact HR.out _ _ (Below.refl _ _) rfl
        case gfin =>
          intro W hG
          refine Grow.fin_dst (by rfl) ?_
          rintro _ rfl
          refine Grow.fin_dst (by rfl) ?_
          rintro _ rfl
          refine Grow.fin_dst (by rfl) ?_
          rintro _ ⟨_, _, _, rfl, _⟩
          refine Grow.fin_dst (by rfl) ?_
          rintro _ ⟨_, _, _, rfl, _⟩
          refine Grow.fin_dst (by rfl) ?_
          rintro _ rfl
          refine Grow.fin_dst (by rfl) ?_
          rintro _ ⟨A7, n7, c7, rfl, hy7⟩
          refine Grow.fin_dst (by rfl) ?_
          rintro _ rfl
          refine Grow.fin_dst (by rfl) ?_
          rintro _ rfl
          simp only [Act.put, List.setIfInBounds_toArray, List.set_cons_zero, List.set_cons_succ]
          refine Grow.fin_end ?_
          have hsz3 : W3.drew.heap.size = W3.heap.size := rfl
          have HF : Hid (Below w.heap.size w W ∧ Byt W (w.heap.size ≤ ·) A7 n7 c7 ((splitL b)[i']?.getD []) ∧ Ids W (w.heap.size ≤ ·) va (bes N 0 i').length vc (wayL (digs b) i') ∧ W.heap[E2]? = some (.deferred (some [])) ∧ W.heap[E]? = some (.deferred (some []))) := Lib.hid ⟨HW3.out.1.trans ((Grow.below_of_drew hG).mono HW3.out.1.size), hy7, (HW3.out.2.1.below (Grow.below_of_drew hG)).mono (fun b _ hb => by have h1 := HW3.out.2.2.2.2.2.2.1; have h2 := HW3.out.2.2.2.2.2.2.2.2; omega), (hG.block _ (Array.getElem?_eq_some_iff.1 HW3.out.2.2.1).1).trans HW3.out.2.2.1, (hG.block _ (Array.getElem?_eq_some_iff.1 HW3.out.2.2.2.1).1).trans HW3.out.2.2.2.1⟩
          clear hG hy7 hsz3
          gi_wp2
          have hne : E ≠ E2 := by
            have h1 := HW3.out.2.2.2.2.1
            have h2 := HW3.out.2.2.2.2.2.2.1
            have h3 := HW3.out.2.2.2.2.2.2.2.1
            omega
          have hE' : (W.putObj E2 (.deferred none)).heap[E]? = some (.deferred (some [])) := (World.putObj_heap_other hne).trans HF.out.2.2.2.2
          refine ⟨by simp, .inl ⟨_, _, rfl, run_takeDeferred HF.out.2.2.2.1, ?_⟩⟩
          refine ⟨by simp, .inl ⟨_, _, rfl, run_takeDeferred hE', ?_⟩⟩
          have hS1 : Steps 0 (fun _ => False) W (W.putObj E2 (.deferred none)) := Steps.putObj _ (Nat.zero_le _) HF.out.2.2.2.1 rfl
          have hS2 : Steps 0 (fun _ => False) (W.putObj E2 (.deferred none)) ((W.putObj E2 (.deferred none)).putObj E (.deferred none)) := Steps.putObj _ (Nat.zero_le _) hE' rfl
          refine ⟨_, results_tmp3 rfl _ _ _, A7, n7, c7, va, (bes N 0 i').length, vc, by rw [HRG.out.2.1]; rfl, ?_, ?_, ?_⟩
          · rw [HRG.out.2.2.1]
            exact (HF.out.2.1.steps hS1 (fun _ _ h => h)).steps hS2 (fun _ _ h => h)
          · rw [HRG.out.2.2.2]
            exact (HF.out.2.2.1.steps hS1 (fun _ _ h => h)).steps hS2 (fun _ _ h => h)
          · have h1 := HW3.out.2.2.2.2.1
            have h2 := HW3.out.2.2.2.2.2.2.1
            have h3 := HW3.out.2.2.2.2.2.2.2.2
            have h4 := HW3.out.2.2.2.2.2.1
            have h5 := H1.out.1
            exact (HF.out.1.trans (belowK_b (w := w) (Nat.le_refl _) W E2 _ _ (by omega) HF.out.2.2.2.1 rfl rfl)).trans (belowK_b (w := w) (Nat.le_refl _) _ E _ _ (by omega) hE' rfl rfl)
      case body2 =>
        rintro l' D2 pre x a' W'' hl hws hBd2 ⟨hbl, v, hv, hrow, hnd⟩ ⟨r, hr⟩ rfl
        obtain ⟨va2, vl2, vc2, rfl⟩ := own_slice2 hrow
        have hdl : (digs b).length = N := by rw [digs_length, ← HH.out.2.2.2.1]
        have hxm : x ∈ bes N 0 i' := by rw [← hr]; simp
        have hba := bes_at (digs b) 0 i' x (by rw [hdl]; exact hxm)
        rw [Nat.sub_zero] at hba
        have hkn : pre.length ≤ N := by
          have h1 := bes_short N 0 i'
          rw [← hr] at h1
          simp at h1
          omega
        have hxh : x.1 < xs.length := by have := HA.out.2.2.2.2.2.2.1; omega
        obtain ⟨y, hy⟩ : ∃ y, xs[x.1]? = some y := ⟨_, List.getElem?_eq_getElem hxh⟩
        obtain ⟨hyi, hyp⟩ := HA.out.2.2.1.2 x.1 y hy
        obtain ⟨Ay, yn, yc⟩ := y
        obtain ⟨yb, yo, hAy, _⟩ := hyi.row hyp
        simp only at hAy hyi hyp
        subst hAy
        have hcy : W'.cell? ⟨ga, x.1, none⟩ = some (.slice (some ⟨yb, yo, none⟩) yn yc) := by
          rw [HA.out.2.1.cellAt x.1 (by omega), List.getElem?_map, hy]
          rfl
        obtain ⟨X, hXd⟩ : ∃ X, X = rowAt (rowsOf (digs b)) x := ⟨_, rfl⟩
        have hX32 : X.length = 32 := by rw [hXd]; exact get32 hyi.each hba.2
        obtain ⟨XS, hXS⟩ : ∃ XS, XS = row8 X := ⟨_, rfl⟩
        obtain ⟨KK, hKK⟩ : ∃ KK, KK = pre.length := ⟨_, rfl⟩
        rw [← hKK] at hrow hkn
        have hx1' : (x.1 : Int) < (xs.length : Int) := by omega
        have hx2' : (x.2 : Int) < (yn : Int) := by have := hyi.len; omega
        obtain ⟨k0, hk0, hk1, hk2, hk3⟩ := info_parts id_info3
        have HK3 := Lib.hid (And.intro hk0 (And.intro hk1 (And.intro hk2 hk3)))
        have HX : Hid (XS = row8 (((rowsOf (digs b))[x.1]?.getD [])[x.2]?.getD []) ∧ X.length = 32 ∧ XS = row8 X ∧ x.2 < yn ∧ Ids W' D (some ⟨yb, yo, none⟩) yn yc ((rowsOf (digs b))[x.1]?.getD []) ∧ W'.cell? ⟨ga, x.1, none⟩ = some (.slice (some ⟨yb, yo, none⟩) yn yc) ∧ ga < W'.heap.size ∧ X = rowAt (rowsOf (digs b)) x) := Lib.hid ⟨by rw [hXS, hXd]; rfl, hX32, hXS, by have := hyi.len; omega, hyi, hcy, hga, hXd⟩
        have HW : Hid (W2.heap.size = W'.heap.size + 3 ∧ W2.heap.size ≤ W''.heap.size ∧ KK ≤ 1000000 ∧ Bounds (W2.heap.size + 2) D2 W'') := Lib.hid ⟨hsz2, by omega, by have := HH.out.2.2.2.2; omega, hBd2⟩
        have HTH : Hid (Below W'.heap.size W' W''.drew ∧ Kept W2.heap.size D2 (fun _ => False) W'' W''.drew) := Lib.hid ⟨hbl.drew, Kept.of_below ⟨rfl, rfl, rfl, Nat.le_refl _, fun _ _ => rfl⟩⟩
        have HRW : Hid (W''.drew.ownsRow W2.heap.size 31 32 (.slice va2 vl2 vc2) KK (idsC (pre.map (rowAt (rowsOf (digs b))))) ∧ Boxed W''.drew W'.heap.size 24 (.slice va2 vl2 vc2)) := Lib.hid ⟨own_below hrow ⟨rfl, rfl, rfl, Nat.le_refl _, fun _ _ => rfl⟩, hv⟩
        have HRW2 := Lib.hid hnd
        have HKK := Lib.hid hKK
        clear hv hrow hnd hr hdl hxm hba hkn hxh hy hyi hyp hcy hXd hX32 hXS hKK hk0 hk1 hk2 hk3 hBd2 hbl hga
        gi_wp2
        refine wpIn_region_grow (fun V => Below W'.heap.size W' V ∧ Kept W2.heap.size D2 (fun _ => False) W'' V) (fun j V => (j = 9 → V.ownsRow W2.heap.size 31 32 (.slice va2 vl2 vc2) KK (idsC (pre.map (rowAt (rowsOf (digs b)))))) ∧ (j = 10 → Boxed V W'.heap.size 24 (.slice va2 vl2 vc2)))
          (Grow.nth [fun u _ => u = .slice va2 vl2 vc2, fun u _ => u = .slice (some ⟨ga, 0, none⟩) xs.length capa, fun u _ => u = .int .i64 (x.1 : Int), fun u _ => u = .pointer (some ⟨ga, x.1, none⟩), fun u _ => u = .slice (some ⟨yb, yo, none⟩) yn yc, fun u _ => u = .int .i64 (x.2 : Int), fun u _ => u = .pointer (some ⟨yb, yo + x.2 * 32, none⟩), fun u _ => u = .agg XS, fun u V => ∃ q, u = .slice (some ⟨q, 0, none⟩) 1 1 ∧ V.heap[q]? = some (.cells XS 31 (0, 0)) ∧ q ≠ W'.heap.size ∧ some q ≠ (Value.slice va2 vl2 vc2).ownBlock, fun u V => ∃ g cp, u = .slice (some ⟨g, 0, none⟩) (KK + 1) cp ∧ V.ownsRow W2.heap.size 31 32 u (KK + 1) (idsC (pre.map (rowAt (rowsOf (digs b)))) ++ idsC [X]) ∧ ¬ D2 g ∧ g ≠ W'.heap.size, fun _ V => ∃ u, Boxed V W'.heap.size 24 u ∧ V.ownsRow W2.heap.size 31 32 u (KK + 1) (idsC (pre.map (rowAt (rowsOf (digs b)))) ++ idsC [X]) ∧ ∀ g, u.ownBlock = some g → ¬ D2 g]) 46 (by kernel_rfl) (by kernel_rfl) (by kernel_rfl) (by rfl) HTH.out (fun j hj => ⟨fun _ => HRW.out.1, fun _ => HRW.out.2⟩) ?gsteps ?gfin
        case gsteps =>
          show Grow.allBelow _ 11
          refine And.intro ?_ ?s10
          refine And.intro ?_ ?s9
          refine And.intro ?_ ?s8
          refine And.intro ?_ ?s7
          refine And.intro ?_ ?s6
          refine And.intro ?_ ?s5
          refine And.intro ?_ ?s4
          refine And.intro ?_ ?s3
          refine And.intro ?_ ?s2
          refine And.intro ?_ ?s1
          refine And.intro ?_ ?s0
          exact trivial
          case s0 =>
            refine Grow.stepY_in (by rfl) (by rfl) ?_
            intro E V ec eg ef hT hd hu hy R HR
            have e10 : E (.tmp 10) = .pointer (some ⟨W'.heap.size, 0, none⟩) := hu 10 (by kernel_rfl)
            have hb := (hy 10 (by decide) (.inr (by kernel_rfl))).2 rfl
            have hc := hb.cell
            clear hd hu
            go_simp
            exact HR.out _ _ hT rfl (fun _ _ _ _ _ h => h) (fun _ _ _ h => h)
          case s1 =>
            refine Grow.stepY_in (by rfl) (by rfl) ?_
            intro E V ec eg ef hT hd hu hy R HR
            have e8 : E (.tmp 8) = .pointer (some ⟨w.heap.size, 0, none⟩) := hu 8 (by kernel_rfl)
            have hb : Boxed V w.heap.size 50 (.slice (some ⟨ga, 0, none⟩) xs.length capa) := (hT.1.block _ HA.out.1.lt).trans HA.out.1
            have hc := hb.cell
            clear hd hu
            go_simp
            exact HR.out _ _ hT rfl (fun _ _ _ _ _ h => h) (fun _ _ _ h => h)
          case s2 =>
            refine Grow.stepY_in (by rfl) (by rfl) ?_
            intro E V ec eg ef hT hd hu hy R HR
            have e11 : E (.tmp 11) = .int .i64 (x.1 : Int) := hu 11 (by kernel_rfl)
            clear hd hu
            go_simp
            exact HR.out _ _ hT rfl (fun _ _ _ _ _ h => h) (fun _ _ _ h => h)
          case s3 =>
            refine Grow.stepY_in (by rfl) (by rfl) ?_
            intro E V ec eg ef hT hd hu hy R HR
            have e32 : E (.tmp 32) = .slice (some ⟨ga, 0, none⟩) xs.length capa := hd 1 32 (by kernel_rfl)
            have e33 : E (.tmp 33) = .int .i64 (x.1 : Int) := hd 2 33 (by kernel_rfl)
            clear hd hu
            go_simp
            exact HR.out _ _ hT rfl (fun _ _ _ _ _ h => h) (fun _ _ _ h => h)
          case s4 =>
            refine Grow.stepY_in (by rfl) (by rfl) ?_
            intro E V ec eg ef hT hd hu hy R HR
            have e34 : E (.tmp 34) = .pointer (some ⟨ga, x.1, none⟩) := hd 3 34 (by kernel_rfl)
            have hc : V.cell? ⟨ga, x.1, none⟩ = some (.slice (some ⟨yb, yo, none⟩) yn yc) := (hT.1.cell (p := ⟨ga, x.1, none⟩) HX.out.2.2.2.2.2.2.1).trans HX.out.2.2.2.2.2.1
            clear hd hu
            go_simp
            exact HR.out _ _ hT rfl (fun _ _ _ _ _ h => h) (fun _ _ _ h => h)
          case s5 =>
            refine Grow.stepY_in (by rfl) (by rfl) ?_
            intro E V ec eg ef hT hd hu hy R HR
            have e12 : E (.tmp 12) = .int .i64 (x.2 : Int) := hu 12 (by kernel_rfl)
            clear hd hu
            go_simp
            exact HR.out _ _ hT rfl (fun _ _ _ _ _ h => h) (fun _ _ _ h => h)
          case s6 =>
            refine Grow.stepY_in (by rfl) (by rfl) ?_
            intro E V ec eg ef hT hd hu hy R HR
            have e35 : E (.tmp 35) = .slice (some ⟨yb, yo, none⟩) yn yc := hd 4 35 (by kernel_rfl)
            have e36 : E (.tmp 36) = .int .i64 (x.2 : Int) := hd 5 36 (by kernel_rfl)
            clear hd hu
            go_simp
            exact HR.out _ _ hT rfl (fun _ _ _ _ _ h => h) (fun _ _ _ h => h)
          case s7 =>
            refine Grow.stepY_in (by rfl) (by rfl) ?_
            intro E V ec eg ef hT hd hu hy R HR
            have e37 : E (.tmp 37) = .pointer (some ⟨yb, yo + x.2 * 32, none⟩) := hd 6 37 (by kernel_rfl)
            clear hd hu
            exact runs_load_id (.tmp 37) rfl (HX.out.2.2.2.2.1.below hT.1) x.2 HX.out.2.2.2.1 XS HX.out.1 _ rfl e37 (HR.out _ _ hT rfl (fun _ _ _ _ _ h => h) (fun _ _ _ h => h))
          case s8 =>
            refine Grow.stepY_in (by rfl) (by rfl) ?_
            intro E V ec eg ef hT hd hu hy R HR
            have e38 : E (.tmp 38) = .agg XS := hd 7 38 (by kernel_rfl)
            have hown := (hy 9 (by decide) (.inr (by kernel_rfl))).1 rfl
            have HT := Lib.hid hT
            have hbs := hT.1.size
            clear hy hT
            clear hd hu
            have hrun := run_ids_lit V XS HX.out.2.2.1 HX.out.2.1
            simp [execOp, e38, hrun, Result.andThen, Grow.runsTo]
            have hbl := (Below.refl V.heap.size V).alloc (Nat.le_refl _) (.cells XS 31)
            refine HR.out _ _ ⟨HT.out.1.trans (hbl.mono hbs), HT.out.2.trans (Kept.of_below hbl)⟩ ⟨V.heap.size, rfl, heap_alloc_new V _, by have h1 := HW.out.1; have h2 := HW.out.2.1; have h3 := HT.out.2.turned.size; omega, fun e => ?_⟩ (fun j hj hne hw u hu => ?_) (fun j _ _ h => ⟨fun e => own_below (h.1 e) hbl, fun e => (h.2 e).alloc _⟩)
            · have := (own_lt hown e.symm).2.1
              omega
            · have h9 : j < 11 := hj
              rcases (show j = 0 ∨ j = 1 ∨ j = 2 ∨ j = 3 ∨ j = 4 ∨ j = 5 ∨ j = 6 ∨ j = 7 ∨ j = 8 ∨ j = 9 ∨ j = 10 by omega) with rfl | rfl | rfl | rfl | rfl | rfl | rfl | rfl | rfl | rfl | rfl
              · exact hu
              · exact hu
              · exact hu
              · exact hu
              · exact hu
              · exact hu
              · exact hu
              · exact hu
              · exact absurd rfl hne
              · cases hw.symm.trans (show Grow.waitsB _ 9 8 = true by kernel_rfl)
              · cases hw.symm.trans (show Grow.waitsB _ 10 8 = true by kernel_rfl)
          case s9 =>
            refine Grow.stepY_in (by rfl) (by rfl) ?_
            intro E V ec eg ef hT hd hu hy R HR
            have e31 : E (.tmp 31) = .slice va2 vl2 vc2 := hd 0 31 (by kernel_rfl)
            obtain ⟨q, e39, hq0, hqb, hqr⟩ := hd 8 39 (by kernel_rfl)
            have hown := (hy 9 (by decide) (.inl rfl)).1 rfl
            have hbox := (hy 10 (by decide) (.inr (by kernel_rfl))).2 rfl
            clear hy
            clear hd hu
            have hVs : W2.heap.size ≤ V.heap.size := Nat.le_trans HW.out.2.1 hT.2.turned.size
            have hne : ∀ g, (Value.slice va2 vl2 vc2).ownBlock = some g → g ≠ W'.heap.size := fun g hg e => by
              have h1 := (own_lt hown hg).1
              have h2 := HW.out.1
              omega
            obtain ⟨g, cp, w', hrun, hown', hgr, hat, hlt⟩ := run_append_lies (P := Tryd.prog) V 24 24 W2.heap.size 31 k0 (.agg zerosId) 32 32 Tryd.underlying24 HK3.out.1 HK3.out.2.1 HK3.out.2.2.1 HK3.out.2.2.2 (by unfold zerosId; simp [Value.cells, u8s_length]) (by decide) _ KK _ hown ⟨q, 0, none⟩ 1 1 (idsC [X]) (by rw [idsC, u8s_length]; simp [HX.out.2.1]) (fun j u hj => by
                rw [add_plain, cell_of_cells hq0, HX.out.2.2.1, Nat.zero_add]
                simpa [idsC, row8] using hj) (u8s_one _) (by omega) (by have := HW.out.2.2.1; unfold maxLen; omega) (by have := HW.out.2.2.1; omega) hVs V.heap.size rfl
            simp [execOp, resolve, invoke, builtin, e31, e39, hrun, Result.andThen, Grow.runsTo]
            have hk9 : Kept W2.heap.size D2 (fun _ => False) V w' := Kept.of_gr hgr (fun g hg => by
              obtain ⟨h1, h2, cs, f, hc⟩ := own_lt hown hg
              exact ⟨HRW2.out g hg, fun h => h, _, _, _, hc⟩)
            have hbox' : Boxed w' W'.heap.size 24 (.slice va2 vl2 vc2) := (hgr.block _ hbox.lt (fun e => hne _ e.symm rfl)).trans hbox
            have hg1 : ¬ D2 g ∧ g ≠ W'.heap.size := by
              rcases hat with hat | hat
              · exact ⟨HRW2.out g hat, hne g hat⟩
              · exact ⟨fun hd => by have h1 := (HW.out.2.2.2 g hd).2; have h2 := hT.2.turned.size; omega, by have := hbox.lt; omega⟩
            refine HR.out _ _ ⟨hT.1.grown hgr hT.1.size (fun g hg => by have h1 := (own_lt hown hg).1; have h2 := HW.out.1; omega), hT.2.trans hk9⟩ ⟨g, cp, rfl, hown', hg1⟩ (fun j hj hne2 hw u hu => ?_) (fun j _ hne2 h => ⟨fun e => absurd e hne2, fun _ => hbox'⟩)
            have h9 : j < 11 := hj
            rcases (show j = 0 ∨ j = 1 ∨ j = 2 ∨ j = 3 ∨ j = 4 ∨ j = 5 ∨ j = 6 ∨ j = 7 ∨ j = 8 ∨ j = 9 ∨ j = 10 by omega) with rfl | rfl | rfl | rfl | rfl | rfl | rfl | rfl | rfl | rfl | rfl
            · exact hu
            · exact hu
            · exact hu
            · exact hu
            · exact hu
            · exact hu
            · exact hu
            · exact hu
            · obtain ⟨q2, h1, h2, h3, h4⟩ := hu
              exact ⟨q2, h1, (hgr.block _ (lt_of_cells h2) h4).trans h2, h3, h4⟩
            · exact absurd rfl hne2
            · cases hw.symm.trans (show Grow.waitsB _ 10 9 = true by kernel_rfl)
          case s10 =>
            refine Grow.stepY_in (by rfl) (by rfl) ?_
            intro E V ec eg ef hT hd hu hy R HR
            have e10 : E (.tmp 10) = .pointer (some ⟨W'.heap.size, 0, none⟩) := hu 10 (by kernel_rfl)
            obtain ⟨g, cp, e40, hown, hgd, hgw⟩ := hd 9 40 (by kernel_rfl)
            have hbox := (hy 10 (by decide) (.inl rfl)).2 rfl
            clear hy
            have hc := hbox.cell
            have hf := hbox.frozen
            clear hd hu
            go_simp
            have hg := grownBy_setCell' V W'.heap.size (.slice (some ⟨g, 0, none⟩) (KK + 1) cp)
            have hown2 : (V.setCell ⟨W'.heap.size, 0, none⟩ (.slice (some ⟨g, 0, none⟩) (KK + 1) cp)).ownsRow W2.heap.size 31 32 (.slice (some ⟨g, 0, none⟩) (KK + 1) cp) (KK + 1) (idsC (pre.map (rowAt (rowsOf (digs b)))) ++ idsC [X]) := ownsRow_setCell_other (e40 ▸ hown) (a := ⟨W'.heap.size, 0, none⟩) (by simp [Value.ownBlock]; exact hgw) _
            refine HR.out undef _ ⟨hT.1.setCell (Nat.le_refl _) _, hT.2.trans (Kept.of_gr (row := some W'.heap.size) hg (fun g e => by
              injection e with e
              subst e
              exact ⟨fun hd => by have h1 := (HW.out.2.2.2 _ hd).1; have h2 := HW.out.1; omega, fun h => h, _, _, _, hbox⟩))⟩ ⟨_, hbox.set _, hown2, fun g' hg' => ?_⟩ (fun j hj hne2 hw u hu => ?_) (fun j _ hne2 h => ⟨fun e => ?_, fun e => absurd e hne2⟩)
            · obtain rfl : g = g' := by simpa [Value.ownBlock] using hg'
              exact hgd
            · have h9 : j < 11 := hj
              rcases (show j = 0 ∨ j = 1 ∨ j = 2 ∨ j = 3 ∨ j = 4 ∨ j = 5 ∨ j = 6 ∨ j = 7 ∨ j = 8 ∨ j = 9 ∨ j = 10 by omega) with rfl | rfl | rfl | rfl | rfl | rfl | rfl | rfl | rfl | rfl | rfl
              · exact hu
              · exact hu
              · exact hu
              · exact hu
              · exact hu
              · exact hu
              · exact hu
              · exact hu
              · obtain ⟨q2, h1, h2, h3, h4⟩ := hu
                exact ⟨q2, h1, (Below.heap_setCell _ _ _ _ h3).trans h2, h3, h4⟩
              · obtain ⟨g3, cp3, h1, h2, h3, h4⟩ := hu
                subst h1
                exact ⟨g3, cp3, rfl, ownsRow_setCell_other h2 (a := ⟨W'.heap.size, 0, none⟩) (by simp [Value.ownBlock]; exact h4) _, h3, h4⟩
              · exact absurd rfl hne2
            · exact ownsRow_setCell_other (h.1 e) (a := ⟨W'.heap.size, 0, none⟩) (fun hh => by
                have h1 := (own_lt (h.1 e) hh).1
                have h2 := HW.out.1
                simp at h1
                omega) _
        case gfin =>
          intro V hT
          refine Grow.fin_dst (by rfl) ?_
          rintro _ rfl
          refine Grow.fin_dst (by rfl) ?_
          rintro _ rfl
          refine Grow.fin_dst (by rfl) ?_
          rintro _ rfl
          refine Grow.fin_dst (by rfl) ?_
          rintro _ rfl
          refine Grow.fin_dst (by rfl) ?_
          rintro _ rfl
          refine Grow.fin_dst (by rfl) ?_
          rintro _ rfl
          refine Grow.fin_dst (by rfl) ?_
          rintro _ rfl
          refine Grow.fin_dst (by rfl) ?_
          rintro _ rfl
          refine Grow.fin_dst (by rfl) ?_
          rintro _ ⟨_, rfl, _⟩
          refine Grow.fin_dst (by rfl) ?_
          rintro _ ⟨_, _, rfl, _⟩
          refine Grow.fin_told (by rfl) ?_
          rintro ⟨_, u, hbu, hou, hnu⟩
          simp only [Act.put, List.setIfInBounds_toArray, List.set_cons_zero, List.set_cons_succ]
          refine Grow.fin_end ?_
          have HP : Hid (Kept W2.heap.size D2 (fun _ => False) W'' V ∧ PvJ W' W2.heap.size (rowsOf (digs b)) D2 (pre ++ [x]) V) := Lib.hid ⟨hT.2, hT.1, u, hbu, by
            rw [List.length_append, List.length_singleton, ← HKK.out, List.map_append, List.map_singleton, ← HX.out.2.2.2.2.2.2.2, idsC, List.flatten_append, u8s_append]
            exact hou, hnu⟩
          clear hT hbu hou hnu
          gi_wp2
          exact HP.out
  · rw [decide_eq_false hr] at hwi
    have HRG : Hid (proveErr b i = 14 ∧ proveLeaf b i = [] ∧ proveWay b i = []) := Lib.hid (by
      rw [HH.out.2.2.2.1] at hr
      exact ⟨by rw [proveErr, if_neg hr], by rw [proveLeaf, if_neg hr], by rw [proveWay, if_neg hr]⟩)
    clear hr
    refine (callsIn_wide (n := 3)).1 ?_
    refine callsIn_of_wp_marks Tryd.func10 rfl trivial ?_ rfl
    simp only [Tryd.ntmps10, List.size_toArray, List.length_cons, List.length_nil, Nat.reduceAdd, Nat.reduceSub, Array.replicate_succ, Array.replicate_zero, List.push_toArray, List.append_toArray, List.nil_append, List.cons_append]
    gi_wp2_with (first
      | (refine ⟨trivial, ?_⟩; gi_at_call 14; refine (callsIn_wide.2 hlv).mono ?_; clear hlv; rintro _ _ ⟨rfl, rfl⟩)
      | (refine ⟨trivial, ?_⟩; gi_at_call 21; refine (callsIn_wide.2 hwi).mono ?_; clear hwi; rintro _ _ ⟨rfl, rfl⟩))
    exact ⟨_, results_tmp3 rfl _ _ _, none, 0, 0, none, 0, 0, by rw [HRG.out.1]; rfl, by rw [HRG.out.2.1]; exact Byt.nil _ _ _ _ (Nat.zero_le _), by rw [HRG.out.2.2]; exact Ids.nil _ _ _ _ (Nat.zero_le _), Below.refl _ _⟩
end Go.Proofs.YtebhlfmianohlaaDoor
