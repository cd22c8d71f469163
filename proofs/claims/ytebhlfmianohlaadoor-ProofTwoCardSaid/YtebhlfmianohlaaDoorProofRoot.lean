/-
  proof.Root.
-/
import Derived.Test.YtebhlfmianohlaaDoorProofIter
import Derived.Test.YtebhlfmianohlaaDoorGrowF
namespace Go.Proofs.YtebhlfmianohlaaDoor
open Go.RowKit Go.Shelf
attribute [local go_sem] Oper.semAt_some

theorem wpListIn_load_id {F : Fence} {nr : Nat} {ops : Array Oper} {rest : List Oper} {op : Oper} {a : Act} {W : World} {Q : Exit → Act → World → Prop} (hgd : op.guard = none) (x : Operand) (ho : op.op = .load 31 x)
    {S : Nat → Prop} {b off n c : Nat} {l : List (List UInt8)} (h : Ids W S (some ⟨b, off, none⟩) n c l) (i : Nat) (hi : i < n) (XS : Array Value) (hXS : XS = row8 (l[i]?.getD [])) (o : Nat) (hoo : o = off + i * 32) (hx : a.eval x = .pointer (some ⟨b, o, none⟩))
    (hK : wpListIn F nr Tryd.prog ops Q rest (a.put op.dst (.agg XS)) W) : wpListIn F nr Tryd.prog ops Q (op :: rest) a W := by
  refine wpListIn_plain hgd fun K hK' => ?_
  subst hXS hoo
  obtain ⟨b', off', hA, _, h32, hc⟩ := h.at_ hi
  injection hA with hA
  injection hA with e1 e2
  subst e1 e2
  unfold Oper.wpIn
  refine ⟨?_, ?_⟩
  · simp [Oper.about, ho]
  · rw [Oper.semAt_plain F _ _ (by rw [ho]; intro c hc; cases hc)]
    unfold execOp
    simp only [ho, hx, Instr.loadAt, Instr.sureAddr, Sem.run_bind, Sem.run_pure, Result.andThen_ok, run_loadVar_at W ⟨b, off + i * 32, none⟩ 31 (row8 (l[i]?.getD [])) _ hc Tryd.underlying31 rfl (by rw [row8_size, h32]; exact id_info)]
    exact hK' _ _ hK
theorem rowsOf_top : ∀ (l : List (List UInt8)), ((rowsOf l)[(rowsOf l).length - 1]?.getD [])[0]?.getD [] = topL l := by
  refine rows_rec (fun l h => ?_) (fun l h ih => ?_)
  · rw [rowsOf_one h, topL_one h]
    rfl
  · have hp : 0 < (rowsOf (aboveL l)).length := by
      rcases Nat.lt_or_ge 1 (aboveL l).length with h1 | h1
      · rw [rowsOf_more h1]; simp
      · rw [rowsOf_one (by omega)]; simp
    rw [rowsOf_more h, topL_more h, ← ih, List.length_cons, Nat.add_sub_cancel]
    obtain ⟨k, hk⟩ : ∃ k, (rowsOf (aboveL l)).length = k + 1 := ⟨_, (Nat.succ_pred_eq_of_pos hp).symm⟩
    rw [hk, List.getElem?_cons_succ, Nat.add_sub_cancel]
theorem rowsOf_pos (l : List (List UInt8)) : 0 < (rowsOf l).length := by
  rcases Nat.lt_or_ge 1 l.length with h1 | h1
  · rw [rowsOf_more h1]; simp
  · rw [rowsOf_one (by omega)]; simp
def RtI (w : World) (R : List (List (List UInt8))) (_ : Nat → Prop) (pre : List SlV) (W : World) : Prop :=
  Below w.heap.size w W ∧ W.heap[w.heap.size]? = some (.cells zerosId 31 (0, 0)) ∧ ∃ t, t.length = 32 ∧ (0 < pre.length → t = (R[pre.length - 1]?.getD [])[0]?.getD []) ∧ W.heap[w.heap.size + 1]? = some (.cells (row8 t) 31 (0, 0))
theorem RtI.still (w : World) (R : List (List (List UInt8))) : Still (w.heap.size + 3) (RtI w R) := by
  rintro D D' s W W' hb ⟨h1, h2, t, h3, h4, h5⟩ hS _
  exact ⟨hS.below h1 hb (Nat.le_refl _) (by omega), hS.cells h2 (hb.not (by omega)), t, h3, h4, hS.cells h5 (hb.not (by omega))⟩

set_option maxHeartbeats 4000000 in
set_option maxRecDepth 100000 in
theorem root_any {w : World} {S : Nat → Prop} {A : Option Addr} {n c : Nat} {b : List UInt8} (h : Byt w S A n c b) (hn : n ≤ 1000000) (ht : Tab w) :
    Calls Tryd.prog 12 #[.slice A n c] w fun e w' => e = .returned (.agg (row8 (rootL b))) ∧ Below w.heap.size w w' := by
  have hz := zero_id
  obtain ⟨RS, hRS⟩ : ∃ RS, RS = row8 (rootL b) := ⟨_, rfl⟩
  rw [← hRS]
  have HRS : Hid (RS = row8 (rootL b) ∧ RS.size = 32 ∧ RS.all (·.oneCell') = true) := Lib.hid ⟨hRS, by rw [hRS, row8_size]; exact crownD_length _ _, by rw [hRS]; exact row8_one _⟩
  obtain ⟨W1, hW1⟩ : ∃ W1, ((w.alloc (.cells zerosId 31)).alloc (.cells zerosId 31)).alloc (.cells #[.slice A n c] 22) = W1 := ⟨_, rfl⟩
  have hsz : W1.heap.size = w.heap.size + 3 := by rw [← hW1]; simp
  have hb1 : Below w.heap.size w W1 := by rw [← hW1]; exact (((Below.refl _ _).alloc (Nat.le_refl _) _).alloc (by simp) _).alloc (by simp; omega) _
  have hx0 : W1.heap[w.heap.size]? = some (.cells zerosId 31 (0, 0)) := by
    rw [← hW1]
    exact (Below.heap_alloc _ _ _ (by simp; omega)).trans ((Below.heap_alloc _ _ _ (by simp)).trans (heap_alloc_new w _))
  have hx1 : W1.heap[w.heap.size + 1]? = some (.cells (row8 (List.replicate 32 0)) 31 (0, 0)) := by
    rw [← hW1]
    have := heap_alloc_new (w.alloc (.cells zerosId 31)) (.cells zerosId 31)
    refine (Below.heap_alloc _ _ _ (by simp)).trans ?_
    rw [show row8 (List.replicate 32 0) = zerosId from rfl]
    simpa using this
  have hx2 : W1.heap[w.heap.size + 2]? = some (.cells #[.slice A n c] 22 (0, 0)) := by
    rw [← hW1]
    have := heap_alloc_new ((w.alloc (.cells zerosId 31)).alloc (.cells zerosId 31)) (.cells #[.slice A n c] 22)
    simpa using this
  have HH := Lib.hid (And.intro h (And.intro hn ht))
  have HI0 : Hid (RtI w (rowsOf (digs b)) (fun _ => False) [] W1) := Lib.hid ⟨hb1, hx0, _, by simp, fun h => absurd h (by simp), hx1⟩
  have H1 := Lib.hid (And.intro hsz (And.intro hb1 hx2))
  clear h hn ht hRS hsz hb1 hx0 hx1 hx2
  refine (callsIn_wide (n := 3)).1 ?_
  refine callsIn_of_wp_marks Tryd.func12 rfl trivial ?_ rfl
  simp only [Tryd.ntmps12, List.size_toArray, List.length_cons, List.length_nil, Nat.reduceAdd, Nat.reduceSub, Array.replicate_succ, Array.replicate_zero, List.push_toArray, List.append_toArray, List.nil_append, List.cons_append]
  gi_wp2_with (refine ⟨trivial, ?_⟩; gi_at_call 22; refine (callsIn_wide.2 (prows_any A n c _)).mono ?_; rintro _ _ ⟨rfl, rfl⟩)
  try simp only [World.size_alloc]
  clear hW1
  have hte := HH.out.2.2
  refine wpIn_rangeFunc_it (gf := 39) (lb := #[.pointer (some ⟨w.heap.size + 1 + 1, 0, none⟩)]) rfl (enters_of Tryd.func39 (by kernel_rfl) rfl) (rows_iter (HH.out.1.below H1.out.2.1) HH.out.2.1 (hte.below H1.out.2.1) (w.heap.size + 1 + 1) H1.out.2.2) (Below.refl _ _) (fun b hb => by have h1 := hte.lt1; have h2 := hte.lt2; have h3 := H1.out.1; rcases hb with rfl | rfl <;> omega) (fun _ => rfl)
    (RtI w (rowsOf (digs b))) (fun _ _ _ _ => False) (by rw [H1.out.1]; exact RtI.still w _) (fun _ => still_false _) HI0.out
    (fun x a' _ => a' = { tmps := #[.slice A n c, undef, .pointer (some ⟨w.heap.size, 0, none⟩), .pointer (some ⟨w.heap.size + 1, 0, none⟩), .slice x.1 x.2.1 x.2.2, .slice A n c, rowsFn (w.heap.size + 1 + 1), .slice x.1 x.2.1 x.2.2, undef, undef, undef, undef, undef, undef, undef, undef, undef], defers := [] }) (fun _ _ => ownFrom_pure _ _) ?assign ?body ?done ?stop
  case assign =>
    intro l' D pre x W' C _ hi _ hC
    simp only [slE]
    gi_wp2
    exact hC _ _ (Kept.refl _ _ _ _) hi (by simp)
  case stop =>
    intro E D c pre W _ _ _ _ h _
    exact h.elim
  case body =>
    rintro l' D pre ⟨Ax, nx, cx⟩ a' W' hl hws hBd ⟨hbl, hr0, t, ht32, htv, hr1⟩ hX rfl
    have hx := hX.2 pre.length (Ax, nx, cx) (by simp)
    obtain ⟨hix, hpx⟩ := hx
    obtain ⟨bx, ofx, hAx, _⟩ := hix.row hpx
    simp only at hAx hix hpx
    subst hAx
    obtain ⟨X, hXd⟩ : ∃ X, X = ((rowsOf (digs b))[pre.length]?.getD [])[0]?.getD [] := ⟨_, rfl⟩
    have hX32 : X.length = 32 := by rw [hXd]; exact get32 hix.each (by rw [hix.len]; exact hpx)
    obtain ⟨XS, hXS⟩ : ∃ XS, XS = row8 X := ⟨_, rfl⟩
    have HX : Hid (XS = row8 X ∧ XS.size = 32 ∧ XS.all (·.oneCell') = true ∧ X.length = 32 ∧ X = ((rowsOf (digs b))[pre.length]?.getD [])[0]?.getD []) := Lib.hid ⟨hXS, by rw [hXS, row8_size, hX32], by rw [hXS]; exact row8_one _, hX32, hXd⟩
    have HB := Lib.hid (And.intro hix (And.intro hbl (And.intro hr0 (And.intro hr1 (And.intro ht32 hBd)))))
    have hpx' : (0 : Int) < (nx : Int) := by omega
    clear hXS hX32 hXd hix hbl hr0 hr1 ht32 htv hBd hX
    gi_wp2_with (first | refine wpListIn_load_id (by rfl) (.tmp 9) (by rfl) HB.out.1 0 hpx XS (by rw [← HX.out.2.2.2.2]; exact HX.out.1) _ ?_ (by rfl) ?_ | refine wpListIn_store_row (by rfl) 31 (.tmp 3) (.tmp 10) (by rfl) (w.heap.size + 1) XS (by rfl) (by rfl) 31 _ HB.out.2.2.2.1 (by rw [HX.out.2.1]; exact id_info) (by rw [HX.out.2.1, row8_size]; exact HB.out.2.2.2.2.1) HX.out.2.2.1 ?_)
    have hnt : ¬ tabK (w.heap.size + 1) := fun hb => by
      have h1 := HH.out.2.2.lt1
      have h2 := HH.out.2.2.lt2
      unfold tabK at hb
      omega
    refine ⟨Kept.of_turned (turned_setRow XS) HB.out.2.2.2.1 (fun hd => by have h1 := (HB.out.2.2.2.2.2 _ hd).1; have h2 := H1.out.1; omega) hnt, below_setRow HB.out.2.1 (by omega) _, (setRow_ne _ _ _ _ (by omega)).trans HB.out.2.2.1, X, HX.out.2.2.2.1, fun _ => ?_, (setRow_at HB.out.2.2.2.1).trans (by rw [HX.out.1])⟩
    rw [HX.out.2.2.2.2]
    simp
  case done =>
    rintro E D xs W' hE hws hBd hlen _ ⟨hbl, hr0, t, ht32, htv, hr1⟩ hK
    have htop : t = topL (digs b) := by
      have hp := rowsOf_pos (digs b)
      rw [htv (by omega), hlen, rowsOf_top]
    obtain ⟨TS, hTS⟩ : ∃ TS, TS = row8 t := ⟨_, rfl⟩
    rw [← hTS] at hr1
    have HTS : Hid (TS = row8 t ∧ TS.size = 32 ∧ t.length = 32 ∧ t = topL (digs b)) := Lib.hid ⟨hTS, by rw [hTS, row8_size, ht32], ht32, htop⟩
    have HW : Hid (Below w.heap.size w W' ∧ W'.heap[w.heap.size]? = some (.cells zerosId 31 (0, 0)) ∧ W'.heap[w.heap.size + 1]? = some (.cells TS 31 (0, 0)) ∧ W'.heap[E]? = some (.deferred (some [])) ∧ E = W1.heap.size) := Lib.hid ⟨hbl, hr0, hr1, hK, hE⟩
    have HWD : Hid (Byt W'.drew (fun x => x < w.heap.size) A n c b ∧ W'.drew.heap[w.heap.size]? = some (.cells zerosId 31 (0, 0)) ∧ W'.drew.heap[w.heap.size + 1]? = some (.cells TS 31 (0, 0)) ∧ Tab W'.drew) := Lib.hid ⟨((HH.out.1.mono (T := fun x => x < w.heap.size) fun b hb _ => hb).below hbl).drew, hr0, hr1, (HH.out.2.2.below hbl).drew⟩
    have HTL : Hid (0 < w.heap.size ∧ 1 < w.heap.size) := Lib.hid ⟨HH.out.2.2.lt1, HH.out.2.2.lt2⟩
    have HN63 : Hid ((splitL b).length < 9223372036854775808) := Lib.hid (by
      have h1 := leaves_at b
      rw [HH.out.1.len] at h1
      have h2 := HH.out.2.1
      split at h1 <;> omega)
    clear hbl hr0 hr1 ht32 htv hK hE hTS htop hlen hz hte
    gi_wp2
    refine wpIn_region_growF (Grow.open_wide _ _) (Sto w.heap.size (.cells RS 31 (0, 0))) (Grow.nth [fun v _ => v = .slice A n c, fun v _ => v = .int .i64 ((splitL b).length : Int), fun v _ => v = .agg TS, fun v W => ∃ q c', v = .slice (some ⟨q, 0, none⟩) 41 c' ∧ Byt W (fun b => b ≠ w.heap.size) (some ⟨q, 0, none⟩) 41 c' (2 :: (le8 (splitL b).length 8 ++ t)), fun v W => ∃ q, v = .slice (some ⟨q, 0, none⟩) 1 1 ∧ Rws W (fun b => b ≠ w.heap.size) (some ⟨q, 0, none⟩) 1 1 [2 :: (le8 (splitL b).length 8 ++ t)], fun v _ => v = .agg RS, fun _ W => W.heap[w.heap.size]? = some (.cells RS 31 (0, 0))]) 17 (by kernel_rfl) (by kernel_rfl) (by kernel_rfl) (by rfl) (Sto.refl _ _) (fun _ _ _ h1 h2 => h1.trans h2) (Grow.mono_nth ?gmono) ?gsteps ?gfin
    case gmono => exact ⟨fun _ _ _ h _ => h, fun _ _ _ h _ => h, fun _ _ _ h _ => h, fun _ _ _ ⟨q, c', h1, h2⟩ hg => ⟨q, c', h1, h2.turned hg.turned fun _ _ h => h⟩, fun _ _ _ ⟨q, h1, h2⟩ hg => ⟨q, h1, h2.turned hg.turned fun _ _ h => h⟩, fun _ _ _ h _ => h, fun _ _ _ h g => g.keeps h, trivial⟩
    case gsteps =>
      show Grow.allBelow _ 7
      refine And.intro ?_ ?s6
      refine And.intro ?_ ?s5
      refine And.intro ?_ ?s4
      refine And.intro ?_ ?s3
      refine And.intro ?_ ?s2
      refine And.intro ?_ ?s1
      refine And.intro ?_ ?s0
      exact trivial
      case s0 =>
        refine Grow.step_in (by rfl) (by rfl) ?_
        intro E W ec eg ef hG hd hu R HR
        have e0 : E (.tmp 0) = .slice A n c := hu 0 (by kernel_rfl)
        clear hd hu
        go_simp
        exact HR.out _ _ (Sto.refl _ _ _) rfl
      case s1 =>
        refine Grow.step_in (by rfl) (by rfl) ?_
        intro E W ec eg ef hG hd hu R HR
        have e11 : E (.tmp 11) = .slice A n c := hd 0 11 (by kernel_rfl)
        clear hd hu
        go_simp
        refine (leaves_any (HWD.out.1.turned hG.turned (fun b hb h => by omega))).mono ?_
        rintro _ w' ⟨rfl, rfl⟩
        exact ⟨_, rfl, HR.out _ _ (Sto.refl _ _ _) rfl⟩
      case s2 =>
        refine Grow.step_in (by rfl) (by rfl) ?_
        intro E W ec eg ef hG hd hu R HR
        have e3 : E (.tmp 3) = .pointer (some ⟨w.heap.size + 1, 0, none⟩) := hu 3 (by kernel_rfl)
        clear hd hu
        exact runs_load 31 (.tmp 3) rfl (w.heap.size + 1) e3 TS (0, 0) ((hG.turned.block _ (lt_of_cells HWD.out.2.2.1) (by omega)).trans HWD.out.2.2.1) Tryd.underlying31 (by rw [HTS.out.2.1]; exact id_info) (HR.out _ _ (Sto.refl _ _ _) rfl)
      case s3 =>
        refine Grow.step_in (by rfl) (by rfl) ?_
        intro E W ec eg ef hG hd hu R HR
        have e12 : E (.tmp 12) = .int .i64 ((splitL b).length : Int) := hd 1 12 (by kernel_rfl)
        have e13 : E (.tmp 13) = .agg TS := hd 2 13 (by kernel_rfl)
        clear hd hu
        go_simp
        rw [HTS.out.1]
        refine (ofRoot_any (splitL b).length HN63.out t HTS.out.2.2.1 W).mono ?_
        rintro _ w' ⟨q, c', rfl, hy, hb⟩
        have hlt := hG.lt (lt_of_cells HWD.out.2.1)
        exact ⟨_, rfl, HR.out _ _ (Sto.of_below hb hlt) ⟨q, c', rfl, hy.mono fun b _ hb => by omega⟩⟩
      case s4 =>
        refine Grow.step_in (by rfl) (by rfl) ?_
        intro E W ec eg ef hG hd hu R HR
        have h14 := hd 3 14 (by kernel_rfl)
        clear hd hu
        obtain ⟨q, c', e14, hY⟩ := h14
        go_simp
        have hlt := hG.lt (lt_of_cells HWD.out.2.1)
        exact HR.out _ _ (Sto.of_below ((Below.refl _ _).alloc (Nat.le_refl _) _) hlt) ⟨W.heap.size, rfl, rws_made hY (fun _ h => h) (show W.heap.size ≠ _ by omega)⟩
      case s5 =>
        refine Grow.step_in (by rfl) (by rfl) ?_
        intro E W ec eg ef hG hd hu R HR
        have h15 := hd 4 15 (by kernel_rfl)
        clear hd hu
        obtain ⟨q, e15, hR⟩ := h15
        go_simp
        refine (of_any hR (HWD.out.2.2.2.turned hG.turned (by have := HTL.out; omega) (by have := HTL.out; omega)) (by simp [le8_length, HTS.out.2.2.1])).mono ?_
        rintro _ w' ⟨rfl, hb⟩
        exact ⟨_, rfl, HR.out _ _ (Sto.of_below hb (hG.lt (lt_of_cells HWD.out.2.1))) (show Value.agg _ = Value.agg RS by rw [HRS.out.1, HTS.out.2.2.2]; simp [row8, rootL, crownD])⟩
      case s6 =>
        refine Grow.step_in (by rfl) (by rfl) ?_
        intro E W ec eg ef hG hd hu R HR
        have e2 : E (.tmp 2) = .pointer (some ⟨w.heap.size, 0, none⟩) := hu 2 (by kernel_rfl)
        have e16 : E (.tmp 16) = .agg RS := hd 5 16 (by kernel_rfl)
        clear hd hu
        obtain ⟨ds, hds, hdo⟩ := hG.old HWD.out.2.1
        exact runs_store 31 (.tmp 2) (.tmp 16) rfl w.heap.size RS e2 e16 31 ds hds (by rw [HRS.out.2.1]; exact id_info) (by rcases hdo with rfl | rfl; exact HRS.out.2.1.symm; rfl) HRS.out.2.2 (HR.out _ _ (Sto.store hds) (setRow_at hds))
    case gfin =>
      intro W hG
      refine Grow.fin_dst (by rfl) ?_
      rintro _ rfl
      refine Grow.fin_dst (by rfl) ?_
      rintro _ rfl
      refine Grow.fin_dst (by rfl) ?_
      rintro _ rfl
      refine Grow.fin_dst (by rfl) ?_
      rintro _ ⟨_, _, rfl, _⟩
      refine Grow.fin_dst (by rfl) ?_
      rintro _ ⟨_, rfl, _⟩
      refine Grow.fin_dst (by rfl) ?_
      rintro _ rfl
      refine Grow.fin_told (by rfl) ?_
      rintro ⟨_, hK⟩
      simp only [Act.put, List.setIfInBounds_toArray, List.set_cons_zero, List.set_cons_succ]
      refine Grow.fin_end ?_
      have HG : Hid (Below w.heap.size w W) := Lib.hid (HW.out.1.trans ((hG.of_drew.turned.mono (T := (w.heap.size ≤ ·)) fun b _ hb => by omega).below HW.out.1.size))
      have HK := Lib.hid hK
      have HE : Hid (W.heap[E]? = some (.deferred (some []))) := Lib.hid ((hG.turned.block _ (Array.getElem?_eq_some_iff.1 HW.out.2.2.2.1).1 (fun e => by have h1 := HW.out.2.2.2.2; have h2 := H1.out.1; omega)).trans HW.out.2.2.2.1)
      clear hG hK
      gi_wp2
      refine ⟨by simp, .inl ⟨_, _, rfl, run_takeDeferred HE.out, ?_⟩⟩
      have hne : w.heap.size ≠ E := by
        have h1 := HW.out.2.2.2.2
        have h2 := H1.out.1
        omega
      exact ⟨_, results_cell_row rfl _ _ w.heap.size 31 RS (0, 0) _ rfl ((World.putObj_heap_other hne).trans HK.out) Tryd.underlying31 rfl (by rw [HRS.out.2.1]; exact id_info), rfl, HG.out.trans (belowK_b (w := w) (Nat.le_refl _) W E _ _ (by have h1 := HW.out.2.2.2.2; have h2 := H1.out.1; omega) HE.out rfl rfl)⟩
end Go.Proofs.YtebhlfmianohlaaDoor
