/-
  The reference's Check.
-/
import Derived.Test.YtebhlfmianohlaaDoorProofRefNode
import Derived.Test.YtebhlfmianohlaaDoorProofCheck
import Derived.Test.YtebhlfmianohlaaDoorGrowF
namespace Go.Proofs.YtebhlfmianohlaaDoor
open Go.RowKit

def RcK (w : World) (OS : Array Value) (q11 n i nw : Nat) (x0 : List UInt8) (way : List (List UInt8)) (iv kv mv : Value) (wr : World) : Prop :=
  ∃ (ij kj mj : Nat) (t : List UInt8), iv = .int .i64 (ij : Int) ∧ kv = .int .i64 (kj : Int) ∧ mv = .int .i64 (mj : Int) ∧ ij < mj ∧ mj ≤ n ∧ kj ≤ nw ∧ t.length = 32 ∧ climb n i x0 way = climb mj ij t (way.drop kj) ∧ Below w.heap.size w wr ∧
    wr.heap[w.heap.size]? = some (.cells OS 31 (0, 0)) ∧ wr.heap[q11]? = some (.cells (row8 t) 31 (0, 0))

theorem storeIn_row {F : Fence} {n : Nat} {P : Program} {o : Oper} {a : Act} {w : World} {K : Act → World → Prop} {Q : Exit → Act → World → Prop} (ty : TypeId) (x y : Operand) (ho : o.op = .store ty x y)
    (g : Nat) (cells : Array Value) (hx : a.eval x = .pointer (some ⟨g, 0, none⟩)) (hy : a.eval y = .agg cells)
    (t : TypeId) (old : Array Value) (hg : w.heap[g]? = some (.cells old t (0, 0))) (hi : (P.info? ty).map (·.size) = some cells.size)
    (hold : old.size = cells.size) (h1 : cells.all (·.oneCell') = true)
    (h : K (a.put o.dst undef) (w.setRow g cells)) : o.wpIn F n P a w K Q := by
  unfold Oper.wpIn
  refine ⟨?_, ?_⟩
  · simp [Oper.about, ho]
  · rw [Oper.semAt_plain F _ _ (by rw [ho]; intro c hc; cases hc)]
    unfold execOp
    simp only [ho, hx, hy, Instr.storeAt, Instr.sureAddr, Sem.run_bind, Sem.run_pure, Result.andThen_ok, run_storeVar_row w g t ty old cells hg hi hold h1]
    exact h

set_option maxHeartbeats 4000000 in
set_option maxRecDepth 100000 in
theorem rcheck_any {w : World} {T : Nat → Prop} {Aw : Option Addr} {nw cw : Nat} {leaf : List UInt8} {way : List (List UInt8)} (root : List UInt8) (hroot : root.length = 32) (n i : Int) (hn : n < 9223372036854775808) (hleaf : leaf.length ≤ 1000) (hids : Ids w T Aw nw cw way) :
    Calls Tryd.prog 18 #[.agg (row8 root), .int .i64 n, .int .i64 i, .string (st leaf), .slice Aw nw cw] w fun e w' => e = .returned (.int .i64 (checkL root n i leaf way)) ∧ Below w.heap.size w w' := by
  have hb0 : Below w.heap.size w (w.alloc (.cells (row8 root) 31)) := (Below.refl _ _).alloc (Nat.le_refl _) _
  have hx0 := heap_alloc_new w (.cells (row8 root) 31)
  obtain ⟨OS, hOS⟩ : ∃ OS, OS = row8 root := ⟨_, rfl⟩
  rw [← hOS] at hb0 hx0 ⊢
  have HOS : Hid (OS = row8 root ∧ OS.size = 32 ∧ root.length = 32) := Lib.hid ⟨hOS, by rw [hOS, row8_size, hroot], hroot⟩
  have H0 := Lib.hid (And.intro hb0 hx0)
  have hls := st_size leaf
  clear hOS hroot hb0 hx0
  by_cases hr : 0 ≤ i ∧ i < n
  · obtain ⟨i', rfl⟩ := Int.eq_ofNat_of_zero_le hr.1
    obtain ⟨n', rfl⟩ := Int.eq_ofNat_of_zero_le (show 0 ≤ n by omega)
    have hi' : i' < n' := by omega
    have hn' : n' < 9223372036854775808 := by omega
    have d1 : ¬ (n' : Int) < 1 := by omega
    have d2 : ¬ (i' : Int) < 0 := by omega
    have d3 : ¬ (n' : Int) ≤ (i' : Int) := by omega
    have HA := Lib.hid (And.intro hids (And.intro hi' (And.intro hn' hleaf)))
    clear hids hr hn hn' hi' hleaf
    by_cases hl1 : leaf.length ≤ 64
    · have hgt : ¬ (64 : Int) < (leaf.length : Int) := by omega
      have HC : Hid (checkL root (n' : Int) (i' : Int) leaf way = match climb n' i' (leafD leaf) way with | some x => if crownD n' x = root then 0 else 21 | none => 21) := Lib.hid (by
        rw [checkL, if_neg (by have := HA.out.2.1; omega), if_neg (by omega), Int.toNat_natCast, Int.toNat_natCast]
        rfl)
      have hz := zero_id
      have ha := st_cons 0 leaf
      have hsum : ¬ (9223372036854775807 : Int) < 1 + (leaf.length : Int) := by omega
      have hof := rof_any (0 :: leaf) (by simp; omega) (w.alloc (.cells OS 31))
      obtain ⟨X0, hX0⟩ : ∃ X0, X0 = leafD leaf := ⟨_, rfl⟩
      obtain ⟨XS, hXS⟩ : ∃ XS, XS = row8 X0 := ⟨_, rfl⟩
      rw [show shaL (0 :: leaf) = X0 from hX0.symm, show (u8s X0).toArray = XS from hXS.symm] at hof
      have HXS : Hid (XS = row8 X0 ∧ XS.size = 32 ∧ XS.all (·.oneCell') = true ∧ X0.length = 32 ∧ X0 = leafD leaf) := Lib.hid ⟨hXS, by rw [hXS, row8_size, hX0]; exact leafD_length _, by rw [hXS]; exact row8_one _, by rw [hX0]; exact leafD_length _, hX0⟩
      clear hX0 hXS hl1
      generalize st (0 :: leaf) = sl at *
      go_enter Tryd.func18, Tryd.ntmps18
      go_wp2_with fail
      refine hof.mono ?_
      clear hof
      rintro _ w2 ⟨rfl, hb2⟩
      have HG := Lib.hid (heap_alloc_new w2 (.cells zerosId 31))
      have hb23 : Below w2.heap.size w2 ((w2.alloc (.cells zerosId 31)).setRow w2.heap.size XS) := below_setRow ((Below.refl _ _).alloc (Nat.le_refl _) _) (Nat.le_refl _) _
      have hb02 := H0.out.1.trans (hb2.mono H0.out.1.size)
      have hb03 := hb02.trans (hb23.mono hb02.size)
      have hx03 := (hb23.block _ (Nat.lt_of_lt_of_le (lt_of_cells H0.out.2) hb2.size)).trans ((hb2.block _ (lt_of_cells H0.out.2)).trans H0.out.2)
      have hset := setRow_at (new := XS) HG.out
      rw [HXS.out.1] at hset
      have hq0 : w.heap.size < w2.heap.size := Nat.lt_of_lt_of_le (lt_of_cells H0.out.2) hb2.size
      have H3 : Hid (w.heap.size < w2.heap.size ∧ Below w.heap.size w ((w2.alloc (.cells zerosId 31)).setRow w2.heap.size XS) ∧ ((w2.alloc (.cells zerosId 31)).setRow w2.heap.size XS).heap[w.heap.size]? = some (.cells OS 31 (0, 0)) ∧ ((w2.alloc (.cells zerosId 31)).setRow w2.heap.size XS).heap[w2.heap.size]? = some (.cells (row8 X0) 31 (0, 0))) := Lib.hid ⟨hq0, hb03, hx03, by rw [← HXS.out.1]; rw [← HXS.out.1] at hset; exact hset⟩
      clear hb2 hb23 hb02 hb03 hset hx03 hq0
      go_wp2_with (refine wpList_store_row (by rfl) 31 (.tmp 11) (.tmp 30) (by rfl) w2.heap.size XS (by rfl) (by rfl) 31 zerosId HG.out (by rw [HXS.out.2.1]; exact id_info) (by rw [HXS.out.2.1]; rfl) HXS.out.2.2.1 ?_; generalize (w2.alloc (.cells zerosId 31)).setRow w2.heap.size XS = w3 at H3 ⊢)
      clear HG
      generalize w2.heap.size = q11 at *
      have H30 := Lib.hid H3.out.1
      go_loopw [2, 12, 13] (fun iv kv mv wr => RcK w OS q11 n' i' nw X0 way iv kv mv wr) (fun _ _ mv _ => (intOf mv).toNat)
      case atStart => unfold RcK; exact ⟨i', 0, n', X0, rfl, rfl, rfl, HA.out.2.1, Nat.le_refl _, Nat.zero_le _, HXS.out.2.2.2.1, by simp, H3.out.2.1, H3.out.2.2.1, H3.out.2.2.2⟩
      case round =>
        obtain ⟨ij, kj, mj, t, rfl, rfl, rfl, hij, hmn, hkn, ht32, hcl, hbr, hxr, hqr⟩ := hrel
        have HX := Lib.hid (And.intro hbr (And.intro hxr (And.intro hqr (And.intro ht32 hcl))))
        clear hbr hxr hqr ht32 hcl
        by_cases hm1 : 1 < mj
        · have hm1' : (1 : Int) < (mj : Int) := by omega
          by_cases ho : ij % 2 = 1
          · skip
            by_cases hk : kj < nw
            · have hk' : ¬ (nw : Int) ≤ (kj : Int) := by omega
              obtain ⟨b, off, rfl, _⟩ := HA.out.1.row (by omega)
              have hwl := HA.out.1.len
              obtain ⟨Y, hY⟩ : ∃ Y, Y = way[kj]?.getD [] := ⟨_, rfl⟩
              obtain ⟨YS, hYS⟩ : ∃ YS, YS = row8 Y := ⟨_, rfl⟩
              obtain ⟨TS, hTS⟩ : ∃ TS, TS = row8 t := ⟨_, rfl⟩
              obtain ⟨NS, hNS⟩ : ∃ NS, NS = row8 (nodeD Y t) := ⟨_, rfl⟩
              have HYS : Hid (YS = row8 Y ∧ Y.length = 32 ∧ Y = way[kj]?.getD []) := Lib.hid ⟨hYS, by rw [hY]; exact get32 HA.out.1.each (by omega), hY⟩
              have HTS : Hid (TS = row8 t ∧ TS.size = 32 ∧ t.length = 32) := Lib.hid ⟨hTS, by rw [hTS, row8_size]; exact HX.out.2.2.2.1, HX.out.2.2.2.1⟩
              have HNS : Hid (NS = row8 (nodeD Y t) ∧ NS.size = 32 ∧ NS.all (·.oneCell') = true) := Lib.hid ⟨hNS, by rw [hNS, row8_size]; exact nodeD_length _ _, by rw [hNS]; exact row8_one _⟩
              have hcl2 : climb n' i' X0 way = climb ((mj + 1) / 2) (ij / 2) (nodeD Y t) (way.drop (kj + 1)) := by
                rw [HX.out.2.2.2.2, List.drop_eq_getElem_cons (by omega), climb_two hm1 (show ij % 2 = 1 ∨ ij + 1 < mj by omega)]
                have e : way[kj]'(by omega) = Y := by rw [hY, List.getElem?_eq_getElem (by omega)]; rfl
                rw [e, if_pos ho]
              have HCL := Lib.hid hcl2
              have HI2 : Hid (Ids wr.drew T (some ⟨b, off, none⟩) nw cw way) := Lib.hid (HA.out.1.below HX.out.1).drew
              have HQ2 : Hid (wr.drew.heap[q11]? = some (.cells TS 31 (0, 0))) := Lib.hid (by rw [HTS.out.1]; exact HX.out.2.2.1)
              clear H3 hY hYS hTS hNS hcl2 hwl
              go_wp2_with fail
              refine (wpIn_wide (n := 3)).1 ?_
              refine wpIn_region_growL (Grow.open_wide _ _) (fun W W' => Below W.heap.size W W') (Grow.nth [fun v _ => v = .slice (some ⟨b, off, none⟩) nw cw, fun v _ => v = .int .i64 (kj : Int), fun v _ => v = .pointer (some ⟨b, off + kj * 32, none⟩), fun v _ => v = .agg YS, fun v _ => v = .agg TS, fun v _ => v = .agg NS]) 82 (by kernel_rfl) (by kernel_rfl) (by kernel_rfl) (by kernel_rfl) (by rfl) (fun W => Below.refl _ W) (fun _ _ _ h1 h2 => h1.trans (h2.mono h1.size)) (Grow.mono_nth ?gmono) 6 (by rfl) (by rfl) (by rfl) ?gsteps ?gfin
              case gmono => exact ⟨fun _ _ _ h _ => h, fun _ _ _ h _ => h, fun _ _ _ h _ => h, fun _ _ _ h _ => h, fun _ _ _ h _ => h, fun _ _ _ h _ => h, trivial⟩
              case gsteps =>
                show Grow.allBelow _ 6
                refine And.intro ?_ ?s5
                refine And.intro ?_ ?s4
                refine And.intro ?_ ?s3
                refine And.intro ?_ ?s2
                refine And.intro ?_ ?s1
                refine And.intro ?_ ?s0
                exact trivial
                case s0 =>
                  refine Grow.step_in (by rfl) (by rfl) ?_
                  intro E W ec eg ef hG hd hu R HR
                  have e4 : E (.tmp 4) = .slice (some ⟨b, off, none⟩) nw cw := hu 4 (by kernel_rfl)
                  clear hd hu
                  go_simp
                  exact HR.out _ _ (Below.refl _ _) rfl
                case s1 =>
                  refine Grow.step_in (by rfl) (by rfl) ?_
                  intro E W ec eg ef hG hd hu R HR
                  have e12 : E (.tmp 12) = .int .i64 (kj : Int) := hu 12 (by kernel_rfl)
                  clear hd hu
                  go_simp
                  exact HR.out _ _ (Below.refl _ _) rfl
                case s2 =>
                  refine Grow.step_in (by rfl) (by rfl) ?_
                  intro E W ec eg ef hG hd hu R HR
                  have e55 : E (.tmp 55) = .slice (some ⟨b, off, none⟩) nw cw := hd 0 55 (by kernel_rfl)
                  have e56 : E (.tmp 56) = .int .i64 (kj : Int) := hd 1 56 (by kernel_rfl)
                  clear hd hu
                  go_simp
                  first | exact HR.out _ _ (Below.refl _ _) rfl | (rw [if_pos ⟨by omega, by omega⟩]; exact HR.out _ _ (Below.refl _ _) rfl) | (rw [if_pos (by omega)]; exact HR.out _ _ (Below.refl _ _) rfl)
                case s3 =>
                  refine Grow.step_in (by rfl) (by rfl) ?_
                  intro E W ec eg ef hG hd hu R HR
                  have e57 : E (.tmp 57) = .pointer (some ⟨b, off + kj * 32, none⟩) := hd 2 57 (by kernel_rfl)
                  clear hd hu
                  exact runs_load_id (.tmp 57) rfl (HI2.out.below hG) kj hk YS (by rw [← HYS.out.2.2]; exact HYS.out.1) _ rfl e57 (HR.out _ _ (Below.refl _ _) rfl)
                case s4 =>
                  refine Grow.step_in (by rfl) (by rfl) ?_
                  intro E W ec eg ef hG hd hu R HR
                  have e11 : E (.tmp 11) = .pointer (some ⟨q11, 0, none⟩) := hu 11 (by kernel_rfl)
                  clear hd hu
                  exact runs_load 31 (.tmp 11) rfl q11 e11 TS (0, 0) ((hG.block _ (lt_of_cells HQ2.out)).trans HQ2.out) Tryd.underlying31 (by rw [HTS.out.2.1]; exact id_info) (HR.out _ _ (Below.refl _ _) rfl)
                case s5 =>
                  refine Grow.step_in (by rfl) (by rfl) ?_
                  intro E W ec eg ef hG hd hu R HR
                  have e58 : E (.tmp 58) = .agg YS := hd 3 58 (by kernel_rfl)
                  have e59 : E (.tmp 59) = .agg TS := hd 4 59 (by kernel_rfl)
                  clear hd hu
                  go_simp
                  rw [HYS.out.1, HTS.out.1]
                  refine (rnode_any Y t HYS.out.2.1 HTS.out.2.2 W).mono ?_
                  rintro _ w' ⟨rfl, hb⟩
                  exact ⟨_, rfl, HR.out _ _ hb (show Value.agg _ = Value.agg NS by rw [HNS.out.1])⟩
              case gfin =>
                intro W hG
                refine Grow.fin_dst (by rfl) ?_
                rintro _ rfl
                refine Grow.fin_dst (by rfl) ?_
                rintro _ rfl
                refine Grow.fin_dst (by rfl) ?_
                rintro _ rfl
                refine Grow.fin_dst (by rfl) ?_
                rintro _ rfl
                refine Grow.fin_dst (by rfl) ?_
                rintro _ rfl
                refine Grow.fin_dst (by rfl) ?_
                rintro _ rfl
                simp only [Act.put, List.setIfInBounds_toArray, List.set_cons_zero, List.set_cons_succ]
                refine Grow.fin_end ?_
                have hbG : Below wr.heap.size wr W := Grow.below_of_drew hG
                have HW7 : Hid (Below w.heap.size w (W.setRow q11 NS) ∧ (W.setRow q11 NS).heap[w.heap.size]? = some (.cells OS 31 (0, 0)) ∧ (W.setRow q11 NS).heap[q11]? = some (.cells (row8 (nodeD Y t)) 31 (0, 0))) := Lib.hid (by
                  have h0 := H30.out
                  have hq := (hbG.block _ (lt_of_cells HX.out.2.2.1)).trans HX.out.2.2.1
                  have hs := setRow_at (new := NS) hq
                  rw [HNS.out.1] at hs
                  refine ⟨below_setRow (HX.out.1.trans (hbG.mono HX.out.1.size)) (by omega) _, (setRow_ne _ _ _ _ (by omega)).trans ((hbG.block _ (lt_of_cells HX.out.2.1)).trans HX.out.2.1), ?_⟩
                  rw [HNS.out.1]
                  exact hs)
                refine storeIn_row 31 (.tmp 11) (.tmp 60) (by rfl) q11 NS (by rfl) (by rfl) 31 _ ((hbG.block _ (lt_of_cells HX.out.2.2.1)).trans HX.out.2.2.1) (by rw [HNS.out.2.1]; exact id_info) (by rw [HNS.out.2.1, row8_size]; exact HX.out.2.2.2.1) HNS.out.2.2 ?_
                simp only [Act.put]
                clear hbG hG
                generalize W.setRow q11 NS = w7 at *
                have hw1 := IntWalk.i64_in ((kj : Int) + 1) (by have h1 := HA.out.1.cap; have h2 := HA.out.1.max; unfold maxLen at h2; omega)
                have HW2 := Lib.hid (IntWalk.wrap64_in ((mj : Int) / 2) (by have := HA.out.2.2.1; omega))
                have HW3 := Lib.hid (IntWalk.wrap64_in ((mj : Int) / 2 + (mj : Int) % 2) (by have := HA.out.2.2.1; omega))
                have HW4 := Lib.hid (IntWalk.wrap64_in ((ij : Int) / 2) (by have := HA.out.2.2.1; omega))
                go_wp2_with fail
                go_roundw
                case rel => unfold RcK; exact ⟨ij / 2, kj + 1, (mj + 1) / 2, _, congrArg _ (by rw [HW4.out]; omega), congrArg _ (by omega), congrArg _ (by rw [HW2.out, HW3.out]; omega), by omega, by omega, by omega, nodeD_length _ _, HCL.out, HW7.out⟩
                case measure =>
                  rw [HW2.out, HW3.out]
                  show ((mj : Int) / 2 + (mj : Int) % 2).toNat < (mj : Int).toNat
                  omega
            · have hk' : (nw : Int) ≤ (kj : Int) := by omega
              have HF : Hid (checkL root (n' : Int) (i' : Int) leaf way = 21) := Lib.hid (by
                rw [HC.out, ← HXS.out.2.2.2.2, HX.out.2.2.2.2, List.drop_eq_nil_of_le (by rw [HA.out.1.len]; omega), climb_none hm1 (show ij % 2 = 1 ∨ ij + 1 < mj by omega)])
              go_wp2_with fail
              go_ret
              exact ⟨by rw [HF.out]; rfl, HX.out.1⟩
          · by_cases hb : ij + 1 < mj
            · have hb' : (ij : Int) + 1 < (mj : Int) := by omega
              have hw0 := IntWalk.i64_in ((ij : Int) + 1) (by have := HA.out.2.2.1; omega)
              skip
              by_cases hk : kj < nw
              · have hk' : ¬ (nw : Int) ≤ (kj : Int) := by omega
                obtain ⟨b, off, rfl, _⟩ := HA.out.1.row (by omega)
                have hwl := HA.out.1.len
                obtain ⟨Y, hY⟩ : ∃ Y, Y = way[kj]?.getD [] := ⟨_, rfl⟩
                obtain ⟨YS, hYS⟩ : ∃ YS, YS = row8 Y := ⟨_, rfl⟩
                obtain ⟨TS, hTS⟩ : ∃ TS, TS = row8 t := ⟨_, rfl⟩
                obtain ⟨NS, hNS⟩ : ∃ NS, NS = row8 (nodeD t Y) := ⟨_, rfl⟩
                have HYS : Hid (YS = row8 Y ∧ Y.length = 32 ∧ Y = way[kj]?.getD []) := Lib.hid ⟨hYS, by rw [hY]; exact get32 HA.out.1.each (by omega), hY⟩
                have HTS : Hid (TS = row8 t ∧ TS.size = 32 ∧ t.length = 32) := Lib.hid ⟨hTS, by rw [hTS, row8_size]; exact HX.out.2.2.2.1, HX.out.2.2.2.1⟩
                have HNS : Hid (NS = row8 (nodeD t Y) ∧ NS.size = 32 ∧ NS.all (·.oneCell') = true) := Lib.hid ⟨hNS, by rw [hNS, row8_size]; exact nodeD_length _ _, by rw [hNS]; exact row8_one _⟩
                have hcl2 : climb n' i' X0 way = climb ((mj + 1) / 2) (ij / 2) (nodeD t Y) (way.drop (kj + 1)) := by
                  rw [HX.out.2.2.2.2, List.drop_eq_getElem_cons (by omega), climb_two hm1 (show ij % 2 = 1 ∨ ij + 1 < mj by omega)]
                  have e : way[kj]'(by omega) = Y := by rw [hY, List.getElem?_eq_getElem (by omega)]; rfl
                  rw [e, if_neg ho]
                have HCL := Lib.hid hcl2
                have HI2 : Hid (Ids wr.drew T (some ⟨b, off, none⟩) nw cw way) := Lib.hid (HA.out.1.below HX.out.1).drew
                have HQ2 : Hid (wr.drew.heap[q11]? = some (.cells TS 31 (0, 0))) := Lib.hid (by rw [HTS.out.1]; exact HX.out.2.2.1)
                clear H3 hY hYS hTS hNS hcl2 hwl
                go_wp2_with fail
                refine (wpIn_wide (n := 3)).1 ?_
                refine wpIn_region_growL (Grow.open_wide _ _) (fun W W' => Below W.heap.size W W') (Grow.nth [fun v _ => v = .agg TS, fun v _ => v = .slice (some ⟨b, off, none⟩) nw cw, fun v _ => v = .int .i64 (kj : Int), fun v _ => v = .pointer (some ⟨b, off + kj * 32, none⟩), fun v _ => v = .agg YS, fun v _ => v = .agg NS]) 82 (by kernel_rfl) (by kernel_rfl) (by kernel_rfl) (by kernel_rfl) (by rfl) (fun W => Below.refl _ W) (fun _ _ _ h1 h2 => h1.trans (h2.mono h1.size)) (Grow.mono_nth ?gmono) 6 (by rfl) (by rfl) (by rfl) ?gsteps ?gfin
                case gmono => exact ⟨fun _ _ _ h _ => h, fun _ _ _ h _ => h, fun _ _ _ h _ => h, fun _ _ _ h _ => h, fun _ _ _ h _ => h, fun _ _ _ h _ => h, trivial⟩
                case gsteps =>
                  show Grow.allBelow _ 6
                  refine And.intro ?_ ?s5
                  refine And.intro ?_ ?s4
                  refine And.intro ?_ ?s3
                  refine And.intro ?_ ?s2
                  refine And.intro ?_ ?s1
                  refine And.intro ?_ ?s0
                  exact trivial
                  case s0 =>
                    refine Grow.step_in (by rfl) (by rfl) ?_
                    intro E W ec eg ef hG hd hu R HR
                    have e11 : E (.tmp 11) = .pointer (some ⟨q11, 0, none⟩) := hu 11 (by kernel_rfl)
                    clear hd hu
                    exact runs_load 31 (.tmp 11) rfl q11 e11 TS (0, 0) ((hG.block _ (lt_of_cells HQ2.out)).trans HQ2.out) Tryd.underlying31 (by rw [HTS.out.2.1]; exact id_info) (HR.out _ _ (Below.refl _ _) rfl)
                  case s1 =>
                    refine Grow.step_in (by rfl) (by rfl) ?_
                    intro E W ec eg ef hG hd hu R HR
                    have e4 : E (.tmp 4) = .slice (some ⟨b, off, none⟩) nw cw := hu 4 (by kernel_rfl)
                    clear hd hu
                    go_simp
                    exact HR.out _ _ (Below.refl _ _) rfl
                  case s2 =>
                    refine Grow.step_in (by rfl) (by rfl) ?_
                    intro E W ec eg ef hG hd hu R HR
                    have e12 : E (.tmp 12) = .int .i64 (kj : Int) := hu 12 (by kernel_rfl)
                    clear hd hu
                    go_simp
                    exact HR.out _ _ (Below.refl _ _) rfl
                  case s3 =>
                    refine Grow.step_in (by rfl) (by rfl) ?_
                    intro E W ec eg ef hG hd hu R HR
                    have e62 : E (.tmp 62) = .slice (some ⟨b, off, none⟩) nw cw := hd 1 62 (by kernel_rfl)
                    have e63 : E (.tmp 63) = .int .i64 (kj : Int) := hd 2 63 (by kernel_rfl)
                    clear hd hu
                    go_simp
                    first | exact HR.out _ _ (Below.refl _ _) rfl | (rw [if_pos ⟨by omega, by omega⟩]; exact HR.out _ _ (Below.refl _ _) rfl) | (rw [if_pos (by omega)]; exact HR.out _ _ (Below.refl _ _) rfl)
                  case s4 =>
                    refine Grow.step_in (by rfl) (by rfl) ?_
                    intro E W ec eg ef hG hd hu R HR
                    have e64 : E (.tmp 64) = .pointer (some ⟨b, off + kj * 32, none⟩) := hd 3 64 (by kernel_rfl)
                    clear hd hu
                    exact runs_load_id (.tmp 64) rfl (HI2.out.below hG) kj hk YS (by rw [← HYS.out.2.2]; exact HYS.out.1) _ rfl e64 (HR.out _ _ (Below.refl _ _) rfl)
                  case s5 =>
                    refine Grow.step_in (by rfl) (by rfl) ?_
                    intro E W ec eg ef hG hd hu R HR
                    have e61 : E (.tmp 61) = .agg TS := hd 0 61 (by kernel_rfl)
                    have e65 : E (.tmp 65) = .agg YS := hd 4 65 (by kernel_rfl)
                    clear hd hu
                    go_simp
                    rw [HYS.out.1, HTS.out.1]
                    refine (rnode_any t Y HTS.out.2.2 HYS.out.2.1 W).mono ?_
                    rintro _ w' ⟨rfl, hb⟩
                    exact ⟨_, rfl, HR.out _ _ hb (show Value.agg _ = Value.agg NS by rw [HNS.out.1])⟩
                case gfin =>
                  intro W hG
                  refine Grow.fin_dst (by rfl) ?_
                  rintro _ rfl
                  refine Grow.fin_dst (by rfl) ?_
                  rintro _ rfl
                  refine Grow.fin_dst (by rfl) ?_
                  rintro _ rfl
                  refine Grow.fin_dst (by rfl) ?_
                  rintro _ rfl
                  refine Grow.fin_dst (by rfl) ?_
                  rintro _ rfl
                  refine Grow.fin_dst (by rfl) ?_
                  rintro _ rfl
                  simp only [Act.put, List.setIfInBounds_toArray, List.set_cons_zero, List.set_cons_succ]
                  refine Grow.fin_end ?_
                  have hbG : Below wr.heap.size wr W := Grow.below_of_drew hG
                  have HW7 : Hid (Below w.heap.size w (W.setRow q11 NS) ∧ (W.setRow q11 NS).heap[w.heap.size]? = some (.cells OS 31 (0, 0)) ∧ (W.setRow q11 NS).heap[q11]? = some (.cells (row8 (nodeD t Y)) 31 (0, 0))) := Lib.hid (by
                    have h0 := H30.out
                    have hq := (hbG.block _ (lt_of_cells HX.out.2.2.1)).trans HX.out.2.2.1
                    have hs := setRow_at (new := NS) hq
                    rw [HNS.out.1] at hs
                    refine ⟨below_setRow (HX.out.1.trans (hbG.mono HX.out.1.size)) (by omega) _, (setRow_ne _ _ _ _ (by omega)).trans ((hbG.block _ (lt_of_cells HX.out.2.1)).trans HX.out.2.1), ?_⟩
                    rw [HNS.out.1]
                    exact hs)
                  refine storeIn_row 31 (.tmp 11) (.tmp 66) (by rfl) q11 NS (by rfl) (by rfl) 31 _ ((hbG.block _ (lt_of_cells HX.out.2.2.1)).trans HX.out.2.2.1) (by rw [HNS.out.2.1]; exact id_info) (by rw [HNS.out.2.1, row8_size]; exact HX.out.2.2.2.1) HNS.out.2.2 ?_
                  simp only [Act.put]
                  clear hbG hG
                  generalize W.setRow q11 NS = w7 at *
                  have hw1 := IntWalk.i64_in ((kj : Int) + 1) (by have h1 := HA.out.1.cap; have h2 := HA.out.1.max; unfold maxLen at h2; omega)
                  have HW2 := Lib.hid (IntWalk.wrap64_in ((mj : Int) / 2) (by have := HA.out.2.2.1; omega))
                  have HW3 := Lib.hid (IntWalk.wrap64_in ((mj : Int) / 2 + (mj : Int) % 2) (by have := HA.out.2.2.1; omega))
                  have HW4 := Lib.hid (IntWalk.wrap64_in ((ij : Int) / 2) (by have := HA.out.2.2.1; omega))
                  go_wp2_with fail
                  go_roundw
                  case rel => unfold RcK; exact ⟨ij / 2, kj + 1, (mj + 1) / 2, _, congrArg _ (by rw [HW4.out]; omega), congrArg _ (by omega), congrArg _ (by rw [HW2.out, HW3.out]; omega), by omega, by omega, by omega, nodeD_length _ _, HCL.out, HW7.out⟩
                  case measure =>
                    rw [HW2.out, HW3.out]
                    show ((mj : Int) / 2 + (mj : Int) % 2).toNat < (mj : Int).toNat
                    omega
              · have hk' : (nw : Int) ≤ (kj : Int) := by omega
                have HF : Hid (checkL root (n' : Int) (i' : Int) leaf way = 21) := Lib.hid (by
                  rw [HC.out, ← HXS.out.2.2.2.2, HX.out.2.2.2.2, List.drop_eq_nil_of_le (by rw [HA.out.1.len]; omega), climb_none hm1 (show ij % 2 = 1 ∨ ij + 1 < mj by omega)])
                go_wp2_with fail
                go_ret
                exact ⟨by rw [HF.out]; rfl, HX.out.1⟩
            · have hb' : ¬ (ij : Int) + 1 < (mj : Int) := by omega
              have hw0 := IntWalk.i64_in ((ij : Int) + 1) (by have := HA.out.2.2.1; omega)
              have HW2 := Lib.hid (IntWalk.wrap64_in ((mj : Int) / 2) (by have := HA.out.2.2.1; omega))
              have HW3 := Lib.hid (IntWalk.wrap64_in ((mj : Int) / 2 + (mj : Int) % 2) (by have := HA.out.2.2.1; omega))
              have HW4 := Lib.hid (IntWalk.wrap64_in ((ij : Int) / 2) (by have := HA.out.2.2.1; omega))
              have HCL : Hid (climb n' i' X0 way = climb ((mj + 1) / 2) (ij / 2) t (way.drop kj)) := Lib.hid (by rw [HX.out.2.2.2.2, climb_up hm1 (show ¬ (ij % 2 = 1 ∨ ij + 1 < mj) by omega)])
              clear H3
              go_wp2_with fail
              go_roundw
              case rel => unfold RcK; exact ⟨ij / 2, kj, (mj + 1) / 2, t, congrArg _ (by rw [HW4.out]; omega), rfl, congrArg _ (by rw [HW2.out, HW3.out]; omega), by omega, by omega, by omega, HX.out.2.2.2.1, HCL.out, HX.out.1, HX.out.2.1, HX.out.2.2.1⟩
              case measure =>
                rw [HW2.out, HW3.out]
                show ((mj : Int) / 2 + (mj : Int) % 2).toNat < (mj : Int).toNat
                omega
        · have hm1' : ¬ (1 : Int) < (mj : Int) := by omega
          obtain ⟨TS, hTS⟩ : ∃ TS, TS = row8 t := ⟨_, rfl⟩
          have HTS : Hid (TS = row8 t ∧ TS.size = 32 ∧ t.length = 32) := Lib.hid ⟨hTS, by rw [hTS, row8_size]; exact HX.out.2.2.2.1, HX.out.2.2.2.1⟩
          have hwl := HA.out.1.len
          have hcl := HX.out.2.2.2.2
          rw [climb_one hm1] at hcl
          clear H3 hTS
          by_cases hk : kj = nw
          · have hne : ((kj : Int) != (nw : Int)) = false := by simp [hk]
            rw [if_pos (List.drop_eq_nil_of_le (by omega))] at hcl
            have HF : Hid (checkL root (n' : Int) (i' : Int) leaf way = if crownD n' t = root then 0 else 21) := Lib.hid (by rw [HC.out, ← HXS.out.2.2.2.2, hcl])
            have HQ2 : Hid (wr.drew.heap[q11]? = some (.cells TS 31 (0, 0)) ∧ wr.drew.heap[w.heap.size]? = some (.cells OS 31 (0, 0))) := Lib.hid ⟨by rw [HTS.out.1]; exact HX.out.2.2.1, HX.out.2.1⟩
            obtain ⟨CS, hCS⟩ : ∃ CS, CS = row8 (crownD n' t) := ⟨_, rfl⟩
            have hq := id_eql (crownD n' t) root (crownD_length _ _) HOS.out.2.2
            rw [show (u8s (crownD n' t)).toArray = CS from hCS.symm, show (u8s root).toArray = OS from HOS.out.1.symm] at hq
            have HCS := Lib.hid hCS
            clear hCS hcl hwl hk
            by_cases hrt : crownD n' t = root
            · rw [decide_eq_true hrt] at hq
              have HQ := Lib.hid hq
              clear hq
              go_wp2_with fail
              refine wp_region_grow (fun W W' => Below W.heap.size W W') (Grow.nth [fun v _ => v = .int .i64 (kj : Int), fun v _ => v = .slice Aw nw cw, fun v _ => v = .int .i64 (nw : Int), fun v _ => v = .bool false, fun v _ => v = .bool false, fun v _ => v = .int .i64 (n' : Int), fun v _ => v = .agg TS, fun v _ => v = .agg CS, fun v _ => v = .agg OS, fun v _ => v = .bool false, fun v _ => v = .bool false]) 82 (by kernel_rfl) (by kernel_rfl) (by rfl) (fun W => Below.refl _ W) (fun _ _ _ h1 h2 => h1.trans (h2.mono h1.size)) (Grow.mono_nth ?gmono) ?gsteps ?gfin
              case gmono => exact ⟨fun _ _ _ h _ => h, fun _ _ _ h _ => h, fun _ _ _ h _ => h, fun _ _ _ h _ => h, fun _ _ _ h _ => h, fun _ _ _ h _ => h, fun _ _ _ h _ => h, fun _ _ _ h _ => h, fun _ _ _ h _ => h, fun _ _ _ h _ => h, fun _ _ _ h _ => h, trivial⟩
              case gsteps =>
                show Grow.allBelow _ 11
                refine And.intro ?_ ?s10
                refine And.intro ?_ ?s9
                refine And.intro ?_ ?s8
                refine And.intro ?_ ?s7
                refine And.intro ?_ ?s6
                refine And.intro ?_ ?s5
                refine And.intro ?_ ?s4
                refine And.intro ?_ ?s3
                refine And.intro ?_ ?s2
                refine And.intro ?_ ?s1
                refine And.intro ?_ ?s0
                exact trivial
                case s0 =>
                  refine Grow.step_in (by rfl) (by rfl) ?_
                  intro E W ec eg ef hG hd hu R HR
                  have e12 : E (.tmp 12) = .int .i64 (kj : Int) := hu 12 (by kernel_rfl)
                  clear hd hu
                  go_simp
                  exact HR.out _ _ (Below.refl _ _) rfl
                case s1 =>
                  refine Grow.step_in (by rfl) (by rfl) ?_
                  intro E W ec eg ef hG hd hu R HR
                  have e4 : E (.tmp 4) = .slice Aw nw cw := hu 4 (by kernel_rfl)
                  clear hd hu
                  go_simp
                  exact HR.out _ _ (Below.refl _ _) rfl
                case s2 =>
                  refine Grow.step_in (by rfl) (by rfl) ?_
                  intro E W ec eg ef hG hd hu R HR
                  have e72 : E (.tmp 72) = .slice Aw nw cw := hd 1 72 (by kernel_rfl)
                  clear hd hu
                  go_simp
                  exact HR.out _ _ (Below.refl _ _) rfl
                case s3 =>
                  refine Grow.step_in (by rfl) (by rfl) ?_
                  intro E W ec eg ef hG hd hu R HR
                  have e71 : E (.tmp 71) = .int .i64 (kj : Int) := hd 0 71 (by kernel_rfl)
                  have e73 : E (.tmp 73) = .int .i64 (nw : Int) := hd 2 73 (by kernel_rfl)
                  clear hd hu
                  go_simp
                  exact HR.out _ _ (Below.refl _ _) rfl
                case s4 =>
                  refine Grow.step_in (by rfl) (by rfl) ?_
                  intro E W ec eg ef hG hd hu R HR
                  have e74 : E (.tmp 74) = .bool false := hd 3 74 (by kernel_rfl)
                  clear hd hu
                  go_simp
                  exact HR.out _ _ (Below.refl _ _) rfl
                case s5 =>
                  refine Grow.step_on (g := 4) (b := false) (d := 75) (by rfl) (by rfl) (by rfl) (by kernel_rfl) (fun v W h => h) ?_
                  intro E W ec eg ef hG hd hu R HR
                  have e1 : E (.tmp 1) = .int .i64 (n' : Int) := hu 1 (by kernel_rfl)
                  clear hd hu
                  go_simp
                  exact HR.out _ _ (Below.refl _ _) rfl
                case s6 =>
                  refine Grow.step_on (g := 4) (b := false) (d := 75) (by rfl) (by rfl) (by rfl) (by kernel_rfl) (fun v W h => h) ?_
                  intro E W ec eg ef hG hd hu R HR
                  have e11 : E (.tmp 11) = .pointer (some ⟨q11, 0, none⟩) := hu 11 (by kernel_rfl)
                  clear hd hu
                  exact runs_load 31 (.tmp 11) rfl q11 e11 TS (0, 0) ((hG.block _ (lt_of_cells HQ2.out.1)).trans HQ2.out.1) Tryd.underlying31 (by rw [HTS.out.2.1]; exact id_info) (HR.out _ _ (Below.refl _ _) rfl)
                case s7 =>
                  refine Grow.step_on (g := 4) (b := false) (d := 75) (by rfl) (by rfl) (by rfl) (by kernel_rfl) (fun v W h => h) ?_
                  intro E W ec eg ef hG hd hu R HR
                  have e76 : E (.tmp 76) = .int .i64 (n' : Int) := hd 5 76 (by kernel_rfl)
                  have e77 : E (.tmp 77) = .agg TS := hd 6 77 (by kernel_rfl)
                  clear hd hu
                  go_simp
                  rw [HTS.out.1]
                  refine (rcrown_any n' HA.out.2.2.1 t HTS.out.2.2 W).mono ?_
                  rintro _ w' ⟨rfl, hb⟩
                  exact ⟨_, rfl, HR.out _ _ hb (show Value.agg _ = Value.agg CS by rw [HCS.out])⟩
                case s8 =>
                  refine Grow.step_on (g := 4) (b := false) (d := 75) (by rfl) (by rfl) (by rfl) (by kernel_rfl) (fun v W h => h) ?_
                  intro E W ec eg ef hG hd hu R HR
                  have e5 : E (.tmp 5) = .pointer (some ⟨w.heap.size, 0, none⟩) := hu 5 (by kernel_rfl)
                  clear hd hu
                  exact runs_load 31 (.tmp 5) rfl w.heap.size e5 OS (0, 0) ((hG.block _ (lt_of_cells HQ2.out.2)).trans HQ2.out.2) Tryd.underlying31 (by rw [HOS.out.2.1]; exact id_info) (HR.out _ _ (Below.refl _ _) rfl)
                case s9 =>
                  refine Grow.step_on (g := 4) (b := false) (d := 75) (by rfl) (by rfl) (by rfl) (by kernel_rfl) (fun v W h => h) ?_
                  intro E W ec eg ef hG hd hu R HR
                  have e78 : E (.tmp 78) = .agg CS := hd 7 78 (by kernel_rfl)
                  have e79 : E (.tmp 79) = .agg OS := hd 8 79 (by kernel_rfl)
                  clear hd hu
                  have hq := HQ.out
                  go_simp
                  exact HR.out _ _ (Below.refl _ _) rfl
                case s10 =>
                  refine Grow.step_in (by rfl) (by rfl) ?_
                  intro E W ec eg ef hG hd hu R HR
                  have e75 : E (.tmp 75) = .bool false := hd 4 75 (by kernel_rfl)
                  have e80 : E (.tmp 80) = .bool false := hd 9 80 (by kernel_rfl)
                  clear hd hu
                  go_simp
                  exact HR.out _ _ (Below.refl _ _) rfl
              case gfin =>
                intro W hG
                refine Grow.fin_dst (by rfl) ?_
                rintro _ rfl
                refine Grow.fin_dst (by rfl) ?_
                rintro _ rfl
                refine Grow.fin_dst (by rfl) ?_
                rintro _ rfl
                refine Grow.fin_dst (by rfl) ?_
                rintro _ rfl
                refine Grow.fin_dst (by rfl) ?_
                rintro _ rfl
                refine Grow.fin_dst (by rfl) ?_
                rintro _ rfl
                refine Grow.fin_dst (by rfl) ?_
                rintro _ rfl
                refine Grow.fin_dst (by rfl) ?_
                rintro _ rfl
                refine Grow.fin_dst (by rfl) ?_
                rintro _ rfl
                refine Grow.fin_dst (by rfl) ?_
                rintro _ rfl
                refine Grow.fin_dst (by rfl) ?_
                rintro _ rfl
                simp only [Act.put, List.setIfInBounds_toArray, List.set_cons_zero, List.set_cons_succ]
                refine Grow.fin_end ?_
                have HBW := Lib.hid (HX.out.1.trans ((Grow.below_of_drew hG).mono HX.out.1.size))
                clear hG
                go_wp2_with fail
                go_ret
                exact ⟨by rw [HF.out, if_pos hrt]; rfl, HBW.out⟩
            · rw [decide_eq_false hrt] at hq
              have HQ := Lib.hid hq
              clear hq
              go_wp2_with fail
              refine wp_region_grow (fun W W' => Below W.heap.size W W') (Grow.nth [fun v _ => v = .int .i64 (kj : Int), fun v _ => v = .slice Aw nw cw, fun v _ => v = .int .i64 (nw : Int), fun v _ => v = .bool false, fun v _ => v = .bool false, fun v _ => v = .int .i64 (n' : Int), fun v _ => v = .agg TS, fun v _ => v = .agg CS, fun v _ => v = .agg OS, fun v _ => v = .bool true, fun v _ => v = .bool true]) 82 (by kernel_rfl) (by kernel_rfl) (by rfl) (fun W => Below.refl _ W) (fun _ _ _ h1 h2 => h1.trans (h2.mono h1.size)) (Grow.mono_nth ?gmono) ?gsteps ?gfin
              case gmono => exact ⟨fun _ _ _ h _ => h, fun _ _ _ h _ => h, fun _ _ _ h _ => h, fun _ _ _ h _ => h, fun _ _ _ h _ => h, fun _ _ _ h _ => h, fun _ _ _ h _ => h, fun _ _ _ h _ => h, fun _ _ _ h _ => h, fun _ _ _ h _ => h, fun _ _ _ h _ => h, trivial⟩
              case gsteps =>
                show Grow.allBelow _ 11
                refine And.intro ?_ ?s10
                refine And.intro ?_ ?s9
                refine And.intro ?_ ?s8
                refine And.intro ?_ ?s7
                refine And.intro ?_ ?s6
                refine And.intro ?_ ?s5
                refine And.intro ?_ ?s4
                refine And.intro ?_ ?s3
                refine And.intro ?_ ?s2
                refine And.intro ?_ ?s1
                refine And.intro ?_ ?s0
                exact trivial
                case s0 =>
                  refine Grow.step_in (by rfl) (by rfl) ?_
                  intro E W ec eg ef hG hd hu R HR
                  have e12 : E (.tmp 12) = .int .i64 (kj : Int) := hu 12 (by kernel_rfl)
                  clear hd hu
                  go_simp
                  exact HR.out _ _ (Below.refl _ _) rfl
                case s1 =>
                  refine Grow.step_in (by rfl) (by rfl) ?_
                  intro E W ec eg ef hG hd hu R HR
                  have e4 : E (.tmp 4) = .slice Aw nw cw := hu 4 (by kernel_rfl)
                  clear hd hu
                  go_simp
                  exact HR.out _ _ (Below.refl _ _) rfl
                case s2 =>
                  refine Grow.step_in (by rfl) (by rfl) ?_
                  intro E W ec eg ef hG hd hu R HR
                  have e72 : E (.tmp 72) = .slice Aw nw cw := hd 1 72 (by kernel_rfl)
                  clear hd hu
                  go_simp
                  exact HR.out _ _ (Below.refl _ _) rfl
                case s3 =>
                  refine Grow.step_in (by rfl) (by rfl) ?_
                  intro E W ec eg ef hG hd hu R HR
                  have e71 : E (.tmp 71) = .int .i64 (kj : Int) := hd 0 71 (by kernel_rfl)
                  have e73 : E (.tmp 73) = .int .i64 (nw : Int) := hd 2 73 (by kernel_rfl)
                  clear hd hu
                  go_simp
                  exact HR.out _ _ (Below.refl _ _) rfl
                case s4 =>
                  refine Grow.step_in (by rfl) (by rfl) ?_
                  intro E W ec eg ef hG hd hu R HR
                  have e74 : E (.tmp 74) = .bool false := hd 3 74 (by kernel_rfl)
                  clear hd hu
                  go_simp
                  exact HR.out _ _ (Below.refl _ _) rfl
                case s5 =>
                  refine Grow.step_on (g := 4) (b := false) (d := 75) (by rfl) (by rfl) (by rfl) (by kernel_rfl) (fun v W h => h) ?_
                  intro E W ec eg ef hG hd hu R HR
                  have e1 : E (.tmp 1) = .int .i64 (n' : Int) := hu 1 (by kernel_rfl)
                  clear hd hu
                  go_simp
                  exact HR.out _ _ (Below.refl _ _) rfl
                case s6 =>
                  refine Grow.step_on (g := 4) (b := false) (d := 75) (by rfl) (by rfl) (by rfl) (by kernel_rfl) (fun v W h => h) ?_
                  intro E W ec eg ef hG hd hu R HR
                  have e11 : E (.tmp 11) = .pointer (some ⟨q11, 0, none⟩) := hu 11 (by kernel_rfl)
                  clear hd hu
                  exact runs_load 31 (.tmp 11) rfl q11 e11 TS (0, 0) ((hG.block _ (lt_of_cells HQ2.out.1)).trans HQ2.out.1) Tryd.underlying31 (by rw [HTS.out.2.1]; exact id_info) (HR.out _ _ (Below.refl _ _) rfl)
                case s7 =>
                  refine Grow.step_on (g := 4) (b := false) (d := 75) (by rfl) (by rfl) (by rfl) (by kernel_rfl) (fun v W h => h) ?_
                  intro E W ec eg ef hG hd hu R HR
                  have e76 : E (.tmp 76) = .int .i64 (n' : Int) := hd 5 76 (by kernel_rfl)
                  have e77 : E (.tmp 77) = .agg TS := hd 6 77 (by kernel_rfl)
                  clear hd hu
                  go_simp
                  rw [HTS.out.1]
                  refine (rcrown_any n' HA.out.2.2.1 t HTS.out.2.2 W).mono ?_
                  rintro _ w' ⟨rfl, hb⟩
                  exact ⟨_, rfl, HR.out _ _ hb (show Value.agg _ = Value.agg CS by rw [HCS.out])⟩
                case s8 =>
                  refine Grow.step_on (g := 4) (b := false) (d := 75) (by rfl) (by rfl) (by rfl) (by kernel_rfl) (fun v W h => h) ?_
                  intro E W ec eg ef hG hd hu R HR
                  have e5 : E (.tmp 5) = .pointer (some ⟨w.heap.size, 0, none⟩) := hu 5 (by kernel_rfl)
                  clear hd hu
                  exact runs_load 31 (.tmp 5) rfl w.heap.size e5 OS (0, 0) ((hG.block _ (lt_of_cells HQ2.out.2)).trans HQ2.out.2) Tryd.underlying31 (by rw [HOS.out.2.1]; exact id_info) (HR.out _ _ (Below.refl _ _) rfl)
                case s9 =>
                  refine Grow.step_on (g := 4) (b := false) (d := 75) (by rfl) (by rfl) (by rfl) (by kernel_rfl) (fun v W h => h) ?_
                  intro E W ec eg ef hG hd hu R HR
                  have e78 : E (.tmp 78) = .agg CS := hd 7 78 (by kernel_rfl)
                  have e79 : E (.tmp 79) = .agg OS := hd 8 79 (by kernel_rfl)
                  clear hd hu
                  have hq := HQ.out
                  go_simp
                  exact HR.out _ _ (Below.refl _ _) rfl
                case s10 =>
                  refine Grow.step_in (by rfl) (by rfl) ?_
                  intro E W ec eg ef hG hd hu R HR
                  have e75 : E (.tmp 75) = .bool false := hd 4 75 (by kernel_rfl)
                  have e80 : E (.tmp 80) = .bool true := hd 9 80 (by kernel_rfl)
                  clear hd hu
                  go_simp
                  exact HR.out _ _ (Below.refl _ _) rfl
              case gfin =>
                intro W hG
                refine Grow.fin_dst (by rfl) ?_
                rintro _ rfl
                refine Grow.fin_dst (by rfl) ?_
                rintro _ rfl
                refine Grow.fin_dst (by rfl) ?_
                rintro _ rfl
                refine Grow.fin_dst (by rfl) ?_
                rintro _ rfl
                refine Grow.fin_dst (by rfl) ?_
                rintro _ rfl
                refine Grow.fin_dst (by rfl) ?_
                rintro _ rfl
                refine Grow.fin_dst (by rfl) ?_
                rintro _ rfl
                refine Grow.fin_dst (by rfl) ?_
                rintro _ rfl
                refine Grow.fin_dst (by rfl) ?_
                rintro _ rfl
                refine Grow.fin_dst (by rfl) ?_
                rintro _ rfl
                refine Grow.fin_dst (by rfl) ?_
                rintro _ rfl
                simp only [Act.put, List.setIfInBounds_toArray, List.set_cons_zero, List.set_cons_succ]
                refine Grow.fin_end ?_
                have HBW := Lib.hid (HX.out.1.trans ((Grow.below_of_drew hG).mono HX.out.1.size))
                clear hG
                go_wp2_with fail
                go_ret
                exact ⟨by rw [HF.out, if_neg hrt]; rfl, HBW.out⟩
          · have hne : ((kj : Int) != (nw : Int)) = true := by simp; omega
            rw [if_neg (fun h => by have := congrArg List.length h; simp at this; omega)] at hcl
            have HF : Hid (checkL root (n' : Int) (i' : Int) leaf way = 21) := Lib.hid (by rw [HC.out, ← HXS.out.2.2.2.2, hcl])
            clear hcl hwl hk
            go_wp2_with fail
            refine wp_region_grow (fun W W' => Below W.heap.size W W') (Grow.nth [fun v _ => v = .int .i64 (kj : Int), fun v _ => v = .slice Aw nw cw, fun v _ => v = .int .i64 (nw : Int), fun v _ => v = .bool true, fun v _ => v = .bool true, fun v _ => v = undef, fun v _ => v = undef, fun v _ => v = undef, fun v _ => v = undef, fun v _ => v = undef, fun v _ => v = .bool true]) 82 (by kernel_rfl) (by kernel_rfl) (by rfl) (fun W => Below.refl _ W) (fun _ _ _ h1 h2 => h1.trans (h2.mono h1.size)) (Grow.mono_nth ?gmono) ?gsteps ?gfin
            case gmono => exact ⟨fun _ _ _ h _ => h, fun _ _ _ h _ => h, fun _ _ _ h _ => h, fun _ _ _ h _ => h, fun _ _ _ h _ => h, fun _ _ _ h _ => h, fun _ _ _ h _ => h, fun _ _ _ h _ => h, fun _ _ _ h _ => h, fun _ _ _ h _ => h, fun _ _ _ h _ => h, trivial⟩
            case gsteps =>
              show Grow.allBelow _ 11
              refine And.intro ?_ ?s10
              refine And.intro ?_ ?s9
              refine And.intro ?_ ?s8
              refine And.intro ?_ ?s7
              refine And.intro ?_ ?s6
              refine And.intro ?_ ?s5
              refine And.intro ?_ ?s4
              refine And.intro ?_ ?s3
              refine And.intro ?_ ?s2
              refine And.intro ?_ ?s1
              refine And.intro ?_ ?s0
              exact trivial
              case s0 =>
                refine Grow.step_in (by rfl) (by rfl) ?_
                intro E W ec eg ef hG hd hu R HR
                have e12 : E (.tmp 12) = .int .i64 (kj : Int) := hu 12 (by kernel_rfl)
                clear hd hu
                go_simp
                exact HR.out _ _ (Below.refl _ _) rfl
              case s1 =>
                refine Grow.step_in (by rfl) (by rfl) ?_
                intro E W ec eg ef hG hd hu R HR
                have e4 : E (.tmp 4) = .slice Aw nw cw := hu 4 (by kernel_rfl)
                clear hd hu
                go_simp
                exact HR.out _ _ (Below.refl _ _) rfl
              case s2 =>
                refine Grow.step_in (by rfl) (by rfl) ?_
                intro E W ec eg ef hG hd hu R HR
                have e72 : E (.tmp 72) = .slice Aw nw cw := hd 1 72 (by kernel_rfl)
                clear hd hu
                go_simp
                exact HR.out _ _ (Below.refl _ _) rfl
              case s3 =>
                refine Grow.step_in (by rfl) (by rfl) ?_
                intro E W ec eg ef hG hd hu R HR
                have e71 : E (.tmp 71) = .int .i64 (kj : Int) := hd 0 71 (by kernel_rfl)
                have e73 : E (.tmp 73) = .int .i64 (nw : Int) := hd 2 73 (by kernel_rfl)
                clear hd hu
                go_simp
                exact HR.out _ _ (Below.refl _ _) rfl
              case s4 =>
                refine Grow.step_in (by rfl) (by rfl) ?_
                intro E W ec eg ef hG hd hu R HR
                have e74 : E (.tmp 74) = .bool true := hd 3 74 (by kernel_rfl)
                clear hd hu
                go_simp
                exact HR.out _ _ (Below.refl _ _) rfl
              case s5 =>
                exact Grow.step_off (g := 4) (b := false) (b' := true) (d := 75) (by rfl) (by rfl) (by rfl) (by kernel_rfl) (fun v W h => h) (by decide) (fun _ => rfl)
              case s6 =>
                exact Grow.step_off (g := 4) (b := false) (b' := true) (d := 75) (by rfl) (by rfl) (by rfl) (by kernel_rfl) (fun v W h => h) (by decide) (fun _ => rfl)
              case s7 =>
                exact Grow.step_off (g := 4) (b := false) (b' := true) (d := 75) (by rfl) (by rfl) (by rfl) (by kernel_rfl) (fun v W h => h) (by decide) (fun _ => rfl)
              case s8 =>
                exact Grow.step_off (g := 4) (b := false) (b' := true) (d := 75) (by rfl) (by rfl) (by rfl) (by kernel_rfl) (fun v W h => h) (by decide) (fun _ => rfl)
              case s9 =>
                exact Grow.step_off (g := 4) (b := false) (b' := true) (d := 75) (by rfl) (by rfl) (by rfl) (by kernel_rfl) (fun v W h => h) (by decide) (fun _ => rfl)
              case s10 =>
                refine Grow.step_in (by rfl) (by rfl) ?_
                intro E W ec eg ef hG hd hu R HR
                have e75 : E (.tmp 75) = .bool true := hd 4 75 (by kernel_rfl)
                have e80 : E (.tmp 80) = undef := hd 9 80 (by kernel_rfl)
                clear hd hu
                go_simp
                exact HR.out _ _ (Below.refl _ _) rfl
            case gfin =>
              intro W hG
              refine Grow.fin_dst (by rfl) ?_
              rintro _ rfl
              refine Grow.fin_dst (by rfl) ?_
              rintro _ rfl
              refine Grow.fin_dst (by rfl) ?_
              rintro _ rfl
              refine Grow.fin_dst (by rfl) ?_
              rintro _ rfl
              refine Grow.fin_dst (by rfl) ?_
              rintro _ rfl
              refine Grow.fin_dst (by rfl) ?_
              rintro _ rfl
              refine Grow.fin_dst (by rfl) ?_
              rintro _ rfl
              refine Grow.fin_dst (by rfl) ?_
              rintro _ rfl
              refine Grow.fin_dst (by rfl) ?_
              rintro _ rfl
              refine Grow.fin_dst (by rfl) ?_
              rintro _ rfl
              refine Grow.fin_dst (by rfl) ?_
              rintro _ rfl
              simp only [Act.put, List.setIfInBounds_toArray, List.set_cons_zero, List.set_cons_succ]
              refine Grow.fin_end ?_
              have HBW := Lib.hid (HX.out.1.trans ((Grow.below_of_drew hG).mono HX.out.1.size))
              clear hG
              go_wp2_with fail
              go_ret
              exact ⟨by rw [HF.out]; rfl, HBW.out⟩
    · have hgt : (64 : Int) < (leaf.length : Int) := by omega
      have HF : Hid (checkL root (n' : Int) (i' : Int) leaf way = 21) := Lib.hid (by rw [checkL, if_neg (by have := HA.out.2.1; omega), if_pos (by omega)])
      clear hl1
      go_enter Tryd.func18, Tryd.ntmps18
      go_wp2_with fail
      go_ret
      exact ⟨by rw [HF.out]; rfl, H0.out.1⟩
  · have HF := Lib.hid (checkL_range (root := root) (leaf := leaf) (way := way) hr)
    by_cases h1 : n < 1
    · clear hr
      go_enter Tryd.func18, Tryd.ntmps18
      go_wp2_with fail
      go_ret
      exact ⟨by rw [HF.out]; rfl, H0.out.1⟩
    by_cases h2 : i < 0
    · clear hr
      go_enter Tryd.func18, Tryd.ntmps18
      go_wp2_with fail
      go_ret
      exact ⟨by rw [HF.out]; rfl, H0.out.1⟩
    have h3 : n ≤ i := by omega
    clear hr
    go_enter Tryd.func18, Tryd.ntmps18
    go_wp2_with fail
    go_ret
    exact ⟨by rw [HF.out]; rfl, H0.out.1⟩
end Go.Proofs.YtebhlfmianohlaaDoor
