/-
  The reference's Over.
-/
import Derived.Test.YtmgglcllfpikcaaDoorChaRefPart
import Derived.Test.YtmgglcllfpikcaaDoorChaOver
import Derived.Test.YtmgglcllfpikcaaDoorRegion
namespace Go.Proofs.YtmgglcllfpikcaaDoor
open Go.RowKit

theorem st_at {P : Program} (t : TypeId) (h : P.underlying t = some .string) (l : List UInt8) (i : Nat) (hi : i < l.length) (W : World) :
    (Instr.index t (.string (st l)) (.int .i64 (i : Int))).run P W = .ok (.int .u8 ((l[i]?.getD 0).toNat : Int)) W := by
  rw [run_index_string W t (st l) .i64 (i : Int) h, dif_pos ⟨by omega, by rw [st_size]; omega⟩]
  congr 4
  rw [List.getElem?_eq_getElem hi, Option.getD_some]
  rfl

/-- An append as the effect of a plan. -/
theorem eff_append {P : Program} {ops : Array Oper} {Q : Exit → Act → World → Prop} {i : Nat} {o : Oper} {K : Act → World → Prop} {a : Act} {w : World} (ho : ops.toList[i]? = some o) (hgd : o.guard = none) (s x : Operand) (t : TypeId)
    (hop : o.op = .call { callee := .builtin .append, args := #[s, x], argTypes := #[t, t] }) {v v' : Value} {w' : World} {ad : Addr} {m c : Nat} (hs : a.eval s = v) (hx : a.eval x = .slice (some ad) m c)
    (hrun : (Builtin.append_ #[t, t] o.type #[v, .slice (some ad) m c]).run P w = .ok v' w') (h : K (a.put o.dst v') w') : wpOp P ops Q i K a w :=
  eff_step ho fun K' hK' => by
    rw [if_pos (by unfold Region.wanted; rw [hgd])]
    unfold Oper.wp execOp
    simp only [hop, resolve, invoke, builtin, Sem.run_bind, Sem.run_pure, Result.andThen_ok, List.map_toArray, List.map_cons, List.map_nil, hs, hx, hrun]
    exact hK' _ _ h

/-- What holds while the reference lays a stream over bytes: the part at hand is P. -/
structure ROv (w0 : World) (KS NS : Array Value) (P : Array Value) (W : World) : Prop where
  below : Below w0.heap.size w0 W
  key : W.heap[w0.heap.size]? = some (.cells KS 23 (0, 0))
  non : W.heap[w0.heap.size + 1]? = some (.cells NS 24 (0, 0))
  part : W.heap[w0.heap.size + 2]? = some (.cells P 27 (0, 0))
  size : P.size = 64
theorem ROv.belo {w0 W W' : World} {KS NS P : Array Value} (h : ROv w0 KS NS P W) (hb : Below W.heap.size W W') : ROv w0 KS NS P W' :=
  ⟨h.below.trans (hb.mono h.below.size), (hb.block _ (lt_of_cells h.key)).trans h.key, (hb.block _ (lt_of_cells h.non)).trans h.non, (hb.block _ (lt_of_cells h.part)).trans h.part, h.size⟩
theorem ROv.rowed {w0 W W' : World} {KS NS P : Array Value} (h : ROv w0 KS NS P W) {row : Option Nat} (hg : W.grownBy W' row) (hr : ∀ r, row = some r → w0.heap.size ≤ r ∧ ∃ cs f, W.heap[r]? = some (.cells cs 5 f)) : ROv w0 KS NS P W' := by
  have hr2 : ∀ r, row = some r → ∃ cs f, W.heap[r]? = some (.cells cs 5 f) := fun r e => (hr r e).2
  exact ⟨h.below.grown hg h.below.size (fun k e => (hr k e).1), cells_other hg (by decide) hr2 h.key, cells_other hg (by decide) hr2 h.non, cells_other hg (by decide) hr2 h.part, h.size⟩
theorem ROv.setPart {w0 W : World} {KS NS P PS : Array Value} (h : ROv w0 KS NS P W) (hs : PS.size = 64) : ROv w0 KS NS PS (W.setRow (w0.heap.size + 2) PS) := by
  have e : ∀ (x : Nat), x ≠ w0.heap.size + 2 → (W.setRow (w0.heap.size + 2) PS).heap[x]? = W.heap[x]? := fun x hx => by
    simp only [World.setRow, Array.getElem?_modify]
    rw [if_neg (fun h => hx h.symm)]
  exact ⟨below_setRow h.below (by omega) _, (e _ (by omega)).trans h.key, (e _ (by omega)).trans h.non, setRow_at h.part, hs⟩
theorem ROv.drew {w0 W : World} {KS NS P : Array Value} (h : ROv w0 KS NS P W) : ROv w0 KS NS P W.drew := ⟨below_drew h.below, h.key, h.non, h.part, h.size⟩
theorem own_belo {W W' : World} {base : Nat} {e : TypeId} {size k : Nat} {v : Value} {xs : List Value} (h : W.ownsRow base e size v k xs) (hb : Below W.heap.size W W') : W'.ownsRow base e size v k xs := by
  refine h.kept (w' := W') (row := none) ⟨hb.os, hb.tape, hb.output, hb.size, fun k hk _ => hb.block k hk⟩ ?_
  rcases h.2 with ⟨rfl, _⟩ | ⟨g, cap, cur, rfl, _⟩
  · exact .inl rfl
  · exact .inr (by simp [Value.ownBlock])
/-- A store of a whole row at block p leaves rows of bytes of the call's own. -/
theorem own_setRow {W : World} {base : Nat} {k p : Nat} {v : Value} {xs : List Value} {cs : Array Value} {t : TypeId} (h : W.ownsRow base 5 1 v k xs) (hp : W.heap[p]? = some (.cells cs t (0, 0))) (ht : t ≠ 5) (new : Array Value) : (W.setRow p new).ownsRow base 5 1 v k xs := by
  refine h.kept (w' := W.setRow p new) (row := some p) ⟨rfl, rfl, rfl, by simp [World.setRow], fun k _ hne => ?_⟩ ?_
  · simp only [World.setRow, Array.getElem?_modify]
    rw [if_neg (fun e => hne (by rw [e]))]
  · rcases h.2 with ⟨rfl, _⟩ | ⟨g, cap, cur, rfl, _, hgb, _⟩
    · exact .inl rfl
    · refine .inr fun e => ?_
      simp only [Value.ownBlock] at e
      injection e with e
      subst e
      rw [hgb] at hp
      injection hp with hp
      injection hp with _ h3 _
      exact ht h3.symm
/-- The slot's value, the round, the world. -/
def ROr (w0 : World) (k no b : List UInt8) (KS NS : Array Value) (v i : Value) (W : World) : Prop :=
  ∃ j : Nat, ∃ P : Array Value, j ≤ b.length ∧ i = .int .i64 j ∧ W.ownsRow w0.heap.size 5 1 v j (u8s (overN k no b j)) ∧ ROv w0 KS NS P W ∧ (j % 64 ≠ 0 → P = row8 (partL k no (BitVec.ofNat 32 (j / 64))))

set_option maxHeartbeats 8000000 in
set_option maxRecDepth 100000 in
theorem rover_any (k no b : List UInt8) (hk : k.length = 32) (hno : no.length = 12) (hn : b.length ≤ 100000000000000) (w : World) :
    Calls Tryd.prog 12 #[.agg (row8 k), .agg (row8 no), .string (st b)] w fun e w' => e = .returned (.string (st (overL k no b))) ∧ Below w.heap.size w w' := by
  have hz6 := zero64p
  obtain ⟨i0, hi, hz0, hz1, hz2⟩ := info_parts u8_info
  have HI := Lib.hid (And.intro hi (And.intro hz0 (And.intro hz1 hz2)))
  obtain ⟨KS, hKS⟩ : ∃ KS, KS = row8 k := ⟨_, rfl⟩
  obtain ⟨NS, hNS⟩ : ∃ NS, NS = row8 no := ⟨_, rfl⟩
  rw [← hKS, ← hNS]
  have hks : KS.size = 32 := by rw [hKS, row8_size, hk]
  have hns : NS.size = 12 := by rw [hNS, row8_size, hno]
  have HRP : Hid (∀ (x : BitVec 32) W, Calls Tryd.prog 10 #[.agg KS, .agg NS, .int .u32 (nv x)] W fun e w' => e = .returned (.agg (row8 (partL k no x))) ∧ Below W.heap.size W w') := Lib.hid fun x W => by
    rw [hKS, hNS]
    exact rpart_any k no hk hno x W
  obtain ⟨W0, hW0⟩ : ∃ W0, (((w.alloc (.cells KS 23)).alloc (.cells NS 24)).alloc (.cells zeros64p 27)) = W0 := ⟨_, rfl⟩
  have hg0 := heap_alloc_new w (.cells KS 23)
  have hg1 := heap_alloc_new (w.alloc (.cells KS 23)) (.cells NS 24)
  have hg2 := heap_alloc_new ((w.alloc (.cells KS 23)).alloc (.cells NS 24)) (.cells zeros64p 27)
  have hb0 : Below w.heap.size w W0 := by rw [← hW0]; exact (((Below.refl _ _).alloc (Nat.le_refl _) _).alloc (by simp) _).alloc (by simp; omega) _
  simp only [World.size_alloc] at hg1 hg2
  have HR0 : Hid (ROv w KS NS zeros64p W0) := Lib.hid (by
    rw [← hW0] at hb0 ⊢
    refine ⟨hb0, ?_, ?_, hg2, rfl⟩
    · exact (Below.heap_alloc _ _ _ (by simp <;> omega)).trans ((Below.heap_alloc _ _ _ (by simp)).trans hg0)
    · exact (Below.heap_alloc _ _ _ (by simp <;> omega)).trans hg1)
  have HKS := Lib.hid (And.intro hks hns)
  have HNB := Lib.hid hn
  clear hg0 hg1 hg2 hb0 hKS hNS hk hno hks hns hi hz0 hz1 hz2
  have hsz := st_size b
  go_enter Tryd.func12, Tryd.ntmps12
  go_wp2_with fail
  clear hW0
  go_loopw [7, 9] (fun v i wr => ROr w k no b KS NS v i wr) (fun _ i _ => b.length - (intOf i).toNat)
  case atStart => unfold ROr; exact ⟨0, zeros64p, Nat.zero_le _, rfl, World.ownsRow_nil _ _ _ _, HR0.out, fun h => absurd rfl h⟩
  case round =>
    obtain ⟨j, P, hj, rfl, hown, hro, hp⟩ := hrel
    have HX := Lib.hid (And.intro hown (And.intro hro hp))
    clear hown hro hp HR0
    by_cases hlt : j < b.length
    · have HSU := Lib.hid (overN_succ k no b j)
      have HOA : Hid (overAt k no b j = (b[j]?.getD 0) ^^^ ((partL k no (BitVec.ofNat 32 (j / 64)))[j % 64]?.getD 0)) := Lib.hid rfl
      have HPL := Lib.hid (partL_length k no (BitVec.ofNat 32 (j / 64)))
      have HRC := Lib.hid (HRP.out (BitVec.ofNat 32 (j / 64)))
      have HNX : Hid ((j + 1) % 64 ≠ 0 → partL k no (BitVec.ofNat 32 ((j + 1) / 64)) = partL k no (BitVec.ofNat 32 (j / 64))) := Lib.hid fun h => by rw [show (j + 1) / 64 = j / 64 by omega]
      generalize partL k no (BitVec.ofNat 32 (j / 64)) = PL at *
      generalize overAt k no b j = ov at *
      obtain ⟨PS, hPS⟩ : ∃ PS, PS = row8 PL := ⟨_, rfl⟩
      rw [← hPS] at HRC HX
      have HPS : Hid (PS.size = 64 ∧ PS.all (·.oneCell') = true ∧ PS = row8 PL) := Lib.hid ⟨by rw [hPS, row8_size, HPL.out], by rw [hPS]; exact row8_one _, hPS⟩
      have HCV : Hid (((j : Int) / 64) % 4294967296 = nv (BitVec.ofNat 32 (j / 64))) := Lib.hid (by
        unfold nv
        rw [BitVec.toNat_ofNat]
        have h : (2 : Nat) ^ 32 = 4294967296 := rfl
        rw [h]
        omega)
      generalize BitVec.ofNat 32 (j / 64) = X at *
      clear hPS
      go_upto_if 18 with fail
      go_cut [] from 18 to 24 (fun wx => wx.ownsRow w.heap.size 5 1 u7 j (u8s (overN k no b j)) ∧ ROv w KS NS PS wx)
      case first =>
        by_cases h64 : j % 64 = 0
        · have hj0 : ((j : Int) % 64 == 0) = true := by simp; omega
          have hcv := HCV.out
          go_wp2_with (first | (refine wpList_load_row (by rfl) 23 (.tmp 3) (by rfl) w.heap.size (by rfl) 23 KS (0, 0) _ HX.out.2.1.key Tryd.underlying23 (by rfl) (by rw [HKS.out.1]; exact info32p) ?_) | (refine wpList_load_row (by rfl) 24 (.tmp 4) (by rfl) (w.heap.size + 1) (by rfl) 24 NS (0, 0) _ HX.out.2.1.non Tryd.underlying24 (by rfl) (by rw [HKS.out.2]; exact info12p) ?_))
          refine (HRC.out _).mono ?_
          rintro _ w5 ⟨rfl, hb5⟩
          have H5 := Lib.hid (And.intro (own_belo HX.out.1 hb5) (HX.out.2.1.belo hb5))
          clear hb5
          go_wp2_with (refine wpList_store_row (by rfl) 27 (.tmp 8) (.tmp 24) (by rfl) (w.heap.size + 2) PS (by rfl) (by rfl) 27 _ H5.out.2.part (by rw [HPS.out.1]; exact info64p) (by rw [HPS.out.1, H5.out.2.size]) HPS.out.2.1 ?_)
          go_meet
          exact ⟨own_setRow H5.out.1 H5.out.2.part (by decide) _, H5.out.2.setPart HPS.out.1⟩
        · have hj0 : ((j : Int) % 64 == 0) = false := by simp; omega
          go_wp2_with fail
          go_meet
          exact ⟨HX.out.1, by have := HX.out.2.1; rw [HX.out.2.2 h64] at this; exact this⟩
      case rest =>
        have HC := Lib.hid hcut
        clear hcut HX HRC HRP HCV
        have hix := st_at (P := Tryd.prog) 9 Tryd.underlying9 b j hlt
        obtain ⟨ch, hch⟩ : ∃ ch, b[j]?.getD 0 = ch := ⟨_, rfl⟩
        obtain ⟨pl, hpl⟩ : ∃ pl, PL[j % 64]?.getD 0 = pl := ⟨_, rfl⟩
        rw [hch] at hix
        have HPC : Hid (∀ V : World, V.heap[w.heap.size + 2]? = some (.cells PS 27 (0, 0)) → V.cell? ⟨w.heap.size + 2, j % 64, none⟩ = some (.int .u8 (pl.toNat : Int))) := Lib.hid fun V hV => by
          have h2 := u8s_cell (w := V) (p := w.heap.size + 2) (l := PL) (t := 27) (by rw [hV, HPS.out.2.2]; rfl) (j % 64) (by rw [HPL.out]; omega)
          rw [h2, hpl]
        have hx8 := xor8 ch pl
        have hov := HOA.out
        rw [hch, hpl] at hov
        rw [← hov] at hx8
        clear hch hpl hov HOA
        have hx1 : (j : Int).tmod 64 = ((j % 64 : Nat) : Int) := by rw [Int.tmod_eq_emod_of_nonneg (by omega)]; omega
        have hr : j % 64 < 64 := by omega
        have ir : ((j % 64 : Nat) : Int) < 64 := by omega
        have hwr := IntWalk.i64_in ((j % 64 : Nat) : Int) (by omega)
        have hjm : ((j : Int) % 64) = ((j % 64 : Nat) : Int) := by omega
        generalize j % 64 = r at *
        go_upto_region 8 with fail
        refine wp_region_plan (fun W => W.heap[w.heap.size + 2]? = some (.cells PS 27 (0, 0))) [([0, 1, 2, 3, 4, 5, 6, 7, 8], 9), ([], 10)] [11] (by kernel_rfl) (by kernel_rfl) (fun _ _ d _ _ h => by cases d <;> exact h) HC.out.2.part ?_
        have hown := HC.out.1
        have HR := Lib.hid HC.out.2.drew
        have HOW : Hid (wc.drew.ownsRow w.heap.size 5 1 u7 j (u8s (overN k no b j))) := Lib.hid (own_belo hown ⟨rfl, rfl, rfl, Nat.le_refl _, fun _ _ => rfl⟩)
        clear hown HC
        generalize wc.drew = wd at *
        refine plan_eff ?_
        refine seg_read ?v1 (by rfl) (by rfl) ?h1 ?_
        case h1 => intro W hW; go_simp; with_reducible rfl
        try simp only [Act.put, List.setIfInBounds_toArray, List.set_cons_zero, List.set_cons_succ]
        refine seg_read ?v2 (by rfl) (by rfl) ?h2 ?_
        case h2 => intro W hW; go_simp; with_reducible rfl
        try simp only [Act.put, List.setIfInBounds_toArray, List.set_cons_zero, List.set_cons_succ]
        refine seg_read ?v3 (by rfl) (by rfl) ?h3 ?_
        case h3 => intro W hW; go_simp; with_reducible rfl
        try simp only [Act.put, List.setIfInBounds_toArray, List.set_cons_zero, List.set_cons_succ]
        refine seg_read ?v4 (by rfl) (by rfl) ?h4 ?_
        case h4 => intro W hW; go_simp; with_reducible rfl
        try simp only [Act.put, List.setIfInBounds_toArray, List.set_cons_zero, List.set_cons_succ]
        refine seg_read ?v5 (by rfl) (by rfl) ?h5 ?_
        case h5 => intro W hW; go_simp; with_reducible rfl
        try simp only [Act.put, List.setIfInBounds_toArray, List.set_cons_zero, List.set_cons_succ]
        refine seg_read ?v6 (by rfl) (by rfl) ?h6 ?_
        case h6 => intro W hW; go_simp; with_reducible rfl
        try simp only [Act.put, List.setIfInBounds_toArray, List.set_cons_zero, List.set_cons_succ]
        refine seg_read ?v7 (by rfl) (by rfl) ?h7 ?_
        case h7 => intro W hW; go_simp; with_reducible rfl
        try simp only [Act.put, List.setIfInBounds_toArray, List.set_cons_zero, List.set_cons_succ]
        refine seg_read ?v8 (by rfl) (by rfl) ?h8 ?_
        case h8 => intro W hW; have hc := HPC.out W hW; go_simp; with_reducible rfl
        try simp only [Act.put, List.setIfInBounds_toArray, List.set_cons_zero, List.set_cons_succ]
        refine seg_read ?v9 (by rfl) (by rfl) ?h9 ?_
        case h9 => intro W hW; go_simp; with_reducible rfl
        try simp only [Act.put, List.setIfInBounds_toArray, List.set_cons_zero, List.set_cons_succ]
        refine seg_nil ?_
        refine eff_step (by rfl) (fun K hK => ?_)
        go_simp
        have hbl := (Below.refl wd.heap.size wd).alloc (Nat.le_refl _) (.cells #[.int .u8 (ov.toNat : Int)] 5)
        have HR2 := Lib.hid (HR.out.belo hbl)
        have HOW2 := Lib.hid (own_belo HOW.out hbl)
        have HQ := Lib.hid (heap_alloc_new wd (.cells #[.int .u8 (ov.toNat : Int)] 5))
        clear HR HOW hbl
        refine hK _ _ ⟨fun W => W.heap[w.heap.size + 2]? = some (.cells PS 27 (0, 0)), HR2.out.part, fun _ h => h, ?_⟩
        clear hK K
        try simp only [Act.put, List.setIfInBounds_toArray, List.set_cons_zero, List.set_cons_succ]
        generalize wd.alloc (.cells #[.int .u8 (ov.toNat : Int)] 5) = we at *
        generalize wd.heap.size = q at *
        refine plan_eff ?_
        refine seg_nil ?_
        obtain ⟨v', w7, hrun, hown7, hgr7, _⟩ := run_append_own (P := Tryd.prog) we w.heap.size 30 30 5 i0 (.int .u8 0) 1 1 Tryd.underlying30 HI.out.1 HI.out.2.1 HI.out.2.2.1 HI.out.2.2.2 rfl (by decide) u7 j _ HOW2.out ⟨q, 0, none⟩ 1 1 [.int .u8 (ov.toNat : Int)] rfl (by
          intro i u hi
          have hi0 : i = 0 := by
            have := (List.getElem?_eq_some_iff.1 hi).1
            simpa using this
          subst hi0
          rw [add_plain, cell_of_cells HQ.out]
          simpa using hi) (by simp [Value.oneCell']) (by have := HNB.out; unfold maxLen; omega) (by have := HNB.out; omega) HR2.out.below.size
        refine eff_append (by rfl) (by rfl) (.tmp 25) (.tmp 34) 30 (by rfl) (by rfl) (by rfl) hrun ?_
        have HR3 := Lib.hid (HR2.out.rowed hgr7 (own_row HOW2.out))
        have HOW3 : Hid (w7.ownsRow w.heap.size 5 1 v' (j + 1) (u8s (overN k no b (j + 1)))) := Lib.hid (by rw [HSU.out, u8s_append]; exact hown7)
        clear hown7 hgr7 hrun HR2 HOW2 HQ
        refine ⟨fun W => W = w7, rfl, fun W e => by rw [e]; exact HR3.out.part, ?_⟩
        try simp only [Act.put, List.setIfInBounds_toArray, List.set_cons_zero, List.set_cons_succ]
        refine plan_last ?_
        repeat (refine seg_step (by rfl) (fun K hK => ?_); go_simp; refine hK _ ?_; clear hK K)
        refine seg_nil ?_
        go_wp2_with fail
        refine ⟨?_, by simp [intOf]; omega⟩
        unfold ROr
        exact ⟨j + 1, PS, by omega, by go_num, HOW3.out, HR3.out, fun h => by rw [HNX.out h]; exact HPS.out.2.2⟩
    · obtain rfl : j = b.length := by omega
      obtain ⟨A, c, rfl, hY⟩ := own_byt (l := overN k no b b.length) HX.out.1
      have hs : (convert 30 9 (.slice A b.length c)).run Tryd.prog wr = .ok (.string (st (overL k no b))) wr := byt_string hY
      have HF := Lib.hid HX.out.2.1.below
      clear HX hY hlt hj
      go_wp2_with fail
      go_ret
      exact ⟨rfl, HF.out⟩
end Go.Proofs.YtmgglcllfpikcaaDoor
