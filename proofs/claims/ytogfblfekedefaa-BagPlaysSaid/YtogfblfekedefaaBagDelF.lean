/-
  The code's bag: slices.DeleteFunc of those that are too old.
-/
import Derived.Test.YtogfblfekedefaaBagOld
namespace Go.Proofs.Ytogfblfekedefaa
open Go.RowKit

def keepX (K : Nat) (xs : List Am) : List Am := xs.filter fun x => !oldX K x
theorem keepX_none {K : Nat} {xs : List Am} (h : xs.any (oldX K) = false) : keepX K xs = xs := by
  unfold keepX
  rw [List.filter_eq_self]
  intro x hx
  rw [List.any_eq_false] at h
  simpa using h x hx
theorem keepX_snoc {K : Nat} {xs : List Am} {j : Nat} {x : Am} (h : xs[j]? = some x) : keepX K (xs.take (j + 1)) = keepX K (xs.take j) ++ if oldX K x = true then [] else [x] := by
  unfold keepX
  rw [take_snocX h, List.filter_append]
  congr 1
  cases hx : oldX K x <;> simp [hx]
theorem keepX_len (K : Nat) (xs : List Am) : (keepX K xs).length ≤ xs.length := List.length_filter_le ..
/-- A store of an element. -/
theorem wpList_ag {ops : Array Oper} {rest : List Oper} {op : Oper} {a : Act} {w w' : World} {Q : Exit → Act → World → Prop} (hgd : op.guard = none) (ty : TypeId) (x y : Operand) (ho : op.op = .store ty x y) {u v : Value}
    (hx : a.eval x = u) (hy : a.eval y = v) (hr : (Instr.storeAt ty u v).run Try.prog w = .ok () w') (hK : wpList Try.prog ops Q rest (a.put op.dst undef) w') : wpList Try.prog ops Q (op :: rest) a w :=
  wpList_plain hgd fun K hK' => by
    unfold Oper.wp execOp
    simp only [ho, hx, hy, Sem.run_bind, hr, Result.andThen_ok, Sem.run_pure]
    exact hK' _ _ hK
def RDf (w : World) (xs : List Am) (g c K : Nat) (i j : Value) (wr : World) : Prop :=
  ∃ (k m : Nat) (zs : List Am), i = .int .i64 (k : Int) ∧ j = .int .i64 (m : Int) ∧ k ≤ m ∧ m ≤ xs.length ∧ RowG wr g c zs ∧ zs.length = xs.length ∧ zs.take k = keepX K (xs.take m) ∧ zs.drop m = xs.drop m ∧ Turned (fun b => b = g) w wr
/-- What it leaves. -/
def DfP (w : World) (A : Option Addr) (xs : List Am) (K : Nat) (e : Ending) (w' : World) : Prop :=
  ∃ c, e = .returned (.slice A (keepX K xs).length c) ∧ w'.ownsRow 0 60 4 (.slice A (keepX K xs).length c) (keepX K xs).length (rosL amC (keepX K xs)) ∧ Turned (fun b => (Value.slice A 0 0).ownBlock = some b) w w'
set_option maxHeartbeats 8000000 in
set_option maxRecDepth 100000 in
theorem bgdelf_any {w : World} {S : Nat → Prop} {p L c0 : Nat} {A : Option Addr} {xs : List Am} (hL : xs.length = L) (h : Ams w S p (.slice A L c0) xs) (hf : xs.length ≤ 1000000) {q K : Nat} (hq : w.cell? ⟨q, 0, none⟩ = some (.int .i64 (K : Int))) (hlt : q < w.heap.size) (hqS : ¬ S q) :
    Calls Try.prog 22 #[.slice A L c0, oldF q] w (DfP w A xs K) := by
  have hix := ixold_any h hf hq hlt
  have HH := Lib.hid (And.intro h (And.intro hf (And.intro hq (And.intro hlt (And.intro hqS hL)))))
  obtain ⟨FV, hFV⟩ : ∃ FV, FV = oldF q := ⟨_, rfl⟩
  rw [← hFV] at hix ⊢
  clear h hf hq hlt hqS hL
  cases hany : xs.any (oldX K) with
  | false =>
    have hix : Calls Try.prog 25 #[.slice A L c0, FV] w fun e w' => e = .returned (.int .i64 (-1)) ∧ Below w.heap.size w w' := hix.mono fun e w' h => by
      rcases h with ⟨i, x, _, h1, h2, _⟩ | ⟨h1, _, h2⟩
      · rw [List.any_eq_false] at hany
        exact absurd h2 (hany x (List.mem_of_getElem? h1))
      · exact ⟨h1, h2⟩
    have HK := Lib.hid (keepX_none hany)
    clear hany hFV
    go_enter Try.func22, Try.ntmps22
    go_wp2_with (go_at_call 25; refine hix.mono ?_; clear hix; rintro _ w1 ⟨rfl, hb1⟩; have H1 := Lib.hid hb1; clear hb1)
    go_ret
    unfold DfP
    rw [HK.out]
    exact ⟨c0, by rw [HH.out.2.2.2.2.2]; rfl, by rw [HH.out.2.2.2.2.2]; have h1 := row_below HH.out.1.own H1.out; rwa [HH.out.2.2.2.2.2] at h1, Turned.of_below H1.out⟩
  | true =>
    have hix : Calls Try.prog 25 #[.slice A L c0, FV] w fun e w' => ∃ (i : Nat) (x : Am), e = .returned (.int .i64 (i : Int)) ∧ xs[i]? = some x ∧ oldX K x = true ∧ (xs.take i).any (oldX K) = false ∧ Below w.heap.size w w' := hix.mono fun e w' h => by
      rcases h with h | ⟨_, h1, _⟩
      · exact h
      · rw [hany] at h1
        exact absurd h1 (by decide)
    have HFV := Lib.hid hFV
    obtain ⟨g, rfl⟩ : ∃ g, A = some ⟨g, 0, none⟩ := by
      obtain ⟨x, hx, _⟩ := List.any_eq_true.1 hany
      obtain ⟨i, hi⟩ := List.getElem?_of_mem hx
      obtain ⟨g, c1, hv, _⟩ := HH.out.1.at_ hi
      injection hv with hA
      exact ⟨g, hA⟩
    clear hany hFV
    go_enter Try.func22, Try.ntmps22
    go_upto_region 2 with (go_at_call 25; refine hix.mono ?_; clear hix; rintro _ w1 ⟨i, x, rfl, hx, hox, hti, hb1⟩; have H1 := Lib.hid (And.intro hx (And.intro hox (And.intro hti hb1))); clear hx hox hti hb1)
    rw [HFV.out]
    unfold oldF
    have hil := (List.getElem?_eq_some_iff.1 H1.out.1).1
    have hadd := IntWalk.i64_in ((i : Int) + 1) (by have := HH.out.2.1; omega)
    have hi0 : ((i : Int) == -1) = false := beq_eq_false_iff_ne.2 (by omega)
    have hrow := HH.out.1
    rw [← HH.out.2.2.2.2.2] at hrow
    have HR := Lib.hid (show RDf w xs g c0 K (.int .i64 (i : Int)) (.int .i64 ((i + 1 : Nat) : Int)) w1 from
      ⟨i, i + 1, xs, rfl, rfl, by omega, by omega, hrow.rowG.below H1.out.2.2.2, rfl, by rw [keepX_snoc H1.out.1, H1.out.2.1, keepX_none H1.out.2.2.1]; simp, rfl, Turned.of_below H1.out.2.2.2⟩)
    have HQ := Lib.hid (show g ≠ q ∧ g < w.heap.size from ⟨fun h => HH.out.2.2.2.2.1 (by rw [← h]; exact (hrow.ob g rfl).1), hrow.rowG.lt⟩)
    have hza := zero_ag
    obtain ⟨Z0, hZ0⟩ : ∃ Z0, Z0 = agV 0 0 none 0 0 0 := ⟨_, rfl⟩
    rw [← hZ0] at hza
    have HZ := Lib.hid hZ0
    clear hrow H1 hZ0 hil
    go_upto_region 5 with fail
    clear hi0 hadd
    go_loopw [5, 6] (fun i j wr => RDf w xs g c0 K i j wr) (fun _ j _ => L - (intOf j).toNat)
    case atStart => simpa using HR.out
    case round =>
      obtain ⟨k, m, zs, rfl, rfl, hkm, hmL, hrow, hzl, htk, hdr, htt⟩ := hrel
      clear HR
      by_cases hlt : m < L
      · have hlt' : (m : Int) < (L : Int) := by omega
        obtain ⟨x, hx⟩ : ∃ x, xs[m]? = some x := ⟨_, List.getElem?_eq_getElem (by have := HH.out.2.2.2.2.2; omega)⟩
        have hzx : zs[m]? = some x := by
          have h1 : (zs.drop m)[0]? = (xs.drop m)[0]? := by rw [hdr]
          rw [List.getElem?_drop, List.getElem?_drop, Nat.add_zero, hx] at h1
          exact h1
        obtain ⟨XV, hXV⟩ : ∃ XV, XV = amV x := ⟨_, rfl⟩
        have HX := Lib.hid (show (Try.prog.info? 60).map (·.size) = some XV.size ∧ Z0.size = XV.size ∧ XV.all (·.oneCell') = true ∧ XV = amV x from ⟨by rw [hXV]; exact ag_info _ _ _ _ _ _, by rw [HZ.out, hXV]; rfl, by rw [hXV]; exact ag_one _ _ _ _ _ _, hXV⟩)
        have hcV : ∀ (i : Nat) (u : Value), XV[i]? = some u → wr.cell? ((⟨g, m * 4, none⟩ : Addr).add i) = some u := fun i u hu => by
          rw [add_plain]
          refine hrow.cell hzx ?_
          rw [hXV] at hu
          simpa [amV, agV, amC] using hu
        have hq := heap_alloc_new wr (.cells Z0 60)
        obtain ⟨w2, hw2⟩ : ∃ w2, w2 = (wr.alloc (.cells Z0 60)).setRow wr.heap.size XV := ⟨_, rfl⟩
        have hq2 : w2.heap[wr.heap.size]? = some (.cells XV 60 (0, 0)) := by rw [hw2]; exact setRow_at hq
        have hb2 : Below wr.heap.size wr w2 := by rw [hw2]; exact below_setRow ((Below.refl _ _).alloc (Nat.le_refl _) _) (Nat.le_refl _) _
        have hcq : w2.cell? ⟨q, 0, none⟩ = some (.int .i64 (K : Int)) := by
          have hqr : q < wr.heap.size := Nat.lt_of_lt_of_le HH.out.2.2.2.1 htt.size
          rw [hb2.cell (p := ⟨q, 0, none⟩) hqr, ros_turned htt HH.out.2.2.2.1 (Ne.symm HQ.out.1)]
          exact HH.out.2.2.1
        have hold := old_any hcq (Nat.lt_of_lt_of_le (Nat.lt_of_lt_of_le HH.out.2.2.2.1 htt.size) hb2.size) x
        rw [← hXV] at hold
        have HC := Lib.hid (And.intro hcV hq)
        have H2 := Lib.hid (And.intro hq2 (And.intro (hrow.below hb2) ((htt.trans (Turned.of_below hb2) fun _ _ h => h))))
        have HM := Lib.hid (And.intro hkm (And.intro hlt (And.intro hzl (And.intro htk (And.intro hdr (And.intro hx htt.size))))))
        obtain ⟨Y, hY⟩ : ∃ Y, Y = oldX K x := ⟨_, rfl⟩
        rw [← hY] at hold
        have HY := Lib.hid hY
        have haddm := IntWalk.i64_in ((m : Int) + 1) (by have := HH.out.2.1; omega)
        have hkL : k < L := by omega
        clear hkm hmL hrow hzl htk hdr htt hlt hx hzx hcV hq hq2 hb2 hcq hXV hY
        go_upto_region 8 with (first
          | (refine wpList_load_at (by rfl) 60 (.tmp 24) (by rfl) ⟨g, m * 4, none⟩ (by rfl) XV _ HC.out.1 Try.underlying60 (by rfl) HX.out.1 ?_)
          | (refine wpList_store_row (by rfl) 60 (.tmp 7) (.tmp 25) (by rfl) wr.heap.size XV (by rfl) (by rfl) 60 Z0 HC.out.2 HX.out.1 HX.out.2.1 HX.out.2.2.1 ?_))
        rw [← hw2]
        clear hw2 HC
        cases Y with
        | true =>
          go_wp2_with (first
            | (refine wpList_load_row (by rfl) 60 (.tmp 7) (by rfl) wr.heap.size (by rfl) _ XV (0, 0) _ H2.out.1 Try.underlying60 (by rfl) HX.out.1 ?_)
            | (go_at_call 23; refine hold.mono ?_; clear hold; rintro _ w3 ⟨rfl, hb3⟩
               have H3 := Lib.hid (And.intro ((hb3.block _ (lt_of_cells H2.out.1)).trans H2.out.1) (And.intro (H2.out.2.1.below hb3) (H2.out.2.2.trans (Turned.of_below hb3) fun _ _ h => h)))
               clear hb3))
          go_roundw
          case rel =>
            exact ⟨k, m + 1, zs, rfl, by simp, by have := HM.out.1; omega, by have := HM.out.2.1; have := HH.out.2.2.2.2.2; omega, H3.out.2.1, HM.out.2.2.1, by rw [keepX_snoc HM.out.2.2.2.2.2.1, ← HY.out, if_pos rfl, List.append_nil]; exact HM.out.2.2.2.1, by rw [← List.drop_drop, HM.out.2.2.2.2.1, List.drop_drop], H3.out.2.2⟩
          case measure => have := HM.out.2.1; simp only [intOf]; omega
        | false =>
          go_upto_region 9 with (first
            | (refine wpList_load_row (by rfl) 60 (.tmp 7) (by rfl) wr.heap.size (by rfl) _ XV (0, 0) _ H2.out.1 Try.underlying60 (by rfl) HX.out.1 ?_)
            | (go_at_call 23; refine hold.mono ?_; clear hold; rintro _ w3 ⟨rfl, hb3⟩
               have H3 := Lib.hid (And.intro ((hb3.block _ (lt_of_cells H2.out.1)).trans H2.out.1) (And.intro (H2.out.2.1.below hb3) (H2.out.2.2.trans (Turned.of_below hb3) fun _ _ h => h)))
               clear hb3))
          have haddk := IntWalk.i64_in ((k : Int) + 1) (by have := HH.out.2.1; have := HH.out.2.2.2.2.2; omega)
          have hkL2 : k < zs.length := by have := HM.out.2.2.1; have := HH.out.2.2.2.2.2; omega
          obtain ⟨hst, hrow4⟩ := ag_store H3.out.2.1 hkL2 x
          have ht4 : ∀ cs, Turned (fun b => b = g) w3 (w3.setRow g cs) := fun cs => ⟨rfl, rfl, rfl, by simp, fun b _ hb => setRow_other w3 g b _ hb⟩
          have ht4 := ht4 ((rosL amC (zs.set k x)) ++ (match w3.heap[g]? with | some (.cells cur _ _) => cur.toList.drop (zs.length * 4) | _ => [])).toArray
          generalize w3.setRow g ((rosL amC (zs.set k x)) ++ (match w3.heap[g]? with | some (.cells cur _ _) => cur.toList.drop (zs.length * 4) | _ => [])).toArray = w4 at *
          rw [show (amC x).toArray = XV by rw [HX.out.2.2.2]; rfl] at hst
          have H4 := Lib.hid (And.intro hrow4 (H3.out.2.2.trans ht4 fun _ _ h => h))
          clear hrow4 ht4
          go_wp2_with (first
            | (refine wpList_load_row (by rfl) 60 (.tmp 7) (by rfl) wr.heap.size (by rfl) _ XV (0, 0) _ H3.out.1 Try.underlying60 (by rfl) HX.out.1 ?_)
            | (refine wpList_ag (by rfl) 60 (.tmp 33) (.tmp 32) (by rfl) (by rfl) (by rfl) hst ?_))
          go_roundw
          case rel =>
            refine ⟨k + 1, m + 1, zs.set k x, by simp, by simp, by have := HM.out.1; omega, by have := HM.out.2.1; have := HH.out.2.2.2.2.2; omega, H4.out.1, by rw [List.length_set]; exact HM.out.2.2.1, ?_, ?_, H4.out.2⟩
            · rw [keepX_snoc HM.out.2.2.2.2.2.1, ← HY.out, if_neg (by decide), ← HM.out.2.2.2.1]
              have h1 : (zs.set k x)[k]? = some x := by rw [List.getElem?_set_self hkL2]
              rw [take_snocX h1, List.take_set_of_le (Nat.le_refl _)]
            · rw [List.drop_set_of_lt (by have := HM.out.1; omega), ← List.drop_drop, HM.out.2.2.2.2.1, List.drop_drop]
          case measure => have := HM.out.2.1; simp only [intOf]; omega
      · have hlt' : ¬ (m : Int) < (L : Int) := by omega
        have hm : m = L := by have := HH.out.2.2.2.2.2; omega
        have hkk : zs.take k = keepX K xs := by rw [htk, List.take_of_length_le (by have := HH.out.2.2.2.2.2; omega)]
        have hzL : zs.length = L := hzl.trans HH.out.2.2.2.2.2
        have hkz : k ≤ zs.length := by omega
        have hlen : (zs.take k).length = k := by rw [List.length_take]; omega
        have hroom := hrow.room
        have hfrom := run_gfrom Try.underlying55 ag_sizeOf (some ⟨g, 0, none⟩) L c0 k (by omega)
        have hto := run_gto Try.underlying55 ag_sizeOf (some ⟨g, 0, none⟩) L c0 k (by omega)
        obtain ⟨w4, hcl, hrow4, ht4⟩ := ag_clear (hrow.front k hkz) (m := L - k) (by omega) (cutG 4 (some ⟨g, 0, none⟩) c0 k) (fun _ => by rw [hlen]; unfold cutG; rw [if_neg (by omega)]; simp [add_plain]) (c0 - k) 0
        have hkn : k = (keepX K xs).length := by rw [← hkk, hlen]
        have hown := hrow4.own
        rw [hkk] at hown
        have HE := Lib.hid (And.intro hown (And.intro (htt.trans ht4 fun _ _ h => h) hkn))
        clear hkm hmL hrow hzl htk hdr htt hlt hm hkk hzL hkz hlen hroom hrow4 ht4 hkn hown
        generalize cutG 4 (some ⟨g, 0, none⟩) c0 k = AF at *
        generalize L - k = M at *
        generalize c0 - k = C at *
        generalize hAG : (some ⟨g, 0, none⟩ : Option Addr) = AG at *
        go_wp2_with (simp only [hcl])
        go_ret
        refine ⟨c0, by rw [← HE.out.2.2]; rfl, HE.out.1, HE.out.2.1.mono fun b _ h => ?_⟩
        rw [← hAG, h]
        rfl
end Go.Proofs.Ytogfblfekedefaa
