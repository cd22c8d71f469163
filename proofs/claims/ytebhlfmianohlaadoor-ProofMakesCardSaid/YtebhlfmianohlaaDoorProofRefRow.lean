/-
  The reference's row of digests.
-/
import Derived.Test.YtebhlfmianohlaaDoorProofRefSplit
import Derived.Test.YtebhlfmianohlaaDoorIds
import Derived.Test.YtebhlfmianohlaaDoorIdRow
import Derived.Test.YtebhlfmianohlaaDoorIdLit
import Derived.Test.YtebhlfmianohlaaDoorProofRefNode
import Derived.Deep.AppendLies
namespace Go.Proofs.YtebhlfmianohlaaDoor
open Go.RowKit

/-- A slice of one digest. -/
theorem wpList_id_lit {ops : Array Oper} {rest : List Oper} {o : Oper} {a : Act} {Q : Exit → Act → World → Prop} {W : World} (hgd : o.guard = none) (x : Operand) (ho : o.op = .buildSlice 24 1 #[(0, x)]) (XS : Array Value) (l : List UInt8) (h : XS = row8 l) (hl : l.length = 32) (hx : a.eval x = .agg XS)
    (hK : wpList Tryd.prog ops Q rest (a.put o.dst (.slice (some ⟨W.heap.size, 0, none⟩) 1 1)) (W.alloc (.cells XS 31))) : wpList Tryd.prog ops Q (o :: rest) a W := by
  refine wpList_plain hgd fun K hK' => ?_
  have hrun := run_ids_lit W XS h hl
  unfold Oper.wp execOp
  simp [ho, hx, hrun, Result.andThen]
  exact hK' _ _ hK
theorem idsC_app (l : List (List UInt8)) (x : List UInt8) : idsC (l ++ [x]) = idsC l ++ u8s x := by
  simp [idsC, u8s]
theorem row8_cell {W : World} {g : Nat} {l : List UInt8} (h : W.heap[g]? = some (.cells (row8 l) 31 (0, 0))) : ∀ j u, (u8s l)[j]? = some u → W.cell? ((⟨g, 0, none⟩ : Addr).add j) = some u := fun j u hj => by
  rw [add_plain, Nat.zero_add, cell_of_cells h, row8, List.getElem?_toArray, hj]

def RRw (w1 : World) (b : List UInt8) (v i : Value) (wr : World) : Prop :=
  ∃ j : Nat, j ≤ (splitL b).length ∧ i = .int .i64 (j : Int) ∧ wr.ownsRow w1.heap.size 31 32 v j (idsC ((digs b).take j)) ∧ Below w1.heap.size w1 wr

set_option maxHeartbeats 4000000 in
set_option maxRecDepth 100000 in
theorem rrow_any (b : List UInt8) (hb : b.length ≤ 1000000) (w : World) :
    Calls Tryd.prog 26 #[.string (st b)] w fun e w' => ∃ v, e = .returned v ∧ w'.ownsRow w.heap.size 31 32 v (splitL b).length (idsC (digs b)) ∧ Below w.heap.size w w' := by
  obtain ⟨i0, hi, hz0, hz1, hz2⟩ := info_parts id_info3
  have HI := Lib.hid (And.intro hi (And.intro hz0 (And.intro hz1 hz2)))
  have hsp := rsplit_any b hb w
  have HBL := Lib.hid hb
  have hpos := splitL_pos b
  have hcnt := splitL_count b
  have hN6 : (splitL b).length ≤ 1000000 := by split at hcnt <;> omega
  have hdl := digs_length b
  obtain ⟨N, hN⟩ : ∃ N, N = (splitL b).length := ⟨_, rfl⟩
  rw [← hN] at hsp hpos hN6 hdl ⊢
  have HN := Lib.hid (And.intro hN (And.intro hpos (And.intro hN6 hdl)))
  clear hi hz0 hz1 hz2 hb hcnt hN hdl
  go_enter Tryd.func26, Tryd.ntmps26
  go_wp2_with fail
  refine hsp.mono ?_
  clear hsp
  rintro _ w1 ⟨v, rfl, hown, hb1⟩
  obtain ⟨g, cap, rfl, hcap⟩ := hown.form hpos
  have HS := Lib.hid (And.intro hown hb1)
  clear hown hb1 hcap
  go_wp2_with fail
  go_loopw [3, 5] (fun v i wr => RRw w1 b v i wr) (fun _ i _ => N - (intOf i).toNat)
  case atStart => unfold RRw; exact ⟨0, Nat.zero_le _, rfl, by simpa [idsC, u8s] using World.ownsRow_nil _ _ _ _, Below.refl _ _⟩
  case round =>
    obtain ⟨j, hj, rfl, hown, hbr⟩ := hrel
    have HO := Lib.hid hown
    have HBR := Lib.hid hbr
    have hszr := hbr.size
    rw [← HN.out.1] at hj
    clear hown hbr
    by_cases hlt : j < N
    · obtain ⟨m, hm⟩ : ∃ m, m = (splitL b)[j]?.getD [] := ⟨_, rfl⟩
      have hjs : j < (splitL b).length := by rw [← HN.out.1]; exact hlt
      have hml : m.length ≤ 64 := by
        rw [hm, List.getElem?_eq_getElem hjs]
        exact splitL_le b _ (List.getElem_mem hjs)
      have hown := own_below HS.out.1 HBR.out
      have hcell : wr.cell? ⟨g, j, none⟩ = some (.string (st m)) := by
        rw [hown.cellAt j (by omega), hm, strs]
        simp [hjs]
      obtain ⟨X, hX⟩ : ∃ X, X = leafD m := ⟨_, rfl⟩
      obtain ⟨XS, hXS⟩ : ∃ XS, XS = row8 X := ⟨_, rfl⟩
      have HX : Hid (XS = row8 X ∧ X.length = 32 ∧ (digs b).take (j + 1) = (digs b).take j ++ [X]) := Lib.hid ⟨hXS, by rw [hX]; exact leafD_length _, by
        rw [List.take_add_one, hX, hm]
        simp [digs, hjs]⟩
      have hof := rof_any (0 :: m) (by simp; omega) wr
      rw [show shaL (0 :: m) = X from hX.symm, show (u8s X).toArray = XS from hXS.symm] at hof
      have ha := st_cons 0 m
      have hsm := st_size m
      have hsum : ¬ (9223372036854775807 : Int) < 1 + (m.length : Int) := by omega
      generalize st (0 :: m) = sl at *
      clear hm hjs hml hown hX hXS
      go_wp2_with (first
        | (go_at_call 20; refine hof.mono ?_; clear hof; rintro _ w2 ⟨rfl, hb2⟩
           have HO1 := Lib.hid (own_below HO.out hb2)
           have HB1 := Lib.hid (HBR.out.trans (hb2.mono HBR.out.size))
           have hs2 : w1.heap.size ≤ w2.heap.size := HB1.out.size
           have hrow := row8_cell (l := X) (by rw [← HX.out.1]; exact heap_alloc_new w2 (.cells XS 31))
           clear hb2)
        | refine wpList_id_lit (by rfl) (.tmp 20) (by rfl) XS X HX.out.1 HX.out.2.1 (by rfl) ?_
        | (at_builtin; refine wpList_append_own_at _ rfl _ _ 24 rfl w1.heap.size 31 i0 (.agg zerosId) 32 32 Tryd.underlying24 HI.out.1 HI.out.2.1 HI.out.2.2.1 HI.out.2.2.2 (by kernel_rfl) (by decide) _ j (idsC ((digs b).take j)) rfl (HO1.out.alloc _) ⟨w2.heap.size, 0, none⟩ 1 1 (u8s X) rfl (by rw [u8s_length, HX.out.2.1]) hrow (u8s_one X) (by unfold maxLen; have := HN.out.2.2.1; omega) (by have := HN.out.2.2.1; omega) (by simp; omega) ?_))
      intro v' w3 hown3 hgrow _ _
      have hlt2 := HO1.out.lt
      have HB3 : Hid (Below w1.heap.size w1 w3) := Lib.hid ((HB1.out.alloc hs2 _).grown hgrow (by simp; omega) (fun b hb => (hlt2 b hb).1))
      have HO3 : Hid (w3.ownsRow w1.heap.size 31 32 v' (j + 1) (idsC ((digs b).take (j + 1)))) := Lib.hid (by
        rw [HX.out.2.2, idsC_app]
        exact hown3)
      clear hown3 hgrow hlt2
      go_wp2_with fail
      go_roundw
      case rel => unfold RRw; exact ⟨j + 1, by rw [← HN.out.1]; omega, by go_num, HO3.out, HB3.out⟩
      case measure => simp [intOf]; omega
    · obtain rfl : N = j := by omega
      have hall : (digs b).take N = digs b := by rw [List.take_of_length_le (by have := HN.out.2.2.2; omega)]
      clear hlt hj
      go_wp2_with fail
      go_ret
      exact ⟨_, rfl, by have := own_base HO.out HS.out.2.size; rwa [hall] at this, HS.out.2.trans (HBR.out.mono HS.out.2.size)⟩
end Go.Proofs.YtebhlfmianohlaaDoor
