/-
  The code's bag: the end of a row cleared; slices.Delete of one message.
-/
import Derived.Test.YtogfblfekedefaaBagRow
namespace Go.Proofs.Ytogfblfekedefaa
open Go.RowKit

def takeX (xs : List Am) (i : Nat) : List Am := xs.take i ++ xs.drop (i + 1)
theorem takeX_len (xs : List Am) {i : Nat} (hi : i < xs.length) : (takeX xs i).length = xs.length - 1 := by simp [takeX]; omega
theorem exec_slice_h {P : Program} {E : Operand → Value} {o : Oper} {W : World} {t : TypeId} {x k : Operand} {v u r : Value} {e : TypeId} (ht : P.underlying t = some (.slice e)) (ho : o.op = .slice t x none (some k) none) (hx : E x = v) (hk : E k = u) (h : (Instr.slice t v none (some u) none).run P W = .ok r W) : (execOp E o).run P W = .ok (.value r) W := by
  have ht' : P.underlying t = some (.slice (P.elem t)) := by simp [Program.elem, ht]
  unfold execOp
  simp [ho, hx, hk, run_sliceAt_slice W t v _ _ _ ht', h, Result.andThen]
theorem exec_slice_l {P : Program} {E : Operand → Value} {o : Oper} {W : World} {t : TypeId} {x k : Operand} {v u r : Value} {e : TypeId} (ht : P.underlying t = some (.slice e)) (ho : o.op = .slice t x (some k) none none) (hx : E x = v) (hk : E k = u) (h : (Instr.slice t v (some u) none none).run P W = .ok r W) : (execOp E o).run P W = .ok (.value r) W := by
  have ht' : P.underlying t = some (.slice (P.elem t)) := by simp [Program.elem, ht]
  unfold execOp
  simp [ho, hx, hk, run_sliceAt_slice W t v _ _ _ ht', h, Result.andThen]
/-- clear of what stands behind. -/
theorem ag_clear {w : World} {g c : Nat} {xs : List Am} (h : RowG w g c xs) {m : Nat} (hk : xs.length + m ≤ c) (A : Option Addr) (hA : 0 < m → A = some ⟨g, xs.length * 4, none⟩) (c' : Nat) (ty : TypeId) :
    ∃ w', (Builtin.clear_ #[55] ty #[.slice A m c']).run Try.prog w = .ok (.tuple #[]) w' ∧ RowG w' g c xs ∧ Turned (fun b => b = g) w w' := by
  rcases Nat.eq_zero_or_pos m with h0 | h0
  · subst h0
    refine ⟨w, ?_, h, Turned.refl _ _⟩
    cases A <;> simp [Builtin.clear_, run_underlying Try.underlying55]
  · rw [hA h0]
    obtain ⟨cur, h1, h2, h3, h4, h5⟩ := h
    have hz : (Builtin.zeroCells (Value.agg (agV 0 0 none 0 0 0)).cells m).toList.length = m * 4 := by
      rw [show (Value.agg (agV 0 0 none 0 0 0)).cells = agV 0 0 none 0 0 0 from rfl]
      simp [Builtin.zeroCells, agV]
    have hz1 : ∀ u ∈ (Builtin.zeroCells (Value.agg (agV 0 0 none 0 0 0)).cells m).toList, u.oneCell' = true := by
      rw [show (Value.agg (agV 0 0 none 0 0 0)).cells = agV 0 0 none 0 0 0 from rfl]
      intro u hu
      simp only [Builtin.zeroCells, Array.toList_map, List.mem_map] at hu
      obtain ⟨j, _, rfl⟩ := hu
      have hj : j % 4 < 4 := Nat.mod_lt _ (by decide)
      rw [show (agV 0 0 none 0 0 0).size = 4 from rfl]
      generalize j % 4 = r at hj
      rcases r with _ | _ | _ | _ | r
      · rfl
      · rfl
      · rfl
      · rfl
      · omega
    have hzv := zero_ag
    obtain ⟨ZV, hZV⟩ : ∃ ZV, ZV = Value.agg (agV 0 0 none 0 0 0) := ⟨_, rfl⟩
    rw [← hZV] at hz hz1 hzv
    have hst := run_storeCells_at (P := Try.prog) g (xs.length * 4) 60 (Builtin.zeroCells ZV.cells m).toList 0 cur w h1 (by omega) hz1
    rw [Nat.add_zero] at hst
    clear hZV
    obtain ⟨m', rfl⟩ : ∃ m', m = m' + 1 := ⟨m - 1, by omega⟩
    generalize hZ : (Builtin.zeroCells ZV.cells (m' + 1)).toList = Z at *
    refine ⟨_, by simp [Builtin.clear_, run_underlying Try.underlying55, hzv, hZ, hst, Result.andThen]; rfl, ?_, ?_⟩
    · refine ⟨_, setRow_at h1, h2, h3, ?_, ?_⟩
      · simp; omega
      · rw [← h5]
        simp only
        exact List.take_left' (by simp; omega)
    · exact ⟨rfl, rfl, rfl, by simp, fun b _ hb => setRow_other w g b _ hb⟩
/-- What s[k:k+m] is. -/
theorem ag_end {g c k m : Nat} (hk : k + m ≤ c) (W : World) : (Instr.slice 55 (.slice (some ⟨g, 0, none⟩) k c) (some (.int .i64 (k : Int))) (some (.int .i64 ((k + m : Nat) : Int))) none).run Try.prog W = .ok (.slice (cutG 4 (some ⟨g, 0, none⟩) c k) m (c - k)) W := by
  have ht' : Try.prog.underlying 55 = some (.slice (Try.prog.elem 55)) := by simp [Program.elem, Try.underlying55]
  have he : Try.prog.elem 55 = 60 := by simp [Program.elem, Try.underlying55]
  rw [run_slice_lh W 55 _ _ _ ht' .i64 .i64 (k : Int) ((k + m : Nat) : Int) (by omega) (by omega) (by omega), he, ag_sizeOf]
  simp only [Result.andThen, sliced, cutG, Int.toNat_natCast, Nat.add_sub_cancel_left]
theorem ag_three {g n c k : Nat} (hk : k + 1 ≤ n) (hc : n ≤ c) : ∃ v, ∀ W, (Instr.slice 55 (.slice (some ⟨g, 0, none⟩) n c) (some (.int .i64 (k : Int))) (some (.int .i64 ((k : Int) + 1))) (some (.int .i64 (n : Int)))).run Try.prog W = .ok v W := by
  have ht' : Try.prog.underlying 55 = some (.slice (Try.prog.elem 55)) := by simp [Program.elem, Try.underlying55]
  have he : Try.prog.elem 55 = 60 := by simp [Program.elem, Try.underlying55]
  refine ⟨sliced (some ⟨g, 0, none⟩) (k : Int).toNat ((k : Int) + 1).toNat (n : Int).toNat 4, fun W => ?_⟩
  rw [run_slice_lhm W 55 _ _ _ ht' .i64 .i64 .i64 (k : Int) ((k : Int) + 1) (n : Int) (by omega) (by omega) (by omega) (by omega), he, ag_sizeOf]
  rfl
/-- append(s[:i], s[i+1:]...) -/
theorem ag_join {w : World} {g c : Nat} {xs : List Am} (h : RowG w g c xs) {i : Nat} (hi : i < xs.length) (ty : TypeId) :
    ∃ w', (Builtin.append_ #[55, 55] ty #[.slice (some ⟨g, 0, none⟩) i c, .slice (cutG 4 (some ⟨g, 0, none⟩) c (i + 1)) (xs.length - (i + 1)) (c - (i + 1))]).run Try.prog w = .ok (.slice (some ⟨g, 0, none⟩) (xs.length - 1) c) w' ∧
      RowG w' g c (takeX xs i) ∧ Turned (fun b => b = g) w w' := by
  obtain ⟨i0, hin, hz0, hz1, hz2⟩ := info_parts ag_info3
  have hr := h.room
  have hfr := (h.front i (by omega)).own
  rw [List.length_take, Nat.min_eq_left (by omega)] at hfr
  obtain ⟨a, ha⟩ : ∃ a, cutG 4 (some ⟨g, 0, none⟩) c (i + 1) = some a := by
    unfold cutG
    split
    · exact ⟨_, rfl⟩
    · exact ⟨_, rfl⟩
  have hlen : (rosL amC (xs.drop (i + 1))).length = (xs.length - (i + 1)) * 4 := by rw [rosL_len amC_len, List.length_drop]
  obtain ⟨w', hrun, ho, hg⟩ := run_append_fits (P := Try.prog) w 0 55 ty 60 i0 4 Try.underlying55 hin hz1 g i c _ hfr a (xs.length - (i + 1)) (c - (i + 1)) (rosL amC (xs.drop (i + 1))) hlen (fun j u hj => by
    have hj' := (List.getElem?_eq_some_iff.1 hj).1
    obtain ⟨ad, h1, h2⟩ := row_from (size := 4) (row_at h.own) (n := xs.length) (c := c) (k := i + 1) hr.1 (by omega) (Below.refl w.heap.size w) (by omega)
    rw [ha] at h1
    injection h1 with h1
    subst h1
    rw [rosL_drop amC_len xs (i + 1) (by omega)] at h2
    exact h2 j u hj) (rosL_one amC_one _) (by omega)
  rw [ha]
  rw [show i + (xs.length - (i + 1)) = xs.length - 1 by omega] at hrun ho
  rw [← rosL_app] at ho
  refine ⟨w', hrun, RowG.of_own ?_, Turned.of_gr hg fun _ e => (Option.some.inj e).symm⟩
  rw [takeX_len xs hi]
  exact ho
set_option maxHeartbeats 8000000 in
set_option maxRecDepth 100000 in
theorem bgdel_any {w : World} {g c : Nat} {xs : List Am} (h : RowG w g c xs) {i : Nat} (hi : i < xs.length) (hf : xs.length ≤ 1000000) :
    Calls Try.prog 21 #[.slice (some ⟨g, 0, none⟩) xs.length c, .int .i64 (i : Int), .int .i64 ((i : Int) + 1)] w fun e w' => e = .returned (.slice (some ⟨g, 0, none⟩) (xs.length - 1) c) ∧ RowG w' g c (takeX xs i) ∧ Turned (fun b => b = g) w w' := by
  have hr := h.room
  obtain ⟨v3, h3⟩ := ag_three (g := g) (n := xs.length) (c := c) (k := i) (by omega) hr.1
  have hto := run_gto Try.underlying55 ag_sizeOf (some ⟨g, 0, none⟩) xs.length c i (by omega)
  have hfrom := run_gfrom Try.underlying55 ag_sizeOf (some ⟨g, 0, none⟩) xs.length c (i + 1) (by omega)
  rw [show (((i + 1 : Nat)) : Int) = (i : Int) + 1 by omega] at hfrom
  have hne : ((i : Int) == (i : Int) + 1) = false := beq_eq_false_iff_ne.2 (by omega)
  obtain ⟨w2, hj, hrow, ht2⟩ := ag_join (w := w.drew) (h.below (below_drew (Below.refl _ _))) hi 55
  obtain ⟨K, hK⟩ : ∃ K, K = xs.length - 1 := ⟨_, rfl⟩
  have hend := ag_end (g := g) (c := c) (k := K) (m := 1) (by omega)
  rw [show K + 1 = xs.length by omega] at hend
  rw [← hK] at hj ⊢
  obtain ⟨w3, hcl, hrow3, ht3⟩ := ag_clear hrow (m := 1) (by rw [takeX_len xs hi]; omega) (cutG 4 (some ⟨g, 0, none⟩) c K) (fun _ => by rw [takeX_len xs hi, ← hK]; unfold cutG; rw [if_neg (by omega)]; simp [add_plain]) (c - K) 0
  generalize cutG 4 (some ⟨g, 0, none⟩) c K = AE at *
  generalize cutG 4 (some ⟨g, 0, none⟩) c (i + 1) = AF at *
  generalize hAG : (some ⟨g, 0, none⟩ : Option Addr) = AG at *
  generalize xs.length - (i + 1) = M at *
  generalize xs.length = L at *
  have HR := Lib.hid (And.intro hrow3 (And.intro ht2 ht3))
  clear hrow hrow3 ht2 ht3 h hr hf hi hK
  go_enter Try.func21, Try.ntmps21
  go_upto_region 5 with fail
  clear h3 hne
  refine wp_region_plan (fun _ => True) [([0, 1, 2, 3, 4, 5], 6)] [7] (by kernel_rfl) (by kernel_rfl) (fun _ _ d _ _ h => by cases d <;> exact h) trivial ?_
  refine plan_eff ?_
  refine seg_read ?v1 (by rfl) (by rfl) ?h1 ?_
  case h1 => intro W _; go_simp; with_reducible rfl
  try simp only [Act.put, List.setIfInBounds_toArray, List.set_cons_zero, List.set_cons_succ]
  refine seg_read ?v2 (by rfl) (by rfl) ?h2 ?_
  case h2 => intro W _; go_simp; with_reducible rfl
  try simp only [Act.put, List.setIfInBounds_toArray, List.set_cons_zero, List.set_cons_succ]
  refine seg_read (.slice AG i c) (by rfl) (by rfl) (fun W _ => exec_slice_h Try.underlying55 (by rfl) (by rfl) (by rfl) (hto W)) ?_
  try simp only [Act.put, List.setIfInBounds_toArray, List.set_cons_zero, List.set_cons_succ]
  refine seg_read ?v3 (by rfl) (by rfl) ?h3 ?_
  case h3 => intro W _; go_simp; with_reducible rfl
  try simp only [Act.put, List.setIfInBounds_toArray, List.set_cons_zero, List.set_cons_succ]
  refine seg_read ?v4 (by rfl) (by rfl) ?h4 ?_
  case h4 => intro W _; go_simp; with_reducible rfl
  try simp only [Act.put, List.setIfInBounds_toArray, List.set_cons_zero, List.set_cons_succ]
  refine seg_read (.slice AF M (c - (i + 1))) (by rfl) (by rfl) (fun W _ => exec_slice_l Try.underlying55 (by rfl) (by rfl) (by rfl) (hfrom W)) ?_
  try simp only [Act.put, List.setIfInBounds_toArray, List.set_cons_zero, List.set_cons_succ]
  refine seg_nil ?_
  refine eff_app (by rfl) (by rfl) (.tmp 22) (.tmp 25) 55 (by rfl) (by rfl) (by rfl) hj ?_
  refine ⟨fun _ => True, trivial, fun _ h => h, ?_⟩
  try simp only [Act.put, List.setIfInBounds_toArray, List.set_cons_zero, List.set_cons_succ]
  refine plan_last ?_
  refine seg_read ?v5 (by rfl) (by rfl) ?h5 ?_
  case h5 => intro W _; go_simp; with_reducible rfl
  try simp only [Act.put, List.setIfInBounds_toArray, List.set_cons_zero]
  refine seg_nil ?_
  clear hj hto hfrom
  go_wp2_with (simp only [hcl])
  go_ret
  exact ⟨rfl, HR.out.1, ((Turned.refl (fun b => b = g) w).drew.trans HR.out.2.1 fun _ _ h => h).trans HR.out.2.2 fun _ _ h => h⟩
end Go.Proofs.Ytogfblfekedefaa
