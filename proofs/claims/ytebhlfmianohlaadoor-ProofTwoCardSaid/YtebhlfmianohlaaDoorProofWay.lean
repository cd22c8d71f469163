/-
  proof.beside: the places beside the way up, and its iterator's promise.
-/
import Derived.Test.YtebhlfmianohlaaDoorProofParts
import Derived.Test.YtebhlfmianohlaaDoorIter
import Derived.Shelf.Abstract
import Derived.Shelf.RegionOpen
import Derived.WalkKit
import Derived.OwnWalkIn
import Derived.TacticsInMore
import Derived.LoopNIn
import Derived.LoopIn
namespace Go.Proofs.YtebhlfmianohlaaDoor
open Go.RowKit Go.Shelf
attribute [local go_sem] Oper.semAt_some

def nx (a : Nat) : Nat := if a % 2 = 1 then a - 1 else a + 1
theorem nx_eq (a : Nat) : a ^^^ 1 = nx a := by
  have h1 : (a ^^^ 1) / 2 = a / 2 := by rw [Nat.xor_div_two]; simp
  have h2 : (a ^^^ 1) % 2 = (a + 1) % 2 := by
    have h3 := Nat.xor_mod_two_pow (a := a) (b := 1) (n := 1)
    simp only [Nat.pow_one] at h3
    rcases Nat.mod_two_eq_zero_or_one a with h | h
    · rw [h] at h3
      rw [h3]
      simp
      omega
    · rw [h] at h3
      rw [h3]
      simp
      omega
  unfold nx
  split <;> omega
theorem i64_xor1 (a : Nat) (ha : a < 9223372036854775807) : bits .xor .i64 (a : Int) 1 = (nx a : Int) := by
  have hx : (nx a : Int) ≤ 9223372036854775807 := by
    unfold nx
    split <;> omega
  show IntKind.i64.wrap ((BitVec.ofInt 64 (a : Int) ^^^ BitVec.ofInt 64 1).toNat : Int) = _
  have e1 : (BitVec.ofInt 64 (a : Int)).toNat = a := by rw [BitVec.ofInt_natCast, BitVec.toNat_ofNat]; omega
  have e2 : (BitVec.ofInt 64 1).toNat = 1 := rfl
  rw [BitVec.toNat_xor, e1, e2, nx_eq]
  exact IntWalk.i64_in _ (by omega)
/-- The row and the place of each digest beside the way up from place a of m. -/
def bes (m h a : Nat) : List (Nat × Nat) := if 1 < m then (if nx a < m then [(h, nx a)] else []) ++ bes ((m + 1) / 2) (h + 1) (a / 2) else []
termination_by m
theorem bes_more {m : Nat} (hm : 1 < m) (h a : Nat) : bes m h a = (if nx a < m then [(h, nx a)] else []) ++ bes ((m + 1) / 2) (h + 1) (a / 2) := by
  conv => lhs; unfold bes
  rw [if_pos hm]
theorem bes_one {m : Nat} (hm : ¬ 1 < m) (h a : Nat) : bes m h a = [] := by
  unfold bes
  rw [if_neg hm]
def besE (x : Nat × Nat) : Array Value := #[.int .i64 (x.1 : Int), .int .i64 (x.2 : Int)]
def besX (n i : Nat) (pre : List (Nat × Nat)) : Prop := ∃ r, pre ++ r = bes n 0 i
def besFn (p : Nat) : Value := .func (.func 42) #[] #[.pointer (some ⟨p, 0, none⟩), .pointer (some ⟨p + 1, 0, none⟩)]
set_option maxHeartbeats 2000000 in
theorem beside_any (n i : Nat) (w : World) :
    Calls Tryd.prog 23 #[.int .i64 (n : Int), .int .i64 (i : Int)] w fun e w' => e = .returned (besFn w.heap.size) ∧ w' = (w.alloc (.cells #[.int .i64 (n : Int)] 3)).alloc (.cells #[.int .i64 (i : Int)] 3) := by
  have hmf : ∀ (fn : Fn) (first cap : Array Value) (w : World), (Instr.makeFunc fn first cap).run Tryd.prog w = .ok (.func fn first cap) w := fun _ _ _ _ => rfl
  go_enter Tryd.func23, Tryd.ntmps23
  go_wp2_with fail
  go_ret
  exact ⟨rfl, rfl⟩

set_option maxHeartbeats 4000000 in
set_option maxRecDepth 100000 in
theorem beside1_any (n i : Nat) (hn : n < 9223372036854775808) (hi : i < n) (p : Nat) (l : Nat) (J Jx : (Nat → Prop) → List (Nat × Nat) → World → Prop) (B : Nat) (W : World) (hJ : Still B J)
    (h1 : W.heap[p]? = some (.cells #[.int .i64 (n : Int)] 3 (0, 0))) (h2 : W.heap[p + 1]? = some (.cells #[.int .i64 (i : Int)] 3 (0, 0)))
    (hY : ∀ pre x W1, J (fun _ => False) pre W1 → besX n i (pre ++ [x]) → YieldAt Fence.wide 2 Tryd.prog l (besE x) W1 fun e W' => (e = .returned (.bool true) ∧ J (fun _ => False) (pre ++ [x]) W') ∨ (e = .returned (.bool false) ∧ Jx (fun _ => False) (pre ++ [x]) W' ∧ besX n i (pre ++ [x])))
    (h0 : J (fun _ => False) [] W) :
    CallsIn Fence.wide 3 Tryd.prog 42 #[.func (.yield l) #[] #[], .pointer (some ⟨p, 0, none⟩), .pointer (some ⟨p + 1, 0, none⟩)] W fun e W' => (∃ v, e = .returned v) ∧ ((J (fun _ => False) (bes n 0 i) W') ∨ (∃ pre, besX n i pre ∧ Jx (fun _ => False) pre W')) := by
  have HY := Lib.hid hY
  have HJ := Lib.hid hJ
  have HN := Lib.hid (And.intro hn hi)
  have H0 := Lib.hid h0
  have hc1 := cell_of_cells h1 0
  have hc2 := cell_of_cells h2 0
  simp only [List.getElem?_toArray, List.getElem?_cons_zero] at hc1 hc2
  clear hY hJ hn hi h0 h1 h2
  refine callsIn_of_wp Tryd.func42 rfl trivial ?_ rfl
  simp only [Tryd.ntmps42, List.size_toArray, List.length_cons, List.length_nil, Nat.reduceAdd, Nat.reduceSub, Array.replicate_succ, Array.replicate_zero, List.push_toArray, List.append_toArray, List.nil_append, List.cons_append]
  gi_wp2
  gi_region
  gi_wp2
  have H0d : Hid (J (fun _ => False) [] W.drew) := Lib.hid (HJ.out _ _ _ _ _ (Bounds.none_ _ _) H0.out ⟨rfl, rfl, rfl, Nat.le_refl _, fun _ _ _ _ => rfl⟩ (fun _ h => .inl h))
  clear H0 hc1 hc2
  generalize W.drew = W0 at *
  gi_loopw [4, 5, 6] (fun h m a wr => ∃ (hh mm aa : Nat) (pre : List (Nat × Nat)), h = .int .i64 (hh : Int) ∧ m = .int .i64 (mm : Int) ∧ a = .int .i64 (aa : Int) ∧ aa < mm ∧ hh + mm ≤ n ∧ pre ++ bes mm hh aa = bes n 0 i ∧ J (fun _ => False) pre wr) (fun _ m _ _ => (intOf m).toNat)
  case atStart => exact ⟨0, n, i, [], rfl, rfl, rfl, HN.out.2, by omega, by simp, H0d.out⟩
  case round =>
    obtain ⟨hh, mm, aa, pre, rfl, rfl, rfl, ham, hhm, hpre, hj⟩ := hrel
    have HP := Lib.hid hpre
    have HJP := Lib.hid hj
    have HB := Lib.hid (And.intro ham hhm)
    clear hpre hj H0d
    by_cases hlt : 1 < mm
    · have hx1 := i64_xor1 aa (by have := HN.out.1; omega)
      have HM := Lib.hid (bes_more hlt hh aa)
      have hha := half_any mm (by have := HN.out.1; omega)
      have hlt' : (1 : Int) < (mm : Int) := by omega
      by_cases hb : nx aa < mm
      · have hb' : (nx aa : Int) < (mm : Int) := by omega
        obtain ⟨fn, tmps, assign, body, hy, hR⟩ := HY.out pre (hh, nx aa) wr HJP.out ⟨bes ((mm + 1) / 2) (hh + 1) (aa / 2), by rw [← HP.out, HM.out, if_pos hb]; simp⟩
        have HR := Lib.hid hR
        have HPX : Hid ((pre ++ [(hh, nx aa)]) ++ bes ((mm + 1) / 2) (hh + 1) (aa / 2) = bes n 0 i) := Lib.hid (by rw [← HP.out, HM.out, if_pos hb]; simp)
        simp only [besE] at hy
        clear hR HM
        gi_wp2
        refine HR.out.mono ?_
        rintro e W3 (⟨rfl, hJ3⟩ | ⟨rfl, hJx3⟩)
        · have H3 := Lib.hid hJ3
          have hw1 := IntWalk.i64_in ((hh : Int) + 1) (by have := HN.out.1; omega)
          clear hJ3 HR hy hx1
          gi_wp2_with (refine ⟨trivial, ?_⟩; gi_at_call 43; refine (callsIn_wide.2 (hha _)).mono ?_; rintro _ _ ⟨rfl, rfl⟩)
          go_roundw
          case rel => exact ⟨hh + 1, (mm + 1) / 2, aa / 2, pre ++ [(hh, nx aa)], by go_num, rfl, by rw [IntWalk.wrap64_in _ (by have := HN.out.1; omega)]; rfl, by omega, by omega, HPX.out, H3.out⟩
          case measure => simp [intOf]; omega
        · gi_wp2
          refine bodyPost_ret (results_none rfl _ _ _) rfl ?_
          exact ⟨⟨_, rfl⟩, .inr ⟨_, hJx3.2, hJx3.1⟩⟩
      · have hb' : ¬ (nx aa : Int) < (mm : Int) := by omega
        have HPX : Hid (pre ++ bes ((mm + 1) / 2) (hh + 1) (aa / 2) = bes n 0 i) := Lib.hid (by rw [← HP.out, HM.out, if_neg hb]; simp)
        have hw1 := IntWalk.i64_in ((hh : Int) + 1) (by have := HN.out.1; omega)
        clear HM
        gi_wp2
        refine ⟨fun _ h => (by cases h), ?_⟩
        gi_wp2_with (refine ⟨trivial, ?_⟩; gi_at_call 43; refine (callsIn_wide.2 (hha _)).mono ?_; rintro _ _ ⟨rfl, rfl⟩)
        go_roundw
        case rel => exact ⟨hh + 1, (mm + 1) / 2, aa / 2, pre, by go_num, rfl, by rw [IntWalk.wrap64_in _ (by have := HN.out.1; omega)]; rfl, by omega, by omega, HPX.out, HJP.out⟩
        case measure => simp [intOf]; omega
    · have HE : Hid (pre = bes n 0 i) := Lib.hid (by rw [← HP.out, bes_one hlt]; simp)
      have hlt' : ¬ (1 : Int) < (mm : Int) := by omega
      gi_wp2
      go_end0
      exact ⟨⟨_, rfl⟩, .inl (by rw [← HE.out]; exact HJP.out)⟩

/-- ITS PROMISE. -/
theorem beside_iter (n i : Nat) (hn : n < 9223372036854775808) (hi : i < n) (p : Nat) (w : World) (h1 : w.heap[p]? = some (.cells #[.int .i64 (n : Int)] 3 (0, 0))) (h2 : w.heap[p + 1]? = some (.cells #[.int .i64 (i : Int)] 3 (0, 0))) :
    Iter Tryd.prog 42 #[.pointer (some ⟨p, 0, none⟩), .pointer (some ⟨p + 1, 0, none⟩)] besE (fun _ => False) (fun _ pre _ => besX n i pre) (fun xs => xs = bes n 0 i) w := by
  refine ⟨fun _ _ _ _ h _ => h, fun l J Jx W hW hJ hJx hY h0 => ?_⟩
  have h1' := (hW.block _ (lt_of_cells h1)).trans h1
  have h2' := (hW.block _ (lt_of_cells h2)).trans h2
  refine callsIn_wide.1 ((beside1_any n i hn hi p l J Jx W.heap.size W hJ h1' h2' (fun pre x W1 hj hx => ?_) h0).mono ?_)
  · obtain ⟨fn, tmps, assign, body, hy, hR⟩ := hY (fun _ => False) pre x W1 (Bounds.none_ _ _) hj hx
    refine ⟨fn, tmps, assign, body, hy, RoundIn.wide (hR.mono ?_)⟩
    rintro e W' (⟨rfl, hj', _⟩ | ⟨rfl, hj', _⟩)
    · exact .inl ⟨rfl, hj'⟩
    · exact .inr ⟨rfl, hj', hx⟩
  · rintro e W' ⟨hv, hj | ⟨pre, hx, hj⟩⟩
    · exact ⟨hv, fun _ => False, Bounds.none_ _ _, .inl ⟨_, rfl, ⟨[], by simp⟩, hj⟩⟩
    · exact ⟨hv, fun _ => False, Bounds.none_ _ _, .inr ⟨pre, hx, hj⟩⟩
end Go.Proofs.YtebhlfmianohlaaDoor
