/-
  proof.rows: the rows of digests, from that of the leaves up, and its iterator's promise.
-/
import Derived.Test.YtebhlfmianohlaaDoorProofRows
import Derived.Test.YtebhlfmianohlaaDoorProofWay
namespace Go.Proofs.YtebhlfmianohlaaDoor
open Go.RowKit Go.Shelf
attribute [local go_sem] Oper.semAt_some

/-- All rows, from the lowest up. -/
def rowsOf (l : List (List UInt8)) : List (List (List UInt8)) := if 1 < l.length then l :: rowsOf (aboveL l) else [l]
termination_by l.length
decreasing_by rw [aboveL_length]; omega
theorem rowsOf_more {l : List (List UInt8)} (h : 1 < l.length) : rowsOf l = l :: rowsOf (aboveL l) := by rw [rowsOf, if_pos h]
theorem rowsOf_one {l : List (List UInt8)} (h : ¬ 1 < l.length) : rowsOf l = [l] := by rw [rowsOf, if_neg h]
theorem rowsOf_short : ∀ (l : List (List UInt8)), (rowsOf l).length ≤ l.length + 1 := by
  refine rows_rec (fun l h => ?_) (fun l h ih => ?_)
  · rw [rowsOf_one h]; simp
  · rw [aboveL_length] at ih
    rw [rowsOf_more h, List.length_cons]
    omega
abbrev SlV := Option Addr × Nat × Nat
def slE (x : SlV) : Array Value := #[.slice x.1 x.2.1 x.2.2]
def tabK (b : Nat) : Prop := b = 0 ∨ b = 1
theorem Tab.kept {B : Nat} {D K : Nat → Prop} {W W' : World} (h : Tab W) (hk : Kept B D K W W') (hK : ∀ b, tabK b → K b) : Tab W' := h.turned hk.turned (fun h => h (.inr (hK _ (.inl rfl)))) (fun h => h (.inr (hK _ (.inr rfl))))
def rowsX (R : List (List (List UInt8))) (D : Nat → Prop) (pre : List SlV) (W : World) : Prop := pre.length ≤ R.length ∧ ∀ (k : Nat) (x : SlV), pre[k]? = some x → Ids W D x.1 x.2.1 x.2.2 (R[k]?.getD []) ∧ 0 < x.2.1
section
variable {R : List (List (List UInt8))} {D D' K : Nat → Prop} {pre : List SlV} {W W' : World}
theorem rowsX_kept (h : rowsX R D pre W) (ht : Turned (fun b => ¬ (D b ∨ K b)) W W') : rowsX R D pre W' := ⟨h.1, fun k x hx => ⟨(h.2 k x hx).1.turned ht fun _ _ hd hn => hn (.inl hd), (h.2 k x hx).2⟩⟩
theorem rowsX_grow (h : rowsX R D pre W) (hb : Below W.heap.size W W') (hD : ∀ b, D b → D' b) : rowsX R D' pre W' := ⟨h.1, fun k x hx => ⟨((h.2 k x hx).1.mono fun b _ hb => hD b hb).below hb, (h.2 k x hx).2⟩⟩
theorem rowsX_snoc (h : rowsX R D pre W) {x : SlV} (hl : pre.length < R.length) (hx : Ids W D x.1 x.2.1 x.2.2 (R[pre.length]?.getD [])) (h0 : 0 < x.2.1) : rowsX R D (pre ++ [x]) W := by
  refine ⟨by rw [List.length_append]; simp; omega, fun k y hy => ?_⟩
  rcases Nat.lt_trichotomy k pre.length with hk | hk | hk
  · rw [List.getElem?_append_left hk] at hy
    exact h.2 k y hy
  · subst hk
    simp at hy
    subst hy
    exact ⟨hx, h0⟩
  · rw [List.getElem?_eq_none (by rw [List.length_append]; simp; omega)] at hy
    cases hy
end
def lenV : Value → Nat | .slice _ n _ => n | _ => 0
def rowsFn (p : Nat) : Value := .func (.func 39) #[] #[.pointer (some ⟨p, 0, none⟩)]
set_option maxHeartbeats 2000000 in
theorem prows_any (A : Option Addr) (n c : Nat) (w : World) :
    Calls Tryd.prog 22 #[.slice A n c] w fun e w' => e = .returned (rowsFn w.heap.size) ∧ w' = w.alloc (.cells #[.slice A n c] 22) := by
  have hmf : ∀ (fn : Fn) (first cap : Array Value) (w : World), (Instr.makeFunc fn first cap).run Tryd.prog w = .ok (.func fn first cap) w := fun _ _ _ _ => rfl
  go_enter Tryd.func22, Tryd.ntmps22
  go_wp2_with fail
  go_ret
  exact ⟨rfl, rfl⟩
structure RwS (B : Nat) (J : (Nat → Prop) → List SlV → World → Prop) (R : List (List (List UInt8))) (A : Option Addr) (n c : Nat) (l : List (List UInt8)) (D : Nat → Prop) (pre : List SlV) (W : World) : Prop where
  ids : Ids W D A n c l
  pos : 0 < n
  le : n ≤ 1000000
  bnd : Bounds B D W
  j : J D pre W
  x : rowsX R D pre W
  rest : R.drop pre.length = rowsOf l
  tab : Tab W
theorem drop_head {α : Type} {R r : List α} {k : Nat} {a : α} (h : R.drop k = a :: r) : k < R.length ∧ R[k]? = some a ∧ R.drop (k + 1) = r := by
  have hk : k < R.length := by
    rcases Nat.lt_or_ge k R.length with h1 | h1
    · exact h1
    · rw [List.drop_eq_nil_of_le h1] at h
      cases h
  rw [List.drop_eq_getElem_cons hk] at h
  injection h with h1 h2
  exact ⟨hk, by rw [List.getElem?_eq_getElem hk, h1], h2⟩
theorem RwS.next {B : Nat} {J : (Nat → Prop) → List SlV → World → Prop} {R : List (List (List UInt8))} {A : Option Addr} {n c : Nat} {l : List (List UInt8)} {D : Nat → Prop} {pre : List SlV} {W : World} (h : RwS B J R A n c l D pre W) : rowsX R D (pre ++ [(A, n, c)]) W := by
  have hr := h.rest
  have : ∃ r, rowsOf l = l :: r := by
    by_cases hl : 1 < l.length
    · exact ⟨_, rowsOf_more hl⟩
    · exact ⟨_, rowsOf_one hl⟩
  obtain ⟨r, e⟩ := this
  rw [e] at hr
  obtain ⟨h1, h2, _⟩ := drop_head hr
  exact rowsX_snoc h.x h1 (by rw [h2]; exact h.ids) h.pos

set_option maxHeartbeats 4000000 in
set_option maxRecDepth 100000 in
theorem rows1_any {S : Nat → Prop} {A : Option Addr} {n c : Nat} {b : List UInt8} {W : World} (h : Byt W S A n c b) (hn : n ≤ 1000000) (ht : Tab W) (p : Nat) (l : Nat) (J Jx : (Nat → Prop) → List SlV → World → Prop) (hJ : Still W.heap.size J)
    (h1 : W.heap[p]? = some (.cells #[.slice A n c] 22 (0, 0)))
    (hY : ∀ D pre x W1, Bounds W.heap.size D W1 → J D pre W1 → rowsX (rowsOf (digs b)) D (pre ++ [x]) W1 → YieldAt Fence.wide 2 Tryd.prog l (slE x) W1 fun e W' =>
      (e = .returned (.bool true) ∧ J D (pre ++ [x]) W' ∧ Kept W.heap.size D tabK W1 W') ∨ (e = .returned (.bool false) ∧ Jx D (pre ++ [x]) W' ∧ Kept W.heap.size D tabK W1 W'))
    (h0 : J (fun _ => False) [] W) :
    CallsIn Fence.wide 3 Tryd.prog 39 #[.func (.yield l) #[] #[], .pointer (some ⟨p, 0, none⟩)] W fun e W' => (∃ v, e = .returned v) ∧ ∃ D, Bounds W.heap.size D W' ∧
      ((∃ xs : List SlV, xs.length = (rowsOf (digs b)).length ∧ rowsX (rowsOf (digs b)) D xs W' ∧ J D xs W') ∨ (∃ pre, rowsX (rowsOf (digs b)) D pre W' ∧ Jx D pre W')) := by
  have HY := Lib.hid hY
  have HJ := Lib.hid hJ
  have hc1 := cell_of_cells h1 0
  simp only [List.getElem?_toArray, List.getElem?_cons_zero] at hc1
  have hlo := lowest_any h hn ht
  have hlv := leaves_at b
  rw [h.len] at hlv
  have hN6 : (splitL b).length ≤ 1000000 := by split at hlv <;> omega
  have HH := Lib.hid (And.intro ht (And.intro h0 (And.intro (splitL_pos b) hN6)))
  clear hY hJ h1 h ht h0 hlv hN6
  refine callsIn_of_wp Tryd.func39 rfl trivial ?_ rfl
  simp only [Tryd.ntmps39, List.size_toArray, List.length_cons, List.length_nil, Nat.reduceAdd, Nat.reduceSub, Array.replicate_succ, Array.replicate_zero, List.push_toArray, List.append_toArray, List.nil_append, List.cons_append]
  gi_wp2_with (refine ⟨trivial, ?_⟩; gi_at_call 40; refine (callsIn_wide.2 hlo).mono ?_; clear hlo; rintro _ w1 ⟨g1, rfl, hg1, hbk, hb1⟩)
  have H1 : Hid (∃ D pre, RwS W.heap.size J (rowsOf (digs b)) (some ⟨g1, 0, none⟩) (splitL b).length (splitL b).length (digs b) D pre w1) := Lib.hid ⟨fun x => W.heap.size ≤ x ∧ x < w1.heap.size, [],
    ⟨hbk.ids ⟨hg1, hbk.lt⟩ _ (digs_length b) HH.out.2.2.2, HH.out.2.2.1, HH.out.2.2.2, fun _ h => h, HJ.out _ _ _ _ _ (Bounds.none_ _ _) HH.out.2.1 (Steps.of_below hb1) (fun x hx => .inr hx), ⟨by simp, fun k x hx => by simp at hx⟩, by simp, HH.out.1.below hb1⟩⟩
  clear hg1 hbk hb1 hc1
  gi_loopw [3] (fun v wr => ∃ A n c l D pre, v = .slice A n c ∧ RwS W.heap.size J (rowsOf (digs b)) A n c l D pre wr) (fun v _ => lenV v)
  case atStart =>
    obtain ⟨D, pre, h⟩ := H1.out
    exact ⟨_, _, _, _, D, pre, rfl, h⟩
  case round =>
    obtain ⟨A1, n1, c1, l1, D, pre, rfl, hs⟩ := hrel
    have HS := Lib.hid hs
    have hlen := hs.ids.len
    obtain ⟨fn, tmps, assign, body, hy, hR⟩ := HY.out D pre (A1, n1, c1) wr hs.bnd hs.j hs.next
    have HR := Lib.hid hR
    simp only [slE] at hy
    clear hR hs H1
    by_cases hlt : 1 < n1
    · have hlt' : (1 : Int) < (n1 : Int) := by omega
      have hmo := rowsOf_more (l := l1) (by omega)
      have HMO := Lib.hid hmo
      clear hmo
      gi_wp2
      refine HR.out.mono ?_
      rintro e W3 (⟨rfl, hJ3, hk3⟩ | ⟨rfl, hJx3, hk3⟩)
      · have hids3 := HS.out.ids.turned hk3.turned (fun _ _ hd hn => hn (.inl hd))
        have htab3 := HS.out.tab.kept hk3 (fun _ h => h)
        have hab := above_any hids3 HS.out.pos HS.out.le htab3
        have hX3 := rowsX_kept HS.out.next hk3.turned
        have H3 := Lib.hid (And.intro hJ3 (And.intro hk3 (And.intro htab3 hX3)))
        clear hJ3 hk3 hids3 htab3 hX3 hy HR
        gi_wp2_with (refine ⟨trivial, ?_⟩; gi_at_call 41; refine (callsIn_wide.2 hab).mono ?_; clear hab; rintro _ w5 ⟨g5, rfl, hg5, hbk5, hb5⟩)
        have H5 : Hid (RwS W.heap.size J (rowsOf (digs b)) (some ⟨g5, 0, none⟩) ((n1 + 1) / 2) ((n1 + 1) / 2) (aboveL l1) (fun x => D x ∨ (W3.heap.size ≤ x ∧ x < w5.heap.size)) (pre ++ [(A1, n1, c1)]) w5) := Lib.hid (by
          have hB3 := HS.out.bnd.grow H3.out.2.1.turned.size
          have hle : W.heap.size ≤ W3.heap.size := by
            by_cases hd : ∃ x, D x
            · obtain ⟨x, hx⟩ := hd
              have := hB3 x hx
              omega
            · obtain ⟨b', off, _, hS, _⟩ := HS.out.ids.row HS.out.pos
              exact absurd ⟨b', hS⟩ hd
          have hr := HS.out.rest
          rw [HMO.out] at hr
          refine ⟨hbk5.ids (.inr ⟨hg5, hbk5.lt⟩) _ (by rw [aboveL_length, HS.out.ids.len]) (by have := HS.out.le; omega), by have := HS.out.pos; omega, by have := HS.out.le; omega, ?_, ?_, rowsX_grow H3.out.2.2.2 hb5 (fun _ h => .inl h), ?_, H3.out.2.2.1.below hb5⟩
          · rintro x (hx | hx)
            · exact (hB3.grow hb5.size) x hx
            · exact ⟨by omega, hx.2⟩
          · exact HJ.out _ _ _ _ _ hB3 H3.out.1 (Steps.of_below hb5) (fun x hx => hx)
          · rw [List.length_append]
            exact (drop_head hr).2.2)
        clear H3 hg5 hbk5 hb5
        gi_wp2
        go_roundw
        case rel => exact ⟨_, _, _, _, _, _, rfl, H5.out⟩
        case measure => simp [lenV]; omega
      · have HX : Hid ((∃ v, Ending.returned v = Ending.returned v) ∧ ∃ D, Bounds W.heap.size D W3 ∧ ∃ pre, rowsX (rowsOf (digs b)) D pre W3 ∧ Jx D pre W3) := Lib.hid ⟨⟨undef, rfl⟩, D, HS.out.bnd.grow hk3.turned.size, _, rowsX_kept HS.out.next hk3.turned, hJx3⟩
        clear hJx3 hk3 hy HR
        gi_wp2
        refine bodyPost_ret (results_none rfl _ _ _) rfl ?_
        obtain ⟨_, D, hB, hx⟩ := HX.out
        exact ⟨⟨_, rfl⟩, D, hB, .inr hx⟩
    · have hlt' : ¬ (1 : Int) < (n1 : Int) := by omega
      have HMO := Lib.hid (rowsOf_one (l := l1) (by omega))
      gi_wp2
      refine HR.out.mono ?_
      rintro e W3 (⟨rfl, hJ3, hk3⟩ | ⟨rfl, hJx3, hk3⟩)
      · have HX : Hid (∃ D, Bounds W.heap.size D W3 ∧ ∃ xs : List SlV, xs.length = (rowsOf (digs b)).length ∧ rowsX (rowsOf (digs b)) D xs W3 ∧ J D xs W3) := Lib.hid ⟨D, HS.out.bnd.grow hk3.turned.size, _, by
          have hr := HS.out.rest
          rw [HMO.out] at hr
          have h1 := congrArg List.length hr
          have h2 := (drop_head hr).1
          simp at h1 ⊢
          omega, rowsX_kept HS.out.next hk3.turned, hJ3⟩
        clear hJ3 hk3 hy HR
        gi_wp2
        go_end0
        obtain ⟨D, hB, hx⟩ := HX.out
        exact ⟨⟨_, rfl⟩, D, hB, .inl hx⟩
      · have HX : Hid (∃ D, Bounds W.heap.size D W3 ∧ ∃ pre, rowsX (rowsOf (digs b)) D pre W3 ∧ Jx D pre W3) := Lib.hid ⟨D, HS.out.bnd.grow hk3.turned.size, _, rowsX_kept HS.out.next hk3.turned, hJx3⟩
        clear hJx3 hk3 hy HR
        gi_wp2
        go_end0
        obtain ⟨D, hB, hx⟩ := HX.out
        exact ⟨⟨_, rfl⟩, D, hB, .inr hx⟩

/-- ITS PROMISE. -/
theorem rows_iter {S : Nat → Prop} {A : Option Addr} {n c : Nat} {b : List UInt8} {w : World} (h : Byt w S A n c b) (hn : n ≤ 1000000) (ht : Tab w) (p : Nat) (h1 : w.heap[p]? = some (.cells #[.slice A n c] 22 (0, 0))) :
    Iter Tryd.prog 39 #[.pointer (some ⟨p, 0, none⟩)] slE tabK (rowsX (rowsOf (digs b))) (fun xs => xs.length = (rowsOf (digs b)).length) w := by
  refine ⟨fun _ _ _ _ h ht => rowsX_kept h ht, fun l J Jx W hW hJ hJx hY h0 => ?_⟩
  have h1' := (hW.block _ (lt_of_cells h1)).trans h1
  refine callsIn_wide.1 ((rows1_any (h.below hW) hn (ht.below hW) p l J Jx hJ h1' (fun D pre x W1 hB hj hx => ?_) h0).mono ?_)
  · obtain ⟨fn, tmps, assign, body, hy, hR⟩ := hY D pre x W1 hB hj hx
    exact ⟨fn, tmps, assign, body, hy, RoundIn.wide hR⟩
  · rintro e W' ⟨hv, D, hB, hh⟩
    exact ⟨hv, D, hB, hh⟩
end Go.Proofs.YtebhlfmianohlaaDoor
