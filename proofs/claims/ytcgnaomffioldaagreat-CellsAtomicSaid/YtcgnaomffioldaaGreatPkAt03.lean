/-
  The law of drawn regions (Grow) where the last two operations stand behind all others: a call, and what keeps its result.
  Cells: the laws' modelOf.
  Cells: the reference's Do, pure; slices of the model's changes.
-/
import Derived.Test.YtcgnaomffioldaaGreatPk14
import Derived.Test.YtcgnaomffioldaaGreatPkAt01
import Derived.Test.YtcgnaomffioldaaGreatPk01
/-! The law of drawn regions (Grow) where the last two operations stand behind all others: a call, and what keeps its result. -/
namespace Go.Proofs.YtcgnaomffioldaaGreat
open Go.RowKit
namespace Grow
/-- Each but the last two is waited for by a later one that is not the last; the last one waits for that ahead of it. -/
def pairB (ops : Array Oper) : Bool := ((List.range (ops.size - 2)).all fun j => (List.range (ops.size - 1)).any fun k => decide (j < k) && waitsB ops k j) && waitsB ops (ops.size - 1) (ops.size - 2)
theorem pairB_spec {ops : Array Oper} (h : pairB ops = true) : (∀ j, j < ops.size - 2 → ∃ k, j < k ∧ k < ops.size - 1 ∧ waitsB ops k j = true) ∧ waitsB ops (ops.size - 1) (ops.size - 2) = true := by
  unfold pairB at h
  rw [Bool.and_eq_true] at h
  refine ⟨fun j hj => ?_, h.2⟩
  obtain ⟨k, hk, hkb⟩ := List.any_eq_true.1 (List.all_eq_true.1 h.1 j (List.mem_range.2 hj))
  simp only [Bool.and_eq_true, decide_eq_true_eq] at hkb
  exact ⟨k, hkb.1, List.mem_range.1 hk, hkb.2⟩
theorem waitsB_spec {ops : Array Oper} {k j : Nat} {o : Oper} (h : waitsB ops k j = true) (ho : ops[k]? = some o) : ∃ e ∈ o.after, Region.binds .any e = true ∧ e.on = j := by
  unfold waitsB at h
  rw [ho] at h
  obtain ⟨e, he, hb⟩ := Array.any_eq_true'.1 h
  simp only [Bool.and_eq_true, beq_iff_eq] at hb
  exact ⟨e, he, hb.1, hb.2⟩
section
variable {P : Program} {ops : Array Oper} {Q : Exit → Act → World → Prop} {G : World → World → Prop} {Φ : Nat → Value → World → Prop} {a0 : Act} {w0 : World} {F : Fence} {nr : Nat}
theorem any_of_invP (hF : Open F nr P) {n : Nat} (hnd : noDefer ops = true) (hB : growB ops n = true) (hL : pairB ops = true) (hn : a0.tmps.size = n) (htr : ∀ A B C, G A B → G B C → G A C) (hmono : ∀ j v W W', Φ j v W → G W W' → Φ j v W') (hrefl : ∀ W, G W W)
    {front : List Oper} {oy oz : Oper} (hsp : ops.toList = front ++ [oy, oz]) (hgy : oy.guard = none) (hgz : oz.guard = none)
    (hs : ∀ i, i < front.length → GStep P ops G Φ a0 w0 i) (hfin : ∀ W, G w0 W → fin Φ (fun _ a w => oy.wpIn F nr P a w (fun a' w' => oz.wpIn F nr P a' w' (fun a'' w'' => Q .normal a'' w'') Q) Q) W front 0 a0) :
    ∀ (fuel : Nat) (listed : Array Bool) (a : Act) (w : World), Inv ops G Φ a0 w0 listed a w → listed.getD front.length true = false → listed.toList.count false ≤ fuel → wpAnyIn F nr P .any ops Q fuel listed a w := by
  have hsz : ops.size = front.length + 2 := by
    rw [← Array.length_toList, hsp]
    simp
  have hoy : ops[front.length]? = some oy := by
    rw [← Array.getElem?_toList, hsp]
    simp
  have hoz : ops[front.length + 1]? = some oz := by
    rw [← Array.getElem?_toList, hsp, List.getElem?_append_right (by omega)]
    simp
  obtain ⟨hL1, hL2⟩ := pairB_spec hL
  have e1 : ops.size - 1 = front.length + 1 := by omega
  have e2 : ops.size - 2 = front.length := by omega
  rw [e1, e2] at hL2
  rw [e1, e2] at hL1
  intro fuel
  induction fuel with
  | zero =>
    intro listed a w hI hz hc
    have := count_set hz
    omega
  | succ fuel ih =>
    intro listed a w hI hz hc
    refine ⟨fun hr => ?_, fun i hi => ?_⟩
    · have hall := all_of_ready hB hI.lsize hr front.length (by omega)
      obtain ⟨h1, _⟩ := getD_both' hz
      rw [hall] at h1
      cases h1
    obtain ⟨h1, o, ho, hall⟩ := mem_ready.1 hi
    have hz1 := (getD_both' hz).1
    have hlast : listed.getD (front.length + 1) false = false := by
      cases hq : listed.getD (front.length + 1) false with
      | false => rfl
      | true =>
        obtain ⟨e, he, hb, hon⟩ := waitsB_spec hL2 hoz
        have := hI.closed _ oz hoz hq e he hb
        rw [hon, hz1] at this
        cases this
    by_cases hiz : i = front.length
    · subst hiz
      have hlt : ∀ d j, j < front.length → front.length - j ≤ d → listed.getD j false = true := by
        intro d
        induction d with
        | zero => intro j hj hd; omega
        | succ d ihd =>
          intro j hj hd
          obtain ⟨k, hjk, hk, hw⟩ := hL1 j hj
          by_cases hkz : k = front.length
          · subst hkz
            obtain ⟨e, he, hb, hon⟩ := waitsB_spec hw hoy
            obtain rfl : o = oy := by rw [ho] at hoy; exact Option.some.inj hoy
            exact hon ▸ hall e he hb
          · have hkl := ihd k (by omega) (by omega)
            cases hok : ops[k]? with
            | none => unfold waitsB at hw; rw [hok] at hw; cases hw
            | some ok =>
              obtain ⟨e, he, hb, hon⟩ := waitsB_spec hw hok
              exact hon ▸ hI.closed k ok hok hkl e he hb
      have hq := front_done (Q := fun _ a w => oy.wpIn F nr P a w (fun a' w' => oz.wpIn F nr P a' w' (fun a'' w'' => Q .normal a'' w'') Q) Q) (m := front.length) hB hn hI hsp rfl (fun j hj => hlt _ j hj (Nat.le_refl _)) (fun j hj => by
        rcases Nat.lt_or_ge j ops.size with h | h
        · by_cases hj2 : j = front.length
          · subst hj2; exact hz1
          · obtain rfl : j = front.length + 1 := by omega
            exact hlast
        · rw [Array.getD_eq_getD_getElem?, Array.getElem?_eq_none (by rw [hI.lsize]; exact h)]
          rfl) (hfin w hI.grow)
      have hop : wpOpIn F nr P ops Q front.length (fun a' w' => oz.wpIn F nr P a' w' (fun a'' w'' => Q .normal a'' w'') Q) a w := by
        unfold wpOpIn
        rw [hoy]
        show if Region.wanted oy (yielded ops a.tmps) = true then _ else _
        rw [if_pos (by unfold Region.wanted; rw [hgy])]
        exact hq
      refine wpOpIn_mono ?_ hop
      intro a' w' hQ
      have hsz2 : (listed.setIfInBounds front.length true).size = ops.size := by simpa using hI.lsize
      have hz2 : (listed.setIfInBounds front.length true).getD (front.length + 1) false = false := by rw [getD_set_ne' (by omega)]; exact hlast
      cases fuel with
      | zero =>
        have h2 := count_set h1
        have h3 : (listed.setIfInBounds front.length true).getD (front.length + 1) true = false := by
          rw [Array.getD_eq_getD_getElem?, Array.getElem?_eq_getElem (by rw [hsz2]; omega)] at hz2 ⊢
          exact hz2
        have := count_set h3
        omega
      | succ fuel =>
        refine ⟨fun hr => ?_, fun k hk => ?_⟩
        · have := all_of_ready hB hsz2 hr (front.length + 1) (by omega)
          rw [hz2] at this
          cases this
        · obtain ⟨hun, ok, hok, _⟩ := mem_ready.1 hk
          obtain ⟨hun, hkl⟩ := getD_both' hun
          have hks := (Array.getElem?_eq_some_iff.1 hok).1
          have hkz : k = front.length + 1 := by
            by_cases hkf : k = front.length
            · subst hkf
              rw [getD_set_same (by rw [hI.lsize]; omega)] at hun
              cases hun
            · by_cases hkl : k < front.length
              · rw [getD_set_ne' (fun e => hkf e.symm), hlt _ k hkl (Nat.le_refl _)] at hun
                cases hun
              · omega
          subst hkz
          have hop2 : wpOpIn F nr P ops Q (front.length + 1) (fun a' w' => Q .normal a' w') a' w' := by
            unfold wpOpIn
            rw [hoz]
            show if Region.wanted oz (yielded ops a'.tmps) = true then _ else _
            rw [if_pos (by unfold Region.wanted; rw [hgz])]
            exact hQ
          refine wpOpIn_mono ?_ hop2
          intro a'' w'' hQ2
          have hr : Region.ready .any ops ((listed.setIfInBounds front.length true).setIfInBounds (front.length + 1) true) = [] := by
            rw [List.eq_nil_iff_forall_not_mem]
            intro k hk
            obtain ⟨hun, ok, hok, _⟩ := mem_ready.1 hk
            obtain ⟨hun, hkl⟩ := getD_both' hun
            have hks := (Array.getElem?_eq_some_iff.1 hok).1
            by_cases hkz : k = front.length + 1
            · subst hkz
              rw [getD_set_same (by rw [hsz2]; omega)] at hun
              cases hun
            · rw [getD_set_ne' (fun e => hkz e.symm)] at hun
              by_cases hkf : k = front.length
              · subst hkf
                rw [getD_set_same (by rw [hI.lsize]; omega)] at hun
                cases hun
              · rw [getD_set_ne' (fun e => hkf e.symm), hlt _ k (by omega) (Nat.le_refl _)] at hun
                cases hun
          cases fuel with
          | zero => exact ⟨hr, hQ2⟩
          | succ fuel => exact ⟨fun _ => hQ2, fun k hk => by rw [hr] at hk; cases hk⟩
    · have hlt : i < front.length := by
        have h5 := (Array.getElem?_eq_some_iff.1 ho).1
        by_cases h6 : i = front.length + 1
        · subst h6
          obtain ⟨e, he, hb, hon⟩ := waitsB_spec hL2 ho
          have := hall e he hb
          rw [hon, hz1] at this
          cases this
        · omega
      refine wpOpIn_mono ?_ (step_invF hF hnd hB hn htr hmono hrefl hI hi (hs i hlt))
      intro a' w' hI'
      refine ih _ a' w' hI' ?_ (by have := count_set h1; omega)
      rw [Array.getD_eq_getD_getElem?, Array.getElem?_setIfInBounds_ne hiz, ← Array.getD_eq_getD_getElem?]
      exact hz
end
end Grow
section
variable {P : Program} {ops : Array Oper} {Q : Exit → Act → World → Prop} {F : Fence} {nr id : Nat} {a : Act} {w : World}
/-- THE LAW, where the last two are walked by themselves. -/
theorem wpIn_region_growP (hF : Grow.Open F nr P) (G : World → World → Prop) (Φ : Nat → Value → World → Prop) (n : Nat) (hm : P.follows .mixedOrders = true) (hnd : Grow.noDefer ops = true)
    (hB : Grow.growB ops n = true) (hL : Grow.pairB ops = true) (hn : a.tmps.size = n) (hrefl : ∀ W, G W W) (htr : ∀ A B C, G A B → G B C → G A C) (hmono : ∀ j v W W', Φ j v W → G W W' → Φ j v W')
    (k : Nat) {oy oz : Oper} (hsz : ops.size = k + 2) (hoy : ops.toList[k]? = some oy) (hoz : ops.toList[k + 1]? = some oz) (hgy : oy.guard = none) (hgz : oz.guard = none)
    (hs : Grow.allBelow (Grow.GStep P ops G Φ a w.drew) k) (hfin : ∀ W, G w.drew W → Grow.fin Φ (fun _ a w => oy.wpIn F nr P a w (fun a' w' => oz.wpIn F nr P a' w' (fun a'' w'' => Q .normal a'' w'') Q) Q) W (ops.toList.take k) 0 a) : (Code.region id ops true).wpIn F nr P Q a w := by
  obtain ⟨hk, he⟩ := List.getElem?_eq_some_iff.1 hoy
  obtain ⟨hk2, he2⟩ := List.getElem?_eq_some_iff.1 hoz
  have hsp : ops.toList = ops.toList.take k ++ [oy, oz] := by
    apply List.ext_getElem?
    intro i
    have hl : (ops.toList.take k).length = k := by rw [List.length_take, Array.length_toList]; omega
    by_cases h1 : i < k
    · rw [List.getElem?_append_left (by omega), List.getElem?_take_of_lt h1]
    · rw [List.getElem?_append_right (by omega), hl]
      by_cases h2 : i = k
      · subst h2; rw [hoy]; simp
      · by_cases h3 : i = k + 1
        · subst h3; rw [hoz]; simp
        · rw [List.getElem?_eq_none (by rw [Array.length_toList]; omega), List.getElem?_eq_none (by simp; omega)]
  have hfl : (ops.toList.take k).length = k := by rw [List.length_take, Array.length_toList]; omega
  rw [← hfl] at hs
  exact wpIn_region_any hm (Grow.any_of_invP hF hnd hB hL hn htr hmono hrefl hsp hgy hgz (Grow.allBelow_at hs) hfin ops.size _ a _ (inv_start (hrefl _)) (by rw [hfl]; simp [hsz]) (by simp))
end
/-- The append that ends a drawn region. -/
theorem operIn_app {F : Fence} {n : Nat} {P : Program} {o : Oper} {a : Act} {K : Act → World → Prop} {Q : Exit → Act → World → Prop} {w w' : World} (s x : Operand) (t : TypeId)
    (hop : o.op = .call { callee := .builtin .append, args := #[s, x], argTypes := #[t, t] }) {v u v' : Value} (hs : a.eval s = v) (hx : a.eval x = u)
    (hrun : (Builtin.append_ #[t, t] o.type #[v, u]).run P w = .ok v' w') (h : K (a.put o.dst v') w') : o.wpIn F n P a w K Q := by
  unfold Oper.wpIn
  refine ⟨?_, ?_⟩
  · simp [Oper.about, hop, resolve, Target.leads, Sem.run_pure]
  · rw [Oper.semAt_plain F _ _ (by rw [hop]; intro c hc; cases hc)]
    unfold execOp
    simp only [hop, resolve, invoke, builtin, Sem.run_bind, Sem.run_pure, Result.andThen_ok, List.map_toArray, List.map_cons, List.map_nil, hs, hx, hrun]
    exact h
end Go.Proofs.YtcgnaomffioldaaGreat

/-! Cells: the laws' modelOf. -/
namespace Go.Proofs.YtcgnaomffioldaaGreat
open Go.RowKit Codec

def RMod (w : World) (l : List Ch) (t i : Value) (wr : World) : Prop :=
  ∃ j : Nat, j ≤ l.length ∧ i = .int .i64 (j : Int) ∧ wr.ownsRow w.heap.size 97 3 t (l.take j).length (cmCells (l.take j)) ∧ Below w.heap.size w wr
set_option maxHeartbeats 8000000 in
set_option maxRecDepth 100000 in
theorem modelof_long {w : World} {S : Nat → Prop} {A : Option Addr} {n c : Nat} {l : List Ch} (h : Chs w S A n c l) (hn : n ≤ 100000) :
    Calls Tryz.prog 13 #[.slice A n c] w fun e w' => ∃ A' c', e = .returned (.slice A' n c') ∧ Cms w' (w.heap.size ≤ ·) A' n c' l ∧ Below w.heap.size w w' := by
  have HS := Lib.hid (And.intro h (And.intro h.len hn))
  clear h hn
  go_enter Tryz.func13, Tryz.ntmps13
  go_wp2_with fail
  go_loopw [3, 4] (fun t i wr => RMod w l t i wr) (fun _ i _ => n - (intOf i).toNat)
  case atStart => exact ⟨0, Nat.zero_le _, rfl, World.ownsRow_nil _ _ _ _, Below.refl _ _⟩
  case round =>
    obtain ⟨j, hj, rfl, hown, hbel⟩ := hrel
    by_cases hlt : j < n
    · have hlt' : (j : Int) < (n : Int) := by omega
      have hadd1 := IntWalk.i64_in ((j : Int) + 1) (by have := HS.out.2.2; omega)
      obtain ⟨b, off, x, Ax, nx, cx, rfl, _, hb, hx, hcs, hy⟩ := HS.out.1.at_ hlt
      have hcell : ∀ o u, (chV Ax nx cx x)[o]? = some u → w.cell? ⟨b, off + j * 3 + o, none⟩ = some u := fun o u hu => by have := hcs o u hu; rwa [add_plain] at this
      have HC : Hid (b < wr.drew.heap.size ∧ wr.drew.cell? ⟨b, off + j * 3, none⟩ = some (.string (st x.k)) ∧ wr.drew.cell? ⟨b, off + j * 3 + 1, none⟩ = some (.slice Ax nx cx) ∧ wr.drew.cell? ⟨b, off + j * 3 + 2, none⟩ = some (.bool x.g)) := Lib.hid ⟨Nat.lt_of_lt_of_le hb hbel.size, (hbel.cell (p := ⟨_, _, none⟩) hb).trans (hcell 0 _ rfl), (hbel.cell (p := ⟨_, _, none⟩) hb).trans (hcell 1 _ rfl), (hbel.cell (p := ⟨_, _, none⟩) hb).trans (hcell 2 _ rfl)⟩
      obtain ⟨V, hV⟩ : ∃ V, V = x.v := ⟨_, rfl⟩
      have HY : Hid (Byt wr.drew S Ax nx cx V) := Lib.hid (by
        have h1 := (hy.mono (T := fun k => S k ∧ k < w.heap.size) fun k hk h => ⟨h, hk⟩).below hbel
        rw [hV]
        exact (h1.mono fun k _ h => h.1).below (below_drew (Below.refl _ _)))
      have HX := Lib.hid (And.intro hx (And.intro hV hlt))
      have HR := Lib.hid (And.intro hown hbel)
      clear hown hbel hb hx hcs hy hcell hj hlt hV
      go_upto_region 5 with fail
      refine (wpIn_wide (n := 3)).1 ?_
      refine wpIn_region_growP (Grow.open_wide _ _) (fun W W' => Below W.heap.size W W') (Grow.nth [fun v _ => v = u3, fun v _ => v = .slice (some ⟨b, off, none⟩) n c, fun v _ => v = .int .i64 (j : Int), fun v _ => v = .pointer (some ⟨b, off + j * 3, none⟩), fun v _ => v = .pointer (some ⟨b, off + j * 3, none⟩), fun v _ => v = .string (st x.k), fun v _ => v = .slice (some ⟨b, off, none⟩) n c, fun v _ => v = .int .i64 (j : Int), fun v _ => v = .pointer (some ⟨b, off + j * 3, none⟩), fun v _ => v = .pointer (some ⟨b, off + j * 3 + 1, none⟩), fun v _ => v = .slice Ax nx cx, fun v _ => v = .string (st V), fun v _ => v = .slice (some ⟨b, off, none⟩) n c, fun v _ => v = .int .i64 (j : Int), fun v _ => v = .pointer (some ⟨b, off + j * 3, none⟩), fun v _ => v = .pointer (some ⟨b, off + j * 3 + 2, none⟩), fun v _ => v = .bool x.g, fun v _ => v = .agg #[.string (st x.k), .string (st V), .bool x.g], fun v W => ∃ q2, v = .slice (some ⟨q2, 0, none⟩) 1 1 ∧ W.heap[q2]? = some (.cells #[.string (st x.k), .string (st V), .bool x.g] 97 (0, 0)) ∧ wr.heap.size ≤ q2]) 32 (by kernel_rfl) (by kernel_rfl) (by kernel_rfl) (by kernel_rfl) (by rfl) (fun W => Below.refl _ W) (fun _ _ _ h1 h2 => h1.trans (h2.mono h1.size)) (Grow.mono_nth ?gmono) 19 (by rfl) (by rfl) (by rfl) (by rfl) (by rfl) ?gsteps ?gfin
      case gmono => exact ⟨fun _ _ _ h _ => h, fun _ _ _ h _ => h, fun _ _ _ h _ => h, fun _ _ _ h _ => h, fun _ _ _ h _ => h, fun _ _ _ h _ => h, fun _ _ _ h _ => h, fun _ _ _ h _ => h, fun _ _ _ h _ => h, fun _ _ _ h _ => h, fun _ _ _ h _ => h, fun _ _ _ h _ => h, fun _ _ _ h _ => h, fun _ _ _ h _ => h, fun _ _ _ h _ => h, fun _ _ _ h _ => h, fun _ _ _ h _ => h, fun _ _ _ h _ => h, fun _ _ _ ⟨A, h1, h2, h3⟩ hg => ⟨A, h1, (hg.block A (lt_of_cells h2)).trans h2, h3⟩, trivial⟩
      case gsteps =>
        show Grow.allBelow _ 19
        refine And.intro ?_ ?s18
        refine And.intro ?_ ?s17
        refine And.intro ?_ ?s16
        refine And.intro ?_ ?s15
        refine And.intro ?_ ?s14
        refine And.intro ?_ ?s13
        refine And.intro ?_ ?s12
        refine And.intro ?_ ?s11
        refine And.intro ?_ ?s10
        refine And.intro ?_ ?s9
        refine And.intro ?_ ?s8
        refine And.intro ?_ ?s7
        refine And.intro ?_ ?s6
        refine And.intro ?_ ?s5
        refine And.intro ?_ ?s4
        refine And.intro ?_ ?s3
        refine And.intro ?_ ?s2
        refine And.intro ?_ ?s1
        refine And.intro ?_ ?s0
        exact trivial
        case s0 =>
          refine Grow.step_in (by rfl) (by rfl) ?_
          intro E W ec eg ef hG hd hu R HR1
          have e3 : E (.tmp 3) = u3 := hu 3 (by kernel_rfl)
          clear hd hu
          go_simp
          exact HR1.out _ _ (Below.refl _ _) rfl
        case s1 =>
          refine Grow.step_in (by rfl) (by rfl) ?_
          intro E W ec eg ef hG hd hu R HR1
          have e0 : E (.tmp 0) = .slice (some ⟨b, off, none⟩) n c := hu 0 (by kernel_rfl)
          clear hd hu
          go_simp
          exact HR1.out _ _ (Below.refl _ _) rfl
        case s2 =>
          refine Grow.step_in (by rfl) (by rfl) ?_
          intro E W ec eg ef hG hd hu R HR1
          have e4 : E (.tmp 4) = .int .i64 (j : Int) := hu 4 (by kernel_rfl)
          clear hd hu
          go_simp
          exact HR1.out _ _ (Below.refl _ _) rfl
        case s3 =>
          refine Grow.step_in (by rfl) (by rfl) ?_
          intro E W ec eg ef hG hd hu R HR1
          have e12 : E (.tmp 12) = .slice (some ⟨b, off, none⟩) n c := hd 1 12 (by kernel_rfl)
          have e13 : E (.tmp 13) = .int .i64 (j : Int) := hd 2 13 (by kernel_rfl)
          clear hd hu
          have hjl := HX.out.2.2
          go_simp
          first | exact HR1.out _ _ (Below.refl _ _) rfl | (rw [if_pos ⟨by omega, by omega⟩]; exact HR1.out _ _ (Below.refl _ _) rfl)
        case s4 =>
          refine Grow.step_in (by rfl) (by rfl) ?_
          intro E W ec eg ef hG hd hu R HR1
          have e14 : E (.tmp 14) = .pointer (some ⟨b, off + j * 3, none⟩) := hd 3 14 (by kernel_rfl)
          clear hd hu
          go_simp
          exact HR1.out _ _ (Below.refl _ _) rfl
        case s5 =>
          refine Grow.step_in (by rfl) (by rfl) ?_
          intro E W ec eg ef hG hd hu R HR1
          have e15 : E (.tmp 15) = .pointer (some ⟨b, off + j * 3, none⟩) := hd 4 15 (by kernel_rfl)
          clear hd hu
          have hcl := (hG.cell (p := ⟨b, off + j * 3, none⟩) HC.out.1).trans HC.out.2.1
          go_simp
          exact HR1.out _ _ (Below.refl _ _) rfl
        case s6 =>
          refine Grow.step_in (by rfl) (by rfl) ?_
          intro E W ec eg ef hG hd hu R HR1
          have e0 : E (.tmp 0) = .slice (some ⟨b, off, none⟩) n c := hu 0 (by kernel_rfl)
          clear hd hu
          go_simp
          exact HR1.out _ _ (Below.refl _ _) rfl
        case s7 =>
          refine Grow.step_in (by rfl) (by rfl) ?_
          intro E W ec eg ef hG hd hu R HR1
          have e4 : E (.tmp 4) = .int .i64 (j : Int) := hu 4 (by kernel_rfl)
          clear hd hu
          go_simp
          exact HR1.out _ _ (Below.refl _ _) rfl
        case s8 =>
          refine Grow.step_in (by rfl) (by rfl) ?_
          intro E W ec eg ef hG hd hu R HR1
          have e17 : E (.tmp 17) = .slice (some ⟨b, off, none⟩) n c := hd 6 17 (by kernel_rfl)
          have e18 : E (.tmp 18) = .int .i64 (j : Int) := hd 7 18 (by kernel_rfl)
          clear hd hu
          have hjl := HX.out.2.2
          go_simp
          first | exact HR1.out _ _ (Below.refl _ _) rfl | (rw [if_pos ⟨by omega, by omega⟩]; exact HR1.out _ _ (Below.refl _ _) rfl)
        case s9 =>
          refine Grow.step_in (by rfl) (by rfl) ?_
          intro E W ec eg ef hG hd hu R HR1
          have e19 : E (.tmp 19) = .pointer (some ⟨b, off + j * 3, none⟩) := hd 8 19 (by kernel_rfl)
          clear hd hu
          go_simp
          exact HR1.out _ _ (Below.refl _ _) rfl
        case s10 =>
          refine Grow.step_in (by rfl) (by rfl) ?_
          intro E W ec eg ef hG hd hu R HR1
          have e20 : E (.tmp 20) = .pointer (some ⟨b, off + j * 3 + 1, none⟩) := hd 9 20 (by kernel_rfl)
          clear hd hu
          have hcl := (hG.cell (p := ⟨b, off + j * 3 + 1, none⟩) HC.out.1).trans HC.out.2.2.1
          go_simp
          exact HR1.out _ _ (Below.refl _ _) rfl
        case s11 =>
          refine Grow.step_in (by rfl) (by rfl) ?_
          intro E W ec eg ef hG hd hu R HR1
          have e21 : E (.tmp 21) = .slice Ax nx cx := hd 10 21 (by kernel_rfl)
          clear hd hu
          have hcv := byt_string (HY.out.below hG)
          go_simp
          exact HR1.out _ _ (Below.refl _ _) rfl
        case s12 =>
          refine Grow.step_in (by rfl) (by rfl) ?_
          intro E W ec eg ef hG hd hu R HR1
          have e0 : E (.tmp 0) = .slice (some ⟨b, off, none⟩) n c := hu 0 (by kernel_rfl)
          clear hd hu
          go_simp
          exact HR1.out _ _ (Below.refl _ _) rfl
        case s13 =>
          refine Grow.step_in (by rfl) (by rfl) ?_
          intro E W ec eg ef hG hd hu R HR1
          have e4 : E (.tmp 4) = .int .i64 (j : Int) := hu 4 (by kernel_rfl)
          clear hd hu
          go_simp
          exact HR1.out _ _ (Below.refl _ _) rfl
        case s14 =>
          refine Grow.step_in (by rfl) (by rfl) ?_
          intro E W ec eg ef hG hd hu R HR1
          have e23 : E (.tmp 23) = .slice (some ⟨b, off, none⟩) n c := hd 12 23 (by kernel_rfl)
          have e24 : E (.tmp 24) = .int .i64 (j : Int) := hd 13 24 (by kernel_rfl)
          clear hd hu
          have hjl := HX.out.2.2
          go_simp
          first | exact HR1.out _ _ (Below.refl _ _) rfl | (rw [if_pos ⟨by omega, by omega⟩]; exact HR1.out _ _ (Below.refl _ _) rfl)
        case s15 =>
          refine Grow.step_in (by rfl) (by rfl) ?_
          intro E W ec eg ef hG hd hu R HR1
          have e25 : E (.tmp 25) = .pointer (some ⟨b, off + j * 3, none⟩) := hd 14 25 (by kernel_rfl)
          clear hd hu
          go_simp
          exact HR1.out _ _ (Below.refl _ _) rfl
        case s16 =>
          refine Grow.step_in (by rfl) (by rfl) ?_
          intro E W ec eg ef hG hd hu R HR1
          have e26 : E (.tmp 26) = .pointer (some ⟨b, off + j * 3 + 2, none⟩) := hd 15 26 (by kernel_rfl)
          clear hd hu
          have hcl := (hG.cell (p := ⟨b, off + j * 3 + 2, none⟩) HC.out.1).trans HC.out.2.2.2
          go_simp
          exact HR1.out _ _ (Below.refl _ _) rfl
        case s17 =>
          refine Grow.step_in (by rfl) (by rfl) ?_
          intro E W ec eg ef hG hd hu R HR1
          have e16 : E (.tmp 16) = .string (st x.k) := hd 5 16 (by kernel_rfl)
          have e22 : E (.tmp 22) = .string (st V) := hd 11 22 (by kernel_rfl)
          have e27 : E (.tmp 27) = .bool x.g := hd 16 27 (by kernel_rfl)
          clear hd hu
          go_simp
          exact HR1.out _ _ (Below.refl _ _) rfl
        case s18 =>
          refine Grow.step_in (by rfl) (by rfl) ?_
          intro E W ec eg ef hG hd hu R HR1
          have e28 : E (.tmp 28) = .agg #[.string (st x.k), .string (st V), .bool x.g] := hd 17 28 (by kernel_rfl)
          clear hd hu
          go_simp
          exact HR1.out _ _ ((Below.refl _ _).alloc (Nat.le_refl _) _) ⟨_, rfl, heap_alloc_new W _, by have h1 := hG.size; have h2 : wr.drew.heap.size = wr.heap.size := rfl; omega⟩
      case gfin =>
        intro W hG
        refine Grow.fin_dst (by rfl) ?_
        rintro _ rfl
        refine Grow.fin_dst (by rfl) ?_
        rintro _ rfl
        refine Grow.fin_dst (by rfl) ?_
        rintro _ rfl
        refine Grow.fin_dst (by rfl) ?_
        rintro _ rfl
        refine Grow.fin_dst (by rfl) ?_
        rintro _ rfl
        refine Grow.fin_dst (by rfl) ?_
        rintro _ rfl
        refine Grow.fin_dst (by rfl) ?_
        rintro _ rfl
        refine Grow.fin_dst (by rfl) ?_
        rintro _ rfl
        refine Grow.fin_dst (by rfl) ?_
        rintro _ rfl
        refine Grow.fin_dst (by rfl) ?_
        rintro _ rfl
        refine Grow.fin_dst (by rfl) ?_
        rintro _ rfl
        refine Grow.fin_dst (by rfl) ?_
        rintro _ rfl
        refine Grow.fin_dst (by rfl) ?_
        rintro _ rfl
        refine Grow.fin_dst (by rfl) ?_
        rintro _ rfl
        refine Grow.fin_dst (by rfl) ?_
        rintro _ rfl
        refine Grow.fin_dst (by rfl) ?_
        rintro _ rfl
        refine Grow.fin_dst (by rfl) ?_
        rintro _ rfl
        refine Grow.fin_dst (by rfl) ?_
        rintro _ rfl
        refine Grow.fin_dst (by rfl) ?_
        rintro _ ⟨q8, rfl, hq8⟩
        simp only [Act.put, List.setIfInBounds_toArray, List.set_cons_zero, List.set_cons_succ]
        refine Grow.fin_end ?_
        have HW := Lib.hid hG
        clear hG
        have htk : l.take j ++ [x] = l.take (j + 1) := by
          rw [List.take_add_one, HX.out.1]
          rfl
        obtain ⟨A9, c9, w9, hap, hown9, hb9⟩ := own_cms_app (m := [x]) (n2 := 1) (c2 := 1) (a := ⟨q8, 0, none⟩) (own_below HR.out.1 ((below_drew (Below.refl _ _)).trans HW.out)) (by have h1 := HW.out.size; have h2 := HR.out.2.size; have h3 : wr.drew.heap.size = wr.heap.size := rfl; omega) rfl (fun o u hu => by
          rw [add_plain, Nat.zero_add, cell_of_cells hq8.1, HX.out.2.1]
          simpa [cmCells, cmV] using hu) (by have := HS.out.2.2; rw [List.length_take]; omega) 36
        have hb9' := (HR.out.2.trans (((below_drew (Below.refl _ _)).trans HW.out).mono HR.out.2.size)).trans hb9
        have hlen1 : (l.take j ++ [x]).length = (l.take (j + 1)).length := by rw [htk]
        rw [htk] at hown9 hap
        have HO := Lib.hid (And.intro hown9 hb9')
        clear hown9 hb9 hb9' htk hq8 hlen1
        refine operIn_app _ _ 36 (by rfl) (by rfl) (by rfl) hap ?_
        gi_wp2_with fail
        go_wp2_with fail
        go_roundw
        case rel =>
          unfold RMod
          exact ⟨j + 1, by have := HX.out.2.2; have := HS.out.2.1; omega, by simp, by have h := HO.out.1; simp only [List.length_take] at h ⊢; exact h, HO.out.2⟩
        case measure => simp only [intOf]; have h1 := HX.out.2.2; omega
    · have hlt' : ¬ (j : Int) < (n : Int) := by omega
      have hjn : j = l.length := by have := HS.out.2.1; omega
      rw [hjn, List.take_length] at hown
      obtain ⟨A', c', rfl, hcm⟩ := own_cms hown
      have HB := Lib.hid (And.intro hcm hbel)
      clear hcm hbel hown hj
      go_wp2_with fail
      go_ret
      have hnl := HS.out.2.1
      subst hnl
      exact ⟨A', c', rfl, HB.out.1, HB.out.2⟩
theorem modelof_any {w : World} {S : Nat → Prop} {A : Option Addr} {n c : Nat} {l : List Ch} (h : Chs w S A n c l) (hn : n ≤ 100000) (_ : ∀ x ∈ l, x.v.length ≤ 1000000) :
    Calls Tryz.prog 13 #[.slice A n c] w fun e w' => ∃ A' c', e = .returned (.slice A' n c') ∧ Cms w' (w.heap.size ≤ ·) A' n c' l ∧ Below w.heap.size w w' := modelof_long h hn
end Go.Proofs.YtcgnaomffioldaaGreat

/-! Cells: the reference's Do, pure; slices of the model's changes. -/
namespace Go.Proofs.YtcgnaomffioldaaGreat
open Go.RowKit Codec

def tb2 (t : Tb) : List Ch := t.map fun p => ⟨p.1, p.2, false⟩
theorem do_split {T : Tb} (hs : Srt T) {q : Nat} {key : List UInt8} (h1 : ∀ p ∈ T.take q, p.1 < key) (h2 : ∀ p, T[q]? = some p → ¬ p.1 < key) :
    (T.filter fun p => decide (p.1 < key)) = T.take q ∧ (T.filter fun p => decide (key < p.1)) = T.drop (if T[q]?.map (·.1) = some key then q + 1 else q) := by
  have hT : T = T.take q ++ T.drop q := (List.take_append_drop q T).symm
  have hf1 : (T.take q).filter (fun p => decide (p.1 < key)) = T.take q := List.filter_eq_self.2 fun p hp => by simpa using h1 p hp
  have hf2 : (T.take q).filter (fun p => decide (key < p.1)) = [] := List.filter_eq_nil_iff.2 fun p hp => by simpa using klt_as (h1 p hp)
  cases hd : T.drop q with
  | nil =>
    have hq : T[q]? = none := by
      rw [← Nat.add_zero q, ← List.getElem?_drop, hd]
      rfl
    rw [hq, if_neg (by simp), hd]
    conv => lhs; lhs; rw [hT]
    conv => rhs; lhs; rw [hT]
    rw [List.filter_append, List.filter_append, hd, hf1, hf2]
    simp
  | cons p r =>
    have hq : T[q]? = some p := by
      rw [← Nat.add_zero q, ← List.getElem?_drop, hd]
      rfl
    have hsd : Srt (p :: r) := by rw [← hd]; exact List.Pairwise.sublist (List.drop_sublist q T) hs
    obtain ⟨hs1, _⟩ := List.pairwise_cons.1 hsd
    have hp := h2 p hq
    have hge : ∀ x ∈ r, key < x.1 := fun x hx => Std.lt_of_le_of_lt (kle_of_not hp) (hs1 x hx)
    have hr1 : r.filter (fun p => decide (p.1 < key)) = [] := List.filter_eq_nil_iff.2 fun x hx => by simpa using klt_as (hge x hx)
    have hr2 : r.filter (fun p => decide (key < p.1)) = r := List.filter_eq_self.2 fun x hx => by simpa using hge x hx
    have hd1 : T.drop (q + 1) = r := by rw [← List.drop_drop, hd]; rfl
    rw [hq]
    refine ⟨?_, ?_⟩
    · conv => lhs; rw [hT]
      rw [List.filter_append, hd, hf1, List.filter_cons_of_neg (by simpa using hp), hr1, List.append_nil]
    · conv => lhs; rw [hT]
      rw [List.filter_append, hd, hf2, List.nil_append]
      by_cases he : p.1 = key
      · rw [if_pos (by simp [he]), hd1, List.filter_cons_of_neg (by rw [he]; simp [klt_irr key]), hr2]
      · rw [if_neg (by simpa using he), hd, List.filter_cons_of_pos (by simpa using Std.lt_of_le_of_ne (kle_of_not hp) fun e => he e.symm), hr2]
theorem do_at {T : Tb} (hs : Srt T) {q : Nat} {X : Ch} (h1 : ∀ p ∈ T.take q, p.1 < X.k) (h2 : ∀ p, T[q]? = some p → ¬ p.1 < X.k) :
    tb2 (doC T X) = tb2 (T.take q) ++ (if X.g then [] else [⟨X.k, X.v, false⟩]) ++ tb2 (T.drop (if T[q]?.map (·.1) = some X.k then q + 1 else q)) := by
  obtain ⟨e1, e2⟩ := do_split hs h1 h2
  unfold doC tb2
  rw [e1, e2]
  simp only [List.map_append]
  congr 2
  split <;> rfl
theorem cm_size : ∀ w, (Go.sizeOf 97).run Tryz.prog w = .ok 3 w := fun w => by kernel_rfl
theorem run_to3 (A : Option Addr) (n c k : Nat) (hk : k ≤ c) (W : World) :
    (Instr.slice 36 (.slice A n c) none (some (.int .i64 (k : Int))) none).run Tryz.prog W = .ok (.slice A k c) W := by
  have ht := Tryz.underlying36
  have ht' : Tryz.prog.underlying 36 = some (.slice (Tryz.prog.elem 36)) := by simp [Program.elem, ht]
  have he : Tryz.prog.elem 36 = 97 := by simp [Program.elem, ht]
  rw [run_slice_h W 36 A n c ht' .i64 (k : Int) (by omega) (by omega), he, cm_size]
  have h0 : ∀ a : Addr, a.add 0 = a := fun a => by simp [Addr.add]
  cases A <;> simp [Result.andThen, sliced, h0]
def cut3 (A : Option Addr) (c k : Nat) : Option Addr := if c = k then A else A.map (·.add (k * 3))
theorem run_cut3 (A : Option Addr) (n c k : Nat) (hk : k ≤ n) (W : World) :
    (Instr.slice 36 (.slice A n c) (some (.int .i64 (k : Int))) none none).run Tryz.prog W = .ok (.slice (cut3 A c k) (n - k) (c - k)) W := by
  have ht := Tryz.underlying36
  have ht' : Tryz.prog.underlying 36 = some (.slice (Tryz.prog.elem 36)) := by simp [Program.elem, ht]
  have he : Tryz.prog.elem 36 = 97 := by simp [Program.elem, ht]
  rw [run_slice_l W 36 A n c ht' .i64 (k : Int) (by omega) (by omega), he, cm_size]
  simp [Result.andThen, sliced, cut3]
variable {w : World} {S : Nat → Prop} {A : Option Addr} {n c k : Nat} {l : List Ch}
theorem Cms.to (h : Cms w S A n c l) (hk : k ≤ n) : Cms w S A k c (l.take k) :=
  ⟨by rw [List.length_take, h.len]; omega, by have := h.cap; omega, h.max, fun h0 => by
    obtain ⟨b, off, h1, h2, h3, h4⟩ := h.row (by omega)
    exact ⟨b, off, h1, h2, h3, fun i x hx => h4 i x (by
      have hi := (List.getElem?_eq_some_iff.1 hx).1
      rw [List.length_take] at hi
      rwa [List.getElem?_take_of_lt (by omega)] at hx)⟩⟩
theorem Cms.cut (h : Cms w S A n c l) (hk : k ≤ n) : Cms w S (cut3 A c k) (n - k) (c - k) (l.drop k) :=
  ⟨by rw [List.length_drop, h.len], by have := h.cap; omega, by have := h.max; omega, fun h0 => by
    obtain ⟨b, off, h1, h2, h3, h4⟩ := h.row (by omega)
    refine ⟨b, off + k * 3, ?_, h2, h3, fun i x hx j v hv => ?_⟩
    · unfold cut3
      rw [if_neg (by have := h.cap; omega), h1]
      simp [Addr.add]
    · rw [List.getElem?_drop] at hx
      have := h4 (k + i) x hx j v hv
      rwa [show off + (k + i) * 3 + j = off + k * 3 + i * 3 + j by omega] at this⟩
/-- A row is laid behind one that the call has made. -/
theorem own_cms_app2 {B : Nat} {v : Value} {m : List Ch} {n2 c2 : Nat} {A2 : Option Addr} {U : Nat → Prop} (h : w.ownsRow B 97 3 v l.length (cmCells l)) (hB : B ≤ w.heap.size) (hm : Cms w U A2 n2 c2 m) (hl : l.length + n2 ≤ 1000000) (ty : TypeId) :
    ∃ A' c' W', (Builtin.append_ #[36, 36] ty #[v, .slice A2 n2 c2]).run Tryz.prog w = .ok (.slice A' (l ++ m).length c') W' ∧ W'.ownsRow B 97 3 (.slice A' (l ++ m).length c') (l ++ m).length (cmCells (l ++ m)) ∧ Below B w W' := by
  rcases A2 with _ | a
  · obtain rfl : n2 = 0 := by
      rcases Nat.eq_zero_or_pos n2 with h0 | h0
      · exact h0
      · obtain ⟨b, off, e, _⟩ := hm.row h0
        cases e
    have hmn : m = [] := List.eq_nil_of_length_eq_zero hm.len
    subst hmn
    obtain ⟨A', c', rfl, hc⟩ := own_cms h
    obtain ⟨i0, hi, hz0, hz1, hz2⟩ := info_parts cm_info3
    refine ⟨A', c', w, ?_, by simpa using h, Below.refl _ _⟩
    rw [List.append_nil]
    exact run_append_zero w 36 ty 97 i0 Tryz.underlying36 hi A' l.length c' c2 hc.cap
  · refine own_cms_app h hB hm.len (fun j u hu => ?_) hl ty
    have hj := (List.getElem?_eq_some_iff.1 hu).1
    rw [cmCells_len, hm.len] at hj
    obtain ⟨b, off, e, _, _, h4⟩ := hm.row (by omega)
    injection e with e
    subst e
    rw [add_plain]
    have hi : j / 3 < m.length := by rw [hm.len]; omega
    obtain ⟨y, hy⟩ : ∃ y, m[j / 3]? = some y := ⟨_, List.getElem?_eq_getElem hi⟩
    obtain ⟨z, hz⟩ : ∃ z, (cmV y)[j % 3]? = some z := ⟨_, Array.getElem?_eq_getElem (by simp [cmV]; omega)⟩
    have h5 := cmCells_at m (j / 3) y hy (j % 3) z hz
    have h6 := h4 (j / 3) y hy (j % 3) z hz
    have e6 : j / 3 * 3 + j % 3 = j := by omega
    rw [e6] at h5
    rw [Nat.add_assoc, e6] at h6
    rw [h6, ← h5, hu]
end Go.Proofs.YtcgnaomffioldaaGreat
