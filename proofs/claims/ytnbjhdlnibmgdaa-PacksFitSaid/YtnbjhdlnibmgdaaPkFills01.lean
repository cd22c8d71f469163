/-
  Packs, the reference: may, how many bytes a pack of blobs of sizes has.
  Packs: the reference's Fill, what it rests on.
  Packs: the reference's Fill.
  The law PacksFills.
-/
import Derived.Test.YtnbjhdlnibmgdaaPk02
import Derived.Test.YtnbjhdlnibmgdaaPk07
import Derived.Test.YtnbjhdlnibmgdaaPkGets01
import Derived.Test.YtnbjhdlnibmgdaaPk08
import Derived.Test.YtnbjhdlnibmgdaaPk03
import Derived.BigQuiet
/-! Packs, the reference: may, how many bytes a pack of blobs of sizes has. -/
namespace Go.Proofs.Ytnbjhdlnibmgdaa
open Go.RowKit Codec

theorem prmay_any (s : Int) (w : World) : Calls Try.prog 33 #[.int .i64 s] w fun e w' => e = .returned (.bool (pkMay s)) ∧ w = w' := by
  unfold pkMay
  by_cases h1 : 41 ≤ s
  · by_cases h2 : s ≤ 65577
    · go_enter Try.func33, Try.ntmps33
      go_wp2
      go_ret
      simp [h1, h2]
    · go_enter Try.func33, Try.ntmps33
      go_wp2
      go_ret
      simp [h2]
  · go_enter Try.func33, Try.ntmps33
    go_wp2
    go_ret
    simp; omega
theorem prput_num (n : Nat) (hn : n < 18446744073709551616) (W : World) : Calls Try.prog 44 #[.int .u64 (n : Int)] W fun e w' => e = .returned (.string (st (put n))) ∧ Below W.heap.size W w' :=
  ref_put 10 n W (Nat.lt_of_lt_of_le hn (by decide)) hn
def sumE (l : List Nat) : Nat := (l.map pkE).sum
theorem sumE_snoc (l : List Nat) (s : Nat) : sumE (l ++ [s]) = sumE l + pkE s := by simp [sumE]
theorem sumE_le : ∀ (l : List Nat), (∀ s ∈ l, s ≤ 65577) → sumE l ≤ 65580 * l.length
  | [], _ => by simp [sumE]
  | s :: l, h => by
    have ih := sumE_le l fun x hx => h x (List.mem_cons_of_mem _ hx)
    have h1 := h s List.mem_cons_self
    have h2 := lnN_3 (x := s) (by omega)
    have e : sumE (s :: l) = pkE s + sumE l := by simp [sumE]
    rw [e, List.length_cons]
    simp only [pkE]
    omega
def szN (l : List Nat) : Nat := lnN l.length + sumE l
theorem natI_at {l : List Nat} {j : Nat} (h : j < l.length) : (natI l)[j]?.getD 0 = ((l[j]?.getD 0 : Nat) : Int) := by
  unfold natI
  rw [List.getElem?_map, List.getElem?_eq_getElem h]
  rfl
def SzR (w : World) (l : List Nat) (v i : Value) (wr : World) : Prop := ∃ j : Nat, j ≤ l.length ∧ i = .int .i64 (j : Int) ∧ v = .int .i64 ((lnN l.length + sumE (l.take j) : Nat) : Int) ∧ Below w.heap.size w wr
set_option maxHeartbeats 4000000 in
set_option maxRecDepth 100000 in
theorem prsize_any {w : World} {S : Nat → Prop} {A : Option Addr} {n c : Nat} {l : List Nat} (h : Ints .i64 w S A n c (natI l)) (hn : n ≤ 1000000) (hl : ∀ s ∈ l, s ≤ 65577) :
    Calls Try.prog 34 #[.slice A n c] w fun e w' => e = .returned (.int .i64 (szN l : Int)) ∧ Below w.heap.size w w' := by
  have hll : l.length = n := by have := h.len; rw [← this]; simp [natI]
  have hpu := prput_num n (by omega) w
  have hsz := st_size (put n)
  have hcv := IntWalk.u64_in (n : Int) (by omega)
  obtain ⟨L0, hL0⟩ : ∃ L0, L0 = (put n).length := ⟨_, rfl⟩
  rw [← hL0] at hsz
  have hl10 := lnN_le (x := n) (by omega)
  have HL := Lib.hid (And.intro h (And.intro hll (And.intro hn (And.intro hl (And.intro (show lnN l.length = L0 by rw [hll, hL0]; rfl) (show L0 ≤ 10 by rw [hL0]; exact hl10))))))
  obtain ⟨PS, hPS⟩ : ∃ PS, PS = st (put n) := ⟨_, rfl⟩
  rw [← hPS] at hpu hsz
  clear h hn hl hL0 hl10 hll hPS
  go_enter Try.func34, Try.ntmps34
  go_upto_region 3 with (go_at_call 44; refine hpu.mono ?_; clear hpu; rintro _ w1 ⟨rfl, hb1⟩; have HB1 := Lib.hid hb1; clear hb1)
  clear hsz hcv
  go_loopw [3, 4] (fun v i wr => SzR w l v i wr) (fun _ i _ => n - (intOf i).toNat)
  case atStart => exact ⟨0, Nat.zero_le _, rfl, by rw [HL.out.2.2.2.2.1]; simp [sumE], HB1.out⟩
  case round =>
    obtain ⟨j, hj, rfl, rfl, hb⟩ := hrel
    clear HB1
    by_cases hlt : j < n
    · have hlt' : (j : Int) < (n : Int) := by omega
      have hjl : j < l.length := by have := HL.out.2.1; omega
      obtain ⟨b, off, rfl, _, hbl, hc⟩ := HL.out.1.row (by omega)
      have hc0 := (hb.cell (p := ⟨b, off + j, none⟩) hbl).trans (hc j hlt)
      rw [natI_at hjl] at hc0
      obtain ⟨s, hs⟩ : ∃ s, s = l[j]?.getD 0 := ⟨_, rfl⟩
      have hsj : l[j]? = some s := by rw [hs, List.getElem?_eq_getElem hjl]; rfl
      rw [← hs] at hc0
      have hsl := HL.out.2.2.2.1 s (List.mem_of_getElem? hsj)
      have hpu := fun W => prput_num s (by omega) W
      have hsz := st_size (put s)
      have hcv := IntWalk.u64_in (s : Int) (by omega)
      have hadd := IntWalk.i64_in ((j : Int) + 1) (by have := HL.out.2.2.1; omega)
      have hsum := sumE_le (l.take j) fun x hx => HL.out.2.2.2.1 x (List.mem_of_mem_take hx)
      have htl : (l.take j).length ≤ 1000000 := by rw [List.length_take]; have := HL.out.2.2.1; omega
      obtain ⟨V, hV⟩ : ∃ V, V = lnN l.length + sumE (l.take j) := ⟨_, rfl⟩
      have hV4 : V ≤ 100000000000 := by rw [hV, HL.out.2.2.2.2.1]; have := HL.out.2.2.2.2.2; omega
      rw [← hV]
      obtain ⟨L, hL⟩ : ∃ L, L = (put s).length := ⟨_, rfl⟩
      rw [← hL] at hsz
      have hL3 : L ≤ 3 := by rw [hL]; exact lnN_3 (x := s) (by omega)
      have h1 := IntWalk.i64_in ((L : Int) + (s : Int)) (by omega)
      have h2 := IntWalk.i64_in ((V : Int) + ((L : Int) + (s : Int))) (by omega)
      have HX : Hid ((((lnN l.length + sumE (l.take (j + 1)) : Nat) : Int) = (V : Int) + ((L : Int) + (s : Int))) ∧ j < n) := Lib.hid ⟨by rw [take_snoc hsj, sumE_snoc, hV, hL]; simp only [pkE, lnN]; omega, hlt⟩
      obtain ⟨PS, hPS⟩ : ∃ PS, PS = st (put s) := ⟨_, rfl⟩
      have hpu : ∀ W, Calls Try.prog 44 #[.int .u64 (s : Int)] W fun e w' => e = .returned (.string PS) ∧ Below W.heap.size W w' := fun W => by rw [hPS]; exact hpu W
      rw [← hPS] at hsz
      have HPU := Lib.hid hpu
      have HB := Lib.hid hb
      have HIN := Lib.hid (And.intro hcv (And.intro h1 h2))
      have HSZ := Lib.hid hsz
      clear hc hbl hs hsj hsl hsum htl hV hV4 hL hL3 hPS hpu hb hj hlt hjl hcv h1 h2 hsz
      go_upto_region 5 with fail
      have hcd : wr.drew.cell? ⟨b, off + j, none⟩ = some (.int .i64 (s : Int)) := hc0
      have hbd := below_drew HB.out
      refine wp_region_plan (fun W => W.cell? ⟨b, off + j, none⟩ = some (.int .i64 (s : Int))) [([0, 1, 2, 3, 4, 5, 8, 9, 10, 11], 6)] [7, 12, 13, 14] (by kernel_rfl) (by kernel_rfl) (fun _ _ d _ _ h => by cases d <;> exact h) hcd ?_
      generalize wr.drew = wd at *
      have HD := Lib.hid (And.intro hcd hbd)
      clear hc0 hbd hcd HB
      refine plan_eff ?_
      refine seg_read ?v1 (by rfl) (by rfl) ?h1 ?_
      case h1 => intro W hW; have hcv := HIN.out.1; go_simp; with_reducible rfl
      try simp only [Act.put, List.setIfInBounds_toArray, List.set_cons_zero, List.set_cons_succ]
      refine seg_read ?v2 (by rfl) (by rfl) ?h2 ?_
      case h2 => intro W hW; have hcv := HIN.out.1; go_simp; with_reducible rfl
      try simp only [Act.put, List.setIfInBounds_toArray, List.set_cons_zero, List.set_cons_succ]
      refine seg_read ?v3 (by rfl) (by rfl) ?h3 ?_
      case h3 => intro W hW; have hcv := HIN.out.1; go_simp; with_reducible rfl
      try simp only [Act.put, List.setIfInBounds_toArray, List.set_cons_zero, List.set_cons_succ]
      refine seg_read ?v4 (by rfl) (by rfl) ?h4 ?_
      case h4 => intro W hW; have hcv := HIN.out.1; go_simp; with_reducible rfl
      try simp only [Act.put, List.setIfInBounds_toArray, List.set_cons_zero, List.set_cons_succ]
      refine seg_read ?v5 (by rfl) (by rfl) ?h5 ?_
      case h5 => intro W hW; have hcv := HIN.out.1; go_simp; with_reducible rfl
      try simp only [Act.put, List.setIfInBounds_toArray, List.set_cons_zero, List.set_cons_succ]
      refine seg_read ?v6 (by rfl) (by rfl) ?h6 ?_
      case h6 => intro W hW; have hcv := HIN.out.1; go_simp; with_reducible rfl
      try simp only [Act.put, List.setIfInBounds_toArray, List.set_cons_zero, List.set_cons_succ]
      refine seg_read ?v7 (by rfl) (by rfl) ?h7 ?_
      case h7 => intro W hW; have hcv := HIN.out.1; go_simp; with_reducible rfl
      try simp only [Act.put, List.setIfInBounds_toArray, List.set_cons_zero, List.set_cons_succ]
      refine seg_read ?v8 (by rfl) (by rfl) ?h8 ?_
      case h8 => intro W hW; have hcv := HIN.out.1; go_simp; with_reducible rfl
      try simp only [Act.put, List.setIfInBounds_toArray, List.set_cons_zero, List.set_cons_succ]
      refine seg_read ?v9 (by rfl) (by rfl) ?h9 ?_
      case h9 => intro W hW; have hcv := HIN.out.1; go_simp; with_reducible rfl
      try simp only [Act.put, List.setIfInBounds_toArray, List.set_cons_zero, List.set_cons_succ]
      refine seg_read ?v10 (by rfl) (by rfl) ?h10 ?_
      case h10 => intro W hW; have hcv := HIN.out.1; go_simp; with_reducible rfl
      try simp only [Act.put, List.setIfInBounds_toArray, List.set_cons_zero, List.set_cons_succ]
      refine seg_nil ?_
      refine eff_step (by rfl) (fun K hK => ?_)
      go_simp
      refine (HPU.out _).mono ?_
      rintro _ w4 ⟨rfl, hb4⟩
      have hw4 : w4.cell? ⟨b, off + j, none⟩ = some (.int .i64 (s : Int)) := (hb4.cell (p := ⟨b, off + j, none⟩) (World.block_lt_of_cell? _ _ HD.out.1)).trans HD.out.1
      have H4 := Lib.hid (HD.out.2.trans (hb4.mono HD.out.2.size))
      clear hb4 HD HPU
      refine hK _ _ ⟨fun W => W = w4, rfl, fun W (e : W = w4) => e ▸ hw4, ?_⟩
      clear hK K
      have h1 := HIN.out.2.1
      have h2 := HIN.out.2.2
      have hsz := HSZ.out
      refine plan_last ?_
      try simp only [Act.put]
      repeat (refine seg_step (by rfl) (fun K hK => ?_); go_simp; refine hK _ ?_; clear hK K)
      refine seg_nil ?_
      go_wp2_with fail
      go_roundw
      case rel => exact ⟨j + 1, by have h3 := HX.out.2; have h4 := HL.out.2.1; omega, by simp, by rw [HX.out.1], H4.out⟩
      case measure => have := HX.out.2; simp only [intOf]; omega
    · have hlt' : ¬ (j : Int) < (n : Int) := by omega
      have hfull : l.take j = l := List.take_of_length_le (by have := HL.out.2.1; omega)
      rw [hfull]
      have HB := Lib.hid hb
      obtain ⟨V, hV⟩ : ∃ V, V = lnN l.length + sumE l := ⟨_, rfl⟩
      rw [← hV]
      have HV := Lib.hid hV
      clear hfull hb hj hlt hV
      go_wp2
      go_ret
      exact ⟨by rw [HV.out]; rfl, HB.out⟩
end Go.Proofs.Ytnbjhdlnibmgdaa

/-! Packs: the reference's Fill, what it rests on. -/
namespace Go.Proofs.Ytnbjhdlnibmgdaa
open Go.RowKit Codec

/-- One row more, that is full. -/
theorem PkN.add {W W' : World} {B : Nat} {v : Value} {vs : List Value} {ls : List (List Nat)} (h : PkN W B v vs ls) {u : Value} {r : List Nat} (hu : W.ownsRow B 3 1 u r.length (natV r)) (hd : ∀ g, u.ownBlock = some g → ¬ PkN.Own v vs g)
    {v' : Value} (hown : W'.ownsRow B 36 1 v' (vs.length + 1) (vs ++ [u])) (hg : W.grownBy W' v.ownBlock) (hl : v'.ownBlock = v.ownBlock ∨ v'.ownBlock = some W.heap.size) :
    PkN W' B v' (vs ++ [u]) (ls ++ [r]) := by
  have at_ : ∀ (i : Nat) (z : Value), (vs ++ [u])[i]? = some z → (vs[i]? = some z ∧ i < vs.length) ∨ (i = vs.length ∧ z = u) := fun i z hz => by
    rcases Nat.lt_trichotomy i vs.length with h1 | h1 | h1
    · rw [List.getElem?_append_left h1] at hz
      exact .inl ⟨hz, h1⟩
    · subst h1
      simp at hz
      exact .inr ⟨rfl, hz.symm⟩
    · rw [List.getElem?_eq_none (by simp; omega)] at hz
      cases hz
  have nv : ∀ g, g < W.heap.size → v.ownBlock ≠ some g → v'.ownBlock ≠ some g := fun g h1 h2 => by
    rcases hl with hl | hl
    · rw [hl]; exact h2
    · rw [hl]
      intro e
      injection e with e
      omega
  refine ⟨by simp [h.len], by simpa using hown, fun i z hz => ?_, fun i z g hz hg' => ?_, fun i j z z' g hij hz hz' hg' => ?_⟩
  · rcases at_ i z hz with ⟨h1, h2⟩ | ⟨rfl, rfl⟩
    · rw [List.getElem?_append_left (by have := h.len; omega)]
      exact pk_keep (h.row i z h1) fun g hg' => hg.block g (h.lt (.inr ⟨i, z, h1, hg'⟩)) fun e => h.apart i z g h1 hg' e.symm
    · rw [h.len]
      simp only [List.getElem?_append_right (Nat.le_refl _), Nat.sub_self, List.getElem?_cons_zero, Option.getD_some]
      exact pk_keep hu fun g hg' => hg.block g (hu.lt g hg').2 fun e => hd g hg' (.inl e.symm)
  · rcases at_ i z hz with ⟨h1, h2⟩ | ⟨rfl, rfl⟩
    · exact nv g (h.lt (.inr ⟨i, z, h1, hg'⟩)) (h.apart i z g h1 hg')
    · exact nv g (hu.lt g hg').2 fun e => hd g hg' (.inl e)
  · rcases at_ i z hz with ⟨h1, h2⟩ | ⟨rfl, rfl⟩
    · rcases at_ j z' hz' with ⟨h3, h4⟩ | ⟨rfl, rfl⟩
      · exact h.each i j z z' g hij h1 h3 hg'
      · exact fun e => hd g e (.inr ⟨i, z, h1, hg'⟩)
    · rcases at_ j z' hz' with ⟨h3, h4⟩ | ⟨rfl, rfl⟩
      · exact fun e => hd g hg' (.inr ⟨j, z', h3, e⟩)
      · exact absurd rfl hij
theorem pks_push {W : World} {B : Nat} {v : Value} {vs : List Value} {ls : List (List Nat)} (h : PkN W B v vs ls) {u : Value} {r : List Nat} (hu : W.ownsRow B 3 1 u r.length (natV r)) (hd : ∀ g, u.ownBlock = some g → ¬ PkN.Own v vs g) (hB : B ≤ W.heap.size) (hn : ls.length ≤ 1000000) (h1u : u.oneCell' = true) :
    ∃ A' c' W1, (Builtin.append_ #[37, 37] 37 #[v, .slice (some ⟨W.heap.size, 0, none⟩) 1 1]).run Try.prog (W.alloc (.cells #[u] 36)) = .ok (.slice A' (ls.length + 1) c') W1 ∧ PkN W1 B (.slice A' (ls.length + 1) c') (vs ++ [u]) (ls ++ [r]) ∧ Below B W W1 := by
  obtain ⟨i1, hi, hz0, hz1, hz2⟩ := info_parts pks_info
  have hvl := h.len
  have hn2 : PkN (W.alloc (.cells #[u] 36)) B v vs ls := h.keep fun g hg => Below.heap_alloc _ _ _ (h.lt hg)
  obtain ⟨v', W1, hrun, g1, g2, _, g4⟩ := run_append_own_at (P := Try.prog) (W.alloc (.cells #[u] 36)) B 37 37 36 i1 (.slice none 0 0) 1 24 Try.underlying37 hi hz0 hz1 hz2 rfl (by decide) v vs.length vs hn2.out ⟨W.heap.size, 0, none⟩ 1 1 [u] rfl
      (fun j z hj => by
        match j, hj with
        | 0, hj =>
          rw [add_plain, cell_of_cells (heap_alloc_new W _)]
          simpa using hj) (one_of h1u) (by unfold maxLen; omega) (by omega) (by simp; omega)
  have hadd := hn2.add (pk_keep hu fun g hg => Below.heap_alloc _ _ _ (hu.lt g hg).2) hd g1 g2 g4
  obtain ⟨A', c', rfl⟩ := pk_slice g1
  rw [hvl] at hrun hadd
  exact ⟨A', c', W1, hrun, hadd, ((Below.refl B W).alloc hB _).grown g2 (by simp; omega) fun k hk => (h.own (.inl hk)).1⟩
theorem pki_push {W : World} {B : Nat} {v : Value} {r : List Nat} (h : W.ownsRow B 3 1 v r.length (natV r)) (x : Nat) (hB : B ≤ W.heap.size) (hn : r.length ≤ 1000000) :
    ∃ A' c' W1, (Builtin.append_ #[36, 36] 36 #[v, .slice (some ⟨W.heap.size, 0, none⟩) 1 1]).run Try.prog (W.alloc (.cells #[.int .i64 (x : Int)] 3)) = .ok (.slice A' (r.length + 1) c') W1 ∧ W1.ownsRow B 3 1 (.slice A' (r.length + 1) c') (r ++ [x]).length (natV (r ++ [x])) ∧ Below B W W1 := by
  obtain ⟨i1, hi, hz0, hz1, hz2⟩ := info_parts pki_info
  have h2 : (W.alloc (.cells #[.int .i64 (x : Int)] 3)).ownsRow B 3 1 v r.length (natV r) := pk_keep h fun q hq => Below.heap_alloc _ _ _ (h.lt q hq).2
  obtain ⟨v', W1, hrun, g1, g2, _, _⟩ := run_append_own_at (P := Try.prog) (W.alloc (.cells #[.int .i64 (x : Int)] 3)) B 36 36 3 i1 (.int .i64 0) 1 8 Try.underlying36 hi hz0 hz1 hz2 rfl (by decide) v _ _ h2 ⟨W.heap.size, 0, none⟩ 1 1 [.int .i64 (x : Int)] rfl
      (fun j u hj => by
        match j, hj with
        | 0, hj =>
          rw [add_plain, cell_of_cells (heap_alloc_new W _)]
          simpa using hj) (one_of rfl) (by unfold maxLen; omega) (by omega) (by simp; omega)
  obtain ⟨A', c', rfl⟩ := pk_slice g1
  refine ⟨A', c', W1, hrun, ?_, ((Below.refl B W).alloc hB _).grown g2 (by simp; omega) fun k hk => (h.lt k hk).1⟩
  rw [List.length_append, List.length_singleton, show natV (r ++ [x]) = natV r ++ [.int .i64 (x : Int)] by simp [natV]]
  exact g1
/-- A part of a row. -/
theorem Ints.part {kd : IntKind} {w : World} {S : Nat → Prop} {A : Option Addr} {n c : Nat} {l : List Int} (h : Ints kd w S A n c l) {lo hi : Nat} (h1 : lo ≤ hi) (h2 : hi ≤ n) : Ints kd w S (cutA A c lo) (hi - lo) (c - lo) ((l.drop lo).take (hi - lo)) := by
  have hl := h.len
  refine ⟨by rw [List.length_take, List.length_drop]; omega, by have := h.cap; omega, by have := h.max; omega, fun x hx => h.wf x (List.mem_of_mem_drop (List.mem_of_mem_take hx)), fun h0 => ?_⟩
  obtain ⟨b, off, rfl, hB, hb, hc⟩ := h.row (by omega)
  have := h.cap
  unfold cutA
  rw [if_neg (by omega)]
  refine ⟨b, off + lo, by simp [add_plain], hB, hb, fun i hi' => ?_⟩
  rw [Nat.add_assoc, hc (lo + i) (by omega), List.getElem?_take_of_lt hi', List.getElem?_drop]
theorem natI_part (l : List Nat) (lo k : Nat) : ((natI l).drop lo).take k = natI ((l.drop lo).take k) := by simp [natI, List.map_drop, List.map_take]
theorem int_size : ∀ w, (Go.sizeOf 3).run Try.prog w = .ok 1 w := fun w => by kernel_rfl
/-! The pure part: how a pack goes on. -/
def subL (l : List Nat) (a k : Nat) : List Nat := (l.drop a).take k
theorem subL_len {l : List Nat} {a k : Nat} (h : a + k ≤ l.length) : (subL l a k).length = k := by unfold subL; rw [List.length_take, List.length_drop]; omega
theorem subL_snoc {l : List Nat} {a k s : Nat} (h : l[a + k]? = some s) : subL l a (k + 1) = subL l a k ++ [s] := by
  unfold subL
  exact take_snoc (by rw [List.getElem?_drop]; exact h)
theorem szN_one (s : Nat) (most : Nat) : decide (szN [s] ≤ most) = pkAlone most s := by
  unfold szN pkAlone pkHolds
  simp [sumE]
/-- Behind a part: a pack that began at a has k blobs. -/
structure RfI (most : Nat) (l : List Nat) (a k : Nat) : Prop where
  le : a + k ≤ l.length
  pos : 1 ≤ k
  kk : (pkSt most (l.take (a + k))).k = k
  y : (pkSt most (l.take (a + k))).y = sumE (subL l a k)
  ls : pkL most l (a + k) = pkL most l a ++ [List.range' a k]
  p : (pkSt most (l.take (a + k))).p = (pkL most l a).length
/-- A pack begins at a. -/
def RfB (most : Nat) (l : List Nat) (a : Nat) : Prop := ∀ s, l[a]? = some s → a ≠ 0 → pkHolds most ((pkSt most (l.take a)).k + 1) ((pkSt most (l.take a)).y + pkE s) = false
theorem rfi_one {most : Nat} {l : List Nat} (ha : ∀ s ∈ l, pkAlone most s = true) {a s : Nat} (hs : l[a]? = some s) (hb : RfB most l a) : RfI most l a 1 := by
  have hal : a < l.length := (List.getElem?_eq_some_iff.1 hs).1
  have hst := pkSt_at (most := most) hs
  have h1 := ha s (List.mem_of_getElem? hs)
  have hsub : subL l a 1 = [s] := by
    have := subL_snoc (l := l) (a := a) (k := 0) (s := s) (by simpa using hs)
    simpa [subL] using this
  have hnx := pk_next ha hal
  cases a with
  | zero =>
    have e0 : pkSt most (l.take 0) = ⟨0, 0, 0⟩ := by simp [pkSt]
    rw [e0] at hst
    unfold pkAlone at h1
    have e1 : pkSt most (l.take (0 + 1)) = ⟨1, pkE s, 0⟩ := by rw [hst]; simp [pkStep, h1]
    refine ⟨by omega, Nat.le_refl _, by rw [e1], by rw [e1, hsub]; simp [sumE], ?_, by rw [e1, pkL_zero]; rfl⟩
    rw [pkL_at hal, pkL_zero, e1]
    rfl
  | succ a =>
    have h2 := hb s hs (by omega)
    have e1 : pkSt most (l.take (a + 1 + 1)) = ⟨1, pkE s, (pkSt most (l.take (a + 1))).p + 1⟩ := by
      rw [hst]
      unfold pkStep
      rw [if_neg (by rw [h2]; simp)]
    obtain ⟨done, cur, e2, e3⟩ := pk_inv ha a (by omega)
    have e4 : (pkL most l (a + 1)).length = (pkSt most (l.take (a + 1))).p + 1 := by rw [e2, List.length_append, e3]; rfl
    refine ⟨by omega, Nat.le_refl _, by rw [e1], by rw [e1, hsub]; simp [sumE], ?_, by rw [e1, e4]⟩
    rw [pkL_at hal, e1]
    show pkPut (pkL most l (a + 1)) ((pkSt most (l.take (a + 1))).p + 1, a + 1) = _
    rw [← e4, pkPut_new]
    rfl
theorem rfi_more {most : Nat} {l : List Nat} {a k s : Nat} (h : RfI most l a k) (hs : l[a + k]? = some s) (hh : pkHolds most (k + 1) (sumE (subL l a k) + pkE s) = true) : RfI most l a (k + 1) := by
  have hal : a + k < l.length := (List.getElem?_eq_some_iff.1 hs).1
  have hst := pkSt_at (most := most) hs
  have e1 : pkSt most (l.take (a + k + 1)) = ⟨k + 1, sumE (subL l a k) + pkE s, (pkSt most (l.take (a + k))).p⟩ := by
    rw [hst]
    unfold pkStep
    rw [h.kk, h.y, if_pos hh]
  refine ⟨by omega, by omega, by rw [← Nat.add_assoc, e1], by rw [← Nat.add_assoc, e1, subL_snoc hs, sumE_snoc], ?_, by rw [← Nat.add_assoc, e1]; exact h.p⟩
  rw [← Nat.add_assoc, pkL_at hal, e1]
  show pkPut (pkL most l (a + k)) ((pkSt most (l.take (a + k))).p, a + k) = _
  rw [h.ls, h.p, pkPut_last]
  congr 2
  rw [show List.range' a (k + 1) = List.range' a k ++ [a + 1 * k] from List.range'_concat]
  simp
theorem rfi_end {most : Nat} {l : List Nat} {a k : Nat} (h : RfI most l a k) (he : ∀ s, l[a + k]? = some s → pkHolds most (k + 1) (sumE (subL l a k) + pkE s) = false) : RfB most l (a + k) := fun s hs _ => by
  rw [h.kk, h.y]
  exact he s hs
theorem szN_sub {most : Nat} {l : List Nat} {a k s : Nat} (hs : l[a + k]? = some s) : pkHolds most (k + 1) (sumE (subL l a k) + pkE s) = (decide (k < 1024) && decide (szN (subL l a (k + 1)) ≤ most)) := by
  have hal : a + k < l.length := (List.getElem?_eq_some_iff.1 hs).1
  unfold pkHolds szN
  rw [subL_len (by omega), subL_snoc hs, sumE_snoc]
  congr 1
end Go.Proofs.Ytnbjhdlnibmgdaa

/-! Packs: the reference's Fill. -/
namespace Go.Proofs.Ytnbjhdlnibmgdaa
open Go.RowKit Codec

def RfR1 (w : World) (l : List Int) (i : Value) (wr : World) : Prop := ∃ j : Nat, j ≤ l.length ∧ i = .int .i64 (j : Int) ∧ (l.take j).all pkMay = true ∧ wr = w
def RfR2 (w : World) (M : Nat) (l : List Nat) (i : Value) (wr : World) : Prop := ∃ j : Nat, j ≤ l.length ∧ i = .int .i64 (j : Int) ∧ (l.take j).all (pkAlone M) = true ∧ Below w.heap.size w wr
structure RfO (w : World) (M : Nat) (l : List Nat) (a : Nat) (v : Value) (vs : List Value) (wr : World) : Prop where
  le : a ≤ l.length
  beg : RfB M l a
  n : PkN wr w.heap.size v vs (pkL M l a)
  bel : Below w.heap.size w wr
def RfR3 (w : World) (M : Nat) (l : List Nat) (v i : Value) (wr : World) : Prop := ∃ (a : Nat) (vs : List Value), i = .int .i64 (a : Int) ∧ RfO w M l a v vs wr
def RfR4 (w : World) (M : Nat) (l : List Nat) (a : Nat) (v : Value) (vs : List Value) (i : Value) (wr : World) : Prop := ∃ k : Nat, i = .int .i64 (k : Int) ∧ RfI M l a k ∧ RfO w M l a v vs wr
def RfR5 (w : World) (M : Nat) (l : List Nat) (a k : Nat) (v : Value) (vs : List Value) (wk : World) (u i : Value) (wr : World) : Prop :=
  ∃ j : Nat, j ≤ k ∧ i = .int .i64 (j : Int) ∧ wr.ownsRow wk.heap.size 3 1 u (List.range' a j).length (natV (List.range' a j)) ∧ RfO w M l a v vs wr ∧ Below wk.heap.size wk wr
theorem range_snoc (a j : Nat) : List.range' a (j + 1) = List.range' a j ++ [a + j] := by
  have : List.range' a (j + 1) = List.range' a j ++ [a + 1 * j] := List.range'_concat
  rw [this]
  simp
theorem RfO.below {w wr W : World} {M : Nat} {l : List Nat} {a : Nat} {v : Value} {vs : List Value} (h : RfO w M l a v vs wr) (hb : Below wr.heap.size wr W) : RfO w M l a v vs W :=
  ⟨h.le, h.beg, h.n.keep fun _ hg => hb.block _ (h.n.lt hg), h.bel.trans (hb.mono h.bel.size)⟩
theorem alls_take {α : Type} {l : List α} {q : α → Bool} {j : Nat} {x : α} (h : l[j]? = some x) : (l.take (j + 1)).all q = ((l.take j).all q && q x) := by rw [take_snoc h]; simp
theorem alls_false {α : Type} {l : List α} {q : α → Bool} {x : α} (hx : x ∈ l) (h : q x = false) : l.all q = false := by
  rw [Bool.eq_false_iff]
  intro h2
  rw [List.all_eq_true.1 h2 x hx] at h
  cases h
set_option maxHeartbeats 16000000 in
set_option maxRecDepth 100000 in
theorem prfill_any {w : World} {S : Nat → Prop} {A : Option Addr} {n c : Nat} {l : List Int} (h : Ints .i64 w S A n c l) (hn : n ≤ 1000000) (m : Int) (hm : -9223372036854775808 ≤ m ∧ m ≤ 9223372036854775807) :
    Calls Try.prog 13 #[.slice A n c, .int .i64 m] w fun e w' => FlPost w (fillL l m) (fillE l m) e w' := by
  by_cases h1 : m < 1
  · have HE : Hid (fillE l m = 1) := Lib.hid (by unfold fillE; rw [if_pos (.inl h1)])
    clear h hn hm
    go_enter Try.func13, Try.ntmps13
    go_wp2
    go_ret2
    exact flPost_no HE.out (by decide) (Below.refl _ _)
  by_cases h2 : m > 1048576
  · have HE : Hid (fillE l m = 1) := Lib.hid (by unfold fillE; rw [if_pos (.inr h2)])
    clear h hn hm
    go_enter Try.func13, Try.ntmps13
    go_wp2
    go_ret2
    exact flPost_no HE.out (by decide) (Below.refl _ _)
  have HE : Hid (fillE l m = if l.all pkMay = false then 1 else if l.all (fun s => pkAlone m.toNat s.toNat) = false then 13 else 0) := Lib.hid (by unfold fillE; rw [if_neg (by omega)])
  obtain ⟨M, rfl⟩ : ∃ M : Nat, m = (M : Int) := ⟨m.toNat, by omega⟩
  have HL := Lib.hid (And.intro h (And.intro h.len (And.intro hn (show M ≤ 1048576 by omega))))
  clear h hn hm
  go_enter Try.func13, Try.ntmps13
  go_upto_region 4 with fail
  go_loopw [6, 7] (fun i _ wr => RfR1 w l i wr) (fun i _ _ => n - (intOf i).toNat)
  case atStart => exact ⟨0, Nat.zero_le _, rfl, rfl, rfl⟩
  case round =>
    obtain ⟨j, hj, rfl, hall, hww⟩ := hrel
    have hww := hww.symm
    subst hww
    clear hww
    have HA := Lib.hid hall
    clear hall
    by_cases hlt : j < n
    · have hlt' : (j : Int) < (n : Int) := by omega
      have hjl : j < l.length := by have := HL.out.2.1; omega
      obtain ⟨b, off, rfl, _, hbl, hc⟩ := HL.out.1.row (by omega)
      have hc0 := hc j hlt
      obtain ⟨x, hx⟩ : ∃ x, x = l[j]?.getD 0 := ⟨_, rfl⟩
      have hxj : l[j]? = some x := by rw [hx, List.getElem?_eq_getElem hjl]; rfl
      rw [← hx] at hc0
      have hmy := prmay_any x w
      have hadd := IntWalk.i64_in ((j : Int) + 1) (by have := HL.out.2.2.1; omega)
      obtain ⟨Y, hY⟩ : ∃ Y, Y = pkMay x := ⟨_, rfl⟩
      rw [← hY] at hmy
      have HX := Lib.hid (And.intro hxj (And.intro hY hlt))
      clear hc hbl hx hxj hj hlt hjl hY
      cases hYc : Y with
      | false =>
        subst hYc
        go_wp2_with (go_at_call 33; refine hmy.mono ?_; clear hmy; rintro _ _ ⟨rfl, rfl⟩)
        go_ret2
        exact flPost_no (E := 1) (by rw [HE.out, if_pos (alls_false (List.mem_of_getElem? HX.out.1) HX.out.2.1.symm)]) (by decide) (Below.refl _ _)
      | true =>
        subst hYc
        go_wp2_with (go_at_call 33; refine hmy.mono ?_; clear hmy; rintro _ _ ⟨rfl, rfl⟩)
        go_roundw
        case rel => exact ⟨j + 1, by have h1 := HX.out.2.2; have h2 := HL.out.2.1; omega, by simp, by rw [alls_take HX.out.1, HA.out, ← HX.out.2.1]; rfl, rfl⟩
        case measure => have := HX.out.2.2; simp only [intOf]; omega
    · have hlt' : ¬ (j : Int) < (n : Int) := by omega
      have hmay : ∀ x ∈ l, 41 ≤ x ∧ x ≤ 65577 := fun x hx => by
        have h1 := HA.out
        rw [List.take_of_length_le (by have := HL.out.2.1; omega)] at h1
        have := List.all_eq_true.1 h1 x hx
        unfold pkMay at this
        simpa using this
      have hallm : l.all pkMay = true := by have h1 := HA.out; rw [List.take_of_length_le (by have := HL.out.2.1; omega)] at h1; exact h1
      have hnat := natI_nat fun x hx => by have := (hmay x hx).1; omega
      obtain ⟨ln, hln⟩ : ∃ ln, ln = l.map Int.toNat := ⟨_, rfl⟩
      rw [← hln] at hnat
      have hle : ∀ s ∈ ln, s ≤ 65577 := fun s hs => by
        rw [hln] at hs
        obtain ⟨x, hx, rfl⟩ := List.mem_map.1 hs
        have := hmay x hx
        omega
      have hll : ln.length = n := by rw [hln, List.length_map]; exact HL.out.2.1
      have HE2 : Hid (fillE l (M : Int) = if ln.all (pkAlone M) = false then 13 else 0) := Lib.hid (by
        rw [HE.out, if_neg (by rw [hallm]; simp), hln, Int.toNat_natCast, List.all_map]
        rfl)
      have HI : Hid (Ints .i64 w S A n c (natI ln) ∧ ln.length = n ∧ (∀ s ∈ ln, s ≤ 65577) ∧ n ≤ 1000000 ∧ M ≤ 1048576 ∧ ln = l.map Int.toNat) := Lib.hid ⟨HL.out.1.at_ hnat.symm, hll, hle, HL.out.2.2.1, HL.out.2.2.2, hln⟩
      clear hmay hallm hnat hln hle hll HE HL HA hj hlt
      go_upto_region 12 with fail
      clear hlt'
      go_loopw [10] (fun i wr => RfR2 w M ln i wr) (fun i _ => n - (intOf i).toNat)
      case atStart => exact ⟨0, Nat.zero_le _, rfl, rfl, Below.refl _ _⟩
      case round =>
        obtain ⟨j2, hj, rfl, hall, hb⟩ := hrel
        by_cases hlt : j2 < n
        · have hlt' : (j2 : Int) < (n : Int) := by omega
          have hjl : j2 < ln.length := by have := HI.out.2.1; omega
          have hadd := IntWalk.i64_in ((j2 : Int) + 1) (by have := HI.out.2.2.2.1; omega)
          obtain ⟨s, hs⟩ : ∃ s, ln[j2]? = some s := ⟨_, List.getElem?_eq_getElem hjl⟩
          have hsl := fun W => run_lh (P := Try.prog) 36 3 Try.underlying36 int_size A n c j2 (j2 + 1) (j2 : Int) ((j2 : Int) + 1) rfl (by simp) (by omega) (by have := HI.out.1.cap; omega) W
          have hpt := (HI.out.1.part (lo := j2) (hi := j2 + 1) (by omega) (by omega)).below hb
          rw [show j2 + 1 - j2 = 1 by omega] at hsl hpt
          rw [natI_part] at hpt
          have hsub : (ln.drop j2).take 1 = [s] := by
            have := subL_snoc (l := ln) (a := j2) (k := 0) (s := s) (by simpa using hs)
            simpa [subL] using this
          rw [hsub] at hpt
          obtain ⟨A1, hA1⟩ : ∃ A1, A1 = cutA A c j2 := ⟨_, rfl⟩
          obtain ⟨c1, hc1⟩ : ∃ c1, c1 = c - j2 := ⟨_, rfl⟩
          rw [← hA1, ← hc1] at hpt hsl
          have hsz := prsize_any hpt (by omega) fun x hx => by rw [List.mem_singleton.1 hx]; exact HI.out.2.2.1 s (List.mem_of_getElem? hs)
          obtain ⟨Z, hZ⟩ : ∃ Z, Z = szN [s] := ⟨_, rfl⟩
          rw [← hZ] at hsz
          have H := Lib.hid (And.intro hs (And.intro hb (And.intro hall (And.intro hlt (show decide (Z ≤ M) = pkAlone M s by rw [hZ]; exact szN_one s M)))))
          clear hs hb hall hlt hj hjl hpt hsub hA1 hc1 hZ
          by_cases hZM : M < Z
          · have hZM' : (Z : Int) > (M : Int) := by omega
            have HE3 : Hid (fillE l (M : Int) = 13) := Lib.hid (by
              have hf : ln.all (pkAlone M) = false := alls_false (List.mem_of_getElem? H.out.1) (by rw [← H.out.2.2.2.2]; simpa using hZM)
              rw [HE2.out, hf]
              rfl)
            clear hZM
            go_wp2_with (go_at_call 34; refine hsz.mono ?_; clear hsz; rintro _ w2 ⟨rfl, hb2⟩)
            go_ret2
            exact flPost_no HE3.out (by decide) (H.out.2.1.trans (hb2.mono H.out.2.1.size))
          · have hZM' : ¬ (Z : Int) > (M : Int) := by omega
            have HA2 : Hid (pkAlone M s = true) := Lib.hid (by rw [← H.out.2.2.2.2]; simpa using hZM)
            clear hZM
            go_wp2_with (go_at_call 34; refine hsz.mono ?_; clear hsz; rintro _ w2 ⟨rfl, hb2⟩; have HB2 := Lib.hid hb2; clear hb2)
            go_roundw
            case rel => exact ⟨j2 + 1, by have h1 := H.out.2.2.2.1; have h2 := HI.out.2.1; omega, by simp, by rw [alls_take H.out.1, H.out.2.2.1, HA2.out]; rfl, H.out.2.1.trans (HB2.out.mono H.out.2.1.size)⟩
            case measure => have := H.out.2.2.2.1; simp only [intOf]; omega
        · have hlt' : ¬ (j2 : Int) < (n : Int) := by omega
          have hal : ∀ s ∈ ln, pkAlone M s = true := fun s hs => by
            rw [List.take_of_length_le (by have := HI.out.2.1; omega)] at hall
            exact List.all_eq_true.1 hall s hs
          have HE3 : Hid (fillE l (M : Int) = 0 ∧ fillL l (M : Int) = fillM M ln ∧ ∀ s ∈ ln, pkAlone M s = true) := Lib.hid (by
            have e : fillE l (M : Int) = 0 := by rw [HE2.out, if_neg (by rw [Bool.not_eq_false]; exact List.all_eq_true.2 hal)]
            refine ⟨e, ?_, hal⟩
            unfold fillL
            rw [if_pos e, Int.toNat_natCast, ← HI.out.2.2.2.2.2])
          have H0 : Hid (RfR3 w M ln (.slice none 0 0) (.int .i64 0) wr) := Lib.hid ⟨0, [], rfl, Nat.zero_le _, fun _ _ h => absurd rfl h, by rw [pkL_zero]; exact PkN.nil _ _, hb⟩
          clear hal hall hb hj hlt HE2
          go_upto_region 16 with fail
          clear hlt'
          go_loopw [8, 9, 11, 12, 13] (fun v i _ _ _ wr => RfR3 w M ln v i wr) (fun _ i _ _ _ _ => n - (intOf i).toNat)
          case atStart => exact H0.out
          case round =>
            obtain ⟨a, vs, rfl, hO⟩ := hrel
            clear H0
            obtain ⟨v, hv8⟩ : ∃ v : Value, v = u8 := ⟨_, rfl⟩
            subst hv8
            have HO := Lib.hid hO
            clear hO
            by_cases hlt : a < n
            · have hlt' : (a : Int) < (n : Int) := by omega
              have hal : a < ln.length := by have := HI.out.2.1; omega
              obtain ⟨s0, hs0⟩ : ∃ s, ln[a]? = some s := ⟨_, List.getElem?_eq_getElem hal⟩
              have H4 : Hid (RfR4 w M ln a v vs (.int .i64 1) wr) := Lib.hid ⟨1, rfl, rfi_one HE3.out.2.2 hs0 HO.out.beg, HO.out⟩
              clear hs0 hal hlt HO
              go_upto_region 18 with fail
              clear hlt'
              go_loopw [11] (fun i wr => RfR4 w M ln a v vs i wr) (fun i _ => n - (intOf i).toNat)
              case atStart => exact H4.out
              case round =>
                obtain ⟨k, rfl, hK, hO⟩ := hrel
                clear H4
                have HO := Lib.hid hO
                have HRK := Lib.hid hK
                have hak := IntWalk.i64_in ((a : Int) + (k : Int)) (by have h1 := HI.out.2.2.2.1; have h2 := HI.out.2.1; have h3 := hK.le; omega)
                clear hO hK
                by_cases h1 : a + k < n
                case neg =>
                  have hd1 : decide ((a : Int) + (k : Int) < (n : Int)) = false := by simp; omega
                  have HRB : Hid (RfB M ln (a + k)) := Lib.hid (rfi_end HRK.out fun s hs => by have h2 := (List.getElem?_eq_some_iff.1 hs).1; have h3 := HI.out.2.1; omega)
                  clear h1
                  have HVB : Hid (∀ g, PkN.Own v vs g → g < wr.heap.size) := Lib.hid fun g hg => HO.out.n.lt hg
                  have HBW : Hid (w.heap.size ≤ wr.heap.size) := Lib.hid HO.out.bel.size
                  have H5 : Hid (RfR5 w M ln a k v vs wr (.slice none 0 0) (.int .i64 0) wr) := Lib.hid ⟨0, Nat.zero_le _, rfl, by simpa [natV] using World.ownsRow_nil _ _ _ _, HO.out, Below.refl _ _⟩
                  clear HO
                  go_upto_region 22 with fail
                  obtain ⟨wk, hwk⟩ : ∃ wk, wk = wr := ⟨_, rfl⟩
                  rw [← hwk] at HVB HBW H5 ⊢
                  clear hwk hak hd1
                  go_loopw [12, 13] (fun u i wr => RfR5 w M ln a k v vs wk u i wr) (fun _ i _ => k - (intOf i).toNat)
                  case atStart => exact H5.out
                  case round =>
                    obtain ⟨j5, hj5, rfl, hown5, hO5, hb5⟩ := hrel
                    clear H5
                    obtain ⟨A5, c5, rfl⟩ := pk_slice hown5
                    have hrl : (List.range' a j5).length = j5 := List.length_range'
                    by_cases hlt5 : j5 < k
                    · have hlt5' : (j5 : Int) < (k : Int) := by omega
                      have hadd5 := IntWalk.i64_in ((j5 : Int) + 1) (by have h1 := HI.out.2.2.2.1; have h2 := HI.out.2.1; have h3 := HRK.out.le; omega)
                      have haj := IntWalk.i64_in ((a : Int) + (j5 : Int)) (by have h1 := HI.out.2.2.2.1; have h2 := HI.out.2.1; have h3 := HRK.out.le; omega)
                      obtain ⟨A6, c6, w6, hrun, hown6, hb6⟩ := pki_push hown5 (a + j5) hb5.size (by have h1 := HI.out.2.2.2.1; have h2 := HI.out.2.1; have h3 := HRK.out.le; omega)
                      rw [← range_snoc] at hown6
                      rw [Int.natCast_add] at hrun
                      rw [hrl] at hrun
                      have hown6' : w6.ownsRow wk.heap.size 3 1 (.slice A6 (j5 + 1) c6) (List.range' a (j5 + 1)).length (natV (List.range' a (j5 + 1))) := by rw [hrl] at hown6; exact hown6
                      have H6 : Hid (RfR5 w M ln a k v vs wk (.slice A6 (j5 + 1) c6) (.int .i64 ((j5 : Int) + 1)) w6) := Lib.hid ⟨j5 + 1, hlt5, by simp, hown6', ⟨hO5.le, hO5.beg, hO5.n.keep fun g hg => hb6.block g (HVB.out g hg), hO5.bel.trans (hb6.mono HBW.out)⟩, hb5.trans hb6⟩
                      have HLT := Lib.hid hlt5
                      rw [hrl]
                      clear hown5 hO5 hb5 hown6 hown6' hb6 hj5 hlt5 hrl
                      go_wp2_with (at_builtin; refine wpList_app (by rfl) _ _ 36 (by rfl) (by rfl) (by rfl) hrun ?_)
                      go_roundw
                      case rel => exact H6.out
                      case measure => have := HLT.out; simp only [intOf]; omega
                    · have hlt5' : ¬ (j5 : Int) < (k : Int) := by omega
                      obtain rfl : j5 = k := by omega
                      obtain ⟨A7, c7, w7, hrun, hn7, hb7⟩ := pks_push hO5.n (own_base hown5 HBW.out) (fun g hg h => by have h1 := (hown5.lt g hg).1; have h2 := HVB.out g h; omega) (by have := HBW.out; have := hb5.size; omega) (by have h3 := (pkL_short (most := M) (l := ln) a hO5.le).1; have h1 := HI.out.2.2.2.1; have h2 := HI.out.2.1; have h4 := hO5.le; omega) rfl
                      rw [hrl] at hrun
                      obtain ⟨LS, hLS⟩ : ∃ LS, LS = (pkL M ln a).length := ⟨_, rfl⟩
                      rw [← hLS] at hrun hn7
                      obtain ⟨Av, cv, hv⟩ := pk_slice hO5.n.out
                      have haj := IntWalk.i64_in ((a : Int) + (j5 : Int)) (by have h1 := HI.out.2.2.2.1; have h2 := HI.out.2.1; have h3 := HRK.out.le; omega)
                      have H7 : Hid (RfR3 w M ln (.slice A7 (LS + 1) c7) (.int .i64 ((a : Int) + (j5 : Int))) w7) := Lib.hid ⟨a + j5, _, by simp, HRK.out.le, HRB.out, by rw [HRK.out.ls]; exact hn7, hO5.bel.trans hb7⟩
                      rw [hrl]
                      subst hv
                      clear hown5 hO5 hb5 hn7 hb7 hj5 hlt5 hrl hLS
                      generalize vs.length = vn at *
                      go_wp2_with (at_builtin; refine wpList_app (by rfl) _ _ 37 (by rfl) (by rfl) (by rfl) hrun ?_)
                      go_roundw
                      case rel => exact H7.out
                      case measure => have h1 := HRK.out.pos; have h2 := HRK.out.le; have h3 := HI.out.2.1; simp only [intOf]; omega
                have hd1 : decide ((a : Int) + (k : Int) < (n : Int)) = true := by simp; omega
                obtain ⟨s, hs⟩ : ∃ s, ln[a + k]? = some s := ⟨_, List.getElem?_eq_getElem (by have := HI.out.2.1; omega)⟩
                by_cases h2 : k < 1024
                case neg =>
                  have hd2 : decide ((k : Int) < 1024) = false := by simp; omega
                  have HRB : Hid (RfB M ln (a + k)) := Lib.hid (rfi_end HRK.out fun s hs => by rw [szN_sub hs, decide_eq_false h2]; rfl)
                  clear h1 h2 hs
                  have HVB : Hid (∀ g, PkN.Own v vs g → g < wr.heap.size) := Lib.hid fun g hg => HO.out.n.lt hg
                  have HBW : Hid (w.heap.size ≤ wr.heap.size) := Lib.hid HO.out.bel.size
                  have H5 : Hid (RfR5 w M ln a k v vs wr (.slice none 0 0) (.int .i64 0) wr) := Lib.hid ⟨0, Nat.zero_le _, rfl, by simpa [natV] using World.ownsRow_nil _ _ _ _, HO.out, Below.refl _ _⟩
                  clear HO
                  go_upto_region 22 with fail
                  obtain ⟨wk, hwk⟩ : ∃ wk, wk = wr := ⟨_, rfl⟩
                  rw [← hwk] at HVB HBW H5 ⊢
                  clear hwk hak hd1 hd2
                  go_loopw [12, 13] (fun u i wr => RfR5 w M ln a k v vs wk u i wr) (fun _ i _ => k - (intOf i).toNat)
                  case atStart => exact H5.out
                  case round =>
                    obtain ⟨j5, hj5, rfl, hown5, hO5, hb5⟩ := hrel
                    clear H5
                    obtain ⟨A5, c5, rfl⟩ := pk_slice hown5
                    have hrl : (List.range' a j5).length = j5 := List.length_range'
                    by_cases hlt5 : j5 < k
                    · have hlt5' : (j5 : Int) < (k : Int) := by omega
                      have hadd5 := IntWalk.i64_in ((j5 : Int) + 1) (by have h1 := HI.out.2.2.2.1; have h2 := HI.out.2.1; have h3 := HRK.out.le; omega)
                      have haj := IntWalk.i64_in ((a : Int) + (j5 : Int)) (by have h1 := HI.out.2.2.2.1; have h2 := HI.out.2.1; have h3 := HRK.out.le; omega)
                      obtain ⟨A6, c6, w6, hrun, hown6, hb6⟩ := pki_push hown5 (a + j5) hb5.size (by have h1 := HI.out.2.2.2.1; have h2 := HI.out.2.1; have h3 := HRK.out.le; omega)
                      rw [← range_snoc] at hown6
                      rw [Int.natCast_add] at hrun
                      rw [hrl] at hrun
                      have hown6' : w6.ownsRow wk.heap.size 3 1 (.slice A6 (j5 + 1) c6) (List.range' a (j5 + 1)).length (natV (List.range' a (j5 + 1))) := by rw [hrl] at hown6; exact hown6
                      have H6 : Hid (RfR5 w M ln a k v vs wk (.slice A6 (j5 + 1) c6) (.int .i64 ((j5 : Int) + 1)) w6) := Lib.hid ⟨j5 + 1, hlt5, by simp, hown6', ⟨hO5.le, hO5.beg, hO5.n.keep fun g hg => hb6.block g (HVB.out g hg), hO5.bel.trans (hb6.mono HBW.out)⟩, hb5.trans hb6⟩
                      have HLT := Lib.hid hlt5
                      rw [hrl]
                      clear hown5 hO5 hb5 hown6 hown6' hb6 hj5 hlt5 hrl
                      go_wp2_with (at_builtin; refine wpList_app (by rfl) _ _ 36 (by rfl) (by rfl) (by rfl) hrun ?_)
                      go_roundw
                      case rel => exact H6.out
                      case measure => have := HLT.out; simp only [intOf]; omega
                    · have hlt5' : ¬ (j5 : Int) < (k : Int) := by omega
                      obtain rfl : j5 = k := by omega
                      obtain ⟨A7, c7, w7, hrun, hn7, hb7⟩ := pks_push hO5.n (own_base hown5 HBW.out) (fun g hg h => by have h1 := (hown5.lt g hg).1; have h2 := HVB.out g h; omega) (by have := HBW.out; have := hb5.size; omega) (by have h3 := (pkL_short (most := M) (l := ln) a hO5.le).1; have h1 := HI.out.2.2.2.1; have h2 := HI.out.2.1; have h4 := hO5.le; omega) rfl
                      rw [hrl] at hrun
                      obtain ⟨LS, hLS⟩ : ∃ LS, LS = (pkL M ln a).length := ⟨_, rfl⟩
                      rw [← hLS] at hrun hn7
                      obtain ⟨Av, cv, hv⟩ := pk_slice hO5.n.out
                      have haj := IntWalk.i64_in ((a : Int) + (j5 : Int)) (by have h1 := HI.out.2.2.2.1; have h2 := HI.out.2.1; have h3 := HRK.out.le; omega)
                      have H7 : Hid (RfR3 w M ln (.slice A7 (LS + 1) c7) (.int .i64 ((a : Int) + (j5 : Int))) w7) := Lib.hid ⟨a + j5, _, by simp, HRK.out.le, HRB.out, by rw [HRK.out.ls]; exact hn7, hO5.bel.trans hb7⟩
                      rw [hrl]
                      subst hv
                      clear hown5 hO5 hb5 hn7 hb7 hj5 hlt5 hrl hLS
                      generalize vs.length = vn at *
                      go_wp2_with (at_builtin; refine wpList_app (by rfl) _ _ 37 (by rfl) (by rfl) (by rfl) hrun ?_)
                      go_roundw
                      case rel => exact H7.out
                      case measure => have h1 := HRK.out.pos; have h2 := HRK.out.le; have h3 := HI.out.2.1; simp only [intOf]; omega
                have hd2 : decide ((k : Int) < 1024) = true := by simp; omega
                have hak1 := IntWalk.i64_in ((a : Int) + (k : Int) + 1) (by have h1 := HI.out.2.2.2.1; have h2 := HI.out.2.1; have h3 := HRK.out.le; omega)
                have hk1 := IntWalk.i64_in ((k : Int) + 1) (by have h1 := HI.out.2.2.2.1; have h2 := HI.out.2.1; have h3 := HRK.out.le; omega)
                have hsl := fun W => run_lh (P := Try.prog) 36 3 Try.underlying36 int_size A n c a (a + k + 1) (a : Int) ((a : Int) + (k : Int) + 1) rfl (by simp) (by omega) (by have := HI.out.1.cap; omega) W
                have hpt := (HI.out.1.part (lo := a) (hi := a + k + 1) (by omega) (by omega)).below HO.out.bel
                rw [show a + k + 1 - a = k + 1 by omega] at hsl hpt
                rw [natI_part] at hpt
                obtain ⟨A1, hA1⟩ : ∃ A1, A1 = cutA A c a := ⟨_, rfl⟩
                obtain ⟨c1, hc1⟩ : ∃ c1, c1 = c - a := ⟨_, rfl⟩
                obtain ⟨k1, hk1n⟩ : ∃ k1, k1 = k + 1 := ⟨_, rfl⟩
                rw [← hA1, ← hc1] at hpt hsl
                have hsz := prsize_any hpt (by have := HI.out.2.2.2.1; omega) fun x hx => HI.out.2.2.1 x (List.mem_of_mem_drop (List.mem_of_mem_take hx))
                have hhq : pkHolds M (k + 1) (sumE (subL ln a k) + pkE s) = decide (szN ((ln.drop a).take (k + 1)) ≤ M) := by
                  rw [szN_sub hs, decide_eq_true h2, Bool.true_and]
                  rfl
                obtain ⟨Z, hZ⟩ : ∃ Z, Z = szN ((ln.drop a).take (k + 1)) := ⟨_, rfl⟩
                rw [← hZ] at hsz hhq
                rw [← hk1n] at hsz hsl
                have HQ := Lib.hid (And.intro hs (And.intro hhq h1))
                clear hpt hA1 hc1 hZ hhq hs h1 h2 hk1n
                by_cases hZM : Z ≤ M
                case neg =>
                  have hdz : decide (Z ≤ M) = false := by simpa using hZM
                  have HRB : Hid (RfB M ln (a + k)) := Lib.hid (rfi_end HRK.out fun s' hs' => by
                    have e : s = s' := by have h3 := HQ.out.1; rw [h3] at hs'; exact Option.some.inj hs'
                    rw [← e, HQ.out.2.1, decide_eq_false hZM])
                  clear hZM
                  go_upto_region 20 with (go_at_call 34; refine hsz.mono ?_; clear hsz; rintro _ w2 ⟨rfl, hb2⟩; have HO2 := Lib.hid (HO.out.below hb2); clear hb2)
                  clear HO
                  have HO := HO2
                  clear HO2
                  have HVB : Hid (∀ g, PkN.Own v vs g → g < w2.heap.size) := Lib.hid fun g hg => HO.out.n.lt hg
                  have HBW : Hid (w.heap.size ≤ w2.heap.size) := Lib.hid HO.out.bel.size
                  have H5 : Hid (RfR5 w M ln a k v vs w2 (.slice none 0 0) (.int .i64 0) w2) := Lib.hid ⟨0, Nat.zero_le _, rfl, by simpa [natV] using World.ownsRow_nil _ _ _ _, HO.out, Below.refl _ _⟩
                  clear HO
                  go_upto_region 22 with fail
                  obtain ⟨wk, hwk⟩ : ∃ wk, wk = w2 := ⟨_, rfl⟩
                  rw [← hwk] at HVB HBW H5 ⊢
                  clear hwk hak hd1 hd2 hak1 hk1 hsl hdz
                  go_loopw [12, 13] (fun u i wr => RfR5 w M ln a k v vs wk u i wr) (fun _ i _ => k - (intOf i).toNat)
                  case atStart => exact H5.out
                  case round =>
                    obtain ⟨j5, hj5, rfl, hown5, hO5, hb5⟩ := hrel
                    clear H5
                    obtain ⟨A5, c5, rfl⟩ := pk_slice hown5
                    have hrl : (List.range' a j5).length = j5 := List.length_range'
                    by_cases hlt5 : j5 < k
                    · have hlt5' : (j5 : Int) < (k : Int) := by omega
                      have hadd5 := IntWalk.i64_in ((j5 : Int) + 1) (by have h1 := HI.out.2.2.2.1; have h2 := HI.out.2.1; have h3 := HRK.out.le; omega)
                      have haj := IntWalk.i64_in ((a : Int) + (j5 : Int)) (by have h1 := HI.out.2.2.2.1; have h2 := HI.out.2.1; have h3 := HRK.out.le; omega)
                      obtain ⟨A6, c6, w6, hrun, hown6, hb6⟩ := pki_push hown5 (a + j5) hb5.size (by have h1 := HI.out.2.2.2.1; have h2 := HI.out.2.1; have h3 := HRK.out.le; omega)
                      rw [← range_snoc] at hown6
                      rw [Int.natCast_add] at hrun
                      rw [hrl] at hrun
                      have hown6' : w6.ownsRow wk.heap.size 3 1 (.slice A6 (j5 + 1) c6) (List.range' a (j5 + 1)).length (natV (List.range' a (j5 + 1))) := by rw [hrl] at hown6; exact hown6
                      have H6 : Hid (RfR5 w M ln a k v vs wk (.slice A6 (j5 + 1) c6) (.int .i64 ((j5 : Int) + 1)) w6) := Lib.hid ⟨j5 + 1, hlt5, by simp, hown6', ⟨hO5.le, hO5.beg, hO5.n.keep fun g hg => hb6.block g (HVB.out g hg), hO5.bel.trans (hb6.mono HBW.out)⟩, hb5.trans hb6⟩
                      have HLT := Lib.hid hlt5
                      rw [hrl]
                      clear hown5 hO5 hb5 hown6 hown6' hb6 hj5 hlt5 hrl
                      go_wp2_with (at_builtin; refine wpList_app (by rfl) _ _ 36 (by rfl) (by rfl) (by rfl) hrun ?_)
                      go_roundw
                      case rel => exact H6.out
                      case measure => have := HLT.out; simp only [intOf]; omega
                    · have hlt5' : ¬ (j5 : Int) < (k : Int) := by omega
                      obtain rfl : j5 = k := by omega
                      obtain ⟨A7, c7, w7, hrun, hn7, hb7⟩ := pks_push hO5.n (own_base hown5 HBW.out) (fun g hg h => by have h1 := (hown5.lt g hg).1; have h2 := HVB.out g h; omega) (by have := HBW.out; have := hb5.size; omega) (by have h3 := (pkL_short (most := M) (l := ln) a hO5.le).1; have h1 := HI.out.2.2.2.1; have h2 := HI.out.2.1; have h4 := hO5.le; omega) rfl
                      rw [hrl] at hrun
                      obtain ⟨LS, hLS⟩ : ∃ LS, LS = (pkL M ln a).length := ⟨_, rfl⟩
                      rw [← hLS] at hrun hn7
                      obtain ⟨Av, cv, hv⟩ := pk_slice hO5.n.out
                      have haj := IntWalk.i64_in ((a : Int) + (j5 : Int)) (by have h1 := HI.out.2.2.2.1; have h2 := HI.out.2.1; have h3 := HRK.out.le; omega)
                      have H7 : Hid (RfR3 w M ln (.slice A7 (LS + 1) c7) (.int .i64 ((a : Int) + (j5 : Int))) w7) := Lib.hid ⟨a + j5, _, by simp, HRK.out.le, HRB.out, by rw [HRK.out.ls]; exact hn7, hO5.bel.trans hb7⟩
                      rw [hrl]
                      subst hv
                      clear hown5 hO5 hb5 hn7 hb7 hj5 hlt5 hrl hLS
                      generalize vs.length = vn at *
                      go_wp2_with (at_builtin; refine wpList_app (by rfl) _ _ 37 (by rfl) (by rfl) (by rfl) hrun ?_)
                      go_roundw
                      case rel => exact H7.out
                      case measure => have h1 := HRK.out.pos; have h2 := HRK.out.le; have h3 := HI.out.2.1; simp only [intOf]; omega
                have hdz : decide (Z ≤ M) = true := by simpa using hZM
                have HH : Hid (pkHolds M (k + 1) (sumE (subL ln a k) + pkE s) = true) := Lib.hid (by rw [HQ.out.2.1, decide_eq_true hZM])
                clear hZM
                go_wp2_with (go_at_call 34; refine hsz.mono ?_; clear hsz; rintro _ w2 ⟨rfl, hb2⟩; have HO2 := Lib.hid (HO.out.below hb2); clear hb2)
                go_roundw
                case rel => exact ⟨k + 1, by simp, rfi_more HRK.out HQ.out.1 HH.out, HO2.out⟩
                case measure => have h3 := HQ.out.2.2; simp only [intOf]; omega
            · have hlt' : ¬ (a : Int) < (n : Int) := by omega
              have han : a = ln.length := by have h1 := HO.out.le; have h2 := HI.out.2.1; omega
              obtain ⟨A8, c8, hv, hns⟩ := HO.out.n.nst fun r hr x hx => by
                have h4 := ((pkL_short (most := M) (l := ln) a HO.out.le).2 r hr).2 x hx
                have h5 := HI.out.2.2.2.1
                have h6 := HI.out.2.1
                omega
              rw [han, pkL_all] at hns hv
              obtain ⟨R, hR⟩ : ∃ R, R = fillM M ln := ⟨_, rfl⟩
              rw [← hR] at hns hv
              have HNS := Lib.hid (And.intro hns (And.intro HO.out.bel hR))
              subst hv
              clear hns hR han hlt HO
              obtain ⟨rn, hrn⟩ : ∃ rn, rn = R.length := ⟨_, rfl⟩
              rw [← hrn]
              have HRN := Lib.hid hrn
              clear hrn
              go_wp2
              go_ret2
              rw [HE3.out.1, HE3.out.2.1, ← HNS.out.2.2]
              exact ⟨A8, c8, by rw [← HRN.out]; rfl, HNS.out.1, HNS.out.2.1⟩
end Go.Proofs.Ytnbjhdlnibmgdaa

/-! The law PacksFills. -/
namespace Go.Proofs.Ytnbjhdlnibmgdaa
open Go.RowKit Codec

theorem Nst.at_ {w : World} {S : Nat → Prop} {A : Option Addr} {n c : Nat} {ls : List (List Nat)} (h : Nst w S A n c ls) {i : Nat} (hi : i < n) : ∃ b off r Ai ci, A = some ⟨b, off, none⟩ ∧ ls[i]? = some r ∧ w.cell? ⟨b, off + i, none⟩ = some (.slice Ai r.length ci) ∧ Ints .i64 w S Ai r.length ci (natI r) := by
  obtain ⟨b, off, hA, _, _, hc⟩ := h.row (by omega)
  obtain ⟨Ai, ci, h1, h2⟩ := hc i hi
  exact ⟨b, off, _, Ai, ci, hA, by rw [List.getElem?_eq_getElem (by have := h.len; omega)]; rfl, h1, h2⟩
theorem Ints.at2 {w : World} {S : Nat → Prop} {A : Option Addr} {n c : Nat} {r : List Nat} (h : Ints .i64 w S A n c (natI r)) {j : Nat} (hj : j < n) : ∃ b off x, A = some ⟨b, off, none⟩ ∧ r[j]? = some x ∧ w.cell? ⟨b, off + j, none⟩ = some (.int .i64 (x : Int)) := by
  obtain ⟨b, off, hA, _, _, hc⟩ := h.row (by omega)
  have hl : j < r.length := by have := h.len; simp [natI] at this; omega
  refine ⟨b, off, r[j]?.getD 0, hA, by rw [List.getElem?_eq_getElem hl]; rfl, ?_⟩
  rw [hc j hj]
  unfold natI
  rw [List.getElem?_map, List.getElem?_eq_getElem hl]
  rfl
theorem fillL_short (l : List Int) (m : Int) (n : Nat) (hn : l.length = n) : (fillL l m).length ≤ n ∧ ∀ r ∈ fillL l m, r.length ≤ n := by
  unfold fillL
  split
  · have h := pkL_short (most := m.toNat) (l := l.map Int.toNat) n (by rw [List.length_map]; omega)
    rw [show pkL m.toNat (l.map Int.toNat) n = fillM m.toNat (l.map Int.toNat) by rw [← pkL_all, List.length_map, hn]] at h
    exact ⟨h.1, fun r hr => (h.2 r hr).1⟩
  · exact ⟨Nat.zero_le _, fun r hr => by simp at hr⟩
def PfR (w : World) (n : Nat) (i : Value) (wr : World) : Prop := ∃ j k : Nat, j ≤ n ∧ i = .int .i64 (j : Int) ∧ wr = w.drewN k
set_option maxHeartbeats 16000000 in
set_option maxRecDepth 100000 in
theorem law_pfills {w : World} {S : Nat → Prop} {A : Option Addr} {n c : Nat} {l : List Int} (h : Ints .i64 w S A n c l) {m : Int} (hm : (Lit.int .i64 m).wf = true) :
    Calls Try.prog 4 #[.slice A n c, .int .i64 m] w fun e w' => e = .returned (.bool true) ∧ Below w.heap.size w w' := by
  have haw := pkawake_true w
  have hmb : -9223372036854775808 ≤ m ∧ m ≤ 9223372036854775807 := by
    have hm' : (decide (IntKind.i64.min ≤ m) && decide (m ≤ IntKind.i64.max)) = true := hm
    rw [show IntKind.i64.min = -9223372036854775808 by decide, show IntKind.i64.max = 9223372036854775807 by decide] at hm'
    simp at hm'
    exact hm'
  have HB := Lib.hid (And.intro h hmb)
  clear h hm hmb
  by_cases hbig : n > 200
  · have hb' : (n : Int) > 200 := by omega
    clear hbig
    go_enter Try.func4, Try.ntmps4
    go_wp2_with (go_at_call 6; refine haw.mono ?_; clear haw; rintro _ w1 ⟨rfl, hb1⟩)
    go_ret
    exact ⟨rfl, hb1⟩
  have hb' : ¬ (n : Int) > 200 := by omega
  have HN : Hid (n ≤ 200) := Lib.hid (by omega)
  clear hbig
  go_enter Try.func4, Try.ntmps4
  go_upto_region 6 with (go_at_call 6; refine haw.mono ?_; clear haw; rintro _ w1 ⟨rfl, hb1⟩)
  have HB1 := Lib.hid hb1
  have hf := pfill_any (HB.out.1.below hb1) (by have := HN.out; omega) m HB.out.2
  have hrf := fun (W : World) (hb : Below w.heap.size w W) => prfill_any (HB.out.1.below hb) (by have := HN.out; omega) m HB.out.2
  obtain ⟨R, hR⟩ : ∃ R, R = fillL l m := ⟨_, rfl⟩
  obtain ⟨E, hE⟩ : ∃ E, E = fillE l m := ⟨_, rfl⟩
  have HSH : Hid (R.length ≤ n ∧ ∀ r ∈ R, r.length ≤ n) := Lib.hid (by rw [hR]; exact fillL_short l m n HB.out.1.len)
  rw [← hR, ← hE] at hf hrf
  clear hR hE hb1
  have hf2 : Calls Try.prog 12 #[.slice A n c, .int .i64 m] w1 fun e w' => ∃ Ag cg, e = .returned (.tuple #[.slice Ag R.length cg, .int .i64 E]) ∧ Nst w' (w1.heap.size ≤ ·) Ag R.length cg R ∧ Below w1.heap.size w1 w' := hf
  have hrf2 : ∀ (W : World), Below w.heap.size w W → Calls Try.prog 13 #[.slice A n c, .int .i64 m] W fun e w' => ∃ Ag cg, e = .returned (.tuple #[.slice Ag R.length cg, .int .i64 E]) ∧ Nst w' (W.heap.size ≤ ·) Ag R.length cg R ∧ Below W.heap.size W w' := hrf
  clear hf hrf
  obtain ⟨M, hM⟩ : ∃ M, M = R.length := ⟨_, rfl⟩
  rw [← hM] at hf2 hrf2
  have HM2 : Hid (M ≤ 200) := Lib.hid (by rw [hM]; exact Nat.le_trans HSH.out.1 HN.out)
  have HRW : Hid (∀ r ∈ R, r.length ≤ 200) := Lib.hid fun r hr => Nat.le_trans (HSH.out.2 r hr) HN.out
  have HM := Lib.hid hM
  clear hM
  go_upto_region 7 with (go_at_call 12; refine hf2.mono ?_; clear hf2; rintro _ w2 ⟨Ag, cg, rfl, hfl, hb2⟩)
  have HB2 := Lib.hid (HB1.out.trans (hb2.mono HB1.out.size))
  have HF2 := Lib.hid hfl
  have hrf3 := hrf2 w2 HB2.out
  have hee : (E != E) = false := by simp
  have hmm : ((M : Int) != (M : Int)) = false := by simp
  clear hb2 hfl hrf2
  go_upto_region 11 with (go_at_call 13; refine hrf3.mono ?_; clear hrf3; rintro _ w3 ⟨Am, cm, rfl, hfm, hb3⟩; have H3 := Lib.hid (And.intro (HB2.out.trans (hb3.mono HB2.out.size)) (And.intro (HF2.out.below hb3) hfm)); clear hb3 hfm HF2)
  clear hee hmm
  go_loopw [10, 11] (fun i _ wr => PfR w3 M i wr) (fun i _ _ => M - (intOf i).toNat)
  case atStart => exact ⟨0, 0, Nat.zero_le _, rfl, rfl⟩
  case round =>
    obtain ⟨i, k, hi, rfl, rfl⟩ := hrel
    by_cases hlt : i < M
    · have hlt' : (i : Int) < (M : Int) := by omega
      obtain ⟨b1, o1, r, A1, c1, rfl, hr1, hc1, hi1⟩ := H3.out.2.1.at_ hlt
      obtain ⟨b2, o2, r2, A2, c2, rfl, hr2, hc2, hi2⟩ := H3.out.2.2.at_ hlt
      obtain rfl : r = r2 := by rw [hr1] at hr2; exact Option.some.inj hr2
      obtain ⟨rn, hrn⟩ : ∃ rn, rn = r.length := ⟨_, rfl⟩
      rw [← hrn] at hc1 hc2 hi1 hi2
      have hd1 : ∀ k, (w3.drewN k).cell? ⟨b1, o1 + i, none⟩ = some (.slice A1 rn c1) := fun _ => hc1
      have hd2 : ∀ k, (w3.drewN k).cell? ⟨b2, o2 + i, none⟩ = some (.slice A2 rn c2) := fun _ => hc2
      have hnn : ((rn : Int) != (rn : Int)) = false := by simp
      have HI := Lib.hid (And.intro hi1 (And.intro hi2 hlt))
      have hi1l := Lib.hid (show rn < 4611686018427387904 by have h1 := hi1.len; have h2 := hi1.cap; have h3 := hi1.max; rw [hrn]; have h4 := HRW.out r (List.mem_of_getElem? hr1); omega)
      have hpli : i < M := hlt
      clear hi1 hi2 hr1 hr2 hc1 hc2 hlt hi hrn
      go_upto_region 13 with fail
      go_quiet (fail)
      go_upto_region 16 with fail
      clear hnn
      go_loopw [11] (fun j wr => PfR w3 rn j wr) (fun j _ => rn - (intOf j).toNat)
      case atStart => exact ⟨0, k + nq, Nat.zero_le _, rfl, by simp [World.drewN, Nat.add_assoc]⟩
      case round =>
        obtain ⟨j, k2, hj, rfl, rfl⟩ := hrel
        by_cases hlj : j < rn
        · have hlj' : (j : Int) < (rn : Int) := by omega
          obtain ⟨b3, o3, x, rfl, hx, hc3⟩ := HI.out.1.at2 hlj
          obtain ⟨b4, o4, x2, rfl, hx2, hc4⟩ := HI.out.2.1.at2 hlj
          obtain rfl : x = x2 := by rw [hx] at hx2; exact Option.some.inj hx2
          have hd3 : ∀ k, (w3.drewN k).cell? ⟨b3, o3 + j, none⟩ = some (.int .i64 (x : Int)) := fun _ => hc3
          have hd4 : ∀ k, (w3.drewN k).cell? ⟨b4, o4 + j, none⟩ = some (.int .i64 (x : Int)) := fun _ => hc4
          have hxx : ((x : Int) != (x : Int)) = false := by simp
          have hadd := IntWalk.i64_in ((j : Int) + 1) (by have := hi1l.out; omega)
          have HJ := Lib.hid hlj
          clear hx hx2 hc3 hc4 hj
          go_upto_region 18 with fail
          go_quiet (fail)
          go_wp2_with fail
          exact ⟨⟨j + 1, _, by have := HJ.out; omega, by simp, rfl⟩, by have := HJ.out; simp only [intOf]; omega⟩
        · have hlj' : ¬ (j : Int) < (rn : Int) := by omega
          have hadd := IntWalk.i64_in ((i : Int) + 1) (by have := HM2.out; omega)
          clear hj hlj
          go_wp2_with fail
          exact ⟨⟨i + 1, _, by have := HI.out.2.2; omega, by simp, rfl⟩, by have := HI.out.2.2; simp only [intOf]; omega⟩
    · have hlt' : ¬ (i : Int) < (M : Int) := by omega
      go_wp2
      go_ret
      exact ⟨rfl, below_drewN H3.out.1 _⟩
end Go.Proofs.Ytnbjhdlnibmgdaa
