/-
  The code's bag: a message that is put in.
-/
import Derived.Test.YtogfblfekedefaaBagNode
import Derived.Test.YtogfblfekedefaaRegionD
import Derived.Test.YtogfblfekedefaaEffRow
import Derived.Deep.AppendLies
namespace Go.Proofs.Ytogfblfekedefaa
open Go.RowKit

section
variable {W : World} {S : Nat → Prop} {p : Nat} {v : Value} {xs : List Am} {x : Am}
theorem Ams.inS (h : Ams W S p v xs) (hx : x ∈ xs) (h0 : 0 < x.n) : S x.q ∧ x.q ≠ p ∧ v.ownBlock ≠ some x.q ∧ x.q < W.heap.size := by
  obtain ⟨b, off, _, ⟨rfl, h1, h2, h3⟩, hb, _⟩ := (h.byt x hx).row h0
  exact ⟨h1, h2, h3, hb⟩
/-- One more. -/
theorem Ams.push (h : Ams W S p v xs) (hp : p < W.heap.size) (hf : xs.length ≤ 1000000) (hx : Byt W (fun k => k = x.q ∧ ¬ S k ∧ k ≠ p) x.A x.n x.c x.m.b) (ty : TypeId) :
    ∃ A' c' W2, (Builtin.append_ #[55, 55] ty #[v, .slice (some ⟨W.heap.size, 0, none⟩) 1 1]).run Try.prog (W.alloc (.cells (agV x.m.f x.m.t x.A x.n x.c x.m.a) 60)) = .ok (.slice A' (xs.length + 1) c') W2 ∧
      Ams W2 (fun k => S k ∨ k = x.q ∨ W.heap.size ≤ k) p (.slice A' (xs.length + 1) c') (xs ++ [x]) ∧ Turned (fun k => S k ∧ k ≠ p) W W2 := by
  obtain ⟨i0, hi, hz0, hz1, hz2⟩ := info_parts ag_info3
  have hb1 : Below W.heap.size W (W.alloc (.cells (agV x.m.f x.m.t x.A x.n x.c x.m.a) 60)) := (Below.refl _ _).alloc (Nat.le_refl _) _
  have h1 := h.turned (T := fun _ => False) (Turned.of_below hb1) fun _ _ _ _ h => h
  have hx1 := hx.below hb1
  have hsz : W.heap.size + 1 = (W.alloc (.cells (agV x.m.f x.m.t x.A x.n x.c x.m.a) 60)).heap.size := by simp
  have hnews : ∀ j u, (amC x)[j]? = some u → (W.alloc (.cells (agV x.m.f x.m.t x.A x.n x.c x.m.a) 60)).cell? ((⟨W.heap.size, 0, none⟩ : Addr).add j) = some u := fun j u hu => by
    rw [add_plain, Nat.zero_add, cell_of_cells (heap_alloc_new W _)]
    simpa [amC, agV] using hu
  generalize W.alloc (.cells (agV x.m.f x.m.t x.A x.n x.c x.m.a) 60) = W1 at *
  obtain ⟨g, cap, W2, hr, ho, hg, hlie, hlt⟩ := run_append_lies (P := Try.prog) (w := W1) 55 ty 0 60 i0 _ 4 48 Try.underlying55 hi hz0 hz1 hz2 rfl (by decide) v xs.length (rosL amC xs) h1.own ⟨W.heap.size, 0, none⟩ 1 1 (amC x) rfl hnews (amC_one x) (by decide) (by unfold maxLen; omega) (by omega) (Nat.zero_le _) W1.heap.size rfl
  have ht : Turned (fun k => v.ownBlock = some k) W1 W2 := Turned.of_gr hg fun _ h => h
  have hg' : (S g ∧ g ≠ p) ∨ g = W1.heap.size := hlie.imp (h.ob g) id
  refine ⟨_, cap, W2, hr, ⟨?_, ?_, ?_, ?_⟩, ?_⟩
  · rw [List.length_append, List.length_singleton, rosL_app]
    simpa [rosL] using ho
  · intro g' hg2
    obtain rfl : g = g' := by simpa [Value.ownBlock] using hg2
    rcases hg' with ⟨h2, h3⟩ | h2
    · exact ⟨.inl h2, h3⟩
    · exact ⟨.inr (.inr (by omega)), by omega⟩
  · intro y hy
    rcases List.mem_append.1 hy with hy | hy
    · refine ((h1.byt y hy).mono (T := fun k => k < W1.heap.size ∧ (k = y.q ∧ S k ∧ k ≠ p ∧ v.ownBlock ≠ some k)) fun k hk h => ⟨hk, h⟩).turned ht (fun k _ h2 h3 => h2.2.2.2.2 h3) |>.mono fun k _ hk => ⟨hk.2.1, .inl hk.2.2.1, hk.2.2.2.1, fun h4 => ?_⟩
      obtain rfl : g = k := by simpa [Value.ownBlock] using h4
      rcases hlie with h5 | h5
      · exact hk.2.2.2.2 h5
      · omega
    · obtain rfl := List.mem_singleton.1 hy
      refine (hx.mono (T := fun k => k < W.heap.size ∧ k = y.q ∧ ¬ S k ∧ k ≠ p) fun k hk h => ⟨hk, h⟩).below hb1 |>.turned ht (fun k _ h2 h3 => h2.2.2.1 (h.ob k h3).1) |>.mono fun k _ hk => ⟨hk.2.1, .inr (.inl hk.2.1), hk.2.2.2, fun h4 => ?_⟩
      obtain rfl : g = k := by simpa [Value.ownBlock] using h4
      rcases hg' with ⟨h5, _⟩ | h5
      · exact hk.2.2.1 h5
      · omega
  · refine List.pairwise_append.2 ⟨h.apart, List.pairwise_singleton _ _, fun y hy z hz h2 h3 => ?_⟩
    obtain rfl := List.mem_singleton.1 hz
    intro e
    obtain ⟨b, off, _, ⟨rfl, h4, _⟩, _⟩ := hx.row h3
    exact h4 (e ▸ (h.inS hy h2).1)
  · exact (Turned.of_below (S := fun k => S k ∧ k ≠ p) hb1).trans (ht.mono fun k hk h2 => h.ob k h2) fun _ _ h => h
end
theorem Bgs.lt {w : World} {S : Nat → Prop} {p N : Nat} {l : List Bm} (h : Bgs w S p N l) : p < w.heap.size := by
  obtain ⟨_, _, _, _, h, _⟩ := h
  exact lt_of_cells h
theorem ag_built (f t : Int) (A : Option Addr) (n c : Nat) : Try.prog.built 60 [(0, .agg (mgV f t A n c))] = some (agV f t A n c 0) := by kernel_rfl
theorem ag_lit (w : World) (f t : Int) (A : Option Addr) (n c : Nat) : (Instr.buildSlice 55 1 #[(0, .agg (agV f t A n c 0))]).run Try.prog w = .ok (.slice (some ⟨w.heap.size, 0, none⟩) 1 1) (w.alloc (.cells (agV f t A n c 0) 60)) := by
  obtain ⟨i0, hi, hz0, hz1, _⟩ := info_parts ag_info3
  refine run_buildSlice w 55 60 1 #[(0, .agg (agV f t A n c 0))] (agV f t A n c 0) i0 (.agg (agV 0 0 none 0 0 0)) Try.underlying55 hi hz0 (by rw [hz1]; omega) (by rw [hz1]; omega) ?_
  rw [hz1]
  have hm : ((Array.range (1 * 4)).map fun x => (Value.agg (agV 0 0 none 0 0 0)).cells[x % (Value.agg (agV 0 0 none 0 0 0)).cells.size]!) = agV 0 0 none 0 0 0 := by kernel_rfl
  rw [hm]
  simp [Instr.fill, Value.cells, agV]
set_option maxHeartbeats 8000000 in
set_option maxRecDepth 100000 in
theorem bgadd_full {w : World} {S : Nat → Prop} {p N : Nat} {l : List Bm} (h : Bgs w S p N l) (hl : 256 ≤ l.length) (f t : Int) (A : Option Addr) (n c : Nat) :
    Calls Try.prog 19 #[.pointer (some ⟨p, 0, none⟩), .agg (mgV f t A n c)] w fun e w' => e = .returned (.int .i64 31) ∧ Below w.heap.size w w' := by
  obtain ⟨AV, cv, hc⟩ := h.lenc
  have hb1 : Below w.heap.size w (w.alloc (.cells (mgV f t A n c) 31)) := (Below.refl _ _).alloc (Nat.le_refl _) _
  have hc1 := (hb1.cell (p := ⟨p, 1, none⟩) h.lt).trans hc
  have hl' : (256 : Int) ≤ (l.length : Int) := by omega
  have HB := Lib.hid hb1
  generalize l.length = L at *
  clear h hl hc hb1
  go_enter Try.func19, Try.ntmps19
  go_wp2_with fail
  go_ret
  exact ⟨rfl, HB.out⟩
/-- The block of bytes. -/
theorem Byt.one {w : World} {S : Nat → Prop} {A : Option Addr} {n c s : Nat} {l : List UInt8} (h : Byt w S A n c l) (hs : S s) : ∃ q, S q ∧ Byt w (fun k => k = q ∧ S k) A n c l := by
  rcases Nat.eq_zero_or_pos n with h0 | h0
  · exact ⟨s, hs, h.len, h.cap, h.max, fun h1 => absurd h1 (by omega)⟩
  · obtain ⟨b, off, h1, h2, h3⟩ := h.row h0
    exact ⟨b, h2, h.len, h.cap, h.max, fun _ => ⟨b, off, h1, ⟨rfl, h2⟩, h3⟩⟩
theorem exec_build1 {P : Program} {E : Operand → Value} {o : Oper} {W : World} (t : TypeId) (x0 : Operand) (ho : o.op = .build t #[(0, x0)]) (u0 : Value) (h0 : E x0 = u0) (cells : Array Value) (hb : P.built t [(0, u0)] = some cells) : (execOp E o).run P W = .ok (.value (.agg cells)) W := by
  have hr : (Instr.build t #[(0, u0)]).run P W = .ok (.agg cells) W := run_build W t _ cells hb
  unfold execOp
  simp [ho, h0, hr, Result.andThen]
theorem mg_set (f t : Int) (A A' : Option Addr) (n c n' c' : Nat) : (mgV f t A n c).setIfInBounds 2 (.slice A' n' c') = mgV f t A' n' c' := rfl
set_option maxHeartbeats 8000000 in
set_option maxRecDepth 100000 in
theorem bgadd_ok {w : World} {S U : Nat → Prop} {p N : Nat} {l : List Bm} (h : Bgs w S p N l) (hl : l.length < 256) {A : Option Addr} {n c : Nat} {b : List UInt8} (hb : Byt w U A n c b) (f t : Int) (hm : bmay N ⟨f, t, b, 0⟩) (hn : n ≤ 2097152) :
    Calls Try.prog 19 #[.pointer (some ⟨p, 0, none⟩), .agg (mgV f t A n c)] w fun e w' => e = .returned (.int .i64 0) ∧ Bgs w' (fun k => S k ∨ w.heap.size ≤ k) p N (l ++ [⟨f, t, b, 0⟩]) ∧ Turned S w w' := by
  have hb1 : Below w.heap.size w (w.alloc (.cells (mgV f t A n c) 31)) := (Below.refl _ _).alloc (Nat.le_refl _) _
  have h1 := (h.mono (T := fun k => S k ∧ k < w.heap.size) fun k hk h => ⟨h, hk⟩).below hb1
  have hy1 := hb.below hb1
  have hq1 := heap_alloc_new w (.cells (mgV f t A n c) 31)
  have hcl := clone_byt hy1 (by omega)
  obtain ⟨AV, cv, hc⟩ := h.lenc
  have hc1 := (hb1.cell (p := ⟨p, 1, none⟩) h.lt).trans hc
  have hl' : ¬ (256 : Int) ≤ (l.length : Int) := by omega
  have hc2 : (w.alloc (.cells (mgV f t A n c) 31)).cell? ⟨w.heap.size, 2, none⟩ = some (.slice A n c) := cell_of_cells hq1 2
  have hs1 : (w.alloc (.cells (mgV f t A n c) 31)).heap.size = w.heap.size + 1 := by simp
  have HH := Lib.hid (And.intro h1 (And.intro hl (And.intro hm (And.intro hn (And.intro hq1 (And.intro hb1 (And.intro h.lt (And.intro hs1 hb.len))))))))
  generalize l.length = L at hc1 hl'
  clear h hl hc hb1 h1 hy1 hq1 hm hn hs1 hb
  go_enter Try.func19, Try.ntmps19
  go_upto_region 4 with (
    go_at_call 24; refine hcl.mono ?_; clear hcl hc1 hc2 hl'; rintro _ w2 ⟨A2, c2, rfl, hy2, hb2, _⟩
    have hq2 : w2.heap[w.heap.size]? = some (.cells (mgV f t A n c) 31 (0, 0)) := (hb2.block _ (lt_of_cells HH.out.2.2.2.2.1)).trans HH.out.2.2.2.2.1
    have hc4 : w2.cell? ⟨w.heap.size, 2, none⟩ = some (.slice A n c) := cell_of_cells hq2 2
    have hf4 := free_of_cells hq2 2
    have H2 := Lib.hid (And.intro hq2 (And.intro hy2 (And.intro hb2 (HH.out.1.below hb2))))
    clear hq2 hy2 hb2)
  have hq3 : (w2.setCell ⟨w.heap.size, 2, none⟩ (.slice A2 n c2)).heap[w.heap.size]? = some (.cells (mgV f t A2 n c2) 31 (0, 0)) := set_of_cells H2.out.1 2 _
  have ht3 : Turned (fun k => k = w.heap.size) w2 (w2.setCell ⟨w.heap.size, 2, none⟩ (.slice A2 n c2)) := (Turned.refl (fun k => k = w.heap.size) w2).set rfl 2 _
  have h3 := H2.out.2.2.2.turned ht3 fun k _ hs e => by have := hs.2; omega
  obtain ⟨q2, hq2, hy2⟩ := H2.out.2.1.one (Nat.le_refl _)
  have hy3 := hy2.turned ht3 fun k _ hs e => by have := hs.2; have := HH.out.2.2.2.2.2.2.2.1; omega
  have ht03 : Turned (fun k => w.heap.size ≤ k) w (w2.setCell ⟨w.heap.size, 2, none⟩ (.slice A2 n c2)) := ((Turned.of_below HH.out.2.2.2.2.2.1).trans (Turned.of_below H2.out.2.2.1) fun _ _ h => h).trans (ht3.mono fun k _ h => by omega) fun _ _ h => h
  clear ht3 hy2
  generalize w2.setCell ⟨w.heap.size, 2, none⟩ (.slice A2 n c2) = w3 at *
  have hd : Below w3.heap.size w3 w3.drew := below_drew (Below.refl _ _)
  have h4 := h3.below hd
  have hy4 := hy3.below hd
  obtain ⟨v, xs, hxs, hSp, hpx, hams, hlim⟩ := h4
  have hlt := lt_of_cells hpx
  obtain ⟨A5, c5, w5, happ, hams5, ht5⟩ := hams.push hlt (by have := HH.out.2.1; rw [hxs, List.length_map] at this; omega) (x := ⟨⟨f, t, b, 0⟩, A2, n, c2, q2⟩) (hy4.mono fun k _ h => ⟨h.1, by have := h.2; have := HH.out.2.2.2.2.2.2.2.1; omega, by have := h.2; have := HH.out.2.2.2.2.2.2.2.1; have := HH.out.2.2.2.2.2.2.1; omega⟩) 55
  obtain ⟨MV, hMV⟩ : ∃ MV, MV = mgV f t A2 n c2 := ⟨_, rfl⟩
  obtain ⟨GV, hGV⟩ : ∃ GV, GV = agV f t A2 n c2 0 := ⟨_, rfl⟩
  have hbt := ag_built f t A2 n c2
  have hlit := ag_lit w3.drew f t A2 n c2
  have happ : (Builtin.append_ #[55, 55] 55 #[v, .slice (some ⟨w3.drew.heap.size, 0, none⟩) 1 1]).run Try.prog (w3.drew.alloc (.cells (agV f t A2 n c2 0) 60)) = .ok (.slice A5 (xs.length + 1) c5) w5 := happ
  rw [← hMV] at hq3 hbt
  rw [← hGV] at hbt hlit happ
  have hq3d : w3.drew.heap[w.heap.size]? = some (.cells MV 31 (0, 0)) := hq3
  have hcv : w3.drew.cell? ⟨p, 1, none⟩ = some v := cell_of_cells hpx 1
  have hal : Below w3.drew.heap.size w3.drew (w3.drew.alloc (.cells GV 60)) := (Below.refl _ _).alloc (Nat.le_refl _) _
  have hcv1 : (w3.drew.alloc (.cells GV 60)).cell? ⟨p, 1, none⟩ = some v := (hal.cell (p := ⟨p, 1, none⟩) hlt).trans hcv
  have hq31 : (w3.drew.alloc (.cells GV 60)).heap[w.heap.size]? = some (.cells MV 31 (0, 0)) := (hal.block _ (lt_of_cells hq3d)).trans hq3d
  have hpx5 : w5.heap[p]? = some (.cells (bgV N v) 57 (0, 0)) := (ht5.block p hlt (fun h => h.2 rfl)).trans hpx
  have hcv5 : w5.cell? ⟨p, 1, none⟩ = some v := cell_of_cells hpx5 1
  have hf5 := free_of_cells hpx5 1
  have hq35 : w5.heap[w.heap.size]? = some (.cells MV 31 (0, 0)) := (ht5.block _ (lt_of_cells hq3d) (fun h => by have := h.1.2; omega)).trans hq3d
  have hinfo : (Try.prog.info? 31).map (·.size) = some MV.size := by rw [hMV]; exact mg_info _ _ _ _ _
  have H5 := Lib.hid (And.intro hams5 (And.intro ht5 (And.intro hxs (And.intro hpx5 (And.intro hlim (And.intro hSp (And.intro ht03.drew hq2)))))))
  clear hMV hGV hams5 ht5 hxs hpx5 hlim hSp ht03 hams hpx hlt hal hy4 h3 hy3 hd H2 hc4 hf4 hq3 hq2
  refine wp_region_dead (fun W => W.cell? ⟨p, 1, none⟩ = some v ∧ W.heap[w.heap.size]? = some (.cells MV 31 (0, 0))) [11] [0, 1, 2, 3, 6, 9, 10] [([0, 1, 2, 3, 4, 5, 6], 7), ([], 8), ([9, 10], 11)] [] (by kernel_rfl) (by kernel_rfl) (fun _ _ d _ _ h => by cases d <;> exact h) ⟨hcv, hq3d⟩ ?_
  generalize w3.drew = w4 at *
  refine planX_eff ?_
  refine segX_any ?v2 (by rfl) (by rfl) (by rfl) ?h2 ?_
  case h2 => intro W; go_simp; with_reducible rfl
  try simp only [Act.put, List.setIfInBounds_toArray, List.set_cons_zero, List.set_cons_succ]
  refine segX_any ?v3 (by rfl) (by rfl) (by rfl) ?h3 ?_
  case h3 => intro W; go_simp; with_reducible rfl
  try simp only [Act.put, List.setIfInBounds_toArray, List.set_cons_zero, List.set_cons_succ]
  refine segX_any ?v4 (by rfl) (by rfl) (by rfl) ?h4 ?_
  case h4 => intro W; go_simp; with_reducible rfl
  try simp only [Act.put, List.setIfInBounds_toArray, List.set_cons_zero, List.set_cons_succ]
  refine segX_any ?v5 (by rfl) (by rfl) (by rfl) ?h5 ?_
  case h5 => intro W; go_simp; with_reducible rfl
  try simp only [Act.put, List.setIfInBounds_toArray, List.set_cons_zero, List.set_cons_succ]
  refine segX_read ?v6 (by rfl) (by rfl) (by rfl) ?h6 ?_
  case h6 => intro W hW; have hc := hW.1; go_simp; with_reducible rfl
  try simp only [Act.put, List.setIfInBounds_toArray, List.set_cons_zero, List.set_cons_succ]
  refine segX_read (.agg MV) (by rfl) (by rfl) (by rfl) (fun W hW => exec_load_st 31 (.tmp 3) (by rfl) w.heap.size (by rfl) MV (0, 0) hW.2 _ Try.underlying31 (by rfl) hinfo) ?_
  try simp only [Act.put, List.setIfInBounds_toArray, List.set_cons_zero, List.set_cons_succ]
  refine segX_any (.agg GV) (by rfl) (by rfl) (by rfl) (fun W => exec_build1 60 (.tmp 20) (by rfl) (.agg MV) (by rfl) GV hbt) ?_
  try simp only [Act.put, List.setIfInBounds_toArray, List.set_cons_zero, List.set_cons_succ]
  refine segX_nil ?_
  refine eff_lit1 (by rfl) (by rfl) 55 (.tmp 21) (by rfl) (by rfl) hlit ?_
  refine ⟨fun W => W.cell? ⟨p, 1, none⟩ = some v ∧ W.heap[w.heap.size]? = some (.cells MV 31 (0, 0)), ⟨hcv1, hq31⟩, .inr fun _ h => h, ?_⟩
  try simp only [Act.put, List.setIfInBounds_toArray, List.set_cons_zero, List.set_cons_succ]
  refine planX_eff ?_
  refine segX_nil ?_
  refine eff_app (by rfl) (by rfl) (.tmp 19) (.tmp 22) 55 (by rfl) (by rfl) (by rfl) happ ?_
  refine ⟨fun W => W.cell? ⟨p, 1, none⟩ = some v ∧ W.heap[w.heap.size]? = some (.cells MV 31 (0, 0)), ⟨hcv5, hq35⟩, .inr fun _ h => h, ?_⟩
  try simp only [Act.put, List.setIfInBounds_toArray, List.set_cons_zero, List.set_cons_succ]
  refine planX_eff ?_
  refine segX_any ?v9 (by rfl) (by rfl) (by rfl) ?h9 ?_
  case h9 => intro W; go_simp; with_reducible rfl
  try simp only [Act.put, List.setIfInBounds_toArray, List.set_cons_zero, List.set_cons_succ]
  refine segX_any ?v10 (by rfl) (by rfl) (by rfl) ?h10 ?_
  case h10 => intro W; go_simp; with_reducible rfl
  try simp only [Act.put, List.setIfInBounds_toArray, List.set_cons_zero, List.set_cons_succ]
  refine segX_nil ?_
  refine eff_step (by rfl) (fun K hK => ?_)
  go_simp
  refine hK _ _ ⟨fun _ => True, trivial, .inl rfl, ?_⟩
  clear hK K
  refine planX_last ?_
  refine segX_nil ?_
  have h6 := set_of_cells H5.out.2.2.2.1 1 (.slice A5 (xs.length + 1) c5)
  have ht6 : Turned (fun k => k = p) w5 (w5.setCell ⟨p, 1, none⟩ (.slice A5 (xs.length + 1) c5)) := (Turned.refl (fun k => k = p) w5).set rfl 1 _
  have H6 := Lib.hid (And.intro h6 ht6)
  clear h6 ht6 hcv5 hf5 hq35 hinfo hlit happ hq3d hcv hcv1 hq31 hbt
  generalize w5.setCell ⟨p, 1, none⟩ (.slice A5 (xs.length + 1) c5) = w6 at *
  go_wp2_with fail
  go_ret
  refine ⟨rfl, ⟨_, _, ?_, .inl H5.out.2.2.2.2.2.1.1, H6.out.1, (H5.out.1.turned H6.out.2 fun k _ _ h1 h2 => h1 h2).mono ?_, ?_⟩, ?_⟩
  · rw [H5.out.2.2.1, List.map_append]; rfl
  · intro k hk h
    have h1 := H5.out.2.2.2.2.2.2.2
    have h2 := HH.out.2.2.2.2.2.2.2.1
    have h3 := H5.out.2.2.2.2.2.2.1.size
    rcases h with h | h | h
    · exact .inl h.1
    · exact .inr (by subst h; simp at h1; omega)
    · exact .inr (by omega)
  · have h1 := H5.out.2.2.2.2.1
    refine ⟨h1.1, h1.2.1, by have := HH.out.2.1; simp; omega, fun m hm => ?_⟩
    rcases List.mem_append.1 hm with hm | hm
    · exact h1.2.2.2 m hm
    · obtain rfl := List.mem_singleton.1 hm
      exact ⟨HH.out.2.2.1, by have := HH.out.2.2.2.2.2.2.2.2; have := HH.out.2.2.2.1; show b.length ≤ 2097152; omega⟩
  · refine ((H5.out.2.2.2.2.2.2.1.mono (T := fun k => S k) fun k hk h => by omega).trans (H5.out.2.1.mono (T := fun k => S k) fun k _ h => h.1.1) fun _ _ h => h).trans (H6.out.2.mono (T := fun k => S k) fun k _ h => by subst h; exact H5.out.2.2.2.2.2.1.1) fun _ _ h => h
end Go.Proofs.Ytogfblfekedefaa
