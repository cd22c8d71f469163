/-
  The code's bag: Take.
-/
import Derived.Test.YtogfblfekedefaaBagDel
import Derived.Test.YtogfblfekedefaaBagCopy
namespace Go.Proofs.Ytogfblfekedefaa
open Go.RowKit

theorem Ams.rowG {w : World} {S : Nat → Prop} {p g c : Nat} {xs : List Am} (h : Ams w S p (.slice (some ⟨g, 0, none⟩) xs.length c) xs) : RowG w g c xs := RowG.of_own h.own
/-- The block of the i-th one's bytes is no other one's. -/
theorem Ams.apart_at {w : World} {S : Nat → Prop} {p : Nat} {v : Value} {xs : List Am} (h : Ams w S p v xs) {i : Nat} {x : Am} (hx : xs[i]? = some x) {y : Am} (hy : y ∈ takeX xs i) (h1 : 0 < x.n) (h2 : 0 < y.n) : y.q ≠ x.q := by
  have hi := (List.getElem?_eq_some_iff.1 hx).1
  have he : xs = xs.take i ++ x :: xs.drop (i + 1) := by
    rw [← (List.getElem?_eq_some_iff.1 hx).2, ← List.drop_eq_getElem_cons hi, List.take_append_drop]
  have hp := h.apart
  rw [he] at hp
  obtain ⟨_, hp2, hp3⟩ := List.pairwise_append.1 hp
  rcases List.mem_append.1 hy with hy | hy
  · exact hp3 y hy x (List.mem_cons_self ..) h2 h1
  · exact fun e => (List.pairwise_cons.1 hp2).1 y hy h1 h2 e.symm
/-- The blocks of one message's bytes. -/
def QX (x : Am) (p g k : Nat) : Prop := k = x.q ∧ 0 < x.n ∧ k ≠ p ∧ k ≠ g
theorem Ams.take {w w' : World} {S : Nat → Prop} {p g c : Nat} {xs : List Am} (h : Ams w S p (.slice (some ⟨g, 0, none⟩) xs.length c) xs) {i : Nat} {x : Am} (hx : xs[i]? = some x) (hr : RowG w' g c (takeX xs i)) (ht : Turned (fun k => k = g) w w') :
    Ams w' (fun k => S k ∧ ¬ QX x p g k) p (.slice (some ⟨g, 0, none⟩) (xs.length - 1) c) (takeX xs i) ∧ Byt w' (fun k => QX x p g k ∧ S k) x.A x.n x.c x.m.b := by
  have hi := (List.getElem?_eq_some_iff.1 hx).1
  have hxm := List.mem_of_getElem? hx
  have hsub : takeX xs i = xs.eraseIdx i := by rw [List.eraseIdx_eq_take_drop_succ]; rfl
  have hob := h.ob g rfl
  refine ⟨⟨?_, ?_, ?_, ?_⟩, ?_⟩
  · have := hr.own
    rw [← takeX_len xs hi]
    exact this
  · intro g' hg
    obtain rfl : g = g' := by simpa [Value.ownBlock] using hg
    exact ⟨⟨hob.1, fun h => h.2.2.2 rfl⟩, hob.2⟩
  · intro y hy
    have hym : y ∈ xs := by rw [hsub] at hy; exact (List.eraseIdx_sublist xs i).mem hy
    rcases Nat.eq_zero_or_pos y.n with h0 | h0
    · have hb := h.byt y hym
      exact ⟨hb.len, hb.cap, hb.max, fun h1 => absurd h1 (by omega)⟩
    · refine ((h.byt y hym).turned ht fun k _ h1 h2 => h1.2.2.2 (by rw [h2]; rfl)).mono fun k _ h1 => ⟨h1.1, ⟨h1.2.1, fun h2 => ?_⟩, h1.2.2.1, ?_⟩
      · exact h.apart_at hx hy h2.2.1 h0 (h1.1.symm.trans h2.1)
      · intro h2
        exact h1.2.2.2 (by simpa [Value.ownBlock] using h2)
  · rw [hsub]
    exact h.apart.sublist (List.eraseIdx_sublist xs i)
  · have hb := h.byt x hxm
    rcases Nat.eq_zero_or_pos x.n with h0 | h0
    · exact ⟨hb.len, hb.cap, hb.max, fun h1 => absurd h1 (by omega)⟩
    · exact (hb.turned ht fun k _ h1 h2 => h1.2.2.2 (by rw [h2]; rfl)).mono fun k _ h1 => ⟨⟨h1.1, h0, h1.2.2.1, fun h2 => h1.2.2.2 (by rw [h2]; rfl)⟩, h1.2.1⟩
theorem bag_results {P : Program} {fn : Func} {p q : Tmp} {ty : TypeId} (h : fn.results = #[.cell p ty, .tmp q]) (tmps : Array Value) (w : World) (A : Addr) (v u : Value)
    (hp : tmps.getD p undef = .pointer (some A)) (hq : tmps.getD q undef = u) (hv : (loadVar ty A).run P w = .ok v w) : (results fn tmps).run P w = .ok (.tuple #[v, u]) w := by
  have hp' : tmps[p]?.getD undef = .pointer (some A) := by simpa using hp
  have hq' : tmps[q]?.getD undef = u := by simpa using hq
  simp [results, h, hp', hq', asAddr, hv]
theorem mg_built0' : Try.prog.built 31 [] = some (mgV 0 0 none 0 0) := by kernel_rfl
theorem map_takeX (xs : List Am) (i : Nat) : (takeX xs i).map Am.m = takeB (xs.map Am.m) i := by
  unfold takeX takeB
  rw [List.map_append, List.map_take, List.map_drop]
set_option maxHeartbeats 8000000 in
set_option maxRecDepth 100000 in
theorem bgtake_none (w : World) (b : Option Addr) (i : Int) (hhas : ∀ W : World, Below w.heap.size w W → Calls Try.prog 20 #[.pointer b, .int .i64 i] W fun e w' => e = .returned (.bool false) ∧ W = w') :
    Calls Try.prog 11 #[.pointer b, .int .i64 i] w fun e w' => e = .returned (.tuple #[.agg #[.int .i64 0, .int .i64 0, .slice none 0 0], .bool false]) ∧ Below w.heap.size w w' := by
  have hz := zero_mg
  obtain ⟨Z0, hZ0⟩ : ∃ Z0, Z0 = mgV 0 0 none 0 0 := ⟨_, rfl⟩
  rw [← hZ0] at hz
  have hb1 : Below w.heap.size w (w.alloc (.cells Z0 31)) := (Below.refl _ _).alloc (Nat.le_refl _) _
  have hhas1 := hhas _ hb1
  have hq := heap_alloc_new w (.cells Z0 31)
  have HZ := Lib.hid (show Z0 = mgV 0 0 none 0 0 ∧ (Try.prog.info? 31).map (·.size) = some Z0.size ∧ Z0.all (·.oneCell') = true from ⟨hZ0, by rw [hZ0]; exact mg_info _ _ _ _ _, by rw [hZ0]; exact mg_one _ _ _ _ _⟩)
  have HB := Lib.hid (And.intro hb1 hq)
  clear hZ0 hb1 hq hhas
  go_enter Try.func11, Try.ntmps11
  go_upto_region 2 with (go_at_call 20; refine hhas1.mono ?_; clear hhas1; rintro _ _ ⟨rfl, rfl⟩)
  have hbt : Try.prog.built 31 [] = some Z0 := by rw [HZ.out.1]; exact mg_built0'
  have HW := Lib.hid (show ((w.alloc (.cells Z0 31)).setRow w.heap.size Z0).heap[w.heap.size]? = some (.cells Z0 31 (0, 0)) ∧ Below w.heap.size w ((w.alloc (.cells Z0 31)).setRow w.heap.size Z0) from ⟨setRow_at HB.out.2, below_setRow HB.out.1 (Nat.le_refl _) _⟩)
  go_wp2_with (first
    | (refine wpList_built (by rfl) 31 #[] (by rfl) [] (by simp) Z0 hbt ?_)
    | (refine wpList_store_row (by rfl) 31 (.tmp 4) (.tmp 11) (by rfl) w.heap.size Z0 (by rfl) (by rfl) 31 Z0 HB.out.2 HZ.out.2.1 rfl HZ.out.2.2 ?_))
  generalize (w.alloc (.cells Z0 31)).setRow w.heap.size Z0 = w2 at *
  refine bodyPost_ret (bag_results rfl _ _ ⟨w.heap.size, 0, none⟩ (.agg Z0) (.bool false) rfl rfl (run_loadVar_row w2 w.heap.size _ 31 Z0 (0, 0) _ HW.out.1 Try.underlying31 rfl HZ.out.2.1)) rfl ?_
  exact ⟨by rw [HZ.out.1]; rfl, HW.out.2⟩
theorem bgtake_no {w : World} {S : Nat → Prop} {p N : Nat} {l : List Bm} (h : Bgs w S p N l) (i : Int) (hi : i < 0 ∨ (l.length : Int) ≤ i) :
    Calls Try.prog 11 #[.pointer (some ⟨p, 0, none⟩), .int .i64 i] w fun e w' => e = .returned (.tuple #[.agg #[.int .i64 0, .int .i64 0, .slice none 0 0], .bool false]) ∧ Below w.heap.size w w' :=
  bgtake_none w _ i fun W hb => by
    obtain ⟨A, c, hc1⟩ := (h.below hb).lenc
    have hhas := bghas_c (bglen_c hc1) i
    rwa [show hasB l.length i = false by unfold hasB; simp; omega] at hhas
theorem bgtake_nil (w : World) : Calls Try.prog 11 #[.pointer none, .int .i64 0] w fun e w' => e = .returned (.tuple #[.agg #[.int .i64 0, .int .i64 0, .slice none 0 0], .bool false]) ∧ Below w.heap.size w w' :=
  bgtake_none w _ 0 fun W _ => by
    have hhas := bghas_c (n := 0) (bglen_nil0 W) 0
    rwa [show hasB 0 0 = false by decide] at hhas
set_option maxHeartbeats 16000000 in
set_option maxRecDepth 100000 in
theorem bgtake_ok {w : World} {S : Nat → Prop} {p N : Nat} {l : List Bm} (h : Bgs w S p N l) {i : Nat} {x : Bm} (hx : l[i]? = some x) :
    Calls Try.prog 11 #[.pointer (some ⟨p, 0, none⟩), .int .i64 (i : Int)] w fun e w' => ∃ (A : Option Addr) (n c : Nat) (Q : Nat → Prop), e = .returned (.tuple #[.agg #[.int .i64 x.f, .int .i64 x.t, .slice A n c], .bool true]) ∧ Byt w' Q A n c x.b ∧ Bgs w' (fun k => (S k ∨ w.heap.size ≤ k) ∧ ¬ Q k) p N (takeB l i) ∧ Turned S w w' := by
  obtain ⟨v, xs, rfl, hSp, hbox, hams, hlim⟩ := h.mono (T := fun k => S k ∧ k < w.heap.size) fun k hk h => ⟨h, hk⟩
  rw [List.getElem?_map] at hx
  obtain ⟨y, hy, rfl⟩ := Option.map_eq_some_iff.1 hx
  have hi := (List.getElem?_eq_some_iff.1 hy).1
  obtain ⟨g, c0, rfl, hnc, hgl, hSg, hgp, _, _⟩ := hams.at_ hy
  have hz := zero_mg
  obtain ⟨Z0, hZ0⟩ : ∃ Z0, Z0 = mgV 0 0 none 0 0 := ⟨_, rfl⟩
  rw [← hZ0] at hz
  have hb1 : Below w.heap.size w (w.alloc (.cells Z0 31)) := (Below.refl _ _).alloc (Nat.le_refl _) _
  have hq1 := heap_alloc_new w (.cells Z0 31)
  have hs1 : (w.alloc (.cells Z0 31)).heap.size = w.heap.size + 1 := by simp
  obtain ⟨MV, hMV⟩ : ∃ MV, MV = mgV y.m.f y.m.t y.A y.n y.c := ⟨_, rfl⟩
  have hc1 : w.cell? ⟨p, 1, none⟩ = some (.slice (some ⟨g, 0, none⟩) xs.length c0) := cell_of_cells hbox 1
  have hc11 := (hb1.cell (p := ⟨p, 1, none⟩) hSp.2).trans hc1
  have hhas := bghas_c (bglen_c hc11) (i : Int)
  rw [show hasB xs.length (i : Int) = true by unfold hasB; simp; omega] at hhas
  have HZ := Lib.hid (show Z0 = mgV 0 0 none 0 0 ∧ (Try.prog.info? 31).map (·.size) = some MV.size ∧ MV.all (·.oneCell') = true ∧ Z0.size = MV.size ∧ MV = mgV y.m.f y.m.t y.A y.n y.c from ⟨hZ0, by rw [hMV]; exact mg_info _ _ _ _ _, by rw [hMV]; exact mg_one _ _ _ _ _, by rw [hZ0, hMV]; rfl, hMV⟩)
  have HC := Lib.hid (show ∀ (j : Nat) (u : Value), MV[j]? = some u → (w.alloc (.cells Z0 31)).cell? ((⟨g, i * 4, none⟩ : Addr).add j) = some u from fun j u hu => by
    rw [add_plain, hb1.cell (p := ⟨g, _, none⟩) hgl]
    have hj : j < 3 := by
      have := (Array.getElem?_eq_some_iff.1 hu).1
      rw [hMV] at this
      simpa [mgV] using this
    refine hams.rowG.cell hy ?_
    rw [hMV] at hu
    rcases j with _ | _ | _ | j
    · simpa [mgV, amC] using hu
    · simpa [mgV, amC] using hu
    · simpa [mgV, amC] using hu
    · omega)
  have hq2 := heap_alloc_new (w.alloc (.cells Z0 31)) (.cells Z0 31)
  have hb2 : Below (w.alloc (.cells Z0 31)).heap.size (w.alloc (.cells Z0 31)) ((w.alloc (.cells Z0 31)).alloc (.cells Z0 31)) := (Below.refl _ _).alloc (Nat.le_refl _) _
  have HL := Lib.hid (And.intro hSp (And.intro hgl (And.intro hSg.1 (And.intro hgp (And.intro hi hlim)))))
  have HA := Lib.hid (And.intro hams (And.intro hbox (And.intro hb1 (And.intro hq1 (And.intro hy hs1)))))
  clear hSp hSg hgp hlim hams hbox hb1 hq1 hMV hZ0 h hc1 hi hy
  generalize hw1 : w.alloc (.cells Z0 31) = w1 at *
  have HQ := Lib.hid (And.intro hq2 hb2)
  clear hq2 hb2
  go_enter Try.func11, Try.ntmps11
  go_upto_region 1 with fail
  clear hw1 hs1 hnc hgl hx
  have hil := HL.out.2.2.2.2.1
  have H3 := Lib.hid (show ∀ W, W = (w1.alloc (.cells Z0 31)).setRow w1.heap.size MV → W.heap[w1.heap.size]? = some (.cells MV 31 (0, 0)) ∧ W.heap[w.heap.size]? = some (.cells Z0 31 (0, 0)) ∧ Below w1.heap.size w1 W from fun W hW => by
    subst hW
    have hb := below_setRow HQ.out.2 (Nat.le_refl _) MV
    exact ⟨setRow_at HQ.out.1, (hb.block _ (lt_of_cells HA.out.2.2.2.1)).trans HA.out.2.2.2.1, hb⟩)
  go_upto_region 4 with (first
    | (go_at_call 20; refine hhas.mono ?_; clear hhas; rintro _ _ ⟨rfl, rfl⟩)
    | (refine wpList_load_at (by rfl) 31 (.tmp 18) (by rfl) ⟨g, i * 4, none⟩ (by rfl) MV _ HC.out Try.underlying31 (by rfl) HZ.out.2.1 ?_)
    | (refine wpList_store_row (by rfl) 31 (.tmp 6) (.tmp 19) (by rfl) w1.heap.size MV (by rfl) (by rfl) 31 Z0 HQ.out.1 HZ.out.2.1 HZ.out.2.2.2.1 HZ.out.2.2.1 ?_))
  have H3' := H3.out _ rfl
  generalize (w1.alloc (.cells Z0 31)).setRow w1.heap.size MV = w3 at *
  have hb03 : Below w.heap.size w w3 := HA.out.2.2.1.trans (H3'.2.2.mono (by have := HA.out.2.2.2.2.2; omega))
  have hbox3 : w3.heap[p]? = _ := (hb03.block p HL.out.1.2).trans HA.out.2.1
  have hc3 : w3.cell? ⟨p, 1, none⟩ = some (.slice (some ⟨g, 0, none⟩) xs.length c0) := cell_of_cells hbox3 1
  have hdel := bgdel_any (HA.out.1.rowG.below hb03) hil (by have := HL.out.2.2.2.2.2.2.2.1; rw [List.length_map] at this; omega)
  have hadd := IntWalk.i64_in ((i : Int) + 1) (by have := HL.out.2.2.2.2.2.2.2.1; rw [List.length_map] at this; omega)
  have H3b := Lib.hid (And.intro H3'.1 (And.intro H3'.2.1 (And.intro hb03 hbox3)))
  clear H3' H3 hb03 hbox3 hc11 hz
  generalize hLL : xs.length = L at hc3 hdel hil
  go_upto_region 5 with (
    go_at_call 21; refine hdel.mono ?_; clear hdel; rintro _ w4 ⟨rfl, hrow4, ht4⟩
    have hbox4 := (ht4.block p (lt_of_cells H3b.out.2.2.2) (Ne.symm HL.out.2.2.2.1)).trans H3b.out.2.2.2
    have hc4 : w4.cell? ⟨p, 1, none⟩ = some (.slice (some ⟨g, 0, none⟩) xs.length c0) := cell_of_cells hbox4 1
    have hf4 := free_of_cells hbox4 1
    have H4 := Lib.hid (And.intro hrow4 (And.intro ht4 hbox4))
    clear hrow4 ht4 hbox4)
  have h5 := set_of_cells H4.out.2.2 1 (.slice (some ⟨g, 0, none⟩) (L - 1) c0)
  have ht5 : Turned (fun k => k = p) w4 (w4.setCell ⟨p, 1, none⟩ (.slice (some ⟨g, 0, none⟩) (L - 1) c0)) := (Turned.refl (fun k => k = p) w4).set rfl 1 _
  clear hc3 hc4 hf4
  generalize w4.setCell ⟨p, 1, none⟩ (.slice (some ⟨g, 0, none⟩) (L - 1) c0) = w5 at *
  have hmv5 : w5.heap[w1.heap.size]? = some (.cells MV 31 (0, 0)) := by
    have hlt := lt_of_cells H3b.out.1
    have h1 := HA.out.2.2.2.2.2
    have h2 := HL.out.1.2
    have h3 := HL.out.2.1
    exact ((ht5.block _ (Nat.lt_of_lt_of_le hlt H4.out.2.1.size) (by show ¬ w1.heap.size = p; omega)).trans (H4.out.2.1.block _ hlt (by show ¬ w1.heap.size = g; omega))).trans H3b.out.1
  have hz5 : w5.heap[w.heap.size]? = some (.cells Z0 31 (0, 0)) := by
    have hlt := lt_of_cells H3b.out.2.1
    have h2 := HL.out.1.2
    have h3 := HL.out.2.1
    exact ((ht5.block _ (Nat.lt_of_lt_of_le hlt H4.out.2.1.size) (by show ¬ w.heap.size = p; omega)).trans (H4.out.2.1.block _ hlt (by show ¬ w.heap.size = g; omega))).trans H3b.out.2.1
  have H5 := Lib.hid (And.intro h5 (And.intro ht5 (And.intro hmv5 hz5)))
  clear h5 ht5 hmv5 hz5
  go_wp2_with (first
    | (refine wpList_load_row (by rfl) 31 (.tmp 6) (by rfl) w1.heap.size (by rfl) _ MV (0, 0) _ H5.out.2.2.1 Try.underlying31 (by rfl) HZ.out.2.1 ?_)
    | (refine wpList_store_row (by rfl) 31 (.tmp 4) (.tmp 31) (by rfl) w.heap.size MV (by rfl) (by rfl) 31 Z0 H5.out.2.2.2 HZ.out.2.1 HZ.out.2.2.2.1 HZ.out.2.2.1 ?_))
  have h6 := setRow_at (new := MV) H5.out.2.2.2
  have ht6 : Turned (fun k => k = w.heap.size) w5 (w5.setRow w.heap.size MV) := ⟨rfl, rfl, rfl, by simp, fun b _ hb => setRow_other w5 w.heap.size b _ hb⟩
  generalize w5.setRow w.heap.size MV = w6 at *
  refine bodyPost_ret (bag_results rfl _ _ ⟨w.heap.size, 0, none⟩ (.agg MV) (.bool true) rfl rfl (run_loadVar_row w6 w.heap.size _ 31 MV (0, 0) _ h6 Try.underlying31 rfl HZ.out.2.1)) rfl ?_
  have hbox6 := (ht6.block p (lt_of_cells H5.out.1) (by have := HL.out.1.2; show ¬ p = w.heap.size; omega)).trans H5.out.1
  obtain ⟨hams4, hy4⟩ := (HA.out.1.turned (T := fun _ => False) (Turned.of_below H3b.out.2.2.1) fun _ _ _ _ h => h).take (w' := w4) HA.out.2.2.2.2.1 H4.out.1 H4.out.2.1
  have hams6 := (hams4.turned H5.out.2.1 fun k _ _ h1 h2 => h1 h2).turned ht6 fun k _ h1 _ h2 => by have := h1.1.2; omega
  refine ⟨y.A, y.n, y.c, QX y p g, by rw [HZ.out.2.2.2.2]; rfl, ?_, ⟨_, takeX xs i, (map_takeX xs i).symm, ⟨.inl HL.out.1.1, fun h => h.2.2.1 rfl⟩, hbox6, ?_, ?_⟩, ?_⟩
  · exact ((hy4.turned H5.out.2.1 fun k _ h1 h2 => h1.1.2.2.1 h2).turned ht6 fun k _ h1 h2 => by have := h1.2.2; omega).mono fun _ _ h => h.1
  · rw [← hLL]
    exact hams6.mono fun k _ h => ⟨.inl h.1.1, h.2⟩
  · have h1 := HL.out.2.2.2.2.2
    refine ⟨h1.1, h1.2.1, ?_, fun m hm => h1.2.2.2 m ?_⟩
    · have := h1.2.2.1
      rw [← map_takeX, List.length_map, takeX_len xs HL.out.2.2.2.2.1]
      rw [List.length_map] at this
      omega
    · rw [← map_takeX] at hm
      obtain ⟨z, hz, rfl⟩ := List.mem_map.1 hm
      have hsub : takeX xs i = xs.eraseIdx i := by rw [List.eraseIdx_eq_take_drop_succ]; rfl
      rw [hsub] at hz
      exact List.mem_map_of_mem ((List.eraseIdx_sublist xs i).mem hz)
  · exact (((Turned.of_below H3b.out.2.2.1).trans (H4.out.2.1.mono (T := S) fun k _ h => by rw [h]; exact HL.out.2.2.1) fun _ _ h => h).trans (H5.out.2.1.mono (T := S) fun k _ h => by rw [h]; exact HL.out.1.1) fun _ _ h => h).trans ht6 fun k hk h => by omega
end Go.Proofs.Ytogfblfekedefaa
