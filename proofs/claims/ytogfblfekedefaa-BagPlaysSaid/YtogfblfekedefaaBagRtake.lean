/-
  The reference's Take of a message.
-/
import Derived.Test.YtogfblfekedefaaBagRput
import Derived.Test.YtogfblfekedefaaEffRow
namespace Go.Proofs.Ytogfblfekedefaa
open Go.RowKit

theorem bt_result {fn : Func} {a p u : Tmp} (h : fn.results = #[.tmp a, .cell p 38, .tmp u]) (tmps : Array Value) (w : World) (g : Nat) (cs : Array Value) (hp : tmps.getD p undef = .pointer (some ⟨g, 0, none⟩)) (hg : w.heap[g]? = some (.cells cs 38 (0, 0))) (hs : cs.size = 4) :
    (results fn tmps).run Try.prog w = .ok (.tuple #[tmps.getD a undef, .agg cs, tmps.getD u undef]) w := by
  have hp' : tmps[p]?.getD undef = .pointer (some ⟨g, 0, none⟩) := by simpa using hp
  simp only [results, h]
  simp [Result.andThen, hp', asAddr, run_loadVar_row w g 38 38 cs (0, 0) _ hg Try.underlying38 rfl (by rw [hs]; exact bm_info)]
def bm0 : Array Value := #[.int .i64 0, .int .i64 0, .string ⟨#[]⟩, .int .i64 0]
theorem bm0_one : bm0.all (·.oneCell') = true := by simp [bm0, Value.oneCell']
theorem bm0_info : (Try.prog.info? 38).map (·.size) = some bm0.size := bm_info
theorem bm_built : Try.prog.built 38 [] = some bm0 := by kernel_rfl
section
variable {w : World} {S : Nat → Prop} {A : Option Addr} {n c : Nat} {l : List Bm}
set_option maxHeartbeats 8000000 in
set_option maxRecDepth 100000 in
theorem rbtake_no (_ : Ros 4 bmV w S A n c l) (i : Int) (hi : i < 0 ∨ (n : Int) ≤ i) :
    Calls Try.prog 12 #[.slice A n c, .int .i64 i] w fun e w' => e = .returned (.tuple #[.slice A n c, .agg bm0, .bool false]) ∧ Below w.heap.size w w' := by
  have hz := zero_bm
  rw [show (#[.int .i64 0, .int .i64 0, .string ⟨#[]⟩, .int .i64 0] : Array Value) = bm0 from rfl] at hz
  have hb : Below w.heap.size w ((w.alloc (.cells bm0 38)).setRow w.heap.size bm0) := below_setRow ((Below.refl _ _).alloc (Nat.le_refl _) _) (Nat.le_refl _) _
  have hq : ((w.alloc (.cells bm0 38)).setRow w.heap.size bm0).heap[w.heap.size]? = some (.cells bm0 38 (0, 0)) := setRow_at (heap_alloc_new w _)
  have HB := Lib.hid (And.intro hb hq)
  clear hb hq
  by_cases c1 : i < 0
  · clear hi
    go_enter Try.func12, Try.ntmps12
    go_wp2_with (first
      | (refine wpList_built (by rfl) 38 #[] (by rfl) [] (by simp) bm0 bm_built ?_)
      | (refine wpList_store_row (by rfl) 38 (.tmp 5) (.tmp 18) (by rfl) w.heap.size bm0 (by rfl) (by rfl) 38 bm0 (heap_alloc_new w _) bm0_info rfl bm0_one ?_))
    refine bodyPost_ret (bt_result rfl _ _ w.heap.size bm0 rfl HB.out.2 rfl) rfl ?_
    exact ⟨rfl, HB.out.1⟩
  · have c2 : (n : Int) ≤ i := by omega
    clear hi
    go_enter Try.func12, Try.ntmps12
    go_wp2_with (first
      | (refine wpList_built (by rfl) 38 #[] (by rfl) [] (by simp) bm0 bm_built ?_)
      | (refine wpList_store_row (by rfl) 38 (.tmp 5) (.tmp 18) (by rfl) w.heap.size bm0 (by rfl) (by rfl) 38 bm0 (heap_alloc_new w _) bm0_info rfl bm0_one ?_))
    refine bodyPost_ret (bt_result rfl _ _ w.heap.size bm0 rfl HB.out.2 rfl) rfl ?_
    exact ⟨rfl, HB.out.1⟩
set_option maxHeartbeats 8000000 in
set_option maxRecDepth 100000 in
theorem rbtake_ok (h : Ros 4 bmV w S A n c l) {i : Nat} (hi : i < n) (hn : n ≤ 300) {x : Bm} (hx : l[i]? = some x) :
    Calls Try.prog 12 #[.slice A n c, .int .i64 (i : Int)] w fun e w' => ∃ A' n' c', e = .returned (.tuple #[.slice A' n' c', .agg #[.int .i64 x.f, .int .i64 x.t, .string (st x.b), .int .i64 (x.a : Int)], .bool true]) ∧ Ros 4 bmV w' (w.heap.size ≤ ·) A' n' c' (takeB l i) ∧ Below w.heap.size w w' := by
  have hz := zero_bm
  rw [show (#[.int .i64 0, .int .i64 0, .string ⟨#[]⟩, .int .i64 0] : Array Value) = bm0 from rfl] at hz
  obtain ⟨b, off, y, rfl, _, hbl, hy, hcl⟩ := h.at_ hi
  obtain rfl : y = x := by rw [hx] at hy; injection hy with hy; exact hy.symm
  obtain ⟨XV, hXV⟩ : ∃ XV : Array Value, XV = #[.int .i64 y.f, .int .i64 y.t, .string (st y.b), .int .i64 (y.a : Int)] := ⟨_, rfl⟩
  rw [← hXV]
  have HX : Hid ((Try.prog.info? 38).map (·.size) = some XV.size ∧ bm0.size = XV.size ∧ XV.all (·.oneCell') = true ∧ XV.size = 4) := Lib.hid ⟨by rw [hXV]; exact bm_info, by rw [hXV]; rfl, by rw [hXV]; simp [Value.oneCell'], by rw [hXV]; rfl⟩
  have hc1 : ¬ (i : Int) < 0 := by omega
  have hc2 : ¬ (n : Int) ≤ (i : Int) := by omega
  have hadd := IntWalk.i64_in ((i : Int) + 1) (by omega)
  obtain ⟨w2, hw2⟩ : ∃ w2, w2 = ((w.alloc (.cells bm0 38)).alloc (.cells bm0 38)).setRow (w.heap.size + 1) XV := ⟨_, rfl⟩
  have hal : Below w.heap.size w ((w.alloc (.cells bm0 38)).alloc (.cells bm0 38)) := ((Below.refl _ _).alloc (Nat.le_refl _) _).alloc (by simp) _
  have hq1 := heap_alloc_new (w.alloc (.cells bm0 38)) (.cells bm0 38)
  rw [World.size_alloc] at hq1
  have hq0 : ((w.alloc (.cells bm0 38)).alloc (.cells bm0 38)).heap[w.heap.size]? = some (.cells bm0 38 (0, 0)) := (Below.heap_alloc _ _ _ (by simp)).trans (heap_alloc_new w _)
  have hb2 : Below w.heap.size w w2 := by rw [hw2]; exact below_setRow hal (by omega) _
  have hb20 : w2.heap[w.heap.size]? = some (.cells bm0 38 (0, 0)) := by rw [hw2, setRow_ne _ _ _ _ (by omega)]; exact hq0
  have hb21 : w2.heap[w.heap.size + 1]? = some (.cells XV 38 (0, 0)) := by rw [hw2]; exact setRow_at hq1
  have hto := run_gto (ts := 28) Try.underlying28 bm_sizeOf (some ⟨b, off, none⟩) n c i (by have := h.cap; omega) w2
  obtain ⟨A3, c3, w3, r3, o3, b3⟩ := bm_app (w := w2) (k := []) (v := .slice none 0 0) (B := w2.heap.size) (A := some ⟨b, off, none⟩) (c := c) (l := l.take i) (m := i) (World.ownsRow_nil _ _ _ _) (Nat.le_refl _) (by rw [List.length_take, h.len]; omega) (h.to_ bmV_len (by omega) hb2) (by simp; omega) 28
  rw [List.nil_append, show (l.take i).length = i by rw [List.length_take, h.len]; omega] at r3
  rw [List.nil_append] at o3
  obtain ⟨A4, c4, w4, r4, o4, b4⟩ := bm_app (w := w3.drew) (B := w2.heap.size) (A := cutG 4 (some ⟨b, off, none⟩) c (i + 1)) (c := c - (i + 1)) (l := l.drop (i + 1)) (m := n - (i + 1)) (row_below o3 (below_drew (Below.refl _ _))) b3.size (by rw [List.length_drop, h.len]) (h.from_ bmV_len (by omega) (below_drew (hb2.trans (b3.mono hb2.size)))) (by rw [List.length_take, h.len]; omega) 28
  rw [show (l.take i).length = i by rw [List.length_take, h.len]; omega] at r4
  obtain ⟨n4, hn4⟩ : ∃ n4, n4 = (l.take i ++ l.drop (i + 1)).length := ⟨_, rfl⟩
  obtain ⟨A5, c5, e5, ho4⟩ := own_ros bmV_len o4
  injection e5 with e6 e7 e8
  subst e6 e8
  rw [← hn4] at r4 ho4
  have hb4 := hb2.trans ((b3.trans ((below_drew (Below.refl w2.heap.size w3)).trans b4)).mono hb2.size)
  have hq3 := ((below_drew (b3.mono (Nat.le_refl _))).block _ (lt_of_cells hb21)).trans hb21
  have hq40 := (b4.block _ (Nat.lt_of_lt_of_le (lt_of_cells hb20) (Nat.le_refl _))).trans (((below_drew b3).block _ (lt_of_cells hb20)).trans hb20)
  have hq41 := (b4.block _ (Nat.lt_of_lt_of_le (lt_of_cells hb21) (Nat.le_refl _))).trans hq3
  have HF := Lib.hid (And.intro (ho4.mono (T := (w.heap.size + 1 ≤ ·)) fun k _ hk => by have h1 := hb2.size; have h2 := lt_of_cells hb21; omega) (And.intro hb4 (And.intro hq3 (And.intro hq40 hq41))))
  have HR3 := Lib.hid r3
  have HR4 := Lib.hid r4
  have hcV : ∀ (j : Nat) (v : Value), XV[j]? = some v → (w.alloc (.cells bm0 38)).cell? ((⟨b, off + i * 4, none⟩ : Addr).add j) = some v := fun j v hv => by
    rw [add_plain, World.cell?_of_block (w := w) (a := ⟨b, off + i * 4 + j, none⟩) (Below.heap_alloc _ _ _ hbl)]
    refine hcl j v ?_
    rw [hXV, List.getElem?_toArray] at hv
    exact hv
  have HC := Lib.hid (And.intro hcV hq1)
  have hfr : ∀ W, (Instr.slice 28 (.slice (some ⟨b, off, none⟩) n c) (some (.int .i64 ((i : Int) + 1))) none none).run Try.prog W = .ok (.slice (cutG 4 (some ⟨b, off, none⟩) c (i + 1)) (n - (i + 1)) (c - (i + 1))) W := fun W => by
    have := run_gfrom (ts := 28) Try.underlying28 bm_sizeOf (some ⟨b, off, none⟩) n c (i + 1) (by omega) W
    simpa using this
  obtain ⟨AC, hAC⟩ : ∃ AC, AC = cutG 4 (some ⟨b, off, none⟩) c (i + 1) := ⟨_, rfl⟩
  obtain ⟨NC, hNC⟩ : ∃ NC, NC = n - (i + 1) := ⟨_, rfl⟩
  obtain ⟨CC, hCC⟩ : ∃ CC, CC = c - (i + 1) := ⟨_, rfl⟩
  rw [← hAC, ← hNC, ← hCC] at hfr HR4
  have HFR := Lib.hid hfr
  have HTO := Lib.hid hto
  have HIN := Lib.hid hi
  have hix : (i : Int) < (n : Int) := by omega
  clear r3 r4 o3 o4 b3 b4 hq3 hq40 hq41 hb2 hb20 hb21 hq0 hal hn4 ho4 hb4 hcV hq1 hcl hbl hx hy hn h hAC hNC hCC hfr hto e7 hXV
  go_enter Try.func12, Try.ntmps12
  go_upto_region 4 with (first
    | (refine wpList_load_at (by rfl) 38 (.tmp 21) (by rfl) ⟨b, off + i * 4, none⟩ (by rfl) XV _ HC.out.1 Try.underlying38 (by rfl) HX.out.1 ?_)
    | (refine wpList_store_row (by rfl) 38 (.tmp 7) (.tmp 22) (by rfl) (w.heap.size + 1) XV (by rfl) (by rfl) 38 bm0 HC.out.2 HX.out.1 HX.out.2.1 HX.out.2.2.1 ?_))
  rw [← hw2]
  clear hw2 hz
  have hto := HTO.out
  go_upto_region 6 with (at_builtin; refine wpList_app (by rfl) (.tmp 23) (.tmp 26) 28 (by rfl) (by rfl) (by rfl) HR3.out ?_)
  clear hto
  refine wp_region_plan (fun W => W.heap[w.heap.size + 1]? = some (.cells XV 38 (0, 0))) [([0, 1, 2, 3, 4, 6], 5), ([7], 8)] [9] (by kernel_rfl) (by kernel_rfl) (fun _ _ d _ _ h => by cases d <;> exact h) HF.out.2.2.1 ?_
  generalize w3.drew = wd at *
  refine plan_eff ?_
  refine seg_read ?v1 (by rfl) (by rfl) ?h1 ?_
  case h1 => intro W hW; go_simp; with_reducible rfl
  try simp only [Act.put, List.setIfInBounds_toArray, List.set_cons_zero, List.set_cons_succ]
  refine seg_read ?v2 (by rfl) (by rfl) ?h2 ?_
  case h2 => intro W hW; go_simp; with_reducible rfl
  try simp only [Act.put, List.setIfInBounds_toArray, List.set_cons_zero, List.set_cons_succ]
  refine seg_read ?v3 (by rfl) (by rfl) ?h3 ?_
  case h3 => intro W hW; go_simp; with_reducible rfl
  try simp only [Act.put, List.setIfInBounds_toArray, List.set_cons_zero, List.set_cons_succ]
  refine seg_read ?v4 (by rfl) (by rfl) ?h4 ?_
  case h4 => intro W hW; go_simp; with_reducible rfl
  try simp only [Act.put, List.setIfInBounds_toArray, List.set_cons_zero, List.set_cons_succ]
  refine seg_read ?v5 (by rfl) (by rfl) ?h5 ?_
  case h5 => intro W hW; have hfr := HFR.out W; go_simp; with_reducible rfl
  try simp only [Act.put, List.setIfInBounds_toArray, List.set_cons_zero, List.set_cons_succ]
  refine seg_read (.agg XV) (by rfl) (by rfl) (fun W hW => exec_load_st 38 (.tmp 7) (by rfl) (w.heap.size + 1) (by rfl) XV (0, 0) hW _ Try.underlying38 (by rfl) HX.out.1) ?_
  try simp only [Act.put, List.setIfInBounds_toArray, List.set_cons_zero, List.set_cons_succ]
  refine seg_nil ?_
  refine eff_app (by rfl) (by rfl) (.tmp 28) (.tmp 32) 28 (by rfl) (by rfl) (by rfl) HR4.out ?_
  refine ⟨_, HF.out.2.2.2.2, fun _ h => h, ?_⟩
  try simp only [Act.put, List.setIfInBounds_toArray, List.set_cons_zero, List.set_cons_succ]
  refine plan_eff ?_
  refine seg_read ?v6 (by rfl) (by rfl) ?h6 ?_
  case h6 => intro W hW; go_simp; with_reducible rfl
  try simp only [Act.put, List.setIfInBounds_toArray, List.set_cons_zero, List.set_cons_succ]
  refine seg_nil ?_
  refine eff_store_row (by rfl) (by rfl) 38 (.tmp 5) (.tmp 34) (by rfl) w.heap.size XV (by rfl) (by rfl) 38 bm0 HF.out.2.2.2.1 HX.out.1 HX.out.2.1 HX.out.2.2.1 ?_
  have hq5 : (w4.setRow w.heap.size XV).heap[w.heap.size]? = some (.cells XV 38 (0, 0)) := setRow_at HF.out.2.2.2.1
  have hq6 : (w4.setRow w.heap.size XV).heap[w.heap.size + 1]? = some (.cells XV 38 (0, 0)) := (setRow_ne _ _ _ _ (by omega)).trans HF.out.2.2.2.2
  have HG := Lib.hid (And.intro hq5 (And.intro (HF.out.1.turned (turned_setRow (w := w4) (g := w.heap.size) XV) (fun k _ h1 h2 => by have h3 : k = w.heap.size := h2; omega)) (below_setRow HF.out.2.1 (Nat.le_refl _) XV)))
  clear hq5
  generalize w4.setRow w.heap.size XV = w5 at *
  refine ⟨fun W => W = w5, rfl, fun W hW => by rw [show W = w5 from hW]; exact hq6, ?_⟩
  clear hq6
  try simp only [Act.put]
  refine plan_last ?_
  repeat (refine seg_step (by rfl) (fun K hK => ?_); go_simp; refine hK _ ?_; clear hK K)
  refine seg_nil ?_
  go_wp2_with fail
  refine bodyPost_ret (bt_result rfl _ _ w.heap.size XV rfl HG.out.1 HX.out.2.2.2) rfl ?_
  exact ⟨A4, n4, c4, rfl, HG.out.2.1.mono fun k _ h => by omega, HG.out.2.2⟩
end
end Go.Proofs.Ytogfblfekedefaa
