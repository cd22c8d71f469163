/-
  The code's bag: Tick.
-/
import Derived.Test.YtogfblfekedefaaBagAge
namespace Go.Proofs.Ytogfblfekedefaa
open Go.RowKit

theorem run_max0 {P : Program} (ts : Array TypeId) (t : TypeId) (x : Int) (w : World) : (Builtin.max_ ts t #[.int .i64 x, .int .i64 0]).run P w = .ok (.int .i64 (x.toNat : Int)) w := by
  have h : (if (0 : Int) > x then (0 : Int) else x) = (x.toNat : Int) := by split <;> omega
  simp only [gt_iff_lt] at h
  simp [Builtin.max_, Builtin.max2, h]
theorem zero_int17 : ∀ W, (zeroValue 3).run Try.prog W = .ok (.int .i64 0) W := fun W => by kernel_rfl
set_option maxHeartbeats 4000000 in
set_option maxRecDepth 100000 in
theorem bgtick_nil (w : World) (most : Int) : Calls Try.prog 14 #[.pointer none, .int .i64 most] w fun e w' => e = .returned (.int .i64 0) ∧ Below w.heap.size w w' := by
  go_enter Try.func14, Try.ntmps14
  go_wp2_with fail
  go_ret
  exact ⟨rfl, Below.refl _ _⟩
def RTi (w1 : World) (S : Nat → Prop) (p c0 : Nat) (A : Option Addr) (xs : List Am) (i : Value) (wr : World) : Prop :=
  ∃ j : Nat, j ≤ xs.length ∧ i = .int .i64 (j : Int) ∧ Ams wr S p (.slice A xs.length c0) (ageJ xs j) ∧ Turned (fun k => (Value.slice A 0 0).ownBlock = some k) w1 wr
set_option maxHeartbeats 16000000 in
set_option maxRecDepth 100000 in
theorem bgtick_any {w : World} {S : Nat → Prop} {p N : Nat} {l : List Bm} (h : Bgs w S p N l) (ha : ∀ m ∈ l, m.a ≤ 1000000) (most : Int) :
    Calls Try.prog 14 #[.pointer (some ⟨p, 0, none⟩), .int .i64 most] w fun e w' => e = .returned (.int .i64 ((l.length : Int) - ((tickB most.toNat l).length : Int))) ∧ Bgs w' (fun k => S k ∨ w.heap.size ≤ k) p N (tickB most.toNat l) ∧ Turned S w w' := by
  obtain ⟨v, xs, rfl, hSp, hbox, hams, hlim⟩ := h.mono (T := fun k => S k ∧ k < w.heap.size) fun k hk h => ⟨h, hk⟩
  clear h
  obtain ⟨A, c0, rfl, _, _⟩ := hams.slice
  obtain ⟨L, hL⟩ : ∃ L, L = xs.length := ⟨_, rfl⟩
  obtain ⟨K, hK⟩ : ∃ K, K = most.toNat := ⟨_, rfl⟩
  have hmx := run_max0 (P := Try.prog) #[3, 3] 3 most
  rw [← hK] at hmx ⊢
  clear hK
  have hc1 : w.cell? ⟨p, 1, none⟩ = some (.slice A L c0) := by rw [hL]; exact cell_of_cells hbox 1
  have hzi := zero_int17
  have hL256 : L ≤ 256 := by have := hlim.2.2.1; rw [List.length_map] at this; omega
  have HH := Lib.hid (And.intro hSp (And.intro hbox (And.intro hams (And.intro hlim (And.intro hL (And.intro ha hL256))))))
  clear hSp hbox hams hlim ha hL hL256
  go_enter Try.func14, Try.ntmps14
  go_upto_region 4 with (simp only [hmx])
  have hb1 : Below w.heap.size w (w.alloc (.cells #[.int .i64 (K : Int)] 3)) := (Below.refl _ _).alloc (Nat.le_refl _) _
  have hq1 := heap_alloc_new w (.cells #[.int .i64 (K : Int)] 3)
  have hs1 : (w.alloc (.cells #[.int .i64 (K : Int)] 3)).heap.size = w.heap.size + 1 := by simp
  have hc11 := (hb1.cell (p := ⟨p, 1, none⟩) HH.out.1.2).trans hc1
  have hbox1 := (hb1.block p HH.out.1.2).trans HH.out.2.1
  have hams1 := HH.out.2.2.1.turned (T := fun _ => False) (Turned.of_below hb1) fun _ _ _ _ h => h
  have H1 := Lib.hid (And.intro hb1 (And.intro hq1 (And.intro hs1 (And.intro hbox1 hams1))))
  clear hmx hc1 hzi hb1 hq1 hs1 hbox1 hams1
  generalize w.alloc (.cells #[.int .i64 (K : Int)] 3) = w1 at *
  go_upto_region 5 with fail
  clear hc11
  go_loopw [22] (fun i wr => RTi w1 (fun k => S k ∧ k < w.heap.size) p c0 A xs i wr) (fun i _ => L - (intOf i).toNat)
  case atStart => exact ⟨0, Nat.zero_le _, rfl, H1.out.2.2.2.2, Turned.refl _ _⟩
  case round =>
    obtain ⟨j, hj, rfl, hams, htt⟩ := hrel
    have hpb : ∀ k, (Value.slice A 0 0).ownBlock = some k → k ≠ p := fun k hk => (HH.out.2.2.1.ob k (by cases A <;> exact hk)).2
    have hboxr := (htt.block p (lt_of_cells H1.out.2.2.2.1) (fun h => hpb p h rfl)).trans H1.out.2.2.2.1
    have hcp : wr.cell? ⟨p, 1, none⟩ = some (.slice A xs.length c0) := cell_of_cells hboxr 1
    rw [← HH.out.2.2.2.2.1] at hcp
    by_cases hlt : j < L
    · have hlt' : (j : Int) < (L : Int) := by omega
      obtain ⟨x, hx⟩ : ∃ x, xs[j]? = some x := ⟨_, List.getElem?_eq_getElem (by have := HH.out.2.2.2.2.1; omega)⟩
      have hax := ageJ_at hx
      have hxa : x.m.a ≤ 1000000 := HH.out.2.2.2.2.2.1 x.m (List.mem_map_of_mem (List.mem_of_getElem? hx))
      rw [show xs.length = (ageJ xs j).length from (ageJ_len xs j).symm] at hams
      obtain ⟨g, c1, hv, _, hgl, _, hgp, ⟨cs, hcs, _⟩, hcl⟩ := hams.at_ hax
      injection hv with hA _ hc
      subst hA hc
      have hca : wr.cell? ⟨g, j * 4 + 3, none⟩ = some (.int .i64 (x.m.a : Int)) := hcl 3 _ rfl
      have hfa := free_of_cells hcs (j * 4 + 3)
      obtain ⟨hams2, ht2⟩ := hams.age hax
      rw [ageJ_len, ← ageJ_succ hx] at hams2
      have hadd := IntWalk.i64_in ((x.m.a : Int) + 1) (by omega)
      have hadd1 := IntWalk.i64_in ((j : Int) + 1) (by have := HH.out.2.2.2.2.2.2; omega)
      have H2 := Lib.hid (And.intro hams2 (And.intro (htt.trans (ht2.mono (T := fun k => (Value.slice (some ⟨g, 0, none⟩) 0 0).ownBlock = some k) fun k _ h => by rw [h]; rfl) fun _ _ h => h) hlt))
      clear hams hams2 ht2 htt hlt hx hax hxa hcs hcl hgl hj hboxr hpb hgp
      generalize x.m.a = a at *
      go_wp2_with fail
      go_roundw
      case rel => exact ⟨j + 1, by have := H2.out.2.2; have := HH.out.2.2.2.2.1; omega, by simp, H2.out.1, H2.out.2.1⟩
      case measure => have := H2.out.2.2; simp only [intOf]; omega
    · have hlt' : ¬ (j : Int) < (L : Int) := by omega
      have hjL : j = xs.length := by have := HH.out.2.2.2.2.1; omega
      rw [hjL, ageJ_all] at hams
      have hown : ∀ k, (Value.slice A 0 0).ownBlock = some k → (S k ∧ k < w.heap.size) ∧ k ≠ p := fun k hk => HH.out.2.2.1.ob k (by cases A <;> exact hk)
      have hqr : wr.heap[w.heap.size]? = some (.cells #[.int .i64 (K : Int)] 3 (0, 0)) := (htt.block _ (lt_of_cells H1.out.2.1) (fun h => by have := (hown _ h).1.2; omega)).trans H1.out.2.1
      have hcq : wr.cell? ⟨w.heap.size, 0, none⟩ = some (.int .i64 (K : Int)) := cell_of_cells hqr 0
      have hfew : (xs.map incX).length ≤ 1000000 := by rw [List.length_map]; have := HH.out.2.2.2.2.1; have := HH.out.2.2.2.2.2.2; omega
      have hdel := bgdelf_any (by rw [List.length_map]) hams hfew hcq (lt_of_cells hqr) (fun h => by have := h.2; omega)
      rw [← HH.out.2.2.2.2.1] at hdel
      unfold oldF at hdel
      have hle : (keepX K (xs.map incX)).length ≤ L := by have := keepX_len K (xs.map incX); rw [List.length_map] at this; have := HH.out.2.2.2.2.1; omega
      have H3 := Lib.hid (And.intro hams (And.intro htt (And.intro hown (And.intro hboxr hle))))
      have hsub := IntWalk.i64_in ((L : Int) - ((keepX K (xs.map incX)).length : Int)) (by have := HH.out.2.2.2.2.2.2; omega)
      clear hams htt hown hqr hcq hfew hj hlt hjL hboxr hpb hle
      generalize hn2 : (keepX K (xs.map incX)).length = n2 at hsub
      have HN := Lib.hid hn2
      clear hn2
      go_upto_region 10 with (
        go_at_call 22; refine hdel.mono ?_; clear hdel; rintro _ w2 ⟨c2, rfl, hown2, ht2⟩
        have hbox2 := (ht2.block p (lt_of_cells H3.out.2.2.2.1) (fun h => (H3.out.2.2.1 p h).2 rfl)).trans H3.out.2.2.2.1
        have hcp2 : w2.cell? ⟨p, 1, none⟩ = some (.slice A xs.length c0) := cell_of_cells hbox2 1
        have hfp2 := free_of_cells hbox2 1
        have H4 := Lib.hid (And.intro hown2 (And.intro ht2 hbox2))
        clear hown2 ht2 hbox2)
      rw [HN.out]
      have h5 := set_of_cells H4.out.2.2 1 (.slice A n2 c2)
      have ht5 : Turned (fun k => k = p) w2 (w2.setCell ⟨p, 1, none⟩ (.slice A n2 c2)) := (Turned.refl (fun k => k = p) w2).set rfl 1 _
      clear hcp2 hfp2 hcp
      generalize w2.setCell ⟨p, 1, none⟩ (.slice A n2 c2) = w3 at *
      have hc3 : w3.cell? ⟨p, 1, none⟩ = some (.slice A n2 c2) := cell_of_cells h5 1
      have hams3 := H3.out.1
      rw [show xs.length = (xs.map incX).length from (List.length_map ..).symm] at hams3
      have hams4 := (hams3.keep H4.out.1 H4.out.2.1).turned ht5 fun k _ _ h1 h2 => h1 h2
      rw [HN.out] at hams4
      have H5 := Lib.hid (And.intro h5 (And.intro ht5 hams4))
      clear h5 ht5 hams3 hams4
      go_wp2_with fail
      go_ret
      have hm : (keepX K (xs.map incX)).map Am.m = tickB K (xs.map Am.m) := keepX_map K xs
      have hml : (tickB K (xs.map Am.m)).length = n2 := by rw [← hm, List.length_map, HN.out]
      refine ⟨?_, ⟨_, _, hm.symm, .inl HH.out.1.1, H5.out.1, H5.out.2.2.mono fun k _ h => .inl h.1, ?_⟩, ?_⟩
      · rw [hml, List.length_map, ← HH.out.2.2.2.2.1]
        rfl
      · have h1 := HH.out.2.2.2.1
        refine ⟨h1.1, h1.2.1, by rw [hml]; have := H3.out.2.2.2.2; have := HN.out; have := HH.out.2.2.2.2.2.2; omega, fun m hm2 => ?_⟩
        unfold tickB at hm2
        obtain ⟨m2, hm3, rfl⟩ := List.mem_map.1 (List.mem_filter.1 hm2).1
        exact h1.2.2.2 m2 hm3
      · exact (((Turned.of_below (S := S) H1.out.1).trans (H3.out.2.1.mono (T := S) fun k _ h => (H3.out.2.2.1 k h).1.1) fun _ _ h => h).trans (H4.out.2.1.mono (T := S) fun k _ h => (H3.out.2.2.1 k h).1.1) fun _ _ h => h).trans (H5.out.2.1.mono (T := S) fun k _ h => by rw [h]; exact HH.out.1.1) fun _ _ h => h
end Go.Proofs.Ytogfblfekedefaa
