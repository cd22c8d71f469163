/-
  The code's bag: Copy.
-/
import Derived.Test.YtogfblfekedefaaBagPut
namespace Go.Proofs.Ytogfblfekedefaa
open Go.RowKit

/-- The i-th message as it lies. -/
theorem Bgs.at_ {w : World} {S : Nat → Prop} {p N : Nat} {l : List Bm} (h : Bgs w S p N l) {i : Nat} {m : Bm} (hm : l[i]? = some m) :
    ∃ (g L c0 n c : Nat) (A : Option Addr), w.cell? ⟨p, 1, none⟩ = some (.slice (some ⟨g, 0, none⟩) L c0) ∧ i < L ∧ L = l.length ∧ Byt w S A n c m.b ∧ (∀ (j : Nat) (u : Value), (mgV m.f m.t A n c)[j]? = some u → w.cell? ⟨g, i * 4 + j, none⟩ = some u) := by
  obtain ⟨v, xs, rfl, _, h3, h4, _⟩ := h
  rw [List.getElem?_map] at hm
  obtain ⟨x, hx, rfl⟩ := Option.map_eq_some_iff.1 hm
  obtain ⟨g, c0, rfl, _, _, _, _, _, hc⟩ := h4.at_ hx
  have hi := (List.getElem?_eq_some_iff.1 hx).1
  refine ⟨g, xs.length, c0, x.n, x.c, x.A, cell_of_cells h3 1, hi, by rw [List.length_map], (h4.byt x (List.mem_of_getElem? hx)).mono fun _ _ h => h.2.1, fun j u hu => hc j u ?_⟩
  have hj : j < 3 := by
    have := (Array.getElem?_eq_some_iff.1 hu).1
    simpa [mgV] using this
  rcases j with _ | _ | _ | j
  · simpa [mgV, amC] using hu
  · simpa [mgV, amC] using hu
  · simpa [mgV, amC] using hu
  · omega
theorem Bgs.bytes {w : World} {S : Nat → Prop} {p N : Nat} {l : List Bm} (h : Bgs w S p N l) {i : Nat} {m : Bm} (hm : l[i]? = some m) : bmay N m ∧ m.b.length ≤ 2097152 := h.may m (List.mem_of_getElem? hm)
theorem putB_of {w : World} {S : Nat → Prop} {p N : Nat} {l : List Bm} (h : Bgs w S p N l) {i : Nat} {m : Bm} (hm : l[i]? = some m) : putB N l m = addM l m := putB_ok (h.bytes hm).1 (h.bytes hm).2
set_option maxHeartbeats 8000000 in
set_option maxRecDepth 100000 in
theorem bgcopy_ok {w : World} {S : Nat → Prop} {p N : Nat} {l : List Bm} (h : Bgs w S p N l) {i : Nat} {x : Bm} (hx : l[i]? = some x) :
    Calls Try.prog 13 #[.pointer (some ⟨p, 0, none⟩), .int .i64 (i : Int)] w fun e w' => e = .returned (.int .i64 (putB N l x).2) ∧ Bgs w' (fun k => S k ∨ w.heap.size ≤ k) p N (putB N l x).1 ∧ Turned S w w' := by
  rw [putB_of h hx]
  obtain ⟨g, L, c0, n, c, A, hc1, hi, hL, hy, hcs⟩ := h.at_ hx
  have hm := h.bytes hx
  have hhas := bghas_c (bglen_c hc1) (i : Int)
  rw [show hasB L (i : Int) = true by unfold hasB; simp; omega] at hhas
  have hadd := bgadd_any h hy x.f x.t x.a hm.1 (by have := hy.len; have := hm.2; omega)
  obtain ⟨MV, hMV⟩ : ∃ MV, MV = mgV x.f x.t A n c := ⟨_, rfl⟩
  have HC := Lib.hid (show (∀ (j : Nat) (v : Value), MV[j]? = some v → w.cell? ((⟨g, i * 4, none⟩ : Addr).add j) = some v) ∧ (Try.prog.info? 31).map (·.size) = some MV.size from
    ⟨fun j v hv => by rw [add_plain]; exact hcs j v (by rw [← hMV]; exact hv), by rw [hMV]; exact mg_info _ _ _ _ _⟩)
  rw [← hMV] at hadd
  clear h hx hm hy hcs hL hMV
  go_enter Try.func13, Try.ntmps13
  go_upto_region 5 with (go_at_call 20; refine hhas.mono ?_; clear hhas; rintro _ _ ⟨rfl, rfl⟩)
  go_wp2_with (first
    | (refine wpList_load_at (by rfl) 31 (.tmp 18) (by rfl) ⟨g, i * 4, none⟩ (by rfl) MV _ HC.out.1 Try.underlying31 (by rfl) HC.out.2 ?_)
    | (go_at_call 19; refine hadd.mono ?_; clear hadd; rintro _ w2 ⟨rfl, hg2, ht2⟩; have H4 := Lib.hid (And.intro hg2 ht2); clear hg2 ht2))
  go_ret
  exact ⟨rfl, H4.out.1, H4.out.2⟩
set_option maxHeartbeats 8000000 in
set_option maxRecDepth 100000 in
theorem bgcopy_no {w : World} {S : Nat → Prop} {p N : Nat} {l : List Bm} (h : Bgs w S p N l) (i : Int) (hi : i < 0 ∨ (l.length : Int) ≤ i) :
    Calls Try.prog 13 #[.pointer (some ⟨p, 0, none⟩), .int .i64 i] w fun e w' => e = .returned (.int .i64 14) ∧ Below w.heap.size w w' := by
  obtain ⟨A, c, hc1⟩ := h.lenc
  have hhas := bghas_c (bglen_c hc1) i
  rw [show hasB l.length i = false by unfold hasB; simp; omega] at hhas
  clear h hi hc1
  go_enter Try.func13, Try.ntmps13
  go_wp2_with (go_at_call 20; refine hhas.mono ?_; clear hhas; rintro _ _ ⟨rfl, rfl⟩)
  go_ret
  exact ⟨rfl, Below.refl _ _⟩
end Go.Proofs.Ytogfblfekedefaa
